import PyProof.Rows.All
import Wide.All
import OpenK.AllK
import Wide.FinOn
import Lean
import PyProof.EqAt
import PyProof.EqKinds
import PyProof.TupleCall
import PyProof.NeKinds
import PyProof.NeData
import PySem.Challenge.RW_touchall_k62_pairings_along_strings
import PyProof.Rows.SortRuns
import PyProof.Rows.SortShell
import KE.KSortTup
import PyProof.Rows.SumAny
import PyProof.DictWalks
import PyProof.DictUpdate
import KE.KDictList
import PyProof.AutoSeq1
import PyProof.StationsW
import PyProof.ExcInit
import PyProof.InstStoreFacts
import PyProof.NsDelKeeps
import PyProof.RulesAs
import PyProof.ExcAttrAll.ValueError
import KE.KIsAll
import PyProof.Rows.SetFrom
import PyProof.SetRoads
import PyProof.SetKind
import PyProof.WalksMore
section
open PySem PySem.W PyProof.Rows
set_option Elab.async false
set_option maxRecDepth 100000
set_option maxHeartbeats 0
namespace PySem.W.Fast
theorem tw4895031271857355397:True:=⟨⟩
theorem tw391958665001340776:True:=⟨⟩
theorem tw14781562103584300300:True:=⟨⟩
theorem tw15115611200341931661:True:=⟨⟩
theorem tw4936925503692193262:True:=⟨⟩
theorem tw9877442084512062927:True:=⟨⟩
theorem tw16599119404929089777:True:=⟨⟩
theorem tw3517355941362206802:True:=⟨⟩
theorem tw280475905095942100:True:=⟨⟩
theorem tw17883986908372840214:True:=⟨⟩
theorem tw9627907853633374296:True:=⟨⟩
theorem tw14682848563316377055:True:=⟨⟩
theorem tw14329973467886604983:True:=⟨⟩
theorem tw4614079493074435273:True:=⟨⟩
theorem tw12508225044383264191:True:=⟨⟩
theorem tw7625523903720950802:True:=⟨⟩
theorem tw5729776457698541901:True:=⟨⟩
theorem tw13527872405176336012:True:=⟨⟩
theorem tw5103485604028916769:True:=⟨⟩
theorem tw6521518918535766600:True:=⟨⟩
theorem tw13557064101490781197:True:=⟨⟩
theorem tw4014273260406839204:True:=⟨⟩
theorem tw4419083898468804903:True:=⟨⟩
theorem tw14508702681240927338:True:=⟨⟩
theorem tw17658068361143100475:True:=⟨⟩
theorem tw17594760211624526283:True:=⟨⟩
theorem tw5140643216894729713:True:=⟨⟩
theorem tw12549199338888590937:True:=⟨⟩
theorem tw2882356951737927585:True:=⟨⟩
theorem tw17507916543043632276:True:=⟨⟩
theorem tw9857830821546525648:True:=⟨⟩
theorem tw14566061343962206368:True:=⟨⟩
theorem tw8297966634746096414:True:=⟨⟩
theorem tw6670132038723899214:True:=⟨⟩
theorem tw14172657290863477674:True:=⟨⟩
theorem tw9947724475003619674:True:=⟨⟩
theorem tw17135590481203170121:True:=⟨⟩
theorem tw7482920708577278718:True:=⟨⟩
theorem tw600212407440205806:True:=⟨⟩
theorem tw12145190026016965121:True:=⟨⟩
theorem tw7007092725283629287:True:=⟨⟩
theorem tw530684274474814442:True:=⟨⟩
theorem tw14248016213943530440:True:=⟨⟩
theorem tw6049868058112198784:True:=⟨⟩
theorem tw9197129900319299892:True:=⟨⟩
theorem tw14079483211463739728:True:=⟨⟩
theorem tw13227656411800433115:True:=⟨⟩
theorem tw3202980715671287772:True:=⟨⟩
theorem tw11669262180485523366:True:=⟨⟩
theorem tw6513457511325554244:True:=⟨⟩
theorem tw12964706684179383832:True:=⟨⟩
theorem tw5774174942400694725:True:=⟨⟩
theorem tw15168232015531237972:True:=⟨⟩
theorem tw14229602632353992099:True:=⟨⟩
theorem tw15227233571305852144:True:=⟨⟩
theorem tw3804045619721632138:True:=⟨⟩
theorem tw11207535551202950041:True:=⟨⟩
theorem tw14046072485561619853:True:=⟨⟩
theorem tw4475783039337762679:True:=⟨⟩
theorem tw13422686555198387815:True:=⟨⟩
theorem tw3450192468778676572:True:=⟨⟩
theorem tw4279476487421269338:True:=⟨⟩
theorem tw7596331427218883981:True:=⟨⟩
theorem tw5300736341620111946:True:=⟨⟩
theorem tw6730875953044847916:True:=⟨⟩
theorem tw17164885772072472456:True:=⟨⟩
theorem tw7853399458379906777:True:=⟨⟩
theorem tw12855419698269193786:True:=⟨⟩
theorem tw1104488647094209902:True:=⟨⟩
theorem tw15690650966298527693:True:=⟨⟩
theorem tw13149991164589372472:True:=⟨⟩
theorem tw16556699998316864137:True:=⟨⟩
theorem tw4762995603375477503:True:=⟨⟩
theorem tw2363903611795592705:True:=⟨⟩
theorem tw9466367427336684335:True:=⟨⟩
theorem tw11647574858823915943:True:=⟨⟩
theorem tw8112447074107057508:True:=⟨⟩
theorem tw5954876327221452193:True:=⟨⟩
theorem tw6639290469552472542:True:=⟨⟩
theorem tw850951039455432525:True:=⟨⟩
theorem tw13651674943635200488:True:=⟨⟩
theorem tw16134669214637943945:True:=⟨⟩
theorem tw9016929935483840578:True:=⟨⟩
theorem tw3902602399963370953:True:=⟨⟩
theorem tw14982153563136074336:True:=⟨⟩
theorem tw17748391171391791682:True:=⟨⟩
theorem tw7129484964119345133:True:=⟨⟩
theorem tw15500006721023040547:True:=⟨⟩
theorem tw12992367483169920845:True:=⟨⟩
theorem tw18384717997926329468:True:=⟨⟩
theorem tw14978731467003240592:True:=⟨⟩
theorem tw12933365590964484303:True:=⟨⟩
theorem tw10606784113705308633:True:=⟨⟩
theorem tw13777678184960627923:True:=⟨⟩
theorem tw15583159890976612112:True:=⟨⟩
theorem tw14640572693217546273:True:=⟨⟩
theorem tw3436040953348231904:True:=⟨⟩
theorem tw9748736633980905991:True:=⟨⟩
theorem tw7776265952824830946:True:=⟨⟩
theorem tw17899455434026235383:True:=⟨⟩
theorem tw13151865297690540629:True:=⟨⟩
theorem tw16731634629222179199:True:=⟨⟩
theorem tw1104458783644820503:True:=⟨⟩
theorem tw3768600909522892029:True:=⟨⟩
theorem tw2299995472670780312:True:=⟨⟩
theorem tw3173564464523249195:True:=⟨⟩
theorem tw6733287294774218101:True:=⟨⟩
theorem tw17953295521274581375:True:=⟨⟩
theorem tw5741868628440793479:True:=⟨⟩
theorem tw1092231837839737871:True:=⟨⟩
theorem tw2932883342372343814:True:=⟨⟩
theorem tw4069687752174603861:True:=⟨⟩
theorem tw9643090989392201812:True:=⟨⟩
theorem tw1946033789281374818:True:=⟨⟩
theorem tw12653114381597422123:True:=⟨⟩
theorem tw17001195906241442773:True:=⟨⟩
theorem tw760989484626043395:True:=⟨⟩
theorem tw5099301408519554050:True:=⟨⟩
theorem tw9000492280638625789:True:=⟨⟩
theorem tw5860442181038395455:True:=⟨⟩
theorem tw11867328985658093342:True:=⟨⟩
theorem tw1748003047606840153:True:=⟨⟩
theorem tw7232841066116858783:True:=⟨⟩
theorem tw4040663737483218468:True:=⟨⟩
theorem tw577511202878901248:True:=⟨⟩
theorem tw2374692894874826008:True:=⟨⟩
theorem tw12306747795182409104:True:=⟨⟩
theorem tw17784476363750532300:True:=⟨⟩
theorem tw12838189731587688999:True:=⟨⟩
theorem tw12084875070278405943:True:=⟨⟩
theorem tw17982551050898188252:True:=⟨⟩
theorem tw3778727204222080899:True:=⟨⟩
theorem tw14483856630567087015:True:=⟨⟩
theorem tw6014219777646665041:True:=⟨⟩
theorem tw11435906062788071858:True:=⟨⟩
theorem tw787864133665795934:True:=⟨⟩
theorem tw9578137325174995177:True:=⟨⟩
theorem tw18368650237389215793:True:=⟨⟩
theorem tw16621345285488354935:True:=⟨⟩
theorem tw8706593751649875096:True:=⟨⟩
theorem tw13990930123094078712:True:=⟨⟩
theorem tw7552589387619456655:True:=⟨⟩
theorem tw11674071771355242830:True:=⟨⟩
theorem tw2812415958408709537:True:=⟨⟩
theorem tw2602146445750235360:True:=⟨⟩
theorem tw4128578146920847476:True:=⟨⟩
theorem tw3386007157573418628:True:=⟨⟩
theorem tw14756317111538670632:True:=⟨⟩
theorem tw360715681367275602:True:=⟨⟩
theorem tw12010976375034376571:True:=⟨⟩
theorem tw11247763399507659385:True:=⟨⟩
theorem tw15514634696500728796:True:=⟨⟩
theorem tw7492884703717757881:True:=⟨⟩
theorem tw16435145116260540403:True:=⟨⟩
theorem tw8802154206927592950:True:=⟨⟩
theorem tw11033941645859556090:True:=⟨⟩
theorem tw885371844316833120:True:=⟨⟩
theorem tw163361006696384501:True:=⟨⟩
theorem tw10340114976711878602:True:=⟨⟩
theorem tw5202776660221476824:True:=⟨⟩
theorem tw7514863291714595196:True:=⟨⟩
theorem tw1204304298147611602:True:=⟨⟩
theorem tw15240104693518809320:True:=⟨⟩
theorem tw4463166748007049108:True:=⟨⟩
theorem tw6080368645660506305:True:=⟨⟩
theorem tw17341298701788093120:True:=⟨⟩
theorem tw12274256780947587003:True:=⟨⟩
theorem tw15118457964073289629:True:=⟨⟩
theorem tw13810174693335883931:True:=⟨⟩
theorem tw14826031857019004941:True:=⟨⟩
theorem tw15871576022070521126:True:=⟨⟩
theorem tw1412105097100734851:True:=⟨⟩
theorem tw15377678365041130219:True:=⟨⟩
theorem tw12328668147688059386:True:=⟨⟩
theorem tw1459643596898847606:True:=⟨⟩
theorem tw12262444746191023002:True:=⟨⟩
theorem tw6834151149484527781:True:=⟨⟩
theorem tw3800639849958628416:True:=⟨⟩
theorem tw18281609995975707841:True:=⟨⟩
theorem tw18034349319857144288:True:=⟨⟩
theorem tw1349069014647357223:True:=⟨⟩
theorem tw9990162211652564711:True:=⟨⟩
theorem tw9762787882097571856:True:=⟨⟩
theorem tw9622471659420483719:True:=⟨⟩
theorem tw895549414950198869:True:=⟨⟩
theorem tw8549602738571025238:True:=⟨⟩
theorem tw7851787535860571123:True:=⟨⟩
theorem tw7698447048043514017:True:=⟨⟩
theorem tw6584695149455985699:True:=⟨⟩
theorem tw648145590827737737:True:=⟨⟩
theorem tw6099802976542961457:True:=⟨⟩
theorem tw4421343633076843811:True:=⟨⟩
theorem tw18320896753210491444:True:=⟨⟩
theorem tw17948796234568494333:True:=⟨⟩
theorem tw17457086080872000736:True:=⟨⟩
theorem tw1726813977947389158:True:=⟨⟩
theorem tw10485983645851997345:True:=⟨⟩
theorem tw11550877504187698619:True:=⟨⟩
theorem tw9482120283554068594:True:=⟨⟩
theorem tw6542929942557814982:True:=⟨⟩
theorem tw6512370430324665260:True:=⟨⟩
end PySem.W.Fast
open_top MyHead for PySem.Challenge.rw_touchall_k62_pairings_along_strings
end
-- CHANGE: your row's module here, as the last of these rows
noncomputable section
def aa:=@PySem.wpAny_bind
def ae:=@List.length_map
def af:=@PySem.Heap.get?_push_of_some
def ag:=@List.getElem?_eq_some_iff
def ah:=@List.map_append
def aj:=@List.size_toArray
def ak:=@PySem.wpAny_pure
def ao:=@List.mem_of_getElem?
def aq:=@List.map_cons
def au:=@if_neg
def av:=@Nat.le_refl
def aw:=@if_pos
def ay:=@List.mem_cons_of_mem
def az:=@decide_eq_true
def aA:=@List.getElem?_map
def aB:=@List.mem_map
def aC:=@decide_eq_false
def aD:=@Nat.lt_of_succ_lt
def aE:=@PySem.Heap.lt_size
def aF:=@PySem.Heap.get?_push_size
def aG:=@List.mem_singleton
def aH:=@List.length_append
def aI:=@List.getD_eq_getElem?_getD
def aJ:=@List.mem_cons_self
def aK:=@Bool.false_eq_true
def aO:=@Option.some.inj
def aP:=@PySem.Paired.length
def aQ:=@List.mem_append
def aR:=@List.mem_cons
def aS:=@List.mem_iff_getElem
def aU:=@Nat.ne_of_lt
def aV:=@List.mem_range
def aW:=@List.length_take
def aX:=@List.take_length
def aY:=@PySem.F.plain_min_loop
def aZ:=@PySem.F.plainAttrs_list
def bf:=@PySem.Heap.get?_update_other
def bh:=@List.mem_map_of_mem
def bj:=@Bool.false_ne_true
def bo:=@PySem.PassesOwn.never
def bp:=@List.mem_append_right
def bq:=@PySem.F.type_list_append
def br:=@PySem.F.slot_list_append
def bt:=@List.append_nil
def bu:=@List.append_assoc
def bw:=@Nat.lt_of_lt_of_le
def bx:=@List.mem_append_left
def bz:=@Nat.le_trans
def bA:=@PySem.W.mg_none_of
def bB:=@List.nodup_cons
def bC:=@List.length_range
def bD:=@List.getElem?_eq_none
def bE:=@Int.le_refl
def bF:=@List.range_succ
def bG:=@List.map_map
def bH:=@List.getElem?_append_left
def bI:=@Nat.zero_le
def bJ:=@PySem.wpAny_seqItems
def bK:=@of_decide_eq_true
def bL:=@List.pairwise_map
def bM:=@List.nodup_append
def bN:=@Option.map_eq_some_iff
def bO:=@PySem.Around.under_plainId
def bP:=@PySem.boot_len
def bQ:=@List.perm_append_comm
def bR:=@List.length_filter_le
def bS:=@PySem.Heap.get?_update_self
def bU:=@beq_eq_false_iff_ne
def bV:=@PyProof.Rows.boot_isinstance
def bX:=@decide_eq_true_eq
def bY:=@congrArg
def bZ:=@List.pairwise_append
def cg:=@PySem.wpAny_holding
def cj:=@PyProof.Rows.boot_sorted
def ck:=@PyProof.Rows.wpS_bind
def cq:=@List.map_nil
def cu:=@List.sum_append
def cv:=@List.mem_filter
def cw:=@Nat.lt_irrefl
def cx:=@PySem.codeAny_builtin
def cy:=@PySem.plainId_quiet
def cz:=@PyProof.Rows.callWith_type1
def cA:=@List.getElem?_append_right
def cB:=@PySem.F.entry_min_loop
def cC:=@PySem.mem_of_lookup
def cD:=@Nat.lt_succ_of_lt
def cE:=@PySem.wpAny_tryCatch
def cF:=@PySem.W.kia_one
def cG:=@Ne.symm
def cH:=@PySem.wpAny_field
def cI:=@Sum.inl.inj
def cJ:=@PySem.wpAny_truthy_bool
def cK:=@PySem.wpAny_newObj_type
def cL:=@Classical.byContradiction
def cM:=@PyProof.Rows.wpS_pure
def cN:=@PyProof.Rows.boot_min
def cO:=@Array.getElem?_toList
def cP:=@PySem.wpAny_Call_Name_kw
def cQ:=@List.filter_cons
def cR:=@Bool.and_eq_true
def cS:=@Option.some.injEq
def cT:=@PySem.W.mg_of
def cU:=@List.length_drop
def cV:=@PySem.wpAny_mono
def cW:=@List.mem_iff_getElem?
def cX:=@List.pairwise_iff_getElem
def cY:=@PySem.wpAny_updateSeq
def cZ:=@PySem.wpAny_letGo
def c0:=@decide_true
def c5:=@Nat.le_succ
def c6:=@Nat.lt_succ_iff_lt_or_eq
def c7:=@List.Pairwise.imp_of_mem
def c8:=@Bool.not_true
def c9:=@List.getElem?_range
def da:=@PySem.wpAny_call_entry
def de:=@PySem.wpAny_callSpecial?_slot
def df:=@List.getElem_mem
def dg:=@PySem.wpAny_setField_rec
def di:=@PyProof.Rows.boot_list
def dq:=@List.filter_append
def dr:=@PySem.Calls.callWith_builtin
def dt:=@PySem.wpAny_passesOwn
def du:=@Nat.le_of_ble_eq_true
def dw:=@PySem.wpAny_pyIter_list
def dy:=@PySem.Heap.size_push
def dA:=@PySem.F.slot_tuple_iterator_next
def dC:=@PySem.wpAny_eqBool_int
def dD:=@decide_false
def dE:=@decide_eq_decide
def dF:=@beq_self_eq_true
def dG:=@Nat.ne_of_gt
def dH:=@PySem.F.called_set
def dJ:=@List.map_congr_left
def dM:=@List.length_pos_iff
def dO:=@PySem.wpAny_newList
def dP:=@List.filterMap_cons_some
def dQ:=@PySem.F.slot_list_getattribute
def dU:=@Bool.eq_iff_iff
def dW:=@PySem.tupleKind_room_in1
def dX:=@List.pairwise_cons
def dY:=@List.filterMap_map
def dZ:=@Int.emod_lt_of_pos
def eA:=@PySem.Calls.spliced_cons
def eD:=@decide_eq_false_iff_not
def eF:=@PySem.wpAny_setState_of
def eG:=@PyProof.Rows.boot_dict
def eI:=@List.take_sublist
def eJ:=@List.take_of_length_le
def eK:=@List.nodup_nil
def eL:=@List.ext_getElem?
def eN:=@Bool.not_false
def eO:=@PyProof.Rows.slot_tuple_getitem
def eP:=@List.Perm.append_left
def eQ:=@PySem.wpAny_rule
def eS:=@PyProof.Rows.size_push'
def eU:=@PySem.W.kat_cons
def eV:=@Nat.succ_ne_self
def eX:=@Int.min_eq_right
def eY:=@Int.max_eq_right
def eZ:=@PySem.W.kat_yes
def e9:=@List.length_set
def fc:=@Int.min_eq_left
def fe:=@Int.max_eq_left
def ff:=@Int.emod_nonneg
def fg:=@List.length_reverse
def fh:=@PySem.Heap.SameBut.update
def fi:=@PyProof.Rows.wpS_forRange
def fj:=@PySem.codeAny_mono
def fk:=@Nat.le_of_lt
def fm:=@Int.add_zero
def fo:=@PySem.wpAny_pyIter_tuple
def fq:=@PySem.W.kat_no
def fv:=@Bool.and_false
def fw:=@Array.getElem?_eq_getElem
def fD:=@PySem.wpAny_of_eq
def fE:=@PySem.slot_list_getitem
def fF:=@PySem.sizeLine_eq
def fG:=@PySem.F.plain_min
def fH:=@PySem.F.entry_min
def fJ:=@Option.isSome_map
def fK:=@List.reverse_cons
def fL:=@Int.mul_add
def fM:=@PySem.Calls.spliced_nil
def fN:=@PySem.wpAny_getItem_list_slice
def fO:=@Option.isSome_iff_exists
def fP:=@List.length_erase_of_mem
def fQ:=@PySem.wpAny_forIn_list
def fS:=@PySem.F.plainAttrs_dict
def fT:=@PySem.F.kind_min
def fU:=@Nat.lt_succ_self
def fV:=@Nat.le_add_right
def fW:=@List.getElem_inj
def fX:=@PyProof.Rows.F.plain_set_update_loop
def fY:=@PySem.wpAny_typeOf
def fZ:=@PySem.wpAny_pyNext_list_item
def gb:=@PyProof.Rows.pairsOf_size
def gc:=@Nat.zero_add
def gf:=@List.length_pos_of_mem
def gg:=@Int.le_total
def gh:=@Int.le_of_lt
def gj:=@PySem.wpAny_execs_nil
def gm:=@Nat.not_lt_zero
def gn:=@PySem.F.slot_zip_next
def gp:=@PySem.wpAny_pyNext_list_end
def gq:=@PySem.F.slot_dict_get
def gr:=@PyProof.Rows.boot_int
def gu:=@List.take_append_drop
def gv:=@List.getElem?_reverse
def gw:=@PySem.wpAny_updateSeq_pair
def gx:=@List.mem_of_mem_take
def gy:=@List.mem_erase_of_ne
def gz:=@PySem.Calls.evalArgs_plain
def gB:=@Array.size_map
def gC:=@Array.mem_toList_iff
def gD:=@PySem.putSet_of
def gF:=@PySem.W.plainGet_of
def gG:=@List.flatMap_append
def gH:=@PySem.wpAny_standAt
def gI:=@PySem.wpAny_onRaise
def gJ:=@PySem.wpAny_attempt
def gK:=@List.map_take
def gM:=@PySem.call_function_tree
def gN:=@beq_iff_eq
def gO:=@PyProof.Rows.Subscript_
def gP:=@PySem.W.callWith_K
def gQ:=@Nat.lt_of_le_of_lt
def gR:=@Nat.add_right_comm
def gS:=@Int.natCast_nonneg
def gT:=@PySem.Heap.IsSliceOf.new
def gU:=@PySem.call_meetsIn
def gW:=@bne_self_eq_false
def gX:=@Nat.lt_trichotomy
def gY:=@Nat.le_of_lt_succ
def gZ:=@Int.le_trans
def g6:=@PySem.wpAny_isInstance
def g9:=@PyProof.Rows.callWith_builtin1
def hG:=@List.nodup_range
def hJ:=@Int.mul_le_mul_of_nonneg_right
def hU:=@PySem.seqIndex_of
def hV:=@PyProof.Rows.mirror_perm
def hX:=@List.take_append_of_le_length
def hZ:=@Int.mul_one
def h9:=@Int.mul_le_mul_of_nonneg_left
def ic:=@PySem.SeqAt.EqAt.same
def ie:=@PySem.W.kat_one
def ig:=@List.of_mem_zip
def ij:=@List.forIn_cons
def ik:=@PySem.F.args_tuple_iterator_next_1
def ip:=@PySem.F.entry_tuple_iterator_next
def iq:=@Array.getD_eq_getD_getElem?
def ir:=@PyProof.Rows.pairsOf_toList
def iu:=@PySem.call_meets
def iw:=@Prod.ext
def ix:=@List.Perm.refl
def iy:=@Int.fdiv_eq_ediv_of_nonneg
def iz:=@PySem.Calls.Name_function_global
def iA:=@Array.perm_iff_toList_perm
def iB:=@Array.getElem?_eq_some_iff
set_option Elab.async false
set_option linter.all false
set_option maxRecDepth 100000
theorem gE{α:Type}{l:List α}{i:Nat}(h:i<l.length):l[i]? =some l[i]:=List.getElem?_eq_getElem h
namespace L2
open PySem PySem.Spec PyProof.Rows
abbrev iE:=Sum Int Str
def mL:iE->Value->Bool
 | .inl k,v=>Value.isInt k v
 | .inr x,v=>Value.isStrOf x v
def DW(w:World):iE->Int
 | .inl k=>hashInt k
 | .inr x=>hashStr w x
theorem lM:∀{k:iE} {v:Value},mL k v=true->(∃i t,k=Sum.inl i/\v=Value.int i t)\/(∃x t,k=Sum.inr x/\v=Value.str x t)
 | .inl i,v,h=>by
  obtain⟨t,e⟩:=Value.isInt_shape (k:=i) (v:=v) h
  exact .inl ⟨i,t,rfl,e⟩
 | .inr x,v,h=>by
  obtain⟨t,e⟩:=Value.isStrOf_shape (x:=x) (v:=v) h
  exact .inr ⟨x,t,rfl,e⟩
theorem Gd(i:Int)(t:Tok):mL (.inl i) (.int i t)=true:=by simp[mL,Value.isInt]
theorem Ge(x:Str)(t:Tok):mL (.inr x) (.str x t)=true:=by simp[mL,Value.isStrOf]
theorem DV(a b:Int):decide ((Sum.inl a:iE)=Sum.inl b)=(a==b):=by
 by_cases e:a=b
 ·subst e;simp
 ·have h:¬(Sum.inl a:iE)=Sum.inl b:=fun q=>e (cI q)
  rw[aC h]
  exact(bU.mpr e).symm
theorem DS(a b:Str):decide ((Sum.inr a:iE)=Sum.inr b)=decide (a=b):=by
 by_cases e:a=b
 ·subst e;simp
 ·have h:¬(Sum.inr a:iE)=Sum.inr b:=fun q=>e (Sum.inr.inj q)
  rw[aC h,aC e]
theorem DU(a:Int)(b:Str):decide ((Sum.inl a:iE)=Sum.inr b)=false:=aC (fun q=>nomatch q)
theorem DT(a:Str)(b:Int):decide ((Sum.inr a:iE)=Sum.inl b)=false:=aC (fun q=>nomatch q)
def jR(prog:Program)(w:World):PySem.KeyKind prog w iE where
 is:=mL
 hash:=DW w
 inj:=fun v a b ha hb=>by
  rcases lM ha with⟨i,t,rfl,rfl⟩|⟨x,t,rfl,rfl⟩
  ·rcases lM hb with⟨j,u,rfl,e⟩|⟨y,u,rfl,e⟩
   ·injection e with e1 _;rw[e1]
   ·exact nomatch e
  ·rcases lM hb with⟨j,u,rfl,e⟩|⟨y,u,rfl,e⟩
   ·exact nomatch e
   ·injection e with e1 _;rw[e1]
 byValue:=fun k v h=>by
  rcases lM h with⟨i,t,rfl,rfl⟩|⟨x,t,rfl,rfl⟩<;>rfl
 pyHash:=fun hv h=>by
  rcases lM hv with⟨i,t,rfl,rfl⟩|⟨x,t,rfl,rfl⟩
  ·exact wpAny_pyHash_int h
  ·exact wpAny_pyHash_str h
 eqBool:=fun hu hv h=>by
  rcases lM hu with⟨i,t,rfl,rfl⟩|⟨x,t,rfl,rfl⟩
  ·rcases lM hv with⟨j,u,rfl,rfl⟩|⟨y,u,rfl,rfl⟩
   ·rw[DV]at h;exact dC h
   ·rw[DU]at h;exact SeqAt.EqAt.int_str i t y u _ _ _ _ h
  ·rcases lM hv with⟨j,u,rfl,rfl⟩|⟨y,u,rfl,rfl⟩
   ·rw[DT]at h;exact SeqAt.EqAt.str_int x t j u _ _ _ _ h
   ·rw[DS]at h;exact wpAny_eqBool_str h
 «strs»:=fun k x t v h=>by
  rcases lM h with⟨i,u,rfl,e⟩|⟨y,u,rfl,e⟩
  ·exact nomatch e
  ·injection e with e1 _
   subst e1
   cases v<;>rfl
theorem Hv(prog:Program)(w:World)(i:Int)(t:Tok):(jR prog w).is (.inl i) (.int i t)=true:=Gd i t
theorem Hw(prog:Program)(w:World)(x:Str)(t:Tok):(jR prog w).is (.inr x) (.str x t)=true:=Ge x t
inductive V where
 |non|bl (b:Bool)|int (i:Int)|str (x:Str)|byt (b:Array UInt8)|flt (b:UInt64)|ref (a:Addr)|ty (n:String)
 deriving DecidableEq
def RelV:V->Value->Prop
 | .non,u=>u=Value.none
 | .bl b,u=>u=Value.bool b
 | .int i,u=>∃t,u=Value.int i t
 | .str x,u=>∃t,u=Value.str x t
 | .byt b,u=>∃t,u=Value.bytes b t
 | .flt b,u=>∃t,u=Value.float b t
 | .ref a,u=>u=Value.ref a
 | .ty n,u=>u=Value.type n
abbrev Vals:List V->List Value->Prop:=Paired RelV
theorem Vals.length{xs:List V}{us:List Value}(r:Vals xs us):xs.length=us.length:=aP r
theorem Vals.get:∀{xs:List V} {us:List Value} {i:Nat} {x:V},Vals xs us->xs[i]? =some x->∃u,us[i]? =some u/\RelV x u
 |_,_,_,_,.nil,e=>by simp at e
 |_,_,0,_,.cons r _,e=>by simp at e;subst e;exact⟨_,rfl,r⟩
 |_,_,i+1,x,.cons _ t,e=>by
  obtain⟨u,h1,h2⟩:=Vals.get (i:=i) (x:=x) t (by simpa using e)
  exact⟨u,by simpa using h1,h2⟩
theorem Vals.set{x:V}{u:Value}(r:RelV x u):∀{xs:List V} {us:List Value} (i:Nat),Vals xs us->Vals (xs.set i x) (us.set i u)
 |_,_,_,.nil=>.nil
 |_,_,0,.cons _ t=>.cons r t
 |_,_,i+1,.cons q t=>.cons q (Vals.set r i t)
theorem Vals.append:∀{xs ys:List V} {us ws:List Value},Vals xs us->Vals ys ws->Vals (xs++ys) (us++ws)
 |_,_,_,_,.nil,s=>s
 |_,_,_,_,.cons r t,s=>.cons r (Vals.append t s)
theorem Vals.take:∀{xs:List V} {us:List Value} (n:Nat),Vals xs us->Vals (xs.take n) (us.take n)
 |_,_,0,_=>.nil
 |_,_,_+1,.nil=>.nil
 |_,_,n+1,.cons r t=>.cons r (Vals.take n t)
theorem Vals.drop:∀{xs:List V} {us:List Value} (n:Nat),Vals xs us->Vals (xs.drop n) (us.drop n)
 |_,_,0,r=>r
 |_,_,_+1,.nil=>.nil
 |_,_,n+1,.cons _ t=>Vals.drop n t
def RelO:Option V->Option Value->Prop
 |some v,some u=>RelV v u
 |none,none=>True
 |_,_=>False
def KV{κ:Type}:List (κ×V)->List (κ×Value)->Prop:=Paired fun(p:κ×V) (q:κ×Value)=>p.1=q.1/\RelV p.2 q.2
def kV:iE->V
 | .inl i=>.int i
 | .inr x=>.str x
inductive HO where
 |lst (xs:List V)
 |tup (xs:List V)
 |dK (kvs:List (iE×V))|dT (kvs:List (List iE×V))
 |set (S:Int->Bool) (n:Nat)
 |ins (C dx:Addr) (fs:List (Str×V))
 |own (x:Addr)
 |xd (fs:List (Str×V))
 |met (f x:Addr)
 |rng (lo hi:Int)
 |frz (o:Obj) (u:HO)
 |tbl (ps:Array Value)
 |ext (φ:Heap->Prop)
abbrev Hp:=Addr->Option HO
def upd(H:Hp)(a:Addr)(o:HO):Hp:=fun b=>if b=a then some o else H b
theorem iF{H:Hp}{a:Addr}{o:HO}:upd H a o a=some o:=by unfold upd;rw[aw rfl]
theorem iJ{H:Hp}{a b:Addr}{o:HO}(h:b≠a):upd H a o b=H b:=by unfold upd;rw[au h]
theorem rM{H:Hp}{a:Addr}{o u:HO}:upd (upd H a o) a u=upd H a u:=by
 funext b;unfold upd;split<;>rfl
theorem mh{H:Hp}{a b:Addr}{o u:HO}(h:H a=some o)(h':H b=some u)(d:o≠u):a≠b:=by
 intro e;subst e;rw[h]at h';exact d (aO h')
theorem iU{H:Hp}{a b:Addr}{o:HO}(h:H a=some o)(h':H b=none):a≠b:=by
 intro e;subst e;rw[h]at h';cases h'
section
variable(P:Program)(w:World)
def jbf(H:Hp)(h:Heap)(a:Addr):HO->Prop
 | .lst xs=>xs.length<=sizeLine/\∃(its:List Value) (n:Nat),Vals xs its/\h.get? a=some {cls:=.type "list",data:=.seq its.toArray n}
 | .tup xs=>xs.length<=sizeLine/\∃its:List Value,Vals xs its/\IsTup h a its.toArray
 | .dK kvs=>kvs.length<=sizeLine/\(a==sysModules)=false/\∃vs,KV kvs vs/\h.DictOf (jR P w) a vs
 | .dT kvs=>kvs.length<=sizeLine/\(a==sysModules)=false/\∃xs:List (List iE×Addr×Value),
   Paired (fun(p:List iE×V) (q:List iE×Addr×Value)=>p.1=q.1/\H q.2.1=some (.tup (p.1.map kV))/\RelV p.2 q.2.2) kvs xs/\
   ∃o es ep,h.get? a=some o/\o.ExactDict/\o.data= .dict es ep/\es.toList=xs.map (entryOfKey (tupleKind (jR P w)))/\(xs.map (·.1)).Nodup
 | .set S n=>h.SetOf (intKind P w) a S n
 | .ins C dx fs=>H dx=some (.own a)/\fs.length<=1000/\dx≠a/\h.get? a=some (PySem.W.instObj C dx)/\
   ∃mA,h.Ns1 dx mA/\(∀f,RelO (fs.lookup f) (mA f))/\PySem.Within mA (fs.map (·.1))
 | .own _=>∃o,h.get? a=some o
 | .xd fs=>∃mA,h.Ns1 a mA/\∀f,RelO (fs.lookup f) (mA f)
 | .rng lo hi=>∃t u v,h.get? a=some {cls:=.type "range",data:=.fields #[.int lo t,.int hi u,.int 1 v]}
 | .frz o u=>h.get? a=some o/\jbf H h a u
 | .tbl ps=>h.get? a=some {cls:=.none,data:=.fields ps}
 | .met f x=>h.get? a=some (PySem.W.methodObj (.ref f) (.ref x))
 | .ext φ=>φ h/\(∃o,h.get? a=some o)/\∀h1 h2:Heap,φ h1->(∀o,h1.get? a=some o->h2.get? a=some o)->φ h2
def HOk(H:Hp)(h:Heap):Prop:=∀a o,H a=some o->jbf P w H h a o
end
section
variable{P:Program}{w:World}{H H':Hp}{h h':Heap}{a:Addr}{o:HO}
theorem jbf.lt(x:jbf P w H h a o):a<h.objs.size:=by
 cases o with
 |lst xs=>obtain⟨_,_,_,_,e⟩:=x;exact aE e
 |tup xs=>obtain⟨_,_,_,p⟩:=x;exact p.lt
 |dK kvs=>obtain⟨_,_,_,_,o,_,_,e,_⟩:=x;exact aE e
 |dT kvs=>obtain⟨_,_,_,_,o,_,_,e,_⟩:=x;exact aE e
 |set S n=>obtain⟨o,_,_,_,e,_⟩:=x;exact aE e
 |ins C dx fs=>obtain⟨_,_,_,e,_⟩:=x;exact aE e
 |own y=>obtain⟨_,e⟩:=x;exact aE e
 |xd fs=>obtain⟨_,⟨_,_,_,e,_⟩,_⟩:=x;exact aE e
 |rng lo hi=>obtain⟨_,_,_,e⟩:=x;exact aE e
 |frz ob u=>obtain⟨e,_⟩:=x;exact aE e
 |tbl ps=>exact aE (show h.get? a=some _ from x)
 |met f y=>exact aE (show h.get? a=some _ from x)
 |ext φ=>obtain⟨_,⟨_,e⟩,_⟩:=x;exact aE e
theorem Paired.mapP{α β:Type}{F G:α->β->Prop}:∀{l₁:List α} {l₂:List β},Paired F l₁ l₂->(∀a b,F a b->G a b)->Paired G l₁ l₂
 |_,_,.nil,_=>.nil
 |_,_,.cons r t,f=>.cons (f _ _ r) (Paired.mapP t f)
theorem Paired.imp'{α β:Type}{F G:α->β->Prop}(f:∀a b,F a b->G a b){l₁:List α}{l₂:List β}(r:Paired F l₁ l₂):Paired G l₁ l₂:=Paired.mapP r f
theorem jbf.stay(x:jbf P w H h a o)(k:∀b u,(b=a\/H b=some (.own a))->h.get? b=some u->h'.get? b=some u)
  (ho:∀b,H b=some (.own a)->H' b=some (.own a)) (ht:∀b xs,H b=some (.tup xs)->H' b=some (.tup xs)):jbf P w H' h' a o:=by
 induction o with
 |lst xs=>obtain⟨z,its,n,r,e⟩:=x;exact⟨z,its,n,r,k _ _ (.inl rfl) e⟩
 |tup xs=>obtain⟨z,its,r,ob,e,c⟩:=x;exact⟨z,its,r,ob,k _ _ (.inl rfl) e,c⟩
 |dK kvs=>obtain⟨z,y,vs,r,ob,es,ep,e,c⟩:=x;exact⟨z,y,vs,r,ob,es,ep,k _ _ (.inl rfl) e,c⟩
 |dT kvs=>
  obtain⟨z,y,xs,r,ob,es,ep,e,c⟩:=x
  exact⟨z,y,xs,Paired.mapP r fun p q z=>⟨z.1,ht _ _ z.2.1,z.2.2⟩,ob,es,ep,k _ _ (.inl rfl) e,c⟩
 |set S n=>obtain⟨ob,es,ep,t,e,c⟩:=x;exact⟨ob,es,ep,t,k _ _ (.inl rfl) e,c⟩
 |ins C dx fs=>
  obtain⟨d,z,ne,e,mA,⟨od,es,ep,e2,c⟩,r⟩:=x
  exact⟨ho _ d,z,ne,k _ _ (.inl rfl) e,mA,⟨od,es,ep,k _ _ (.inr d) e2,c⟩,r⟩
 |own y=>obtain⟨ob,e⟩:=x;exact⟨ob,k _ _ (.inl rfl) e⟩
 |xd fs=>obtain⟨mA,⟨od,es,ep,e,c⟩,r⟩:=x;exact⟨mA,⟨od,es,ep,k _ _ (.inl rfl) e,c⟩,r⟩
 |rng lo hi=>obtain⟨t,u,v,e⟩:=x;exact⟨t,u,v,k _ _ (.inl rfl) e⟩
 |frz ob u ih=>obtain⟨e,q⟩:=x;exact⟨k _ _ (.inl rfl) e,ih q⟩
 |tbl ps=>
  have e:h.get? a=some {cls:=.none,data:=.fields ps}:=x
  show h'.get? a=some {cls:=.none,data:=.fields ps}
  exact k a _ (.inl rfl) e
 |met f y=>
  have e:h.get? a=some (PySem.W.methodObj (.ref f) (.ref y)):=x
  show h'.get? a=some (PySem.W.methodObj (.ref f) (.ref y))
  exact k a _ (.inl rfl) e
 |ext φ=>obtain⟨p,⟨o,e⟩,st⟩:=x;exact⟨st _ _ p fun o q=>k _ _ (.inl rfl) q,⟨o,k _ _ (.inl rfl) e⟩,st⟩
theorem HOk.lt(x:HOk P w H h)(e:H a=some o):a<h.objs.size:=(x a o e).lt
theorem HOk.fresh(x:HOk P w H h)(e:h.objs.size<=a):H a=none:=by
 cases q:H a with
 |none=>rfl
 |some u=>exact absurd (bw (x.lt q) e) (cw _)
theorem HOk.kept(x:HOk P w H h)(k:∀b u,h.get? b=some u->h'.get? b=some u):HOk P w H h':=fun a o e=>
 (x a o e).stay (fun b u _ q=>k b u q) (fun _ q=>q) fun _ _ q=>q
theorem HOk.laid(x:HOk P w H h)(k:∀b u,h.get? b=some u->h'.get? b=some u)(hp:h.objs.size<=a)(new:jbf P w (upd H a o) h' a o):HOk P w (upd H a o) h':=fun b u e=>by
 have hn:=x.fresh hp
 by_cases hb:b=a
 ·subst hb;rw[iF]at e;cases e;exact new
 ·rw[iJ hb]at e
  exact(x b u e).stay (fun c v _ q=>k c v q) (fun c q=>by rw[iJ (iU q hn)];exact q) fun c xs q=>by rw[iJ (iU q hn)];exact q
end
def Rd(H:Hp)(a:Addr)(u:HO):Prop:=H a=some u\/∃o,H a=some (.frz o u)
theorem Rd.of{H:Hp}{a:Addr}{u:HO}(h:H a=some u):Rd H a u:=.inl h
theorem Rd.ok{P:Program}{w:World}{H:Hp}{h:Heap}{a:Addr}{u:HO}(r:Rd H a u)(x:HOk P w H h):jbf P w H h a u:=by
 rcases r with r|⟨o,r⟩
 ·exact x a u r
 ·obtain⟨_,q⟩:=x a _ r
  exact q
def qt:Option HO->Prop
 |some (.lst _)=>True
 |some (.dK _)=>True
 |some (.dT _)=>True
 |some (.set _ _)=>True
 |some (.ins _ _ _)=>True
 |some (.ext _)=>True
 |_=>False
section
variable{P:Program}{w:World}{H:Hp}{h h':Heap}{x e:Addr}{o':HO}
theorem HOk.write(ok:HOk P w H h)(mu:qt (H x))(he:e=x\/H e=some (.own x))(k:∀b u,b≠e->h.get? b=some u->h'.get? b=some u)(heo:∃u,h'.get? e=some u)
  (new:jbf P w (upd H x o') h' x o'):HOk P w (upd H x o') h':=fun b u q=>by
 have nown:∀c y,H c=some (.own y)->c≠x:=fun c y r z=>by subst z;rw[r]at mu;exact mu
 have ntup:∀c xs,H c=some (.tup xs)->c≠x:=fun c xs r z=>by subst z;rw[r]at mu;exact mu
 by_cases hb:b=x
 ·subst hb;rw[iF]at q;cases q;exact new
 ·rw[iJ hb]at q
  by_cases hbe:b=e
  ·have q':H b=some (.own x):=by
    rcases he with z|z
    ·exact absurd (hbe.trans z) hb
    ·rw[hbe];exact z
   rw[q]at q';cases q'
   obtain⟨v,hv⟩:=heo
   exact⟨v,by rw[hbe];exact hv⟩
  ·refine(ok b u q).stay (fun c v hc r=>k c v ?_ r) (fun c r=>by rw[iJ (nown c b r)];exact r) fun c xs r=>by rw[iJ (ntup c xs r)];exact r
   rcases hc with rfl|hc
   ·exact hbe
   ·rintro rfl
    rcases he with z|z
    ·exact nown c b hc z
    ·rw[hc]at z;cases z;exact hb rfl
end
structure Un(fs ex:List Addr)(H H':Hp)(h h':Heap):Prop where
 keep:∀b o,h.get? b=some o->H b=none->b∉fs->b∉ex->h'.get? b=some o
 slot:∀b o,h.get? b=some o->H b=none->b∈fs->b∉ex->∃sl,h'.get? b=some {o with slots:=sl}
 free:∀b o,h.get? b=some o->H b=none->b∉ex->H' b=none
 there:∀b o,h.get? b=some o->b∉ex->∃o',h'.get? b=some o'
 tups:∀b xs,H b=some (.tup xs)->H' b=some (.tup xs)
 frzs:∀b o u,H b=some (.frz o u)->H' b=some (.frz o u)
 tbls:∀b ps,H b=some (.tbl ps)->∃more,H' b=some (.tbl (ps++more))
section
variable{fs fs' ex ex':List Addr}{H H1 H2:Hp}{h h1 h2 h':Heap}{a x e:Addr}{o:HO}
theorem Un.any(u:Un fs ex H H1 h h1){b:Addr}{ob:Obj}(q:h.get? b=some ob)(n:H b=none)(hx:b∉ex):∃sl,h1.get? b=some {ob with slots:=sl}:=by
 by_cases hb:b∈fs
 ·exact u.slot b ob q n hb hx
 ·exact⟨ob.slots,u.keep b ob q n hb hx⟩
theorem Un.trans(a:Un fs ex H H1 h h1)(b:Un fs ex H1 H2 h1 h2):Un fs ex H H2 h h2 where
 keep:=fun c ob q n hc hx=>b.keep c ob (a.keep c ob q n hc hx) (a.free c ob q n hx) hc hx
 slot:=fun c ob q n hc hx=>by
  obtain⟨sl,e1⟩:=a.slot c ob q n hc hx
  obtain⟨sl',e2⟩:=b.slot c _ e1 (a.free c ob q n hx) hc hx
  exact⟨sl',e2⟩
 free:=fun c ob q n hx=>by
  obtain⟨o',e1⟩:=a.there c ob q hx
  exact b.free c o' e1 (a.free c ob q n hx) hx
 there:=fun c ob q hx=>by
  obtain⟨o',e1⟩:=a.there c ob q hx
  exact b.there c o' e1 hx
 tups:=fun c xs q=>b.tups c xs (a.tups c xs q)
 frzs:=fun c ob xs q=>b.frzs c ob xs (a.frzs c ob xs q)
 tbls:=fun c ps q=>by
  obtain⟨m1,e1⟩:=a.tbls c ps q
  obtain⟨m2,e2⟩:=b.tbls c _ e1
  exact⟨m1++m2,by rw[e2,Array.append_assoc]⟩
theorem Un.kept(k:∀b u,h.get? b=some u->h'.get? b=some u):Un fs ex H H h h':=
 ⟨fun b ob q _ _ _=>k b ob q,fun b ob q _ _ _=>⟨ob.slots,k b ob q⟩,fun _ _ _ n _=>n,fun b ob q _=>⟨ob,k b ob q⟩,fun _ _ q=>q,fun _ _ _ q=>q,fun _ ps q=>⟨#[],by rw[q];simp⟩⟩
theorem Un.refl:Un fs ex H H h h:=Un.kept fun _ _ q=>q
theorem Un.laid(k:∀b u,h.get? b=some u->h'.get? b=some u)(hp:h.objs.size<=a)(hn:H a=none):Un fs ex H (upd H a o) h h' where
 keep:=fun b u q _ _ _=>k b u q
 slot:=fun b u q _ _ _=>⟨u.slots,k b u q⟩
 free:=fun b u q n _=>by rw[iJ (aU (bw (aE q) hp))];exact n
 there:=fun b u q _=>⟨u,k b u q⟩
 tups:=fun b xs q=>by rw[iJ (iU q hn)];exact q
 frzs:=fun b u xs q=>by rw[iJ (iU q hn)];exact q
 tbls:=fun b ps q=>⟨#[],by rw[iJ (iU q hn),q];simp⟩
theorem Un.write(mu:qt (H x))(he:e=x\/H e=some (.own x))(k:∀b u,b≠e->h.get? b=some u->h'.get? b=some u)(heo:∃u,h'.get? e=some u):Un fs ex H (upd H x o) h h':=by
 have hx:∀b,H b=none->b≠x:=fun b n z=>by subst z;rw[n]at mu;exact mu
 have hb:∀b,H b=none->b≠e:=fun b n z=>by
  subst z
  rcases he with r|r
  ·exact hx b n r
  ·rw[n]at r;cases r
 have hm:∀b u,H b=some u->¬qt (some u)->b≠x:=fun b u q nm z=>by subst z;rw[q]at mu;exact nm mu
 refine⟨fun b u q n _ _=>k b u (hb b n) q,fun b u q n _ _=>⟨u.slots,k b u (hb b n) q⟩,fun b u q n _=>by rw[iJ (hx b n)];exact n,fun b u q _=>?_,
  fun b xs q=>by rw[iJ (hm b _ q fun z=>z)];exact q,fun b u xs q=>by rw[iJ (hm b _ q fun z=>z)];exact q,fun b ps q=>⟨#[],by rw[iJ (hm b _ q fun z=>z),q];simp⟩⟩
 by_cases hbe:b=e
 ·subst hbe;exact heo
 ·exact⟨u,k b u hbe q⟩
theorem Un.mono(u:Un fs ex H H1 h h1)(hs:∀b∈fs,b∈fs')(hx:∀b∈ex,b∈ex'):Un fs' ex' H H1 h h1:=
 ⟨fun b ob q n hb he=>u.keep b ob q n (fun z=>hb (hs b z)) fun z=>he (hx b z),fun _ _ q n _ he=>u.any q n fun z=>he (hx _ z),fun b ob q n he=>u.free b ob q n fun z=>he (hx b z),fun b ob q he=>u.there b ob q fun z=>he (hx b z),u.tups,u.frzs,u.tbls⟩
end
def qz(h:Heap)(H:Hp):List Addr:=(List.range h.objs.size).filter fun a=>(H a).isSome
def mz(h:Heap)(H:Hp):Heap:=PySem.W.hideAll h (qz h H)
theorem F9(h:Heap)(H:Hp):(mz h H).objs.size=h.objs.size:=PySem.W.hideAll_size _ _
theorem Fn{h:Heap}{H:Hp}{b:Addr}{o:Obj}(e:h.get? b=some o)(n:H b=none):(mz h H).get? b=some o:=
 PySem.W.hideAll_get _ e fun hm=>by
  have q:(H b).isSome=true:=(cv.mp hm).2
  rw[n]at q;simp at q
theorem Ey{h:Heap}{H:Hp}{b:Addr}{o:Obj}(e:(mz h H).get? b=some o):h.get? b=some o/\H b=none:=by
 have e':h.get? b=some o:=PySem.W.of_hideAll (qz h H) e
 refine⟨e',?_⟩
 cases q:H b with
 |none=>rfl
 |some x=>
  have hm:b∈qz h H:=cv.mpr ⟨aV.mpr (aE e'),by simp[q]⟩
  have z:(mz h H).get? b=none:=PySem.W.hideAll_none (qz h H) hm
  rw[z]at e;cases e
structure Mod(K:PySem.W.Frag)(mg:Str->Option Value)(base:Heap):Prop where
 kin:K.In base
 glob:base.Ns mainGlobals mg
 blt:∃mb,base.Ns builtinsNs mb/\∀x:Str,x≠"__name__"->mb x=bootBuiltins x
 nolimit:base.NoLimit
structure Cx where
 prog:Program
 w:World
 K:PySem.W.Frag
 mg:Str->Option Value
 base:Heap
 A:Around
 N:List Str
 s₀:Shared
 H₀:Hp
 env:Env
 outer:List Env
 stack:List Env
 ex:List Addr
 fn:Str->Bool
 calm:Bool
 pn:List (Addr×Obj)
 xe:Value->Shared->Prop
def kJ(l:List Env):List Addr:=l.filterMap (·.frame)
abbrev Cx.fs(X:Cx):List Addr:=kJ X.outer
def qp(sc:Scope)(x:Str):Prop:=sc.names.lookup x=some .local\/sc.names.lookup x=some .cell\/sc.names.lookup x=some .free
def Loc(sc:Scope)(x:Str):Prop:=sc.names.lookup x=some .local\/sc.names.lookup x=some .cell
def Look(env:Env)(h:Heap)(m:Str->Option Value)(x:Str)(u:Value):Prop:=
 (env.kindOf x=some .local/\m x=some u)\/((env.kindOf x=some .cell\/env.kindOf x=some .free)/\∃c,env.cells.lookup x=some c/\h.IsCell c (some u))
structure Cx.Ok(X:Cx):Prop where
 mod:Mod X.K X.mg X.base
 kind:X.env.scope.kind= .function
 glob:X.env.globals=mainGlobals
 blt:X.env.builtins=builtinsNs
 above:X.s₀.heap.objs.size<=X.env.locals
 inj:∀x y c,X.env.cells.lookup x=some c->X.env.cells.lookup y=some c->x=y
 has:∀x,(X.env.kindOf x=some .cell\/X.env.kindOf x=some .free)->∃c,X.env.cells.lookup x=some c
 cab:∀x c,X.fn x=true->X.env.cells.lookup x=some c->X.s₀.heap.objs.size<=c
 hd:X.calm=true->X.A.handled=none
 frames:X.A.frames=some X.stack
 stk:X.stack=X.outer\/(X.stack=X.env::X.outer/\X.env.frame=some X.env.locals)
 exf:∀b∈X.ex,b≠X.env.locals/\∀x c,X.env.cells.lookup x=some c->c≠b
 bs:∀b o,X.base.get? b=some o->X.s₀.heap.get? b=some o/\X.H₀ b=none
 bsz:X.base.objs.size<=X.s₀.heap.objs.size
 noex:∀b o,X.base.get? b=some o->b∉X.ex
 exfs:∀b∈X.ex,b∉X.fs
 funs:X.s₀.heap.FunFrames X.base X.outer
 frf:∀b∈X.fs,X.H₀ b=none
structure Inv(X:Cx)(pins:List (Addr×Obj))(σ:List (Option V))(H:Hp)(s:Shared):Prop where
 ok:X.Ok
 os:s.os=X.s₀.os
 bare:AllBare s.gens
 base:Un X.fs X.ex X.H₀ H X.s₀.heap s.heap
 loc:∃m,s.heap.Ns X.env.locals m/\∀(i:Nat) (x:Str) (v:V),X.N[i]? =some x->σ[i]? =some (some v)->qp X.env.scope x->∃u,RelV v u/\Look X.env s.heap m x u
 cell:∀x c,X.env.cells.lookup x=some c->∃v,s.heap.IsCell c v
 free:H X.env.locals=none
 freeC:∀x c,X.env.cells.lookup x=some c->H c=none
 pin:∀p∈X.pn++pins,s.heap.get? p.1=some p.2/\H p.1=none/\p.1≠X.env.locals/\p.1∉X.fs/\∀v,p.2.data≠ .cell v
 hok:HOk X.prog X.w H s.heap
 len:σ.length=X.N.length
section
variable{X:Cx}{pins:List (Addr×Obj)}{σ:List (Option V)}{H H':Hp}{s:Shared}{h':Heap}
theorem Cx.Ok.nofr(ok:X.Ok){b:Addr}{o:Obj}(e:X.base.get? b=some o):b∉X.fs:=fun hb=>by
 have:=(ok.funs.mem hb).1
 rw[e]at this;cases this
theorem Inv.bs(I:Inv X pins σ H s):∀b o,X.base.get? b=some o->s.heap.get? b=some o/\H b=none:=fun b o e=>
 ⟨I.base.keep b o (I.ok.bs b o e).1 (I.ok.bs b o e).2 (I.ok.nofr e) (I.ok.noex b o e),I.base.free b o (I.ok.bs b o e).1 (I.ok.bs b o e).2 (I.ok.noex b o e)⟩
theorem Inv.bk(I:Inv X pins σ H s):∀b o,X.base.get? b=some o->s.heap.get? b=some o:=fun b o e=>(I.bs b o e).1
theorem Inv.mod(I:Inv X pins σ H s):Mod X.K X.mg X.base:=I.ok.mod
theorem Inv.kIn(I:Inv X pins σ H s):X.K.In s.heap:=I.ok.mod.kin.keeps I.bk
theorem Inv.fr(I:Inv X pins σ H s):∃m,Fr X.base X.env.locals s.heap m:=
 let⟨m,hn,_⟩:=I.loc
 ⟨m,hn,I.bk,bz I.ok.bsz I.ok.above⟩
theorem Inv.lt(I:Inv X pins σ H s):X.env.locals<s.heap.objs.size:=let⟨_,hn,_⟩:=I.loc;hn.lt
theorem Inv.sz(I:Inv X pins σ H s):X.s₀.heap.objs.size<=s.heap.objs.size:=bz I.ok.above (fk I.lt)
theorem Inv.nofs(I:Inv X pins σ H s){a:Addr}(h:s.heap.objs.size<=a):a∉X.fs:=fun hb=>by
 obtain⟨_,o,ho,_⟩:=I.ok.funs.mem hb
 exact absurd (bw (aE ho) (bz I.sz h)) (cw _)
theorem Inv.cne(I:Inv X pins σ H s):∀x c,X.env.cells.lookup x=some c->c≠X.env.locals:=fun x c e z=>by
 obtain⟨v,o,ho,hd⟩:=I.cell x c e
 obtain⟨m,⟨o',es,ep,ho',hd',_⟩,_⟩:=I.loc
 rw[z,ho']at ho;cases ho;rw[hd']at hd;cases hd
theorem Inv.funs(I:Inv X pins σ H s):s.heap.FunFrames X.base X.outer:=by
 have all:∀(l:List Env),(∀b∈kJ l,b∈X.fs)->X.s₀.heap.FunFrames X.base l->s.heap.FunFrames X.base l:=by
  intro l
  induction l with
  |nil=>intro _ _;trivial
  |cons env r ih=>
   intro hs hl
   obtain⟨hk,⟨L,o,hf,hn,ho,hd⟩,hr⟩:=hl
   have hL:L∈X.fs:=hs L (by unfold kJ;rw[List.filterMap_cons,hf];exact aJ)
   obtain⟨sl,e⟩:=I.base.slot L o ho (I.ok.frf L hL) hL fun z=>I.ok.exfs L z hL
   exact⟨hk,⟨L,_,hf,hn,e,hd⟩,ih (fun b hb=>hs b (by unfold kJ;rw[List.filterMap_cons,hf];exact ay _ hb)) hr⟩
 exact all X.outer (fun _ hb=>hb) I.ok.funs
theorem Inv.stack(I:Inv X pins σ H s):s.heap.FunFrames X.base X.stack:=by
 rcases I.ok.stk with e|⟨e,hf⟩
 ·rw[e];exact I.funs
 ·rw[e]
  obtain⟨m,hn,_⟩:=I.loc
  refine .cons (by rw[I.ok.kind];decide) hf hn ?_ I.funs
  exact Heap.get?_none_of_le (bz I.ok.bsz I.ok.above)
theorem Inv.stkSub(I:Inv X pins σ H s):∀b∈kJ X.stack,b∈X.env.locals::X.fs:=fun b hb=>by
 rcases I.ok.stk with e|⟨e,hf⟩
 ·rw[e]at hb;exact ay _ hb
 ·rw[e]at hb
  unfold kJ at hb
  rw[List.filterMap_cons,hf]at hb
  exact hb
theorem Inv.stkFree(I:Inv X pins σ H s):∀b∈kJ X.stack,H b=none:=fun b hb=>by
 rcases aR.mp (I.stkSub b hb)with e|hb
 ·rw[e];exact I.free
 ·obtain⟨_,o,ho,_⟩:=I.ok.funs.mem hb
  exact I.base.free b o ho (I.ok.frf b hb) fun z=>I.ok.exfs b z hb
theorem Inv.step{g':Array GenState}{t':Nat}{d':Drawn}{ch:List Addr}(I:Inv X pins σ H s)
  (hch:∀b∈ch,(b∈X.ex\/X.s₀.heap.objs.size<=b)/\b≠X.env.locals/\(∀x c,X.env.cells.lookup x=some c->c≠b)/\∀p∈X.pn++pins,p.1≠b)
  (keep:∀b o,b≠X.env.locals->b∉X.fs->b∉ch->s.heap.get? b=some o->H b=none->h'.get? b=some o)
  (slot:∀b o,b≠X.env.locals->b∈X.fs->b∉ch->s.heap.get? b=some o->H b=none->∃sl,h'.get? b=some {o with slots:=sl}) (free:∀b o,b∉ch->s.heap.get? b=some o->H b=none->H' b=none)
  (there:∀b o,b∉ch->s.heap.get? b=some o->∃o',h'.get? b=some o')
  (tups:∀b xs,H b=some (.tup xs)->H' b=some (.tup xs)) (frzs:∀b o u,H b=some (.frz o u)->H' b=some (.frz o u)) (tbls:∀b ps,H b=some (.tbl ps)->∃more,H' b=some (.tbl (ps++more)))
  (ns:∀m,s.heap.Ns X.env.locals m->h'.Ns X.env.locals m) (hok:HOk X.prog X.w H' h') (hg:AllBare g'):
  Inv X pins σ H' {s with heap:=h',gens:=g',drawn:=d',toks:=t'}:=by
 have neL:∀b o,X.s₀.heap.get? b=some o->b≠X.env.locals:=fun b o e=>aU (bw (aE e) I.ok.above)
 have neC:∀b o,X.s₀.heap.get? b=some o->b∉X.ex->b∉ch:=fun b o e hx hb=>by
  rcases(hch b hb).1 with z|z
  ·exact hx z
  ·exact absurd (bw (aE e) z) (cw _)
 have cellK:∀x c,X.env.cells.lookup x=some c->∀v,s.heap.IsCell c v->h'.IsCell c v:=fun x c e v ⟨o,ho,hd⟩=>by
  have nch:c∉ch:=fun z=>(hch c z).2.2.1 x c e rfl
  by_cases hc:c∈X.fs
  ·obtain⟨sl,q⟩:=slot c o (I.cne x c e) hc nch ho (I.freeC x c e)
   exact⟨_,q,hd⟩
  ·exact⟨o,keep c o (I.cne x c e) hc nch ho (I.freeC x c e),hd⟩
 refine⟨I.ok,I.os,hg,⟨fun b o e n hb hx=>?_,fun b o e n hb hx=>?_,fun b o e n hx=>?_,fun b o e hx=>?_,fun b xs e=>tups b xs (I.base.tups b xs e),fun b o xs e=>frzs b o xs (I.base.frzs b o xs e),fun b ps e=>?_⟩,?_,fun x c e=>?_,?_,fun x c e=>?_,fun p hp=>?_,hok,I.len⟩
 ·exact keep b o (neL b o e) hb (neC b o e hx) (I.base.keep b o e n hb hx) (I.base.free b o e n hx)
 ·obtain⟨sl,e1⟩:=I.base.slot b o e n hb hx
  obtain⟨sl',e2⟩:=slot b _ (neL b o e) hb (neC b o e hx) e1 (I.base.free b o e n hx)
  exact⟨sl',e2⟩
 ·obtain⟨o',e1⟩:=I.base.there b o e hx
  exact free b o' (neC b o e hx) e1 (I.base.free b o e n hx)
 ·obtain⟨o',e1⟩:=I.base.there b o e hx
  exact there b o' (neC b o e hx) e1
 ·obtain⟨m1,e1⟩:=I.base.tbls b ps e
  obtain⟨m2,e2⟩:=tbls b _ e1
  exact⟨m1++m2,by rw[e2,Array.append_assoc]⟩
 ·obtain⟨m,hn,hl⟩:=I.loc
  refine⟨m,ns m hn,fun i x v e1 e2 e3=>?_⟩
  obtain⟨u,r,l⟩:=hl i x v e1 e2 e3
  refine⟨u,r,?_⟩
  rcases l with l|⟨k,c,e,z⟩
  ·exact .inl l
  ·exact .inr ⟨k,c,e,cellK x c e _ z⟩
 ·obtain⟨v,z⟩:=I.cell x c e
  exact⟨v,cellK x c e v z⟩
 ·obtain⟨m,⟨o,_,_,ho,_⟩,_⟩:=I.loc
  exact free _ o (fun z=>(hch _ z).2.1 rfl) ho I.free
 ·obtain⟨v,o,ho,hd⟩:=I.cell x c e
  exact free c o (fun z=>(hch c z).2.2.1 x c e rfl) ho (I.freeC x c e)
 ·obtain⟨e,n,ne,nf,d⟩:=I.pin p hp
  have nch:p.1∉ch:=fun z=>(hch p.1 z).2.2.2 p hp rfl
  exact⟨keep p.1 p.2 ne nf nch e n,free p.1 p.2 nch e n,ne,nf,d⟩
theorem Inv.un{t':Nat}(I:Inv X pins σ H s)(u:Un X.fs [] H H' s.heap h')(hok:HOk X.prog X.w H' h'):Inv X pins σ H' {s with heap:=h',toks:=t'}:=by
 obtain⟨m,⟨o,es,ep,ho,r⟩,_⟩:=id I.loc
 obtain⟨sl,hL⟩:=u.any ho I.free (by simp)
 exact I.step (g':=s.gens) (d':=s.drawn) (ch:=[]) (fun _ z=>nomatch z) (fun b o _ hb _ e n=>u.keep b o e n hb (by simp)) (fun b o _ hb _ e n=>u.slot b o e n hb (by simp)) (fun b o _ e n=>u.free b o e n (by simp)) (fun b o _ e=>u.there b o e (by simp)) u.tups u.frzs u.tbls (fun m' hm=>by
  obtain⟨o',es',ep',ho',r'⟩:=hm
  rw[ho]at ho';cases ho'
  exact⟨_,es',ep',hL,r'⟩) hok I.bare
theorem Inv.call{g':Array GenState}{t':Nat}{d':Drawn}{ch:List Addr}(I:Inv X pins σ H s)(u:Un (kJ X.stack) ch H H' s.heap h')(hok:HOk X.prog X.w H' h')(hg:AllBare g')
  (hch:∀b∈ch,(b∈X.ex\/X.s₀.heap.objs.size<=b)/\b≠X.env.locals/\(∀x c,X.env.cells.lookup x=some c->c≠b)/\∀p∈X.pn++pins,p.1≠b):
  Inv X pins σ H' {s with heap:=h',gens:=g',drawn:=d',toks:=t'}:=by
 obtain⟨m,⟨o,es,ep,ho,r⟩,_⟩:=id I.loc
 obtain⟨sl,hL⟩:=u.any ho I.free fun z=>(hch _ z).2.1 rfl
 exact I.step (ch:=ch) hch (fun b o hL hb hc e n=>u.keep b o e n (fun z=>(aR.mp (I.stkSub b z)).elim hL hb) hc) (fun b o _ _ hc e n=>u.any e n hc) (fun b o hc e n=>u.free b o e n hc) (fun b o hc e=>u.there b o e hc) u.tups u.frzs u.tbls (fun m' hm=>by
  obtain⟨o',es',ep',ho',r'⟩:=hm
  rw[ho]at ho';cases ho'
  exact⟨_,es',ep',hL,r'⟩) hok hg
theorem Inv.turned{t':Nat}{it:Addr}(I:Inv X pins σ H s)(k:∀b o,b≠it->s.heap.get? b=some o->h'.get? b=some o)(hn:H it=none)(hL:it≠X.env.locals)
  (h1:it∈X.ex\/X.s₀.heap.objs.size<=it) (h2:∀x c,X.env.cells.lookup x=some c->c≠it) (h3:∀p∈X.pn++pins,p.1≠it):Inv X pins σ H {s with heap:=h',toks:=t'}:=by
 have nit:∀b u,H b=some u->b≠it:=fun b u e z=>by rw[z,hn]at e;cases e
 refine I.step (g':=s.gens) (d':=s.drawn) (ch:=[it]) (fun b hb=>?_) (fun b o _ _ hc e _=>k b o (fun z=>hc (by simp[z])) e) (fun b o _ _ hc e _=>⟨o.slots,k b o (fun z=>hc (by simp[z])) e⟩) (fun _ _ _ _ n=>n)
  (fun b o hc e=>⟨o,k b o (fun z=>hc (by simp[z])) e⟩) (fun _ _ e=>e) (fun _ _ _ e=>e) (fun b ps e=>⟨#[],by rw[e];simp⟩) (fun m hm=>?_) (fun b u e=>?_) I.bare
 ·have e:b=it:=by simpa using hb
  subst e
  exact⟨h1,hL,h2,h3⟩
 ·obtain⟨o,es,ep,ho,r⟩:=hm
  exact⟨o,es,ep,k _ o (cG hL) ho,r⟩
 ·refine(I.hok b u e).stay (fun c v hc q=>k c v ?_ q) (fun _ q=>q) fun _ _ q=>q
  rcases hc with z|z
  ·rw[z];exact nit b u e
  ·exact nit c _ z
theorem Inv.tok(I:Inv X pins σ H s)(t:Nat):Inv X pins σ H {s with toks:=t}:=I.un (h':=s.heap) (t':=t) Un.refl I.hok
theorem Inv.kept{t':Nat}(I:Inv X pins σ H s)(k:∀b u,s.heap.get? b=some u->h'.get? b=some u):Inv X pins σ H {s with heap:=h',toks:=t'}:=I.un (Un.kept k) (I.hok.kept k)
theorem Inv.laid{a:Addr}{o:HO}{t':Nat}(I:Inv X pins σ H s)(k:∀b u,s.heap.get? b=some u->h'.get? b=some u)(hp:s.heap.objs.size<=a)(new:jbf X.prog X.w (upd H a o) h' a o):
  Inv X pins σ (upd H a o) {s with heap:=h',toks:=t'}:=I.un (Un.laid k hp (I.hok.fresh hp)) (I.hok.laid k hp new)
theorem Inv.write{x e:Addr}{o:HO}{t':Nat}(I:Inv X pins σ H s)(mu:qt (H x))(he:e=x\/H e=some (.own x))(k:∀b u,b≠e->s.heap.get? b=some u->h'.get? b=some u)(heo:∃u,h'.get? e=some u)
  (new:jbf X.prog X.w (upd H x o) h' x o):Inv X pins σ (upd H x o) {s with heap:=h',toks:=t'}:=I.un (Un.write mu he k heo) (I.hok.write mu he k heo new)
theorem Inv.pins_of{pins':List (Addr×Obj)}(I:Inv X pins σ H s)(h:∀p∈pins',s.heap.get? p.1=some p.2/\H p.1=none/\p.1≠X.env.locals/\p.1∉X.fs/\∀v,p.2.data≠ .cell v):Inv X pins' σ H s:=
 ⟨I.ok,I.os,I.bare,I.base,I.loc,I.cell,I.free,I.freeC,fun p hp=>(aQ.mp hp).elim (fun z=>I.pin p (bx _ z)) (h p),I.hok,I.len⟩
theorem zY{N:List Str}(hN:N.Nodup){i j:Nat}{x:Str}(a:N[i]? =some x)(b:N[j]? =some x):i=j:=by
 obtain⟨h1,e1⟩:=ag.mp a
 obtain⟨h2,e2⟩:=ag.mp b
 exact(fW hN).mp (e1.trans e2.symm)
theorem AO{M:Model}{A:Around}{E:Value->Shared->Prop}{i:Nat}{x:Str}{v:V}{u:Value}{Q:Unit->Shared->Prop}(I:Inv X pins σ H s)(hN:X.N.Nodup)(hi:X.N[i]? =some x)(hx:Loc X.env.scope x)(r:RelV v u)
  (h:∀s',Inv X pins (σ.set i (some v)) H s'->(∃a,Heap.SameBut a s.heap s'.heap/\(a=X.env.locals\/X.env.cells.lookup x=some a))->Q () s') (hf:X.fn x=true\/X.env.scope.names.lookup x=some .local:=by first|exact .inl rfl|exact .inr rfl|assumption):wpAny M A (storeName X.env x u) Q E s:=by
 obtain⟨m,hn,hl⟩:=id I.loc
 have hcls:(X.env.scope.kind== .class||(X.env.scope.kind== .module&&X.env.locals !=X.env.globals))=false:=by rw[I.ok.kind];rfl
 have hiσ:i<σ.length:=by rw[I.len];exact(ag.mp hi).1
 have cne:=I.cne
 have tracked:∀{a:Addr} {h':Heap},(∃o,s.heap.get? a=some o/\H a=none)->Heap.SameBut a s.heap h'->HOk X.prog X.w H h':=fun{a h'} ha hs b ob e=>by
  obtain⟨_,_,hfree⟩:=ha
  refine(I.hok b ob e).stay (fun c w' hc q=>(hs.2 c ?_).trans q) (fun _ q=>q) fun _ _ q=>q
  rintro rfl
  rcases hc with rfl|hc
  ·rw[hfree]at e;cases e
  ·rw[hfree]at hc;cases hc
 rcases hx with hk|hk
 ·refine wpAny_storeName_local hk hn (fun h' hn' hs=>?_) hcls
  obtain⟨oL,_,_,hoL,_⟩:=id hn
  refine h _ ⟨I.ok,I.os,I.bare,⟨fun b o e n hb hx=>?_,fun b o e n hb hx=>?_,I.base.free,fun b o e hx=>?_,I.base.tups,I.base.frzs,I.base.tbls⟩,⟨_,hn',fun j y v' e1 e2 e3=>?_⟩,fun y c e=>?_,I.free,I.freeC,fun p hp=>?_,tracked ⟨oL,hoL,I.free⟩ hs,by simpa using I.len⟩ ⟨_,hs,.inl rfl⟩
  ·exact(hs.2 b (aU (bw (aE e) I.ok.above))).trans (I.base.keep b o e n hb hx)
  ·obtain⟨sl,e1⟩:=I.base.slot b o e n hb hx
   exact⟨sl,(hs.2 b (aU (bw (aE e) I.ok.above))).trans e1⟩
  ·obtain⟨o',e1⟩:=I.base.there b o e hx
   exact⟨o',(hs.2 b (aU (bw (aE e) I.ok.above))).trans e1⟩
  ·by_cases hj:j=i
   ·subst hj
    rw[hi]at e1;cases e1
    rw[List.getElem?_set_self hiσ]at e2
    cases e2
    exact⟨u,r,.inl ⟨hk,by simp⟩⟩
   ·rw[List.getElem?_set_ne (cG hj)]at e2
    obtain⟨u',r',q⟩:=hl j y v' e1 e2 e3
    refine⟨u',r',?_⟩
    rcases q with⟨k,e⟩|⟨k,c,e,z⟩
    ·refine .inl ⟨k,?_⟩
     have:y≠x:=fun e=>hj (zY hN e1 (e▸hi))
     simp[this,e]
    ·exact .inr ⟨k,c,e,z.sameBut hs (cne y c e)⟩
  ·obtain⟨w',z⟩:=I.cell y c e
   exact⟨w',z.sameBut hs (cne y c e)⟩
  ·obtain⟨e,n,ne,nf,d⟩:=I.pin p hp
   exact⟨(hs.2 p.1 ne).trans e,n,ne,nf,d⟩
 ·have hfn:X.fn x=true:=by
   rcases hf with z|z
   ·exact z
   ·rw[z]at hk;cases hk
  obtain⟨c,hc⟩:=I.ok.has x (.inl hk)
  obtain⟨w',z⟩:=I.cell x c hc
  refine wpAny_storeName_cell I.ok.kind hk hc z (fun h' hc' hs=>?_)
  obtain⟨oc,hoc,hocd⟩:=id z
  refine h {s with heap:=h'} ⟨I.ok,I.os,I.bare,⟨fun b o e n hb hx=>?_,fun b o e n hb hx=>?_,I.base.free,fun b o e hx=>?_,I.base.tups,I.base.frzs,I.base.tbls⟩,⟨m,hn.sameBut hs (cG (cne x c hc)),fun j y v' e1 e2 e3=>?_⟩,fun y c' e=>?_,I.free,I.freeC,fun p hp=>?_,tracked ⟨oc,hoc,I.freeC x c hc⟩ hs,by simpa using I.len⟩ ⟨c,hs,.inr hc⟩
  ·exact(hs.2 b (aU (bw (aE e) (I.ok.cab x c hfn hc)))).trans (I.base.keep b o e n hb hx)
  ·obtain⟨sl,e1⟩:=I.base.slot b o e n hb hx
   exact⟨sl,(hs.2 b (aU (bw (aE e) (I.ok.cab x c hfn hc)))).trans e1⟩
  ·obtain⟨o',e1⟩:=I.base.there b o e hx
   exact⟨o',(hs.2 b (aU (bw (aE e) (I.ok.cab x c hfn hc)))).trans e1⟩
  ·by_cases hj:j=i
   ·subst hj
    rw[hi]at e1;cases e1
    rw[List.getElem?_set_self hiσ]at e2
    cases e2
    exact⟨u,r,.inr ⟨.inl hk,c,hc,hc'⟩⟩
   ·rw[List.getElem?_set_ne (cG hj)]at e2
    obtain⟨u',r',q⟩:=hl j y v' e1 e2 e3
    refine⟨u',r',?_⟩
    rcases q with q|⟨k,c',e,z'⟩
    ·exact .inl q
    ·refine .inr ⟨k,c',e,z'.sameBut hs ?_⟩
     rintro rfl
     exact hj (zY hN e1 (I.ok.inj _ _ _ e hc▸hi))
  ·by_cases hcc:c'=c
   ·subst hcc;exact⟨_,hc'⟩
   ·obtain⟨w2,z2⟩:=I.cell y c' e
    exact⟨w2,z2.sameBut hs hcc⟩
  ·obtain⟨e,n,ne,nf,d⟩:=I.pin p hp
   refine⟨(hs.2 p.1 ?_).trans e,n,ne,nf,d⟩
   intro q
   rw[q,hoc]at e
   have q':oc=p.2:=aO e
   exact d w' (by rw [<- q']; exact hocd)
theorem vi{M:Model}{A:Around}{E:Value->Shared->Prop}{i:Nat}{x:Str}{v:V}{u:Value}{Q:Unit->Shared->Prop}(I:Inv X pins σ H s)(hN:X.N.Nodup)(hi:X.N[i]? =some x)(hx:Loc X.env.scope x)(r:RelV v u)
  (h:∀s',Inv X pins (σ.set i (some v)) H s'->Q () s') (hf:X.fn x=true\/X.env.scope.names.lookup x=some .local:=by first|exact .inl rfl|exact .inr rfl|assumption):wpAny M A (storeName X.env x u) Q E s:=
 AO I hN hi hx r (fun s' I' _=>h s' I') hf
theorem Inv.call'{s':Shared}{ch:List Addr}(I:Inv X pins σ H s)(ho:s'.os=s.os)(u:Un (kJ X.stack) ch H H' s.heap s'.heap)(hok:HOk X.prog X.w H' s'.heap)(hg:AllBare s'.gens)
  (hch:∀b∈ch,(b∈X.ex\/X.s₀.heap.objs.size<=b)/\b≠X.env.locals/\(∀x c,X.env.cells.lookup x=some c->c≠b)/\∀p∈X.pn++pins,p.1≠b):Inv X pins σ H' s':=by
 obtain⟨h',g',d',t',o'⟩:=s'
 have e:o'=s.os:=ho
 subst e
 exact I.call (g':=g') (t':=t') (d':=d') u hok hg hch
end
abbrev XK:=Value->Option Addr->Hp->Prop
abbrev St:=List (Option V)
abbrev VK:=V->Hp->Prop
abbrev TE:=St->Hp->VK->Prop
abbrev TT:=St->Hp->(Bool->Hp->Prop)->Prop
abbrev TA:=St->Hp->(List V->Hp->Prop)->Prop
structure Ends where
 nx:St->Hp->Prop
 rt:VK
 bk:St->Hp->Prop:=fun _ _=>False
 ct:St->Hp->Prop:=fun _ _=>False
abbrev TS:=Ends->St->Hp->Prop
def EP(X:Cx)(pins:List (Addr×Obj))(σ:St)(Q:VK)(u:Value)(s':Shared):Prop:=∃v H',Inv X pins σ H' s'/\RelV v u/\Q v H'
def TP(X:Cx)(pins:List (Addr×Obj))(σ:St)(Q:Bool->Hp->Prop)(b:Bool)(s':Shared):Prop:=∃H',Inv X pins σ H' s'/\Q b H'
def AP(X:Cx)(pins:List (Addr×Obj))(σ:St)(Q:List V->Hp->Prop)(us:List Value)(s':Shared):Prop:=∃vs H',Inv X pins σ H' s'/\Vals vs us/\Q vs H'
def SP(X:Cx)(pins:List (Addr×Obj))(D:Ends)(f:Flow)(s':Shared):Prop:=
 match f with
 | .next=>∃σ' H',Inv X pins σ' H' s'/\D.nx σ' H'
 | .brk=>∃σ' H',Inv X pins σ' H' s'/\D.bk σ' H'
 | .cont=>∃σ' H',Inv X pins σ' H' s'/\D.ct σ' H'
 | .ret u=>∃v σ' H',Inv X pins σ' H' s'/\RelV v u/\D.rt v H'
def PE(X:Cx)(e:Expr)(t:TE):Prop:=
 ∀(pins:List (Addr×Obj)) (s:Shared) (σ:St) (H:Hp) (Q:VK),Inv X pins σ H s->t σ H Q->wpAny (model X.prog X.w) X.A (eval e X.env) (EP X pins σ Q) X.xe s
def PT(X:Cx)(e:Expr)(t:TT):Prop:=
 ∀(pins:List (Addr×Obj)) (s:Shared) (σ:St) (H:Hp) (Q:Bool->Hp->Prop),Inv X pins σ H s->t σ H Q->wpAny (model X.prog X.w) X.A (isTrue e X.env (eval e X.env)) (TP X pins σ Q) X.xe s
def PW(X:Cx)(e:Expr)(t:TT):Prop:=
 ∀(whole:Sem Value) (pins:List (Addr×Obj)) (s:Shared) (σ:St) (H:Hp) (Q:Bool->Hp->Prop),Inv X pins σ H s->t σ H Q->wpAny (model X.prog X.w) X.A (isTrue e X.env whole) (TP X pins σ Q) X.xe s
theorem PW.pt{X:Cx}{e:Expr}{t:TT}(h:PW X e t):PT X e t:=h _
def PA(X:Cx)(es:List Expr)(t:TA):Prop:=
 ∀(pos:Pos) (pins:List (Addr×Obj)) (s:Shared) (σ:St) (H:Hp) (Q:List V->Hp->Prop),Inv X pins σ H s->t σ H Q->wpAny (model X.prog X.w) X.A (spliced (backTo pos (starEach es X.env))) (AP X pins σ Q) X.xe s
def PS(X:Cx)(st:Stmt)(t:TS):Prop:=
 ∀(pins:List (Addr×Obj)) (s:Shared) (σ:St) (H:Hp) (D:Ends),Inv X pins σ H s->t D σ H->wpAny (model X.prog X.w) X.A (exec st X.env) (SP X pins D) X.xe s
def PSs(X:Cx)(st:List Stmt)(t:TS):Prop:=
 ∀(pins:List (Addr×Obj)) (s:Shared) (σ:St) (H:Hp) (D:Ends),Inv X pins σ H s->t D σ H->wpAny (model X.prog X.w) X.A (execs st X.env) (SP X pins D) X.xe s
theorem iK{α:Type}{t:Sem α}{Q Q':α->Shared->Prop}{M:Model}{A:Around}{E:Value->Shared->Prop}{s:Shared}(h:wpAny M A t Q E s)(hQ:∀a s,Q a s->Q' a s):wpAny M A t Q' E s:=cV h hQ fun _ _ x=>x
section
variable{X:Cx}
def wJ(i:Nat):TE:=fun σ H Q=>∃v,σ[i]? =some (some v)/\Q v H
def tC(v:V):TE:=fun _ H Q=>Q v H
theorem xZ{i:Nat}{x:Str}{pos:Pos}(hN:X.N[i]? =some x)(hv:qp X.env.scope x)(hd:(x==("__debug__":Str))=false:=by decide)(hcd:(x==("__classdict__":Str))=false:=by decide):PE X (.Name x pos) (wJ i):=by
 intro pins s σ H Q I h
 obtain⟨v,e,h⟩:=h
 obtain⟨m,hn,hl⟩:=I.loc
 obtain⟨u,r,l⟩:=hl i x v hN e hv
 have fin:EP X pins σ Q u s:=⟨v,H,I,r,h⟩
 rcases l with⟨hk,hm⟩|⟨hk,c,hc,hcell⟩
 ·exact wpAny_Name (wpAny_loadName_local I.ok.kind hk hn hm fin) hd
 ·rcases hk with hk|hk
  ·exact wpAny_Name (wpAny_loadName_cell I.ok.kind hk hc hcell fin) hd
  ·exact wpAny_Name (wpAny_loadName_free I.ok.kind hk hc hcell fin hcd) hd
theorem iG{i j pos}:PE X (.Constant (.int i) j pos) (tC (.int i)):=fun _ _ _ H _ I h=>wpAny_Constant_int ⟨.int i,H,I.tok _,⟨_,rfl⟩,h⟩
theorem ny{b j pos}:PE X (.Constant (.bool b) j pos) (tC (.bl b)):=fun _ _ _ H _ I h=>Constant_bool ⟨.bl b,H,I,rfl,h⟩
theorem lK{j pos}:PE X (.Constant .none j pos) (tC .non):=fun _ _ _ H _ I h=>Constant_none ⟨.non,H,I,rfl,h⟩
theorem ur{x j pos}:PE X (.Constant (.str x) j pos) (tC (.str x)):=fun _ _ _ H _ I h=>Calls.Constant_str ⟨.str x,H,I.tok _,⟨_,rfl⟩,h⟩
def Gl(X:Cx)(x:Str):Prop:=X.env.kindOf x=some .globalImplicit
theorem uI{E:Value->Shared->Prop}{pins:List (Addr×Obj)}{s:Shared}{σ:St}{H:Hp}{x:Str}{u:Value}{pos:Pos}{Q:Value->Shared->Prop}(I:Inv X pins σ H s)(hg:Gl X x)(hm:X.mg x=some u)(h:Q u s)
  (hd:(x==("__debug__":Str))=false:=by decide):wpAny (model X.prog X.w) X.A (eval (.Name x pos) X.env) Q E s:=
 iz I.ok.kind hg (Calls.loadGlobal_global (by rw[I.ok.glob];exact I.mod.glob.keeps I.bk) hm h) hd
theorem lJ{E:Value->Shared->Prop}{pins:List (Addr×Obj)}{s:Shared}{σ:St}{H:Hp}{x:Str}{u:Value}{pos:Pos}{Q:Value->Shared->Prop}(I:Inv X pins σ H s)(hg:Gl X x)(hm:X.mg x=none)(hv:bootBuiltins x=some u)(h:Q u s)
  (hn:x≠"__name__":=by decide) (hd:(x==("__debug__":Str))=false:=by decide):wpAny (model X.prog X.w) X.A (eval (.Name x pos) X.env) Q E s:=by
 obtain⟨mb,h1,h2⟩:=I.mod.blt
 exact iz I.ok.kind hg (Calls.loadGlobal_builtin (by rw[I.ok.glob];exact I.mod.glob.keeps I.bk) hm (by rw[I.ok.blt];exact h1.keeps I.bk) ((h2 x hn).trans hv) h) hd
theorem lD{x:Str}{v:V}{u:Value}{pos:Pos}(hg:Gl X x)(hm:X.mg x=some u)(r:RelV v u)(hd:(x==("__debug__":Str))=false:=by decide):PE X (.Name x pos) (tC v):=
 fun _ _ _ H _ I h=>uI I hg hm ⟨v,H,I,r,h⟩ hd
theorem mU{x:Str}{v:V}{u:Value}{pos:Pos}(hg:Gl X x)(hm:X.mg x=none)(hv:bootBuiltins x=some u)(r:RelV v u)(hn:x≠"__name__":=by decide)(hd:(x==("__debug__":Str))=false:=by decide):PE X (.Name x pos) (tC v):=
 fun _ _ _ H _ I h=>lJ I hg hm hv ⟨v,H,I,r,h⟩ hn hd
variable{a b:Expr}{ta tb:TE}{pos:Pos}
def PC(X:Cx)(op:CmpOp)(a b:Expr)(t:TE):Prop:=
 ∀(pins:List (Addr×Obj)) (s:Shared) (σ:St) (H:Hp) (Q:VK),Inv X pins σ H s->t σ H Q->
  wpAny (model X.prog X.w) X.A (eval a X.env) (fun v s₁=>wpAny (model X.prog X.w) X.A (eval b X.env) (fun u s₂=>wpAny (model X.prog X.w) X.A (compareOp op v u) (EP X pins σ Q) X.xe s₂) X.xe s₁) X.xe s
theorem zX(b:Expr){op:CmpOp}(h:op≠ .In)(h2:op≠ .NotIn):behindInMarks op b=false:=by
 have e1:(op==CmpOp.In)=false:=by cases op<;>first|rfl|exact absurd rfl h
 have e2:(op==CmpOp.NotIn)=false:=by cases op<;>first|rfl|exact absurd rfl h2
 cases b<;>simp[behindInMarks,e1,e2]
theorem qZ{op:CmpOp}{t:TE}(h:PC X op a b t)(h1:behindInMarks op b=false:=by first|exact zX _ (by decide) (by decide)|rfl):PE X (.Compare a [op] [b] pos) t:=fun pins s σ H Q I hw=>wpAny_Compare1 (h pins s σ H Q I hw) h1
variable{tA tB':TT}{rest:List Expr}
def xg(t u:TT):TT:=fun σ H Q=>t σ H fun c H1=>if c=true then u σ H1 Q else Q false H1
def wR(t u:TT):TT:=fun σ H Q=>t σ H fun c H1=>if c=true then Q true H1 else u σ H1 Q
def wU(t:TT):TT:=fun σ H Q=>t σ H fun c H1=>Q (!c) H1
theorem yX(ha:PT X a tA):PW X (.BoolOp .And [a] pos) tA:=by
 intro wh pins s σ H Q I h
 refine isTrue_and (iK (ha pins s σ H Q I h) fun c s1 e=>?_)
 cases c with
 |true=>exact isTrue_and_nil e
 |false=>exact e
theorem rb(ha:PT X a tA):PW X (.BoolOp .Or [a] pos) tA:=by
 intro wh pins s σ H Q I h
 refine isTrue_or (iK (ha pins s σ H Q I h) fun c s1 e=>?_)
 cases c with
 |false=>exact isTrue_or_nil e
 |true=>exact e
theorem x6(ha:PT X a tA)(hb:PW X (.BoolOp .And (b::rest) pos) tB'):PW X (.BoolOp .And (a::b::rest) pos) (xg tA tB'):=by
 intro wh pins s σ H Q I h
 refine isTrue_and (iK (ha pins s σ H _ I h) fun c s1 ⟨H1,I1,q1⟩=>?_)
 cases c with
 |true=>exact hb wh pins s1 σ H1 Q I1 q1
 |false=>exact⟨H1,I1,q1⟩
theorem oo(ha:PT X a tA)(hb:PW X (.BoolOp .Or (b::rest) pos) tB'):PW X (.BoolOp .Or (a::b::rest) pos) (wR tA tB'):=by
 intro wh pins s σ H Q I h
 refine isTrue_or (iK (ha pins s σ H _ I h) fun c s1 ⟨H1,I1,q1⟩=>?_)
 cases c with
 |true=>exact⟨H1,I1,q1⟩
 |false=>exact hb wh pins s1 σ H1 Q I1 q1
theorem lX(ha:PT X a tA):PT X (.UnaryOp .Not a pos) (wU tA):=by
 intro pins s σ H Q I h
 exact isTrue_not (ha pins s σ H (fun c H1=>Q (!c) H1) I h)
theorem nF{op}{t:TE}(h:PE X a t):PE X (.BoolOp op [a] pos) t:=fun pins s σ H Q I hw=>BoolOp_one (h pins s σ H Q I hw)
def wY(t:TT)(ta tb:TE):TE:=fun σ H Q=>t σ H fun c H1=>if c=true then ta σ H1 Q else tb σ H1 Q
theorem rR{c:Expr}(hc:PT X c tA)(ha:PE X a ta)(hb:PE X b tb):PE X (.IfExp c a b pos) (wY tA ta tb):=by
 intro pins s σ H Q I h
 refine wpAny_IfExp (iK (hc pins s σ H _ I h) fun d s1 ⟨H1,I1,q1⟩=>?_)
 cases d with
 |true=>exact ha pins s1 σ H1 Q I1 q1
 |false=>exact hb pins s1 σ H1 Q I1 q1
end
def SqL(K:PySem.W.Frag)(H:Hp)(a:Addr)(xs:List V):Prop:=
 Rd H a (.lst xs)\/
  ∃(o:Obj) (its:Array Value) (n:Nat),K.lookup a=some o/\o.cls= .type "list"/\o.dict=none/\o.data= .seq its n/\its.size<=sizeLine/\Vals xs its.toList
def SqT(K:PySem.W.Frag)(H:Hp)(a:Addr)(xs:List V):Prop:=
 Rd H a (.tup xs)\/
  ∃(o:Obj) (its:Array Value) (n:Nat),K.lookup a=some o/\o.cls= .type "tuple"/\o.data= .seq its n/\its.size<=sizeLine/\Vals xs its.toList
def JH:Value->Option V
 | .none=>some .non
 | .bool b=>some (.bl b)
 | .int i _=>some (.int i)
 | .str x _=>some (.str x)
 | .bytes b _=>some (.byt b)
 | .float b _=>some (.flt b)
 | .ref a=>some (.ref a)
 | .type n=>some (.ty n)
 |_=>none
theorem RelV.abs{x:V}{u:Value}(r:RelV x u):JH u=some x:=by
 cases x with
 |non=>cases r;rfl
 |bl _=>cases r;rfl
 |int _=>obtain⟨t,rfl⟩:=r;rfl
 |str _=>obtain⟨t,rfl⟩:=r;rfl
 |byt _=>obtain⟨t,rfl⟩:=r;rfl
 |flt _=>obtain⟨t,rfl⟩:=r;rfl
 |ref _=>cases r;rfl
 |ty _=>cases r;rfl
theorem RelV.inj{x y:V}{u:Value}(r:RelV x u)(q:RelV y u):x=y:=aO (r.abs.symm.trans q.abs)
theorem Vals.inj:∀{xs ys:List V} {us:List Value},Vals xs us->Vals ys us->xs=ys
 |_,_,_,.nil,.nil=>rfl
 |_,_,_,.cons r t,.cons r' t'=>by rw[r.inj r',Vals.inj t t']
section
variable{X:Cx}{pins:List (Addr×Obj)}{σ:St}{H:Hp}{s:Shared}{a:Addr}{xs ys:List V}
theorem SqL.of{K:PySem.W.Frag}(h:H a=some (.lst xs)):SqL K H a xs:=.inl (.inl h)
theorem SqT.of{K:PySem.W.Frag}(h:H a=some (.tup xs)):SqT K H a xs:=.inl (.inl h)
theorem Inv.list(I:Inv X pins σ H s)(h:SqL X.K H a xs):∃its:List Value,Vals xs its/\PlainL s.heap a its.toArray/\xs.length<=sizeLine:=by
 rcases h with h|⟨o,its,n,hk,hc,hd,hs,hz,r⟩
 ·obtain⟨z,its,n,r,e⟩:=h.ok I.hok
  exact⟨its,r,⟨_,n,e,rfl,rfl,rfl⟩,z⟩
 ·refine⟨its.toList,r,⟨o,n,I.kIn a o hk,hc,hd,by simpa using hs⟩,?_⟩
  have e:=r.length
  simp only[Array.length_toList]at e
  lia
theorem Inv.tuple(I:Inv X pins σ H s)(h:SqT X.K H a xs):∃its:List Value,Vals xs its/\IsTup s.heap a its.toArray/\xs.length<=sizeLine:=by
 rcases h with h|⟨o,its,n,hk,hc,hs,hz,r⟩
 ·obtain⟨z,its,r,p⟩:=h.ok I.hok
  exact⟨its,r,p,z⟩
 ·refine⟨its.toList,r,⟨o,I.kIn a o hk,hc,n,by simpa using hs⟩,?_⟩
  have e:=r.length
  simp only[Array.length_toList]at e
  lia
theorem Inv.list_inj(I:Inv X pins σ H s)(h:SqL X.K H a xs)(h':SqL X.K H a ys):xs=ys:=by
 obtain⟨its,r,⟨o,n,e,_,_,d⟩,_⟩:=I.list h
 obtain⟨its',r',⟨o',n',e',_,_,d'⟩,_⟩:=I.list h'
 rw[e]at e';cases e'
 rw[d]at d'
 injection d' with d1 _
 have:its=its':=by simpa using bY Array.toList d1
 subst this
 exact r.inj r'
theorem Inv.tuple_inj(I:Inv X pins σ H s)(h:SqT X.K H a xs)(h':SqT X.K H a ys):xs=ys:=by
 obtain⟨its,r,⟨o,e,_,n,d⟩,_⟩:=I.tuple h
 obtain⟨its',r',⟨o',e',_,n',d'⟩,_⟩:=I.tuple h'
 rw[e]at e';cases e'
 rw[d]at d'
 injection d' with d1 _
 have:its=its':=by simpa using bY Array.toList d1
 subst this
 exact r.inj r'
end
abbrev Cx.wish(X:Cx)(E:Value->Shared->Prop):Cx:={X with xe:=E}
abbrev Cx.nox(X:Cx):Cx:=X.wish fun _ _=>False
theorem Cx.Ok.wish{X:Cx}(ok:X.Ok)(E:Value->Shared->Prop):(X.wish E).Ok:=
 ⟨ok.mod,ok.kind,ok.glob,ok.blt,ok.above,ok.inj,ok.has,ok.cab,ok.hd,ok.frames,ok.stk,ok.exf,ok.bs,ok.bsz,ok.noex,ok.exfs,ok.funs,ok.frf⟩
theorem Cx.Ok.unwish{X:Cx}{E:Value->Shared->Prop}(ok:(X.wish E).Ok):X.Ok:=
 ⟨ok.mod,ok.kind,ok.glob,ok.blt,ok.above,ok.inj,ok.has,ok.cab,ok.hd,ok.frames,ok.stk,ok.exf,ok.bs,ok.bsz,ok.noex,ok.exfs,ok.funs,ok.frf⟩
section
variable{X:Cx}{pins:List (Addr×Obj)}{σ:St}{H:Hp}{s:Shared}{E:Value->Shared->Prop}
theorem Inv.wish(I:Inv X pins σ H s)(E:Value->Shared->Prop):Inv (X.wish E) pins σ H s:=⟨I.ok.wish E,I.os,I.bare,I.base,I.loc,I.cell,I.free,I.freeC,I.pin,I.hok,I.len⟩
theorem Inv.unwish(I:Inv (X.wish E) pins σ H s):Inv X pins σ H s:=⟨I.ok.unwish,I.os,I.bare,I.base,I.loc,I.cell,I.free,I.freeC,I.pin,I.hok,I.len⟩
theorem SP.unwish{D:Ends}{f:Flow}{s':Shared}(h:SP (X.wish E) pins D f s'):SP X pins D f s':=by
 cases f with
 |next=>obtain⟨σ',H',I,q⟩:=h;exact⟨σ',H',I.unwish,q⟩
 |brk=>obtain⟨σ',H',I,q⟩:=h;exact⟨σ',H',I.unwish,q⟩
 |cont=>obtain⟨σ',H',I,q⟩:=h;exact⟨σ',H',I.unwish,q⟩
 |ret u=>obtain⟨v,σ',H',I,r,q⟩:=h;exact⟨v,σ',H',I.unwish,r,q⟩
theorem PSs.nox{st:List Stmt}{t:TS}(h:PSs X.nox st t):PSs X st t:=fun pins s σ H D I hw=>
 cV (h pins s σ H D (I.wish _) hw) (fun _ _ q=>q.unwish) fun _ _ z=>False.elim z
end
section
variable{X:Cx}{st:Stmt}{rest:List Stmt}{t u:TS}{e:Expr}{te:TE}{pos:Pos}
def wV:TS:=fun D σ H=>D.nx σ H
def nZ(t u:TS):TS:=fun D σ H=>t {D with nx:=u D} σ H
theorem jL:PSs X [] wV:=fun _ _ σ H _ I h=>gj ⟨σ,H,I,h⟩
theorem iH(h1:PS X st t)(h2:PSs X rest u):PSs X (st::rest) (nZ t u):=by
 intro pins s σ H D I h
 refine wpAny_execs_cons (iK (h1 pins s σ H {D with nx:=u D} I h) fun f s1 q=>?_)
 cases f with
 |next=>
  obtain⟨σ',H',I',q⟩:=q
  exact h2 pins s1 σ' H' D I' q
 |ret v=>exact q
 |brk=>exact q
 |cont=>exact q
theorem iN(h1:PS X st t):PSs X [st] t:=by
 intro pins s σ H D I h
 refine wpAny_execs_cons (iK (h1 pins s σ H D I h) fun f s1 q=>?_)
 cases f with
 |next=>exact gj q
 |ret v=>exact q
 |brk=>exact q
 |cont=>exact q
theorem Inv.quiet{pins:List (Addr×Obj)}{σ:St}{H:Hp}{s:Shared}(I:Inv X pins σ H s):interactive X.env=false:=by simp[interactive,I.ok.kind]
def wZ(te:TE):TS:=fun D σ H=>te σ H fun _ H1=>D.nx σ H1
theorem j0(he:PE X e te)(hs:swapsWith e none pos.line X.env=pure false:=by rfl):PS X (.Expr e pos) (wZ te):=by
 intro pins s σ H D I h
 exact wpAny_Expr_any (iK (he pins s σ H _ I h) fun v s1 ⟨x,H1,I1,r1,q1⟩=>⟨σ,H1,I1,q1⟩) I.quiet hs
def wQ(te:TE):TS:=fun D σ H=>te σ H D.rt
theorem jg(he:PE X e te):PS X (.Return (some e) pos) (wQ te):=by
 intro pins s σ H D I h
 exact wpAny_Return_some (iK (he pins s σ H _ I h) fun v s1 ⟨x,H1,I1,r1,q1⟩=>⟨x,σ,H1,I1,r1,q1⟩)
def Cq:TS:=fun D _ H=>D.rt .non H
def qA(c:TT)(t u:TS):TS:=fun D σ H=>c σ H fun b H1=>if b=true then t D σ H1 else u D σ H1
theorem jK{c:Expr}{a b:List Stmt}{tc:TT}(hc:PT X c tc)(ha:PSs X a t)(hb:PSs X b u):PS X (.If c a b pos) (qA tc t u):=by
 intro pins s σ H D I h
 refine wpAny_If (iK (hc pins s σ H _ I h) fun d s1 ⟨H1,I1,q1⟩=>?_)
 cases d with
 |true=>exact ha pins s1 σ H1 D I1 q1
 |false=>exact hb pins s1 σ H1 D I1 q1
def ym:TS:=fun _ _ _=>False
theorem oP:PS X st ym:=fun _ _ _ _ _ _ h=>h.elim
theorem GA{sts:List Stmt}:PSs X sts ym:=fun _ _ _ _ _ _ h=>h.elim
end
abbrev TG:=V->St->Hp->(St->Hp->Prop)->Prop
abbrev kU:=List V->St->Hp->(St->Hp->Prop)->Prop
def PG(X:Cx)(target:Expr)(t:TG):Prop:=
 ∀(pins:List (Addr×Obj)) (s:Shared) (σ:St) (H:Hp) (v:V) (u:Value) (Q:St->Hp->Prop),Inv X pins σ H s->RelV v u->t v σ H Q->
  wpAny (model X.prog X.w) X.A (assign target X.env u) (fun _ s'=>∃σ' H',Inv X pins σ' H' s'/\Q σ' H') X.xe s
def PGs(X:Cx)(ts:List Expr)(t:kU):Prop:=
 ∀(pins:List (Addr×Obj)) (s:Shared) (σ:St) (H:Hp) (vs:List V) (us:List Value) (Q:St->Hp->Prop),Inv X pins σ H s->Vals vs us->t vs σ H Q->
  wpAny (model X.prog X.w) X.A (assignInOrder ((assignEach ts X.env).map (·.2)) us) (fun _ s'=>∃σ' H',Inv X pins σ' H' s'/\Q σ' H') X.xe s
abbrev nV:=V->V->V->Hp->(Hp->Prop)->Prop
def PSet(X:Cx)(t:nV):Prop:=
 ∀(pins:List (Addr×Obj)) (s:Shared) (σ:St) (H:Hp) (o i v:V) (ov iv u:Value) (Q:Hp->Prop),Inv X pins σ H s->RelV o ov->RelV i iv->RelV v u->t o i v H Q->
  wpAny (model X.prog X.w) X.A (setItem ov iv u) (fun _ s'=>∃H',Inv X pins σ H' s'/\Q H') X.xe s
abbrev mF:=V->V->Hp->VK->Prop
def oX(X:Cx)(op:Operator)(t:mF):Prop:=
 ∀(pins:List (Addr×Obj)) (s:Shared) (σ:St) (H:Hp) (x y:V) (v u:Value) (Q:VK),Inv X pins σ H s->RelV x v->RelV y u->t x y H Q->
  wpAny (model X.prog X.w) X.A (inplaceOp op v u) (EP X pins σ Q) X.xe s
section
variable{X:Cx}{pos:Pos}
def kh(i:Nat):TG:=fun v σ H Q=>Q (σ.set i (some v)) H
theorem i3{i:Nat}{x:Str}(hN:X.N.Nodup)(hi:X.N[i]? =some x)(hx:Loc X.env.scope x)(hf:X.fn x=true\/X.env.scope.names.lookup x=some .local:=by first|exact .inl rfl|exact .inr rfl|assumption):PG X (.Name x pos) (kh i):=by
 intro pins s σ H v u Q I r h
 exact wpAny_assign_Name (vi I hN hi hx r (fun s' I'=>⟨_,H,I',h⟩) hf)
def Jc:kU:=fun vs σ H Q=>vs=[]/\Q σ H
def Jd(t:TG)(u:kU):kU:=fun vs σ H Q=>∃v r,vs=v::r/\t v σ H fun σ' H'=>u r σ' H' Q
theorem EJ:PGs X [] Jc:=by
 intro pins s σ H vs us Q I r h
 obtain⟨e,h⟩:=h
 subst e
 cases r
 exact assignInOrder_nil ⟨σ,H,I,h⟩
theorem FD{e:Expr}{es:List Expr}{t:TG}{u:kU}(h1:PG X e t)(h2:PGs X es u)
  (hs:(assignEach (e::es) X.env).map (·.2)=assign e X.env::(assignEach es X.env).map (·.2):=by rfl):PGs X (e::es) (Jd t u):=by
 intro pins s σ H vs us Q I r h
 obtain⟨v,vr,e1,h⟩:=h
 subst e1
 cases r with
 |cons r rr=>
  rw[hs]
  refine assignInOrder_cons (iK (h1 pins s σ H _ _ _ I r h) fun _ s1 ⟨σ1,H1,I1,q1⟩=>?_)
  exact h2 pins s1 σ1 H1 _ _ Q I1 rr q1
def Jb(K:PySem.W.Frag)(n:Nat)(t:kU):TG:=fun v σ H Q=>∃a xs,v= .ref a/\SqT K H a xs/\xs.length=n/\t xs σ H Q
theorem Dg{es:List Expr}{k:Nat}{t:kU}{n:Nat}(hc:X.calm=true)(h:PGs X es t)
  (hn:(assignEach es X.env).length=n:=by rfl) (hst:(assignEach es X.env).findIdx? (·.1)=none:=by rfl):PG X (.Tuple es k pos) (Jb X.K n t):=by
 intro pins s σ H v u Q I r hw
 obtain⟨a,xs,e1,hq,hl,hw⟩:=hw
 subst e1
 cases r
 obtain⟨its,rv,ht,hz⟩:=I.tuple hq
 refine assign_Tuple_tuple (I.ok.hd hc) ht (by simp [hn,<- hl,rv.length]) hst fun h' hx=>?_
 have I1:Inv X pins σ H {s with heap:=h'}:=I.kept (t':=s.toks) fun b o e=>hx b o (aU (aE e)) e
 exact h pins _ σ H xs _ Q I1 (by simpa using rv) hw
def BO(to ti:TE)(t:nV):TG:=fun v σ H Q=>to σ H fun o H1=>ti σ H1 fun i H2=>t o i v H2 fun H3=>Q σ H3
theorem ra{o i:Expr}{to ti:TE}{t:nV}(ho:PE X o to)(hi:PE X i ti)(hs:PSet X t)
  (ha:∀ v,assign (.Subscript o i pos) X.env v = (do
   let ov <- holding [v] (eval o X.env)
   let iv <- holding [v,ov] (eval i X.env)
   standAt pos
   holding [v,ov,iv] (setItem ov iv v)
   release [v,ov,iv] []):=by intro _;rfl):PG X (.Subscript o i pos) (BO to ti t):=by
 intro pins s σ H v u Q I r h
 rw[ha]
 refine aa (cg (iK (ho pins s σ H _ I h) fun ov s1 ⟨x,H1,I1,r1,q1⟩=>?_))
 refine aa (cg (iK (hi pins s1 σ H1 _ I1 q1) fun iv s2 ⟨y,H2,I2,r2,q2⟩=>?_))
 refine aa (gH (aa (cg (iK (hs pins s2 σ H2 x y v ov iv u _ I2 r1 r2 r q2) fun _ s3 ⟨H3,I3,q3⟩=>?_))))
 exact wpAny_release ⟨σ,H3,I3,q3⟩
def qE(te:TE)(g:TG):TS:=fun D σ H=>te σ H fun x H1=>g x σ H1 D.nx
theorem nG{tg e:Expr}{te:TE}{g:TG}(he:PE X e te)(hg:PG X tg g)(hs:swapsWithSole [tg] e pos.line X.env=pure false:=by rfl)(hw:swappedStores [tg] e X.env=pure none:=by rfl)
  (h1:(assignEach [tg] X.env).map (·.2)=[assign tg X.env]:=by rfl):PS X (.Assign [tg] e pos) (qE te g):=by
 intro pins s σ H D I h
 refine wpAny_Assign_stores (iK (he pins s σ H _ I h) fun v s1 ⟨x,H1,I1,r1,q1⟩=>?_) hs hw
 rw[h1]
 exact iK (hg pins s1 σ H1 x v _ I1 r1 q1) fun _ s2 q=>q
theorem iR{i:Nat}{x:Str}{e:Expr}{te:TE}{pos':Pos}(hN:X.N.Nodup)(hi:X.N[i]? =some x)(hx:Loc X.env.scope x)(he:PE X e te)(hs:swapsWith e (some (.Name x pos')) pos.line X.env=pure false:=by rfl)(hf:X.fn x=true\/X.env.scope.names.lookup x=some .local:=by first|exact .inl rfl|exact .inr rfl|assumption):
  PS X (.Assign [.Name x pos'] e pos) (qE te (kh i)):=by
 intro pins s σ H D I h
 refine wpAny_Assign_Name (iK (he pins s σ H _ I h) fun v s1 ⟨y,H1,I1,r1,q1⟩=>?_) hs
 exact vi I1 hN hi hx r1 (fun s2 I2=>⟨_,H1,I2,q1⟩) hf
def Ct(i:Nat)(te:TE)(ti:mF):TS:=fun D σ H=>∃x,σ[i]? =some (some x)/\te σ H fun y H1=>ti x y H1 fun z H2=>D.nx (σ.set i (some z)) H2
theorem Dc{i:Nat}{x:Str}{e:Expr}{te:TE}{op:Operator}{ti:mF}{pos':Pos}(hN:X.N.Nodup)(hi:X.N[i]? =some x)(hx:Loc X.env.scope x)(he:PE X e te)(ho:oX X op ti)(hf:X.fn x=true\/X.env.scope.names.lookup x=some .local:=by first|exact .inl rfl|exact .inr rfl|assumption):
  PS X (.AugAssign (.Name x pos') op e pos) (Ct i te ti):=by
 intro pins s σ H D I h
 obtain⟨v,e1,h⟩:=h
 obtain⟨m,hn,hl⟩:=I.loc
 have vis:qp X.env.scope x:=by rcases hx with k|k;exact .inl k;exact .inr (.inl k)
 obtain⟨u,r,l⟩:=hl i x v hi e1 vis
 refine wpAny_AugAssign_Name ?_
 have go:wpAny (model X.prog X.w) X.A (eval e X.env) (fun w s₂=>wpAny (model X.prog X.w) X.A (inplaceOp op u w) (fun r s₃=>wpAny (model X.prog X.w) X.A (storeName X.env x r) (fun _=>SP X pins D .next) X.xe s₃) X.xe s₂) X.xe s:=by
  refine iK (he pins s σ H _ I h) fun w s1 ⟨y,H1,I1,r1,q1⟩=>?_
  refine iK (ho pins s1 σ H1 v y u w _ I1 r r1 q1) fun z s2 ⟨zv,H2,I2,r2,q2⟩=>?_
  exact vi I2 hN hi hx r2 (fun s3 I3=>⟨_,H2,I3,q2⟩) hf
 rcases l with⟨hk,hm⟩|⟨hk,c,hc,hcell⟩
 ·exact wpAny_loadName_local I.ok.kind hk hn hm go
 ·rcases hk with hk|hk
  ·exact wpAny_loadName_cell I.ok.kind hk hc hcell go
  ·rcases hx with k|k
   ·have:X.env.scope.names.lookup x=some .free:=hk
    rw[k]at this;cases this
   ·have:X.env.scope.names.lookup x=some .free:=hk
    rw[k]at this;cases this
def xf(to ti te:TE)(tget:V->V->Hp->VK->Prop)(tip:mF)(tset:nV):TS:=fun D σ H=>to σ H fun o H1=>ti σ H1 fun i H2=>tget o i H2 fun x H3=>te σ H3 fun y H4=>tip x y H4 fun z H5=>tset o i z H5 fun H6=>D.nx σ H6
def B3(X:Cx)(t:V->V->Hp->VK->Prop):Prop:=
 ∀(pins:List (Addr×Obj)) (s:Shared) (σ:St) (H:Hp) (o i:V) (ov iv:Value) (Q:VK),Inv X pins σ H s->RelV o ov->RelV i iv->t o i H Q->
  wpAny (model X.prog X.w) X.A (getItem ov iv) (EP X pins σ Q) X.xe s
theorem yU{o i e:Expr}{to ti te:TE}{tget:V->V->Hp->VK->Prop}{tip:mF}{tset:nV}{op:Operator}{tpos:Pos}(ho:PE X o to)(hi:PE X i ti)(hg:B3 X tget)(he:PE X e te)(hp:oX X op tip)(hs:PSet X tset)
  (ha:∀ ov iv new,augStore i ov iv new = (do holding [new,ov,iv] (setItem ov iv new); release [new,ov,iv] []; pure .next):=by intros; rfl):PS X (.AugAssign (.Subscript o i tpos) op e pos) (xf to ti te tget tip tset):=by
 intro pins s σ H D I h
 refine wpAny_AugAssign_SubscriptAny (iK (ho pins s σ H _ I h) fun ov s1 ⟨x1,H1,I1,r1,q1⟩=>?_) ha
 refine iK (hi pins s1 σ H1 _ I1 q1) fun iv s2 ⟨x2,H2,I2,r2,q2⟩=>?_
 refine iK (hg pins s2 σ H2 x1 x2 ov iv _ I2 r1 r2 q2) fun old s3 ⟨x3,H3,I3,r3,q3⟩=>?_
 refine iK (he pins s3 σ H3 _ I3 q3) fun v s4 ⟨x4,H4,I4,r4,q4⟩=>?_
 refine iK (hp pins s4 σ H4 x3 x4 old v _ I4 r3 r4 q4) fun new s5 ⟨x5,H5,I5,r5,q5⟩=>?_
 exact iK (hs pins s5 σ H5 x1 x2 x5 ov iv new _ I5 r1 r2 r5 q5) fun _ s6 ⟨H6,I6,q6⟩=>⟨σ,H6,I6,q6⟩
end
section
variable{X:Cx}{pos:Pos}
def yn(c:TT)(tb:TS):TS:=fun D σ H=>∃W:Nat->St->Hp->Prop,(∃m,W m σ H)/\∀m σ H,W m σ H->
 c σ H fun b H1=>if b=true then ∃N:St->Hp->Prop,(∀σ' H',N σ' H'->∃m',m'<m/\W m' σ' H')/\tb {D with nx:=N,ct:=N,bk:=D.nx} σ H1 else D.nx σ H1
theorem qd{c:Expr}{body:List Stmt}{tc:TT}{tb:TS}(hp:PassesOwn (model X.prog X.w) X.A X.env X.xe)(hc:PT X c tc)(hb:PSs X body tb):PS X (.While c body [] pos) (yn tc tb):=by
 intro pins s σ H D I h
 obtain⟨W,⟨m0,w0⟩,turn⟩:=h
 refine wpAny_While (codeAny_whileLoop (fun n s'=>∃σ' H',Inv X pins σ' H' s'/\W n σ' H') ?_ m0 ⟨σ,H,I,w0⟩)
 rintro n s1 ⟨σ1,H1,I1,w1⟩
 refine dt hp (iK (hc pins s1 σ1 H1 _ I1 (turn n σ1 H1 w1)) fun b s2 ⟨H2,I2,q2⟩=>?_)
 cases b with
 | true=>
  obtain⟨N,hN,q2⟩:=q2
  rw[aw rfl]
  refine dt hp (iK (hb pins s2 σ1 H2 _ I2 q2) fun f s3 q3=>?_)
  cases f with
  |next=>
   obtain⟨σ3,H3,I3,n3⟩:=q3
   obtain⟨m',hm,w3⟩:=hN σ3 H3 n3
   exact⟨m',hm,σ3,H3,I3,w3⟩
  |cont=>
   obtain⟨σ3,H3,I3,n3⟩:=q3
   obtain⟨m',hm,w3⟩:=hN σ3 H3 n3
   exact⟨m',hm,σ3,H3,I3,w3⟩
  |brk=>exact q3
  |ret v=>exact q3
 |false=>
  rw[au bj]
  exact gj ⟨σ1,H2,I2,q2⟩
end
structure It where
 go:Nat->Hp->Prop
 yld:Nat->Hp->V->Hp->Prop
 stop:Nat->Hp->Prop
def lh(X:Cx)(pins:List (Addr×Obj))(H:Hp)(b:Addr):Prop:=
 H b=none/\b≠X.env.locals/\b∉X.fs/\(b∈X.ex\/X.s₀.heap.objs.size<=b)/\(∀x c,X.env.cells.lookup x=some c->c≠b)/\∀p∈X.pn++pins,p.1≠b
theorem Inv.fpOk{X:Cx}{pins:List (Addr×Obj)}{σ:St}{H H':Hp}{s:Shared}{b:Addr}(I:Inv X pins σ H s)(hb:s.heap.objs.size<=b)(hn:H' b=none):lh X pins H' b:=by
 refine⟨hn,dG (bw I.lt hb),I.nofs hb,.inr (bz I.sz hb),fun x c e z=>?_,fun p hp z=>?_⟩
 ·obtain⟨v,q⟩:=I.cell x c e
  exact absurd (bw q.lt (by rw[z];exact hb)) (cw _)
 ·exact absurd (bw (aE (I.pin p hp).1) (by rw[z];exact hb)) (cw _)
structure Turn(P:Program)(w:World)(K:PySem.W.Frag)(tg:Expr)(J:It)(fp:List Addr)(it:Addr)(tn:Nat->Heap->Prop):Prop where
 mem:it∈fp
 obj:∀i h,tn i h->∀b∈fp,∃o,h.get? b=some o/\∀v,o.data≠ .cell v
 keep:∀i h h',tn i h->(∀b∈fp,∀o,h.get? b=some o->h'.get? b=some o)->tn i h'
 item:∀(X:Cx),X.prog=P->X.w=w->X.K=K->X.calm=true->∀(i:Nat) (pins:List (Addr×Obj)) (s:Shared) (σ:St) (H:Hp) (E:Value->Shared->Prop),Inv X pins σ H s->(∀b∈fp,lh X pins H b)->tn i s.heap->J.go i H->
  wpAny (model P w) X.A (pyNext (.ref it)) (fun r s1=>∃u,r=some u/\
   wpAny (model P w) X.A (letOwnedTupleGo tg (.ref it) u) (fun _ s2=>∃x H',Inv X pins σ H' s2/\RelV x u/\J.yld i H x H'/\tn (i+1) s2.heap/\∀b∈fp,H' b=none) E s1) E s
 done:∀(X:Cx),X.prog=P->X.w=w->X.K=K->X.calm=true->∀(i:Nat) (pins:List (Addr×Obj)) (s:Shared) (σ:St) (H:Hp) (E:Value->Shared->Prop),Inv X pins σ H s->(∀b∈fp,lh X pins H b)->tn i s.heap->J.stop i H->
  wpAny (model P w) X.A (pyNext (.ref it)) (fun r s1=>r=none/\Inv X pins σ H s1) E s
 self:∀(A:Around) (i:Nat) (s:Shared) (Q:Value->Shared->Prop) (E:Value->Shared->Prop),tn i s.heap->Q (.ref it) s->wpAny (model P w) A (pyIter (.ref it)) Q E s
abbrev TI:=St->Hp->(It->Hp->Prop)->Prop
def wA(X:Cx)(pins:List (Addr×Obj))(σ:St)(tg:Expr)(R:It->Hp->Prop)(itv:Value)(s2:Shared):Prop:=
 ∃(it:Addr) (fp:List Addr) (tn:Nat->Heap->Prop) (J:It) (H':Hp),itv= .ref it/\Inv X pins σ H' s2/\Turn X.prog X.w X.K tg J fp it tn/\tn 0 s2.heap/\(∀b∈fp,lh X pins H' b)/\R J H'
def PI(X:Cx)(tg iter:Expr)(wi:TI):Prop:=
 ∀(pins:List (Addr×Obj)) (s:Shared) (σ:St) (H:Hp) (R:It->Hp->Prop),Inv X pins σ H s->wi σ H R->
  wpAny (model X.prog X.w) X.A (eval iter X.env) (fun v s1=>wpAny (model X.prog X.w) X.A (pyIter v) (wA X pins σ tg R) X.xe s1) X.xe s
theorem qO {M:Model}{A:Around}{E:Value->Shared->Prop}{s:Shared}{tg:Expr}{it:Addr}{u:Value}{o:Obj}{n:String}{vs:Array Value}{Q:Unit->Shared->Prop}(ho:s.heap.get? it=some o)(hc:o.cls= .type n)(hd:o.data= .fields vs)
    (hn:["enumerate","zip","dict_itemiterator","dict_reverseitemiterator","odict_iterator","itertools.zip_longest","itertools.pairwise"].contains n=false) (hQ:Q () s):wpAny M A (letOwnedTupleGo tg (.ref it) u) Q E s:=by
  unfold letOwnedTupleGo
  cases tg <;>first
    |exact ak hQ
    | (cases u<;>first
        |exact ak hQ
        | (refine aa (wpAny_load ho ?_)
           rw[hc,hd]
           show wpAny M A (if(["enumerate","zip","dict_itemiterator","dict_reverseitemiterator","odict_iterator","itertools.zip_longest","itertools.pairwise"].contains n&&vs[0]? ==some (rawInt _))=true then _ else _) Q E s
           rw[au (by intro h;rw[hn,Bool.false_and]at h;cases h)]
           exact ak hQ))
def jS(K:PySem.W.Frag)(a:Addr):It:=
 ⟨fun i H=>∃xs x,SqL K H a xs/\xs[i]? =some x,fun i H x H'=>H'=H/\∀xs,SqL K H a xs->xs[i]? =some x,fun i H=>∃xs,SqL K H a xs/\xs.length<=i⟩
def wD(K:PySem.W.Frag)(a:Addr):It:=
 ⟨fun i H=>∃xs x,SqT K H a xs/\xs[i]? =some x,fun i H x H'=>H'=H/\∀xs,SqT K H a xs->xs[i]? =some x,fun i H=>∃xs,SqT K H a xs/\xs.length<=i⟩
def lG(lo:Int)(n:Nat):It:=⟨fun i _=>i<n,fun i H x H'=>H'=H/\x= .int (lo+i),fun i _=>n<=i⟩
theorem GJ{P:Program}{w:World}{K:PySem.W.Frag}{tg:Expr}(a it:Addr):Turn P w K tg (jS K a) [it] it (fun i h=>h.IsListIter it a i)where
 mem:=by simp
 obj:=fun i h st b hb=>by
  have e:b=it:=by simpa using hb
  subst e
  obtain⟨o,e,c,d⟩:=st
  exact⟨o,e,fun v z=>by rw[d]at z;cases z⟩
 keep:=fun i h h' st k=>st.at fun o e=>k it (by simp) o e
 item:=by
  intro X hP hw hK hc i pins s σ H E I hf st hg
  subst hP hw hK
  obtain⟨xs,x,hq,hx⟩:=hg
  obtain⟨its,rv,p,hz⟩:=I.list hq
  obtain⟨u,hu,ru⟩:=rv.get hx
  obtain⟨f0,f1,f2,f3,f4,f5⟩:=hf it (by simp)
  refine fZ st p.isList (x:=u) (by simpa using hu) fun h' st' sb=>?_
  have I1:Inv X pins σ H {s with heap:=h'}:=I.turned (t':=s.toks) (fun b o hb e=>(sb.2 b hb).trans e) f0 f1 f3 f4 f5
  obtain⟨o,e,c,d⟩:=id st'
  exact⟨u,rfl,qO (s:={s with heap:=h'}) e c d (by decide) ⟨x,H,I1,ru,⟨rfl,fun ys hy=>by rw[I.list_inj hy hq];exact hx⟩,st',fun b hb=>(hf b hb).1⟩⟩
 done:=by
  intro X hP hw hK hc i pins s σ H E I hf st hg
  subst hP hw hK
  obtain⟨xs,hq,hx⟩:=hg
  obtain⟨its,rv,p,hz⟩:=I.list hq
  obtain⟨f0,f1,f2,f3,f4,f5⟩:=hf it (by simp)
  have hl:=rv.length
  exact gp (I.ok.hd hc) st p.isList (by simp;lia) fun h' eb=>⟨rfl,I.turned (t':=s.toks) (fun b o hb e=>eb b o hb e) f0 f1 f3 f4 f5⟩
 self:=fun _ _ _ _ _ st h=>wpAny_pyIter_listiter st h
theorem Ht{P:Program}{w:World}{K:PySem.W.Frag}{tg:Expr}(a it:Addr):Turn P w K tg (wD K a) [it] it (fun i h=>h.IsTupleIter it a i)where
 mem:=by simp
 obj:=fun i h st b hb=>by
  have e:b=it:=by simpa using hb
  subst e
  obtain⟨o,e,c,d⟩:=st
  exact⟨o,e,fun v z=>by rw[d]at z;cases z⟩
 keep:=fun i h h' st k=>st.at fun o e=>k it (by simp) o e
 item:=by
  intro X hP hw hK hc i pins s σ H E I hf st hg
  subst hP hw hK
  obtain⟨xs,x,hq,hx⟩:=hg
  obtain⟨its,rv,p,hz⟩:=I.tuple hq
  obtain⟨u,hu,ru⟩:=rv.get hx
  obtain⟨f0,f1,f2,f3,f4,f5⟩:=hf it (by simp)
  refine wpAny_pyNext_tuple_item st (show s.heap.IsTuple a its.toArray from p) (x:=u) (by simpa using hu) fun h' st' sb=>?_
  have I1:Inv X pins σ H {s with heap:=h'}:=I.turned (t':=s.toks) (fun b o hb e=>(sb.2 b hb).trans e) f0 f1 f3 f4 f5
  obtain⟨o,e,c,d⟩:=id st'
  exact⟨u,rfl,qO (s:={s with heap:=h'}) e c d (by decide) ⟨x,H,I1,ru,⟨rfl,fun ys hy=>by rw[I.tuple_inj hy hq];exact hx⟩,st',fun b hb=>(hf b hb).1⟩⟩
 done:=by
  intro X hP hw hK hc i pins s σ H E I hf st hg
  subst hP hw hK
  obtain⟨xs,hq,hx⟩:=hg
  obtain⟨its,rv,p,hz⟩:=I.tuple hq
  obtain⟨f0,f1,f2,f3,f4,f5⟩:=hf it (by simp)
  have hl:=rv.length
  exact wpAny_pyNext_tuple_end (I.ok.hd hc) st (show s.heap.IsTuple a its.toArray from p) (by simp;lia) fun h' eb=>⟨rfl,I.turned (t':=s.toks) (fun b o hb e=>eb b o hb e) f0 f1 f3 f4 f5⟩
 self:=fun _ _ _ _ _ st h=>wpAny_pyIter_tupleiter st h
theorem Hs{P:Program}{w:World}{K:PySem.W.Frag}{tg:Expr}(it:Addr)(lo:Int)(n:Nat):Turn P w K tg (lG lo n) [it] it (fun i h=>IsRangeIter h it (lo+(i:Nat)*1) ((n:Int)-(i:Nat)) 1)where
 mem:=by simp
 obj:=fun i h st b hb=>by
  have e:b=it:=by simpa using hb
  subst e
  exact⟨_,st,fun v z=>by
   have z':Data.fields _=Data.cell v:=z
   cases z'⟩
 keep:=fun i h h' st k=>k it (by simp) _ st
 item:=by
  intro X hP hw hK hc i pins s σ H E I hf st hg
  subst hP hw hK
  obtain⟨f0,f1,f2,f3,f4,f5⟩:=hf it (by simp)
  have W:=Walks.range (prog:=X.prog) (w:=X.w) (I.ok.hd hc) it lo 1 n
  refine W.item i s _ _ hg st fun v h' tk hv st' kk=>?_
  obtain⟨t,rfl⟩:=hv
  have I1:Inv X pins σ H {s with heap:=h',toks:=tk}:=I.turned (fun b o hb e=>kk b o (by simpa using hb) e) f0 f1 f3 f4 f5
  refine⟨_,rfl,qO (s:={s with heap:=h',toks:=tk}) (n:="range_iterator") st' rfl rfl (by decide) ⟨.int (lo+i),H,I1,⟨t,?_⟩,⟨rfl,rfl⟩,st',fun b hb=>(hf b hb).1⟩⟩
  rw[hZ]
 done:=by
  intro X hP hw hK hc i pins s σ H E I hf st hg
  subst hP hw hK
  obtain⟨f0,f1,f2,f3,f4,f5⟩:=hf it (by simp)
  exact wpAny_pyNext_range_end (I.ok.hd hc) st (by have:n<=i:=hg;lia) fun h' eb=>⟨rfl,I.turned (t':=s.toks) (fun b o hb e=>eb b o hb e) f0 f1 f3 f4 f5⟩
 self:=fun _ _ _ _ _ st h=>wpAny_pyIter_rangeiter st h
section
variable{X:Cx}{tg:Expr}
def j2(K:PySem.W.Frag)(tl:TE):TI:=fun σ H R=>tl σ H fun x H1=>∃a,x= .ref a/\(∃xs,SqL K H1 a xs)/\R (jS K a) H1
def BK(K:PySem.W.Frag)(tl:TE):TI:=fun σ H R=>tl σ H fun x H1=>∃a,x= .ref a/\(∃xs,SqT K H1 a xs)/\R (wD K a) H1
theorem ka{l:Expr}{tl:TE}(hl:PE X l tl):PI X tg l (j2 X.K tl):=by
 intro pins s σ H R I h
 refine iK (hl pins s σ H _ I h) fun v s1 ⟨x,H1,I1,r1,q1⟩=>?_
 obtain⟨a,e,⟨xs,hq⟩,q⟩:=q1
 subst e
 cases r1
 obtain⟨its,rv,p,hz⟩:=I1.list hq
 refine dw p.isList ?_
 refine⟨s1.heap.objs.size,[s1.heap.objs.size],_,_,H1,rfl,I1.kept (t':=s1.toks) fun b o e=>af _ e,GJ a _,⟨_,aF _ rfl,rfl,rfl⟩,fun b hb=>?_,q⟩
 have e:b=s1.heap.objs.size:=by simpa using hb
 subst e
 exact I1.fpOk (av _) (I1.hok.fresh (av _))
theorem De{l:Expr}{tl:TE}(hl:PE X l tl):PI X tg l (BK X.K tl):=by
 intro pins s σ H R I h
 refine iK (hl pins s σ H _ I h) fun v s1 ⟨x,H1,I1,r1,q1⟩=>?_
 obtain⟨a,e,⟨xs,hq⟩,q⟩:=q1
 subst e
 cases r1
 obtain⟨its,rv,p,hz⟩:=I1.tuple hq
 refine fo (show s1.heap.IsTuple a its.toArray from p) ?_
 refine⟨s1.heap.objs.size,[s1.heap.objs.size],_,_,H1,rfl,I1.kept (t':=s1.toks) fun b o e=>af _ e,Ht a _,⟨_,aF _ rfl,rfl,rfl⟩,fun b hb=>?_,q⟩
 have e:b=s1.heap.objs.size:=by simpa using hb
 subst e
 exact I1.fpOk (av _) (I1.hok.fresh (av _))
theorem Ae{pins:List (Addr×Obj)}{σ:St}{H:Hp}{s:Shared}{R:It->Hp->Prop}{E:Value->Shared->Prop}{lo hi:Int}{t u v:Tok}{tk:Nat}(I:Inv X pins σ H s)(h1:-(2^62)<=lo)(h2:lo<2^62)(h3:-(2^62)<=hi)(h4:hi<2^62)
  (q:R (lG lo (hi-lo).toNat) H):wpAny (model X.prog X.w) X.A (pyIter (.ref s.heap.objs.size)) (wA X pins σ tg R) E {s with heap:=s.heap.push {cls:=.type "range",data:=.fields #[.int lo t,.int hi u,.int 1 v]},toks:=tk}:=by
 refine wpAny_pyIter_range (IsRange.new ..) (small_one h1 h2 h3 h4) ?_
 have I1:Inv X pins σ H {s with heap:=s.heap.push {cls:=.type "range",data:=.fields #[.int lo t,.int hi u,.int 1 v]},toks:=tk}:=I.kept fun b o e=>af _ e
 refine⟨(s.heap.push {cls:=.type "range",data:=.fields #[.int lo t,.int hi u,.int 1 v]}).objs.size,[(s.heap.push {cls:=.type "range",data:=.fields #[.int lo t,.int hi u,.int 1 v]}).objs.size],_,_,H,rfl,
  I1.kept (t':=tk) fun b o e=>af _ e,Hs _ lo (hi-lo).toNat,?_,fun b hb=>?_,q⟩
 ·have e1:lo+((0:Nat):Int)*1=lo:=by simp
  have e2:(((hi-lo).toNat:Nat):Int)-((0:Nat):Int)=Builtin.Range.rangeSize lo hi 1:=by rw[rangeSize_one];split<;>lia
  show IsRangeIter _ _ (lo+((0:Nat):Int)*1) ((((hi-lo).toNat:Nat):Int)-((0:Nat):Int)) 1
  rw[e1,e2]
  exact aF _ rfl
 ·have e:b=(s.heap.push {cls:=.type "range",data:=.fields #[.int lo t,.int hi u,.int 1 v]}).objs.size:=by simpa using hb
  subst e
  exact I1.fpOk (av _) (I1.hok.fresh (av _))
def pJ(ta:TA):TI:=fun σ H R=>ta σ H fun vs H1=>∃j:Int,vs=[.int j]/\-(2^62)<=j/\j<2^62/\R (lG 0 j.toNat) H1
def BL(ta:TA):TI:=fun σ H R=>ta σ H fun vs H1=>∃i j:Int,vs=[.int i,.int j]/\(-(2^62)<=i/\i<2^62/\-(2^62)<=j/\j<2^62)/\R (lG i (j-i).toNat) H1
theorem sf{a:Expr}{ta:TA}{p pos:Pos}(hg:Gl X "range")(hm:X.mg "range"=none)(ha:PA X [a] ta)(hs:starEach [a] X.env=[(false,eval a X.env)]:=by rfl):PI X tg (.Call (.Name "range" p) [a] [] pos) (pJ ta):=by
 intro pins s σ H R I h
 refine Call_ (lJ I hg hm boot_range (cz (iK (ha pos pins s σ H _ I h) fun us s1 ⟨vs,H1,I1,r1,q1⟩=>?_) hs rfl))
 obtain⟨j,e,q1,q2,q⟩:=q1
 subst e
 cases r1 with
 |cons r rr=>
  cases rr
  obtain⟨t,rfl⟩:=r
  exact call_range_1 (Ae I1 (by lia) (by lia) q1 q2 (by simpa using q))
theorem Gv{a b:Expr}{ta:TA}{p pos:Pos}(hg:Gl X "range")(hm:X.mg "range"=none)(ha:PA X [a,b] ta)(hs:starEach [a,b] X.env=[(false,eval a X.env),(false,eval b X.env)]:=by rfl)(hs2:starEach [b] X.env=[(false,eval b X.env)]:=by rfl):
  PI X tg (.Call (.Name "range" p) [a,b] [] pos) (BL ta):=by
 intro pins s σ H R I h
 refine Call_ (lJ I hg hm boot_range (cz (iK (ha pos pins s σ H _ I h) fun us s1 ⟨vs,H1,I1,r1,q1⟩=>?_) (by rw[hs,hs2]) (by rw[hs2];rfl)))
 obtain⟨i,j,e,⟨q1,q2,q3,q4⟩,q⟩:=q1
 subst e
 cases r1 with
 | cons r rr=>
  cases rr with
  |cons r' rr=>
   cases rr
   obtain⟨t,rfl⟩:=r
   obtain⟨t',rfl⟩:=r'
   exact call_range_2 (Ae I1 q1 q2 q3 q4 q)
def qC(wi:TI)(g:TG)(tb:TS):TS:=fun D σ H=>wi σ H fun J H1=>∃W:Nat->Nat->St->Hp->Prop,(∃m,W 0 m σ H1)/\∀i m σ H,W i m σ H->
 (J.stop i H/\D.nx σ H)\/(J.go i H/\∃N:St->Hp->Prop,(∀σ' H',N σ' H'->∃m',m'<m/\W (i+1) m' σ' H')/\∀x H',J.yld i H x H'->g x σ H' fun σ2 H2=>tb {D with nx:=N,ct:=N,bk:=D.nx} σ2 H2)
def pV(fp:List Addr)(h:Heap):List (Addr×Obj):=fp.filterMap fun b=>(h.get? b).map fun o=>(b,o)
theorem sj{fp:List Addr}{h:Heap}{b:Addr}{o:Obj}(hb:b∈fp)(e:h.get? b=some o):(b,o)∈pV fp h:=List.mem_filterMap.mpr ⟨b,hb,by rw[e];rfl⟩
theorem Gn{fp:List Addr}{h:Heap}{p:Addr×Obj}(hp:p∈pV fp h):p.1∈fp/\h.get? p.1=some p.2:=by
 obtain⟨b,hb,e⟩:=List.mem_filterMap.mp hp
 cases q:h.get? b with
 |none=>rw[q]at e;cases e
 |some o=>
  rw[q]at e
  have e':(b,o)=p:=aO e
  subst e'
  exact⟨hb,q⟩
theorem Inv.pinned{pins:List (Addr×Obj)}{σ:St}{H:Hp}{s:Shared}{fp:List Addr}(I:Inv X pins σ H s)(hf:∀b∈fp,lh X pins H b)(ho:∀b∈fp,∃o,s.heap.get? b=some o/\∀v,o.data≠ .cell v):Inv X (pins++pV fp s.heap) σ H s:=
 I.pins_of fun p hp=>(aQ.mp hp).elim (fun z=>I.pin p (bp _ z)) fun z=>by
  obtain⟨hb,e⟩:=Gn z
  obtain⟨f0,f1,f2,_⟩:=hf p.1 hb
  obtain⟨o,e',d⟩:=ho p.1 hb
  rw[e]at e';cases e'
  exact⟨e,f0,f1,f2,d⟩
theorem Inv.unpinned{pins pl:List (Addr×Obj)}{σ:St}{H:Hp}{s:Shared}(I:Inv X (pins++pl) σ H s):Inv X pins σ H s:=I.pins_of fun p hp=>I.pin p (bp _ (bx _ hp))
theorem j4{iter:Expr}{body:List Stmt}{wi:TI}{g:TG}{tb:TS}{pos:Pos}(hp:PassesOwn (model X.prog X.w) X.A X.env X.xe)(hc:X.calm=true)(hi:PI X tg iter wi)(hg:PG X tg g)(hb:PSs X body tb)
  (hs:∀x,foldedSetIterable iter X.env x=pure x:=by intro _;rfl):PS X (.For tg iter body [] pos) (qC wi g tb):=by
 intro pins s σ H D I h
 refine wpAny_For (iK (hi pins s σ H _ I h) fun v s1 h1=>iK h1 fun itv s2 h2=>?_) hs
 obtain⟨it,fp,tn,J,H2,e,I2,T,st2,f2,W,⟨m0,w0⟩,turn⟩:=h2
 subst e
  -- what stays true of the iterator's objects through the loop
 have stat:∀{H':Hp},(∀b∈fp,H' b=none)->∀b∈fp,lh X pins H' b:=fun hn b hb=>⟨hn b hb,(f2 b hb).2⟩
 refine codeAny_forLoop_any (fun n s'=>∃i σ' H',Inv X pins σ' H' s'/\tn i s'.heap/\(∀b∈fp,H' b=none)/\W i n σ' H') ?_ m0 ⟨0,σ,H2,I2,st2,fun b hb=>(f2 b hb).1,w0⟩
 rintro n s3 ⟨i,σ3,H3,I3,st3,fr3,w3⟩
 rcases turn i n σ3 H3 w3 with⟨stop,qn⟩|⟨go,N,hN,step⟩
 ·refine dt hp (iK (T.done X rfl rfl rfl hc i pins s3 σ3 H3 X.xe I3 (stat fr3) st3 stop) fun r s4 ⟨hr,I4⟩=>?_)
  subst hr
  exact gj ⟨σ3,H3,I4,qn⟩
 ·refine dt hp (iK (T.item X rfl rfl rfl hc i pins s3 σ3 H3 X.xe I3 (stat fr3) st3 go) fun r s4 ⟨u,hr,h4⟩=>?_)
  subst hr
  refine dt hp (iK h4 fun _ s5 ⟨x,H5,I5,r5,y5,st5,fr5⟩=>?_)
  have I5':=I5.pinned (stat fr5) (T.obj _ _ st5)
  refine dt hp (iK (hg _ s5 σ3 H5 x u _ I5' r5 (step x H5 y5)) fun _ s6 ⟨σ6,H6,I6,q6⟩=>?_)
  refine dt hp (iK (hb _ s6 σ6 H6 _ I6 q6) fun f s7 q7=>?_)
  have again:∀{σ7:St} {H7:Hp},Inv X (pins++pV fp s5.heap) σ7 H7 s7->N σ7 H7->∃m,m<n/\∃i σ' H',Inv X pins σ' H' s7/\tn i s7.heap/\(∀b∈fp,H' b=none)/\W i m σ' H':=fun{σ7 H7} I7 n7=>by
   obtain⟨m',hm,w7⟩:=hN σ7 H7 n7
   refine⟨m',hm,i+1,σ7,H7,I7.unpinned,T.keep _ _ _ st5 fun b hb o e=>(I7.pin (b,o) (bp _ (bp _ (sj hb e)))).1,fun b hb=>?_,w7⟩
   obtain⟨o,e,d⟩:=T.obj _ _ st5 b hb
   exact(I7.pin (b,o) (bp _ (bp _ (sj hb e)))).2.1
  cases f with
  |next=>obtain⟨σ7,H7,I7,n7⟩:=q7;exact again I7 n7
  |cont=>obtain⟨σ7,H7,I7,n7⟩:=q7;exact again I7 n7
  |brk=>obtain⟨σ7,H7,I7,q7⟩:=q7;exact⟨σ7,H7,I7.unpinned,q7⟩
  |ret v=>obtain⟨x7,σ7,H7,I7,r7,q7⟩:=q7;exact⟨x7,σ7,H7,I7.unpinned,r7,q7⟩
end
theorem k7{K:PySem.W.Frag}{a:Addr}{xs:List V}{g:TG}{tb:TS}{D:Ends}{σ:St}{H:Hp}(Pv:Nat->St->Hp->Prop)(h0:Pv 0 σ H)(hl:∀i σ H,i<=xs.length->Pv i σ H->SqL K H a xs)
  (hs:∀i x σ H,xs[i]? =some x->Pv i σ H->g x σ H fun σ2 H2=>tb {D with nx:=Pv (i+1),ct:=Pv (i+1),bk:=D.nx} σ2 H2) (hd:∀σ H,Pv xs.length σ H->D.nx σ H):
  ∃W:Nat->Nat->St->Hp->Prop,(∃m,W 0 m σ H)/\∀i m σ H,W i m σ H->
   ((jS K a).stop i H/\D.nx σ H)\/((jS K a).go i H/\∃N:St->Hp->Prop,(∀σ' H',N σ' H'->∃m',m'<m/\W (i+1) m' σ' H')/\∀x H',(jS K a).yld i H x H'->g x σ H' fun σ2 H2=>tb {D with nx:=N,ct:=N,bk:=D.nx} σ2 H2):=by
 refine⟨fun i m σ H=>m=xs.length-i/\i<=xs.length/\Pv i σ H,⟨xs.length,by simp,bI _,h0⟩,?_⟩
 rintro i m σ H ⟨rfl,hi,p⟩
 have q:=hl i σ H hi p
 by_cases hlt:i<xs.length
 ·refine .inr ⟨⟨xs,xs[i],q,by simp[hlt]⟩,Pv (i+1),fun σ' H' p'=>⟨xs.length-(i+1),by lia,rfl,hlt,p'⟩,fun x H' y=>?_⟩
  obtain⟨e,y⟩:=y
  subst e
  exact hs i x σ _ (y xs q) p
 ·have e:i=xs.length:=by lia
  subst e
  exact .inl ⟨⟨xs,q,av _⟩,hd σ H p⟩
theorem rZ{lo:Int}{n:Nat}{g:TG}{tb:TS}{D:Ends}{σ:St}{H:Hp}(Pv:Nat->St->Hp->Prop)(h0:Pv 0 σ H)
  (hs:∀i σ H,i<n->Pv i σ H->g (.int (lo+i)) σ H fun σ2 H2=>tb {D with nx:=Pv (i+1),ct:=Pv (i+1),bk:=D.nx} σ2 H2) (hd:∀σ H,Pv n σ H->D.nx σ H):
  ∃W:Nat->Nat->St->Hp->Prop,(∃m,W 0 m σ H)/\∀i m σ H,W i m σ H->
   ((lG lo n).stop i H/\D.nx σ H)\/((lG lo n).go i H/\∃N:St->Hp->Prop,(∀σ' H',N σ' H'->∃m',m'<m/\W (i+1) m' σ' H')/\∀x H',(lG lo n).yld i H x H'->g x σ H' fun σ2 H2=>tb {D with nx:=N,ct:=N,bk:=D.nx} σ2 H2):=by
 refine⟨fun i m σ H=>m=n-i/\i<=n/\Pv i σ H,⟨n,by simp,bI _,h0⟩,?_⟩
 rintro i m σ H ⟨rfl,hi,p⟩
 by_cases hlt:i<n
 ·refine .inr ⟨hlt,Pv (i+1),fun σ' H' p'=>⟨n-(i+1),by lia,rfl,hlt,p'⟩,fun x H' y=>?_⟩
  obtain⟨e,y⟩:=y
  subst e y
  exact hs i σ _ hlt p
 ·have e:i=n:=by lia
  subst e
  exact .inl ⟨av _,hd σ H p⟩
theorem rX{c:TT}{tb:TS}{D:Ends}{σ:St}{H:Hp}(Pv:St->Hp->Prop)(μ:St->Hp->Nat)(h0:Pv σ H)
  (hs:∀σ H,Pv σ H->c σ H fun b H1=>if b=true then tb {D with nx:=fun σ' H'=>Pv σ' H'/\μ σ' H'<μ σ H,ct:=fun σ' H'=>Pv σ' H'/\μ σ' H'<μ σ H,bk:=D.nx} σ H1 else D.nx σ H1)
  (mono:∀σ H Q Q',(∀b H1,Q b H1->Q' b H1)->c σ H Q->c σ H Q'):yn c tb D σ H:=by
 refine⟨fun m σ H=>m=μ σ H/\Pv σ H,⟨_,rfl,h0⟩,?_⟩
 rintro m σ H ⟨rfl,p⟩
 refine mono σ H _ _ (fun b H1 q=>?_) (hs σ H p)
 cases b with
 |true=>exact⟨_,fun σ' H' ⟨p',l⟩=>⟨_,l,rfl,p'⟩,q⟩
 |false=>exact q
abbrev R2:=V->V->Hp->VK->Prop
def OpR(X:Cx)(f:Value->Value->Sem Value)(r:R2):Prop:=
 ∀(pins:List (Addr×Obj)) (s:Shared) (σ:St) (H:Hp) (x y:V) (v u:Value) (Q:VK),Inv X pins σ H s->RelV x v->RelV y u->r x y H Q->
  wpAny (model X.prog X.w) X.A (f v u) (EP X pins σ Q) X.xe s
def sN(X:Cx)(f:Value->Sem Value)(r:V->Hp->VK->Prop):Prop:=
 ∀(pins:List (Addr×Obj)) (s:Shared) (σ:St) (H:Hp) (x:V) (v:Value) (Q:VK),Inv X pins σ H s->RelV x v->r x H Q->
  wpAny (model X.prog X.w) X.A (f v) (EP X pins σ Q) X.xe s
def jbs(X:Cx)(f:Value)(r:List V->Hp->VK->Prop):Prop:=
 ∀(pins:List (Addr×Obj)) (s:Shared) (σ:St) (H:Hp) (xs:List V) (us:List Value) (Q:VK),Inv X pins σ H s->Vals xs us->r xs H Q->
  wpAny (model X.prog X.w) X.A (call f us) (EP X pins σ Q) X.xe s
def JI(X:Cx)(r:V->Hp->(Bool->Hp->Prop)->Prop):Prop:=
 ∀(pins:List (Addr×Obj)) (s:Shared) (σ:St) (H:Hp) (x:V) (v:Value) (Q:Bool->Hp->Prop),Inv X pins σ H s->RelV x v->r x H Q->
  wpAny (model X.prog X.w) X.A (truthy v) (TP X pins σ Q) X.xe s
def nc(r:R2)(ta tb:TE):TE:=fun σ H Q=>ta σ H fun x H1=>tb σ H1 fun y H2=>r x y H2 Q
def sY(r:V->Hp->VK->Prop)(ta:TE):TE:=fun σ H Q=>ta σ H fun x H1=>r x H1 Q
def rI(C:Int->Int->Prop)(g:Int->Int->V):R2:=fun x y H Q=>∃i j,x= .int i/\y= .int j/\C i j/\Q (g i j) H
def lQ(g:Int->Int->V):R2:=fun x y H Q=>∃i j,x= .int i/\y= .int j/\Q (g i j) H
def rU(g:Int->V):V->Hp->VK->Prop:=fun x H Q=>∃i,x= .int i/\Q (g i) H
section
variable{X:Cx}{a b c:Expr}{ta tb tc:TE}{pos:Pos}
theorem wx(ha:PE X a ta)(hb:PE X b tb){pins:List (Addr×Obj)}{s:Shared}{σ:St}{H:Hp}{R:V->V->Hp->Prop}(I:Inv X pins σ H s)
  (h:ta σ H fun x H1=>tb σ H1 fun y H2=>R x y H2) {Q:Value->Shared->Prop} {f:Value->Value->Sem Value}
  (hf:∀v u s2 x y H2,Inv X pins σ H2 s2->RelV x v->RelV y u->R x y H2->wpAny (model X.prog X.w) X.A (f v u) Q X.xe s2):
  wpAny (model X.prog X.w) X.A (eval a X.env) (fun v s₁=>wpAny (model X.prog X.w) X.A (eval b X.env) (fun u s₂=>wpAny (model X.prog X.w) X.A (f v u) Q X.xe s₂) X.xe s₁) X.xe s:=by
 refine iK (ha pins s σ H _ I h) fun v s1 ⟨x,H1,I1,r1,q1⟩=>?_
 refine iK (hb pins s1 σ H1 _ I1 q1) fun u s2 ⟨y,H2,I2,r2,q2⟩=>?_
 exact hf v u s2 x y H2 I2 r1 r2 q2
theorem i5{op:Operator}{r:R2}(ho:OpR X (binaryOp op) r)(ha:PE X a ta)(hb:PE X b tb):PE X (.BinOp a op b pos) (nc r ta tb):=by
 intro pins s σ H Q I h
 exact wpAny_BinOp (wx ha hb I h fun v u s2 x y H2 I2 rx ry q=>ho pins s2 σ H2 x y v u Q I2 rx ry q)
theorem om{op:UnaryOp}{r:V->Hp->VK->Prop}(ho:sN X (unaryOp op) r)(ha:PE X a ta):PE X (.UnaryOp op a pos) (sY r ta):=by
 intro pins s σ H Q I h
 exact UnaryOp_ (iK (ha pins s σ H _ I h) fun v s1 ⟨x,H1,I1,r1,q1⟩=>ho pins s1 σ H1 x v Q I1 r1 q1)
theorem qK{f:Value->Value->Sem Value}{C:Int->Int->Prop}{g:Int->Int->Int}
  (rule:∀(i j:Int) (t u:Tok) (s:Shared) (Q:Value->Shared->Prop) (E:Value->Shared->Prop),C i j->Q (.int (g i j) s.toks) {s with toks:=s.toks+1}->wpAny (model X.prog X.w) X.A (f (.int i t) (.int j u)) Q E s):
  OpR X f (rI C fun i j=>.int (g i j)):=by
 intro pins s σ H x y v u Q I rx ry h
 obtain⟨i,j,rfl,rfl,hc,q⟩:=h
 obtain⟨t,rfl⟩:=rx
 obtain⟨t',rfl⟩:=ry
 exact rule i j t t' s _ _ hc ⟨.int (g i j),H,I.tok _,⟨_,rfl⟩,q⟩
theorem tD{f:Value->Value->Sem Value}{g:Int->Int->Int}
  (rule:∀(i j:Int) (t u:Tok) (s:Shared) (Q:Value->Shared->Prop) (E:Value->Shared->Prop),Q (.int (g i j) s.toks) {s with toks:=s.toks+1}->wpAny (model X.prog X.w) X.A (f (.int i t) (.int j u)) Q E s):
  OpR X f (lQ fun i j=>.int (g i j)):=by
 intro pins s σ H x y v u Q I rx ry h
 obtain⟨i,j,rfl,rfl,q⟩:=h
 obtain⟨t,rfl⟩:=rx
 obtain⟨t',rfl⟩:=ry
 exact rule i j t t' s _ _ ⟨.int (g i j),H,I.tok _,⟨_,rfl⟩,q⟩
theorem qL{f:Value->Value->Sem Value}{g:Int->Int->Bool}
  (rule:∀(i j:Int) (t u:Tok) (s:Shared) (Q:Value->Shared->Prop) (E:Value->Shared->Prop),Q (.bool (g i j)) s->wpAny (model X.prog X.w) X.A (f (.int i t) (.int j u)) Q E s):
  OpR X f (lQ fun i j=>.bl (g i j)):=by
 intro pins s σ H x y v u Q I rx ry h
 obtain⟨i,j,rfl,rfl,q⟩:=h
 obtain⟨t,rfl⟩:=rx
 obtain⟨t',rfl⟩:=ry
 exact rule i j t t' s _ _ ⟨.bl (g i j),H,I,rfl,q⟩
def sV(i j:Int):Prop:=0<j/\j<1073741824
def sU(i j:Int):Prop:=0<=j/\j<=1000000/\i.natAbs<2^64
def CMul(i j:Int):Prop:=(-(2^64)<i/\i<2^64)\/(-(2^64)<j/\j<2^64)
theorem CMul.ok{i j:Int}(h:CMul i j):IntMulOk i j:=by
 rcases h with⟨h1,h2⟩|⟨h1,h2⟩
 ·exact .of_left (intBits_le_64 h1 h2)
 ·exact .of_right (intBits_le_64 h1 h2)
theorem DB:OpR X (binaryOp .Add) (lQ fun i j=>.int (i+j)):=tD fun _ _ _ _ _ _ _ q=>add_int q
theorem Dj:OpR X (binaryOp .Sub) (lQ fun i j=>.int (i-j)):=tD fun _ _ _ _ _ _ _ q=>sub_int q
theorem Dm:OpR X (binaryOp .Mult) (rI CMul fun i j=>.int (i*j)):=qK fun _ _ _ _ _ _ _ hc q=>mul_int q hc.ok
theorem EC:OpR X (binaryOp .FloorDiv) (rI sV fun i j=>.int (i/j)):=qK fun i j _ _ _ _ _ hc q=>by
 have h1:(0:Int)<j:=hc.1
 have h2:j<1073741824:=hc.2
 exact floordiv_int (by lia) (by rw[iy i (by lia)];exact q) (.inl (PyProof.noPylong_small (by lia)))
theorem Do:OpR X (binaryOp .Mod) (rI (fun _ j=>0<j) fun i j=>.int (i%j)):=qK fun i j _ _ _ _ _ hc q=>by
 have h1:(0:Int)<j:=hc
 exact mod_int' (by lia) (by rw[Int.fmod_eq_emod_of_nonneg i (by lia)];exact q)
theorem Dk:OpR X (binaryOp .Pow) (rI sU fun i j=>.int (i^j.toNat)):=qK fun _ _ _ _ _ _ _ hc q=>pow_int_small hc.1 hc.2.1 hc.2.2 q
theorem Ep:OpR X (inplaceOp .Add) (lQ fun i j=>.int (i+j)):=tD fun _ _ _ _ _ _ _ q=>iadd_int q
theorem unI{f:Value->Sem Value}{g:Int->Int}
  (rule:∀(i:Int) (t:Tok) (s:Shared) (Q:Value->Shared->Prop) (E:Value->Shared->Prop),Q (.int (g i) s.toks) {s with toks:=s.toks+1}->wpAny (model X.prog X.w) X.A (f (.int i t)) Q E s):
  sN X f (rU fun i=>.int (g i)):=by
 intro pins s σ H x v Q I rx h
 obtain⟨i,rfl,q⟩:=h
 obtain⟨t,rfl⟩:=rx
 exact rule i t s _ _ ⟨.int (g i),H,I.tok _,⟨_,rfl⟩,q⟩
theorem Cf:sN X (unaryOp .USub) (rU fun i=>.int (-i)):=unI fun _ _ _ _ _ q=>neg_int q
end
def xn:V->V->Bool
 | .non,.non=>true| .non,.int _=>true| .int _,.non=>true| .non,.bl _=>true| .bl _,.non=>true| .non,.str _=>true| .str _,.non=>true
 | .int _,.int _=>true| .bl _,.bl _=>true| .str _,.str _=>true| .byt _,.byt _=>true
 | .int _,.str _=>true| .str _,.int _=>true| .bl _,.str _=>true| .str _,.bl _=>true
 |_,_=>false
def CZ:R2:=fun x y H Q=>xn x y=true/\Q (.bl (decide (x=y))) H
def CO:R2:=fun x y H Q=>xn x y=true/\Q (.bl (!decide (x=y))) H
theorem yC{i j:Int}:decide (V.int i=V.int j)=(i==j):=by
 rw[dU]
 simp
theorem xN{i j:Bool}:decide (V.bl i=V.bl j)=(i==j):=by
 rw[dU]
 simp
theorem yD{i j:Str}:decide (V.str i=V.str j)=(i==j):=by
 rw[dU]
 simp
theorem yB{i j:Array UInt8}:decide (V.byt i=V.byt j)=(i.toList==j.toList):=by
 rw[dU]
 cases i
 cases j
 simp
section
variable{X:Cx}{a b c:Expr}{ta tb tc:TE}{pos:Pos}
theorem jz{pins:List (Addr×Obj)}{σ:St}{H:Hp}{s:Shared}{Q:VK}{k k':Bool}(I:Inv X pins σ H s)(q:Q (.bl k) H)(e:k=k'):EP X pins σ Q (.bool k') s:=by
 subst e
 exact⟨.bl k,H,I,rfl,q⟩
theorem Dz:OpR X (compareOp .Eq) CZ:=by
 intro pins s σ H x y v u Q I rx ry h
 obtain⟨hs,q⟩:=h
 cases x with
 |non=>
  cases rx
  cases y with
  |non=>cases ry;exact PySem.EqNone.eq_none_none (jz I q (by simp))
  |bl j=>cases ry;exact PySem.EqNone.eq_none_bool (jz I q (by simp))
  |int j=>obtain⟨t',rfl⟩:=ry;exact PySem.EqNone.eq_none_int (jz I q (by simp))
  |str j=>obtain⟨t',rfl⟩:=ry;exact PySem.EqNone.eq_none_str (jz I q (by simp))
  |_=>exact absurd (show false=true from hs) bj
 |bl i=>
  cases rx
  cases y with
  |non=>cases ry;exact PySem.EqNone.eq_bool_none (jz I q (by simp))
  |bl j=>cases ry;exact eq_bool (jz I q xN)
  |str j=>obtain⟨t',rfl⟩:=ry;exact PySem.EqMixed.eq_bool_str (jz I q (by simp))
  |_=>exact absurd (show false=true from hs) bj
 |int i=>
  obtain⟨t,rfl⟩:=rx
  cases y with
  |non=>cases ry;exact PySem.EqNone.eq_int_none (jz I q (by simp))
  |int j=>obtain⟨t',rfl⟩:=ry;exact eq_int (jz I q yC)
  |str j=>obtain⟨t',rfl⟩:=ry;exact PySem.EqMixed.eq_int_str (jz I q (by simp))
  |_=>exact absurd (show false=true from hs) bj
 |str i=>
  obtain⟨t,rfl⟩:=rx
  cases y with
  |non=>cases ry;exact PySem.EqNone.eq_str_none (jz I q (by simp))
  |bl j=>cases ry;exact PySem.EqMixed.eq_str_bool (jz I q (by simp))
  |int j=>obtain⟨t',rfl⟩:=ry;exact PySem.EqMixed.eq_str_int (jz I q (by simp))
  |str j=>obtain⟨t',rfl⟩:=ry;exact eq_str (jz I q yD)
  |_=>exact absurd (show false=true from hs) bj
 |byt i=>
  obtain⟨t,rfl⟩:=rx
  cases y with
  |byt j=>obtain⟨t',rfl⟩:=ry;exact PySem.W.eq_bytes (jz I q yB)
  |_=>exact absurd (show false=true from hs) bj
 |_=>cases y<;>exact absurd (show false=true from hs) bj
theorem Dl:OpR X (compareOp .NotEq) CO:=by
 intro pins s σ H x y v u Q I rx ry h
 obtain⟨hs,q⟩:=h
 cases x with
 |non=>
  cases rx
  cases y with
  |non=>cases ry;exact PySem.EqNone.ne_none_none (jz I q (by simp))
  |bl j=>cases ry;exact PySem.EqNone.ne_none_bool (jz I q (by simp))
  |int j=>obtain⟨t',rfl⟩:=ry;exact PySem.EqNone.ne_none_int (jz I q (by simp))
  |str j=>obtain⟨t',rfl⟩:=ry;exact PySem.EqNone.ne_none_str (jz I q (by simp))
  |_=>exact absurd (show false=true from hs) bj
 |bl i=>
  cases rx
  cases y with
  |non=>cases ry;exact PySem.EqNone.ne_bool_none (jz I q (by simp))
  |bl j=>cases ry;exact ne_bool (jz I q (bY not xN))
  |str j=>obtain⟨t',rfl⟩:=ry;exact PySem.EqMixed.ne_bool_str (jz I q (by simp))
  |_=>exact absurd (show false=true from hs) bj
 |int i=>
  obtain⟨t,rfl⟩:=rx
  cases y with
  |non=>cases ry;exact PySem.EqNone.ne_int_none (jz I q (by simp))
  |int j=>obtain⟨t',rfl⟩:=ry;exact ne_int (jz I q (bY not yC))
  |str j=>obtain⟨t',rfl⟩:=ry;exact PySem.EqMixed.ne_int_str (jz I q (by simp))
  |_=>exact absurd (show false=true from hs) bj
 |str i=>
  obtain⟨t,rfl⟩:=rx
  cases y with
  |non=>cases ry;exact PySem.EqNone.ne_str_none (jz I q (by simp))
  |bl j=>cases ry;exact PySem.EqMixed.ne_str_bool (jz I q (by simp))
  |int j=>obtain⟨t',rfl⟩:=ry;exact PySem.EqMixed.ne_str_int (jz I q (by simp))
  |str j=>obtain⟨t',rfl⟩:=ry;exact ne_str (jz I q (bY not yD))
  |_=>exact absurd (show false=true from hs) bj
 |byt i=>
  obtain⟨t,rfl⟩:=rx
  cases y with
  |byt j=>obtain⟨t',rfl⟩:=ry;exact PySem.W.ne_bytes (jz I q (bY not yB))
  |_=>exact absurd (show false=true from hs) bj
 |_=>cases y<;>exact absurd (show false=true from hs) bj
theorem Dq:OpR X (compareOp .Lt) (lQ fun i j=>.bl (decide (i<j))):=qL fun _ _ _ _ _ _ _ q=>lt_int q
theorem Du:OpR X (compareOp .LtE) (lQ fun i j=>.bl (decide (i<=j))):=qL fun _ _ _ _ _ _ _ q=>le_int q
theorem Dw:OpR X (compareOp .Gt) (lQ fun i j=>.bl (decide (j<i))):=qL fun _ _ _ _ _ _ _ q=>gt_int q
theorem Dx:OpR X (compareOp .GtE) (lQ fun i j=>.bl (decide (j<=i))):=qL fun _ _ _ _ _ _ _ q=>ge_int q
theorem Dv:OpR X (compareOp .Is) (fun x y H Q=>y= .non/\Q (.bl (decide (x= .non))) H):=by
 intro pins s σ H x y v u Q I rx ry h
 obtain⟨rfl,q⟩:=h
 cases ry
 refine is_none_gen (jz I q ?_)
 cases x<;>first
  |(cases rx;rfl)
  |(obtain⟨t,rfl⟩:=rx;rfl)
theorem ED:OpR X (compareOp .IsNot) (fun x y H Q=>y= .non/\Q (.bl (!decide (x= .non))) H):=by
 intro pins s σ H x y v u Q I rx ry h
 obtain⟨rfl,q⟩:=h
 cases ry
 refine isnot_none_gen (jz I q ?_)
 cases x<;>first
  |(cases rx;rfl)
  |(obtain⟨t,rfl⟩:=rx;rfl)
theorem jr(b:Expr){op:CmpOp}(h:op≠ .In:=by decide)(h2:op≠ .NotIn:=by decide):behindInMarks op b=false:=by
 have e1:(op==CmpOp.In)=false:=by cases op<;>first|rfl|exact absurd rfl h
 have e2:(op==CmpOp.NotIn)=false:=by cases op<;>first|rfl|exact absurd rfl h2
 cases b<;>simp[behindInMarks,e1,e2]
theorem nK{op:CmpOp}{r:R2}(ho:OpR X (compareOp op) r)(ha:PE X a ta)(hb:PE X b tb)(hm:behindInMarks op b=false):PE X (.Compare a [op] [b] pos) (nc r ta tb):=by
 intro pins s σ H Q I h
 exact wpAny_Compare1 (wx ha hb I h fun v u s2 x y H2 I2 rx ry q=>ho pins s2 σ H2 x y v u Q I2 rx ry q) hm
def B2(K:PySem.W.Frag)(x:V)(H:Hp)(k:Bool):Prop:=
 match x with
 | .non=>k=false
 | .bl b=>k=b
 | .int i=>k=(i !=0)
 | .str y=>y.length<=sizeLine/\k=((y.length:Int) !=0)
 | .byt y=>y.size<=sizeLine/\k=((y.size:Int) !=0)
 | .ref p=>(∃xs,SqL K H p xs/\k= !xs.isEmpty)\/(∃xs,SqT K H p xs/\k= !xs.isEmpty)\/∃kvs,H p=some (.dK kvs)/\k= !kvs.isEmpty
 |_=>False
theorem GW{κ:Type}{kvs:List (κ×V)}{vs:List (κ×Value)}(r:KV kvs vs):(!vs.isEmpty)= !kvs.isEmpty:=by
 cases r<;>rfl
theorem A5{xs:List V}{its:List Value}(r:Vals xs its):(!its.toArray.isEmpty)= !xs.isEmpty:=by
 cases r<;>simp
theorem nE:(sizeLine:Nat)<2^63:=by rw[fF];decide
theorem Ci:JI X (fun x H Q=>∃k,B2 X.K x H k/\Q k H):=by
 intro pins s σ H x v Q I rx h
 obtain⟨k,e,q⟩:=h
 have hl:=nE
 have hs:sizeLine=16777216:=fF
 cases x with
 |non=>
  cases rx
  have e':k=false:=e
  subst e'
  exact truthy_none ⟨H,I,q⟩
 |bl b=>
  cases rx
  have e':k=b:=e
  subst e'
  exact cJ ⟨H,I,q⟩
 |int i=>
  obtain⟨t,rfl⟩:=rx
  have e':k=(i !=0):=e
  subst e'
  exact PySem.P.truthy_int ⟨H,I,q⟩
 |str y=>
  obtain⟨t,rfl⟩:=rx
  obtain⟨hy,e'⟩:y.length<=sizeLine/\k=((y.length:Int) !=0):=e
  subst e'
  exact PySem.P.truthy_str (by lia) ⟨H,I.tok _,q⟩
 |byt y=>
  obtain⟨t,rfl⟩:=rx
  obtain⟨hy,e'⟩:y.size<=sizeLine/\k=((y.size:Int) !=0):=e
  subst e'
  exact PySem.W.truthy_bytes (by lia) ⟨H,I.tok _,q⟩
 | ref p=>
  cases rx
  have e':(∃xs,SqL X.K H p xs/\k= !xs.isEmpty)\/(∃xs,SqT X.K H p xs/\k= !xs.isEmpty)\/∃kvs,H p=some (.dK kvs)/\k= !kvs.isEmpty:=e
  rcases e' with⟨xs,hx,e'⟩|⟨xs,hx,e'⟩|⟨kvs,hx,e'⟩
  ·subst e'
   obtain⟨its,r,pl,hz⟩:=I.list hx
   have hlen:=r.length
   exact wpAny_truthy_list pl.isList (by simp only[aj];lia) ⟨H,I.tok _,by rw[A5 r];exact q⟩
  ·subst e'
   obtain⟨its,r,pl,hz⟩:=I.tuple hx
   have hlen:=r.length
   exact truthy_tuple pl (by simp only[aj];lia) ⟨H,I.tok _,by rw[A5 r];exact q⟩
  ·subst e'
   obtain⟨hz,hS,vs,r,m⟩:kvs.length<=sizeLine/\(p==sysModules)=false/\∃vs,KV kvs vs/\s.heap.DictOf (jR X.prog X.w) p vs:=I.hok p _ hx
   have hlen:kvs.length=vs.length:=aP r
   exact wpAny_truthy_dict hS m (by lia) ⟨H,I.tok _,by rw[GW r];exact q⟩
 |_=>exact(show False from e).elim
theorem FH (ha:PE X a ta) (he:∀ whole,isTrue a X.env whole = (do let v <- whole; standAt a.pos; holding [v] (truthy v))) :
  PT X a (fun σ H Q=>ta σ H fun x H'=>∃k,B2 X.K x H' k/\Q k H'):=by
 intro pins s σ H Q I h
 exact isTrue_plain (iK (ha pins s σ H _ I h) fun v s1 ⟨x,H1,I1,r1,q1⟩=>Ci pins s1 σ H1 x v Q I1 r1 q1) (he _)
theorem kZ{x:V}{us:List Value}(r:Vals [x] us):∃u,us=[u]/\RelV x u:=by
 cases r with
 |cons r1 r2=>cases r2;exact⟨_,rfl,r1⟩
theorem vals2{x y:V}{us:List Value}(r:Vals [x,y] us):∃u w',us=[u,w']/\RelV x u/\RelV y w':=by
 cases r with
 |cons r1 r2=>
  cases r2 with
  |cons r3 r4=>cases r4;exact⟨_,_,rfl,r1,r3⟩
theorem FW(hc:X.calm=true):jbs X (.builtin "max") (fun xs H Q=>∃i j,xs=[.int i,.int j]/\Q (.int (if j>i then j else i)) H):=by
 intro pins s σ H xs us Q I r h
 obtain⟨i,j,rfl,q⟩:=h
 obtain⟨u,w',rfl,⟨t,rfl⟩,⟨t',rfl⟩⟩:=vals2 r
 refine max_two_ints (I.ok.hd hc) fun h' tk k=>⟨_,H,I.kept k,?_,q⟩
 by_cases hj:j>i
 ·rw[aw hj,aw hj];exact⟨_,rfl⟩
 ·rw[au hj,au hj];exact⟨_,rfl⟩
theorem FX(hc:X.calm=true):jbs X (.builtin "min") (fun xs H Q=>∃i j,xs=[.int i,.int j]/\Q (.int (if j<i then j else i)) H):=by
 intro pins s σ H xs us Q I r h
 obtain⟨i,j,rfl,q⟩:=h
 obtain⟨u,w',rfl,⟨t,rfl⟩,⟨t',rfl⟩⟩:=vals2 r
 refine min_two_ints (I.ok.hd hc) fun h' tk k=>⟨_,H,I.kept k,?_,q⟩
 by_cases hj:j<i
 ·rw[aw hj,aw hj];exact⟨_,rfl⟩
 ·rw[au hj,au hj];exact⟨_,rfl⟩
theorem FV:jbs X (.type "int") (fun xs H Q=>(∃i,xs=[.int i]/\Q (.int i) H)\/∃k,xs=[.bl k]/\Q (.int (if k then 1 else 0)) H):=by
 intro pins s σ H xs us Q I r h
 rcases h with⟨i,rfl,q⟩|⟨k,rfl,q⟩
 ·obtain⟨u,rfl,t,rfl⟩:=kZ r
  exact call_int_int ⟨.int i,H,I,⟨_,rfl⟩,q⟩
 ·obtain⟨u,rfl,r1⟩:=kZ r
  cases r1
  exact call_int_bool ⟨.int (if k then 1 else 0),H,I.tok _,⟨_,rfl⟩,q⟩
end
structure ObjM(h:Heap)(x dx C:Addr)(mA:Str->Option Value):Prop where
 obj:h.get? x=some (PySem.W.instObj C dx)
 ns:h.Ns1 dx mA
 ne:dx≠x
theorem Gg{h:Heap}{dx:Addr}{mA:Str->Option Value}(n:h.Ns1 dx mA):∃od,h.get? dx=some od/\∀name,PySem.W.lookIn name od=some (mA name):=by
 obtain⟨o,es,ep,ho,hd,hk,_,hm⟩:=n
 refine⟨o,ho,fun name=>?_⟩
 have e:=hm name
 unfold nsFind findBy at e
 rw [<- Array.find?_toList] at e
 unfold PySem.W.lookIn
 rw[hd]
 dsimp only
 split
 ·rename_i y q
  rw[q]at e
  exact bY some e
 ·rename_i q
  rw[q]at e
  have a:es.toList.any (·.refKey)=false:=by
   rw[List.any_eq_false]
   intro y hy
   obtain⟨z,t,hkey⟩:=hk y (gC.mp hy)
   simp[DictEntry.refKey,hkey]
  have a':¬es.toList.any (·.refKey)=true:=by rw[a];exact bj
  rw[au a']
  exact bY some e
theorem ObjM.look{h:Heap}{x dx C:Addr}{mA:Str->Option Value}(I:ObjM h x dx C mA):∃od,PySem.W.InstAt h x (PySem.W.instObj C dx) C (some od)/\∀name,PySem.W.lookIn name od=some (mA name):=
 let⟨od,ho,hl⟩:=Gg I.ns
 ⟨od,⟨I.obj,rfl,rfl,ho⟩,hl⟩
section
variable{prog:Program}{w:World}{A:Around}{E:Value->Shared->Prop}{s:Shared}{K:PySem.W.Frag}{x dx C f:Addr}{mA:Str->Option Value}{name:Str}{v:Value}
theorem Ej{expr:Bool}{Q:Value->Shared->Prop}(X:K.In s.heap)(I:ObjM s.heap x dx C mA)(hg:PySem.W.plainGet K C name=true)(hh:PySem.W.hasDictIn K C=true)
  (ha:PySem.W.findIn K (.ref C) name=some none) (hv:mA name=some v) (hv':PySem.W.handedIn v=true) (h:Q v {s with toks:=s.toks+1}):
  wpAny (model prog w) A (getAttr (.ref x) name expr) Q E s:=by
 obtain⟨od,J,hl⟩:=I.look
 exact PySem.W.get_value X J (gF hg).1 (PySem.W.findObj_own hh ha rfl (by rw[hl,hv])) hv' h
theorem Fk{pl:Sem Bool}{Q:Value×List Value->Shared->Prop}(X:K.In s.heap)(I:ObjM s.heap x dx C mA)(hg:PySem.W.plainGet K C name=true)
  (hf:PySem.W.findIn K (.ref C) name=some (some (.ref f))) (ht:PySem.W.isFn K (.ref f)=true) (hv:mA name=none) (h:Q (.ref f,[.ref x]) s):
  wpAny (model prog w) A (getMethod (.ref x) name pl) Q E s:=by
 obtain⟨od,J,hl⟩:=I.look
 exact PySem.W.method_fn X J (gF hg).1 (gF hg).2 hf (gN.mp ht) (by show(PySem.W.lookIn name od).map (·.isSome)=some false;rw[hl,hv];rfl) h
theorem ES{ns:List Str}{Q:Unit->Shared->Prop}(X:K.In s.heap)(I:ObjM s.heap x dx C mA)
  (hs:PySem.W.findIn K (.ref C) "__setattr__"=some (some (.builtin "object.__setattr__"))) (hp:PySem.W.plainOver K C=true) (ht:PySem.W.takerIn K C name=some none) (hh:PySem.W.hasDictIn K C=true)
  (hw:PySem.Within mA ns) (hsz:ns.length<=sizeLine)
  (h:∀h',ObjM h' x dx C (fun y=>if y=name then some v else mA y)->Heap.SameBut dx s.heap h'->Q () {s with heap:=h',toks:=s.toks+2}):
  wpAny (model prog w) A (setAttr (.ref x) name v) Q E s:=by
 obtain⟨od,J,hl⟩:=I.look
 refine PySem.W.set_plain X J hs (PySem.W.osa_open (s:={s with toks:=s.toks+1}) (r:=none) X J hp ht fun b=>?_)
 obtain⟨cd,hc,hd'⟩:=PySem.W.any_some hh
 have hx:s.heap.get? x=some ⟨.ref C,some dx,.plain,#[]⟩:=I.obj
 refine aa (ak (aa (aa (wpAny_loadPart hx (aa (PySem.W.Looks.here (s:={s with toks:=s.toks+1}) (PySem.W.looks_clsIn X hc) ?_))))))
 rw[hd']
 refine ak (a:=some dx) (aa (ak (aa ?_)))
 refine wpAny_nsSet1 (s:={s with toks:=s.toks+1}) I.ns fun h' hn2 hs2=>?_
 obtain⟨oD,esD,epD,hoD,hdD,hcD⟩:=hn2.count (PySem.Within.cons name v hw)
 refine aa (wpAny_lookBehind hoD (by rw[hdD];exact pastItsLine_dict (bz hcD (by rw[List.length_cons];lia))) ?_)
 exact ak (h _ ⟨(hs2.2 _ (cG I.ne)).trans I.obj,hn2,I.ne⟩ hs2)
theorem Fu{R:Result->Shared->Prop}{vs:List Value}{kw:List (Str×Value)}(X:K.In s.heap)(hm:PySem.W.makesIn K C=true)
  (hi:PySem.W.findIn K (.ref C) "__init__"=some (some (.ref f))) (hf:PySem.W.typeIn K (.ref f)=some (.type "function"))
  (h:codeAny (model prog w) (A.under (.builtin "type.__call__" ⟨.ref C::vs,kw⟩)) (.call (.ref f) ⟨.ref (s.heap.objs.size+1)::vs,kw⟩) (PySem.W.InitBack (s.heap.objs.size+1) R)
   {s with heap:=(s.heap.push PySem.W.emptyDict).push (PySem.W.instObj C s.heap.objs.size)}):
  codeAny (model prog w) A (.call (.ref C) ⟨vs,kw⟩) R s:=by
 obtain⟨hh,g,d,t,os⟩:=s
 exact PySem.W.make_core (PySem.W.makes_of X hm) (PySem.W.looks_findIn X hi) (fun self=>PySem.W.bind_fn X self hf) (.inl rfl) h
end
def ji(f:Str)(v:V):List (Str×V)->List (Str×V)
 |[]=>[(f,v)]
 |(g,x)::r=>if g=f then(g,v)::r else(g,x)::ji f v r
theorem Bq(f g:Str)(v:V):∀fs:List (Str×V),(ji f v fs).lookup g=if g=f then some v else fs.lookup g
 | []=>by
  show List.lookup g [(f,v)]=_
  by_cases h:g=f
  ·have hb:(g==f)=true:=gN.mpr h
   simp only[List.lookup,hb,aw h]
  ·have hb:(g==f)=false:=bU.mpr h
   simp only[List.lookup,hb,au h]
 | (k,x)::r=>by
  have ih:=Bq f g v r
  rw[show ji f v ((k,x)::r)=(if k=f then(k,v)::r else(k,x)::ji f v r)from rfl]
  by_cases hk:k=f
  ·rw[aw hk]
   by_cases h:g=k
   ·have hb:(g==k)=true:=gN.mpr h
    simp only[List.lookup,hb,aw (h.trans hk)]
   ·have hb:(g==k)=false:=bU.mpr h
    simp only[List.lookup,hb,au (fun e:g=f=>h (e.trans hk.symm))]
  ·rw[au hk]
   by_cases h:g=k
   ·have hb:(g==k)=true:=gN.mpr h
    simp only[List.lookup,hb,au (fun e:g=f=>hk (h.symm.trans e))]
   ·have hb:(g==k)=false:=bU.mpr h
    simp only[List.lookup,hb]
    exact ih
theorem vy(f:Str)(v:V):∀fs:List (Str×V),f∈(ji f v fs).map (·.1)/\∀g,g∈fs.map (·.1)->g∈(ji f v fs).map (·.1)
 |[]=>⟨by simp[ji],fun g h=>by simp at h⟩
 | (k,x)::r=>by
  obtain⟨i1,i2⟩:=vy f v r
  rw[show ji f v ((k,x)::r)=(if k=f then(k,v)::r else(k,x)::ji f v r)from rfl]
  by_cases hk:k=f
  ·rw[aw hk]
   subst hk
   exact⟨by simp,fun g h=>by simpa using h⟩
  ·rw[au hk]
   refine⟨?_,fun g h=>?_⟩
   ·rw[aq]
    exact ay _ i1
   ·rw[aq]at h ⊢
    rcases aR.mp h with e|e
    ·exact aR.mpr (.inl e)
    ·exact ay _ (i2 g e)
theorem Bp(f:Str)(v:V):∀fs:List (Str×V),(ji f v fs).length<=fs.length+1
 |[]=>by simp[ji]
 |(k,x)::r=>by
  have ih:=Bp f v r
  rw[show ji f v ((k,x)::r)=(if k=f then(k,v)::r else(k,x)::ji f v r)from rfl]
  by_cases hk:k=f
  ·rw[aw hk,List.length_cons,List.length_cons];lia
  ·rw[au hk,List.length_cons,List.length_cons];lia
theorem RelO.some_of{v:V}{o:Option Value}(r:RelO (some v) o):∃u,o=some u/\RelV v u:=by
 cases o with
 |none=>exact(show False from r).elim
 |some u=>exact⟨u,rfl,r⟩
theorem RelO.none_of{o:Option Value}(r:RelO none o):o=none:=by
 cases o with
 |none=>rfl
 |some u=>exact(show False from r).elim
theorem F8{v:V}{u:Value}(r:RelV v u):PySem.W.handedIn u=true:=by
 cases v with
 |non=>cases(show u=Value.none from r);rfl
 |bl b=>cases(show u=Value.bool b from r);rfl
 |int i=>obtain⟨t,e⟩:=(show ∃t,u=Value.int i t from r);cases e;rfl
 |str x=>obtain⟨t,e⟩:=(show ∃t,u=Value.str x t from r);cases e;rfl
 |byt b=>obtain⟨t,e⟩:=(show ∃t,u=Value.bytes b t from r);cases e;rfl
 |flt b=>obtain⟨t,e⟩:=(show ∃t,u=Value.float b t from r);cases e;rfl
 |ref a=>cases(show u=Value.ref a from r);rfl
 |ty n=>cases(show u=Value.type n from r);rfl
section
variable{P:Program}{w:World}{H H':Hp}{h h':Heap}{a C dx:Addr}{fs fs':List (Str×V)}
theorem rC(hok:HOk P w H h)(e:H a=some (.ins C dx fs)):∃mA,ObjM h a dx C mA/\(∀f,RelO (fs.lookup f) (mA f))/\PySem.Within mA (fs.map (·.1))/\fs.length<=1000/\H dx=some (.own a):=by
 obtain⟨d,z,ne,ob,mA,n,r,q⟩:=(show jbf P w H h a (.ins C dx fs)from hok a _ e)
 exact⟨mA,⟨ob,n,ne⟩,r,q,z,d⟩
end
structure Cls(K:PySem.W.Frag)(C:Addr):Prop where
 pg:PySem.W.plainGet K C Str.empty=true
 hd:PySem.W.hasDictIn K C=true
 po:PySem.W.plainOver K C=true
 sa:PySem.W.findIn K (.ref C) "__setattr__"=some (some (.builtin "object.__setattr__"))
theorem Cls.get{K:PySem.W.Frag}{C:Addr}(c:Cls K C)(f:Str):PySem.W.plainGet K C f=true:=c.pg
def jdt(K:PySem.W.Frag)(C:Addr)(f:Str):Prop:=PySem.W.findIn K (.ref C) f=some none
theorem jdt.taker{K:PySem.W.Frag}{C:Addr}{f:Str}(n:jdt K C f):PySem.W.takerIn K C f=some none:=by
 unfold PySem.W.takerIn
 rw[show PySem.W.findIn K (.ref C) f=some none from n]
 rfl
structure Meth(K:PySem.W.Frag)(C:Addr)(m:Str)(f:Addr):Prop where
 at_:PySem.W.findIn K (.ref C) m=some (some (.ref f))
 fn:PySem.W.isFn K (.ref f)=true
 kp:PySem.W.keepIn K (.ref f)=true
section
variable{X:Cx}{pins:List (Addr×Obj)}{σ:St}{H:Hp}{s:Shared}{a C dx:Addr}{fs:List (Str×V)}{f:Str}{v:V}{A:Around}{E:Value->Shared->Prop}
theorem GV{b:Bool}{Q:Value->Shared->Prop}(I:Inv X pins σ H s)(e:H a=some (.ins C dx fs))(c:Cls X.K C)(n:jdt X.K C f)(l:fs.lookup f=some v)
  (h:∀u s',Inv X pins σ H s'->RelV v u->Q u s'):wpAny (model X.prog X.w) A (getAttr (.ref a) f b) Q E s:=by
 obtain⟨mA,O,r,_,_,_⟩:=rC I.hok e
 obtain ⟨u,hu,ru⟩:=RelO.some_of (v:=v) (o:=mA f) (by rw [<- l]; exact r f)
 exact Ej I.kIn O (c.get f) c.hd n hu (F8 ru) (h u _ (I.tok _) ru)
theorem A4{m:Str}{g:Addr}{pl:Sem Bool}{Q:Value×List Value->Shared->Prop}(I:Inv X pins σ H s)(e:H a=some (.ins C dx fs))(c:Cls X.K C)(k:Meth X.K C m g)(l:fs.lookup m=none)
  (h:Q (.ref g,[.ref a]) s):wpAny (model X.prog X.w) A (getMethod (.ref a) m pl) Q E s:=by
 obtain⟨mA,O,r,_,_,_⟩:=rC I.hok e
 have hn:mA m = none:=RelO.none_of (by rw [<- l]; exact r m)
 exact Fk I.kIn O (c.get m) k.at_ k.fn hn h
theorem Hn{y:V}{u:Value}{Q:Unit->Shared->Prop}(I:Inv X pins σ H s)(e:H a=some (.ins C dx fs))(c:Cls X.K C)(n:jdt X.K C f)(hl:fs.length<1000)(ry:RelV y u)
  (h:∀s',Inv X pins σ (upd H a (.ins C dx (ji f y fs))) s'->Q () s'):wpAny (model X.prog X.w) A (setAttr (.ref a) f u) Q E s:=by
 obtain⟨mA,O,r,wi,_,ho⟩:=rC I.hok e
 have hz:(fs.map (·.1)).length<=sizeLine:=by rw[ae,fF];lia
 refine ES I.kIn O c.sa c.po n.taker c.hd wi hz fun h' O' sb=>h _ ?_
 have hd:∃o,h'.get? dx=some o:=let⟨o,_,_,e',_⟩:=O'.ns;⟨o,e'⟩
 refine I.write (x:=a) (e:=dx) (by rw[e];exact True.intro) (.inr ho) (fun b q hb z=>(sb.2 b hb).trans z) hd ?_
 refine⟨by rw[iJ O.ne];exact ho,?_,O.ne,O'.obj,_,O'.ns,fun g=>?_,fun g hg=>?_⟩
 ·have:=Bp f y fs;lia
 ·show RelO ((ji f y fs).lookup g) (if g=f then some u else mA g)
  rw[Bq]
  by_cases q:g=f
  ·rw[aw q,aw q];exact ry
  ·rw[au q,au q];exact r g
 ·by_cases q:g=f
  ·rw[q];exact(vy f y fs).1
  ·refine(vy f y fs).2 g (wi g fun z=>hg ?_)
   show(if g=f then some u else mA g)=none
   rw[au q];exact z
theorem Inv.made(I:Inv X pins σ H s):Inv X pins σ (upd (upd H s.heap.objs.size (.own (s.heap.objs.size+1))) (s.heap.objs.size+1) (.ins C s.heap.objs.size []))
  {s with heap:=(s.heap.push PySem.W.emptyDict).push (PySem.W.instObj C s.heap.objs.size)}:=by
 have e1:(s.heap.push PySem.W.emptyDict).get? s.heap.objs.size=some PySem.W.emptyDict:=aF s.heap rfl
 have e2:((s.heap.push PySem.W.emptyDict).push (PySem.W.instObj C s.heap.objs.size)).get? (s.heap.objs.size+1)=some (PySem.W.instObj C s.heap.objs.size):=by
  have:=aF (s.heap.push PySem.W.emptyDict) (o:=PySem.W.instObj C s.heap.objs.size) rfl
  rwa[dy]at this
 have e3:(s.heap.push PySem.W.emptyDict).Ns s.heap.objs.size (fun _=>none):=⟨PySem.W.emptyDict,#[],_,e1,rfl,(fun e he=>absurd he (by simp)),fun _=>rfl⟩
 have I1:=I.laid (a:=s.heap.objs.size) (o:=.own (s.heap.objs.size+1)) (h':=s.heap.push PySem.W.emptyDict) (t':=s.toks) (fun b u q=>af _ q) (av _) ⟨_,e1⟩
 refine I1.laid (a:=s.heap.objs.size+1) (o:=.ins C s.heap.objs.size []) (t':=s.toks) (fun b u q=>af _ q) (Nat.le_of_eq (dy _ _)) ?_
 have ne:s.heap.objs.size≠s.heap.objs.size+1:=aU (fU _)
 refine⟨by rw[iJ ne,iF],bI _,ne,e2,fun _=>none,(Heap.Ns1.of_empty e3).at fun o q=>af _ q,fun _=>True.intro,fun y hy=>absurd rfl hy⟩
theorem D7{prog:Program}{w:World}{env:Env}{e:Expr}{f:Str}{pos:Pos}{s:Shared}{Q:Value->Shared->Prop}(hb:attributeBase e f env (eval e env)=eval e env)
  (h:wpAny (model prog w) A (eval e env) (fun o s₁=>wpAny (model prog w) A (getAttr o f true) Q E s₁) E s):wpAny (model prog w) A (eval (.Attribute e f pos) env) Q E s:=
 Attribute_any_ h (by rw[arm_eval_Attribute,hb])
end
section
variable{X:Cx}{o e value:Expr}{f:Str}{pos pos' tpos:Pos}{ta tv:TE}
end
section
variable{X:Cx}{pins:List (Addr×Obj)}{σ:St}{H:Hp}{s:Shared}{A:Around}{E:Value->Shared->Prop}{Q:Value->Shared->Prop}{c:Value}{b:Bool}
inductive TyOf(K:PySem.W.Frag)(H:Hp):V->Value->Prop where
 |non:TyOf K H .non (.type "NoneType")
 |bl (x:Bool):TyOf K H (.bl x) (.type "bool")
 |int (i:Int):TyOf K H (.int i) (.type "int")
 |str (x:Str):TyOf K H (.str x) (.type "str")
 |flt (x:UInt64):TyOf K H (.flt x) (.type "float")
 |lst {a:Addr} {xs:List V} (e:H a=some (.lst xs)):TyOf K H (.ref a) (.type "list")
 |frz {a:Addr} {o:Obj} {xs:List V} (e:H a=some (.frz o (.lst xs))):TyOf K H (.ref a) (.type "list")
 |tup {a:Addr} {xs:List V} (e:H a=some (.tup xs)):TyOf K H (.ref a) (.type "tuple")
 |dK {a:Addr} {kvs:List (iE×V)} (e:H a=some (.dK kvs)):TyOf K H (.ref a) (.type "dict")
 |dT {a:Addr} {kvs:List (List iE×V)} (e:H a=some (.dT kvs)):TyOf K H (.ref a) (.type "dict")
 | ins {a C dx:Addr} {fs:List (Str×V)} (e:H a=some (.ins C dx fs)) (cl:Cls K C) (ha:PySem.W.findIn K (.ref C) "__class__"=some (some (.builtin "object.__class__")))
   (hn:PySem.W.specialIn K (.builtin "object.__class__") "__get__"=some (some (.builtin "getset_descriptor.__get__"))) (htk:PySem.W.takesIn K (.builtin "object.__class__")=some true)
   (hm:PySem.W.mroIn K C (.type "object")=some true):TyOf K H (.ref a) (.ref C)
theorem Gb{x:V}{u t:Value}(I:Inv X pins σ H s)(rx:RelV x u)(ty:TyOf X.K H x t)(e:PySem.W.kitOne X.K t c=some b)(h:∀tk,Q (.bool b) {s with toks:=tk}):
  wpAny (model X.prog X.w) A (call (.builtin "isinstance") [u,c]) Q E s:=by
 cases ty with
 |non=>cases(show u=Value.none from rx);exact cF PySem.W.kitx_none I.kIn True.intro e (fun z=>nomatch z) h
 |bl y=>cases(show u=Value.bool y from rx);exact cF PySem.W.kitx_bool I.kIn True.intro e (fun z=>nomatch z) h
 |int i=>obtain⟨t,q⟩:=(show ∃t,u=Value.int i t from rx);cases q;exact cF PySem.W.kitx_int I.kIn True.intro e (fun z=>nomatch z) h
 |str y=>obtain⟨t,q⟩:=(show ∃t,u=Value.str y t from rx);cases q;exact cF PySem.W.kitx_str I.kIn True.intro e (fun z=>nomatch z) h
 |flt y=>obtain⟨t,q⟩:=(show ∃t,u=Value.float y t from rx);cases q;exact cF PySem.W.kitx_float I.kIn True.intro e (fun z=>nomatch z) h
 | @lst a xs ea=>
  cases(show u=Value.ref a from rx)
  obtain⟨_,_,n,_,h1⟩:=(show jbf X.prog X.w H s.heap a (.lst xs)from I.hok a _ ea)
  exact cF PySem.W.kitx_list I.kIn ⟨_,h1,rfl⟩ e (fun z=>nomatch z) h
 | @frz a ob xs ea=>
  cases(show u=Value.ref a from rx)
  obtain⟨_,_,_,n,_,h1⟩:=(show jbf X.prog X.w H s.heap a (.frz ob (.lst xs))from I.hok a _ ea)
  exact cF PySem.W.kitx_list I.kIn ⟨_,h1,rfl⟩ e (fun z=>nomatch z) h
 | @tup a xs ea=>
  cases(show u=Value.ref a from rx)
  obtain⟨_,_,_,p⟩:=(show jbf X.prog X.w H s.heap a (.tup xs)from I.hok a _ ea)
  obtain⟨o,h1,h2,_⟩:=p
  exact cF PySem.W.kitx_tuple I.kIn ⟨o,h1,h2⟩ e (fun z=>nomatch z) h
 | @dK a kvs ea=>
  cases(show u=Value.ref a from rx)
  obtain⟨_,_,vs,_,p⟩:=(show jbf X.prog X.w H s.heap a (.dK kvs)from I.hok a _ ea)
  obtain⟨o,es,ep,h1,h2,_⟩:=p
  exact cF PySem.W.kitx_dict I.kIn ⟨o,h1,h2.1⟩ e (fun z=>nomatch z) h
 | @dT a kvs ea=>
  cases(show u=Value.ref a from rx)
  obtain⟨_,_,xs,_,o,es,ep,h1,h2,_⟩:=(show jbf X.prog X.w H s.heap a (.dT kvs)from I.hok a _ ea)
  exact cF PySem.W.kitx_dict I.kIn ⟨o,h1,h2.1⟩ e (fun z=>nomatch z) h
 | @ins a C dx fs ea cl ha hn htk hm=>
  cases(show u=Value.ref a from rx)
  obtain⟨mA,O,_⟩:=rC I.hok ea
  obtain⟨od,J,_⟩:=O.look
  exact cF (PySem.W.kitx_own (cl.get _) cl.hd ha hn htk hm) I.kIn J e (fun z=>nomatch z) h
end
structure Room(k:Nat)(A:Around):Prop where
 hd:A.handled=none
 dp:A.depth+3*k+5<recursionLimit
 un:A.units+16*k+200<cLine
 gd:A.guards=some []
theorem Room.mono{j k:Nat}{A:Around}(r:Room k A)(h:j<=k):Room j A:=⟨r.hd,by have:=r.dp;lia,by have:=r.un;lia,by first|exact r.gd|(simp only[Around.deeper,Around.in1,Around.under];exact r.gd)⟩
theorem Room.deeper{k:Nat}{A:Around}(r:Room (k+1) A)(env:Env):Room k (A.deeper env):=
 ⟨r.hd,by have:=r.dp;show A.depth+1+3*k+5<_;lia,by have:=r.un;show A.units+3+16*k+200<_;lia,by first|exact r.gd|(simp only[Around.deeper,Around.in1,Around.under];exact r.gd)⟩
theorem GX{A:Around}{C:Addr}{us:List Value}{kw:List (Str×Value)}:(A.under (.builtin "type.__call__" ⟨.ref C::us,kw⟩)).depth=A.depth+1:=by
 first|rfl|simp[Around.under,Code.weight,Code.isCreation,Code.isGuard,Code.isCaller,Code.frames,Code.isFrame,guardIds]
theorem GY{A:Around}{C:Addr}{us:List Value}{kw:List (Str×Value)}:(A.under (.builtin "type.__call__" ⟨.ref C::us,kw⟩)).units=A.units+1:=by
 first|rfl|simp[Around.under,Code.cUnits,Code.frames,Code.isFrame]
theorem Room.make{k:Nat}{A:Around}(r:Room (k+1) A)(C:Addr)(us:List Value)(kw:List (Str×Value)):Room k (A.under (.builtin "type.__call__" ⟨.ref C::us,kw⟩)):=
 ⟨r.hd,by have:=r.dp;rw[GX];lia,by have:=r.un;rw[GY];lia,by first|exact r.gd|(simp only[Around.deeper,Around.in1,Around.under];exact r.gd)⟩
theorem Room.depth{k:Nat}{A:Around}(r:Room k A):A.depth<recursionLimit:=by have:=r.dp;lia
theorem Room.units{k:Nat}{A:Around}(r:Room k A):A.units+64<cLine:=by have:=r.un;lia
def n4:TA:=fun _ H Q=>Q [] H
def qU(ta:TE)(tr:TA):TA:=fun σ H Q=>ta σ H fun x H1=>tr σ H1 fun xs H2=>Q (x::xs) H2
section
variable{X:Cx}{e:Expr}{es:List Expr}{te:TE}{t:TA}{pos:Pos}
theorem iD:PA X [] n4:=fun _ _ _ _ H Q I h=>fM ⟨[],H,I,.nil,h⟩
theorem iC(ha:PE X e te)(hr:PA X es t)(hs:starEach (e::es) X.env=(false,eval e X.env)::starEach es X.env:=by rfl):PA X (e::es) (qU te t):=by
 intro pos pins s σ H Q I h
 rw[hs]
 show wpAny _ _ (spliced ((false,eval e X.env)::backTo pos (starEach es X.env))) _ _ s
 refine eA (iK (ha pins s σ H _ I h) fun u s1 ⟨x,H1,I1,r1,q1⟩=>?_)
 exact iK (hr pos pins s1 σ H1 _ I1 q1) fun us s2 ⟨xs,H2,I2,r2,q2⟩=>⟨x::xs,H2,I2,.cons r1 r2,q2⟩
def wL(t:TA):TE:=fun σ H Q=>t σ H fun xs H1=>xs.length<=sizeLine/\∀p,H1 p=none->Q (.ref p) (upd H1 p (.tup xs))
def wX(t:TA):TE:=fun σ H Q=>t σ H fun xs H1=>xs.length<=sizeLine/\∀p,H1 p=none->Q (.ref p) (upd H1 p (.lst xs))
theorem kr{x1}(h:PA X es t):PE X (.Tuple es x1 pos) (wL t):=by
 intro pins s σ H Q I hq
 refine wpAny_Tuple_spliced (iK (h pos pins s σ H _ I hq) fun us s1 ⟨xs,H1,I1,r,z,q⟩=>⟨by rw [<- r.length]; exact z,?_⟩)
 have hf:H1 s1.heap.objs.size=none:=I1.hok.fresh (av _)
 refine⟨.ref s1.heap.objs.size,upd H1 s1.heap.objs.size (.tup xs),I1.laid (t':=s1.toks) (fun b u e=>af _ e) (av _) ?_,rfl,q _ hf⟩
 exact⟨z,us,r,⟨_,aF _ rfl,rfl,_,rfl⟩⟩
theorem jE(h:PA X es t):PE X (.List es pos) (wX t):=by
 intro pins s σ H Q I hq
 refine wpAny_List_spliced (iK (h pos pins s σ H _ I hq) fun us s1 ⟨xs,H1,I1,r,z,q⟩=>⟨by rw [<- r.length]; exact z,?_⟩)
 have hf:H1 s1.heap.objs.size=none:=I1.hok.fresh (av _)
 refine⟨.ref s1.heap.objs.size,upd H1 s1.heap.objs.size (.lst xs),I1.laid (t':=s1.toks) (fun b u e=>af _ e) (av _) ?_,rfl,q _ hf⟩
 exact⟨z,us,0,r,aF _ rfl⟩
end
abbrev Sp:=List V->Hp->VK->XK->Prop
abbrev kW:=List Env->Hp->Shared->XK->Value->Shared->Prop
structure Env0(P:Program)(w:World)(K:PySem.W.Frag)(mg:Str->Option Value)(base:Heap)(A:Around)(outer:List Env)(s:Shared)(H:Hp):Prop where
 frames:A.frames=some outer
 mod:Mod K mg base
 bs:∀b o,base.get? b=some o->s.heap.get? b=some o/\H b=none
 bsz:base.objs.size<=s.heap.objs.size
 funs:s.heap.FunFrames base outer
 frf:∀b∈kJ outer,H b=none
 hok:HOk P w H s.heap
 bare:AllBare s.gens
def CE(outer:List Env)(P:Program)(w:World)(H:Hp)(s:Shared)(Q:VK)(u:Value)(s':Shared):Prop:=
 ∃v H',s'.os=s.os/\AllBare s'.gens/\Un (kJ outer) [] H H' s.heap s'.heap/\HOk P w H' s'.heap/\RelV v u/\Q v H'
def CR(CX:kW)(outer:List Env)(P:Program)(w:World)(H:Hp)(s:Shared)(Q:VK)(E:XK)(r:Result)(s':Shared):Prop:=
 match r with
 | .ok (.ret u)=>CE outer P w H s Q u s'
 | .ok _=>False
 | .error e=>CX outer H s E e s'
structure FnOk(P:Program)(w:World)(K:PySem.W.Frag)(mg:Str->Option Value)(base:Heap)(CX:kW)(k:Nat)(f:Addr)(fd:FuncData)(ps:List Str)(sp:Sp):Prop where
 len:∀vs H Q E,sp vs H Q E->vs.length=ps.length
 run:∀(A:Around) (outer:List Env) (s:Shared) (H:Hp) (args:Args) (us:List Value) (vs:List V) (Q:VK) (E:XK),Room k A->Env0 P w K mg base A outer s H->BindsTo s fd args (ps.zip us)->Vals vs us->sp vs H Q E->
  codeAny (model P w) A (.call (.ref f) args) (CR CX outer P w H s Q E) s
theorem FnOk.mono{P:Program}{w:World}{K:PySem.W.Frag}{mg:Str->Option Value}{base:Heap}{CX:kW}{j k:Nat}{f:Addr}{fd:FuncData}{ps:List Str}{sp:Sp}(F:FnOk P w K mg base CX j f fd ps sp)(h:j<=k):
  FnOk P w K mg base CX k f fd ps sp:=⟨F.len,fun A outer s H args us vs Q E hr=>F.run A outer s H args us vs Q E (hr.mono h)⟩
theorem Env0.make{P:Program}{w:World}{K:PySem.W.Frag}{mg:Str->Option Value}{base:Heap}{A:Around}{outer:List Env}{s:Shared}{H:Hp}(e:Env0 P w K mg base A outer s H)(C:Addr)(us:List Value)(kw:List (Str×Value)):
  Env0 P w K mg base (A.under (.builtin "type.__call__" ⟨.ref C::us,kw⟩)) outer s H:=⟨by first|exact e.frames|(simpa[Around.under,Code.envs,Code.isFrame,pushEnvs]using e.frames),e.mod,e.bs,e.bsz,e.funs,e.frf,e.hok,e.bare⟩
section
variable{X:Cx}{pins:List (Addr×Obj)}{σ:St}{H:Hp}{s s':Shared}
theorem Inv.env0(I:Inv X pins σ H s):Env0 X.prog X.w X.K X.mg X.base X.A X.stack s H:=
 ⟨I.ok.frames,I.ok.mod,I.bs,bz I.ok.bsz I.sz,I.stack,I.stkFree,I.hok,I.bare⟩
theorem Inv.after{Q:VK}{u:Value}(I:Inv X pins σ H s)(h:CE X.stack X.prog X.w H s Q u s'):EP X pins σ Q u s':=by
 obtain⟨v,H',os,bare,un,hok,r,q⟩:=h
 obtain⟨hh,g,d,t,os'⟩:=s'
 obtain rfl:os'=s.os:=os
 exact⟨v,H',I.call (h':=hh) (g':=g) (d':=d) (t':=t) (ch:=[]) un hok bare (fun b z=>absurd z (by simp)),r,q⟩
end
def xa(sp:Sp)(dvs:List V)(E:XK)(t:TA):TE:=fun σ H Q=>t σ H fun vs H1=>sp (vs++dvs) H1 Q E
def t8(C:Addr)(m:Str)(sp:Sp)(dvs:List V)(E:XK)(ta:TE)(t:TA):TE:=fun σ H Q=>ta σ H fun x H1=>∃a dx fs,x= .ref a/\H1 a=some (.ins C dx fs)/\fs.lookup m=none/\
 t σ H1 fun vs H2=>sp (x::(vs++dvs)) H2 Q E
def wW(C:Addr)(sp:Sp)(dvs:List V)(E:XK)(t:TA):TE:=fun σ H Q=>t σ H fun vs H1=>∀x dx,H1 x=none->H1 dx=none->dx≠x->
 sp (.ref x::(vs++dvs)) (upd (upd H1 dx (.own x)) x (.ins C dx [])) (fun v H2=>v= .non/\Q (.ref x) H2) E
def jel(K:PySem.W.Frag)(fd:FuncData)(ps:List Str)(ds:List Value):Prop:=
 ∀(s:Shared) (us:List Value),K.In s.heap->(us++ds).length=ps.length->BindsTo s fd ⟨us,[]⟩ (ps.zip (us++ds))
theorem jel.all{K:PySem.W.Frag}{fd:FuncData}{ps:List Str}(h:∀us:List Value,us.length=ps.length->bindArgs fd ⟨us,[]⟩=pure (ps.zip us)):jel K fd ps []:=fun s us _ hl=>by
 rw[bt]at hl ⊢
 exact .of_eq (h us hl)
def mm(CX:kW)(X:Cx)(E:XK):Prop:=∀(pins:List (Addr×Obj)) (σ:St) (H:Hp) (s:Shared) (e:Value) (s':Shared),Inv X pins σ H s->CX X.stack H s E e s'->X.xe e s'
section
variable{X:Cx}{CX:kW}{k:Nat}{f C:Addr}{fd:FuncData}{ps:List Str}{sp:Sp}{dvs:List V}{ds:List Value}{E:XK}{x m:Str}{p pos apos:Pos}{e o:Expr}{es:List Expr}{ta:TE}{t:TA}
theorem uu{pins:List (Addr×Obj)}{σ:St}{H:Hp}{s:Shared}{Q:VK}{us:List Value}{vs:List V}(F:FnOk X.prog X.w X.K X.mg X.base CX k f fd ps sp)(hr:Room k X.A)(hb:jel X.K fd ps ds)(hd:Vals dvs ds)(hx:mm CX X E)
  (I:Inv X pins σ H s) (r:Vals vs us) (h:sp (vs++dvs) H Q E):wpAny (model X.prog X.w) X.A (call (.ref f) us) (EP X pins σ Q) X.xe s:=by
 have r2:Vals (vs++dvs) (us++ds):=r.append hd
 have hl:(us ++ ds).length = ps.length:=by rw [<- r2.length]; exact F.len _ _ _ _ h
 refine wpAny_call (fj (F.run X.A X.stack s H ⟨us,[]⟩ (us++ds) (vs++dvs) Q E hr I.env0 (hb s us I.kIn hl) r2 h) fun r s' hq=>?_)
 cases r with
 |error e=>exact hx pins σ H s e s' I hq
 |ok fl=>
  cases fl with
  |ret u=>exact I.after hq
  |next=>exact False.elim hq
  |brk=>exact False.elim hq
  |cont=>exact False.elim hq
theorem i8(F:FnOk X.prog X.w X.K X.mg X.base CX k f fd ps sp)(hr:Room k X.A)(hg:Gl X x)(hm:X.mg x=some (.ref f))(hk:PySem.W.keepIn X.K (.ref f)=true)(hb:jel X.K fd ps ds)(hd:Vals dvs ds)(hx:mm CX X E)
  (ha:PA X (e::es) t) (hdb:(x==("__debug__":Str))=false:=by decide) (he:starEach (e::es) X.env=(false,eval e X.env)::starEach es X.env:=by rfl) (hpl:(backTo pos (starEach es X.env)).any (·.1)=false:=by rfl):
  PE X (.Call (.Name x p) (e::es) [] pos) (xa sp dvs E t):=by
 intro pins s σ H Q I h
 refine cP (uI I hg hm ?_ hdb)
 refine gP (h₀:=X.base) I.ok.mod.kin hk (iK (ha pos pins s σ H _ I h) fun us s1 ⟨vs,H1,I1,r,q⟩=>⟨I1.kIn,?_⟩) he hpl
 exact uu F hr hb hd hx I1 r q
theorem EI{pl:Sem Bool}(he:PE X o ta)(c:Cls X.K C)(hm:Meth X.K C m f)(F:FnOk X.prog X.w X.K X.mg X.base CX k f fd ps sp)(hr:Room k X.A)(hb:jel X.K fd ps ds)(hd:Vals dvs ds)(hx:mm CX X E)(ha:PA X (e::es) t)
  (hst:starEach (e::es) X.env=(false,eval e X.env)::starEach es X.env:=by rfl) (hpl:(backTo pos (starEach es X.env)).any (·.1)=false:=by rfl)
  (ht:eval (.Call (.Attribute o m apos) (e :: es) [] pos) X.env = (do
   let ov <- eval o X.env
   standAt apos.atName
   let (f,first) <- holding [ov] (getMethod ov m pl)
   callWith pos f first (backTo pos (starEach (e::es) X.env)) (backToKw pos (keywordEach [] X.env))):=by rfl):
  PE X (.Call (.Attribute o m apos) (e::es) [] pos) (t8 C m sp dvs E ta t):=by
 intro pins s σ H Q I h
 refine PySem.W.methodCall_KW (pl:=pl) (iK (he pins s σ H _ I h) fun u s1 ⟨x,H1,I1,rx,a,dx,fs,ex,ea,l,q⟩=>?_) ht
 subst ex
 obtain rfl:u=Value.ref a:=rx
 refine A4 I1 ea c hm l ?_
 refine gP (first:=[.ref a]) (h₀:=X.base) I.ok.mod.kin hm.kp (iK (ha pos pins s1 σ H1 _ I1 q) fun us s2 ⟨vs,H2,I2,r,q2⟩=>⟨I2.kIn,?_⟩) hst hpl
 exact uu (us:=.ref a::us) (vs:=.ref a::vs) F hr hb hd hx I2 (.cons rfl r) q2
theorem FC{pl:Sem Bool}(he:PE X o ta)(c:Cls X.K C)(hm:Meth X.K C m f)(F:FnOk X.prog X.w X.K X.mg X.base CX k f fd ps sp)(hr:Room k X.A)(hb:jel X.K fd ps ds)(hd:Vals dvs ds)(hx:mm CX X E)
  (ht:eval (.Call (.Attribute o m apos) [] [] pos) X.env = (do
   let ov <- eval o X.env
   standAt apos.atName
   let (f,first) <- holding [ov] (getMethod ov m pl)
   callWith pos f first (backTo pos (starEach [] X.env)) (backToKw pos (keywordEach [] X.env))):=by rfl):
  PE X (.Call (.Attribute o m apos) [] [] pos) (t8 C m sp dvs E ta n4):=by
 intro pins s σ H Q I h
 refine PySem.W.methodCall_KW (pl:=pl) (iK (he pins s σ H _ I h) fun u s1 ⟨x,H1,I1,rx,a,dx,fs,ex,ea,l,q⟩=>?_) ht
 subst ex
 obtain rfl:u=Value.ref a:=rx
 refine A4 I1 ea c hm l ?_
 exact PySem.W.callWith_K0 (first:=[.ref a]) I1.kIn hm.kp (uu (us:=[.ref a]) (vs:=[.ref a]) F hr hb hd hx I1 (.cons rfl .nil) q)
structure Mk(K:PySem.W.Frag)(C f:Addr):Prop where
 makes:PySem.W.makesIn K C=true
 init:PySem.W.findIn K (.ref C) "__init__"=some (some (.ref f))
 fn:PySem.W.isFn K (.ref f)=true
 kp:PySem.W.keepIn K (.ref C)=true
theorem FL{pins:List (Addr×Obj)}{σ:St}{H:Hp}{s:Shared}{Q:VK}{us:List Value}{vs:List V}(M:Mk X.K C f)(F:FnOk X.prog X.w X.K X.mg X.base CX k f fd ps sp)(hr:Room (k+1) X.A)(hb:jel X.K fd ps ds)(hd:Vals dvs ds)
  (hx:mm CX X E) (I:Inv X pins σ H s) (r:Vals vs us)
  (h:∀x dx,H x=none->H dx=none->dx≠x->sp (.ref x::(vs++dvs)) (upd (upd H dx (.own x)) x (.ins C dx [])) (fun v H2=>v= .non/\Q (.ref x) H2) E):
  wpAny (model X.prog X.w) X.A (call (.ref C) us) (EP X pins σ Q) X.xe s:=by
 have hq:=h (s.heap.objs.size+1) s.heap.objs.size (I.hok.fresh (c5 _)) (I.hok.fresh (av _)) (aU (fU _))
 have I2:=Inv.made (C:=C) I
 have r2:Vals (V.ref (s.heap.objs.size+1)::(vs++dvs)) (Value.ref (s.heap.objs.size+1)::(us++ds)):=.cons rfl (r.append hd)
 have hl:(Value.ref (s.heap.objs.size+1)::us++ds).length=ps.length:=by
  have e:=r2.length
  rw[F.len _ _ _ _ hq]at e
  exact e.symm
 refine wpAny_call (Fu (f:=f) I.kIn M.makes M.init (gN.mp M.fn) (fj (F.run _ X.stack _ _ ⟨Value.ref (s.heap.objs.size+1)::us,[]⟩ (Value.ref (s.heap.objs.size+1)::(us++ds)) _ _ E (hr.make C us [])
  (I2.env0.make C us []) (hb _ (Value.ref (s.heap.objs.size+1)::us) I2.kIn hl) r2 hq) fun r s' hq'=>?_))
 cases r with
 |error e=>exact hx pins σ _ _ e s' I2 hq'
 | ok fl=>
  cases fl with
  |ret u=>
   obtain⟨v,H',I3,rv,ev,q3⟩:=I2.after hq'
   subst ev
   exact⟨rv,⟨V.ref (s.heap.objs.size+1),H',I3,rfl,q3⟩⟩
  |next=>exact False.elim hq'
  |brk=>exact False.elim hq'
  |cont=>exact False.elim hq'
theorem EH(M:Mk X.K C f)(F:FnOk X.prog X.w X.K X.mg X.base CX k f fd ps sp)(hr:Room (k+1) X.A)(hg:Gl X x)(hm:X.mg x=some (.ref C))(hb:jel X.K fd ps ds)(hd:Vals dvs ds)(hx:mm CX X E)
  (ha:PA X (e::es) t) (hdb:(x==("__debug__":Str))=false:=by decide) (he:starEach (e::es) X.env=(false,eval e X.env)::starEach es X.env:=by rfl) (hpl:(backTo pos (starEach es X.env)).any (·.1)=false:=by rfl):
  PE X (.Call (.Name x p) (e::es) [] pos) (wW C sp dvs E t):=by
 intro pins s σ H Q I h
 refine cP (uI I hg hm ?_ hdb)
 refine gP (h₀:=X.base) I.ok.mod.kin M.kp (iK (ha pos pins s σ H _ I h) fun us s1 ⟨vs,H1,I1,r,q⟩=>⟨I1.kIn,?_⟩) he hpl
 exact FL M F hr hb hd hx I1 r q
end
def PK(X:Cx)(kws:List Keyword)(t:TA):Prop:=
 ∀(pos:Pos) (pins:List (Addr×Obj)) (s:Shared) (σ:St) (H:Hp) (Q:List V->Hp->Prop),Inv X pins σ H s->t σ H Q->wpAny (model X.prog X.w) X.A (evalAll ((backToKw pos (keywordEach kws X.env)).map (·.2))) (AP X pins σ Q) X.xe s
section
variable{X:Cx}{CX:kW}{k:Nat}{f C:Addr}{fd:FuncData}{ps ks:List Str}{sp:Sp}{E:XK}{x m:Str}{p pos apos kpos:Pos}{e o:Expr}{es:List Expr}{kws:List Keyword}{te ta:TE}{t tk:TA}{nm:Option Str}
theorem Dd:PK X [] n4:=fun _ _ _ _ H Q I h=>wpAny_evalAll_nil ⟨[],H,I,.nil,h⟩
theorem EL(ha:PE X e te)(hr:PK X kws t):PK X (⟨nm,e,kpos⟩::kws) (qU te t):=by
 intro pos pins s σ H Q I h
 show wpAny _ _ (evalAll ((do let v <- eval e X.env; standAt pos; pure v) :: (backToKw pos (keywordEach kws X.env)).map (·.2))) _ _ s
 refine wpAny_evalAll_cons (aa (iK (ha pins s σ H _ I h) fun u s1 ⟨x,H1,I1,r1,q1⟩=>aa (gH (ak ?_))))
 exact iK (hr pos pins s1 σ H1 _ I1 q1) fun us s2 ⟨xs,H2,I2,r2,q2⟩=>⟨x::xs,H2,I2,.cons r1 r2,q2⟩
variable{g:List Value->List Value->List Value}{gV:List V->List V->List V}
end
structure FnScope(N P:List Str)(sc:Scope):Prop where
 kind:sc.kind= .function
 co:sc.isCoroutine=false
 gen:sc.isGenerator=false
 nd:N.Nodup
 pre:N.take P.length=P
 par:∀x∈P,sc.names.lookup x=some .local\/sc.names.lookup x=some .cell
 nofree:∀y∈sc.names,y.2≠ .free
theorem As{kindOf:Str->Option NameKind}{x:Str}:∀{binds:List (Str×Value)} {m:Str->Option Value},(∀v,(x,v)∉binds)->bindL kindOf binds m x=m x
 |[],_,_=>rfl
 | (n,v)::r,m,h=>by
  unfold bindL
  rw[As fun w hw=>h w (ay _ hw)]
  split
  ·have:x≠n:=by rintro rfl;exact h v aJ
   simp[this]
  ·rfl
theorem Aq{kindOf:Str->Option NameKind}{x:Str}:∀{binds:List (Str×Value)} {m:Str->Option Value},(∀v,(x,v)∉binds)->bindC kindOf binds m x=m x
 |[],_,_=>rfl
 | (n,v)::r,m,h=>by
  unfold bindC
  rw[Aq fun w hw=>h w (ay _ hw)]
  split
  ·rfl
  ·have:x≠n:=by rintro rfl;exact h v aJ
   simp[this]
theorem Ar{kindOf:Str->Option NameKind}{x:Str}{v:Value}:∀{P:List Str} {vs:List Value} {i:Nat} {m:Str->Option Value},P.Nodup->P[i]? =some x->vs[i]? =some v->kindOf x=some .local->
  bindL kindOf (P.zip vs) m x=some v
 |[],_,_,_,_,h,_,_=>by simp at h
 |_::_,[],_,_,_,_,h,_=>by simp at h
 |p::P,w::vs,0,m,nd,h1,h2,hk=>by
  simp at h1 h2;subst h1;subst h2
  show bindL kindOf ((p,w)::P.zip vs) m p=_
  unfold bindL
  rw[As fun v hv=>(bB.mp nd).1 (ig hv).1,aw hk]
  simp
 |p::P,w::vs,i+1,m,nd,h1,h2,hk=>by
  show bindL kindOf ((p,w)::P.zip vs) m x=_
  unfold bindL
  exact Ar (i:=i) (bB.mp nd).2 (by simpa using h1) (by simpa using h2) hk
theorem Ap{kindOf:Str->Option NameKind}{x:Str}{v:Value}:∀{P:List Str} {vs:List Value} {i:Nat} {m:Str->Option Value},P.Nodup->P[i]? =some x->vs[i]? =some v->kindOf x≠some .local->
  bindC kindOf (P.zip vs) m x=some v
 |[],_,_,_,_,h,_,_=>by simp at h
 |_::_,[],_,_,_,_,h,_=>by simp at h
 |p::P,w::vs,0,m,nd,h1,h2,hk=>by
  simp at h1 h2;subst h1;subst h2
  show bindC kindOf ((p,w)::P.zip vs) m p=_
  unfold bindC
  rw[Aq fun v hv=>(bB.mp nd).1 (ig hv).1,au hk]
  simp
 |p::P,w::vs,i+1,m,nd,h1,h2,hk=>by
  show bindC kindOf ((p,w)::P.zip vs) m x=_
  unfold bindC
  exact Ap (i:=i) (bB.mp nd).2 (by simpa using h1) (by simpa using h2) hk
def ml(N:List Str)(vs:List V):St:=vs.map some++List.replicate (N.length-vs.length) none
def oW(CX:kW)(P:Program)(w:World)(K:PySem.W.Frag)(mg:Str->Option Value)(base:Heap)(N:List Str)(qual:Str)(scope:Scope)(f:Addr)(cd:Value)(A:Around)(outer:List Env)(s:Shared)(H:Hp)(E:XK):Cx where
 prog:=P
 w:=w
 K:=K
 mg:=mg
 base:=base
 A:=A.deeper (envOfC qual scope s.heap.objs.size f cd)
 N:=N
 s₀:=s
 H₀:=H
 env:=envOfC qual scope s.heap.objs.size f cd
 outer:=outer
 stack:=envOfC qual scope s.heap.objs.size f cd::outer
 ex:=[]
 calm:=true
 fn:=fun _=>true
 pn:=[]
 xe:=fun e s'=>wpAny (model P w) (A.deeper (envOfC qual scope s.heap.objs.size f cd)) (leaving (envOfC qual scope s.heap.objs.size f cd) e) (fun _ s''=>CX outer H s E e s'') (fun e' s''=>CX outer H s E e' s'') s'
theorem zB{sc:Scope}{n:Nat}{x:Str}(h:sc.names.lookup x=some .cell):∃c,(cellsFrom n sc.names []).lookup x=some c:=by
 have q:=PySem.W.cellsFrom_some sc.names n [] (.inl h)
 exact fO.mp q
theorem Ga{CX:kW}{P:Program}{w:World}{K:PySem.W.Frag}{mg:Str->Option Value}{base:Heap}{N ps:List Str}{qual:Str}{scope:Scope}{f:Addr}{cd:Value}{A:Around}{outer:List Env}{s s1:Shared}{H:Hp}{E:XK}{us:List Value}{vs:List V}
  (S:FnScope N ps scope) (hd:A.handled=none) (e0:Env0 P w K mg base A outer s H) (hl:vs.length=ps.length) (r:Vals vs us)
  (x:InCallC s s.heap.objs.size (bindL (envOfC qual scope s.heap.objs.size f cd).kindOf (ps.zip us) fun _=>none) (cellsFrom (s.heap.objs.size+1) scope.names []) (bindC (envOfC qual scope s.heap.objs.size f cd).kindOf (ps.zip us) fun _=>none) s1):
  Inv (oW CX P w K mg base N qual scope f cd A outer s H E) [] (ml N vs) H s1:=by
 have hpl:ps.length<=N.length:=by have:=bY List.length S.pre;rw[aW]at this;lia
 obtain⟨h1,tk,rfl,hk⟩:=x.done
 have noA:∀b:Addr,b∉(oW CX P w K mg base N qual scope f cd A outer s H E).ex:=fun b z=>absurd (show b∈([]:List Addr)from z) (by simp)
 refine⟨⟨e0.mod,S.kind,rfl,rfl,av _,fun y z c h1 h2=>?_,fun y hy=>?_,fun y c _ h=>?_,fun _=>hd,Around.frames_deeper e0.frames,.inr ⟨rfl,rfl⟩,fun b z=>absurd z (noA b),e0.bs,e0.bsz,fun b _ _=>noA b,fun b z=>absurd z (noA b),e0.funs,e0.frf⟩,
  rfl,e0.bare,Un.kept hk,⟨_,x.toInCall.ns,fun i y v h1 h2 h3=>?_⟩,fun y c h=>⟨_,x.cell y c h⟩,e0.hok.fresh (av _),fun y c h=>?_,fun p hp=>absurd (show p∈([]:List (Addr×Obj))from hp) (by simp),e0.hok.kept hk,?_⟩
 ·exact name_of_addr x.apart (cC h1) (cC h2)
 ·have hy:scope.names.lookup y=some .cell\/scope.names.lookup y=some .free:=hy
  rcases hy with hy|hy
  ·exact zB hy
  ·exact absurd rfl (S.nofree _ (cC hy))
 ·exact fk (x.above y c (cC h))
 ·have hi:i<vs.length:=by
   unfold ml at h2
   by_cases hi:i<vs.length
   ·exact hi
   ·rw[cA (by simpa using hi)]at h2
    rw[List.getElem?_replicate]at h2
    split at h2<;>cases h2
  have ha:vs[i]? =some v:=by
   unfold ml at h2
   rw[bH (by simpa using hi),aA]at h2
   cases e:vs[i]? with
   |none=>rw[e]at h2;cases h2
   |some a=>rw[e]at h2;cases h2;rfl
  obtain⟨u,hu,rv⟩:=r.get ha
  have hp:ps[i]? =some y:=by
   rw [<- S.pre,List.getElem?_take_of_lt (by lia)]; exact h1
  have ndP:ps.Nodup:=by rw [<- S.pre]; exact S.nd.sublist (eI _ _)
  refine⟨u,rv,?_⟩
  rcases S.par y (ao hp)with k|k
  ·exact .inl ⟨k,Ar ndP hp hu k⟩
  ·obtain⟨c,e⟩:=zB (n:=s.heap.objs.size+1) k
   refine .inr ⟨.inl k,c,e,?_⟩
   have q:=x.cell y c e
   rw[Ap ndP hp hu (by show scope.names.lookup y≠_;rw[k];decide)]at q
   exact q
 ·exact e0.hok.fresh (fk (x.above y c (cC h)))
 ·unfold ml
  show _=N.length
  rw[aH,ae,List.length_replicate]
  lia
theorem Je{CX:kW}{P:Program}{w:World}{K:PySem.W.Frag}{mg:Str->Option Value}{base:Heap}{k:Nat}{f:Addr}{name qual:Str}{params:Arguments}{body:List Stmt}{scope:Scope}{dV kV doc pm cdv ct oc:Value}{an od:Option Addr}
  {osl:Array (Option Value)} {N ps:List Str} {sp:Sp} (lk:K.lookup f=some ⟨oc,od,.func (PySem.W.fnOf name qual params body scope dV kV doc pm an cdv ct),osl⟩) (hcd:PySem.W.codeIn K cdv qual=true) (S:FnScope N ps scope)
  (len:∀vs H Q E,sp vs H Q E->vs.length=ps.length)
  (hbody:∀(A:Around) (outer:List Env) (s:Shared) (H:Hp) (vs:List V) (Q:VK) (E:XK),Room k (A.deeper (envOfC qual scope s.heap.objs.size f cdv))->sp vs H Q E->
   ∃t,PSs (oW CX P w K mg base N qual scope f cdv A outer s H E) body t/\t {nx:=fun _ H'=>Q .non H',rt:=Q} (ml N vs) H):
  FnOk P w K mg base CX (k+1) f (PySem.W.fnOf name qual params body scope dV kV doc pm an cdv ct) ps sp:=by
 refine⟨len,fun A outer s H args us vs Q E hr e0 hb r hsp=>?_⟩
 have hl:=len _ _ _ _ hsp
 have KX:K.In s.heap:=e0.mod.kin.keeps fun b o e=>(e0.bs b o e).1
 have lim:s.heap.NoLimit:=e0.mod.nolimit.keeps fun b o e=>(e0.bs b o e).1
 have hkind:∀y∈ps.zip us,scope.names.lookup y.1=some .local\/(scope.names.lookup y.1=some .cell/\((cellsFrom (s.heap.objs.size+1) scope.names []).lookup y.1).isSome=true):=fun⟨n,v⟩ hy=>by
  rcases S.par n (ig hy).1 with q|q
  ·exact .inl q
  ·exact .inr ⟨q,PySem.W.cellsFrom_some _ _ _ (.inl q)⟩
 refine codeAny_call_function hr.depth (KX _ _ lk) rfl S.co S.gen rfl (PySem.W.codeRec_of KX hcd) (hb _ _ _ _ ?_)
 refine wpAny_newFunctionEnv_cells S.kind hkind fun env he s1 x=>?_
 subst he
 refine⟨lim.keeps x.toInCall.keep,codeAny_func ?_⟩
 obtain⟨t,ht,hq⟩:=hbody A outer s H vs Q E (hr.deeper _) hsp
 have I:Inv (oW CX P w K mg base N qual scope f cdv A outer s H E) [] (ml N vs) H s1:=Ga S hr.hd e0 hl r x
 refine cV (ht [] s1 (ml N vs) H _ I hq) (fun fl s' hs=>?_) fun e s' hs=>hs
 have fin:∀{σ':St} {H':Hp} {v:V} {u:Value},Inv (oW CX P w K mg base N qual scope f cdv A outer s H E) [] σ' H' s'->RelV v u->Q v H'->CE outer P w H s Q u s':=
  fun{σ' H' v u} J rv q=>⟨v,H',J.os,J.bare,J.base,J.hok,rv,q⟩
 cases fl with
 |ret u=>
  obtain⟨v,σ',H',J,rv,q⟩:=hs
  exact fin J rv q
 |next=>
  obtain⟨σ',H',J,q⟩:=hs
  exact fin (v:=V.non) (u:=Value.none) J rfl q
 |brk=>
  obtain⟨_,_,_,q⟩:=hs
  exact False.elim q
 |cont=>
  obtain⟨_,_,_,q⟩:=hs
  exact False.elim q
section
variable{X:Cx}{x:Str}{p pos:Pos}{e:Expr}{es:List Expr}{t:TA}{id T:String}{r:List V->Hp->VK->Prop}
def qD(r:List V->Hp->VK->Prop)(t:TA):TE:=fun σ H Q=>t σ H fun vs H1=>r vs H1 Q
theorem jh(hc:jbs X (.builtin id) r)(hg:Gl X x)(hm:X.mg x=none)(hv:bootBuiltins x=some (.builtin id))(ha:PA X (e::es) t)(hn:x≠"__name__":=by decide)(hdb:(x==("__debug__":Str))=false:=by decide)
  (he:starEach (e::es) X.env=(false,eval e X.env)::starEach es X.env:=by rfl) (hpl:(backTo pos (starEach es X.env)).any (·.1)=false:=by rfl):PE X (.Call (.Name x p) (e::es) [] pos) (qD r t):=by
 intro pins s σ H Q I h
 refine cP (lJ I hg hm hv ?_ hn hdb)
 exact g9 (iK (ha pos pins s σ H _ I h) fun us s1 ⟨vs,H1,I1,r1,q1⟩=>hc pins s1 σ H1 vs us Q I1 r1 q1) he hpl
theorem nQ(hc:jbs X (.type T) r)(hg:Gl X x)(hm:X.mg x=none)(hv:bootBuiltins x=some (.type T))(ha:PA X (e::es) t)(hn:x≠"__name__":=by decide)(hdb:(x==("__debug__":Str))=false:=by decide)
  (he:starEach (e::es) X.env=(false,eval e X.env)::starEach es X.env:=by rfl) (hpl:(backTo pos (starEach es X.env)).any (·.1)=false:=by rfl):PE X (.Call (.Name x p) (e::es) [] pos) (qD r t):=by
 intro pins s σ H Q I h
 refine cP (lJ I hg hm hv ?_ hn hdb)
 exact cz (iK (ha pos pins s σ H _ I h) fun us s1 ⟨vs,H1,I1,r1,q1⟩=>hc pins s1 σ H1 vs us Q I1 r1 q1) he hpl
end
end L2
namespace HT
open PySem PyProof.Rows
def lexLt:List Int->List Int->Bool
 |[],[]=>false
 |[],_::_=>true
 |_::_,[]=>false
 |x::xs,y::ys=>if x=y then lexLt xs ys else decide (x<y)
theorem lT(x y:Int)(xs ys:List Int):lexLt (x::xs) (y::ys)=if x=y then lexLt xs ys else decide (x<y):=rfl
theorem xJ:lexLt [] []=false:=rfl
theorem ID(y:Int)(ys:List Int):lexLt [] (y::ys)=true:=rfl
theorem IC(x:Int)(xs:List Int):lexLt (x::xs) []=false:=rfl
theorem Ff(A:Around)(s:Shared)(a:Int)(t:Tok)(c:Int)(u:Tok):∃e,SeqAt.EqAt A s (.int a t) (.int c u) e/\(e=true↔a=c):=
 ⟨(a==c),SeqAt.EqAt.int_int a t c u,by simp⟩
theorem FJ(A:Around)(s:Shared)(a:Int)(t:Tok)(c:Int)(u:Tok)(prog:Program)(w:World)(E:Value->Shared->Prop)(Q:Value->Shared->Prop)(h:Q (.bool (decide (a<c))) s):
  wpAny (model prog w) A (richCompare .Lt (.int a t) (.int c u)) Q E s:=
 (PyProof.Rows.lt_int h:wpAny (model prog w) A (compareOp .Lt (.int a t) (.int c u)) Q E s)
section
open PySem.SeqAt
open PySem.AutoSeq1 (wpAny_loadPart')
open PySem.MeetsSeq PySem.MeetsSeq2 PySem.MeetsSeq3
theorem IA(l b:Addr)(items items2:Array Value)(n n2:Nat)(dd dd2:Option Addr)(sl o8:Array (Option Value))(ns ms:List Int)(hi:IntsAre items.toList ns)(hj:IntsAre items2.toList ms):
  Meets (Builtin.«tuple.__lt__» ⟨[.ref l,.ref b],[]⟩)
   (fun _ R s=>s.heap.get? l=some {cls:=.type "tuple",dict:=dd,data:=.seq items n,slots:=sl}/\s.heap.get? b=some {cls:=.type "tuple",dict:=dd2,data:=.seq items2 n2,slots:=o8}/\
    R (.ok (.ret (.bool (lexLt ns ms)))) s):=
 .of_wp fun prog w A R s h=>by
  obtain⟨hp,g,d,tk,os⟩:=s;obtain⟨hl,hb,h⟩:=h
  have f2:=AutoSeq1.sub_tuple_tuple
  have z1:items.size = ns.length:=by rw [<- hi.length]; simp
  have z2:items2.size = ms.length:=by rw [<- hj.length]; simp
  wp_walk using wpAny_loadPart' hl,wpAny_loadPart' hb,fQ _ (fun rest b s'=>b.1=none/\s'=⟨hp,g,d,tk,os⟩/\∃(vs ws:List Value) (ns' ms':List Int),rest=vs.zip ws/\
   IntsAre vs ns'/\IntsAre ws ms'/\ns'.length+items2.size=ms'.length+items.size/\R (.ok (.ret (.bool (lexLt ns' ms')))) ⟨hp,g,d,tk,os⟩) _
  case turn=>
   rintro⟨y,x⟩ rest b s' ⟨hb',rfl,vs,ws,ns',ms',hz,hvi,hwi,hlen,hR⟩
   cases hvi with
   |nil=>rw[List.zip_nil_left]at hz;cases hz
   | cons a t hvi'=>
    cases hwi with
    |nil=>rw[List.zip_nil_right]at hz;cases hz
    | cons c u hwi'=>
     rw[List.zip_cons_cons]at hz
     injection hz with hyx hrest
     injection hyx with hy hx
     subst hy hx
     rw[lT]at hR
     simp only[List.length_cons]at hlen
     obtain⟨e,he,hiff⟩:=Ff A.in1 ⟨hp,g,d,tk,os⟩ a t c u
     refine aa (he prog w _ _ ?_)
     cases e with
     |true=>
      rw[aw (hiff.mp rfl)]at hR
      wp_walk
      exact⟨rfl,rfl,_,_,_,_,hrest,hvi',hwi',by lia,hR⟩
     |false=>
      rw[au (fun q=>absurd (hiff.mpr q) bj)]at hR
      have hri:=FJ A.in1 ⟨hp,g,d,tk,os⟩ a t c u prog w
      wp_walk using hri
      exact⟨_,rfl,by simpa using hR⟩
  case fin=>
   rintro⟨b1,b2⟩ s' ⟨hb',rfl,vs,ws,ns',ms',hz,hvi,hwi,hlen,hR⟩
   simp only at hb'
   subst hb'
   have hv:lexLt ns' ms'=decide (items.size<items2.size):=by
    cases hvi with
    | nil=>
     cases hwi with
     |nil=>
      simp only[List.length_nil]at hlen
      rw[xJ]
      exact(aC (by lia)).symm
     |cons c u hw=>
      simp only[List.length_nil,List.length_cons]at hlen
      rw[ID]
      exact(az (by lia)).symm
    | cons a t hv=>
     cases hwi with
     |nil=>
      simp only[List.length_nil,List.length_cons]at hlen
      rw[IC]
      exact(aC (by lia)).symm
     |cons c u hw=>
      rw[List.zip_cons_cons]at hz
      cases hz
   rw[hv]at hR
   wp_walk
   exact⟨_,rfl,by simpa[Builtin.Tuple.tupleCompareSizes]using hR⟩
  case h=>
   exact⟨rfl,rfl,items.toList,items2.toList,ns,ms,rfl,hi,hj,by lia,h⟩
end
section
variable{prog:Program}{w:World}{A:Around}{E:Value->Shared->Prop}{s:Shared}
theorem xI{l b:Addr}{items items2:Array Value}{ns ms:List Int}{Q:Value->Shared->Prop}(hl:IsTup s.heap l items)(hb:IsTup s.heap b items2)(hi:IntsAre items.toList ns)(hj:IntsAre items2.toList ms)
  (hu:A.units<cLine) (h:Q (.bool (lexLt ns ms)) s):wpAny (model prog w) A (compareOp .Lt (.ref l) (.ref b)) Q E s:=by
 obtain⟨⟨cls,dd,data,sl⟩,ho,hc,n,hd⟩:=id hl
 obtain⟨⟨cls2,dd2,data2,o8⟩,ho2,hc2,n2,hd2⟩:=id hb
 simp only at hc hd hc2 hd2
 subst hc hd hc2 hd2
 exact richCompare_meets_room (op:=.Lt) ⟨_,ho,rfl⟩ ⟨_,ho2,rfl⟩ PySem.F.slot_tuple_lt PySem.F.entry_tuple_lt (PySem.F.args_tuple_lt_2 _ _) (IA l b items items2 n n2 dd dd2 sl o8 ns ms hi hj)
  ⟨ho,ho2,show Value.bool (lexLt ns ms)≠Value.notImplemented/\Q (.bool (lexLt ns ms)) s from⟨(fun x=>nomatch x),h⟩⟩ hu
def i4(n d:Nat):Option Int->Nat
 |none=>d
 |some v=>if v<0 then(v+(n:Int)).toNat else min v.toNat n
theorem CC(n d:Nat)(hd:d<=n)(o:Option Int):i4 n d o<=n:=by
 cases o with
 |none=>exact hd
 |some v=>
  show(if v<0 then(v+(n:Int)).toNat else min v.toNat n)<=n
  by_cases hv:v<0
  ·rw[aw hv];lia
  ·rw[au hv];exact Nat.min_le_right _ _
theorem yy(v:Int)(n d:Nat):(if v<0 then max (v+(n:Int)) 0 else min v (n:Int))=((i4 n d (some v):Nat):Int):=by
 show(if v<0 then max (v+(n:Int)) 0 else min v (n:Int))=(((if v<0 then(v+(n:Int)).toNat else min v.toNat n):Nat):Int)
 by_cases hv:v<0
 ·simp only[aw hv];lia
 ·simp only[au hv];lia
theorem GM(lo hi:Option Int)(n:Nat):Builtin.Slice.sliceAdjust lo hi 1 (n:Int)=(((i4 n 0 lo:Nat):Int),((i4 n n hi:Nat):Int)):=by
 have h1:¬((1:Int)<0):=by lia
 unfold Builtin.Slice.sliceAdjust
 simp only[h1,if_false]
 refine iw ?_ ?_
 ·cases lo with
  |none=>rfl
  |some v=>exact yy v n 0
 ·cases hi with
  |none=>rfl
  |some v=>exact yy v n n
theorem Hb(i j:Nat):Builtin.Slice.slicePlaces (i:Int) (j:Int) 1=j-i:=by
 unfold Builtin.Slice.slicePlaces
 have h1:(1:Int)>0:=by lia
 simp only[h1,if_true,Int.ediv_one]
 split<;>lia
theorem Bc{v:Value}{o:Option Int}{Q:Option Int->Shared->Prop}(p:IsPart v o)(h:Q o s):wpAny (model prog w) A (Builtin.Slice.slicePartIndex v) Q E s:=by
 cases p with
 |none=>exact slicePart_none h
 |int i t=>exact slicePart_int h
theorem IR{sl:Addr}{vl vu:Value}{lo hi:Option Int}{n:Nat}{Q:Int×Int×Nat->Shared->Prop}(hs:s.heap.IsSliceOf sl vl vu .none)(pl:IsPart vl lo)(pu:IsPart vu hi)
  (h:Q (((i4 n 0 lo:Nat):Int),1,i4 n n hi-i4 n 0 lo) s):wpAny (model prog w) A (Builtin.Slice.sliceApplied (.ref sl) (pure (n:Int))) Q E s:=by
 obtain⟨os,hos,hcs,hds⟩:=id hs
 unfold Builtin.Slice.sliceApplied Builtin.Slice.sliceFields
 refine aa (aa (cH hos hds (x:=vl) rfl (aa (cH hos hds (x:=vu) rfl (aa (cH hos hds (x:=.none) rfl (ak ?_)))))))
 refine aa (slicePart_none ?_)
 show wpAny _ _ (if((1:Int)==0)=true then _ else _) _ _ s
 rw[au (by decide)]
 refine aa (Bc pl (aa (Bc pu (aa (ak ?_)))))
 show wpAny _ _ (match Builtin.Slice.sliceAdjust lo hi 1 (n:Int)with |(lo,hi)=>pure (lo,(1:Int),Builtin.Slice.slicePlaces lo hi 1)) _ _ s
 rw[GM lo hi n]
 show wpAny _ _ (pure (((i4 n 0 lo:Nat):Int),(1:Int),Builtin.Slice.slicePlaces ((i4 n 0 lo:Nat):Int) ((i4 n n hi:Nat):Int) 1)) _ _ s
 rw[Hb]
 exact ak h
theorem FF(xs:Array Value)(i k:Nat):((List.range k).filterMap fun(m:Nat)=>xs[((i:Int)+(m:Int)*1).toNat]?).toArray=((xs.toList.drop i).take k).toArray:=by
 have e:(fun(m:Nat)=>xs[((i:Int)+(m:Int)*1).toNat]?)=fun m=>xs[i+m]?:=by
  funext m
  have:((i:Int)+(m:Int)*1).toNat=i+m:=by lia
  rw[this]
 rw[e]
 have:=pick_run xs i k
 rw[dY]at this
 have e2:((fun x=>xs[x]?)∘fun x=>i+x)=fun m=>xs[i+m]?:=rfl
 rw[e2]at this
 rw[this]
theorem Ja{t sl:Addr}{items:Array Value}{vl vu:Value}{lo hi:Option Int}{Q:Value->Shared->Prop}(ht:IsTup s.heap t items)(hs:s.heap.IsSliceOf sl vl vu .none)(pl:IsPart vl lo)(pu:IsPart vu hi)
  (hw:¬(i4 items.size 0 lo=0/\i4 items.size items.size hi=items.size))
  (h:Q (.ref s.heap.objs.size) {s with heap:=s.heap.push {cls:=.type "tuple",data:=.seq ((items.toList.drop (i4 items.size 0 lo)).take (i4 items.size items.size hi-i4 items.size 0 lo)).toArray}})
  (hsz:items.size<=sizeLine):wpAny (model prog w) A (getItem (.ref t) (.ref sl)) Q E s:=by
 have htake:sizeOk (.seq ((items.toList.drop (i4 items.size 0 lo)).take (i4 items.size items.size hi-i4 items.size 0 lo)).toArray):=by
  show((items.toList.drop (i4 items.size 0 lo)).take (i4 items.size items.size hi-i4 items.size 0 lo)).toArray.size<=sizeLine
  rw[aj,aW,cU,Array.length_toList]
  lia
 have hj:i4 items.size items.size hi<=items.size:=CC _ _ (av _) hi
 obtain⟨os,hos,hcs,hds⟩:=id hs
 have hTs:s.TypeIs (.ref sl) "slice":=⟨os,hos,hcs⟩
 unfold getItem
 try with_reducible refine cg ?_
 first|refine aa (ak ?_)|skip
 refine aa (wpAny_sequenceKey ht.typeIs (by decide) ?_)
 refine aa (de (name:=Str.ofString "__getitem__") ht.typeIs eO
  (da eO ht.typeIs entry_tuple_getitem ?_ (args_tuple_getitem _ _)))
 show wpAny _ _ (Builtin.Tuple.tupleItemsOf (.ref t)>>=_) _ _ s
 refine aa (tupleItemsOf_ ht ?_)
 refine aa (fY hTs ?_)
 rw[aw (by decide)]
 refine aa (IR hs pl pu ?_)
 have hno:¬((((i4 items.size 0 lo:Nat):Int)==0&&(1:Int)==1&&(i4 items.size items.size hi-i4 items.size 0 lo)==items.size)=true):=by
  intro q
  rw[cR,cR]at q
  have q1:((i4 items.size 0 lo:Nat):Int)=0:=eq_of_beq q.1.1
  have q2:i4 items.size items.size hi-i4 items.size 0 lo=items.size:=eq_of_beq q.2
  exact hw ⟨by lia,by lia⟩
 show wpAny _ _ (if(((i4 items.size 0 lo:Nat):Int)==0&&(1:Int)==1&&(i4 items.size items.size hi-i4 items.size 0 lo)==items.size)=true then _ else _) _ _ s
 rw[au hno,FF]
 first
  |exact aa (m:=Builtin.Tuple.tupleExact _) (cK (ak ⟨_,rfl,ak h⟩) htake)
  |exact aa (m:=Builtin.Tuple.tupleExact _) (cK (aa (ak (ak ⟨_,rfl,ak h⟩))) htake)
  |exact aa (aa (m:=Builtin.Tuple.tupleExact _) (cK (ak (ak ⟨_,rfl,ak h⟩)) htake))
  |exact aa (aa (m:=Builtin.Tuple.tupleExact _) (cK (ak ⟨_,rfl,ak h⟩) htake))
end
end HT
namespace L2
open PySem PySem.Spec PyProof.Rows
abbrev TO:=St->Hp->(Option Int->Hp->Prop)->Prop
def PO(X:Cx)(e:Option Expr)(t:TO):Prop:=
 ∀(pins:List (Addr×Obj)) (s:Shared) (σ:St) (H:Hp) (Q:Option Int->Hp->Prop),Inv X pins σ H s->t σ H Q->
  wpAny (model X.prog X.w) X.A (evalPart e X.env) (fun u s'=>∃o H',Inv X pins σ H' s'/\IsPart u o/\Q o H') X.xe s
def zl:TO:=fun _ H Q=>Q none H
theorem my{ns:List Int}:∀{us:List Value},Vals (ns.map V.int) us->IntsAre us ns:=by
 induction ns with
 |nil=>intro us r;rw[cq]at r;cases r;exact .nil
 | cons n ns ih=>
  intro us r
  rw[aq]at r
  cases r with
  |cons r1 r2=>
   obtain⟨t,e⟩:=r1
   subst e
   exact .cons n t (ih r2)
section
variable{X:Cx}{e:Expr}{te:TE}{lo hi:Option Expr}{tl th:TO}{pos p2:Pos}
theorem oH:PO X none zl:=by
 intro pins s σ H Q I h
 rw[evalPart_none]
 exact ak ⟨none,H,I,.none,h⟩
def SlR(X:Cx)(r:V->Option Int->Option Int->Hp->VK->Prop):Prop:=
 ∀(pins:List (Addr×Obj)) (s:Shared) (σ:St) (H:Hp) (x:V) (v vl vu:Value) (lo hi:Option Int) (sl:Addr) (Q:VK),Inv X pins σ H s->RelV x v->s.heap.IsSliceOf sl vl vu .none->IsPart vl lo->IsPart vu hi->r x lo hi H Q->
  ∃T id,typeLookup (.type T) "__getitem__"=pure (some (.builtin id))/\s.TypeIs v T/\wpAny (model X.prog X.w) X.A (getItem v (.ref sl)) (EP X pins σ Q) X.xe s
def wN(r:V->Option Int->Option Int->Hp->VK->Prop)(te:TE)(tl th:TO):TE:=fun σ H Q=>te σ H fun x H1=>tl σ H1 fun l H2=>th σ H2 fun u H3=>r x l u H3 Q
theorem oO{r:V->Option Int->Option Int->Hp->VK->Prop}(hr:SlR X r)(he:PE X e te)(hl:PO X lo tl)(hu:PO X hi th):PE X (.Subscript e (.Slice lo hi none p2) pos) (wN r te tl th):=by
 intro pins s σ H Q I h
 refine gO (iK (he pins s σ H _ I h) fun v s1 ⟨x,H1,I1,r1,q1⟩=>?_)
 refine wpAny_Slice (iK (hl pins s1 σ H1 _ I1 q1) fun vl s2 ⟨l,H2,I2,pl,q2⟩=>iK (hu pins s2 σ H2 _ I2 q2) fun vu s3 ⟨u,H3,I3,pu,q3⟩=>?_)
 rw[evalPart_none]
 refine ak ?_
 have I4:Inv X pins σ H3 {s3 with heap:=s3.heap.push {cls:=.type "slice",data:=.fields #[vl,vu,.none]}}:=I3.kept (t':=s3.toks) fun b ob q=>af _ q
 obtain⟨T,id,hT,ht,hg⟩:=hr pins {s3 with heap:=s3.heap.push {cls:=.type "slice",data:=.fields #[vl,vu,.none]}} σ H3 x v vl vu l u s3.heap.objs.size Q I4 r1 (gT ..) pl pu q3
 show wpAny (model X.prog X.w) X.A (subscriptTail e (.Slice lo hi none p2) v (.ref s3.heap.objs.size)) (EP X pins σ Q) X.xe {s3 with heap:=s3.heap.push {cls:=.type "slice",data:=.fields #[vl,vu,.none]}}
 exact tail_any (ops:=[.ref s3.heap.objs.size,v]) ht hT hg (by with_unfolding_all rfl)
def kn(xs:List V)(lo hi:Option Int):List V:=(xs.drop (HT.i4 xs.length 0 lo)).take (HT.i4 xs.length xs.length hi-HT.i4 xs.length 0 lo)
theorem Bn(xs:List V)(lo hi:Option Int):(kn xs lo hi).length<=xs.length:=by
 unfold kn
 rw[aW,cU]
 lia
def CL(K:PySem.W.Frag):V->Option Int->Option Int->Hp->VK->Prop:=fun x lo hi H Q=>∃a xs,x= .ref a/\SqT K H a xs/\
 ¬(HT.i4 xs.length 0 lo=0/\HT.i4 xs.length xs.length hi=xs.length)/\∀p,H p=none->Q (.ref p) (upd H p (.tup (kn xs lo hi)))
theorem Cu:SlR X (CL X.K):=by
 intro pins s σ H x v vl vu lo hi sl Q I rx hs pl pu h
 obtain⟨a,xs,rfl,hx,hw,q⟩:=h
 cases rx
 obtain⟨its,r,ht,hz⟩:=I.tuple hx
 have hlen:its.toArray.size=xs.length:=by rw[aj];exact r.length.symm
 refine⟨"tuple",_,eO.lookup,ht.typeIs,?_⟩
 refine HT.Ja ht hs pl pu (by rw[hlen];exact hw) ?_ (by rw[hlen];exact hz)
 rw[hlen]
 refine⟨.ref s.heap.objs.size,_,I.laid (t':=s.toks) (o:=.tup (kn xs lo hi)) (fun b ob q=>af _ q) (av _) ?_,rfl,q _ (I.hok.fresh (av _))⟩
 exact⟨bz (Bn xs lo hi) hz,_,(r.drop (HT.i4 xs.length 0 lo)).take (HT.i4 xs.length xs.length hi-HT.i4 xs.length 0 lo),IsTup.new _ _⟩
def CU(K:PySem.W.Frag):R2:=fun x y H Q=>∃a b ns ms,x= .ref a/\y= .ref b/\SqT K H a (ns.map V.int)/\SqT K H b (ms.map V.int)/\Q (.bl (HT.lexLt ns ms)) H
theorem Dp(hu:X.A.units<cLine):OpR X (compareOp .Lt) (CU X.K):=by
 intro pins s σ H x y v u Q I rx ry h
 obtain⟨a,b,ns,ms,rfl,rfl,ha,hb,q⟩:=h
 cases rx
 cases ry
 obtain⟨its,r1,p1,_⟩:=I.tuple ha
 obtain⟨its2,r2,p2,_⟩:=I.tuple hb
 have i1:IntsAre its.toArray.toList ns:=my r1
 have i2:IntsAre its2.toArray.toList ms:=my r2
 exact HT.xI p1 p2 i1 i2 hu ⟨.bl (HT.lexLt ns ms),H,I,rfl,q⟩
end
def ky(n:Nat)(i:Int):Option Nat:=if 0<=i then(if i<n then some i.toNat else none)else if -(n:Int)<=i then some (i+n).toNat else none
def je{α:Type}(xs:List α)(i:Int):Option α:=(ky xs.length i).bind fun j=>xs[j]?
theorem yJ{n:Nat}{i:Int}{j:Nat}(h:ky n i=some j):seqIndex? i n=some j/\j<n/\-(n:Int)<=i/\i<n:=by
 unfold ky at h
 by_cases h0:0<=i
 ·rw[aw h0]at h
  by_cases h1:i<n
  ·rw[aw h1]at h
   have e:i.toNat=j:=aO h
   exact⟨by rw[hU h0 h1,e],by lia,by lia,h1⟩
  ·rw[au h1]at h;cases h
 ·rw[au h0]at h
  by_cases h1:-(n:Int)<=i
  ·rw[aw h1]at h
   have e:(i+n).toNat=j:=aO h
   exact⟨by rw[seqIndex_neg (by lia) h1,e],by lia,h1,by lia⟩
  ·rw[au h1]at h;cases h
theorem uB{α:Type}{xs:List α}{i:Int}{v:α}(h:je xs i=some v):∃j,seqIndex? i xs.length=some j/\xs[j]? =some v/\j<xs.length/\-(xs.length:Int)<=i/\i<xs.length:=by
 unfold je at h
 cases e:ky xs.length i with
 |none=>rw[e]at h;cases h
 |some j=>
  rw[e]at h
  obtain⟨h1,h2,h3,h4⟩:=yJ e
  exact⟨j,h1,h,h2,h3,h4⟩
theorem k4{α:Type}{xs:List α}{j:Nat}{v:α}(h:xs[j]? =some v):je xs (j:Int)=some v:=by
 have hj:j<xs.length:=(ag.mp h).1
 have e:ky xs.length (j:Int)=some j:=by
  unfold ky
  rw[aw (by lia),aw (by lia)];simp
 unfold je;rw[e];exact h
def D2(b:Expr):Prop:=∀o i,subscripted b false o i=operate [o,i] (getItem o i)
def IxR(X:Cx)(r:R2):Prop:=
 ∀(value slice:Expr) (pins:List (Addr×Obj)) (s:Shared) (σ:St) (H:Hp) (x y:V) (v u:Value) (Q:VK),Inv X pins σ H s->RelV x v->RelV y u->r x y H Q->
  subscripted slice false v u=operate [v,u] (getItem v u)->wpAny (model X.prog X.w) X.A (subscriptTail value slice v u) (EP X pins σ Q) X.xe s
def MtR(X:Cx)(id:String)(r:V->List V->Hp->VK->Prop):Prop:=
 ∀(pins:List (Addr×Obj)) (s:Shared) (σ:St) (H:Hp) (x:V) (xs:List V) (v:Value) (us:List Value) (Q:VK),Inv X pins σ H s->RelV x v->Vals xs us->r x xs H Q->
  wpAny (model X.prog X.w) X.A (call (.builtin id) (v::us)) (EP X pins σ Q) X.xe s
section
variable{X:Cx}{a b:Expr}{ta tb:TE}{pos:Pos}
theorem IxR.or{r r':R2}(h:IxR X r)(h':IxR X r'):IxR X (fun x y H Q=>r x y H Q\/r' x y H Q):=by
 intro value slice pins s σ H x y v u Q I rx ry q hs
 rcases q with q|q
 ·exact h value slice pins s σ H x y v u Q I rx ry q hs
 ·exact h' value slice pins s σ H x y v u Q I rx ry q hs
theorem iO{r:R2}(hr:IxR X r)(ha:PE X a ta)(hb:PE X b tb)(hs:D2 b):PE X (.Subscript a b pos) (nc r ta tb):=by
 intro pins s σ H Q I h
 exact gO (wx ha hb I h fun v u s2 x y H2 I2 rx ry q=>hr a b pins s2 σ H2 x y v u Q I2 rx ry q (hs _ _))
def xt(K:PySem.W.Frag):R2:=fun x y H Q=>∃p xs i v,x= .ref p/\y= .int i/\SqL K H p xs/\je xs i=some v/\Q v H
def CV(K:PySem.W.Frag):R2:=fun x y H Q=>∃p xs i v,x= .ref p/\y= .int i/\SqT K H p xs/\je xs i=some v/\Q v H
theorem yK:IxR X (xt X.K):=by
 intro value slice pins s σ H x y v u Q I rx ry h hs
 obtain⟨p,xs,i,z,rfl,rfl,hq,he,q⟩:=h
 cases rx
 obtain⟨t,rfl⟩:=ry
 obtain⟨its,r,pl,hz⟩:=I.list hq
 obtain⟨j,h1,h2,h3,h4,h5⟩:=uB he
 obtain⟨w,ew,rw'⟩:=r.get h2
 have hl:=r.length
 have hn:=nE
 have fin:EP X pins σ Q w s:=⟨z,H,I,rw',q⟩
 by_cases h0:0<=i
 ·have hj:i.toNat=j:=by
   rw[hU h0 h5]at h1
   exact aO h1
  exact item_listR pl.isList h0 (by lia) (by rw[hj];simpa using ew) fin hs
 ·have hj:(i+(its.toArray.size:Int)).toNat=j:=by
   rw[seqIndex_neg (by lia) h4]at h1
   rw [aj,<- hl]
   exact aO h1
  exact subscriptTail_builtinR (x:=w) pl.isList.typeIs fE.lookup
   (wpAny_getItem_list_neg (Q:=fun r s'=>r=w/\EP X pins σ Q r s') pl.isList (by lia) (by rw[aj]<;>lia) (by lia) (by rw[hj];simpa using ew) ⟨rfl,fin⟩) hs
theorem IU:IxR X (CV X.K):=by
 intro value slice pins s σ H x y v u Q I rx ry h hs
 obtain⟨p,xs,i,z,rfl,rfl,hq,he,q⟩:=h
 cases rx
 obtain⟨t,rfl⟩:=ry
 obtain⟨its,r,pl,hz⟩:=I.tuple hq
 obtain⟨j,h1,h2,h3,h4,h5⟩:=uB he
 obtain⟨w,ew,rw'⟩:=r.get h2
 have hl:=r.length
 have hn:=nE
 have fin:EP X pins σ Q w s:=⟨z,H,I,rw',q⟩
 exact subscriptTail_builtinR (x:=w) pl.typeIs slot_tuple_getitem.lookup
  (getItem_tuple (j:=j) (Q:=fun r s'=>r = w/\EP X pins σ Q r s') pl (by lia) (by lia) (by rw [aj,<- hl]; exact h1) (by simpa using ew) ⟨rfl,fin⟩) hs
theorem GZ(its:List Value)(n j:Nat)(u:Value):Obj.mapSeq (·.setIfInBounds j u) {cls:=.type "list",data:=.seq its.toArray n}={cls:=.type "list",data:=.seq (its.set j u).toArray n}:=by
 simp[Obj.mapSeq]
theorem Inv.lst{pins:List (Addr×Obj)}{σ:St}{H:Hp}{s:Shared}{p:Addr}{xs:List V}(I:Inv X pins σ H s)(h:H p=some (.lst xs)):
  ∃(its:List Value) (n:Nat),Vals xs its/\s.heap.get? p=some {cls:=.type "list",data:=.seq its.toArray n}/\xs.length<=sizeLine:=by
 obtain⟨z,its,n,r,e⟩:=I.hok p _ h
 exact⟨its,n,r,e,z⟩
theorem Inv.lstUpd{pins:List (Addr×Obj)}{σ:St}{H:Hp}{s:Shared}{p:Addr}{xs ys:List V}{its its':List Value}{n n':Nat}{f:Obj->Obj}(I:Inv X pins σ H s)(h:H p=some (.lst xs))
  (ho:s.heap.get? p=some {cls:=.type "list",data:=.seq its.toArray n}) (hf:f {cls:=.type "list",data:=.seq its.toArray n}={cls:=.type "list",data:=.seq its'.toArray n'}) (r:Vals ys its') (hz:ys.length<=sizeLine) (t:Nat):
  Inv X pins σ (upd H p (.lst ys)) {s with heap:=s.heap.update p f,toks:=t}:=by
 have e:(s.heap.update p f).get? p=some {cls:=.type "list",data:=.seq its'.toArray n'}:=by
  rw[bS f ho (by rw[hf]<;>rfl),hf]
 refine I.write (x:=p) (e:=p) (by rw[h];trivial) (.inl rfl) (fun b u hb q=>(bf _ _ (cG hb)).trans q) ⟨_,e⟩ ?_
 exact⟨hz,its',n',r,e⟩
def CN:V->V->V->Hp->(Hp->Prop)->Prop:=fun o i v H Q=>∃p xs k j,o= .ref p/\i= .int k/\H p=some (.lst xs)/\ky xs.length k=some j/\Q (upd H p (.lst (xs.set j v)))
theorem FN:PSet X CN:=by
 intro pins s σ H o i v ov iv u Q I ro ri rv h
 obtain⟨p,xs,k,j,rfl,rfl,hp,hj,q⟩:=h
 cases ro
 obtain⟨t,rfl⟩:=ri
 obtain⟨its,n,r,ho,hz⟩:=I.lst hp
 obtain⟨h1,h2,h3,h4⟩:=yJ hj
 have hl:=r.length
 have hn:=nE
 have I':Inv X pins σ (upd H p (.lst (xs.set j v))) {s with heap:=s.heap.update p (Obj.mapSeq (·.setIfInBounds j u))}:=
  I.lstUpd hp ho (GZ its n j u) (r.set rv j) (by rw[e9];exact hz) s.toks
 by_cases h0:0<=k
 ·have hk:k.toNat=j:=by
   rw[hU h0 h4]at h1
   exact aO h1
  exact PySem.W.ki_setAt ho h0 (by lia) (by rw [aj,<- hl]; exact h4) (by rw [hk]; exact ⟨_,I',q⟩)
 ·have hk:(k+(its.toArray.size:Int)).toNat=j:=by
   rw[seqIndex_neg (by lia) h3]at h1
   rw [aj,<- hl]
   exact aO h1
  exact PySem.W.ki_setBack ho (by lia) (by rw [aj,<- hl]; exact h3) (by lia) (by rw [hk]; exact ⟨_,I',q⟩)
theorem Io(lo hi:Option Int)(n:Nat):(sliceBounds lo hi none n).1=((HT.i4 n 0 lo:Nat):Int)/\(sliceBounds lo hi none n).2.1=((HT.i4 n n hi:Nat):Int)/\(sliceBounds lo hi none n).2.2=1:=by
 refine⟨?_,?_,rfl⟩
 ·cases lo with
  |none=>simp[sliceBounds,HT.i4]
  |some i=>
   simp only[sliceBounds,HT.i4,Option.getD_none,show(1:Int)>0 by decide,if_true]
   by_cases h:i<0
   ·simp only[h,if_true]<;>lia
   ·simp only[h,if_false]<;>lia
 ·cases hi with
  |none=>simp[sliceBounds,HT.i4]
  |some i=>
   simp only[sliceBounds,HT.i4,Option.getD_none,show(1:Int)>0 by decide,if_true]
   by_cases h:i<0
   ·simp only[h,if_true]<;>lia
   ·simp only[h,if_false]<;>lia
theorem Iz(its:List Value)(lo hi:Option Int):slicePick its.toArray lo hi none=((its.drop (HT.i4 its.length 0 lo)).take (HT.i4 its.length its.length hi-HT.i4 its.length 0 lo)).toArray:=by
 obtain⟨h1,h2,h3⟩:=Io lo hi its.toArray.size
 unfold slicePick
 rw[h1,h2,h3]
 simp only[sliceRange_one,pick_run,aj]<;>rfl
def CM(K:PySem.W.Frag):V->Option Int->Option Int->Hp->VK->Prop:=fun x lo hi H Q=>∃a xs,x= .ref a/\SqL K H a xs/\∀p,H p=none->Q (.ref p) (upd H p (.lst (kn xs lo hi)))
theorem ET:SlR X (CM X.K):=by
 intro pins s σ H x v vl vu lo hi sl Q I rx hs pl pu h
 obtain⟨a,xs,rfl,hx,q⟩:=h
 cases rx
 obtain⟨its,r,ht,hz⟩:=I.list hx
 have hlen:=r.length
 refine⟨"list",_,fE.lookup,ht.isList.typeIs,?_⟩
 refine fN ht.isList hs pl pu .none (by simp) ?_ (by rw[aj]<;>lia)
 rw [Iz,<- hlen]
 refine⟨.ref s.heap.objs.size,_,I.laid (t':=s.toks) (o:=.lst (kn xs lo hi)) (fun b ob q=>af _ q) (av _) ?_,rfl,q _ (I.hok.fresh (av _))⟩
 exact⟨bz (Bn xs lo hi) hz,_,0,(r.drop (HT.i4 xs.length 0 lo)).take (HT.i4 xs.length xs.length hi-HT.i4 xs.length 0 lo),aF _ rfl⟩
def pG:V->Bool
 | .non=>true
 | .bl _=>true
 | .int _=>true
 | .str _=>true
 |_=>false
def sH:V->V->Bool
 | .non,.non=>true
 | .bl a,.bl b=>a==b
 | .bl a,.int b=>(if a then 1 else 0)==b
 | .int a,.bl b=>a==(if b then 1 else 0)
 | .int a,.int b=>a==b
 | .str a,.str b=>a==b
 |_,_=>false
theorem Jq{A:Around}{s:Shared}{y x:V}{u v:Value}(ry:RelV y u)(rx:RelV x v)(fy:pG y=true)(fx:pG x=true):SeqAt.EqAt A s u v (sH y x):=by
 cases y with
 |non=>
  cases ry
  cases x with
  |non=>cases rx;exact ic _
  |bl b=>cases rx;exact SeqAt.EqAt.none_bool b
  |int b=>obtain⟨t,rfl⟩:=rx;exact SeqAt.EqAt.none_int b t
  |str b=>obtain⟨t,rfl⟩:=rx;exact SeqAt.EqAt.none_str b t
  |_=>exact absurd (show false=true from fx) bj
 |bl a=>
  cases ry
  cases x with
  |non=>cases rx;exact SeqAt.EqAt.bool_none a
  |bl b=>cases rx;exact SeqAt.EqAt.bool_bool a b
  |int b=>obtain⟨t,rfl⟩:=rx;exact SeqAt.EqAt.bool_int a b t
  |str b=>obtain⟨t,rfl⟩:=rx;exact SeqAt.EqAt.bool_str a b t
  |_=>exact absurd (show false=true from fx) bj
 |int a=>
  obtain⟨t',rfl⟩:=ry
  cases x with
  |non=>cases rx;exact SeqAt.EqAt.int_none a t'
  |bl b=>cases rx;exact SeqAt.EqAt.int_bool a t' b
  |int b=>obtain⟨t,rfl⟩:=rx;exact SeqAt.EqAt.int_int a t' b t
  |str b=>obtain⟨t,rfl⟩:=rx;exact SeqAt.EqAt.int_str a t' b t
  |_=>exact absurd (show false=true from fx) bj
 |str a=>
  obtain⟨t',rfl⟩:=ry
  cases x with
  |non=>cases rx;exact SeqAt.EqAt.str_none a t'
  |bl b=>cases rx;exact SeqAt.EqAt.str_bool a t' b
  |int b=>obtain⟨t,rfl⟩:=rx;exact SeqAt.EqAt.str_int a t' b t
  |str b=>obtain⟨t,rfl⟩:=rx;exact SeqAt.EqAt.str_str a t' b t
  |_=>exact absurd (show false=true from fx) bj
 |_=>exact absurd (show false=true from fy) bj
def BI(x:V)(xs:List V):Bool:=xs.any fun y=>sH y x
theorem vK:jbs X (.builtin "len") (fun xs H Q=>∃p ys,xs=[.ref p]/\(SqL X.K H p ys\/SqT X.K H p ys)/\Q (.int ys.length) H):=by
 intro pins s σ H xs us Q I r h
 obtain⟨p,ys,rfl,hq,q⟩:=h
 obtain⟨u,rfl,rx⟩:=kZ r
 cases rx
 have hn:=nE
 rcases hq with hq|hq
 ·obtain⟨its,r',pl,hz⟩:=I.list hq
  have hlen:=r'.length
  exact Calls.call_len_list pl.isList (by simp only[aj]<;>lia) ⟨.int ys.length,H,I.tok _,⟨s.toks+1,by rw[aj,hlen]⟩,q⟩
 ·obtain⟨its,r',pl,hz⟩:=I.tuple hq
  have hlen:=r'.length
  exact len_tuple pl (by simp only[aj]<;>lia) ⟨.int ys.length,H,I.tok _,⟨s.toks+1,by rw[aj,hlen]⟩,q⟩
theorem HY:jbs X (.type "list") (fun xs H Q=>∃p ys,xs=[.ref p]/\(SqL X.K H p ys\/SqT X.K H p ys)/\∀l,H l=none->Q (.ref l) (upd H l (.lst ys))):=by
 intro pins s σ H xs us Q I r h
 obtain⟨p,ys,rfl,hq,q⟩:=h
 obtain⟨u,rfl,rx⟩:=kZ r
 cases rx
 have fin:∀(its:List Value),Vals ys its->ys.length<=sizeLine->∀(h':Heap) (c':Nat),(∀b o',s.heap.get? b=some o'->h'.get? b=some o')->
   h'.get? s.heap.objs.size=some {cls:=.type "list",dict:=none,data:=.seq its.toArray c',slots:=#[]}->EP X pins σ Q (.ref s.heap.objs.size) {s with heap:=h'}:=fun its r' hz h' c' kp e=>
  ⟨.ref s.heap.objs.size,_,I.laid (t':=s.toks) kp (av _) (show jbf X.prog X.w _ h' _ (.lst ys)from⟨hz,its,c',r',e⟩),rfl,q _ (I.hok.fresh (av _))⟩
 rcases hq with hq|hq
 ·obtain⟨its,r',pl,hz⟩:=I.list hq
  have hlen:=r'.length
  obtain⟨o,ho,hc,n,hd⟩:=pl.isList
  exact call_list_seq p (.inl rfl) ho hc hd (fun h' c' kp e=>fin its r' hz h' c' kp e) (by simp only[aj]<;>lia)
 ·obtain⟨its,r',pl,hz⟩:=I.tuple hq
  have hlen:=r'.length
  obtain⟨o,ho,hc,n,hd⟩:=pl
  exact call_list_seq p (.inr rfl) ho hc hd (fun h' c' kp e=>fin its r' hz h' c' kp e) (by simp only[aj]<;>lia)
def Cg(K:PySem.W.Frag)(T:String)(x:V)(H:Hp):Prop:=match x with
 | .str _=>T="str"
 | .int _=>T="int"
 | .ref p=>(T="list"/\∃xs,SqL K H p xs)\/(T="tuple"/\∃o,K.lookup p=some o/\o.cls= .type "tuple"/\o.dict=none)\/
   (T="dict"/\((∃kvs,H p=some (.dK kvs))\/∃kvs,H p=some (.dT kvs)))\/(T="set"/\∃S n,H p=some (.set S n))
 |_=>False
theorem yp{pins:List (Addr×Obj)}{σ:St}{H:Hp}{s:Shared}{T:String}{x:V}{v:Value}(I:Inv X pins σ H s)(r:RelV x v)(ty:Cg X.K T x H):
  s.TypeIs v T/\∀a,v= .ref a->∃ob,s.heap.get? a=some ob/\ob.dict=none:=by
 cases x with
 |str z=>
  obtain⟨t,rfl⟩:=r
  cases(show T="str" from ty)
  exact⟨typeIs_str s z t,fun _ e=>nomatch e⟩
 |int i=>
  obtain⟨t,rfl⟩:=r
  cases(show T="int" from ty)
  exact⟨typeIs_int s i t,fun _ e=>nomatch e⟩
 | ref p=>
  cases r
  rcases ty with⟨rfl,xs,hq⟩|⟨rfl,o,hk,hc,hd⟩|⟨rfl,hk⟩|⟨rfl,S,n,hk⟩
  ·obtain⟨its,_,pl,_⟩:=I.list hq
   refine⟨pl.isList.typeIs,fun a e=>?_⟩
   cases e
   obtain⟨o,n,e,c,hd,_⟩:=pl
   exact⟨o,e,hd⟩
  ·refine⟨⟨o,I.kIn p o hk,hc⟩,fun a e=>?_⟩
   cases e
   exact⟨o,I.kIn _ o hk,hd⟩
  ·have z:∃o,s.heap.get? p=some o/\o.ExactDict:=by
    rcases hk with⟨kvs,hk⟩|⟨kvs,hk⟩
    ·obtain⟨_,_,_,_,o,_,_,e,ex,_⟩:=I.hok p _ hk
     exact⟨o,e,ex⟩
    ·obtain⟨_,_,_,_,o,_,_,e,ex,_⟩:=I.hok p _ hk
     exact⟨o,e,ex⟩
   obtain⟨o,e,ex⟩:=z
   refine⟨⟨o,e,ex.1⟩,fun a e2=>?_⟩
   cases e2
   exact⟨o,e,ex.2.1⟩
  ·obtain⟨o,_,_,_,e,ex,_⟩:=I.hok p _ hk
   refine⟨⟨o,e,ex.1⟩,fun a e2=>?_⟩
   cases e2
   exact⟨o,e,ex.2.1⟩
 |_=>exact False.elim ty
variable{o e:Expr}{es:List Expr}{to:TE}{t:TA}{name:Str}{apos cpos:Pos}{T id:String}{r:V->List V->Hp->VK->Prop}
/- xs.append(e),list.index on a module's tuple .. are MtR facts of 06m -/
end
def B4(X:Cx)(id:String)(r:V->List V->Hp->VK->Prop):Prop:=
 ∀(pins:List (Addr×Obj)) (s:Shared) (σ:St) (H:Hp) (x:V) (xs:List V) (v:Value) (us:List Value) (Q:VK),Inv X pins σ H s->RelV x v->Vals xs us->r x xs H Q->
  wpAny (model X.prog X.w) X.A (call (.builtin id) (v::us)) (EP X pins σ Q) X.xe s
theorem Vals.one:∀{x:V} {us:List Value},Vals [x] us->∃u,us=[u]/\RelV x u
 |_,_,.cons r .nil=>⟨_,rfl,r⟩
theorem Vals.two:∀{x y:V} {us:List Value},Vals [x,y] us->∃u v,us=[u,v]/\RelV x u/\RelV y v
 |_,_,_,.cons r (.cons q .nil)=>⟨_,_,rfl,r,q⟩
theorem Vals.zero:∀{us:List Value},Vals [] us->us=[]
 |_,.nil=>rfl
theorem Vals.dropLast{xs:List V}{us:List Value}(h:Vals xs us):Vals xs.dropLast us.dropLast:=by
 induction h with
 |nil=>exact .nil
 |cons r t ih=>
  cases t with
  |nil=>exact .nil
  |cons q t'=>exact .cons r ih
theorem GS{α:Type}(l:List α):l.eraseIdx (l.length-1)=l.dropLast:=by
 induction l with
 |nil=>rfl
 | cons a r ih=>
  cases r with
  |nil=>rfl
  | cons b r=>
   have e:(a::b::r).length-1=((b::r).length-1)+1:=by
    have h1:(a::b::r).length=r.length+2:=rfl
    have h2:(b::r).length=r.length+1:=rfl
    lia
   rw[e,List.eraseIdx_cons_succ,ih]
   all_goals rfl
section
variable{X:Cx}{pins:List (Addr×Obj)}{σ:St}{H:Hp}{s:Shared}{l b:Addr}{xs ys zs:List V}
theorem Inv.lset{its its':List Value}{n:Nat}{f:Array Value->Array Value}{t':Nat}(I:Inv X pins σ H s)(hH:H l=some (.lst xs))
  (e:s.heap.get? l=some {cls:=.type "list",data:=.seq its.toArray n}) (hf:f its.toArray=its'.toArray) (hv:Vals ys its') (hz:ys.length<=sizeLine):
  Inv X pins σ (upd H l (.lst ys)) {s with heap:=s.heap.update l (Obj.mapSeq f),toks:=t'}:=by
 have q:=PySem.IsL.update e f
 rw[hf]at q
 refine I.write (x:=l) (e:=l) (by rw[hH];exact trivial) (.inl rfl) (fun b' u hb hu=>(bf s.heap (Obj.mapSeq f) (cG hb)).trans hu) ⟨_,q⟩ ?_
 exact⟨hz,its',_,hv,q⟩
theorem Inv.lnew{its:List Value}{t':Nat}(I:Inv X pins σ H s)(hv:Vals ys its)(hz:ys.length<=sizeLine):
  Inv X pins σ (upd H s.heap.objs.size (.lst ys)) {s with heap:=s.heap.push {cls:=.type "list",data:=.seq its.toArray},toks:=t'}:=
 I.laid (fun _ _ q=>af _ q) (av _) ⟨hz,its,0,hv,aF _ rfl⟩
theorem Inv.fresh(I:Inv X pins σ H s):H s.heap.objs.size=none:=I.hok.fresh (av _)
theorem Inv.lstM(I:Inv X pins σ H s)(hH:H l=some (.lst xs)):xs.length<=sizeLine/\∃(its:List Value) (n:Nat),Vals xs its/\xs.length=its.length/\s.heap.get? l=some {cls:=.type "list",data:=.seq its.toArray n}:=by
 obtain⟨z,its,n,r,e⟩:=I.hok l _ hH
 exact⟨z,its,n,r,r.length,e⟩
end
section
variable{X:Cx}
def yZ:V->List V->Hp->VK->Prop:=fun x vs H Q=>∃l xs y,x= .ref l/\vs=[y]/\H l=some (.lst xs)/\xs.length<sizeLine/\Q .non (upd H l (.lst (xs++[y])))
theorem AG:B4 X "list.append" yZ:=by
 intro pins s σ H x vs v us Q I rx rv h
 obtain⟨l,xs,y,rfl,rfl,hH,hz,q⟩:=h
 cases rx
 obtain⟨u,rfl,ru⟩:=rv.one
 obtain⟨z,its,n,r,hl,e⟩:=I.lstM hH
 refine iu F.slot_list_append ⟨_,e,rfl⟩ F.entry_list_append (F.args_list_append_2 _ _) (PySem.list_append l its.toArray n u (by rw[aj];lia)) ⟨e,?_⟩
 refine⟨.non,_,I.lset (its':=its++[u]) hH e (by simp) (r.append (.cons ru .nil)) ?_,rfl,q⟩
 rw[aH,List.length_singleton]
 lia
def xr:V->List V->Hp->VK->Prop:=fun x vs H Q=>∃l xs y,x= .ref l/\vs=[]/\H l=some (.lst xs)/\xs[xs.length-1]? =some y/\Q y (upd H l (.lst xs.dropLast))
theorem DH:B4 X "list.pop" xr:=by
 intro pins s σ H x vs v us Q I rx rv h
 obtain⟨l,xs,y,rfl,rfl,hH,hy,q⟩:=h
 cases rx
 have hus:=rv.zero
 subst hus
 obtain⟨z,its,n,r,hl,e⟩:=I.lstM hH
 obtain⟨u,hu,ru⟩:=r.get hy
 have hy':its.toArray[its.toArray.size-1]? =some u:=by
  show its.toArray[its.length-1]? =some u
  rw [<- cO,<- hl]
  exact hu
 refine iu F.slot_list_pop ⟨_,e,rfl⟩ F.entry_list_pop (F.args_list_pop_1 _) (MeetsSeq.list_pop_last l its.toArray n u hy' (by rw[aj];lia)) ⟨e,?_⟩
 refine⟨y,_,I.lset (its':=its.dropLast) hH e ?_ r.dropLast ?_,ru,q⟩
 ·show its.toArray.eraseIdxIfInBounds (its.toArray.size-1)=its.dropLast.toArray
  rw[aj,List.eraseIdxIfInBounds_toArray,GS]
 ·rw[List.length_dropLast]
  lia
def C1:R2:=fun x y H Q=>∃l b xs zs,x= .ref l/\y= .ref b/\H l=some (.lst xs)/\H b=some (.lst zs)/\xs.length+zs.length<=sizeLine/\∀p,H p=none->Q (.ref p) (upd H p (.lst (xs++zs)))
theorem DA:OpR X (binaryOp .Add) C1:=by
 intro pins s σ H x y v u Q I rx ry h
 obtain⟨l,b,xs,zs,rfl,rfl,hH,hB,hz,q⟩:=h
 cases rx
 cases ry
 obtain⟨z,its,n,r,hl,e⟩:=I.lstM hH
 obtain⟨z2,its2,n2,r2,hl2,e2⟩:=I.lstM hB
 refine PySem.P.add_list e e2 ?_ (by rw[aj,aj];lia)
 have ea:its.toArray++its2.toArray=(its++its2).toArray:=by simp
 rw[ea]
 exact⟨.ref _,_,I.lnew (t':=s.toks) (r.append r2) (by rw[aH];lia),rfl,q _ I.fresh⟩
end
section
variable{prog:Program}{w:World}{A:Around}{E:Value->Shared->Prop}{s:Shared}
end
section
variable{X:Cx}
end
end L2
namespace Att
open PySem PySem.W PySem.Calls PyProof.Rows
theorem IH{P:Params}{h:Heap}:∀(ns:List Int) (vs:List Value),WellAll P h vs (ns.map WData.int)->IntsAre vs ns:=by
 intro ns
 induction ns with
 |nil=>
  intro vs w
  rw[cq]at w
  cases w
  exact .nil
 | cons n ns ih=>
  intro vs w
  rw[aq]at w
  cases w with
  |cons a b=>
   cases a
   exact .cons _ _ (ih _ b)
theorem GD{l:OpenLaw}{n:Nat}(hn:l.most=some n){P:Params}{h:Heap}{args:List WData}{vals:List Value}
  (hpre:l.row.toRowW.claim.pre args=true) (hwl:WellAll P h vals args):
  ∃a vs ns,vals=[Value.ref a]/\args=[WData.list (ns.map WData.int)]/\h.get? a=some {cls:=.type "list",data:=.seq vs.toArray}/\IntsAre vs ns/\ns.length<=n:=by
 have hsh:WShape.hasAll [] args [.list .int]=true:=(pre_splitW hpre).1
 have hc:l.pre.holds [] {args:=args}=true:=(pre_splitW hpre).2
 obtain⟨d,r,rfl,h1,h2⟩:=hasAllW_cons hsh
 obtain rfl:=hasAllW_nil h2
 obtain⟨xs,rfl,h3⟩:=hasW_list h1
 obtain⟨ns,rfl⟩:=items_int h3
 have hlen:ns.length<=n:=by
  unfold OpenLaw.pre at hc
  have h4:(WTm.not (.lt (.lit (.int (n:Int))) (.len (.arg 0)))).holds [] {args:=[.list (ns.map .int)]}=true:=by
   have h4:=(holds_andW hc).1
   rw[hn]at h4
   exact h4
  have h5:=condW_of h4 (w_not (w_lt w_lit (w_len_list (w_arg rfl))))
  rw[ae]at h5
  refine Nat.le_of_not_lt fun q=>?_
  have q':(n:Int)<((ns.length:Nat):Int):=by lia
  first
   |(rw[az q']at h5;exact absurd h5 (by decide))
   |(simp at h5;lia)
 cases hwl with
 |cons w1 w2=>
  cases w2
  cases w1 with
  |list ho hall=>exact⟨_,_,ns,rfl,rfl,ho,IH ns _ hall,hlen⟩
theorem Gy(l:OpenLaw)(args:List WData):l.row.toRowW.claim.post args (.bool true) args=true:=
 postW_of (r:=l.row.toRowW) (X:=(true==true))
  (show WShape.has [] (.bool true) .bool=true by first|rfl|decide|simp[WShape.has,WShape.arms,WShape.armsAll])
  (show(WTm.eq .res (.lit (.bool true))).value [] {args:=args,res:=some (.bool true),after:=args}=some (.bool (true==true))from w_eq_bool (w_res rfl) w_lit) rfl
theorem JB{l:OpenLaw}{n:Nat}{q:Program}{loose:List Str}{XP:(Str->Option Value)->Heap->Prop}{YP:World->Heap->Prop}{d:DefRec}
  (hn:l.most=some n) (hdf:d.params.defaults=[])
  (call:∀(w:World) (s₀ s₁:Shared) (mg mb:Str->Option Value) (fa:Addr) (o:Obj) (pm cd doc:Value) (a:Addr) (vs:List Value) (ns:List Int),
   Ground q loose [] XP w s₀ mg mb s₁.heap->YP w s₁.heap->
   s₁.heap.get? fa=some o->o.data= .func (docDef d.name d.params d.body d.scope pm cd doc)->s₁.heap.CodeRec cd d.name->mg d.name=some (.ref fa)->
   s₁.heap.get? a=some {cls:=.type "list",data:=.seq vs.toArray}->IntsAre vs ns->ns.length<=n->s₁.gens= #[]->
   codeAny (model l.prog w) callerA (.call (.ref fa) ⟨[.ref a],[]⟩) (fun r s'=>r= .ok (.ret (.bool true))/\OldK s₁.heap s'.heap/\s'.os=s₁.os/\AllBare s'.gens) s₁):
  WalkO q loose XP YP l.row.toRowW d [] (fun f vs=>PySem.call f vs):=by
 intro w s₀ s₁ mg mb G Y fa o pm cd doc dV kV ho hd hcd hD hmg hg args vals as hpre hlay hrd hwl hlo
 obtain rfl:dV= .none:=Dflts.none hD hdf
 obtain rfl:kV= .none:=Dflts.noKw hD
 obtain⟨a,vs,ns,rfl,rfl,hobj,hints,hlen⟩:=GD hn hpre hwl
 refine enter_call (fj (call w s₀ s₁ mg mb fa o pm cd doc a vs ns G Y ho (fd_plain hd) hcd hmg hobj hints hlen hg) fun r s' hq=>?_)
 obtain⟨rfl,h2,h3,h4⟩:=hq
 exact⟨.inl ⟨.bool true,.bool true,[],rfl,fun _=>rfl,.bool true,Gy l _,fun _=>⟨List.Pairwise.nil,fun _ hm=>(nomatch hm)⟩⟩,h2,h3,h4⟩
section
variable{prog:Program}{w:World}{A:Around}{E:Value->Shared->Prop}{s:Shared}{K:Frag}
end
end Att
namespace L2
open PySem PySem.Spec PyProof.Rows
theorem sg:∀{vs:List Value} {ns:List Int},IntsAre vs ns->Vals (ns.map V.int) vs
 |_,_,.nil=>.nil
 |_,_,.cons n t h=>.cons ⟨t,rfl⟩ (sg h)
def sS(H:Hp):Prop:=∀b,H b=none\/∃o xs,H b=some (.frz o (.lst xs))
theorem Ft{P:Program}{w:World}{K:PySem.W.Frag}{mg mb:Str->Option Value}{CX:kW}{k:Nat}{fa a:Addr}{fd:FuncData}{x:Str}{sp:Sp}{s₁:Shared}{vs:List Value}{ns:List Int}
  (KX:K.In s₁.heap) (hns:s₁.heap.Ns mainGlobals mg) (hb:s₁.heap.Ns builtinsNs mb) (hbb:∀x:Str,x≠"__name__"->mb x=bootBuiltins x) (hlim:s₁.heap.NoLimit) (hg:s₁.gens= #[])
  (ha:s₁.heap.get? a=some {cls:=.type "list",data:=.seq vs.toArray}) (hi:IntsAre vs ns) (hl:ns.length<=sizeLine) (hr:Room k callerA)
  (F:∀base:Heap,K.In base->base.Ns mainGlobals mg->FnOk P w K mg base CX k fa fd [x] sp) (hbind:∀(s:Shared) (u:Value),BindsTo s fd ⟨[u],[]⟩ [(x,u)])
  (hsp:∀H:Hp,sS H->SqL K H a (ns.map V.int)->sp [.ref a] H (fun v _=>v= .bl true) fun _ _ _=>False)
  (hCX:∀H e s',CX [] H s₁ (fun _ _ _=>False) e s'->False):
  codeAny (model P w) callerA (.call (.ref fa) ⟨[.ref a],[]⟩) (fun r s'=>r= .ok (.ret (.bool true))/\OldK s₁.heap s'.heap/\s'.os=s₁.os/\AllBare s'.gens) s₁:=by
 have rv:=sg hi
 have lenV:=hi.length
  -- from an abstract heap in which nothing but the script may be tracked
 have core:∀H:Hp,sS H->SqL K H a (ns.map V.int)->HOk P w H s₁.heap->(∀b,H b≠none->b=a)->(H a≠none->K.lookup a=none)->
   codeAny (model P w) callerA (.call (.ref fa) ⟨[.ref a],[]⟩) (fun r s'=>r= .ok (.ret (.bool true))/\OldK s₁.heap s'.heap/\s'.os=s₁.os/\AllBare s'.gens) s₁:=by
  intro H hO hS hok hA hK
  have base_of:∀{b:Addr} {o:Obj},s₁.heap.get? b=some o->H b=none->(mz s₁.heap H).get? b=some o:=fun e n=>Fn e n
  have noA:∀{b:Addr} {o:Obj} {es:Array DictEntry} {ep:Nat},s₁.heap.get? b=some o->o.data= .dict es ep->H b=none:=fun{b o es ep} e d=>by
   cases q:H b with
   |none=>rfl
   |some u=>
    have e':b=a:=hA b (by rw[q];simp)
    subst e'
    rw[ha]at e;cases e
    have d':Data.seq vs.toArray _=Data.dict es ep:=d
    cases d'
  have nsK:∀{b:Addr} {m:Str->Option Value},s₁.heap.Ns b m->(mz s₁.heap H).Ns b m:=fun{b m} ⟨o,es,ep,e,d,r⟩=>⟨o,es,ep,base_of e (noA e d),d,r⟩
  have hKb:K.In (mz s₁.heap H):=fun b o e=>base_of (KX b o e) (by
   cases q:H b with
   |none=>rfl
   |some u=>
    have e':b=a:=hA b (by rw[q];simp)
    subst e'
    rw[hK (by rw[q];simp)]at e;cases e)
  have hM:Mod K mg (mz s₁.heap H):=⟨hKb,nsK hns,⟨mb,nsK hb,hbb⟩,let⟨mc,h1,h2⟩:=hlim;⟨mc,nsK h1,h2⟩⟩
  have e0:Env0 P w K mg (mz s₁.heap H) callerA [] s₁ H:=⟨rfl,hM,fun b o e=>Ey e,Nat.le_of_eq (F9 _ _),trivial,fun b hb=>absurd (show b∈([]:List Addr)from hb) (by simp),hok,.of_eq hg⟩
  refine fj ((F _ hKb (nsK hns)).run callerA [] s₁ H ⟨[.ref a],[]⟩ [.ref a] [.ref a] _ _ hr e0 (hbind s₁ (.ref a)) (.cons rfl .nil) (hsp H hO hS)) fun r s' h=>?_
  cases r with
  |error e=>exact(hCX H e s' h).elim
  | ok fl=>
   cases fl with
   |next=>exact False.elim h
   |brk=>exact False.elim h
   |cont=>exact False.elim h
   | ret u=>
    obtain⟨v,H',os,bare,un,hok',r',q⟩:=h
    have q':v= .bl true:=q
    subst q'
    obtain rfl:u=Value.bool true:=r'
    refine⟨rfl,OldK.of_keep fun b o e=>?_,os,bare⟩
    cases q:H b with
    |none=>exact un.keep b o e q (by intro z;exact absurd (show b∈([]:List Addr)from z) (by simp)) (by simp)
    | some u=>
     rcases hO b with z|⟨ob,xs,z⟩
     ·rw[q]at z;cases z
     ·have z2:=un.frzs b ob _ z
      obtain⟨e1,_⟩:=hok b _ z
      obtain⟨e2,_⟩:=hok' b _ z2
      rw[e]at e1;cases e1
      exact e2
 cases hk:K.lookup a with
 | some o=>
    -- the script is one of the module's own objects
  have e:=KX a o hk
  rw[ha]at e
  cases e
  refine core (fun _=>none) (fun _=>.inl rfl) (.inr ⟨_,vs.toArray,_,hk,rfl,rfl,rfl,by rw[aj,lenV];exact hl,by simpa using rv⟩) (fun b u z=>by have z':(none:Option HO)=some u:=z;cases z') (fun b z=>absurd rfl z) fun z=>absurd rfl z
 | none=>
  refine core (fun b=>if b=a then some (.frz {cls:=.type "list",data:=.seq vs.toArray} (.lst (ns.map V.int)))else none) (fun b=>?_) (.inl (.inr ⟨{cls:=.type "list",data:=.seq vs.toArray},aw rfl⟩)) (fun b u z=>?_) (fun b z=>?_) fun _=>hk
  ·by_cases hb:b=a
   ·exact .inr ⟨_,_,aw hb⟩
   ·exact .inl (au hb)
  ·by_cases hb:b=a
   ·have z':=(aw hb).symm.trans z
    cases z'
    subst hb
    exact⟨ha,by rw[ae];exact hl,vs,_,rv,ha⟩
   ·have z':=(au hb).symm.trans z
    cases z'
  ·by_cases hb:b=a
   ·exact hb
   ·exact absurd (au hb) z
abbrev B5{K:PySem.W.Frag}{h:Heap}(_:K.In h):PySem.W.Frag:=K
theorem zy{l:PySem.W.OpenLaw}{n k:Nat}{q:Program}{loose:List Str}{XP:(Str->Option Value)->Heap->Prop}{YP:World->Heap->Prop}{d:DefRec}{K:Params->PySem.W.Frag}{CX:World->kW}{sp:World->Sp}{x:Str}
    (hn:l.most=some n) (hn2:n<=sizeLine) (hdf:d.params.defaults=[]) (hr:Room k callerA)
    (hY:∀(w:World) (h:Heap),YP w h->(K w.params).In h)
    (F:∀(w:World) (mg:Str->Option Value) (fa:Addr) (h:Heap),(K w.params).In h->h.Ns mainGlobals mg->mg d.name=some (.ref fa)->
      ∃fd:FuncData,(∀(s:Shared) (u:Value),BindsTo s fd ⟨[u],[]⟩ [(x,u)])/\
        ∀base:Heap,(K w.params).In base->base.Ns mainGlobals mg->FnOk l.prog w (K w.params) mg base (CX w) k fa fd [x] (sp w))
    (hsp:∀(w:World) (H:Hp) (a:Addr) (ns:List Int),ns.length<=n->sS H->SqL (K w.params) H a (ns.map V.int)->sp w [.ref a] H (fun v _=>v= .bl true) fun _ _ _=>False)
    (hCX:∀(w:World) (H:Hp) (s:Shared) (e:Value) (s':Shared),CX w [] H s (fun _ _ _=>False) e s'->False):
    PySem.W.WalkO q loose XP YP l.row.toRowW d [] (fun f vs=>PySem.call f vs):=by
  refine Att.JB hn hdf fun w s₀ s₁ mg mb fa o pm cd doc a vs ns G Y ho hd hcd hmg hobj hints hlen hg=>?_
  have KX:=hY w _ Y
  obtain⟨fd,hb,hF⟩:=F w mg fa _ KX G.T.g hmg
  exact Ft KX G.T.g G.T.b G.T.builtins G.T.nolimit hg hobj hints (bz hlen hn2) hr hF hb (fun H hO hS=>hsp w H a ns hlen hO hS) fun H e s'=>hCX w H s₁ e s'
end L2
/- THE LAST THEOREM (shape;LID,My.*are yours):
   My.Adr:a structure of the addresses that your layer names (classes,functions);My.Txt K t:a structure (Prop) of the equations over K;
   My.txt_mk:{K} {implicit addresses ..} (e1:nsIn K mainGlobals "law"=some (some (.ref f))) (e2:K.lookup f=some ⟨oc,od,.func (fnOf "law" "law" params body scope dV kV doc pm an cdv ct),sl⟩) (e3:codeIn K cdv "law"=true) ..:∃t,My.Txt K t
set_option maxRecDepth 100000 in
set_option maxHeartbeats 0 in
theorem PySem.Challenge.cw_LID_holds:PySem.Challenge.rw_LID.Holds:=by
 w_on;o_law;k_head;(case hw=>w_witness2)
 k_fill
 refine L2.zy (l:=PySem.Challenge.rw_LID) (n:=63) (k:=40) (x:="script") (CX:=fun w=>..) (sp:=fun _=>My.sp_law) rfl (by decide) rfl ⟨rfl,by decide,by decide⟩ (fun w h Y=>PySem.W.kIn_of Y) ?F ?S ?C
 case F=>
  intro w mg fa h KX G hmg
  have T:∃t,My.Txt (L2.B5 KX) t:=by
   dsimp only[L2.B5]                          -- K must stand as «<heap const>w.params» for k_is
   refine' My.txt_mk ?e1 ?e2 ?e3 ..
   (case e1=>PySem.W.k_is)                    -- in the order:a name->its address->its object->its parts
   (case e2=>PySem.W.k_is)
   ..
  obtain⟨t,T⟩:=T
  have e0:=hmg.symm.trans (cT KX G T.law)
  cases e0                                       -- fa is the law's own address
  exact⟨_,fun s u=>.of_eq rfl,fun base kb nb=>My.law_fn T kb nb⟩     -- if «.of_eq rfl» comes too early:refine' ⟨_,?b,fun base kb nb=>My.law_fn T kb nb⟩;exact fun s u=>.of_eq rfl
 case S=>exact fun w H a ns hl hO hS=>..
 case C=>exact ..
(the tactic k_is has no namespace:write k_is) -/
namespace L2
open PySem PySem.Spec PyProof.Rows
def nI(s:Stmt):Arguments:=match s with
 | .FunctionDef _ a _ _ _ _ _ _ _ _=>a
 |_=>{posonlyargs:=[],args:=[],vararg:=none,kwonlyargs:=[],kw_defaults:=[],kwarg:=none,defaults:=[]}
def mS(s:Stmt):List Stmt:=match s with
 | .FunctionDef _ _ b _ _ _ _ _ _ _=>b
 |_=>[]
def ja(s:Stmt):Scope:=match s with
 | .FunctionDef _ _ _ _ _ _ sc _ _ _=>sc
 |_=>{kind:=.function,names:=[],isGenerator:=false,isCoroutine:=false}
abbrev iQ:kW:=fun _ _ _ _ _ _=>False
abbrev E0:XK:=fun _ _ _=>False
theorem iX{X:Cx}:mm iQ X E0:=fun _ _ _ _ _ _ _ h=>h.elim
structure Fun(K:PySem.W.Frag)(x qual:Str)(st:Stmt)(f:Addr)(fd:FuncData):Prop where
 ex:∃(oc:Value) (od:Option Addr) (kV doc pm:Value) (an:Option Addr) (cdv ct:Value) (osl:Array (Option Value)),
  fd=PySem.W.fnOf x qual (nI st) (mS st) (ja st) .none kV doc pm an cdv ct/\K.lookup f=some ⟨oc,od,.func fd,osl⟩/\PySem.W.codeIn K cdv qual=true
 kp:PySem.W.keepIn K (.ref f)=true
section
variable{P:Program}{w:World}{K:PySem.W.Frag}{mg:Str->Option Value}{base:Heap}
theorem Fun.ok{x qual:Str}{st:Stmt}{f:Addr}{fd:FuncData}{N ps:List Str}{k:Nat}{sp:Sp}(F:Fun K x qual st f fd)(S:FnScope N ps (ja st))(len:∀vs H Q E,sp vs H Q E->vs.length=ps.length)
  (hbody:∀(cdv:Value) (A:Around) (outer:List Env) (s:Shared) (H:Hp) (vs:List V) (Q:VK) (E:XK),Room k (A.deeper (envOfC qual (ja st) s.heap.objs.size f cdv))->sp vs H Q E->
   ∃t,PSs (oW iQ P w K mg base N qual (ja st) f cdv A outer s H E).nox (mS st) t/\t {nx:=fun _ H'=>Q .non H',rt:=Q} (ml N vs) H):FnOk P w K mg base iQ (k+1) f fd ps sp:=by
 obtain⟨oc,od,kV,doc,pm,an,cdv,ct,osl,rfl,lk,hcd⟩:=F.ex
 refine Je lk hcd S len fun A outer s H vs Q E hr hsp=>?_
 obtain⟨t,h,q⟩:=hbody cdv A outer s H vs Q E hr hsp
 exact⟨t,h.nox,q⟩
theorem xS{x qual:Str}{st:Stmt}{f:Addr}{oc:Value}{od an:Option Addr}{osl:Array (Option Value)}{kV doc pm cdv ct:Value}(l:K.lookup f=some ⟨oc,od,.func (PySem.W.fnOf x qual (nI st) (mS st) (ja st) .none kV doc pm an cdv ct),osl⟩)
  (c:PySem.W.codeIn K cdv qual=true) (k:PySem.W.keepIn K (.ref f)=true):Fun K x qual st f (PySem.W.fnOf x qual (nI st) (mS st) (ja st) .none kV doc pm an cdv ct):=⟨⟨oc,od,kV,doc,pm,an,cdv,ct,osl,rfl,l,c⟩,k⟩
end
theorem jl{A:Around}{k:Nat}(hr:Room k A):A.units+1<cLine:=gQ (Nat.add_le_add_left (by decide:1<=64) _) hr.units
section
variable{X:Cx}
theorem pv(i:Nat){x:Str}{pos:Pos}(hN:X.N[i]? =some x:=by rfl)(hv:qp X.env.scope x:=by first|exact Or.inl rfl|exact Or.inr (Or.inl rfl)|exact Or.inr (Or.inr rfl))(hd:(x==("__debug__":Str))=false:=by decide)
  (hcd:(x==("__classdict__":Str))=false:=by decide):PE X (.Name x pos) (wJ i):=xZ hN hv hd hcd
end
theorem lr{c A B:Prop}[Decidable c](h1:c->A)(h2:¬c->B):if c then A else B:=by
 by_cases h:c
 ·rw[aw h]
  exact h1 h
 ·rw[au h]
  exact h2 h
def Same(H H':Hp):Prop:=∀b o,H b=some o->H' b=some o
theorem Same.refl(H:Hp):Same H H:=fun _ _ h=>h
theorem Same.trans{H H1 H2:Hp}(a:Same H H1)(b:Same H1 H2):Same H H2:=fun c o h=>b c o (a c o h)
theorem Same.free{H H':Hp}(e:Same H H'){l:Addr}(h:H' l=Option.none):H l=Option.none:=by
 cases q:H l with
 |none=>rfl
 |some o=>
  rw[e l o q]at h
  cases h
end L2
set_option maxHeartbeats 8000000
namespace L2
open PySem PySem.Spec PyProof.Rows
section
variable{κ:Type}[DecidableEq κ]
def jb(kvs:List (κ×V))(k:κ):Option V:=(kvs.find? fun kv=>decide (kv.1=k)).map (·.2)
def jC(kvs:List (κ×V))(k:κ)(v:V):List (κ×V):=
 if(kvs.any fun kv=>decide (kv.1=k))=true then kvs.map (fun kv=>if kv.1=k then(kv.1,v)else kv)else kvs++[(k,v)]
theorem rW{p:κ×V}{r:List (κ×V)}{k:κ}(e:p.1=k):jb (p::r) k=some p.2:=by simp[jb,List.find?_cons,e]
theorem rV{p:κ×V}{r:List (κ×V)}{k:κ}(e:¬p.1=k):jb (p::r) k=jb r k:=by simp[jb,List.find?_cons,e]
theorem qg(k:κ):∀kvs:List (κ×V),(kvs.any fun kv=>decide (kv.1=k))=(jb kvs k).isSome
 |[]=>rfl
 |p::r=>by
  rw[List.any_cons]
  by_cases e:p.1=k
  ·simp only[rW e,az e,Bool.true_or,Option.isSome_some]
  ·rw[rV e,aC e,Bool.false_or];exact qg k r
theorem vI(kvs:List (κ×V))(k:κ)(v:V):(jC kvs k v).length<=kvs.length+1:=by
 unfold jC
 split
 ·rw[ae];lia
 ·rw[aH,List.length_cons,List.length_nil];lia
theorem vc{kvs:List (κ×V)}{k:κ}(v:V)(h:jb kvs k=none):jC kvs k v=kvs++[(k,v)]:=by
 unfold jC
 rw[qg,h]
 exact au (by decide)
theorem RelO.isSome_eq{o:Option V}{u:Option Value}(r:RelO o u):o.isSome=u.isSome:=by
 cases o with
 |none=>cases u with
  |none=>rfl
  |some _=>exact(show False from r).elim
 |some _=>cases u with
  |none=>exact(show False from r).elim
  |some _=>rfl
theorem RelO.getD{o:Option V}{u:Option Value}{d:V}{d':Value}(r:RelO o u)(rd:RelV d d'):RelV (o.getD d) (u.getD d'):=by
 cases o with
 |none=>cases u with
  |none=>exact rd
  |some _=>exact(show False from r).elim
 |some _=>cases u with
  |none=>exact(show False from r).elim
  |some _=>exact r
theorem KV.val{kvs:List (κ×V)}{vs:List (κ×Value)}(r:KV kvs vs)(k:κ):RelO (jb kvs k) (valueAt vs k):=by
 unfold KV at r
 induction r with
 |nil=>exact True.intro
 | @cons p q ps qs h t ih=>
  obtain⟨h1,h2⟩:=h
  by_cases e:p.1=k
  ·have e':q.1=k:=h1.symm.trans e
   have b:valueAt (q::qs) k=some q.2:=by simp[valueAt,List.find?_cons,e']
   rw[rW e,b];exact h2
  ·have e':¬q.1=k:=fun z=>e (h1.trans z)
   have b:valueAt (q::qs) k=valueAt qs k:=by simp[valueAt,List.find?_cons,e']
   rw[rV e,b];exact ih
theorem KV.any{kvs:List (κ×V)}{vs:List (κ×Value)}(r:KV kvs vs)(k:κ):(kvs.any fun kv=>decide (kv.1=k))=vs.any fun kv=>decide (kv.1=k):=by
 unfold KV at r
 induction r with
 |nil=>rfl
 |cons h t ih=>rw[List.any_cons,List.any_cons,ih,h.1]
theorem KV.repl{kvs:List (κ×V)}{vs:List (κ×Value)}(r:KV kvs vs)(k:κ){y:V}{u:Value}(ry:RelV y u):
  KV (kvs.map fun kv=>if kv.1=k then(kv.1,y)else kv) (vs.map fun kv=>if kv.1=k then(kv.1,u)else kv):=by
 unfold KV at r ⊢
 induction r with
 |nil=>exact .nil
 | @cons p q ps qs h t ih=>
  rw[aq,aq]
  refine .cons ?_ ih
  obtain⟨h1,h2⟩:=h
  by_cases e:p.1=k
  ·rw[aw e,aw (h1.symm.trans e)];exact⟨h1,ry⟩
  ·rw[au e,au (fun z=>e (h1.trans z))];exact⟨h1,h2⟩
theorem KV.put{kvs:List (κ×V)}{vs:List (κ×Value)}(r:KV kvs vs)(k:κ){y:V}{u:Value}(ry:RelV y u):KV (jC kvs k y) (stored vs k u):=by
 unfold jC stored
 rw[r.any k]
 by_cases e:(vs.any fun kv=>decide (kv.1=k))=true
 ·rw[aw e,aw e];exact r.repl k ry
 ·rw[au e,au e];exact Paired.snoc r ⟨rfl,ry⟩
theorem KV.keys{kvs:List (κ×V)}{vs:List (κ×Value)}(r:KV kvs vs):kvs.map (·.1)=vs.map (·.1):=by
 unfold KV at r
 induction r with
 |nil=>rfl
 |cons h t ih=>rw[aq,aq,ih,h.1]
theorem KV.length{kvs:List (κ×V)}{vs:List (κ×Value)}(r:KV kvs vs):kvs.length=vs.length:=aP r
end
theorem mK{P:Program}{w:World}{k:iE}{u:Value}(r:RelV (kV k) u):(jR P w).is k u=true:=by
 cases k with
 |inl i=>obtain⟨t,e⟩:=(show ∃t,u=Value.int i t from r);subst e;exact Hv P w i t
 |inr x=>obtain⟨t,e⟩:=(show ∃t,u=Value.str x t from r);subst e;exact Hw P w x t
theorem AA{P:Program}{w:World}:∀{ks:List iE} {us:List Value},Vals (ks.map kV) us->ItemsAre (jR P w) ks us
 |[],_,r=>by rw[cq]at r;cases r;exact .nil
 |k::ks,_,r=>by
  rw[aq]at r
  cases r with
  |cons h t=>exact .cons (mK h) (AA t)
abbrev KT(H:Hp):List (List iE×V)->List (List iE×Addr×Value)->Prop:=Paired fun p q=>p.1=q.1/\H q.2.1=some (.tup (p.1.map kV))/\RelV p.2 q.2.2
theorem KT.val{H:Hp}{kvs:List (List iE×V)}{xs:List (List iE×Addr×Value)}(r:KT H kvs xs)(k:List iE):RelO (jb kvs k) ((atKey xs k).map (·.2)):=by
 induction r with
 |nil=>exact True.intro
 | @cons p q ps qs h t ih=>
  obtain⟨h1,_,h2⟩:=h
  by_cases e:p.1=k
  ·have e':q.1=k:=h1.symm.trans e
   have b:atKey (q::qs) k=some q.2:=by simp[atKey,List.find?_cons,e']
   rw[rW e,b];exact h2
  ·have e':¬q.1=k:=fun z=>e (h1.trans z)
   have b:atKey (q::qs) k=atKey qs k:=by simp[atKey,List.find?_cons,e']
   rw[rV e,b];exact ih
theorem KT.repl{H:Hp}{kvs:List (List iE×V)}{xs:List (List iE×Addr×Value)}(r:KT H kvs xs)(k:List iE){y:V}{u:Value}(ry:RelV y u):
  KT H (kvs.map fun kv=>if kv.1=k then(kv.1,y)else kv) (xs.map (putAt k u)):=by
 induction r with
 |nil=>exact .nil
 | @cons p q ps qs h t ih=>
  rw[aq,aq]
  refine .cons ?_ ih
  obtain⟨h1,h2,h3⟩:=h
  unfold putAt
  by_cases e:p.1=k
  ·rw[aw e,aw (h1.symm.trans e)];exact⟨h1,h2,ry⟩
  ·rw[au e,au (fun z=>e (h1.trans z))];exact⟨h1,h2,h3⟩
theorem KT.put{H:Hp}{kvs:List (List iE×V)}{xs:List (List iE×Addr×Value)}(r:KT H kvs xs)(k:List iE){b:Addr}{y:V}{u:Value}(hb:H b=some (.tup (k.map kV)))(ry:RelV y u):
  KT H (jC kvs k y) (storedH xs k b u):=by
 have e:(kvs.any fun kv=>decide (kv.1=k))=(atKey xs k).isSome:=by
  rw[qg,(r.val k).isSome_eq,fJ]
 unfold jC storedH
 rw[e]
 by_cases q:(atKey xs k).isSome=true
 ·rw[aw q,aw q];exact r.repl k ry
 ·rw[au q,au q];exact Paired.snoc r ⟨rfl,hb,ry⟩
theorem KT.keeps{H H':Hp}{kvs:List (List iE×V)}{xs:List (List iE×Addr×Value)}(r:KT H kvs xs)(ht:∀b ys,H b=some (.tup ys)->H' b=some (.tup ys)):KT H' kvs xs:=
 Paired.mapP r fun _ _ z=>⟨z.1,ht _ _ z.2.1,z.2.2⟩
section
variable{P:Program}{w:World}{H:Hp}{h:Heap}{a:Addr}
theorem xq{u:HO}(ok:HOk P w H h)(e:Rd H a u):jbf P w H h a u:=e.ok ok
theorem nk{kvs:List (iE×V)}(ok:HOk P w H h)(e:Rd H a (.dK kvs)):kvs.length<=sizeLine/\(a==sysModules)=false/\∃vs,KV kvs vs/\h.DictOf (jR P w) a vs:=
 show jbf P w H h a (.dK kvs)from xq ok e
theorem nj{kvs:List (iE×V)}(ok:HOk P w H h)(e:H a=some (.dK kvs)):kvs.length<=sizeLine/\(a==sysModules)=false/\∃vs,KV kvs vs/\h.DictOf (jR P w) a vs:=nk ok (.inl e)
theorem nC{ks:List iE}(ok:HOk P w H h)(e:H a=some (.tup (ks.map kV))):(tupleKind (jR P w)).is h ks a:=by
 obtain⟨_,its,r,o,h1,h2,n,h3⟩:=(show jbf P w H h a (.tup (ks.map kV))from ok a _ e)
 exact⟨o,its.toArray,n,h1,h2,h3,by simpa using AA r⟩
theorem nq{kvs:List (List iE×V)}(ok:HOk P w H h)(e:Rd H a (.dT kvs)):kvs.length<=sizeLine/\(a==sysModules)=false/\
  ∃xs,KT H kvs xs/\h.DictOfH (tupleKind (jR P w)) a xs:=by
 obtain⟨z,y,xs,r,o,es,ep,h1,h2,h3,h4,h5⟩:=(show jbf P w H h a (.dT kvs)from xq ok e)
 refine⟨z,y,xs,r,o,es,ep,h1,h2,h3,h4,fun x hx=>?_,h5⟩
 have all:∀{l:List (List iE×V)} {m:List (List iE×Addr×Value)},KT H l m->∀x∈m,(tupleKind (jR P w)).is h x.1 x.2.1:=by
  intro l m q
  induction q with
  |nil=>intro x hx;exact nomatch hx
  | @cons p q ps qs hq t ih=>
   intro x hx
   rcases aR.mp hx with e|hx
   ·subst e
    exact nC ok (by rw [<- hq.1]; exact hq.2.1)
   ·exact ih x hx
 exact all r x hx
theorem Ju{kvs:List (List iE×V)}(ok:HOk P w H h)(e:H a=some (.dT kvs)):kvs.length<=sizeLine/\(a==sysModules)=false/\
  ∃xs,KT H kvs xs/\h.DictOfH (tupleKind (jR P w)) a xs:=nq ok (.inl e)
end
def DGet(H:Hp)(a:Addr)(y:V)(r:Option V):Prop:=
 (∃kvs k,Rd H a (.dK kvs)/\y=kV k/\r=jb kvs k)\/∃kvs k b,Rd H a (.dT kvs)/\y= .ref b/\H b=some (.tup (k.map kV))/\r=jb kvs k
def DPut(H:Hp)(a:Addr)(y v:V)(H':Hp):Prop:=
 (∃kvs k,H a=some (.dK kvs)/\y=kV k/\kvs.length<sizeLine/\H'=upd H a (.dK (jC kvs k v)))\/
 ∃kvs k b,H a=some (.dT kvs)/\y= .ref b/\H b=some (.tup (k.map kV))/\kvs.length<sizeLine/\H'=upd H a (.dT (jC kvs k v))
theorem DGet.k{H:Hp}{a:Addr}{kvs:List (iE×V)}{k:iE}(e:H a=some (.dK kvs)):DGet H a (kV k) (jb kvs k):=.inl ⟨kvs,k,.inl e,rfl,rfl⟩
theorem DGet.t{H:Hp}{a b:Addr}{kvs:List (List iE×V)}{k:List iE}(e:H a=some (.dT kvs))(eb:H b=some (.tup (k.map kV))):DGet H a (.ref b) (jb kvs k):=.inr ⟨kvs,k,b,.inl e,rfl,eb,rfl⟩
theorem DPut.k{H:Hp}{a:Addr}{kvs:List (iE×V)}{k:iE}{v:V}(e:H a=some (.dK kvs))(hl:kvs.length<sizeLine):DPut H a (kV k) v (upd H a (.dK (jC kvs k v))):=.inl ⟨kvs,k,e,rfl,hl,rfl⟩
theorem DPut.t{H:Hp}{a b:Addr}{kvs:List (List iE×V)}{k:List iE}{v:V}(e:H a=some (.dT kvs))(eb:H b=some (.tup (k.map kV)))(hl:kvs.length<sizeLine):
  DPut H a (.ref b) v (upd H a (.dT (jC kvs k v))):=.inr ⟨kvs,k,b,e,rfl,eb,hl,rfl⟩
section
variable{X:Cx}{pins:List (Addr×Obj)}{σ:St}{H:Hp}{s:Shared}{a:Addr}{y v:V}{u r:Value}{o:Option V}{A:Around}{E:Value->Shared->Prop}
theorem Inv.big(I:Inv X pins σ H s):sysModules<s.heap.objs.size:=by
 have h:mainGlobals<s.heap.objs.size:=(I.mod.glob.keeps I.bk).lt
 exact Nat.lt_trans (by decide) h
theorem Aw{Q:Value->Shared->Prop}(hu:A.units+1<cLine)(I:Inv X pins σ H s)(g:DGet H a y (some v))(ry:RelV y u)(h:∀w' s',Inv X pins σ H s'->RelV v w'->Q w' s'):
  wpAny (model X.prog X.w) A (getItem (.ref a) u) Q E s:=by
 rcases g with⟨kvs,k,e,ey,l⟩|⟨kvs,k,b,e,ey,eb,l⟩
 ·subst ey
  obtain⟨z,hd,vs,rel,dd⟩:=nk I.hok e
  obtain⟨w',hw,rw'⟩:=RelO.some_of (v:=v) (o:=valueAt vs k) (by rw[l];exact rel.val k)
  exact wpAny_getItem_of (mK ry) dd.mapOf hw (h w' _ (I.tok _) rw')
 ·subst ey
  cases(show u=Value.ref b from ry)
  obtain⟨z,hd,xs,rel,dd⟩:=nq I.hok e
  obtain⟨w',hw,rw'⟩:=RelO.some_of (v:=v) (o:=(atKey xs k).map (·.2)) (by rw[l];exact rel.val k)
  obtain⟨p,hp,hp2⟩:=bN.mp hw
  refine wpAny_getItem_heap (dW hu) (nC I.hok eb) dd hp ?_
  rw[hp2]
  exact h w' _ (I.tok _) rw'
theorem Jr{Q:Value->Shared->Prop}(hu:A.units+1<cLine)(I:Inv X pins σ H s)(g:DGet H a y o)(ry:RelV y u)(h:∀s',Inv X pins σ H s'->Q (.bool o.isSome) s'):
  wpAny (model X.prog X.w) A (compareOp .In u (.ref a)) Q E s:=by
 rcases g with⟨kvs,k,e,ey,l⟩|⟨kvs,k,b,e,ey,eb,l⟩
 ·subst ey
  obtain⟨z,hd,vs,rel,dd⟩:=nk I.hok e
  refine wpAny_in_of (mK ry) hd dd.mapOf ?_
  rw [<- (rel.val k).isSome_eq,<- l]
  exact h _ (I.tok _)
 ·subst ey
  cases(show u=Value.ref b from ry)
  obtain⟨z,hd,xs,rel,dd⟩:=nq I.hok e
  refine wpAny_in_heap (dW hu) (nC I.hok eb) hd dd ?_
  have q:=(rel.val k).isSome_eq
  rw[fJ]at q
  rw [<- q,<- l]
  exact h _ (I.tok _)
theorem Ed{Q:Value->Shared->Prop}(hu:A.units+1<cLine)(I:Inv X pins σ H s)(g:DGet H a y o)(ry:RelV y u)(h:∀s',Inv X pins σ H s'->Q (.bool (!o.isSome)) s'):
  wpAny (model X.prog X.w) A (compareOp .NotIn u (.ref a)) Q E s:=by
 rcases g with⟨kvs,k,e,ey,l⟩|⟨kvs,k,b,e,ey,eb,l⟩
 ·subst ey
  obtain⟨z,hd,vs,rel,dd⟩:=nk I.hok e
  refine wpAny_notIn_of (mK ry) hd dd.mapOf ?_
  rw [<- (rel.val k).isSome_eq,<- l]
  exact h _ (I.tok _)
 ·subst ey
  cases(show u=Value.ref b from ry)
  obtain⟨z,hd,xs,rel,dd⟩:=nq I.hok e
  refine wpAny_notIn_heap (dW hu) (nC I.hok eb) hd dd ?_
  have q:=(rel.val k).isSome_eq
  rw[fJ]at q
  rw [<- q,<- l]
  exact h _ (I.tok _)
theorem rq{h':Heap}{t':Nat}{ob:HO}(I:Inv X pins σ H s)(mu:qt (H a))(hs:Heap.SameBut a s.heap h')(he:∃q,h'.get? a=some q)(new:jbf X.prog X.w (upd H a ob) h' a ob):
  Inv X pins σ (upd H a ob) {s with heap:=h',toks:=t'}:=
 I.write (x:=a) (e:=a) mu (.inl rfl) (fun b q hb z=>(hs.2 b hb).trans z) he new
theorem qV{P:Program}{w:World}{H':Hp}{h':Heap}{kvs:List (iE×V)}{vs:List (iE×Value)}(z:kvs.length<=sizeLine)(hd:(a==sysModules)=false)(rel:KV kvs vs)(dd:h'.DictOf (jR P w) a vs):
  jbf P w H' h' a (.dK kvs):=⟨z,hd,vs,rel,dd⟩
theorem F4{H':Hp}{Q:Unit->Shared->Prop}(hu:A.units+1<cLine)(I:Inv X pins σ H s)(g:DPut H a y v H')(ry:RelV y u)(rv:RelV v r)(h:∀s',Inv X pins σ H' s'->Q () s'):
  wpAny (model X.prog X.w) A (setItem (.ref a) u r) Q E s:=by
 rcases g with⟨kvs,k,e,ey,l,eH⟩|⟨kvs,k,b,e,ey,eb,l,eH⟩
 ·subst ey eH
  obtain⟨z,hd,vs,rel,dd⟩:=nj I.hok e
  have hz:vs.length <= sizeLine:=by rw [<- rel.length]; exact z
  have hl:(jC kvs k v).length<=sizeLine:=by have:=vI kvs k v;lia
  refine wpAny_setItem_pairs (hsz:=hz) (mK ry) dd fun h' dd' hs=>h _ ?_
  have he:∃q,h'.get? a=some q:=let⟨q,_,_,hq,_⟩:=dd';⟨q,hq⟩
  exact rq I (by rw[e];exact True.intro) hs he (qV hl hd (rel.put k rv) dd')
 ·subst ey eH
  cases(show u=Value.ref b from ry)
  obtain⟨z,hd,xs,rel,dd⟩:=Ju I.hok e
  have hz:xs.length <= sizeLine:=by rw [<- aP rel]; exact z
  have hl:(jC kvs k v).length<=sizeLine:=by have:=vI kvs k v;lia
  refine wpAny_setItem_heap (hsz:=hz) (dW hu) (nC I.hok eb) dd fun h' dd' hs=>h _ ?_
  obtain⟨q,es,ep,hq,h2,h3,h4,_,h5⟩:=dd'
  refine rq I (by rw[e];exact True.intro) hs ⟨q,hq⟩ ⟨hl,hd,_,(rel.put k eb rv).keeps fun c ys ec=>?_,q,es,ep,hq,h2,h3,h4,h5⟩
  rw[iJ (mh ec e (fun z=>nomatch z))]
  exact ec
end
section
variable{X:Cx}{pins:List (Addr×Obj)}{σ:St}{H:Hp}{s:Shared}{a:Addr}{kvs:List (iE×V)}{k:iE}{u:Value}{A:Around}{E:Value->Shared->Prop}
end
def wB(i:Expr):Prop:=∀ov iv,subscripted i false ov iv=operate [ov,iv] (getItem ov iv)
theorem zk{prog:Program}{w:World}{A:Around}{E:Value->Shared->Prop}{s:Shared}{env:Env}{value slice:Expr}{pos:Pos}{T id:String}{Q:Value->Shared->Prop}
  (hl:typeLookup (.type T) "__getitem__"=pure (some (.builtin id))) (hs:wB slice)
  (h:wpAny (model prog w) A (eval value env) (fun o s₁=>wpAny (model prog w) A (eval slice env) (fun i s₂=>s₂.TypeIs o T/\wpAny (model prog w) A (getItem o i) Q E s₂) E s₁) E s):
  wpAny (model prog w) A (eval (.Subscript value slice pos) env) Q E s:=by
 refine gO (cV h (fun o s₁ h₁=>cV h₁ (fun i s₂ h₂=>?_) fun _ _ x=>x) fun _ _ x=>x)
 obtain⟨hT,h₂⟩:=h₂
 unfold subscriptTail
 refine aa ?_
 rw[getitemInPython_of_ne hT.not_modules]
 refine aa (wpAny_specialOf hT hl ?_)
 have fin:wpAny (model prog w) A (subscripted slice false o i) (fun r s₃=>wpAny (model prog w) A (letTemporaryGo value o r>>=fun _=>pure r) Q E s₃) E s₂:=by
  rw[hs o i]
  exact wpAny_operating (cV h₂ (fun r s₃ h₃=>aa (wpAny_letTemporaryGo (ak h₃))) fun _ _ x=>x)
 first
  |exact ak (aa fin)
  |exact aa (ak (aa fin))
  |exact aa fin
theorem Bo{X:Cx}{pins:List (Addr×Obj)}{σ:St}{H:Hp}{s:Shared}{a:Addr}{y:V}{o:Option V}(I:Inv X pins σ H s)(g:DGet H a y o):s.TypeIs (.ref a) "dict":=by
 rcases g with⟨kvs,k,e,_,_⟩|⟨kvs,k,b,e,_,_,_⟩
 ·obtain⟨_,_,vs,_,dd⟩:=nk I.hok e
  exact dd.typeIs
 ·obtain⟨_,_,xs,_,dd⟩:=nq I.hok e
  exact dd.typeIs
def t7(td ty:TE):TE:=fun σ H Q=>td σ H fun x H1=>ty σ H1 fun y H2=>∃a v,x= .ref a/\DGet H2 a y (some v)/\Q v H2
section
variable{X:Cx}{o i e value:Expr}{pos pos' tpos:Pos}{td ty tv:TE}
theorem oG(hu:X.A.units+1<cLine)(ho:PE X o td)(hi:PE X i ty)(hs:wB i):PE X (.Subscript o i pos) (t7 td ty):=by
 intro pins s σ H Q I h
 refine zk PySem.F.slot_dict_getitem.lookup hs (iK (ho pins s σ H _ I h) fun u s1 ⟨x,H1,I1,rx,q1⟩=>iK (hi pins s1 σ H1 _ I1 q1) fun iv s2 ⟨y,H2,I2,ry,a,v,ex,g,q2⟩=>?_)
 subst ex
 obtain rfl:u=Value.ref a:=rx
 exact⟨Bo I2 g,Aw hu I2 g ry fun w' s3 I3 rw'=>⟨v,H2,I3,rw',q2⟩⟩
end
theorem zG{P:Program}{w:World}{H:Hp}(h:Heap)(hb:sysModules<h.objs.size):jbf P w H (h.push {cls:=.type "dict",data:=.dict #[]}) h.objs.size (.dK []):=
 ⟨bI _,bU.mpr (cG (aU hb)),[],.nil,Heap.DictOf.new h⟩
def yl:TE:=fun _ H Q=>∀p,H p=none->Q (.ref p) (upd H p (.dK []))
section
variable{X:Cx}{pos:Pos}
theorem va:PE X (.Dict [] [] pos) yl:=fun pins s σ H Q I h=>
 wpAny_Dict_empty ⟨.ref s.heap.objs.size,_,I.laid (a:=s.heap.objs.size) (o:=.dK []) (t':=s.toks) (fun _ _ q=>af _ q) (av _) (zG s.heap I.big),rfl,h _ (I.hok.fresh (av _))⟩
end
def uy:List (TE×TE)->St->Hp->(List (V×V)->Hp->Prop)->Prop
 |[],_,H,Q=>Q [] H
 |(tk,tv)::r,σ,H,Q=>tk σ H fun x H1=>tv σ H1 fun y H2=>uy r σ H2 fun ps H3=>Q ((x,y)::ps) H3
abbrev VV:List (V×V)->List (Value×Value)->Prop:=Paired fun p q=>RelV p.1 q.1/\RelV p.2 q.2
def sP(X:Cx)(pos:Pos)(keys:List (Option Expr))(values:List Expr)(trs:List (TE×TE)):Prop:=
 ∀(pins:List (Addr×Obj)) (s:Shared) (σ:St) (H:Hp) (Q:List (V×V)->Hp->Prop),Inv X pins σ H s->uy trs σ H Q->
  wpAny (model X.prog X.w) X.A (evalPairs (pairTrees keys values X.env pos)) (fun vs s'=>∃ps H',Inv X pins σ H' s'/\VV ps vs/\Q ps H') X.xe s
theorem uM{X:Cx}{pos:Pos}:sP X pos [] [] []:=fun pins s σ H Q I h=>pairTrees_nil_walk ⟨[],H,I,.nil,h⟩
theorem vb{X:Cx}{pos:Pos}{k v:Expr}{ks:List (Option Expr)}{vs:List Expr}{tk tv:TE}{trs:List (TE×TE)}(hk:PE X k tk)(hv:PE X v tv)(hr:sP X pos ks vs trs):
  sP X pos (some k::ks) (v::vs) ((tk,tv)::trs):=fun pins s σ H Q I h=>
 pairTrees_cons_walk (iK (hk pins s σ H _ I h) fun u s1 ⟨x,H1,I1,rx,q1⟩=>iK (hv pins s1 σ H1 _ I1 q1) fun w2 s2 ⟨y,H2,I2,ry,q2⟩=>
  iK (hr pins s2 σ H2 _ I2 q2) fun ws s3 ⟨ps,H3,I3,rel,q3⟩=>⟨(x,y)::ps,H3,I3,.cons ⟨rx,ry⟩ rel,q3⟩)
def lW(kvs more:List (iE×V)):List (iE×V):=more.foldl (fun acc kv=>jC acc kv.1 kv.2) kvs
theorem KV.merge:∀{more:List (iE×V)} {rs:List (iE×Value)} {kvs:List (iE×V)} {vs:List (iE×Value)},KV more rs->KV kvs vs->KV (lW kvs more) (merged vs rs):=by
 intro more rs kvs vs r
 unfold KV at r
 induction r generalizing kvs vs with
 |nil=>intro q;exact q
 | @cons p q ps qs h t ih=>
  intro r0
  have e:KV (jC kvs p.1 p.2) (stored vs q.1 q.2):=by
   have:=r0.put p.1 h.2
   rw [<- h.1]; exact this
  exact ih e
theorem vN:∀(more kvs:List (iE×V)),(lW kvs more).length<=kvs.length+more.length
 |[],kvs=>by show kvs.length<=kvs.length+0;lia
 |p::r,kvs=>by
  have h1:=vN r (jC kvs p.1 p.2)
  have h2:=vI kvs p.1 p.2
  show(lW (jC kvs p.1 p.2) r).length<=_
  rw[List.length_cons];lia
theorem A0{P:Program}{w:World}:∀{kvs:List (iE×V)} {ws:List (Value×Value)},VV (kvs.map fun kv=>(kV kv.1,kv.2)) ws->∃rs,Carries (jR P w) ws rs/\KV kvs rs
 |[],_,r=>by rw[cq]at r;cases r;exact⟨[],True.intro,.nil⟩
 | p::kvs,_,r=>by
  rw[aq]at r
  cases r with
  | @cons a b as bs h t=>
   obtain⟨rs,c,q⟩:=A0 (P:=P) (w:=w) t
   obtain⟨b1,b2⟩:=b
   exact⟨(p.1,b2)::rs,⟨mK h.1,rfl,c⟩,.cons ⟨rfl,h.2⟩ q⟩
def Cr(trs:List (TE×TE)):TE:=fun σ H Q=>∀p,H p=none->uy trs σ (upd H p (.dK [])) fun ps H2=>H2 p=some (.dK [])/\∃kvs:List (iE×V),ps=kvs.map (fun kv=>(kV kv.1,kv.2))/\kvs.length<=15/\Q (.ref p) (upd H2 p (.dK (lW [] kvs)))
theorem uJ{X:Cx}{pos:Pos}{keys:List (Option Expr)}{values:List Expr}{trs:List (TE×TE)}(h:sP X pos keys values trs)(hall:keys.all (·.isSome)=true)(hl:keys.length=values.length)(h0:keys≠[])
  (h15:keys.length<=15):PE X (.Dict keys values pos) (Cr trs):=by
 intro pins s σ H Q I q
 have hn:=I.hok.fresh (av s.heap.objs.size)
 have I1:=I.laid (a:=s.heap.objs.size) (o:=.dK []) (h':=s.heap.push {cls:=.type "dict",data:=.dict #[]}) (t':=s.toks) (fun _ _ q=>af _ q) (av _) (zG s.heap I.big)
 refine wpAny_Dict_walk (knd:=jR X.prog X.w) hall hl h0 h15 (iK (h pins _ σ _ _ I1 (q _ hn)) fun ws s2 ⟨ps,H2,I2,rel,e,kvs,ep,lk,q2⟩=>?_)
 subst ep
 obtain⟨rs,c,rk⟩:=A0 (P:=X.prog) (w:=X.w) rel
 obtain⟨z,hd,vs0,r0,dd⟩:=nj I2.hok e
 cases r0
 refine⟨rs,c,dd,fun h' dd' hs=>⟨.ref s.heap.objs.size,_,?_,rfl,q2⟩⟩
 have hz:(lW [] kvs).length<=sizeLine:=by
  have h1:=vN kvs []
  rw[List.length_nil]at h1
  rw[fF];lia
 have he:∃q,h'.get? s.heap.objs.size=some q:=let⟨q,_,_,hq,_⟩:=dd';⟨q,hq⟩
 exact rq I2 (by rw[e];exact True.intro) hs he (qV hz hd (rk.merge .nil) dd')
structure M1(X:Cx)(o:Expr)(m:Str)(apos:Pos)(e:Expr)(cpos:Pos):Prop where
 base:attributeBase o m X.env (eval o X.env)=eval o X.env
 few:((backTo cpos (starEach [e] X.env)).all (fun x=>!x.1)&&(backToKw cpos (keywordEach [] X.env)).all (fun x=>x.1.isSome)
  &&decide (([e]:List Expr).length+([]:List Keyword).length+(if([]:List Keyword).isEmpty then 0 else 1)<30))=true
 line:(apos.endLine==cpos.line)=true
 trees:backTo cpos (starEach [e] X.env)=[(false,eval e X.env)]
structure M2(X:Cx)(o:Expr)(m:Str)(apos:Pos)(e f:Expr)(cpos:Pos):Prop where
 base:attributeBase o m X.env (eval o X.env)=eval o X.env
 few:((backTo cpos (starEach [e,f] X.env)).all (fun x=>!x.1)&&(backToKw cpos (keywordEach [] X.env)).all (fun x=>x.1.isSome)
  &&decide (([e,f]:List Expr).length+([]:List Keyword).length+(if([]:List Keyword).isEmpty then 0 else 1)<30))=true
 line:(apos.endLine==cpos.line)=true
 trees:backTo cpos (starEach [e,f] X.env)=[(false,eval e X.env),(false,eval f X.env)]
def B6(H:Hp)(a:Addr):Prop:=(∃kvs,Rd H a (.dK kvs))\/∃kvs,Rd H a (.dT kvs)
theorem uo{X:Cx}{pins:List (Addr×Obj)}{σ:St}{H:Hp}{s:Shared}{a:Addr}(I:Inv X pins σ H s)(d:B6 H a):
  s.TypeIs (.ref a) "dict"/\(∀b,Value.ref a= .ref b->∃ob,s.heap.get? b=some ob/\ob.dict=none)/\(a==sysModules)=false:=by
 rcases d with⟨kvs,e⟩|⟨kvs,e⟩
 ·obtain⟨_,hd,vs,_,dd⟩:=nk I.hok e
  refine⟨dd.typeIs,fun b q=>?_,hd⟩
  cases q
  obtain⟨ob,_,_,h1,h2,_⟩:=dd
  exact⟨ob,h1,h2.2.1⟩
 ·obtain⟨_,hd,xs,_,dd⟩:=nq I.hok e
  refine⟨dd.typeIs,fun b q=>?_,hd⟩
  cases q
  obtain⟨ob,_,_,h1,h2,_⟩:=dd
  exact⟨ob,h1,h2.2.1⟩
section
variable{X:Cx}{pins:List (Addr×Obj)}{σ:St}{H:Hp}{s:Shared}{a:Addr}{y d:V}{u r:Value}{o:Option V}{A:Around}{E:Value->Shared->Prop}
theorem Js{Q:Value->Shared->Prop}(hu:A.units+1<cLine)(I:Inv X pins σ H s)(g:DGet H a y o)(ry:RelV y u)(h:∀w' s',Inv X pins σ H s'->RelV (o.getD .non) w'->Q w' s'):
  wpAny (model X.prog X.w) A (call (.builtin "dict.get") [.ref a,u]) Q E s:=by
 rcases g with⟨kvs,k,e,ey,l⟩|⟨kvs,k,b,e,ey,eb,l⟩
 ·subst ey
  obtain⟨z,hd,vs,rel,dd⟩:=nk I.hok e
  refine gU gq dd.typeIs PySem.F.entry_dict_get (PySem.F.args_dict_get_2 _ _) (meets_dict_get (jR X.prog X.w) a (mK ry) hd) ⟨_,dd.mapOf,h _ _ (I.tok _) ?_⟩
  rw[l]
  exact(rel.val k).getD rfl
 ·subst ey
  cases(show u=Value.ref b from ry)
  obtain⟨z,hd,xs,rel,dd⟩:=nq I.hok e
  refine gU gq dd.typeIs PySem.F.entry_dict_get (PySem.F.args_dict_get_2 _ _) (meetsH_dict_get (tupleKind (jR X.prog X.w)) a b hd) ⟨dW hu,k,xs,nC I.hok eb,dd,h _ _ (I.tok _) ?_⟩
  rw[l]
  exact(rel.val k).getD rfl
end
section
variable{X:Cx}{o e f:Expr}{apos cpos:Pos}{td ty tx:TE}
end
section
variable{X:Cx}{pins:List (Addr×Obj)}{σ:St}{H:Hp}{s:Shared}{a:Addr}{kvs:List (iE×V)}{A:Around}{E:Value->Shared->Prop}
end
section
variable{X:Cx}{pins:List (Addr×Obj)}{σ:St}{H:Hp}{s:Shared}{a:Addr}{y:V}{u:Value}{A:Around}{E:Value->Shared->Prop}
end
section
variable{κ:Type}[DecidableEq κ]
end
def km(env:Env):List (Str×NameKind)->List (Str×Addr)->List (Str×Addr)
 |[],acc=>acc
 |(n,k)::r,acc=>km env r (if k== .free then(n,(env.cells.lookup n).getD 0)::acc else acc)
theorem BF{scope:Scope}{env:Env}(h:∀y∈scope.names,y.2= .free->∃c,env.cells.lookup y.1=some c):
    closureFor scope env=pure (km env scope.names []):=by
  have key:∀(l:List (Str×NameKind)) (acc:List (Str×Addr)),(∀y∈l,y.2= .free->∃c,env.cells.lookup y.1=some c)->
      (forIn l acc fun(x:Str×NameKind) (r:List (Str×Addr))=>
        (if x.2 == NameKind.free then do
          let c <- cellOf env x.1
          pure (ForInStep.yield ((x.1,c)::r))
        else pure (ForInStep.yield r):Sem (ForInStep (List (Str×Addr)))))=pure (km env l acc):=by
    intro l
    induction l with
    |nil=>intro acc _;rfl
    | cons y r ih=>
      intro acc hy
      obtain⟨n,k⟩:=y
      rw[ij]
      by_cases hk:k= .free
      · subst hk
        obtain⟨c,hc⟩:=hy (n,.free) aJ rfl
        have e1:cellOf env n=pure c:=by unfold cellOf;rw[hc]
        simp only[dF,if_true]
        rw[e1]
        show(pure c>>=fun c=>pure (ForInStep.yield ((n,c)::acc)))>>=_=_
        have e2:km env ((n,NameKind.free)::r) acc=km env r ((n,c)::acc):=by
          have hc':env.cells.lookup n=some c:=hc
          show km env r (if(NameKind.free==NameKind.free)=true then(n,(env.cells.lookup n).getD 0)::acc else acc)=_
          rw[hc']
          rfl
        rw[e2]
        exact ih _ fun z hz=>hy z (ay _ hz)
      · have hb:(k==NameKind.free)=false:=by simpa using hk
        simp only[hb,aK,if_false]
        have e2:km env ((n,k)::r) acc=km env r acc:=by
          show km env r (if(k==NameKind.free)=true then _ else acc)=_
          rw[hb];rfl
        rw[e2]
        exact ih _ fun z hz=>hy z (ay _ hz)
  unfold closureFor
  have e:=key scope.names [] h
  have e3:∀ (f:Str × NameKind->List (Str × Addr)->Sem (ForInStep (List (Str × Addr)))),(f = fun x r=>(if x.2 == NameKind.free then do
          let c <- cellOf env x.1
          pure (ForInStep.yield ((x.1,c)::r))
        else pure (ForInStep.yield r)))->(forIn scope.names [] f>>=fun r=>pure r)=(pure (km env scope.names []):Sem (List (Str×Addr))):=by
    intro f hf
    rw[hf,e]
    rfl
  exact e3 _ rfl
theorem BC{env:Env}{x:Str}:∀(l:List (Str×NameKind)) (acc:List (Str×Addr)) (c:Addr),(km env l acc).lookup x=some c->
  ((∃y∈l,y.1=x/\y.2= .free)/\(env.cells.lookup x).getD 0=c)\/acc.lookup x=some c
 |[],acc,c,h=>.inr h
 | (n,k)::r,acc,c,h=>by
  rcases BC r _ c h with⟨⟨y,hy,e⟩,q⟩|q
  ·exact .inl ⟨⟨y,ay _ hy,e⟩,q⟩
  ·by_cases hk:k= .free
   ·subst hk
    have q':List.lookup x ((n,(env.cells.lookup n).getD 0)::acc)=some c:=q
    rw[List.lookup_cons]at q'
    cases hx:x==n with
    |true=>
     rw[hx]at q'
     have hx':x=n:=by simpa using hx
     subst hx'
     exact .inl ⟨⟨_,aJ,rfl,rfl⟩,aO q'⟩
    |false=>rw[hx]at q';exact .inr q'
   ·have hb:(k==NameKind.free)=false:=by simpa using hk
    rw[hb]at q
    exact .inr q
theorem vF{env:Env}{x:Str}:∀(l:List (Str×NameKind)) (acc:List (Str×Addr)),((∃y∈l,y.1=x/\y.2= .free)\/(acc.lookup x).isSome)->((km env l acc).lookup x).isSome
 |[],acc,h=>by
  rcases h with⟨y,hy,_⟩|h
  ·cases hy
  ·exact h
 | (n,k)::r,acc,h=>by
  show((km env r (if(k==NameKind.free)=true then _ else acc)).lookup x).isSome
  refine vF r _ ?_
  rcases h with⟨y,hy,e1,e2⟩|h
  ·rcases aR.mp hy with rfl|hy
   ·have e2':k= .free:=e2
    have e1':n=x:=e1
    subst e2' e1'
    refine .inr ?_
    simp[List.lookup_cons]
   ·exact .inl ⟨y,hy,e1,e2⟩
  ·refine .inr ?_
   split
   ·rw[List.lookup_cons]
    split
    ·rfl
    ·exact h
   ·exact h
structure CpScope(X:Cx)(scope:Scope)(N:List Str)(src:List (Option Nat)):Prop where
 kind:scope.kind= .function
 nocell:∀y∈scope.names,y.2≠ .cell
 locs:∀y∈scope.names,y.2= .local->scope.names.lookup y.1=some .local
 frees:∀y∈scope.names,y.2= .free->scope.names.lookup y.1=some .free/\X.env.scope.names.lookup y.1=some .cell
 nd:N.Nodup
 len:src.length=N.length
 cap:∀(i j:Nat),src[i]? =some (some j)->X.N[j]? =N[i]?/\(N[i]?).elim False (fun x=>scope.names.lookup x=some .free)
def sL(src:List (Option Nat))(σ:St):St:=src.map fun o=>o.bind fun j=>(σ[j]?).join
theorem BG{env:Env}(hk:env.scope.kind= .function):∀{names:List (Str×NameKind)} {x:Str},names.lookup x=some .free->env.kindOf x=some .cell->
  (names.map fun(n,k)=>if(k==NameKind.free&&env.scope.kind== .function&&env.kindOf n==some .cell)then(n,NameKind.cell)else(n,k)).lookup x=some .cell
 |[],_,h,_=>by simp at h
 | (n,k)::r,x,h,hc=>by
  have ih:=@BG env hk r x
  show List.lookup x ((if(k==NameKind.free&&env.scope.kind== .function&&env.kindOf n==some .cell)=true then(n,NameKind.cell)else(n,k))::_)=_
  cases hx:x==n with
  |true=>
   simp only[List.lookup_cons,hx]at h
   cases h
   have hx':x=n:=by simpa using hx
   subst hx'
   rw[aw (by rw[hk,hc];rfl)]
   simp[List.lookup_cons]
  |false=>
   simp only[List.lookup_cons,hx]at h
   by_cases hq:(k==NameKind.free&&env.scope.kind== .function&&env.kindOf n==some .cell)=true
   ·rw[aw hq];simp only[List.lookup_cons,hx];exact ih h hc
   ·rw[au hq];simp only[List.lookup_cons,hx];exact ih h hc
theorem vQ{env:Env}:∀{names:List (Str×NameKind)} {x:Str} {k':NameKind},
  (names.map fun(n,k)=>if(k==NameKind.free&&env.scope.kind== .function&&env.kindOf n==some .cell)then(n,NameKind.cell)else(n,k)).lookup x=some k'->
   names.lookup x=some k'\/(names.lookup x=some .free/\k'= .cell)
 |[],_,_,h=>by simp at h
 | (n,k)::r,x,k',h=>by
  have ih:=@vQ env r x k'
  have h:List.lookup x ((if(k==NameKind.free&&env.scope.kind== .function&&env.kindOf n==some .cell)=true then(n,NameKind.cell)else(n,k))::_)=_:=h
  cases hx:x==n with
  | true=>
   by_cases hq:(k==NameKind.free&&env.scope.kind== .function&&env.kindOf n==some .cell)=true
   ·rw[aw hq]at h
    have h1:=h
    simp only[List.lookup_cons,hx]
    have:k= .free:=by
     have:=(cR _ _▸(cR _ _▸hq).1).1
     simpa using this
    subst this
    refine .inr ⟨rfl,?_⟩
    have h2:List.lookup x ((n,NameKind.cell)::(r.map fun(n,k)=>if(k==NameKind.free&&env.scope.kind== .function&&env.kindOf n==some .cell)then(n,NameKind.cell)else(n,k)))=some k':=h1
    simp only[List.lookup_cons,hx]at h2
    exact(aO h2).symm
   ·rw[au hq]at h
    simp only[List.lookup_cons,hx]at h ⊢
    exact .inl h
  | false=>
   have h':List.lookup x (r.map fun(n,k)=>if(k==NameKind.free&&env.scope.kind== .function&&env.kindOf n==some .cell)then(n,NameKind.cell)else(n,k))=some k':=by
    by_cases hq:(k==NameKind.free&&env.scope.kind== .function&&env.kindOf n==some .cell)=true
    ·rw[aw hq]at h
     simpa only[List.lookup_cons,hx]using h
    ·rw[au hq]at h
     simpa only[List.lookup_cons,hx]using h
   simp only[List.lookup_cons,hx]
   exact ih h'
def Cx.block(X:Cx)(scope:Scope)(N:List Str)(fp:List Addr)(s₀:Shared)(H₀:Hp)(C:Addr):Cx where
 prog:=X.prog
 w:=X.w
 K:=X.K
 mg:=X.mg
 base:=X.base
 A:=X.A
 N:=N
 s₀:=s₀
 H₀:=H₀
 env:=compEnvC scope (km X.env scope.names []) C X.env
 outer:=X.stack
 stack:=X.stack
 ex:=fp
 calm:=X.calm
 fn:=fun _=>false
 pn:=[]
 xe:=fun _ _=>False
theorem Gc{o:Option (Option V)}{v:V}(h:o.join=some v):o=some (some v):=by
 cases o with
 |none=>cases h
 |some z=>cases z with
  |none=>cases h
  |some z=>rw[show z=v from aO h]
theorem Inv.enter{X:Cx}{scope:Scope}{N:List Str}{src:List (Option Nat)}{pins:List (Addr×Obj)}{σ:St}{H:Hp}{s s4:Shared}{fp:List Addr}(S:CpScope X scope N src)(I:Inv X pins σ H s)
  (f2:∀b∈fp,lh X pins H b) (lt:∀b∈fp,b<s.heap.objs.size) (hns:s4.heap.Ns s.heap.objs.size fun _=>none) (hk:∀b o,s.heap.get? b=some o->s4.heap.get? b=some o) (hos:s4.os=s.os) (hg:s4.gens=s.gens):
  Inv (X.block scope N fp s H s.heap.objs.size) [] (sL src σ) H s4:=by
 have cells:∀x c,(km X.env scope.names []).lookup x=some c->X.env.cells.lookup x=some c:=fun x c e=>by
  rcases BC _ _ _ e with⟨⟨y,hy,e1,e2⟩,q⟩|q
  ·obtain⟨c',hc'⟩:=I.ok.has y.1 (.inl (S.frees y hy e2).2)
   rw[e1]at hc'
   rw[hc']at q ⊢
   exact bY some q
  ·cases q
 refine⟨⟨I.mod,S.kind,I.ok.glob,I.ok.blt,av _,fun x y c h1 h2=>I.ok.inj x y c (cells x c h1) (cells y c h2),fun x hx=>?_,fun x c h=>absurd (show false=true from h) bj,I.ok.hd,I.ok.frames,.inl rfl,fun b hb=>?_,I.bs,
   bz I.ok.bsz I.sz,fun b o e hb=>?_,fun b hb z=>?_,I.stack,I.stkFree⟩,hos,?_,Un.kept hk,⟨fun _=>none,hns,fun i x v h1 h2 h3=>?_⟩,fun x c e=>?_,I.fresh,fun x c e=>I.freeC x c (cells x c e),fun p hp=>?_,I.hok.kept hk,?_⟩
 ·have hx':(scope.names.map fun(n,k)=>if(k==NameKind.free&&X.env.scope.kind== .function&&X.env.kindOf n==some .cell)then(n,NameKind.cell)else(n,k)).lookup x=some .cell\/(scope.names.map fun(n,k)=>if(k==NameKind.free&&X.env.scope.kind== .function&&X.env.kindOf n==some .cell)then(n,NameKind.cell)else(n,k)).lookup x=some .free:=hx
  have hf:scope.names.lookup x=some .free:=by
   rcases hx' with h|h
   ·rcases vQ h with h|h
    ·exact absurd rfl (S.nocell _ (cC h))
    ·exact h.1
   ·rcases vQ h with h|h
    ·exact h
    ·cases h.2
  have hsome:=vF (env:=X.env) (x:=x) scope.names [] (.inl ⟨_,cC hf,rfl,rfl⟩)
  exact fO.mp hsome
 ·exact⟨aU (lt b hb),fun x c e=>(f2 b hb).2.2.2.2.1 x c (cells x c e)⟩
 ·have hb':b∈fp:=hb
  rcases(f2 b hb').2.2.2.1 with z|z
  ·exact I.ok.noex b o e z
  ·exact absurd (bw (aE e) (bz I.ok.bsz z)) (cw _)
 ·have hb':b∈fp:=hb
  have z':b∈kJ X.stack:=z
  rcases aR.mp (I.stkSub b z')with e|e
  ·exact(f2 b hb').2.1 e
  ·exact(f2 b hb').2.2.1 e
 ·rw[hg];exact I.bare
 ·have h2':(src.map fun o=>o.bind fun j=>(σ[j]?).join)[i]? =some (some v):=h2
  rw[aA]at h2'
  cases e:src[i]? with
  |none=>rw[e]at h2';cases h2'
  | some o=>
   rw[e]at h2'
   cases o with
   |none=>cases h2'
   | some j=>
    have h4:(σ[j]?).join=some v:=aO h2'
    have h5:=Gc h4
    obtain⟨c1,c2⟩:=S.cap i j e
    have h1':N[i]? =some x:=h1
    rw[h1']at c1 c2
    have c2':scope.names.lookup x=some .free:=c2
    have c3:=(S.frees _ (cC c2') rfl).2
    obtain⟨m,hn,hl⟩:=I.loc
    obtain⟨u,r,l⟩:=hl j x v c1 h5 (.inr (.inl c3))
    refine⟨u,r,?_⟩
    have c3':X.env.kindOf x=some .cell:=c3
    rcases l with⟨k,_⟩|⟨_,c,e1,z⟩
    ·rw[c3']at k;cases k
    ·refine .inr ⟨.inl (BG I.ok.kind c2' c3'),c,?_,?_⟩
     ·have hs:=vF (env:=X.env) (x:=x) scope.names [] (.inl ⟨_,cC c2',rfl,rfl⟩)
      obtain⟨c',hc'⟩:=fO.mp hs
      have:=cells x c' hc'
      rw[e1]at this
      cases this
      exact hc'
     ·obtain⟨o,ho,hd⟩:=z
      exact⟨o,hk c o ho,hd⟩
 ·obtain⟨v,o,ho,hd⟩:=I.cell x c (cells x c e)
  exact⟨v,o,hk c o ho,hd⟩
 ·exact absurd (show p∈([]:List (Addr×Obj))from hp) (by simp)
 ·show(src.map _).length=N.length
  rw[ae]
  exact S.len
def qr(X:Cx)(ifs:List Expr)(t:TT):Prop:=
 ∀(pins:List (Addr×Obj)) (s:Shared) (σ:St) (H:Hp) (Q:Bool->Hp->Prop),Inv X pins σ H s->t σ H Q->
  wpAny (model X.prog X.w) X.A (forIn ifs true fun c r=>if r = true then do let ok <- isTrue c X.env (eval c X.env); pure (ForInStep.yield ok) else pure (ForInStep.yield r)) (TP X pins σ Q) X.xe s
def wM:TT:=fun _ H Q=>Q true H
theorem mq{X:Cx}:qr X [] wM:=fun pins s σ H Q I h=>wpAny_tests_nil ⟨H,I,h⟩
theorem nL{X:Cx}{c:Expr}{t:TT}(h:PT X c t):qr X [c] t:=fun pins s σ H Q I hq=>wpAny_tests_one (h pins s σ H Q I hq)
def pC(J:It)(src:List (Option Nat))(g:TG)(tc:TT)(te:TE)(Q:VK)(σ:St)(H:Hp)(l:Addr):Prop:=
 ∃W:Nat->Nat->St->Hp->Prop,(∃m,W 0 m (sL src σ) (upd H l (.lst [])))/\∀i m σ' H,W i m σ' H->
  (J.stop i H/\Q (.ref l) H)\/(J.go i H/\∃N:St->Hp->Prop,(∀σ' H',N σ' H'->∃m',m'<m/\W (i+1) m' σ' H')/\∀x H',J.yld i H x H'->g x σ' H' fun σ2 H2=>tc σ2 H2 fun b H3=>
   if b=true then te σ2 H3 fun v H4=>∃xs,H4 l=some (.lst xs)/\xs.length<sizeLine/\N σ2 (upd H4 l (.lst (xs++[v])))else N σ2 H3)
theorem kG{J:It}{src:List (Option Nat)}{g:TG}{tc:TT}{te:TE}{Q:VK}{σ:St}{H:Hp}{l:Addr}(n:Nat)(Iv:Nat->St->Hp->Prop)(h0:Iv 0 (sL src σ) (upd H l (.lst [])))
  (hs:∀i σ' Hc,i<n->Iv i σ' Hc->J.go i Hc/\∀x H',J.yld i Hc x H'->g x σ' H' fun σ2 H2=>tc σ2 H2 fun b H3=>
   if b=true then te σ2 H3 fun v H4=>∃xs,H4 l=some (.lst xs)/\xs.length<sizeLine/\Iv (i+1) σ2 (upd H4 l (.lst (xs++[v])))else Iv (i+1) σ2 H3)
  (hd:∀σ' Hc,Iv n σ' Hc->J.stop n Hc/\Q (.ref l) Hc):pC J src g tc te Q σ H l:=by
 refine⟨fun i m σ' Hc=>m=n-i/\i<=n/\Iv i σ' Hc,⟨n,by simp,bI _,h0⟩,?_⟩
 rintro i m σ' Hc ⟨rfl,hi,p⟩
 by_cases hlt:i<n
 ·obtain⟨go,step⟩:=hs i σ' Hc hlt p
  exact .inr ⟨go,Iv (i+1),fun σ2 H2 p'=>⟨n-(i+1),by lia,rfl,hlt,p'⟩,step⟩
 ·have e:i=n:=by lia
  subst e
  exact .inl (hd σ' Hc p)
theorem Au{X:Cx}{elt tg iter:Expr}{ifs:List Expr}{scope:Scope}{pos:Pos}{N:List Str}{src:List (Option Nat)}{g:TG}{tc:TT}{te:TE}{pins:List (Addr×Obj)}{σ:St}{H2:Hp}{s2:Shared}
  {fp:List Addr} {it:Addr} {tn:Nat->Heap->Prop} {J:It} {Q:VK} {E:Value->Shared->Prop} {RR:Value->Addr->Result->Shared->Prop} (S:CpScope X scope N src) (hc:X.calm=true)
  (hg:∀fp s₀ H₀ C,PG (X.block scope N fp s₀ H₀ C) tg g) (ht:∀fp s₀ H₀ C,qr (X.block scope N fp s₀ H₀ C) ifs tc) (he:∀fp s₀ H₀ C,PE (X.block scope N fp s₀ H₀ C) elt te)
  (I2:Inv X pins σ H2 s2) (T:Turn X.prog X.w X.K tg J fp it tn) (st2:tn 0 s2.heap) (f2:∀b∈fp,lh X pins H2 b) (hw:∀l,H2 l=none->pC J src g tc te Q σ H2 l)
  (hRR:∀l C H' s',Inv X pins σ H' s'->(∃m,s'.heap.Ns C m)->lh X pins H' C->Q (.ref l) H'->RR (.ref l) C (.ok .next) s'):
  wpAny (model X.prog X.w) X.A (newList []) (fun acc s₃=>wpAny (model X.prog X.w) X.A (newFunctionEnv scope X.env.globals (km X.env scope.names []) [] X.env.qual none .none (some X.env)) (fun cenv s₄=>
   codeAny (model X.prog X.w) X.A (.compStart (.ListComp elt [⟨tg,iter,ifs,0⟩] scope pos) 0 (.ref it) acc {cenv with scope:=relabel scope X.env}) (RR acc cenv.locals) s₄) E s₃) E s2:=by
 have hl0:H2 s2.heap.objs.size=none:=I2.fresh
 have I3:Inv X pins σ (upd H2 s2.heap.objs.size (.lst [])) {s2 with heap:=s2.heap.push {cls:=.type "list",data:=.seq ([]:List Value).toArray}}:=I2.lnew (ys:=[]) (its:=[]) (t':=s2.toks) .nil (bI _)
 have ltf:∀b∈fp,b<s2.heap.objs.size:=fun b hb=>by
  obtain⟨o,e,_⟩:=T.obj _ _ st2 b hb
  exact aE e
 have f3:∀b∈fp,lh X pins (upd H2 s2.heap.objs.size (.lst [])) b:=fun b hb=>⟨by rw[iJ (aU (ltf b hb))];exact(f2 b hb).1,(f2 b hb).2⟩
 obtain⟨W,⟨m0,w0⟩,turn⟩:=hw _ hl0
 refine cK (wpAny_newFunctionEnv S.nocell (by intro y hy;simp at hy) (fun h₁ hns₁ hsb₁=>?_) S.kind)
 dsimp only at hns₁ hsb₁ ⊢
 revert I3 f3
 intro I3 f3
 have st1:tn 0 (s2.heap.push {cls:=.type "list",data:=.seq ([]:List Value).toArray}):=T.keep _ _ _ st2 fun b hb o e=>af _ e
 have lt3:∀b∈fp,b<(s2.heap.push {cls:=.type "list",data:=.seq ([]:List Value).toArray}).objs.size:=fun b hb=>by rw[dy];exact cD (ltf b hb)
 generalize hH:s2.heap.push {cls:=.type "list",data:=.seq ([]:List Value).toArray}=h3 at I3 st1 lt3 hns₁ hsb₁ ⊢
 have hk:∀b o,h3.get? b=some o->h₁.get? b=some o:=fun b o e=>hsb₁.extBut b o (aU (aE e)) (af _ e)
 have Ib:Inv (X.block scope N fp {s2 with heap:=h3} (upd H2 s2.heap.objs.size (.lst [])) h3.objs.size) [] (sL src σ) (upd H2 s2.heap.objs.size (.lst [])) {s2 with heap:=h₁,toks:=s2.toks+([]:List (Str×Value)).length}:=
  Inv.enter (s:={s2 with heap:=h3}) S I3 f3 lt3 hns₁ hk rfl rfl
 have fpB:∀{H':Hp},(∀b∈fp,H' b=none)->∀b∈fp,lh (X.block scope N fp {s2 with heap:=h3} (upd H2 s2.heap.objs.size (.lst [])) h3.objs.size) [] H' b:=fun hn b hb=>
  ⟨hn b hb,(Ib.ok.exf b hb).1,Ib.ok.exfs b hb,.inl hb,(Ib.ok.exf b hb).2,fun p hp=>absurd (show p∈([]:List (Addr×Obj))from hp) (by simp)⟩
 have tn1:tn 0 h₁:=T.keep _ _ _ st1 fun b _ o e=>hk b o e
 have loop:∀s₃:Shared,s₃={s2 with heap:=h₁,toks:=s2.toks+([]:List (Str×Value)).length}->
   codeAny (model X.prog X.w) X.A (.compLoop (.ListComp elt [⟨tg,iter,ifs,0⟩] scope pos) 0 (.ref it) (.ref s2.heap.objs.size) (compEnvC scope (km X.env scope.names []) h3.objs.size X.env))
    (RR (.ref s2.heap.objs.size) h3.objs.size) s₃:=by
  rintro s₃ rfl
  refine codeAny_loop rfl (fun n s'=>∃i σ' H',Inv (X.block scope N fp {s2 with heap:=h3} (upd H2 s2.heap.objs.size (.lst [])) h3.objs.size) [] σ' H' s'/\tn i s'.heap/\(∀b∈fp,H' b=none)/\W i n σ' H') ?_ m0
   ⟨0,_,_,Ib,tn1,fun b hb=>(f3 b hb).1,w0⟩
  rintro n s5 ⟨i,σ5,H5,I5,st5,fr5,w5⟩
  show wpAny _ X.A ((compTurn (.ListComp elt [⟨tg,iter,ifs,0⟩] scope pos) 0 (.ref it) (.ref s2.heap.objs.size) (compEnvC scope (km X.env scope.names []) h3.objs.size X.env)).onRaise (fun x=>do noteFrame x (compEnvC scope (km X.env scope.names []) h3.objs.size X.env); theTreesLotGoes x)) _ _ s5
  refine wpAny_noted ?_
  rw[compTurn_list]
  refine aa (gH (aa ?_))
  rcases turn i n σ5 H5 w5 with⟨stop,qn⟩|⟨go,N',hN',step⟩
  ·refine iK (T.done (X.block scope N fp {s2 with heap:=h3} (upd H2 s2.heap.objs.size (.lst [])) h3.objs.size) rfl rfl rfl hc i [] s5 σ5 H5 _ I5 (fpB fr5) st5 stop) fun r s6 ⟨hr,I6⟩=>?_
   subst hr
   refine ak ?_
   have u6:Un (kJ X.stack) fp (upd H2 s2.heap.objs.size (.lst [])) H5 h3 s6.heap:=I6.base
   have hf6:H5 h3.objs.size=none:=I6.free
   have I7:Inv X pins σ H5 s6:=I3.call' (ch:=fp) I6.os u6 I6.hok I6.bare fun b hb=>⟨(f3 b hb).2.2.2.1,(f3 b hb).2.1,(f3 b hb).2.2.2.2.1,(f3 b hb).2.2.2.2.2⟩
   obtain⟨m,hm,_⟩:=I6.loc
   exact hRR _ _ H5 s6 I7 ⟨m,hm⟩ (I3.fpOk (av _) hf6) qn
  ·refine iK (T.item (X.block scope N fp {s2 with heap:=h3} (upd H2 s2.heap.objs.size (.lst [])) h3.objs.size) rfl rfl rfl hc i [] s5 σ5 H5 _ I5 (fpB fr5) st5 go) fun r s6 ⟨u,hr,h6⟩=>?_
   subst hr
   refine aa (iK h6 fun _ s7 ⟨x,H7,I7,r7,y7,st7,fr7⟩=>?_)
   have I7':=I7.pinned (fpB fr7) (T.obj _ _ st7)
   have fin:∀{σ9:St} {H9:Hp} {s9:Shared},Inv (X.block scope N fp {s2 with heap:=h3} (upd H2 s2.heap.objs.size (.lst [])) h3.objs.size) ([]++pV fp s7.heap) σ9 H9 s9->N' σ9 H9->
     ∃m,m<n/\∃i σ' H',Inv (X.block scope N fp {s2 with heap:=h3} (upd H2 s2.heap.objs.size (.lst [])) h3.objs.size) [] σ' H' s9/\tn i s9.heap/\(∀b∈fp,H' b=none)/\W i m σ' H':=fun{σ9 H9 s9} I9 n9=>by
    obtain⟨m',hm,w9⟩:=hN' σ9 H9 n9
    refine⟨m',hm,i+1,σ9,H9,I9.unpinned,T.keep _ _ _ st7 fun b hb o e=>(I9.pin (b,o) (bp _ (bp _ (sj hb e)))).1,fun b hb=>?_,w9⟩
    obtain⟨o,e,d⟩:=T.obj _ _ st7 b hb
    exact(I9.pin (b,o) (bp _ (bp _ (sj hb e)))).2.1
   refine aa (cV (hg fp _ _ _ _ s7 σ5 H7 x u _ I7' r7 (step x H7 y7)) (fun _ s8 ⟨σ8,H8,I8,q8⟩=>?_) fun _ _ z=>False.elim z)
   refine aa (cV (ht fp _ _ _ _ s8 σ8 H8 _ I8 q8) (fun ok s9 ⟨H9,I9,q9⟩=>?_) fun _ _ z=>False.elim z)
   cases ok with
   |false=>exact ak ⟨rfl,fin I9 q9⟩
   | true=>
    refine aa (aa (cV (he fp _ _ _ _ s9 σ8 H9 _ I9 q9) (fun v s10 ⟨y,H10,I10,r10,xs,hx,hz,q10⟩=>?_) fun _ _ z=>False.elim z))
    refine aa (cV (AG (X:=X.block scope N fp {s2 with heap:=h3} (upd H2 s2.heap.objs.size (.lst [])) h3.objs.size) _ s10 σ8 H10 (.ref s2.heap.objs.size) [y] _ [v] (fun _ H11=>N' σ8 H11) I10 rfl (.cons r10 .nil) ⟨_,xs,y,rfl,rfl,hx,hz,q10⟩)
     (fun _ s11 ⟨_,H11,I11,_,q11⟩=>ak (ak ⟨rfl,fin I11 q11⟩)) fun _ _ z=>False.elim z)
 exact codeAny_compStart_list (loop _ rfl) (T.self _ 0 _ _ _ tn1 (loop _ rfl))
def qS(src:List (Option Nat))(wi:TI)(g:TG)(tc:TT)(te:TE):TE:=fun σ H Q=>wi σ H fun J H1=>∀l,H1 l=none->pC J src g tc te Q σ H1 l
theorem k6{X:Cx}{elt tg iter:Expr}{ifs:List Expr}{scope:Scope}{pos:Pos}{N:List Str}{src:List (Option Nat)}{wi:TI}{g:TG}{tc:TT}{te:TE}(S:CpScope X scope N src)(hc:X.calm=true)
  (hi:PI X tg iter wi) (hg:∀fp s₀ H₀ C,PG (X.block scope N fp s₀ H₀ C) tg g) (ht:∀fp s₀ H₀ C,qr (X.block scope N fp s₀ H₀ C) ifs tc) (he:∀fp s₀ H₀ C,PE (X.block scope N fp s₀ H₀ C) elt te)
  (hs:∀x,foldedSetIterable iter X.env x=pure x:=by intro _;rfl):PE X (.ListComp elt [⟨tg,iter,ifs,0⟩] scope pos) (qS src wi g tc te):=by
 intro pins s σ H Q I h
 rw[eval_ListComp]
 refine wpAny_comprehension_free (use:=none) rfl hs (BF fun y hy e=>I.ok.has y.1 (.inl (S.frees y hy e).2)) S.kind S.locs ?_
 refine iK (hi pins s σ H _ I h) fun v s1 h1=>iK h1 fun itv s2 h2=>?_
 obtain⟨it,fp,tn,J,H2,e,I2,T,st2,f2,hw⟩:=h2
 subst e
 refine Au (RR:=fun acc C=>compPost (model X.prog X.w) X.A X.xe none (EP X pins σ Q) acc C) S hc hg ht he I2 T st2 f2 hw ?_
 intro l C H' s' I' hm fC q
 obtain⟨m,hm⟩:=hm
 refine⟨m,hm,fun h' hs'=>?_⟩
 exact⟨.ref l,H',I'.turned (t':=s'.toks) (fun b o hb e=>hs'.extBut b o hb e) fC.1 fC.2.1 fC.2.2.2.1 fC.2.2.2.2.1 fC.2.2.2.2.2,rfl,q⟩
theorem yV{X:Cx}{i:Nat}{x:Str}{pos' spos:Pos}{elt tg iter:Expr}{ifs:List Expr}{scope:Scope}{pos:Pos}{N:List Str}{src:List (Option Nat)}{wi:TI}{g:TG}{tc:TT}{te:TE}(hN:X.N.Nodup)(hix:X.N[i]? =some x)(hx:Loc X.env.scope x)
  (S:CpScope X scope N src) (hc:X.calm=true)
  (hi:PI X tg iter wi) (hg:∀fp s₀ H₀ C,PG (X.block scope N fp s₀ H₀ C) tg g) (ht:∀fp s₀ H₀ C,qr (X.block scope N fp s₀ H₀ C) ifs tc) (he:∀fp s₀ H₀ C,PE (X.block scope N fp s₀ H₀ C) elt te)
  (hsw:swapsWith (.ListComp elt [⟨tg,iter,ifs,0⟩] scope pos) (some (.Name x pos')) spos.line X.env=pure true:=by rfl)
  (hs:∀x,foldedSetIterable iter X.env x=pure x:=by intro _;rfl) (hf:X.fn x=true\/X.env.scope.names.lookup x=some .local:=by first|exact .inl rfl|exact .inr rfl|assumption):
  PS X (.Assign [.Name x pos'] (.ListComp elt [⟨tg,iter,ifs,0⟩] scope pos) spos) (qE (qS src wi g tc te) (kh i)):=by
 intro pins s σ H D I h
 rw[exec_Assign_Name_used _ _ _ _ hsw]
 refine aa (gH (aa ?_))
 show wpAny _ X.A (do let _ <- comprehension (.ListComp elt [⟨tg,iter,ifs,0⟩] scope pos) scope X.env _ (newList []) false (eval iter X.env) (some (assign (.Name x pos') X.env))) _ _ s
 refine aa (cV (wpAny_comprehension_free (use:=some (assign (.Name x pos') X.env)) (Q:=fun _ s'=>SP X pins D .next s') rfl hs (BF fun y hy e=>I.ok.has y.1 (.inl (S.frees y hy e).2)) S.kind S.locs
  (iK (hi pins s σ H _ I h) fun v s1 h1=>iK h1 fun itv s2 h2=>?_)) (fun _ s' hq=>ak (ak hq)) fun _ _ e=>e)
 obtain⟨it,fp,tn,J,H2,e,I2,T,st2,f2,hw⟩:=h2
 subst e
 refine Au (Q:=fun v H'=>D.nx (σ.set i (some v)) H') (RR:=fun acc C=>compPost (model X.prog X.w) X.A X.xe (some (assign (.Name x pos') X.env)) (fun _ s'=>SP X pins D .next s') acc C) S hc hg ht he I2 T st2 f2 hw ?_
 intro l C H' s' I' hm fC q
 obtain⟨m,hm⟩:=hm
 show wpAny _ X.A (assign (.Name x pos') X.env (.ref l)) _ _ _
 refine wpAny_assign_Name (AO I' hN hix hx (v:=.ref l) rfl (fun s'' I'' ⟨a,sb,ha⟩=>?_) hf)
 have hCa:C≠a:=by
  rcases ha with rfl|ha
  ·exact fC.2.1
  ·exact fun z=>fC.2.2.2.2.1 x a ha z.symm
 refine⟨m,hm.sameBut sb hCa,fun h' hs'=>?_⟩
 exact⟨_,H',I''.turned (t':=s''.toks) (fun b o hb e=>hs'.extBut b o hb e) fC.1 fC.2.1 fC.2.2.2.1 fC.2.2.2.2.1 fC.2.2.2.2.2,q⟩
theorem Inv.turnedNew{X:Cx}{pins:List (Addr×Obj)}{σ:St}{H:Hp}{s:Shared}{h':Heap}{ch:List Addr}{t:Addr}{o:HO}{t':Nat}(I:Inv X pins σ H s)(hsz:s.heap.objs.size<=t)
  (k:∀b ob,b∉ch->s.heap.get? b=some ob->h'.get? b=some ob) (hch:∀b∈ch,lh X pins H b) (new:jbf X.prog X.w (upd H t o) h' t o):
  Inv X pins σ (upd H t o) {s with heap:=h',toks:=t'}:=by
 have hn:H t=none:=I.hok.fresh hsz
 have nt:∀{b ob},s.heap.get? b=some ob->b≠t:=fun q=>aU (bw (aE q) hsz)
 have u:Un (kJ X.stack) ch H (upd H t o) s.heap h':=
  ⟨fun b ob q _ _ hx=>k b ob hx q,fun b ob q _ _ hx=>⟨ob.slots,k b ob hx q⟩,fun b ob q n _=>by rw[iJ (nt q)];exact n,fun b ob q hx=>⟨ob,k b ob hx q⟩,
   fun b xs q=>by rw[iJ (iU q hn)];exact q,fun b ob xs q=>by rw[iJ (iU q hn)];exact q,fun b ps q=>⟨#[],by rw[iJ (iU q hn),q];simp⟩⟩
 refine I.call (g':=s.gens) (t':=t') (d':=s.drawn) u (fun b ob e=>?_) I.bare fun b hb=>⟨(hch b hb).2.2.2.1,(hch b hb).2.1,(hch b hb).2.2.2.2.1,(hch b hb).2.2.2.2.2⟩
 by_cases hb:b=t
 ·subst hb;rw[iF]at e;cases e;exact new
 ·rw[iJ hb]at e
  have ntr:∀{c u},H c=some u->c∉ch:=fun q z=>by rw[(hch _ z).1]at q;cases q
  refine(I.hok b ob e).stay (fun c v hc q=>k c v ?_ q) (fun c q=>by rw[iJ (iU q hn)];exact q) fun c xs q=>by rw[iJ (iU q hn)];exact q
  rcases hc with z|z
  ·rw[z];exact ntr e
  ·exact ntr z
theorem Inv.turnedAll{X:Cx}{pins:List (Addr×Obj)}{σ:St}{H:Hp}{s:Shared}{h':Heap}{ch:List Addr}{t':Nat}(I:Inv X pins σ H s)
  (k:∀b ob,b∉ch->s.heap.get? b=some ob->h'.get? b=some ob) (hch:∀b∈ch,lh X pins H b):Inv X pins σ H {s with heap:=h',toks:=t'}:=by
 have u:Un (kJ X.stack) ch H H s.heap h':=
  ⟨fun b ob q _ _ hx=>k b ob hx q,fun b ob q _ _ hx=>⟨ob.slots,k b ob hx q⟩,fun b ob q n _=>n,fun b ob q hx=>⟨ob,k b ob hx q⟩,fun b xs q=>q,fun b ob xs q=>q,fun b ps q=>⟨#[],by rw[q];simp⟩⟩
 refine I.call (g':=s.gens) (t':=t') (d':=s.drawn) u (fun b ob e=>?_) I.bare fun b hb=>⟨(hch b hb).2.2.2.1,(hch b hb).2.1,(hch b hb).2.2.2.2.1,(hch b hb).2.2.2.2.2⟩
 have ntr:∀{c u},H c=some u->c∉ch:=fun q z=>by rw[(hch _ z).1]at q;cases q
 refine(I.hok b ob e).stay (fun c v hc q=>k c v ?_ q) (fun c q=>q) fun c xs q=>q
 rcases hc with z|z
 ·rw[z];exact ntr e
 ·exact ntr z
def oY(K:PySem.W.Frag)(a:Addr):It:=
 ⟨fun i H=>∃xs x,SqL K H a xs/\xs[i]? =some x,fun i H x H'=>∃t y,H t=none/\x= .ref t/\H'=upd H t (.tup [.int i,y])/\∀xs,SqL K H a xs->xs[i]? =some y,fun i H=>∃xs,SqL K H a xs/\xs.length<=i⟩
theorem GI{P:Program}{w:World}{K:PySem.W.Frag}{elts:List Expr}{x1:Nat}{pos:Pos}(a e it:Addr)(hne:e≠it):
  Turn P w K (.Tuple elts x1 pos) (oY K a) [e,it] e (fun i h=>(∃old,IsEnum h e it i old)/\h.IsListIter it a i)where
 mem:=by simp
 obj:=fun i h st b hb=>by
  obtain⟨⟨old,he⟩,hit⟩:=st
  have q:b=e\/b=it:=by simpa using hb
  rcases q with rfl|rfl
  ·exact⟨_,he,fun v z=>by
    have z':Data.fields _=Data.cell v:=z
    cases z'⟩
  ·obtain⟨o,e1,c,d⟩:=hit
   exact⟨o,e1,fun v z=>by rw[d]at z;cases z⟩
 keep:=fun i h h' st k=>by
  obtain⟨⟨old,he⟩,hit⟩:=st
  exact⟨⟨old,k e (by simp) _ he⟩,hit.at fun o z=>k it (by simp) o z⟩
 item:=by
  intro X hP hw hK hc i pins s σ H E I hf st hg
  subst hP hw hK
  obtain⟨⟨old,he⟩,hit⟩:=st
  obtain⟨xs,x,hq,hx⟩:=hg
  obtain⟨its,rv,p,hz⟩:=I.list hq
  obtain⟨u,hu,ru⟩:=rv.get hx
  have elt:e<s.heap.objs.size:=aE he
  have ilt:it<s.heap.objs.size:=by obtain⟨_,z,_⟩:=hit;exact aE z
  refine wpAny_pyNext_enum_item he hit p.isList (x:=u) (by simpa using hu) hne fun h1 ho hit1 hT hsz1 hk1=>?_
  refine⟨_,rfl,wpAny_letOwnedTupleGo_enum ho fun h2 he2 hs2=>?_⟩
  replace hs2:Heap.SameBut e h1 h2:=hs2
  have kk:∀b ob,b∉[e,it]->s.heap.get? b=some ob->h2.get? b=some ob:=fun b ob hb q=>by
   have hb':b≠e/\b≠it:=by simpa using hb
   exact hs2.extBut b ob hb'.1 (hk1 b ob hb'.1 hb'.2 q)
  have hT2:h2.get? s.heap.objs.size=some {cls:=.type "tuple",data:=.seq #[.int i s.toks,u]}:=(hs2.2 _ (dG elt)).trans hT
  refine⟨.ref s.heap.objs.size,upd H s.heap.objs.size (.tup [.int i,x]),I.turnedNew (ch:=[e,it]) (av _) kk hf ?_,rfl,⟨_,x,I.fresh,rfl,rfl,fun ys hy=>by rw[I.list_inj hy hq];exact hx⟩,⟨⟨u,by simpa using he2⟩,hit1.at fun o z=>(hs2.2 it hne.symm).trans z⟩,fun b hb=>?_⟩
  ·exact⟨by show 2<=sizeLine;decide,[.int i s.toks,u],.cons ⟨_,rfl⟩ (.cons ru .nil),⟨_,hT2,rfl,_,rfl⟩⟩
  ·have hb':b=e\/b=it:=by simpa using hb
   have:b≠s.heap.objs.size:=by
    rcases hb' with rfl|rfl
    ·exact aU elt
    ·exact aU ilt
   rw[iJ this]
   exact(hf b hb).1
 done:=by
  intro X hP hw hK hc i pins s σ H E I hf st hg
  subst hP hw hK
  obtain⟨⟨old,he⟩,hit⟩:=st
  obtain⟨xs,hq,hx⟩:=hg
  obtain⟨its,rv,p,hz⟩:=I.list hq
  have hl:=rv.length
  refine wpAny_pyNext_enum_end (I.ok.hd hc) he hit p.isList (by simp;lia) fun h' eb=>⟨rfl,I.turnedAll (ch:=[e,it]) (t':=s.toks) (fun b o hb q=>eb b o (fun z=>hb (by simp[z])) q) hf⟩
 self:=fun _ _ _ _ _ st h=>by
  obtain⟨⟨old,he⟩,_⟩:=st
  exact wpAny_pyIter_enum he h
def BM(K:PySem.W.Frag)(ta:TA):TI:=fun σ H R=>ta σ H fun vs H1=>∃a,vs=[.ref a]/\(∃xs,SqL K H1 a xs)/\R (oY K a) H1
theorem uL{X:Cx}{elts:List Expr}{x1:Nat}{tpos:Pos}{a:Expr}{ta:TA}{p pos:Pos}(hg:Gl X "enumerate")(hm:X.mg "enumerate"=none)(ha:PA X [a] ta)(hs:starEach [a] X.env=[(false,eval a X.env)]:=by rfl):
  PI X (.Tuple elts x1 tpos) (.Call (.Name "enumerate" p) [a] [] pos) (BM X.K ta):=by
 intro pins s σ H R I h
 refine Call_ (lJ I hg hm boot_enumerate (cz (iK (ha pos pins s σ H _ I h) fun us s1 ⟨vs,H1,I1,r1,q1⟩=>?_) hs rfl))
 obtain⟨a,e,⟨xs,hq⟩,q⟩:=q1
 subst e
 cases r1 with
 |cons r rr=>
  cases rr
  cases r
  obtain⟨its,rv,pl,hz⟩:=I1.list hq
  refine call_enumerate_list pl.isList fun h' he hit hsz hk=>?_
  refine wpAny_pyIter_enum he ?_
  have I2:Inv X pins σ H1 {s1 with heap:=h'}:=I1.kept (t':=s1.toks) fun b o q=>hk b o q
  refine⟨_,[s1.heap.objs.size+1,s1.heap.objs.size],_,_,H1,rfl,I2,GI a _ _ (eV _),⟨⟨_,he⟩,hit⟩,fun b hb=>?_,q⟩
  have hb':b=s1.heap.objs.size+1\/b=s1.heap.objs.size:=by simpa using hb
  rcases hb' with rfl|rfl
  ·exact I1.fpOk (c5 _) (I1.hok.fresh (c5 _))
  ·exact I1.fpOk (av _) (I1.hok.fresh (av _))
section
variable{prog:Program}{w:World}{A:Around}{E:Value->Shared->Prop}{s:Shared}
theorem G4{j t:Addr}{k:Nat}{ar:Array Value}{x:Value}{Q:Value->Shared->Prop}(hj:s.heap.IsTupleIter j t k)(ht:s.heap.IsTuple t ar)(hx:ar[k]? =some x)
  (hQ:∀h',h'.IsTupleIter j t (k+1)->Heap.SameBut j s.heap h'->Q x {s with heap:=h'}):wpAny (model prog w) A (Builtin.SmallTypes.nextOf (.ref j)) Q E s:=by
 obtain⟨ob,e0,hcl,hdt⟩:=id hj
 obtain⟨ot,e1,_,nt,hdl⟩:=ht
 unfold Builtin.SmallTypes.nextOf
 refine aa (de (name:=Str.ofString "__next__") hj.typeIs dA (da dA hj.typeIs ip ?_ (ik _)))
 show wpAny _ _ (field (.ref j) 0>>=_) _ _ s
 refine aa (cH e0 hdt (x:=.ref t) rfl ?_)
 show wpAny _ _ (if(Value.ref t==Value.none)=true then _ else _) _ _ s
 rw[au (show ¬((Value.ref t==Value.none)=true)from bj)]
 show wpAny _ _ (field (.ref j) 1>>=_) _ _ s
 refine aa (cH e0 hdt (x:=.int k 0) rfl ?_)
 show wpAny _ _ (seqItems? (.ref t)>>=_) _ _ s
 refine aa (bJ e1 hdl ?_)
 simp only[Int.toNat_natCast,hx]
 refine aa (wpAny_setField e0 hdt (by simp) (ak ⟨x,rfl,ak (hQ _ ?_ (fh ..))⟩))
 exact⟨_,bS _ e0 (Obj.isFreed_of_fields (Obj.data_mapFields hdt _)),(Obj.cls_mapFields ..).trans hcl,by rw[Obj.data_mapFields hdt];simp[rawInt]⟩
theorem IE{j t:Addr}{k:Nat}{ar:Array Value}{Q:Value->Shared->Prop}(hh:A.handled=none)(hj:s.heap.IsTupleIter j t k)(ht:s.heap.IsTuple t ar)(hx:ar[k]? =none)
  (hE:∀h' e,Heap.ExtBut j s.heap h'->(∃o,h'.get? e=some o/\o.cls= .type "StopIteration")->E (.ref e) {s with heap:=h'}):wpAny (model prog w) A (Builtin.SmallTypes.nextOf (.ref j)) Q E s:=by
 obtain⟨ob,e0,hcl,hdt⟩:=id hj
 obtain⟨ot,e1,_,nt,hdl⟩:=ht
 unfold Builtin.SmallTypes.nextOf
 refine aa (de (name:=Str.ofString "__next__") hj.typeIs dA (da dA hj.typeIs ip ?_ (ik _)))
 show wpAny _ _ (field (.ref j) 0>>=_) _ _ s
 refine aa (cH e0 hdt (x:=.ref t) rfl ?_)
 show wpAny _ _ (if(Value.ref t==Value.none)=true then _ else _) _ _ s
 rw[au (show ¬((Value.ref t==Value.none)=true)from bj)]
 show wpAny _ _ (field (.ref j) 1>>=_) _ _ s
 refine aa (cH e0 hdt (x:=.int k 0) rfl ?_)
 show wpAny _ _ (seqItems? (.ref t)>>=_) _ _ s
 refine aa (bJ e1 hdl ?_)
 simp only[Int.toNat_natCast,hx]
 refine aa (eQ (aa (wpAny_setField e0 hdt (by simp) ?_)))
 show wpAny _ _ (newExc (.type "StopIteration") []>>=_) _ _ _
 refine aa ?_
 simp only[newExc,newTuple]
 refine aa (cK ?_ (by size_fits))
 refine aa (m:=firstArgMember _ _) (fD (a:=Value.none) (by first|rfl|(simp only[firstArgMember];rfl)) ?_)
 refine cK ?_ (by size_fits)
 simp only[raiseNew]
 refine aa (wpAny_handled ?_)
 first|rw[show A.in1.handled=none from hh]|rw[hh]
 refine aa (ak (wpAny_throw ?_))
 exact hE _ _ (((fh ..).extBut.push _).push _) ⟨_,aF _ rfl,rfl⟩
def IsSq(b:Bool)(h:Heap)(l:Addr)(ar:Array Value):Prop:=if b=true then h.IsList l ar else h.IsTuple l ar
def jbi(b:Bool)(h:Heap)(j l:Addr)(k:Nat):Prop:=if b=true then h.IsListIter j l k else h.IsTupleIter j l k
theorem IsSq.at'{b:Bool}{h h':Heap}{l:Addr}{ar:Array Value}(x:IsSq b h l ar)(k:∀o,h.get? l=some o->h'.get? l=some o):IsSq b h' l ar:=by
 cases b with
 |true=>obtain⟨o,e,r⟩:=(show h.IsList l ar from x);exact(show h'.IsList l ar from⟨o,k o e,r⟩)
 |false=>obtain⟨o,e,r⟩:=(show h.IsTuple l ar from x);exact(show h'.IsTuple l ar from⟨o,k o e,r⟩)
theorem jbi.at'{b:Bool}{h h':Heap}{j l:Addr}{i:Nat}(x:jbi b h j l i)(k:∀o,h.get? j=some o->h'.get? j=some o):jbi b h' j l i:=by
 cases b with
 |true=>obtain⟨o,e,r⟩:=(show h.IsListIter j l i from x);exact(show h'.IsListIter j l i from⟨o,k o e,r⟩)
 |false=>obtain⟨o,e,r⟩:=(show h.IsTupleIter j l i from x);exact(show h'.IsTupleIter j l i from⟨o,k o e,r⟩)
theorem jbi.obj{b:Bool}{h:Heap}{j l:Addr}{i:Nat}(x:jbi b h j l i):∃o,h.get? j=some o/\∀v,o.data≠ .cell v:=by
 cases b with
 |true=>obtain⟨o,e,_,d⟩:=(show h.IsListIter j l i from x);exact⟨o,e,fun v z=>by rw[d]at z;cases z⟩
 |false=>obtain⟨o,e,_,d⟩:=(show h.IsTupleIter j l i from x);exact⟨o,e,fun v z=>by rw[d]at z;cases z⟩
theorem vz{b:Bool}{j l:Addr}{k:Nat}{ar:Array Value}{x:Value}{Q:Value->Shared->Prop}(hj:jbi b s.heap j l k)(hl:IsSq b s.heap l ar)(hx:ar[k]? =some x)
  (hQ:∀h',jbi b h' j l (k+1)->Heap.SameBut j s.heap h'->Q x {s with heap:=h'}):wpAny (model prog w) A (Builtin.SmallTypes.nextOf (.ref j)) Q E s:=by
 cases b with
 |true=>exact wpAny_nextOf_list_item (show s.heap.IsListIter j l k from hj) (show s.heap.IsList l ar from hl) hx fun h' a b=>hQ h' a b
 |false=>exact G4 (show s.heap.IsTupleIter j l k from hj) (show s.heap.IsTuple l ar from hl) hx fun h' a b=>hQ h' a b
theorem BD{b:Bool}{j l:Addr}{k:Nat}{ar:Array Value}{Q:Value->Shared->Prop}(hh:A.handled=none)(hj:jbi b s.heap j l k)(hl:IsSq b s.heap l ar)(hx:ar[k]? =none)
  (hE:∀h' e,Heap.ExtBut j s.heap h'->(∃o,h'.get? e=some o/\o.cls= .type "StopIteration")->E (.ref e) {s with heap:=h'}):wpAny (model prog w) A (Builtin.SmallTypes.nextOf (.ref j)) Q E s:=by
 cases b with
 |true=>exact wpAny_nextOf_list_end hh (show s.heap.IsListIter j l k from hj) (show s.heap.IsList l ar from hl) hx hE
 |false=>exact IE hh (show s.heap.IsTupleIter j l k from hj) (show s.heap.IsTuple l ar from hl) hx hE
theorem Ip{b:Bool}{z TI TO i1 i2 l1 l2:Addr}{k1 k2:Nat}{xs ys:Array Value}{x y v0 v1:Value}{Q:Value->Shared->Prop}(D:ZipApart z TI TO i1 i2 l1 l2)
  (hz:IsZip s.heap z TI TO .none) (hTI:IsPair s.heap TI (.ref i1) (.ref i2)) (hTO:IsPair s.heap TO v0 v1)
  (h1:jbi b s.heap i1 l1 k1) (h2:jbi b s.heap i2 l2 k2) (hl1:IsSq b s.heap l1 xs) (hl2:IsSq b s.heap l2 ys) (hx:xs[k1]? =some x) (hy:ys[k2]? =some y)
  (hQ:∀h',IsZip h' z TI TO (rawInt s.heap.objs.size)->IsPair h' TO x y->jbi b h' i1 l1 (k1+1)->jbi b h' i2 l2 (k2+1)->IsPair h' s.heap.objs.size x y->
   (∀c o,c≠z->c≠TO->c≠i1->c≠i2->s.heap.get? c=some o->h'.get? c=some o)->Q (.ref s.heap.objs.size) {s with heap:=h'}):
  wpAny (model prog w) A (Builtin.«zip.__next__» ⟨[.ref z],[]⟩) (fun fin s'=>∃v,fin= .done (.ret v)/\Q v s') E s:=by
 show wpAny _ _ (field (.ref z) 2>>=_) _ _ _
 refine aa (cH hz rfl (x:=.bool false) rfl ?_)
 show wpAny _ _ (field (.ref z) 3>>=_) _ _ _
 refine aa (cH hz rfl (x:=.ref TI) rfl ?_)
 refine aa (bJ hTI rfl ?_)
 show wpAny _ _ (Builtin.SmallTypes.ownedTupleIsFree (.ref z)>>=_) _ _ _
 refine aa ?_
 unfold Builtin.SmallTypes.ownedTupleIsFree
 refine aa (cH hz rfl (x:=.none) rfl (ak ?_))
 simp only[if_true]
 refine aa (eQ ?_)
 refine aa (cH hz rfl (x:=.ref TO) rfl ?_)
 refine aa (dg hz (by simp) fun g1 hzA sA=>?_)
 replace hzA:IsZip g1 z TI TO .ellipsis:=hzA
 refine aa ?_
 simp only[List.zipIdx_cons,List.zipIdx_nil,ij,List.forIn_nil]
 refine aa (aa (gI ?_))
 show wpAny _ _ (Builtin.SmallTypes.nextOf (.ref i1)>>=_) _ _ _
 refine aa (vz (b:=b) (h1.at' fun o e=>sA.extBut _ o D.i1z e) (hl1.at' fun o e=>sA.extBut _ o D.l1z e) hx fun g2 h1B sB=>ak ?_)
 have TOB:IsPair g2 TO v0 v1:=sB.extBut _ _ D.TOi1 (sA.extBut _ _ D.TOz hTO)
 refine aa (bJ TOB rfl ?_)
 refine aa (gw TOB fun g3 TOC sC=>?_)
 replace TOC:IsPair g3 TO x v1:=TOC
 refine aa (cZ (ak ?_))
 refine aa (aa (gI ?_))
 show wpAny _ _ (Builtin.SmallTypes.nextOf (.ref i2)>>=_) _ _ _
 refine aa (vz (b:=b) (h2.at' fun o e=>sC.extBut _ o D.TOi2.symm (sB.extBut _ o D.i12.symm (sA.extBut _ o D.i2z e))) (hl2.at' fun o e=>sC.extBut _ o D.l2TO (sB.extBut _ o D.l2i1 (sA.extBut _ o D.l2z e))) hy fun g4 h2D sD=>ak ?_)
 have TOD:IsPair g4 TO x v1:=sD.extBut _ _ D.TOi2 TOC
 refine aa (bJ TOD rfl ?_)
 refine aa (gw TOD fun g5 TOE sE=>?_)
 replace TOE:IsPair g5 TO x y:=TOE
 refine aa (cZ (ak (ak ?_)))
 refine aa (bJ TOE rfl ?_)
 refine aa (wpAny_newTuple ?_)
 have hsz:g5.objs.size=s.heap.objs.size:=by rw[sE.1,sD.1,sC.1,sB.1,sA.1]
 have hzE:IsZip g5 z TI TO .ellipsis:=sE.extBut _ _ D.TOz.symm (sD.extBut _ _ D.i2z.symm (sC.extBut _ _ D.TOz.symm (sB.extBut _ _ D.i1z.symm hzA)))
 have hkE:∀c o,c≠z->c≠TO->c≠i1->c≠i2->s.heap.get? c=some o->g5.get? c=some o:=fun c o c1 c2 c3 c4 e=>sE.extBut _ _ c2 (sD.extBut _ _ c4 (sC.extBut _ _ c2 (sB.extBut _ _ c3 (sA.extBut _ _ c1 e))))
 have h1E:jbi b g5 i1 l1 (k1+1):=h1B.at' fun o e=>sE.extBut _ o D.TOi1.symm (sD.extBut _ o D.i12 (sC.extBut _ o D.TOi1.symm e))
 have h2E:jbi b g5 i2 l2 (k2+1):=h2D.at' fun o e=>sE.extBut _ o D.TOi2.symm e
 have zlt:z<g5.objs.size:=aE hzE
 show wpAny _ _ (Builtin.SmallTypes.ownedTupleHandOut (.ref z) (.ref g5.objs.size)>>=_) _ _ _
 refine aa ?_
 unfold Builtin.SmallTypes.ownedTupleHandOut
 have hzF:IsZip (g5.push {cls:=.type "tuple",data:=.seq #[x,y]}) z TI TO .ellipsis:=af _ hzE
 refine aa (dg hzF (by simp) fun g7 hzG sG=>?_)
 replace hzG:IsZip g7 z TI TO (rawInt g5.objs.size):=hzG
 refine dg hzG (by simp) fun g8 hzI sI=>?_
 replace hzI:IsZip g8 z TI TO (rawInt g5.objs.size):=hzI
 have up:∀c o,c≠z->g5.get? c=some o->g8.get? c=some o:=fun c o c1 e=>sI.extBut _ _ c1 (sG.extBut _ _ c1 (af _ e))
 have hTI8:IsPair g8 g5.objs.size x y:=sI.extBut _ _ (dG zlt) (sG.extBut _ _ (dG zlt) (aF _ rfl))
 rw[hsz]at hzI hTI8
 refine ak ⟨_,rfl,?_⟩
 show Q (.ref g5.objs.size) _
 rw[hsz]
 exact hQ g8 hzI (up _ _ D.TOz TOE) (h1E.at' fun o e=>up _ o D.i1z e) (h2E.at' fun o e=>up _ o D.i2z e) hTI8 fun c o c1 c2 c3 c4 e=>up c o c1 (hkE c o c1 c2 c3 c4 e)
theorem HV{b:Bool}{z TI TO i1 i2 l1 l2:Addr}{k1 k2:Nat}{xs ys:Array Value}{v0 v1:Value}{Q:Fin->Shared->Prop}(hh:A.handled=none)(D:ZipApart z TI TO i1 i2 l1 l2)
  (hz:IsZip s.heap z TI TO .none) (hTI:IsPair s.heap TI (.ref i1) (.ref i2)) (hTO:IsPair s.heap TO v0 v1)
  (h1:jbi b s.heap i1 l1 k1) (h2:jbi b s.heap i2 l2 k2) (hl1:IsSq b s.heap l1 xs) (hl2:IsSq b s.heap l2 ys) (hend:xs[k1]? =none\/ys[k2]? =none)
  (hE:∀h' e,(∀c o,c≠z->c≠TO->c≠i1->c≠i2->s.heap.get? c=some o->h'.get? c=some o)->(∃o,h'.get? e=some o/\o.cls= .type "StopIteration")->E (.ref e) {s with heap:=h'}):
  wpAny (model prog w) A (Builtin.«zip.__next__» ⟨[.ref z],[]⟩) Q E s:=by
 show wpAny _ _ (field (.ref z) 2>>=_) _ _ _
 refine aa (cH hz rfl (x:=.bool false) rfl ?_)
 show wpAny _ _ (field (.ref z) 3>>=_) _ _ _
 refine aa (cH hz rfl (x:=.ref TI) rfl ?_)
 refine aa (bJ hTI rfl ?_)
 show wpAny _ _ (Builtin.SmallTypes.ownedTupleIsFree (.ref z)>>=_) _ _ _
 refine aa ?_
 unfold Builtin.SmallTypes.ownedTupleIsFree
 refine aa (cH hz rfl (x:=.none) rfl (ak ?_))
 simp only[if_true]
 refine aa (eQ ?_)
 refine aa (cH hz rfl (x:=.ref TO) rfl ?_)
 refine aa (dg hz (by simp) fun g1 hzA sA=>?_)
 replace hzA:IsZip g1 z TI TO .ellipsis:=hzA
 refine aa ?_
 simp only[List.zipIdx_cons,List.zipIdx_nil,ij,List.forIn_nil]
 refine aa (aa (gI ?_))
 show wpAny _ _ (Builtin.SmallTypes.nextOf (.ref i1)>>=_) _ _ _
 cases hx:xs[k1]? with
 |none=>
  refine aa (BD (b:=b) hh (h1.at' fun o e=>sA.extBut _ o D.i1z e) (hl1.at' fun o e=>sA.extBut _ o D.l1z e) hx fun g2 ex sB he=>?_)
  obtain⟨oe,hoe,hce⟩:=he
  have hzB:IsZip g2 z TI TO .ellipsis:=sB _ _ D.i1z.symm hzA
  have hez:ex≠z:=fun q=>by subst q;rw[hzB]at hoe;cases hoe;simp at hce
  refine dg hzB (by simp) fun g3 _ sC=>hE g3 ex (fun c o c1 _ c3 _ q=>sC.extBut _ _ c1 (sB _ _ c3 (sA.extBut _ _ c1 q))) ⟨oe,sC.extBut _ _ hez hoe,hce⟩
 |some x=>
  have hy:ys[k2]? =none:=by rcases hend with h|h;rw[hx]at h;cases h;exact h
  refine aa (vz (b:=b) (h1.at' fun o e=>sA.extBut _ o D.i1z e) (hl1.at' fun o e=>sA.extBut _ o D.l1z e) hx fun g2 h1B sB=>ak ?_)
  have TOB:IsPair g2 TO v0 v1:=sB.extBut _ _ D.TOi1 (sA.extBut _ _ D.TOz hTO)
  refine aa (bJ TOB rfl ?_)
  refine aa (gw TOB fun g3 TOC sC=>?_)
  refine aa (cZ (ak ?_))
  refine aa (aa (gI ?_))
  show wpAny _ _ (Builtin.SmallTypes.nextOf (.ref i2)>>=_) _ _ _
  refine aa (BD (b:=b) hh (h2.at' fun o e=>sC.extBut _ o D.TOi2.symm (sB.extBut _ o D.i12.symm (sA.extBut _ o D.i2z e))) (hl2.at' fun o e=>sC.extBut _ o D.l2TO (sB.extBut _ o D.l2i1 (sA.extBut _ o D.l2z e))) hy fun g4 ex sD he=>?_)
  obtain⟨oe,hoe,hce⟩:=he
  have hzD:IsZip g4 z TI TO .ellipsis:=sD _ _ D.i2z.symm (sC.extBut _ _ D.TOz.symm (sB.extBut _ _ D.i1z.symm hzA))
  have hez:ex≠z:=fun q=>by subst q;rw[hzD]at hoe;cases hoe;simp at hce
  refine dg hzD (by simp) fun g5 _ sE=>hE g5 ex (fun c o c1 c2 c3 c4 q=>sE.extBut _ _ c1 (sD _ _ c4 (sC.extBut _ _ c2 (sB.extBut _ _ c3 (sA.extBut _ _ c1 q))))) ⟨oe,sE.extBut _ _ hez hoe,hce⟩
end
abbrev oZ(b:Bool)(l:Addr):Obj:={cls:=.type (if b=true then "list_iterator" else "tuple_iterator"),data:=.fields #[.ref l,.int 0 0]}
abbrev qy(b:Bool)(h:Heap)(l1 l2:Addr):Heap:=(h.push (oZ b l1)).push (oZ b l2)
abbrev qx(b:Bool)(h:Heap)(l1 l2:Addr):Heap:=(qy b h l1 l2).push {cls:=.type "tuple",data:=.seq #[.ref h.objs.size,.ref (h.push (oZ b l1)).objs.size]}
abbrev qw(b:Bool)(h:Heap)(l1 l2:Addr):Heap:=(qx b h l1 l2).push {cls:=.type "tuple",data:=.seq #[.none,.none]}
abbrev nX(b:Bool)(h:Heap)(l1 l2:Addr):Heap:=(qw b h l1 l2).push {cls:=.type "zip",data:=.fields #[.none,.bool false,.bool false,.ref (qy b h l1 l2).objs.size,.ref (qx b h l1 l2).objs.size]}
theorem GK(l1 l2:Addr)(xs ys:Array Value):
  Meets (Builtin.«zip.__new__» ⟨[.type "zip",.ref l1,.ref l2],[]⟩) (fun _ R s=>s.heap.IsTuple l1 xs/\s.heap.IsTuple l2 ys/\R (.ok (.ret (.ref (qw false s.heap l1 l2).objs.size))) {s with heap:=nX false s.heap l1 l2}):=
 .of_wp fun prog w A R s h=>by
  obtain⟨hp,g,d,tk,os⟩:=s;obtain⟨hl1,hl2,h⟩:=h
  have hsub:=sub_zip
  have hL1:Heap.IsTuple (Shared.heap ⟨hp,g,d,tk,os⟩) l1 xs:=hl1
  have hL2:Heap.IsTuple (Shared.heap ⟨hp.push {cls:=.type "tuple_iterator",data:=.fields #[.ref l1,.int 0 0]},g,d,tk,os⟩) l2 ys:=Heap.IsTuple.push hl2 _
  wp_walk using fo hL1,fo hL2
  exact⟨_,rfl,h⟩
section
variable{prog:Program}{w:World}{A:Around}{E:Value->Shared->Prop}{s:Shared}
theorem D8{b:Bool}{l1 l2:Addr}{xs ys:Array Value}{Q:Value->Shared->Prop}(hl1:IsSq b s.heap l1 xs)(hl2:IsSq b s.heap l2 ys)
  (h:∀h',IsZip h' (s.heap.objs.size+4) (s.heap.objs.size+2) (s.heap.objs.size+3) .none->IsPair h' (s.heap.objs.size+2) (.ref s.heap.objs.size) (.ref (s.heap.objs.size+1))->
   IsPair h' (s.heap.objs.size+3) .none .none->jbi b h' s.heap.objs.size l1 0->jbi b h' (s.heap.objs.size+1) l2 0->(∀c o,s.heap.get? c=some o->h'.get? c=some o)->Q (.ref (s.heap.objs.size+4)) {s with heap:=h'}):
  wpAny (model prog w) A (call (.type "zip") [.ref l1,.ref l2]) Q E s:=by
 cases b with
 |true=>exact call_zip_2 (show s.heap.IsList l1 xs from hl1) (show s.heap.IsList l2 ys from hl2) fun h' a1 a2 a3 a4 a5 _ a7=>h h' a1 a2 a3 a4 a5 a7
 | false=>
  refine callType_new F.called_zip (by decide) (F.typeCall_zip_2 _ _) (F.newCall_zip_2 _ _) (fun obj=>F.args_object_init_3 obj _ _) F.entry_zip_new (GK l1 l2 xs ys) ⟨hl1,hl2,?_⟩
  have q1:(s.heap.push (oZ false l1)).objs.size=s.heap.objs.size+1:=dy ..
  have q2:(qy false s.heap l1 l2).objs.size=s.heap.objs.size+2:=by rw[dy,q1]
  have q3:(qx false s.heap l1 l2).objs.size=s.heap.objs.size+3:=by rw[dy,q2]
  have q4:(qw false s.heap l1 l2).objs.size=s.heap.objs.size+4:=by rw[dy,q3]
  have p5:(nX false s.heap l1 l2).get? (qw false s.heap l1 l2).objs.size=some _:=aF _ rfl
  have p4:(nX false s.heap l1 l2).get? (qx false s.heap l1 l2).objs.size=some _:=af _ (aF _ rfl)
  have p3:(nX false s.heap l1 l2).get? (qy false s.heap l1 l2).objs.size=some _:=af _ (af _ (aF _ rfl))
  have p2:(nX false s.heap l1 l2).get? (s.heap.push (oZ false l1)).objs.size=some _:=af _ (af _ (af _ (aF _ rfl)))
  have p1:(nX false s.heap l1 l2).get? s.heap.objs.size=some _:=af _ (af _ (af _ (af _ (aF _ rfl))))
  show _/\_
  rw[q2,q3,q4]at p5
  rw[q1,q2]at p3
  rw[q3]at p4
  rw[q1]at p2
  rw[q4]
  exact⟨⟨_,p5,rfl⟩,h _ p5 p3 p4 (show Heap.IsTupleIter _ _ _ _ from⟨_,p1,rfl,rfl⟩) (show Heap.IsTupleIter _ _ _ _ from⟨_,p2,rfl,rfl⟩) fun c o x=>
   af _ (af _ (af _ (af _ (af _ x))))⟩
end
def kM(b:Bool)(K:PySem.W.Frag)(H:Hp)(a:Addr)(xs:List V):Prop:=if b=true then SqL K H a xs else SqT K H a xs
theorem Inv.sqB{X:Cx}{pins:List (Addr×Obj)}{σ:St}{H:Hp}{s:Shared}{b:Bool}{a:Addr}{xs:List V}(I:Inv X pins σ H s)(h:kM b X.K H a xs):∃its:List Value,Vals xs its/\IsSq b s.heap a its.toArray/\xs.length<=sizeLine:=by
 cases b with
 |true=>
  obtain⟨its,r,p,z⟩:=I.list (show SqL X.K H a xs from h)
  exact⟨its,r,p.isList,z⟩
 |false=>
  obtain⟨its,r,p,z⟩:=I.tuple (show SqT X.K H a xs from h)
  exact⟨its,r,(show s.heap.IsTuple a its.toArray from p),z⟩
theorem Inv.sqB_inj{X:Cx}{pins:List (Addr×Obj)}{σ:St}{H:Hp}{s:Shared}{b:Bool}{a:Addr}{xs ys:List V}(I:Inv X pins σ H s)(h:kM b X.K H a xs)(h':kM b X.K H a ys):xs=ys:=by
 cases b with
 |true=>exact I.list_inj (show SqL X.K H a xs from h) (show SqL X.K H a ys from h')
 |false=>exact I.tuple_inj (show SqT X.K H a xs from h) (show SqT X.K H a ys from h')
def sT(b:Bool)(K:PySem.W.Frag)(a c:Addr):It:=
  ⟨fun i H=>∃xs ys x y,kM b K H a xs/\kM b K H c ys/\xs[i]? =some x/\ys[i]? =some y,
   fun i H v H'=>∃t x y,H t=none/\v= .ref t/\H'=upd H t (.tup [x,y])/\(∀xs,kM b K H a xs->xs[i]? =some x)/\∀ys,kM b K H c ys->ys[i]? =some y,
   fun i H=>∃xs ys,kM b K H a xs/\kM b K H c ys/\(xs.length<=i\/ys.length<=i)⟩
theorem kD{X:Cx}{pins:List (Addr×Obj)}{σ:St}{H:Hp}{s:Shared}{b:Bool}{a j:Addr}{xs:List V}(I:Inv X pins σ H s)(h:kM b X.K H a xs)(f:lh X pins H j):a≠j:=by
 intro e
 subst e
 have key:∀{o},X.K.lookup a=some o->False:=fun{o} q=>by
  have q1:=I.mod.kin a o q
  rcases f.2.2.2.1 with z|z
  ·exact I.ok.noex a o q1 z
  ·exact absurd (bw (aE q1) (bz I.ok.bsz z)) (cw _)
 cases b with
 |true=>
  rcases(show SqL X.K H a xs from h)with(h|⟨o,h⟩)|⟨o,its,n,hk,_⟩
  ·rw[f.1]at h;cases h
  ·rw[f.1]at h;cases h
  ·exact key hk
 |false=>
  rcases(show SqT X.K H a xs from h)with(h|⟨o,h⟩)|⟨o,its,n,hk,_⟩
  ·rw[f.1]at h;cases h
  ·rw[f.1]at h;cases h
  ·exact key hk
structure ZpA(z TI TO i1 i2:Addr):Prop where
 TIz:TI≠z
 TOz:TO≠z
 i1z:i1≠z
 i2z:i2≠z
 TITO:TI≠TO
 TIi1:TI≠i1
 TIi2:TI≠i2
 TOi1:TO≠i1
 TOi2:TO≠i2
 i12:i1≠i2
theorem FR{P:Program}{w:World}{K:PySem.W.Frag}{elts:List Expr}{x1:Nat}{pos:Pos}(b:Bool)(a c z TI TO i1 i2:Addr)(D0:ZpA z TI TO i1 i2):
  Turn P w K (.Tuple elts x1 pos) (sT b K a c) [z,TI,TO,i1,i2] z (fun i h=>IsZip h z TI TO .none/\IsPair h TI (.ref i1) (.ref i2)/\(∃u v,IsPair h TO u v)/\jbi b h i1 a i/\jbi b h i2 c i)where
 mem:=by simp
 obj:=fun i h st d hd=>by
  obtain⟨hz,hTI,⟨u,v,hTO⟩,h1,h2⟩:=st
  have q:d=z\/d=TI\/d=TO\/d=i1\/d=i2:=by simpa using hd
  rcases q with rfl|rfl|rfl|rfl|rfl
  ·exact⟨_,hz,fun v z=>by
    have z':Data.fields _=Data.cell v:=z
    cases z'⟩
  ·exact⟨_,hTI,fun v z=>by
    have z':Data.seq _ _=Data.cell v:=z
    cases z'⟩
  ·exact⟨_,hTO,fun v z=>by
    have z':Data.seq _ _=Data.cell v:=z
    cases z'⟩
  ·exact h1.obj
  ·exact h2.obj
 keep:=fun i h h' st k=>by
  obtain⟨hz,hTI,⟨u,v,hTO⟩,h1,h2⟩:=st
  exact⟨k z (by simp) _ hz,k TI (by simp) _ hTI,⟨u,v,k TO (by simp) _ hTO⟩,h1.at' fun o e=>k i1 (by simp) o e,h2.at' fun o e=>k i2 (by simp) o e⟩
 item:=by
  intro X hP hw hK hc i pins s σ H E I hf st hg
  subst hP hw hK
  obtain⟨hz,hTI,⟨u0,v0,hTO⟩,h1,h2⟩:=st
  obtain⟨xs,ys,x,y,hq1,hq2,hx,hy⟩:=hg
  obtain⟨its1,rv1,p1,hz1⟩:=I.sqB hq1
  obtain⟨its2,rv2,p2,hz2⟩:=I.sqB hq2
  obtain⟨u1,hu1,ru1⟩:=rv1.get hx
  obtain⟨u2,hu2,ru2⟩:=rv2.get hy
  have D:ZipApart z TI TO i1 i2 a c:=⟨D0.TIz,D0.TOz,D0.i1z,D0.i2z,D0.TITO,D0.TIi1,D0.TIi2,D0.TOi1,D0.TOi2,D0.i12,
   kD I hq1 (hf z (by simp)),kD I hq1 (hf TO (by simp)),kD I hq1 (hf i1 (by simp)),kD I hq1 (hf i2 (by simp)),kD I hq2 (hf z (by simp)),kD I hq2 (hf TO (by simp)),kD I hq2 (hf i1 (by simp)),kD I hq2 (hf i2 (by simp))⟩
  have zlt:z<s.heap.objs.size:=aE hz
  have hT:s.TypeIs (.ref z) "zip":=⟨_,hz,rfl⟩
  unfold pyNext
  refine aa (gJ (de (name:=Str.ofString "__next__") hT gn (da gn hT F.entry_zip_next
   (Ip (b:=b) D hz hTI hTO h1 h2 p1 p2 (x:=u1) (y:=u2) (by simpa using hu1) (by simpa using hu2) fun h' a1 a2 a3 a4 a5 a7=>ak ?_) (F.args_zip_next_1 _))))
  refine⟨_,rfl,wpAny_letOwnedTupleGo_zip a1 fun g hz' hs'=>?_⟩
  replace hs':Heap.SameBut z h' g:=hs'
  have kk:∀d ob,d∉[z,TI,TO,i1,i2]->s.heap.get? d=some ob->g.get? d=some ob:=fun d ob hd q=>by
   have hd':d≠z/\d≠TI/\d≠TO/\d≠i1/\d≠i2:=by simpa using hd
   exact hs'.extBut _ _ hd'.1 (a7 d ob hd'.1 hd'.2.2.1 hd'.2.2.2.1 hd'.2.2.2.2 q)
  have hT2:g.get? s.heap.objs.size=some {cls:=.type "tuple",data:=.seq #[u1,u2]}:=hs'.extBut _ _ (dG zlt) a5
  refine⟨.ref s.heap.objs.size,upd H s.heap.objs.size (.tup [x,y]),I.turnedNew (ch:=[z,TI,TO,i1,i2]) (t':=s.toks) (av _) kk hf ?_,rfl,
   ⟨_,x,y,I.fresh,rfl,rfl,fun zs hq=>by rw[I.sqB_inj hq hq1];exact hx,fun zs hq=>by rw[I.sqB_inj hq hq2];exact hy⟩,
   ⟨hz',hs'.extBut _ _ D.TIz (a7 _ _ D.TIz D.TITO D.TIi1 D.TIi2 hTI),⟨_,_,hs'.extBut _ _ D.TOz a2⟩,a3.at' fun o e=>hs'.extBut _ _ D.i1z e,a4.at' fun o e=>hs'.extBut _ _ D.i2z e⟩,fun d hd=>?_⟩
  ·exact⟨by show 2<=sizeLine;decide,[u1,u2],.cons ru1 (.cons ru2 .nil),⟨_,hT2,rfl,_,rfl⟩⟩
  ·have dlt:d<s.heap.objs.size:=by
    have q:d=z\/d=TI\/d=TO\/d=i1\/d=i2:=by simpa using hd
    rcases q with rfl|rfl|rfl|rfl|rfl
    ·exact zlt
    ·exact aE hTI
    ·exact aE hTO
    ·obtain⟨o,e,_⟩:=h1.obj;exact aE e
    ·obtain⟨o,e,_⟩:=h2.obj;exact aE e
   rw[iJ (aU dlt)]
   exact(hf d hd).1
 done:=by
  intro X hP hw hK hc i pins s σ H E I hf st hg
  subst hP hw hK
  obtain⟨hz,hTI,⟨u0,v0,hTO⟩,h1,h2⟩:=st
  obtain⟨xs,ys,hq1,hq2,hlen⟩:=hg
  obtain⟨its1,rv1,p1,hz1⟩:=I.sqB hq1
  obtain⟨its2,rv2,p2,hz2⟩:=I.sqB hq2
  have e1:=rv1.length
  have e2:=rv2.length
  have D:ZipApart z TI TO i1 i2 a c:=⟨D0.TIz,D0.TOz,D0.i1z,D0.i2z,D0.TITO,D0.TIi1,D0.TIi2,D0.TOi1,D0.TOi2,D0.i12,
   kD I hq1 (hf z (by simp)),kD I hq1 (hf TO (by simp)),kD I hq1 (hf i1 (by simp)),kD I hq1 (hf i2 (by simp)),kD I hq2 (hf z (by simp)),kD I hq2 (hf TO (by simp)),kD I hq2 (hf i1 (by simp)),kD I hq2 (hf i2 (by simp))⟩
  have hT:s.TypeIs (.ref z) "zip":=⟨_,hz,rfl⟩
  unfold pyNext
  refine aa (gJ (de (name:=Str.ofString "__next__") hT gn (da gn hT F.entry_zip_next
   (HV (b:=b) (I.ok.hd hc) D hz hTI hTO h1 h2 p1 p2 (by rcases hlen with h|h;exact .inl (by simp;lia);exact .inr (by simp;lia)) fun h' e hk he=>?_) (F.args_zip_next_1 _))))
  obtain⟨o,ho,hcl⟩:=he
  refine aa (g6 (T:="StopIteration") (b:=true) ⟨o,ho,hcl⟩ isSubtype_stop ?_)
  exact ak ⟨rfl,I.turnedAll (ch:=[z,TI,TO,i1,i2]) (t':=s.toks) (fun d ob hd q=>by
   have hd':d≠z/\d≠TI/\d≠TO/\d≠i1/\d≠i2:=by simpa using hd
   exact hk d ob hd'.1 hd'.2.2.1 hd'.2.2.2.1 hd'.2.2.2.2 q) hf⟩
 self:=fun _ _ _ _ _ st h=>wpAny_pyIter_zip st.1 h
theorem HW{X:Cx}{b:Bool}{elts:List Expr}{x1:Nat}{tpos:Pos}{pins:List (Addr×Obj)}{σ:St}{H1:Hp}{s1:Shared}{R:It->Hp->Prop}{a c:Addr}{xs ys:List V}(I1:Inv X pins σ H1 s1)(hq1:kM b X.K H1 a xs)(hq2:kM b X.K H1 c ys)(q:R (sT b X.K a c) H1):
  wpAny (model X.prog X.w) X.A (call (.type "zip") [.ref a,.ref c]) (fun v s2=>wpAny (model X.prog X.w) X.A (pyIter v) (wA X pins σ (.Tuple elts x1 tpos) R) X.xe s2) X.xe s1:=by
 obtain⟨its1,rv1,p1,hz1⟩:=I1.sqB hq1
 obtain⟨its2,rv2,p2,hz2⟩:=I1.sqB hq2
 refine D8 p1 p2 fun h' a1 a2 a3 a4 a5 hk=>?_
 refine wpAny_pyIter_zip a1 ?_
 have I2:Inv X pins σ H1 {s1 with heap:=h'}:=I1.kept (t':=s1.toks) fun b o q=>hk b o q
 have ne:∀i j:Nat,i≠j->s1.heap.objs.size+i≠s1.heap.objs.size+j:=fun i j h e=>h (Nat.add_left_cancel e)
 refine⟨_,[s1.heap.objs.size+4,s1.heap.objs.size+2,s1.heap.objs.size+3,s1.heap.objs.size,s1.heap.objs.size+1],_,_,H1,rfl,I2,FR b a c _ _ _ _ _ ⟨ne 2 4 (by decide),ne 3 4 (by decide),ne 0 4 (by decide),ne 1 4 (by decide),ne 2 3 (by decide),ne 2 0 (by decide),ne 2 1 (by decide),ne 3 0 (by decide),ne 3 1 (by decide),ne 0 1 (by decide)⟩,
  ⟨a1,a2,⟨_,_,a3⟩,a4,a5⟩,fun d hd=>?_,q⟩
 have hd':d=s1.heap.objs.size+4\/d=s1.heap.objs.size+2\/d=s1.heap.objs.size+3\/d=s1.heap.objs.size\/d=s1.heap.objs.size+1:=by simpa using hd
 have hle:s1.heap.objs.size<=d:=by
  rcases hd' with e|e|e|e|e<;>rw[e]
  ·exact fV _ _
  ·exact fV _ _
  ·exact fV _ _
  ·exact av _
  ·exact fV _ _
 exact I1.fpOk hle (I1.hok.fresh hle)
def BJ(K:PySem.W.Frag)(ta:TA):TI:=fun σ H R=>ta σ H fun vs H1=>∃(b:Bool) (a c:Addr),vs=[.ref a,.ref c]/\(∃xs,kM b K H1 a xs)/\(∃ys,kM b K H1 c ys)/\R (sT b K a c) H1
theorem EK{X:Cx}{elts:List Expr}{x1:Nat}{tpos:Pos}{a c:Expr}{ta:TA}{p pos:Pos}(hg:Gl X "zip")(hm:X.mg "zip"=none)(ha:PA X [a,c] ta)(hs:starEach [a,c] X.env=[(false,eval a X.env),(false,eval c X.env)]:=by rfl)(hs2:starEach [c] X.env=[(false,eval c X.env)]:=by rfl):
  PI X (.Tuple elts x1 tpos) (.Call (.Name "zip" p) [a,c] [] pos) (BJ X.K ta):=by
 intro pins s σ H R I h
 refine Call_ (lJ I hg hm boot_zip (cz (iK (ha pos pins s σ H _ I h) fun us s1 ⟨vs,H1,I1,r1,q1⟩=>?_) (by rw[hs,hs2]) (by rw[hs2];rfl)))
 obtain⟨b,a,c,e,⟨xs,hq1⟩,⟨ys,hq2⟩,q⟩:=q1
 subst e
 cases r1 with
 | cons r rr=>
  cases rr with
  |cons r' rr=>
   cases rr
   cases r
   cases r'
   exact HW I1 hq1 hq2 q
theorem HZ:typeLookup (.type "list") "keys"=pure none:=by rw[typeLookup_type,builtinLookup_eq_fast];kernel_rfl
theorem II:typeLookup (.type "list") "__getattr__"=pure none:=by rw[typeLookup_type,builtinLookup_eq_fast];kernel_rfl
theorem vj:isSubtype (.type "AttributeError") (.type "AttributeError")=pure true:=by rw[isSubtype_type];kernel_rfl
section
variable{prog:Program}{w:World}{A:Around}{E:Value->Shared->Prop}{h:Heap}{g:Array GenState}{d:Drawn}{t:Nat}{os:OsState}{a:Addr}{o:Obj}
theorem Hm{α:Type}{Q:α->Shared->Prop}{u:Value}{x msg:Str}(hh:A.handled=none)(hm:msg.length<=sizeLine)
  (hE:∀h' e tk,(∀b o,h.get? b=some o->h'.get? b=some o)->(∃o,h'.get? e=some o/\o.cls= .type "AttributeError")->E (.ref e) ⟨h',g,d,tk,os⟩):
  wpAny (model prog w) A (raiseAttrError u x msg:Sem α) Q E ⟨h,g,d,t,os⟩:=by
 unfold raiseAttrError
 refine aa (wpAny_mkStr ?_ hm)
 simp only[newExc,newTuple]
 refine aa (aa (cK ?_ (by size_fits)))
 refine aa (m:=firstArgMember _ _) (fD (a:=Value.none) (by first|rfl|(simp only[firstArgMember];rfl)) ?_)
 refine cK ?_ (by size_fits)
 refine aa (wpAny_mkText ?_)
 dsimp only
 refine aa ?_
 unfold noteAttr
 generalize hh1:h.push {cls:=.type "tuple",data:=.seq #[.str msg t]}=h1
 have k1:∀ b o,h.get? b = some o->h1.get? b = some o:=fun b o q=>by rw [<- hh1]; exact af _ q
 have hg:(h1.push {cls:=.type "AttributeError",data:=.fields #[.ref h.objs.size,.none,.none,.none,.bool false,.none,unsetMember,unsetMember]}).get? h1.objs.size=some _:=aF _ rfl
 have k2:∀b o,h.get? b=some o->(h1.push {cls:=.type "AttributeError",data:=.fields #[.ref h.objs.size,.none,.none,.none,.bool false,.none,unsetMember,unsetMember]}).get? b=some o:=fun b o q=>af _ (k1 b o q)
 have nb:∀b o,h.get? b=some o->b≠h1.objs.size:=fun b o q=>aU (aE (k1 b o q))
 show wpAny _ _ (lacksNameAndObj (.ref h1.objs.size)>>=_) _ _ ⟨h1.push {cls:=.type "AttributeError",data:=.fields #[.ref h.objs.size,.none,.none,.none,.bool false,.none,unsetMember,unsetMember]},g,d,t+1+1,os⟩
 generalize hh2:h1.push {cls:=.type "AttributeError",data:=.fields #[.ref h.objs.size,.none,.none,.none,.bool false,.none,unsetMember,unsetMember]}=h2 at hg k2
 generalize h1.objs.size=e at hg nb
 clear hh2 k1 hh1
 have hT:(⟨h2,g,d,t+1+1,os⟩:Shared).TypeIs (.ref e) "AttributeError":=⟨_,hg,rfl⟩
 refine aa ?_
 unfold lacksNameAndObj
 refine aa (g6 hT vj ?_)
 simp only[c8,aK,if_false]
 refine aa (wpAny_load hg ?_)
 show wpAny _ _ (pure true) _ _ _
 refine ak ?_
 simp only[if_true]
 refine aa (eQ (aa (fY hT ?_)))
 show wpAny _ _ (layMembers e 6 #[_,u]) _ _ _
 unfold layMembers
 refine aa (wpAny_load hg ?_)
 show wpAny _ _ (update e _) _ _ _
 refine wpAny_update hg ?_
 refine wpAny_raiseNew_none hh (hE _ _ _ (fun b o q=>?_) ⟨_,bS _ hg rfl,rfl⟩)
 exact(bf _ _ (nb b o q).symm).trans (k2 b o q)
theorem Ie{tk:Tok}{Q:PySem.Fin->Shared->Prop}{its:Array Value}{n:Nat}(hx:h.get? a=some {cls:=.type "list",dict:=none,data:=.seq its n,slots:=#[]})(hh:A.handled=none)
  (hE:∀h' e tk,(∀b o,h.get? b=some o->h'.get? b=some o)->(∃o,h'.get? e=some o/\o.cls= .type "AttributeError")->E (.ref e) ⟨h',g,d,tk,os⟩):
  wpAny (model prog w) A (Builtin.«object.__getattribute__» ⟨[.ref a,.str "keys" tk],[]⟩) Q E ⟨h,g,d,t,os⟩:=by
 have hT:(⟨h,g,d,t,os⟩:Shared).TypeIs (.ref a) "list":=⟨_,hx,rfl⟩
 have f4:=HZ
 repeat(any_goals (first|assumption|wp_step))
 refine Hm hh (by decide+kernel) hE
theorem Gm{tk:Tok}{Q:Value->Shared->Prop}{its:Array Value}{n:Nat}(hx:h.get? a=some {cls:=.type "list",dict:=none,data:=.seq its n,slots:=#[]})(hh:A.handled=none)
  (hE:∀h' e tk,(∀b o,h.get? b=some o->h'.get? b=some o)->(∃o,h'.get? e=some o/\o.cls= .type "AttributeError")->E (.ref e) ⟨h',g,d,tk,os⟩):
  wpAny (model prog w) A (getAttrBy (.ref a) (.str "keys" tk) false) Q E ⟨h,g,d,t,os⟩:=by
 have hT:(⟨h,g,d,t,os⟩:Shared).TypeIs (.ref a) "list":=⟨_,hx,rfl⟩
 have f2:=dQ.lookup
 have f3:=dQ.bind (.ref a)
 repeat(any_goals (first|assumption|wp_step))
 refine codeAny_call_builtin dQ.plain F.entry_list_ga (dQ.check _ _ _ _ _ _ _ _ (show(⟨h,g,d,t,os⟩:Shared).TypeIs (.ref a) "list" from⟨_,hx,rfl⟩) (F.args_list_getattribute_2 _ _) (Ie hx ?_ ?_))
 ·exact hh
 ·intro h' e tk k q
  obtain⟨oe,he,hc⟩:=q
  have hT2:(⟨h',g,d,tk,os⟩:Shared).TypeIs (.ref e) "AttributeError":=⟨_,he,hc⟩
  have f5:=vj
  have f6:=II
  show wpAny _ A (getattributeRaised (Value.ref a) _ (Value.type "list") (.ref e) none false false) _ _ _
  have done:=hE h' e tk k ⟨oe,he,hc⟩
  unfold getattributeRaised
  repeat(any_goals (first|assumption|wp_step))
theorem DF{Q:Option Value->Shared->Prop}{its:Array Value}{n:Nat}(hx:h.get? a=some {cls:=.type "list",dict:=none,data:=.seq its n,slots:=#[]})(hh:A.handled=none)
  (hq:∀h' tk,(∀b o,h.get? b=some o->h'.get? b=some o)->Q none ⟨h',g,d,tk,os⟩):wpAny (model prog w) A (getAttr? (.ref a) "keys") Q E ⟨h,g,d,t,os⟩:=by
 unfold getAttr? getAttrBy?
 refine aa (wpAny_mkText (aa (gJ (Gm hx hh fun h' e tk k q=>?_))))
 obtain⟨oe,he,hc⟩:=q
 refine aa (g6 (T:="AttributeError") (b:=true) ⟨_,he,hc⟩ vj ?_)
 exact ak (hq h' tk k)
end
theorem BH:entryFor table "dict.update.loop"=some Builtin.«dict.update.loop»:=entryFor_of_fast (by kernel_rfl)
theorem sm:plainId "dict.update.loop"=true:=by decide+kernel
theorem Ho{K:Type}[DecidableEq K](kvs:List (K×Value))(k:K)(v:Value):(stored kvs k v).length<=kvs.length+1:=by
 unfold stored
 split
 ·rw[ae];lia
 ·rw[aH];exact av _
section
variable{prog:Program}{w:World}{A:Around}{E:Value->Shared->Prop}{K:Type}[DecidableEq K]{knd:KeyKind prog w K}{R:Result->Shared->Prop}
theorem F5{d it l:Addr}{its:Array Value}{more:List (K×Value)}(hh:A.handled=none)(hlen:more.length=its.size)(hsz:its.size<=1000)(hdl:l≠d)(hdi:it≠d)(hil:l≠it):
  ∀(k i:Nat) (tk0:Tok) (s:Shared) (kvs:List (K×Value)),its.size-i=k->i<=its.size->kvs.length<=i->s.heap.IsListIter it l i->s.heap.IsList l its->s.heap.DictOf knd d kvs->
   (∀(j:Nat) (q:K×Value),more[j]? =some q->∃t kv,its[j]? =some (.ref t)/\s.heap.IsTuple t #[kv,q.2]/\knd.is q.1 kv=true)->
   (∀h' tk,h'.DictOf knd d (merged kvs (more.drop i))->(∀b o,b≠d->b≠it->s.heap.get? b=some o->h'.get? b=some o)->R (.ok (.ret .none)) {s with heap:=h',toks:=tk})->
   codeAny (model prog w) A (.builtin "dict.update.loop" ⟨[.ref d,.ref it,.int i tk0,.none],[]⟩) R s:=by
 intro k
 induction k with
 |zero=>
  intro i tk0 s kvs hk hi hkl hit hl hd hp hR
  have e:i=its.size:=by lia
  subst e
  refine cx BH ?_
  rw[bO sm _]
  show wpAny _ A.in1 (pyNext (.ref it)>>=_) _ _ s
  refine aa (gp hh hit hl (by simp) fun h' eb=>?_)
  show wpAny _ A.in1 (Builtin.Dict.addKeywords d []>>=_) _ _ _
  refine aa (ak (ak ?_))
  refine hR h' s.toks ?_ fun b o _ hb q=>eb b o hb q
  rw[List.drop_eq_nil_of_le (by lia)]
  exact hd.extBut eb hdi.symm
 | succ k ih=>
  intro i tk0 s kvs hk hi hkl hit hl hd hp hR
  have hlt:i<its.size:=by lia
  have hlm:i<more.length:=by lia
  obtain⟨t,kv,hu,ht,hkey⟩:=hp i more[i] (by simp[hlm])
  refine cx BH ?_
  rw[bO sm _]
  show wpAny _ A.in1 (pyNext (.ref it)>>=_) _ _ s
  refine aa (fZ hit hl hu fun h1 hit1 sb1=>?_)
  have nti:t≠it:=fun z=>by
   subst z
   obtain⟨o,e1,c1,_⟩:=ht
   obtain⟨o',e2,c2,_⟩:=hit
   rw[e1]at e2;cases e2;rw[c1]at c2;exact absurd c2 (by decide)
  have ntd:t≠d:=fun z=>by
   subst z
   obtain⟨o,e1,c1,_⟩:=ht
   obtain⟨o',_,_,e2,c2,_⟩:=hd
   rw[e1]at e2;cases e2;rw[c2.1]at c1;exact absurd c1 (by decide)
  have ht1:h1.IsTuple t #[kv,more[i].2]:=ht.extBut sb1.extBut nti
  have hd1:h1.DictOf knd d kvs:=hd.extBut sb1.extBut hdi.symm
  show wpAny _ A.in1 (holding [.ref t] _>>=_) _ _ _
  refine aa (cg ?_)
  refine aa (m:=(Builtin.Dict.pairItems (.ref t)).tryCatch _) ?_
  refine cE ?_
  unfold Builtin.Dict.pairItems
  refine aa (fY ht1.typeIs ?_)
  obtain⟨ot,e1,c1,n1,d1⟩:=id ht1
  rw[aw (by decide)]
  refine aa (bJ e1 d1 ?_)
  refine ak ?_
  show wpAny _ A.in1 (holding [kv,more[i].2] (dictSet d kv more[i].2)) _ _ _
  refine cg (wpAny_dictSet_pairs hkey hd1 (fun h2 hd2 sb2=>?_) (by have:=(by decide:1000<=sizeLine);lia))
  replace sb2:Heap.SameBut d h1 h2:=sb2
  have kk:∀b o,b≠d->b≠it->s.heap.get? b=some o->h2.get? b=some o:=fun b o b1 b2 q=>sb2.extBut b o b1 (sb1.extBut b o b2 q)
  refine ak ⟨cy sm _,?_⟩
  have hik:((i:Int)+1)=((i+1:Nat):Int):=by lia
  show codeAny _ _ (.builtin "dict.update.loop" ⟨[.ref d,.ref it,rawInt ((i:Int)+1),.none],[]⟩) _ _
  rw[hik]
  refine ih (i+1) 0 _ (stored kvs more[i].1 more[i].2) (by lia) (by lia) ?_ (hit1.extBut sb2.extBut hdi) ((hl.extBut sb1.extBut hil).extBut sb2.extBut hdl) hd2 ?_ ?_
  ·have:=Ho kvs more[i].1 more[i].2
   lia
  ·intro j q hq
   obtain⟨t',kv',a1,a2,a3⟩:=hp j q hq
   have n1:t'≠it:=fun z=>by
    subst z
    obtain⟨o,e1,c1,_⟩:=a2
    obtain⟨o',e2,c2,_⟩:=hit
    rw[e1]at e2;cases e2;rw[c1]at c2;exact absurd c2 (by decide)
   have n2:t'≠d:=fun z=>by
    subst z
    obtain⟨o,e1,c1,_⟩:=a2
    obtain⟨o',_,_,e2,c2,_⟩:=hd
    rw[e1]at e2;cases e2;rw[c2.1]at c1;exact absurd c1 (by decide)
   exact⟨t',kv',a1,(a2.extBut sb1.extBut n1).extBut sb2.extBut n2,a3⟩
  ·intro h' tk hd' k'
   refine hR h' tk ?_ fun b o b1 b2 q=>k' b o b1 b2 (kk b o b1 b2 q)
   rw[List.drop_eq_getElem_cons hlm]
   exact hd'
theorem IB{l:Addr}{its:Array Value}{c:Nat}{more:List (K×Value)}{s:Shared}{Q:Value->Shared->Prop}(hh:A.handled=none)(hl:s.heap.get? l=some {cls:=.type "list",dict:=none,data:=.seq its c,slots:=#[]})(hlen:more.length=its.size)(hsz:its.size<=1000)
  (hp:∀(j:Nat) (q:K×Value),more[j]? =some q->∃t kv,its[j]? =some (.ref t)/\s.heap.IsTuple t #[kv,q.2]/\knd.is q.1 kv=true)
  (h:∀h' tk,h'.DictOf knd s.heap.objs.size (merged [] more)->(∀b o,s.heap.get? b=some o->h'.get? b=some o)->Q (.ref s.heap.objs.size) {s with heap:=h',toks:=tk}):
  wpAny (model prog w) A (call (.type "dict") [.ref l]) Q E s:=by
 refine callType_codes (Q₁:=fun obj s₁=>obj= .ref s.heap.objs.size/\s₁={s with heap:=s.heap.push {cls:=.type "dict",data:=.dict #[]}}) F.kt_called_dict (F.kt_typeCall_dict_1 _) F.entry_dict_init (kt_code_dict_new _ ⟨rfl,rfl⟩) ?_
 rintro obj s₁ ⟨rfl,rfl⟩
 have hnew:(s.heap.push {cls:=.type "dict",data:=.dict #[]}).DictOf knd s.heap.objs.size []:=Heap.DictOf.new s.heap
 have hl1:(s.heap.push {cls:=.type "dict",data:=.dict #[]}).get? l=some {cls:=.type "list",dict:=none,data:=.seq its c,slots:=#[]}:=af _ hl
 have k1:∀b o,s.heap.get? b=some o->(s.heap.push {cls:=.type "dict",data:=.dict #[]}).get? b=some o:=fun b o q=>af _ q
 have llt:l<s.heap.objs.size:=aE hl
 generalize s.heap.push {cls:=.type "dict",data:=.dict #[]}=h1 at hnew hl1 k1
 refine⟨hnew.typeIs,F.args_dict_init_2 _ _,?_⟩
 unfold Builtin.«dict.__init__»
 refine aa ?_
 unfold Builtin.Dict.selfAndRest
 refine aa (wpAny_notOrdered_dict hnew.typeIs ?_)
 show wpAny _ _ (pure (s.heap.objs.size,[Value.ref l])) _ _ _
 refine ak ?_
 show wpAny _ _ (Builtin.Dict.updateFrom "dict.__init__" s.heap.objs.size (.ref l) [] .none) _ _ _
 unfold Builtin.Dict.updateFrom
 refine aa (fY (T:="list") ⟨_,hl1,rfl⟩ ?_)
 rw[aw (by decide)]
 refine aa (DF hl1 hh fun h2 tk2 k2=>?_)
 have hl2:=k2 _ _ hl1
 have hd2:h2.DictOf knd s.heap.objs.size []:=let⟨o,es,ep,ho,r⟩:=hnew;⟨o,es,ep,k2 _ _ ho,r⟩
 have dlt:s.heap.objs.size<h2.objs.size:=by obtain⟨_,_,_,ho,_⟩:=hd2;exact aE ho
 simp only[Option.isNone_none,if_true]
 refine aa (eQ ?_)
 have hL:Heap.IsList h2 l its:=⟨_,hl2,rfl,_,rfl⟩
 refine aa (dw (s:={s with heap:=h2,toks:=tk2}) hL ?_)
 refine ak ⟨cy sm _,?_⟩
 have hit:(h2.push {cls:=.type "list_iterator",data:=.fields #[.ref l,.int 0 0]}).IsListIter h2.objs.size l 0:=⟨_,aF _ rfl,rfl,rfl⟩
 refine F5 (A:=A.in1) (knd:=knd) (more:=more) hh hlen hsz (aU llt) (dG dlt) (aU (Nat.lt_trans llt dlt)) its.size 0 0 {s with heap:=h2.push {cls:=.type "list_iterator",data:=.fields #[.ref l,.int 0 0]},toks:=tk2} [] rfl (bI _) (av _) hit (hL.push _) (hd2.push _) ?_ ?_
 ·intro j q hq
  obtain⟨t,kv,a1,a2,a3⟩:=hp j q hq
  obtain⟨o,e,r⟩:=a2
  exact⟨t,kv,a1,⟨o,af _ (k2 _ _ (k1 _ _ e)),r⟩,a3⟩
 ·intro h' tk hd' k'
  rw[List.drop_zero]at hd'
  refine⟨rfl,h h' tk hd' fun b o q=>k' b o (aU (aE q)) (aU (aE (k2 _ _ (k1 _ _ q)))) (af _ (k2 _ _ (k1 _ _ q)))⟩
end
def PairAt(H:Hp)(v:V)(p:iE×V):Prop:=∃t,v= .ref t/\H t=some (.tup [kV p.1,p.2])
def C0(K:PySem.W.Frag):List V->Hp->VK->Prop:=fun vs H Q=>∃l xs kvs,vs=[.ref l]/\H l=some (.lst xs)/\Paired (PairAt H) xs kvs/\xs.length<=1000/\(kvs.map (·.1)).Nodup/\∀d,H d=none->Q (.ref d) (upd H d (.dK kvs))
theorem A9{X:Cx}{pins:List (Addr×Obj)}{σ:St}{H:Hp}{s:Shared}(I:Inv X pins σ H s):∀{xs:List V} {kvs:List (iE×V)} {its:List Value},Paired (PairAt H) xs kvs->Vals xs its->
  ∃more:List (iE×Value),KV kvs more/\∀(j:Nat) (q:iE×Value),more[j]? =some q->∃t kv,its[j]? =some (.ref t)/\s.heap.IsTuple t #[kv,q.2]/\(jR X.prog X.w).is q.1 kv=true
 |_,_,_,.nil,.nil=>⟨[],.nil,fun j q h=>by simp at h⟩
 | _,_,_,.cons hp tp,.cons rv tr=>by
  obtain⟨more,hk,hm⟩:=A9 I tp tr
  obtain⟨t,rfl,ht⟩:=hp
  cases rv
  obtain⟨_,its',rt,hi⟩:=I.hok t _ ht
  obtain⟨u1,u2,rfl,r1,r2⟩:=rt.two
  refine⟨(_,u2)::more,.cons ⟨rfl,r2⟩ hk,fun j q h=>?_⟩
  cases j with
  |zero=>
   simp at h
   subst h
   exact⟨t,u1,rfl,hi,mK r1⟩
  |succ j=>
   obtain⟨t',kv,a1,a2,a3⟩:=hm j q (by simpa using h)
   exact⟨t',kv,by simpa using a1,a2,a3⟩
theorem GP{X:Cx}(hc:X.calm=true):jbs X (.type "dict") (C0 X.K):=by
 intro pins s σ H vs us Q I rv h
 obtain⟨l,xs,kvs,rfl,hl,hp,hz,hn,q⟩:=h
 obtain⟨u,rfl,ru⟩:=rv.one
 cases ru
 obtain⟨z,its,n,r,hlen,e⟩:=I.lstM hl
 obtain⟨more,hkv,hm⟩:=A9 I hp r
 have hlm:kvs.length=more.length:=aP hkv
 have hlx:xs.length=kvs.length:=aP hp
 refine IB (knd:=jR X.prog X.w) (more:=more) (I.ok.hd hc) e (by rw[aj];lia) (by rw[aj];lia) (fun j q hj=>?_) fun h' tk dd k=>?_
 ·obtain⟨t,kv,a1,a2,a3⟩:=hm j q hj
  exact⟨t,kv,by simpa using a1,a2,a3⟩
 ·refine⟨.ref s.heap.objs.size,upd H s.heap.objs.size (.dK kvs),I.laid k (av _) ?_,rfl,q _ I.fresh⟩
  rw [merged_nil_of_nodup more (by rw [<- hkv.keys]; exact hn)] at dd
  exact qV (by have:=(by decide:1000<=sizeLine);lia) (by have:=I.big;exact beq_false_of_ne (dG this)) hkv dd
inductive Knd(H:Hp):V->String->Prop where
 |non:Knd H .non "NoneType"
 |bl {x:Bool}:Knd H (.bl x) "bool"
 |int {i:Int}:Knd H (.int i) "int"
 |str {x:Str}:Knd H (.str x) "str"
 |lst {a:Addr} {xs:List V} (e:H a=some (.lst xs)):Knd H (.ref a) "list"
 |tup {a:Addr} {xs:List V} (e:H a=some (.tup xs)):Knd H (.ref a) "tuple"
 |dK {a:Addr} {kvs:List (iE×V)} (e:H a=some (.dK kvs)):Knd H (.ref a) "dict"
theorem Knd.ty{K:PySem.W.Frag}{H:Hp}{v:V}{n:String}(h:Knd H v n):TyOf K H v (.type n):=by
 cases h with
 |non=>exact .non
 |bl=>exact .bl _
 |int=>exact .int _
 |str=>exact .str _
 |lst e=>exact .lst e
 |tup e=>exact .tup e
 |dK e=>exact .dK e
def vR(a b:String):Bool:=a==b||(a=="bool"&&b=="int")
def mf:List String:=["NoneType","bool","int","str","list","tuple","dict"]
theorem Eu{K:PySem.W.Frag}:∀a∈mf,∀b∈mf,PySem.W.kitOne K (.type a) (.type b)=some (vR a b):=by
 intro a ha b hb
 have ha':a="NoneType"\/a="bool"\/a="int"\/a="str"\/a="list"\/a="tuple"\/a="dict":=by simpa[mf]using ha
 have hb':b="NoneType"\/b="bool"\/b="int"\/b="str"\/b="list"\/b="tuple"\/b="dict":=by simpa[mf]using hb
 rcases ha' with rfl|rfl|rfl|rfl|rfl|rfl|rfl<;>rcases hb' with rfl|rfl|rfl|rfl|rfl|rfl|rfl<;>rfl
def CW:List V->Hp->VK->Prop:=fun vs H Q=>∃x n T,vs=[x,.ty T]/\Knd H x n/\T∈mf/\Q (.bl (vR n T)) H
theorem Knd.mem{H:Hp}{v:V}{n:String}(h:Knd H v n):n∈mf:=by cases h<;>simp[mf]
theorem E9{X:Cx}:jbs X (.builtin "isinstance") CW:=by
 intro pins s σ H vs us Q I rv h
 obtain⟨x,n,T,rfl,hk,hT,q⟩:=h
 obtain⟨u1,u2,rfl,r1,r2⟩:=rv.two
 cases(show u2=Value.type T from r2)
 exact Gb I r1 hk.ty (Eu n hk.mem T hT) fun tk=>⟨.bl _,H,I.tok tk,rfl,q⟩
section
variable{X:Cx}{e a b c o i:Expr}{es:List Expr}{t t' ta tb tc td te:TE}{pos p p2:Pos}
theorem PE.imp(h:PE X e t)(hi:∀σ H Q,t' σ H Q->t σ H Q):PE X e t':=fun pins s σ H Q I q=>h pins s σ H Q I (hi σ H Q q)
theorem PG.imp{t t':TG}(h:PG X e t)(hi:∀v σ H Q,t' v σ H Q->t v σ H Q):PG X e t':=fun pins s σ H v u Q I r q=>h pins s σ H v u Q I r (hi v σ H Q q)
theorem PGs.imp{t t':kU}(h:PGs X es t)(hi:∀v σ H Q,t' v σ H Q->t v σ H Q):PGs X es t':=fun pins s σ H v u Q I r q=>h pins s σ H v u Q I r (hi v σ H Q q)
theorem OpR.imp{f:Value->Value->Sem Value}{r r':R2}(h:OpR X f r)(hi:∀x y H Q,r' x y H Q->r x y H Q):OpR X f r':=fun pins s σ H x y v u Q I rx ry q=>h pins s σ H x y v u Q I rx ry (hi x y H Q q)
theorem jbs.imp{f:Value}{r r':List V->Hp->VK->Prop}(h:jbs X f r)(hi:∀vs H Q,r' vs H Q->r vs H Q):jbs X f r':=fun pins s σ H xs us Q I rv q=>h pins s σ H xs us Q I rv (hi xs H Q q)
theorem IxR.imp{r r':R2}(h:IxR X r)(hi:∀x y H Q,r' x y H Q->r x y H Q):IxR X r':=fun value slice pins s σ H x y v u Q I rx ry q hs=>h value slice pins s σ H x y v u Q I rx ry (hi x y H Q q) hs
theorem MtR.imp{id:String}{r r':V->List V->Hp->VK->Prop}(h:MtR X id r)(hi:∀x vs H Q,r' x vs H Q->r x vs H Q):MtR X id r':=fun pins s σ H x xs v us Q I rx rv q=>h pins s σ H x xs v us Q I rx rv (hi x xs H Q q)
theorem PSet.imp{t t':nV}(h:PSet X t)(hi:∀o i v H Q,t' o i v H Q->t o i v H Q):PSet X t':=fun pins s σ H o i v ov iv u Q I r1 r2 r3 q=>h pins s σ H o i v ov iv u Q I r1 r2 r3 (hi o i v H Q q)
theorem SlR.imp{r r':V->Option Int->Option Int->Hp->VK->Prop}(h:SlR X r)(hi:∀x l u H Q,r' x l u H Q->r x l u H Q):SlR X r':=fun pins s σ H x v vl vu lo hi' sl Q I rx hs pl pu q=>h pins s σ H x v vl vu lo hi' sl Q I rx hs pl pu (hi x lo hi' H Q q)
def kc(i:Nat):TE:=fun σ H Q=>match σ[i]? with
 |some (some v)=>Q v H
 |_=>False
theorem qv(i:Nat){x:Str}{pos:Pos}(hN:X.N[i]? =some x:=by rfl)(hv:qp X.env.scope x:=by first|exact Or.inl rfl|exact Or.inr (Or.inl rfl)|exact Or.inr (Or.inr rfl))(hd:(x==("__debug__":Str))=false:=by decide)
  (hcd:(x==("__classdict__":Str))=false:=by decide):PE X (.Name x pos) (kc i):=(xZ hN hv hd hcd).imp fun σ H Q q=>by
 unfold kc at q
 split at q
 ·rename_i v e;exact⟨v,e,q⟩
 ·exact q.elim
def fI(g:Int->Int->V):R2:=fun x y H Q=>match x,y with
 | .int i,.int j=>Q (g i j) H
 |_,_=>False
def fIC(C:Int->Int->Prop)(g:Int->Int->V):R2:=fun x y H Q=>match x,y with
 | .int i,.int j=>C i j/\Q (g i j) H
 |_,_=>False
theorem fI.r{g:Int->Int->V}{x y:V}{H:Hp}{Q:VK}(h:fI g x y H Q):lQ g x y H Q:=by
 unfold fI at h
 split at h
 ·exact⟨_,_,rfl,rfl,h⟩
 ·exact h.elim
theorem fIC.r{C:Int->Int->Prop}{g:Int->Int->V}{x y:V}{H:Hp}{Q:VK}(h:fIC C g x y H Q):rI C g x y H Q:=by
 unfold fIC at h
 split at h
 ·exact⟨_,_,rfl,rfl,h.1,h.2⟩
 ·exact h.elim
theorem kl:OpR X (binaryOp .Add) (fI fun i j=>.int (i+j)):=DB.imp fun _ _ _ _=>fI.r
theorem ou:OpR X (binaryOp .Sub) (fI fun i j=>.int (i-j)):=Dj.imp fun _ _ _ _=>fI.r
theorem mi:OpR X (binaryOp .Mult) (fIC CMul fun i j=>.int (i*j)):=Dm.imp fun _ _ _ _=>fIC.r
theorem lB:OpR X (binaryOp .Mod) (fIC (fun _ j=>0<j) fun i j=>.int (i%j)):=Do.imp fun _ _ _ _=>fIC.r
theorem x8:OpR X (binaryOp .FloorDiv) (fIC sV fun i j=>.int (i/j)):=EC.imp fun _ _ _ _=>fIC.r
theorem tX:OpR X (binaryOp .Pow) (fIC sU fun i j=>.int (i^j.toNat)):=Dk.imp fun _ _ _ _=>fIC.r
theorem ng:OpR X (compareOp .Lt) (fI fun i j=>.bl (decide (i<j))):=Dq.imp fun _ _ _ _=>fI.r
theorem qH:OpR X (compareOp .LtE) (fI fun i j=>.bl (decide (i<=j))):=Du.imp fun _ _ _ _=>fI.r
theorem oa:OpR X (compareOp .Gt) (fI fun i j=>.bl (decide (i>j))):=Dw.imp fun _ _ _ _=>fI.r
theorem C8:OpR X (compareOp .GtE) (fI fun i j=>.bl (decide (i ≥ j))):=Dx.imp fun _ _ _ _=>fI.r
theorem rf:oX X .Add (fI fun i j=>.int (i+j)):=fun pins s σ H x y v u Q I rx ry q=>Ep pins s σ H x y v u Q I rx ry q.r
def vX:V->Hp->VK->Prop:=fun x H Q=>match x with
 | .int i=>Q (.int (-i)) H
 |_=>False
theorem oq:sN X (unaryOp .USub) vX:=fun pins s σ H x v Q I rx q=>by
 cases x<;>first
  |exact False.elim q
  |exact Cf pins s σ H _ v Q I rx ⟨_,rfl,q⟩
def wg:R2:=fun x y H Q=>match x,y with
 | .int i,.int j=>Q (.bl (decide (i=j))) H
 | .bl i,.bl j=>Q (.bl (decide (i=j))) H
 | .str i,.str j=>Q (.bl (decide (i=j))) H
 |_,_=>False
def vY:R2:=fun x y H Q=>match x,y with
 | .int i,.int j=>Q (.bl (!decide (i=j))) H
 | .bl i,.bl j=>Q (.bl (!decide (i=j))) H
 | .str i,.str j=>Q (.bl (!decide (i=j))) H
 |_,_=>False
theorem dI(i j:Int):decide (V.int i=V.int j)=decide (i=j):=by simp
theorem dB(i j:Bool):decide (V.bl i=V.bl j)=decide (i=j):=by simp
theorem dS(i j:Str):decide (V.str i=V.str j)=decide (i=j):=by simp
theorem mJ:OpR X (compareOp .Eq) wg:=Dz.imp fun x y H Q h=>by
 unfold wg at h
 split at h
 ·exact⟨rfl,by rw[dI];exact h⟩
 ·exact⟨rfl,by rw[dB];exact h⟩
 ·exact⟨rfl,by rw[dS];exact h⟩
 ·exact h.elim
theorem pe:OpR X (compareOp .NotEq) vY:=Dl.imp fun x y H Q h=>by
 unfold vY at h
 split at h
 ·exact⟨rfl,by rw[dI];exact h⟩
 ·exact⟨rfl,by rw[dB];exact h⟩
 ·exact⟨rfl,by rw[dS];exact h⟩
 ·exact h.elim
def pK:V->Bool
 | .non=>true
 |_=>false
def oS(f:Bool->Bool):R2:=fun x y H Q=>match y with
 | .non=>Q (.bl (f (pK x))) H
 |_=>False
theorem dN(x:V):decide (x=V.non)=pK x:=by cases x<;>simp[pK]
theorem C5:OpR X (compareOp .Is) (oS id):=Dv.imp fun x y H Q h=>by
 unfold oS at h
 split at h
 ·exact⟨rfl,by rw[dN];exact h⟩
 ·exact h.elim
theorem x9:OpR X (compareOp .IsNot) (oS not):=ED.imp fun x y H Q h=>by
 unfold oS at h
 split at h
 ·exact⟨rfl,by rw[dN];exact h⟩
 ·exact h.elim
def BX(ta tb:TE):TE:=fun σ H Q=>ta σ H fun x H1=>match x with
 | .bl c=>if c=true then tb σ H1 Q else Q (.bl false) H1
 |_=>False
def Jf(ta tb:TE):TE:=fun σ H Q=>ta σ H fun x H1=>match x with
 | .bl c=>if c=true then Q (.bl true) H1 else tb σ H1 Q
 |_=>False
def BR(ta:TE):TE:=fun σ H Q=>ta σ H fun x H1=>match x with
 | .bl c=>Q (.bl (!c)) H1
 |_=>False
def fB(t:TE):TT:=fun σ H Q=>t σ H fun x H1=>match x with
 | .bl c=>Q c H1
 |_=>False
variable{rest:List Expr}
theorem lV(ha:PE X a ta)(hb:PE X (.BoolOp .And (b::rest) pos) tb):PE X (.BoolOp .And (a::b::rest) pos) (BX ta tb):=by
  intro pins s σ H Q I h
  refine BoolOp_and (iK (ha pins s σ H _ I h) fun v s1 ⟨x,H1,I1,r1,q1⟩=>?_)
  cases x<;>first
    |exact False.elim q1
    | (rename_i c
       cases r1
       refine cJ ?_
       cases c with
       |true=>exact hb pins s1 σ H1 Q I1 q1
       |false=>exact⟨.bl false,H1,I1,rfl,q1⟩)
theorem xy(ha:PE X a ta):PE X (.UnaryOp .Not a pos) (BR ta):=by
  intro pins s σ H Q I h
  refine UnaryOp_ (iK (ha pins s σ H _ I h) fun v s1 ⟨x,H1,I1,r1,q1⟩=>?_)
  cases x<;>first
    |exact False.elim q1
    | (rename_i c
       cases r1
       exact not_of (cJ ⟨.bl (!c),H1,I1,rfl,q1⟩))
theorem lL {t:TE} (h:PE X e t) (he:∀ whole,isTrue e X.env whole = (do let v <- whole; standAt e.pos; holding [v] (truthy v)):=by intro _; rfl):PT X e (fB t):=by
  intro pins s σ H Q I hw
  refine isTrue_plain (iK (h pins s σ H _ I hw) fun v s1 ⟨x,H1,I1,r1,q1⟩=>?_) (he _)
  cases x<;>first
    |exact False.elim q1
    | (cases r1
       exact cJ ⟨H1,I1,q1⟩)
theorem jF{op:CmpOp}{r:R2}(ho:OpR X (compareOp op) r)(ha:PE X a ta)(hb:PE X b tb)(hm:behindInMarks op b=false):PT X (.Compare a [op] [b] pos) (fB (nc r ta tb)):=by
  intro pins s σ H Q I h
  refine wpAny_isTrue_Compare1 (iK (ha pins s σ H _ I h) fun v s1 ⟨x,H1,I1,r1,q1⟩=>iK (hb pins s1 σ H1 _ I1 q1) fun u s2 ⟨y,H2,I2,r2,q2⟩=>
    iK (ho pins s2 σ H2 x y v u _ I2 r1 r2 q2) fun c s3 ⟨z,H3,I3,r3,q3⟩=>?_) hm
  cases z<;>first
    |exact False.elim q3
    | (cases r3
       exact cJ ⟨H3,I3,q3⟩)
theorem mj{op:CmpOp}{t:TE}(h:PC X op a b t)(h1:behindInMarks op b=false:=by first|exact zX _ (by decide) (by decide)|rfl):PT X (.Compare a [op] [b] pos) (fB t):=by
  intro pins s σ H Q I hw
  refine wpAny_isTrue_Compare1 (iK (h pins s σ H _ I hw) fun v s1 h1=>iK h1 fun u s2 h2=>iK h2 fun c s3 ⟨x,H1,I1,r1,q1⟩=>?_) h1
  cases x<;>first
    |exact False.elim q1
    | (cases r1
       exact cJ ⟨H1,I1,q1⟩)
def xQ(r r':R2)(ta tb tc:TE):TE:=fun σ H Q=>ta σ H fun x H1=>tb σ H1 fun y H2=>r x y H2 fun z H3=>match z with
 | .bl k=>(if k=true then tc σ H3 fun w' H4=>r' y w' H4 Q else Q (.bl false) H3)
 |_=>False
theorem yY{op op':CmpOp}{g:Int->Int->Bool}{r':R2}(ho:OpR X (compareOp op) (fI fun i j=>.bl (g i j)))(ho':OpR X (compareOp op') r')(ha:PE X a ta)(hb:PE X b tb)(hc:PE X c tc)
  (hm:lastMarks [op,op'] [b,c]=false:=by with_unfolding_all rfl):PE X (.Compare a [op,op'] [b,c] pos) (xQ (fI fun i j=>.bl (g i j)) r' ta tb tc):=by
 intro pins s σ H Q I h
 refine Compare_chain (iK (ha pins s σ H _ I h) fun v s1 ⟨x,H1,I1,r1,q1⟩=>chain_link (iK (hb pins s1 σ H1 _ I1 q1) fun u s2 ⟨y,H2,I2,r2,q2⟩=>
  iK (ho pins s2 σ H2 x y v u (fun z H3=>∃k,z= .bl k/\(if k=true then tc σ H3 fun w' H4=>r' y w' H4 Q else Q (.bl false) H3)) I2 r1 r2 ?_) fun d s3 ⟨z,H3,I3,r3,k,e,q3⟩=>?_)) hm
 ·dsimp only at q2
  unfold fI at q2 ⊢
  cases x<;>cases y<;>first
   |exact q2.elim
   |exact⟨_,rfl,q2⟩
 ·subst e
  cases r3
  refine cJ ?_
  cases k with
  |false=>exact ite_ff ⟨.bl false,H3,I3,rfl,q3⟩
  |true=>exact ite_tt (chain_last (iK (hc pins s3 σ H3 _ I3 q3) fun w' s4 ⟨z',H4,I4,r4,q4⟩=>ho' pins s4 σ H4 y z' u w' Q I4 r2 r4 q4))
def iW(H:Hp)(p:Addr):Option (List V):=match H p with
 |some (.lst xs)=>some xs
 |some (.tup xs)=>some xs
 |some (.frz _ (.lst xs))=>some xs
 |_=>none
theorem vf{K:PySem.W.Frag}{H:Hp}{p:Addr}{xs:List V}(h:iW H p=some xs):SqL K H p xs\/SqT K H p xs:=by
 unfold iW at h
 split at h
 ·rename_i ys e;cases h;exact .inl (.inl (.inl e))
 ·rename_i ys e;cases h;exact .inr (SqT.of e)
 ·rename_i o ys e;cases h;exact .inl (.inl (.inr ⟨_,e⟩))
 ·cases h
def wd:R2:=fun x y H Q=>match x,y with
 | .ref p,.int i=>match iW H p with
  |some xs=>match je xs i with
   |some v=>Q v H
   |none=>False
  |none=>False
 |_,_=>False
theorem iP:IxR X wd:=(yK.or IU).imp fun x y H Q h=>by
 unfold wd at h
 split at h
 ·split at h
  ·rename_i xs e
   split at h
   ·rename_i v ev
    rcases vf (K:=X.K) e with z|z
    ·exact .inl ⟨_,_,_,_,rfl,rfl,z,ev,h⟩
    ·exact .inr ⟨_,_,_,_,rfl,rfl,z,ev,h⟩
   ·exact h.elim
  ·exact h.elim
 ·exact h.elim
def sy:List V->Hp->VK->Prop:=fun vs H Q=>match vs with
 |[.ref p]=>match iW H p with
  |some xs=>Q (.int xs.length) H
  |none=>False
 |_=>False
theorem kY:jbs X (.builtin "len") sy:=vK.imp fun vs H Q h=>by
 unfold sy at h
 split at h
 ·split at h
  ·rename_i xs e;exact⟨_,xs,rfl,vf e,h⟩
  ·exact h.elim
 ·exact h.elim
def uF:List V->Hp->VK->Prop:=fun vs H Q=>match vs with
 |[.ref p]=>match iW H p with
  |some xs=>∀l,H l=none->Q (.ref l) (upd H l (.lst xs))
  |none=>False
 |_=>False
theorem Ac:jbs X (.type "list") uF:=HY.imp fun vs H Q h=>by
 unfold uF at h
 split at h
 ·split at h
  ·rename_i xs e;exact⟨_,xs,rfl,vf e,h⟩
  ·exact h.elim
 ·exact h.elim
def vZ:List V->Hp->VK->Prop:=fun vs H Q=>match vs with
 |[.int i,.int j]=>Q (.int (if j<i then j else i)) H
 |_=>False
theorem tW(hc:X.calm=true):jbs X (.builtin "min") vZ:=(FX hc).imp fun vs H Q h=>by
 unfold vZ at h
 split at h
 ·exact⟨_,_,rfl,h⟩
 ·exact h.elim
def vW:V->Option Int->Option Int->Hp->VK->Prop:=fun x lo hi H Q=>match x with
 | .ref a=>match H a with
  |some (.lst xs)=>∀p,H p=none->Q (.ref p) (upd H p (.lst (kn xs lo hi)))
  |_=>False
 |_=>False
theorem qQ:SlR X vW:=ET.imp fun x l u H Q h=>by
 unfold vW at h
 split at h
 ·split at h
  ·rename_i xs e;exact⟨_,xs,rfl,SqL.of e,h⟩
  ·exact h.elim
 ·exact h.elim
def uE:V->List V->Hp->VK->Prop:=fun x vs H Q=>match x,vs with
 | .ref l,[y]=>match H l with
  |some (.lst xs)=>xs.length<sizeLine/\Q .non (upd H l (.lst (xs++[y])))
  |_=>False
 |_,_=>False
theorem kH:MtR X "list.append" uE:=MtR.imp (r:=yZ) (fun pins s σ H x xs v us Q I rx rv q=>AG pins s σ H x xs v us Q I rx rv q) fun x vs H Q h=>by
 unfold uE at h
 split at h
 ·split at h
  ·rename_i xs e;exact⟨_,xs,_,rfl,rfl,e,h.1,h.2⟩
  ·exact h.elim
 ·exact h.elim
def BW(r:V->List V->Hp->VK->Prop)(to:TE)(t:TA):TE:=fun σ H Q=>to σ H fun x H1=>(∃a xs,x= .ref a/\H1 a=some (.lst xs))/\t σ H1 fun xs H2=>r x xs H2 Q
def tN:nV:=fun o i v H Q=>match o,i with
 | .ref p,.int k=>match H p with
  |some (.lst xs)=>match ky xs.length k with
   |some j=>Q (upd H p (.lst (xs.set j v)))
   |none=>False
  |_=>False
 |_,_=>False
theorem oy:PSet X tN:=FN.imp fun o i v H Q h=>by
 unfold tN at h
 split at h
 ·split at h
  ·rename_i xs e
   split at h
   ·rename_i j ej;exact⟨_,xs,_,j,rfl,rfl,e,ej,h⟩
   ·exact h.elim
  ·exact h.elim
 ·exact h.elim
def oh:kU:=fun vs σ H Q=>match vs with
 |[]=>Q σ H
 |_=>False
def ow(t:TG)(u:kU):kU:=fun vs σ H Q=>match vs with
 |v::r=>t v σ H fun σ' H'=>u r σ' H' Q
 |[]=>False
theorem kF:PGs X [] oh:=EJ.imp fun v σ H Q h=>by
 unfold oh at h
 split at h
 ·exact⟨rfl,h⟩
 ·exact h.elim
theorem js{t:TG}{u:kU}(h1:PG X e t)(h2:PGs X es u)(hs:(assignEach (e::es) X.env).map (·.2)=assign e X.env::(assignEach es X.env).map (·.2):=by rfl):PGs X (e::es) (ow t u):=(FD h1 h2 hs).imp fun v σ H Q h=>by
 unfold ow at h
 split at h
 ·exact⟨_,_,rfl,h⟩
 ·exact h.elim
def oi(n:Nat)(t:kU):TG:=fun v σ H Q=>match v with
 | .ref a=>match H a with
  |some (.tup xs)=>xs.length=n/\t xs σ H Q
  |_=>False
 |_=>False
theorem kE{k:Nat}{t:kU}{n:Nat}(hc:X.calm=true)(h:PGs X es t)(hn:(assignEach es X.env).length=n:=by rfl)(hst:(assignEach es X.env).findIdx? (·.1)=none:=by rfl):PG X (.Tuple es k pos) (oi n t):=
 (Dg hc h hn hst).imp fun v σ H Q q=>by
  unfold oi at q
  split at q
  ·split at q
   ·rename_i xs e;exact⟨_,xs,rfl,SqT.of e,q.1,q.2⟩
   ·exact q.elim
  ·exact q.elim
def wj(f:Bool->Bool)(ty td:TE):TE:=fun σ H Q=>ty σ H fun y H1=>td σ H1 fun x H2=>match y,x with
 | .int n,.ref a=>match H2 a with
  |some (.dK kvs)=>Q (.bl (f (jb kvs (Sum.inl n:iE)).isSome)) H2
  |_=>False
 |_,_=>False
def BU(td ty:TE):TE:=fun σ H Q=>td σ H fun x H1=>ty σ H1 fun y H2=>match x,y with
 | .ref a,.int n=>match H2 a with
  |some (.dK kvs)=>match jb kvs (Sum.inl n:iE)with
   |some v=>Q v H2
   |none=>False
  |_=>False
 |_,_=>False
end
section
variable{X:Cx}{o i:Expr}{td ty:TE}{pos:Pos}
theorem xR{f:Bool->Bool}{H2:Hp}{Q:VK}{y x:V}(h:(match y,x with
  | .int n,.ref a=>match H2 a with
    |some (.dK kvs)=>Q (.bl (f (jb kvs (Sum.inl n:iE)).isSome)) H2
    |_=>False
  |_,_=>False)):∃a ov,x= .ref a/\DGet H2 a y ov/\Q (.bl (f ov.isSome)) H2:=by
  cases y<;>cases x<;>first
    |exact h.elim
    | (rename_i n a
       dsimp only at h
       split at h
       · rename_i kvs e;exact⟨a,_,rfl,DGet.k (k:=Sum.inl n) e,h⟩
       · exact h.elim)
theorem mO(hu:X.A.units+1<cLine)(hi:PE X i ty)(ho:PE X o td):PC X .In i o (wj id ty td):=by
 intro pins s σ H Q I h
 refine iK (hi pins s σ H _ I h) fun iv s1 ⟨y,H1,I1,ry,q1⟩=>iK (ho pins s1 σ H1 _ I1 q1) fun u s2 ⟨x,H2,I2,rx,q2⟩=>?_
 obtain⟨a,ov,ex,g,q3⟩:=xR q2
 subst ex
 obtain rfl:u=Value.ref a:=rx
 exact Jr hu I2 g ry fun s' I3=>⟨.bl ov.isSome,H2,I3,rfl,q3⟩
theorem qe(hu:X.A.units+1<cLine)(hi:PE X i ty)(ho:PE X o td):PC X .NotIn i o (wj not ty td):=by
 intro pins s σ H Q I h
 refine iK (hi pins s σ H _ I h) fun iv s1 ⟨y,H1,I1,ry,q1⟩=>iK (ho pins s1 σ H1 _ I1 q1) fun u s2 ⟨x,H2,I2,rx,q2⟩=>?_
 obtain⟨a,ov,ex,g,q3⟩:=xR q2
 subst ex
 obtain rfl:u=Value.ref a:=rx
 exact Ed hu I2 g ry fun s' I3=>⟨.bl (!ov.isSome),H2,I3,rfl,q3⟩
theorem kP (hu:X.A.units+1<cLine)(ho:PE X o td)(hi:PE X i ty)(hs:wB i):PE X (.Subscript o i pos) (BU td ty):=by
  intro pins s σ H Q I h
  refine zk PySem.F.slot_dict_getitem.lookup hs (iK (ho pins s σ H _ I h) fun u s1 ⟨x,H1,I1,rx,q1⟩=>iK (hi pins s1 σ H1 _ I1 q1) fun iv s2 ⟨y,H2,I2,ry,q2⟩=>?_)
  cases x <;>cases y<;>first
    |exact False.elim q2
    | (dsimp only at q2
       split at q2
       · rename_i kvs e
         split at q2
         · rename_i v ev
           cases rx
           have g:∀{a:Addr} {n:Int},H2 a=some (.dK kvs)->jb kvs (Sum.inl n:iE)=some v->DGet H2 a (.int n) (some v):=fun e1 e2=>e2▸DGet.k (k:=Sum.inl _) e1
           have g:=g e ev
           exact⟨Bo I2 g,Aw hu I2 g ry fun w' s3 I3 rw'=>⟨v,H2,I3,rw',q2⟩⟩
         · exact q2.elim
       · exact q2.elim)
theorem ko{e:Expr}{es:List Expr}{to:TE}{t:TA}{name:Str}{apos cpos:Pos}{id:String}{r:V->List V->Hp->VK->Prop}(pa:PlainAttrs "list")(slot:Slot "list" name id)(hty:typeOf (.builtin id)=pure (.type "method_descriptor"))(hm:MtR X id r)(ho:PE X o to)(ha:PA X (e::es) t)
  (hbase:attributeBase o name X.env (eval o X.env)=eval o X.env:=by rfl)
  (hfew:((backTo cpos (starEach (e::es) X.env)).all (fun x=>!x.1)&&(backToKw cpos (keywordEach [] X.env)).all (fun x=>x.1.isSome)
   &&decide ((e::es).length+([]:List Keyword).length+(if([]:List Keyword).isEmpty then 0 else 1)<30))=true:=by rfl)
  (hline:(apos.endLine==cpos.line)=true:=by rfl) (hs:starEach (e::es) X.env=(false,eval e X.env)::starEach es X.env:=by rfl) (hplain:(backTo cpos (starEach es X.env)).any (·.1)=false:=by rfl):
  PE X (.Call (.Attribute o name apos) (e::es) [] cpos) (BW r to t):=by
 intro pins s σ H Q I h
 refine wpAny_Call_method_late hbase hfew hline rfl (iK (ho pins s σ H _ I h) fun v s1 ⟨x,H1,I1,r1,⟨a,xs,ex,ea⟩,q1⟩=>?_)
 subst ex
 obtain⟨h1,h2⟩:=yp (T:="list") I1 r1 (.inl ⟨rfl,_,SqL.of ea⟩)
 refine⟨"list",id,pa,slot,hty,h1,h2,?_⟩
 have hA:=ha cpos pins s1 σ H1 _ I1 q1
 rw[hs]at hA ⊢
 refine dr (by show(false||(backTo cpos (starEach es X.env)).any (·.1))=false;rw[hplain]<;>rfl) (gz ?_)
 exact iK hA fun us s2 ⟨vs,H2,I2,r2,q2⟩=>hm pins s2 σ H2 _ vs v us Q I2 r1 r2 q2
end
inductive Kd where
 |non|bl|int|str|lst|tup|dct
 deriving DecidableEq
def Kd.nm:Kd->String
 | .non=>"NoneType"
 | .bl=>"bool"
 | .int=>"int"
 | .str=>"str"
 | .lst=>"list"
 | .tup=>"tuple"
 | .dct=>"dict"
def kd(H:Hp)(v:V):Option Kd:=match v with
 | .non=>some .non
 | .bl _=>some .bl
 | .int _=>some .int
 | .str _=>some .str
 | .ref a=>match H a with
  |some (.lst _)=>some .lst
  |some (.tup _)=>some .tup
  |some (.dK _)=>some .dct
  |_=>none
 |_=>none
def mV(a b:Kd):Bool:=match a,b with
 | .bl,.int=>true
 | .non,.non=>true
 | .bl,.bl=>true
 | .int,.int=>true
 | .str,.str=>true
 | .lst,.lst=>true
 | .tup,.tup=>true
 | .dct,.dct=>true
 |_,_=>false
theorem DZ{H:Hp}{v:V}{k:Kd}(h:kd H v=some k):Knd H v k.nm:=by
 unfold kd at h
 split at h
 ·cases h;exact .non
 ·cases h;exact .bl
 ·cases h;exact .int
 ·cases h;exact .str
 ·split at h
  ·rename_i e;cases h;exact .lst e
  ·rename_i e;cases h;exact .tup e
  ·rename_i e;cases h;exact .dK e
  ·cases h
 ·cases h
theorem IY(a b:Kd):vR a.nm b.nm=mV a b:=by cases a<;>cases b<;>rfl
theorem Kd.mem(b:Kd):b.nm∈mf:=by cases b<;>simp[mf,Kd.nm]
def we(T:Kd):List V->Hp->VK->Prop:=fun vs H Q=>match vs with
 |[x,y]=>y= .ty T.nm/\match kd H x with
  |some k=>Q (.bl (mV k T)) H
  |none=>False
 |_=>False
theorem mP{X:Cx}(T:Kd):jbs X (.builtin "isinstance") (we T):=E9.imp fun vs H Q h=>by
 unfold we at h
 split at h
 ·obtain⟨rfl,h⟩:=h
  split at h
  ·rename_i k e
   exact⟨_,_,_,rfl,DZ e,Kd.mem T,by rw[IY];exact h⟩
  ·exact h.elim
 ·exact h.elim
def wo(i:Nat)(te:TE)(ti:mF):TS:=fun D σ H=>match σ[i]? with
 |some (some x)=>te σ H fun y H1=>ti x y H1 fun z H2=>D.nx (σ.set i (some z)) H2
 |_=>False
theorem rg{X:Cx}{pos:Pos}{i:Nat}{x:Str}{e:Expr}{te:TE}{op:Operator}{ti:mF}{pos':Pos}(hN:X.N.Nodup)(hi:X.N[i]? =some x)(hx:Loc X.env.scope x)(he:PE X e te)(ho:oX X op ti)(hf:X.fn x=true\/X.env.scope.names.lookup x=some .local:=by first|exact .inl rfl|exact .inr rfl|assumption):
  PS X (.AugAssign (.Name x pos') op e pos) (wo i te ti):=fun pins s σ H D I h=>Dc hN hi hx he ho hf pins s σ H D I (by
 unfold wo at h
 split at h
 ·rename_i x e;exact⟨x,e,h⟩
 ·exact h.elim)
def BQ(t:TE):TO:=fun σ H Q=>t σ H fun x H1=>match x with
 | .int i=>Q (some i) H1
 |_=>False
theorem oJ{X:Cx}{e:Expr}{te:TE}(h:PE X e te):PO X (some e) (BQ te):=by
  intro pins s σ H Q I hw
  rw[evalPart_some]
  refine iK (h pins s σ H _ I hw) fun u s1 ⟨x,H1,I1,r1,q1⟩=>?_
  cases x<;>first
    |exact False.elim q1
    | (obtain⟨t,rfl⟩:=r1
       exact⟨some _,H1,I1,.int _ t,q1⟩)
def Jl(f:List Bool->Bool):List V->Hp->VK->Prop:=fun vs H Q=>match vs with
 |[.ref l]=>match H l with
  |some (.lst xs)=>∃bs:List Bool,xs=bs.map V.bl/\Q (.bl (f bs)) H
  |_=>False
 |_=>False
def uh:List V->Hp->VK->Prop:=fun vs H Q=>match vs with
 |[.ref l]=>match H l with
  |some (.lst xs)=>∃kvs:List (iE×V),Paired (PairAt H) xs kvs/\xs.length<=1000/\(kvs.map (·.1)).Nodup/\∀d,H d=none->Q (.ref d) (upd H d (.dK kvs))
  |_=>False
 |_=>False
theorem rG{X:Cx}(hc:X.calm=true):jbs X (.type "dict") uh:=(GP hc).imp fun vs H Q h=>by
 unfold uh at h
 split at h
 ·split at h
  ·rename_i xs e
   obtain⟨kvs,h1,h2,h3,h4⟩:=h
   exact⟨_,xs,kvs,rfl,e,h1,h2,h3,h4⟩
  ·exact h.elim
 ·exact h.elim
def wc:R2:=fun x y H Q=>match x,y with
 | .ref a,.ref b=>match H a,H b with
  |some (.tup [.int i,.int j]),some (.tup [.int k,.int l])=>Q (.bl (HT.lexLt [i,j] [k,l])) H
  |_,_=>False
 |_,_=>False
theorem C4{X:Cx}(hu:X.A.units<cLine):OpR X (compareOp .Lt) wc:=(Dp hu).imp fun x y H Q h=>by
 unfold wc at h
 split at h
 ·split at h
  ·rename_i a b _ _ i j k l e1 e2
   exact⟨a,b,[i,j],[k,l],rfl,rfl,SqT.of e1,SqT.of e2,h⟩
  ·exact h.elim
 ·exact h.elim
def qk(XN:List Str)(names:List (Str×NameKind)):List Str->List (Option Nat)->Bool
 |[],[]=>true
 |x::N,none::r=>qk XN names N r
 |x::N,some j::r=>(XN[j]? ==some x)&&(names.lookup x==some .free)&&qk XN names N r
 |_,_=>false
theorem uD{XN:List Str}{names:List (Str×NameKind)}:∀{N:List Str} {src:List (Option Nat)},qk XN names N src=true->src.length=N.length/\∀(i j:Nat),src[i]? =some (some j)->XN[j]? =N[i]?/\(N[i]?).elim False (fun x=>names.lookup x=some .free)
 |[],[],_=>⟨rfl,fun i j e=>by simp at e⟩
 |x::N,none::r,h=>by
  obtain⟨h1,h2⟩:=uD (N:=N) (src:=r) h
  refine⟨by simp[h1],fun i j e=>?_⟩
  cases i with
  |zero=>simp at e
  |succ i=>exact h2 i j (by simpa using e)
 | x::N,some k::r,h=>by
  have h':((XN[k]? ==some x)&&(names.lookup x==some .free)&&qk XN names N r)=true:=h
  rw[cR,cR]at h'
  obtain⟨h1,h2⟩:=uD (N:=N) (src:=r) h'.2
  refine⟨by simp[h1],fun i j e=>?_⟩
  cases i with
  |zero=>
   have e':k=j:=by simpa using e
   subst e'
   exact⟨by simpa using h'.1.1,by simpa using h'.1.2⟩
  |succ i=>exact h2 i j (by simpa using e)
def qX:List Str->Bool
 |[]=>true
 |x::r=>!(r.contains x)&&qX r
theorem j5:∀{l:List Str},qX l=true->l.Nodup
 |[],_=>eK
 |x::r,h=>by
  have h':(!(r.contains x)&&qX r)=true:=h
  rw[cR]at h'
  exact bB.mpr ⟨by simpa using h'.1,j5 h'.2⟩
def B1(XN:List Str)(outer:List (Str×NameKind))(scope:Scope)(N:List Str)(src:List (Option Nat)):Bool:=
 (scope.kind== .function)&&scope.names.all (fun y=>y.2 != .cell)&&scope.names.all (fun y=>y.2 != .local||scope.names.lookup y.1==some .local)&&
  scope.names.all (fun y=>y.2 != .free||(scope.names.lookup y.1==some .free&&outer.lookup y.1==some .cell))&&qX N&&qk XN scope.names N src
theorem CpScope.of{X:Cx}{scope:Scope}{N:List Str}{src:List (Option Nat)}(h:B1 X.N X.env.scope.names scope N src=true):CpScope X scope N src:=by
 unfold B1 at h
 simp only[cR]at h
 obtain⟨⟨⟨⟨⟨h1,h2⟩,h3⟩,h4⟩,h5⟩,h6⟩:=h
 rw[List.all_eq_true]at h2 h3 h4
 obtain⟨l,c⟩:=uD h6
 refine⟨by simpa using h1,fun y hy=>by simpa using h2 y hy,fun y hy e=>?_,fun y hy e=>?_,j5 h5,l,c⟩
 ·have:=h3 y hy
  rw[e]at this
  simpa using this
 ·have:=h4 y hy
  rw[e]at this
  simpa using this
theorem zK{K:PySem.W.Frag}{a:Addr}{xs:List V}{g:TG}{tb:TS}{D:Ends}{σ:St}{H:Hp}(Pv:Nat->St->Hp->Prop)(h0:Pv 0 σ H)(hl:∀i σ H,i<=xs.length->Pv i σ H->SqL K H a xs)
  (hs:∀i x σ H t,xs[i]? =some x->Pv i σ H->H t=none->g (.ref t) σ (upd H t (.tup [.int i,x])) fun σ2 H2=>tb {D with nx:=Pv (i+1),ct:=Pv (i+1),bk:=D.nx} σ2 H2) (hd:∀σ H,Pv xs.length σ H->D.nx σ H):
  ∃W:Nat->Nat->St->Hp->Prop,(∃m,W 0 m σ H)/\∀i m σ H,W i m σ H->
   ((oY K a).stop i H/\D.nx σ H)\/((oY K a).go i H/\∃N:St->Hp->Prop,(∀σ' H',N σ' H'->∃m',m'<m/\W (i+1) m' σ' H')/\∀x H',(oY K a).yld i H x H'->g x σ H' fun σ2 H2=>tb {D with nx:=N,ct:=N,bk:=D.nx} σ2 H2):=by
 refine⟨fun i m σ H=>m=xs.length-i/\i<=xs.length/\Pv i σ H,⟨xs.length,by simp,bI _,h0⟩,?_⟩
 rintro i m σ H ⟨rfl,hi,p⟩
 have q:=hl i σ H hi p
 by_cases hlt:i<xs.length
 ·refine .inr ⟨⟨xs,xs[i],q,by simp[hlt]⟩,Pv (i+1),fun σ' H' p'=>⟨xs.length-(i+1),by lia,rfl,hlt,p'⟩,fun x H' y=>?_⟩
  obtain⟨t,z,ht,e1,e2,y⟩:=y
  subst e1 e2
  exact hs i z σ _ t (y xs q) p ht
 ·have e:i=xs.length:=by lia
  subst e
  exact .inl ⟨⟨xs,q,av _⟩,hd σ H p⟩
theorem ku{wi:TI}{g:TG}{tb:TS}{D:Ends}{σ:St}{H:Hp}(J:It)(H1:Hp)(h1:∀R:It->Hp->Prop,R J H1->wi σ H R)
  (h2:∃W:Nat->Nat->St->Hp->Prop,(∃m,W 0 m σ H1)/\∀i m σ H,W i m σ H->(J.stop i H/\D.nx σ H)\/(J.go i H/\∃N:St->Hp->Prop,(∀σ' H',N σ' H'->∃m',m'<m/\W (i+1) m' σ' H')/\∀x H',J.yld i H x H'->g x σ H' fun σ2 H2=>tb {D with nx:=N,ct:=N,bk:=D.nx} σ2 H2)):
  qC wi g tb D σ H:=h1 _ h2
theorem kR{src:List (Option Nat)}{wi:TI}{g:TG}{tc:TT}{te:TE}{Q:VK}{σ:St}{H:Hp}(J:It)(H1:Hp)(h1:∀R:It->Hp->Prop,R J H1->wi σ H R)(h2:∀l,H1 l=none->pC J src g tc te Q σ H1 l):qS src wi g tc te σ H Q:=h1 _ h2
theorem iL{H:Hp}{p:Addr}(h:H p=none)(o:HO):Same H (upd H p o):=fun b u q=>by rw[iJ (iU q h)];exact q
theorem jt{H H':Hp}{p:Addr}{o:HO}(s:Same H H')(h:H p=none):Same H (upd H' p o):=fun b u q=>by rw[iJ (iU q h)];exact s b u q
def Pr(H:Hp)(v:V)(p:Int×Int):Prop:=∃t,v= .ref t/\H t=some (.tup [.int p.1,.int p.2])
theorem Pr.same{H H':Hp}{v:V}{p:Int×Int}(h:Pr H v p)(s:Same H H'):Pr H' v p:=let⟨t,e,q⟩:=h;⟨t,e,s _ _ q⟩
def tQ:HO->Bool
 | .tup _=>true
 | .frz _ _=>true
 |_=>false
def TupS(H H':Hp):Prop:=∀b o,tQ o=true->H b=some o->H' b=some o
theorem Same.tups{H H':Hp}(s:Same H H'):TupS H H':=fun b o _ q=>s b _ q
theorem TupS.trans{H H1 H2:Hp}(a:TupS H H1)(b:TupS H1 H2):TupS H H2:=fun c o i q=>b c o i (a c o i q)
theorem l0{H:Hp}{l:Addr}{xs ys:List V}(h:H l=some (.lst xs)):TupS H (upd H l (.lst ys)):=fun b o i q=>by
 have:b≠l:=fun z=>by rw[z,h]at q;cases q;cases i
 rw[iJ this]
 exact q
theorem Pr.tups{H H':Hp}{v:V}{p:Int×Int}(h:Pr H v p)(s:TupS H H'):Pr H' v p:=let⟨t,e,q⟩:=h;⟨t,e,s _ _ rfl q⟩
def Scr(K:PySem.W.Frag)(H:Hp)(a:Addr)(ns:List Int):Prop:=
 (∃o,H a=some (.frz o (.lst (ns.map V.int))))\/∃(o:Obj) (its:Array Value) (n:Nat),K.lookup a=some o/\o.cls= .type "list"/\o.dict=none/\o.data= .seq its n/\its.size<=sizeLine/\Vals (ns.map V.int) its.toList
theorem Scr.sq{K:PySem.W.Frag}{H:Hp}{a:Addr}{ns:List Int}(h:Scr K H a ns):SqL K H a (ns.map V.int):=h.elim (fun⟨o,q⟩=>.inl (.inr ⟨o,q⟩)) .inr
theorem Scr.of{K:PySem.W.Frag}{H:Hp}{a:Addr}{ns:List Int}(h:SqL K H a (ns.map V.int))(o:sS H):Scr K H a ns:=by
 rcases h with(h|⟨ob,h⟩)|h
 ·rcases o a with z|⟨ob,xs,z⟩
  ·rw[h]at z;cases z
  ·rw[h]at z;cases z
 ·exact .inl ⟨ob,h⟩
 ·exact .inr h
theorem Scr.tups{K:PySem.W.Frag}{H H':Hp}{a:Addr}{ns:List Int}(h:Scr K H a ns)(s:TupS H H'):Scr K H' a ns:=h.elim (fun⟨o,q⟩=>.inl ⟨o,s _ _ rfl q⟩) .inr
abbrev Prs(H:Hp):List V->List (Int×Int)->Prop:=Paired (Pr H)
theorem Prs.tups{H H':Hp}(s:TupS H H'){xs:List V}{ps:List (Int×Int)}(h:Prs H xs ps):Prs H' xs ps:=Paired.mapP h fun _ _ q=>q.tups s
theorem Prs.same{H H':Hp}(s:Same H H'){xs:List V}{ps:List (Int×Int)}(h:Prs H xs ps):Prs H' xs ps:=Prs.tups s.tups h
theorem kI{α β:Type}{F:α->β->Prop}:∀{xs:List α} {ys:List β} {i:Nat} {x:α},Paired F xs ys->xs[i]? =some x->∃y,ys[i]? =some y/\F x y
 |_,_,_,_,.nil,e=>by simp at e
 |_,_,0,_,.cons r _,e=>by simp at e;subst e;exact⟨_,rfl,r⟩
 |_,_,i+1,y,.cons _ t,e=>by
  obtain⟨u,h1,h2⟩:=kI (i:=i) t (by simpa using e)
  exact⟨u,by simpa using h1,h2⟩
theorem lO{α β:Type}{F:α->β->Prop}:∀{xs:List α} {ys:List β} {i:Nat} {y:β},Paired F xs ys->ys[i]? =some y->∃x,xs[i]? =some x/\F x y
 |_,_,_,_,.nil,e=>by simp at e
 |_,_,0,_,.cons r _,e=>by simp at e;subst e;exact⟨_,rfl,r⟩
 |_,_,i+1,y,.cons _ t,e=>by
  obtain⟨u,h1,h2⟩:=lO (i:=i) t (by simpa using e)
  exact⟨u,by simpa using h1,h2⟩
theorem lN{α β:Type}{F:α->β->Prop}{a:α}{b:β}{l₁:List α}{l₂:List β}(h:Paired F l₁ l₂)(r:F a b):Paired F (l₁++[a]) (l₂++[b]):=Paired.snoc h r
theorem zH{α:Type}{l:List α}{i:Nat}{x:α}(h:l[i]? =some x):l.drop i=x::l.drop (i+1):=by
 obtain⟨h1,h2⟩:=ag.mp h
 rw[List.drop_eq_getElem_cons h1,h2]
theorem jM{α:Type}{l:List α}{i:Nat}{x:α}(h:l[i]? =some x):l.take (i+1)=l.take i++[x]:=by
 obtain⟨h1,h2⟩:=ag.mp h
 rw[List.take_succ,h]
 rfl
inductive Dt where
 |non
 |bl (b:Bool)
 |int (i:Int)
 |str (x:Str)
 |tup (ds:List Dt)
 |lst (ds:List Dt)
mutual
def Rep(H:Hp):Dt->V->Prop
 | .non,v=>v= .non
 | .bl b,v=>v= .bl b
 | .int i,v=>v= .int i
 | .str x,v=>v= .str x
 | .tup ds,v=>∃a vs,v= .ref a/\H a=some (.tup vs)/\Reps H ds vs
 | .lst ds,v=>∃a vs,v= .ref a/\H a=some (.lst vs)/\Reps H ds vs
def Reps(H:Hp):List Dt->List V->Prop
 |[],vs=>vs=[]
 |d::ds,vs=>∃v r,vs=v::r/\Rep H d v/\Reps H ds r
end
mutual
theorem Rep.same{H H':Hp}(s:Same H H'):∀(d:Dt) {v:V},Rep H d v->Rep H' d v
 | .non,_,h=>by rw[Rep]at*;exact h
 | .bl _,_,h=>by rw[Rep]at*;exact h
 | .int _,_,h=>by rw[Rep]at*;exact h
 | .str _,_,h=>by rw[Rep]at*;exact h
 | .tup ds,_,h=>by
  rw[Rep]at*
  obtain⟨a,vs,e,q,r⟩:=h
  exact⟨a,vs,e,s _ _ q,Reps.same s ds r⟩
 | .lst ds,_,h=>by
  rw[Rep]at*
  obtain⟨a,vs,e,q,r⟩:=h
  exact⟨a,vs,e,s _ _ q,Reps.same s ds r⟩
theorem Reps.same{H H':Hp}(s:Same H H'):∀(ds:List Dt) {vs:List V},Reps H ds vs->Reps H' ds vs
 |[],_,h=>by rw[Reps]at*;exact h
 |d::ds,_,h=>by
  rw[Reps]at*
  obtain⟨v,r,e,h1,h2⟩:=h
  exact⟨v,r,e,Rep.same s d h1,Reps.same s ds h2⟩
end
theorem Reps.len{H:Hp}:∀{ds:List Dt} {vs:List V},Reps H ds vs->vs.length=ds.length
 |[],_,h=>by rw[Reps]at h;subst h;rfl
 |d::ds,_,h=>by
  rw[Reps]at h
  obtain⟨v,r,e,h1,h2⟩:=h
  rw[e,List.length_cons,List.length_cons,Reps.len h2]
theorem Reps.at{H:Hp}:∀{ds:List Dt} {vs:List V} {i:Nat} {v:V},Reps H ds vs->vs[i]? =some v->∃d,ds[i]? =some d/\Rep H d v
 |[],_,i,v,h,e=>by rw[Reps]at h;rw[h]at e;simp at e
 | d::ds,_,i,v,h,e=>by
  rw[Reps]at h
  obtain⟨w,r,e1,h1,h2⟩:=h
  subst e1
  cases i with
  |zero=>simp at e;subst e;exact⟨d,rfl,h1⟩
  |succ i=>
   obtain⟨d',q1,q2⟩:=Reps.at h2 (i:=i) (by simpa using e)
   exact⟨d',by simpa using q1,q2⟩
def j9(p:Int×Int):Dt:=.tup [.int p.1,.int p.2]
theorem Pr.rep{H:Hp}{v:V}{p:Int×Int}(h:Pr H v p):Rep H (j9 p) v:=by
 obtain⟨t,e,q⟩:=h
 rw[j9,Rep]
 refine⟨t,_,e,q,?_⟩
 rw[Reps]
 refine⟨_,_,rfl,(by rw[Rep]),?_⟩
 rw[Reps]
 exact⟨_,_,rfl,(by rw[Rep]),(by rw[Reps])⟩
theorem Prs.reps{H:Hp}:∀{xs:List V} {ps:List (Int×Int)},Prs H xs ps->Reps H (ps.map j9) xs
 |_,_,.nil=>by rw[cq,Reps]
 |_,_,.cons r t=>by rw[aq,Reps];exact⟨_,_,rfl,r.rep,Prs.reps t⟩
theorem vw{H:Hp}:∀(ns:List Int),Reps H (ns.map Dt.int) (ns.map V.int)
 |[]=>by rw[cq,Reps,cq]
 |n::r=>by rw[aq,Reps,aq];exact⟨_,_,rfl,(by rw[Rep]),vw r⟩
def wb:List V->Hp->VK->Prop:=fun vs H Q=>match vs with
 |[.int i,.int j]=>Q (.int (if i<j then j else i)) H
 |_=>False
theorem xA{X:Cx}(hc:X.calm=true):jbs X (.builtin "max") wb:=(FW hc).imp fun vs H Q h=>by
 unfold wb at h
 split at h
 ·refine⟨_,_,rfl,?_⟩
  first|exact h|(rename_i i j;by_cases c:i<j<;>simp_all)
 ·exact h.elim
def Jh(neg:Bool):R2:=fun x y H Q=>match y with
 | .ref p=>match iW H p with
  |some xs=>pG x=true/\xs.all pG=true/\Q (.bl (if neg=true then !BI x xs else BI x xs)) H
  |none=>False
 |_=>False
def CJ:List V->Hp->VK->Prop:=fun vs H Q=>∃(p:Addr) (ns:List Int),vs=[.ref p]/\H p=some (.lst (ns.map V.int))/\ns.length<64/\
 ∀(l:Addr) (ms:List Int),H l=none->ms.Perm ns->ms.Pairwise (·<=·)->Q (.ref l) (upd H l (.lst (ms.map V.int)))
theorem sh{X:Cx}:jbs X (.builtin "sorted") CJ:=by
 intro pins s σ H xs us Q I r h
 obtain⟨p,ns,rfl,e,h64,q⟩:=h
 obtain⟨u,rfl,rx⟩:=kZ r
 cases rx
 obtain⟨its,r',pl,hz⟩:=I.list (SqL.of e)
 have hI:=my r'
 have hlen:=r'.length
 rw[ae]at hlen
 refine sorted_ints pl.isList hI (by lia) fun out ms a1 a2 a3=>?_
 obtain⟨c,hc⟩:=sortedAll_at s.heap its out
 have hml:=a2.length_eq
 have hz2:=nE
 refine⟨.ref (s.heap.objs.size+1),_,I.laid (t':=s.toks) (fun _ _=>sortedAll_old) (c5 _) (show jbf X.prog X.w _ _ _ (.lst (ms.map V.int))from⟨?_,out.toList,c,sg a1,?_⟩),rfl,q _ ms (I.hok.fresh (c5 _)) a2 a3⟩
 ·rw[ae,hml];exact bz (fk h64) (by decide)
 ·rw[hc]
theorem AB{P:Program}{w:World}:∀{kvs:List (iE×V)} {vs:List (iE×Value)} {ns:List Int},KV kvs vs->kvs.map (·.1)=ns.map Sum.inl->∀{us:List Value},us.length=vs.length->(∀(j:Nat) (v:Value),us[j]? =some v->∃k x,vs[j]? =some (k,x)/\(jR P w).is k v=true)->IntsAre us ns
 | [],_,ns,.nil,hk,us,hl,_=>by
  cases ns with
  |nil=>cases us with
   |nil=>exact .nil
   |cons _ _=>simp at hl
  |cons _ _=>simp at hk
 | kv::kvs,_,ns,.cons (b:=b) r t,hk,us,hl,hv=>by
  cases ns with
  |nil=>simp at hk
  | cons n ns=>
   cases us with
   |nil=>simp at hl
   | cons u us=>
    rw[aq,aq]at hk
    injection hk with hk1 hk2
    obtain⟨k,x,e1,e2⟩:=hv 0 u rfl
    simp only[List.getElem?_cons_zero,cS]at e1
    have hkn:k = Sum.inl n:=by rw [<- hk1,r.1,e1]
    rw[hkn]at e2
    rcases lM (show mL (Sum.inl n) u=true from e2)with⟨i,t',ei,ev⟩|⟨y,t',ei,ev⟩
    ·cases ei
     rw[ev]
     refine .cons n t' (AB (P:=P) (w:=w) t hk2 (by simpa using hl) fun j v hj=>?_)
     obtain⟨k',x',z1,z2⟩:=hv (j+1) v (by simpa using hj)
     exact⟨k',x',by simpa using z1,z2⟩
    ·cases ei
def CK:List V->Hp->VK->Prop:=fun vs H Q=>∃(p:Addr) (kvs:List (iE×V)) (ns:List Int),vs=[.ref p]/\H p=some (.dK kvs)/\kvs.map (·.1)=ns.map Sum.inl/\ns.length<64/\
 ∀(l:Addr) (ms:List Int),H l=none->ms.Perm ns->ms.Pairwise (·<=·)->Q (.ref l) (upd H l (.lst (ms.map V.int)))
theorem AY{X:Cx}(hc:X.calm=true):jbs X (.builtin "sorted") CK:=by
 intro pins s σ H xs us Q I r h
 obtain⟨p,kvs,ns,rfl,e,hk,h64,q⟩:=h
 obtain⟨u,rfl,rx⟩:=kZ r
 cases rx
 obtain⟨z,lo,vs',rel,dd⟩:=nj I.hok e
 obtain⟨ep,hat⟩:=dd.dictAt
 have hkl:=rel.length
 refine Calls.call_function_entry kind_sorted plain_sorted entry_sorted (args_sorted1 _) ?_
 unfold Builtin.«sorted»
 refine aa (m:=checkCount "sorted" 1 1 _) (ak ?_)
 refine aa (PySem.W.kdu_collect (PySem.W.kdl_dict (knd:=jR X.prog X.w) (kvs:=vs') (ep:=ep) lo) (I.ok.hd hc) hat (by lia) fun h' tk acc hkp hacc=>?_)
 have hl:acc.toList.length=vs'.length:=by rw[Array.length_toList];exact hacc.1
 have hI:IntsAre acc.toList ns:=AB rel hk hl fun j v ej=>hacc.2 j v (by rw [<- cO]; exact ej)
 have hnl:ns.length=kvs.length:=by
  have:=bY List.length hk
  simpa using this.symm
 refine aa (dO ?_ (by lia))
 have hoL:(h'.push (seqObj "list" acc.toList.toArray 0)).get? h'.objs.size=some (seqObj "list" acc.toList.toArray 0):=aF _ rfl
 show wpAny _ _ _ _ _ {s with heap:=h'.push (seqObj "list" acc.toList.toArray 0),toks:=tk}
 refine aa (cg (da slot_list_sort ⟨_,hoL,rfl⟩ entry_list_sort (list_sort_tree hoL hI (by lia) fun out ms a1 a2 a3=>⟨_,rfl,?_⟩) (args_list_sort _)))
 refine ak ⟨_,rfl,?_⟩
 have hlt:∀b o,h'.get? b=some o->b<h'.objs.size:=fun b o eb=>aE eb
 have kp:∀b o,h'.get? b=some o->(sortedHeap (h'.push (seqObj "list" acc.toList.toArray 0)) h'.objs.size acc.toList out).get? b=some o:=fun b o eb=>by
  rw[sortedHeap_old (aU (hlt b o eb)) (by rw[eS];exact cD (hlt b o eb)),Heap.get?_push_ne _ _ _ (aU (hlt b o eb))]
  exact eb
 obtain⟨c,hcc⟩:=sortedHeap_at (out:=out) hoL
 have hml:=a2.length_eq
 have I1:Inv X pins σ H {s with heap:=h',toks:=tk}:=I.kept hkp
 refine⟨.ref h'.objs.size,_,I1.laid (t':=tk) kp (av _) (show jbf X.prog X.w _ _ _ (.lst (ms.map V.int))from⟨?_,out.toList,c,sg a1,?_⟩),rfl,q _ ms (I1.hok.fresh (av _)) a2 a3⟩
 ·rw[ae,hml];exact bz (fk h64) (by decide)
 ·rw[hcc]
mutual
def jc:Dt->Dt->Bool
 | .non,.non=>true
 | .bl a,.bl b=>a==b
 | .bl a,.int b=>(if a then 1 else 0)==b
 | .int a,.bl b=>a==(if b then 1 else 0)
 | .int a,.int b=>a==b
 | .str a,.str b=>a==b
 | .tup a,.tup b=>kK a b
 | .lst a,.lst b=>kK a b
 |_,_=>false
def kK:List Dt->List Dt->Bool
 |[],[]=>true
 |a::r,b::t=>jc a b&&kK r t
 |_,_=>false
end
mutual
def ke:Dt->Nat
 | .tup a=>jI a+1
 | .lst a=>jI a+1
 |_=>0
def jI:List Dt->Nat
 |[]=>0
 |a::r=>max (ke a) (jI r)
end
def ll(a b:List Dt)(j:Nat):Bool:=match a[j]?,b[j]? with
 |some x,some y=>jc x y
 |_,_=>false
theorem oN:∀{a b:List Dt},a.length≠b.length->kK a b=false
 |[],[],h=>absurd rfl h
 |[],_::_,_=>by simp[kK]
 |_::_,[],_=>by simp[kK]
 |x::a,y::b,h=>by
  rw[kK,oN (by simpa using h),fv]
theorem GB:∀(n:Nat) (f:Nat->Bool),(List.range (n+1)).all f=(f 0&&(List.range n).all fun j=>f (j+1)):=fun n f=>by
 rw[List.range_succ_eq_map,List.all_cons,List.all_map]
 rfl
theorem oR:∀{a b:List Dt},a.length=b.length->kK a b=(List.range a.length).all (ll a b)
 |[],[],_=>by rw[kK];rfl
 |[],_::_,h=>by simp at h
 |_::_,[],h=>by simp at h
 |x::a,y::b,h=>by
  rw[kK,oR (a:=a) (b:=b) (by simpa using h),List.length_cons,GB]
  rfl
theorem rO:∀{a:List Dt} {j:Nat} {d:Dt},a[j]? =some d->ke d<=jI a
 |[],_,_,h=>by simp at h
 |x::a,0,d,h=>by
  simp at h;subst h
  rw[jI];lia
 |x::a,j+1,d,h=>by
  have:=rO (a:=a) (j:=j) (by simpa using h)
  rw[jI];lia
def j8:Dt->Option V
 | .non=>some .non
 | .bl b=>some (.bl b)
 | .int i=>some (.int i)
 | .str x=>some (.str x)
 |_=>none
theorem Fg{d e:Dt}{x y:V}(hd:j8 d=some x)(he:j8 e=some y):jc d e=sH x y:=by
 cases d<;>cases e<;>simp only[j8,cS,reduceCtorEq]at hd he<;>subst hd<;>subst he<;>simp[jc,sH]
theorem vd{H:Hp}{d:Dt}{x v:V}(hd:j8 d=some x)(h:Rep H d v):v=x/\pG x=true:=by
 cases d<;>simp only[j8,cS,reduceCtorEq]at hd<;>subst hd<;>rw[Rep]at h<;>exact⟨h,rfl⟩
section
variable{X:Cx}{pins:List (Addr×Obj)}{σ:St}{H:Hp}{s:Shared}
theorem Inv.tupE(I:Inv X pins σ H s){a:Addr}{vs:List V}(e:H a=some (.tup vs)):∃its:List Value,Vals vs its/\s.heap.IsTuple a its.toArray:=by
 obtain⟨its,r,p,_⟩:=I.tuple (SqT.of e)
 exact⟨its,r,p⟩
theorem Inv.lstE(I:Inv X pins σ H s){a:Addr}{vs:List V}(e:H a=some (.lst vs)):∃its:List Value,Vals vs its/\s.heap.IsList a its.toArray:=by
 obtain⟨its,r,p,_⟩:=I.list (SqL.of e)
 exact⟨its,r,p.isList⟩
mutual
theorem nN:∀d:Dt,jc d d=true
 | .non=>by simp[jc]
 | .bl _=>by simp[jc]
 | .int _=>by simp[jc]
 | .str _=>by simp[jc]
 | .tup a=>by rw[jc];exact vt a
 | .lst a=>by rw[jc];exact vt a
theorem vt:∀a:List Dt,kK a a=true
 |[]=>by rw[kK]
 |d::r=>by rw[kK,nN d,vt r];rfl
end
mutual
theorem Rep.inj{H:Hp}:∀{d e:Dt} {v:V},Rep H d v->Rep H e v->d=e
 | .non,e,v,h1,h2=>by rw[Rep]at h1;subst h1;cases e<;>simp[Rep]at h2 ⊢
 | .bl _,e,v,h1,h2=>by rw[Rep]at h1;subst h1;cases e<;>simp[Rep]at h2 ⊢;exact h2
 | .int _,e,v,h1,h2=>by rw[Rep]at h1;subst h1;cases e<;>simp[Rep]at h2 ⊢;exact h2
 | .str _,e,v,h1,h2=>by rw[Rep]at h1;subst h1;cases e<;>simp[Rep]at h2 ⊢;exact h2
 | .tup ds,e,v,h1,h2=>by
  rw[Rep]at h1
  obtain⟨a,vs,rfl,q,r⟩:=h1
  cases e with
  |tup es=>
   rw[Rep]at h2
   obtain⟨a',vs',e',q',r'⟩:=h2
   cases e'
   rw[q]at q';cases q'
   rw[Reps.inj r r']
  |lst es=>
   rw[Rep]at h2
   obtain⟨a',vs',e',q',r'⟩:=h2
   cases e'
   rw[q]at q';cases q'
  |non=>rw[Rep]at h2;cases h2
  |bl _=>rw[Rep]at h2;cases h2
  |int _=>rw[Rep]at h2;cases h2
  |str _=>rw[Rep]at h2;cases h2
 | .lst ds,e,v,h1,h2=>by
  rw[Rep]at h1
  obtain⟨a,vs,rfl,q,r⟩:=h1
  cases e with
  |lst es=>
   rw[Rep]at h2
   obtain⟨a',vs',e',q',r'⟩:=h2
   cases e'
   rw[q]at q';cases q'
   rw[Reps.inj r r']
  |tup es=>
   rw[Rep]at h2
   obtain⟨a',vs',e',q',r'⟩:=h2
   cases e'
   rw[q]at q';cases q'
  |non=>rw[Rep]at h2;cases h2
  |bl _=>rw[Rep]at h2;cases h2
  |int _=>rw[Rep]at h2;cases h2
  |str _=>rw[Rep]at h2;cases h2
theorem Reps.inj{H:Hp}:∀{ds es:List Dt} {vs:List V},Reps H ds vs->Reps H es vs->ds=es
 |[],es,vs,h1,h2=>by
  rw[Reps]at h1;subst h1
  cases es with
  |nil=>rfl
  |cons e es=>rw[Reps]at h2;obtain⟨_,_,z,_⟩:=h2;cases z
 | d::ds,es,vs,h1,h2=>by
  rw[Reps]at h1
  obtain⟨v,r,rfl,q1,q2⟩:=h1
  cases es with
  |nil=>rw[Reps]at h2;cases h2
  |cons e es=>
   rw[Reps]at h2
   obtain⟨v',r',z,p1,p2⟩:=h2
   cases z
   rw[Rep.inj q1 p1,Reps.inj q2 p2]
end
theorem Bx{d e:Dt}(hd:j8 d=none){y:V}(he:j8 e=some y):jc d e=false/\jc e d=false:=by
 cases d<;>cases e<;>simp only[j8,cS,reduceCtorEq]at hd he<;>simp[jc]
theorem xP:∀(n:Nat) {A:Around} (I:Inv X pins σ H s) {d e:Dt} {x y:V} {u v:Value},ke d<=n->A.units+n<cLine->Rep H d x->Rep H e y->RelV x u->RelV y v->SeqAt.EqAt A s u v (jc d e):=by
 intro n
 induction n with
 | zero=>
  intro A I d e x y u v hn hu rd re rx ry
  have hf:∃z,j8 d=some z:=by
   cases d<;>simp only[ke,j8]at hn ⊢ <;>first|exact⟨_,rfl⟩|lia
  obtain⟨z,hz⟩:=hf
  obtain⟨rfl,fz⟩:=vd hz rd
  cases he:j8 e with
  |some y'=>
   obtain⟨rfl,fy⟩:=vd he re
   rw[Fg hz he]
   exact Jq rx ry fz fy
  | none=>
   rw[(Bx he hz).2]
   have hu0:A.units<cLine:=by lia
   cases e<;>simp only[j8,reduceCtorEq]at he
   ·rw[Rep]at re
    obtain⟨a,vs,rfl,q,_⟩:=re
    cases ry
    obtain⟨its,_,p⟩:=I.tupE q
    cases d<;>simp only[j8,cS,reduceCtorEq]at hz<;>subst hz
    ·cases rx;exact SeqAt.EqAt.none_tuple p hu0
    ·cases rx;exact SeqAt.EqAt.bool_tuple _ p hu0
    ·obtain⟨t,rfl⟩:=rx;exact SeqAt.EqAt.int_tuple _ _ p hu0
    ·obtain⟨t,rfl⟩:=rx;exact SeqAt.EqAt.str_tuple _ _ p hu0
   ·rw[Rep]at re
    obtain⟨a,vs,rfl,q,_⟩:=re
    cases ry
    obtain⟨its,_,p⟩:=I.lstE q
    cases d<;>simp only[j8,cS,reduceCtorEq]at hz<;>subst hz
    ·cases rx;exact SeqAt.EqAt.none_list p hu0
    ·cases rx;exact SeqAt.EqAt.bool_list _ p hu0
    ·obtain⟨t,rfl⟩:=rx;exact SeqAt.EqAt.int_list _ _ p hu0
    ·obtain⟨t,rfl⟩:=rx;exact SeqAt.EqAt.str_list _ _ p hu0
 | succ n ih=>
  intro A I d e x y u v hn hu rd re rx ry
  have hu0:A.units<cLine:=by lia
  have items:∀{ds es:List Dt} {vs ws:List V} {its its2:List Value},jI ds<=n->Reps H ds vs->Reps H es ws->Vals vs its->Vals ws its2->
    ∀j (h1:j<its.toArray.size) (h2:j<its2.toArray.size),SeqAt.EqAt A.in1 s its.toArray[j] its2.toArray[j] (ll ds es j):=by
   intro ds es vs ws its its2 hdp r1 r2 w1 w2 j h1 h2
   rw[aj]at h1 h2
   have l1:=w1.length
   have l2:=w2.length
   obtain⟨u',e1,q1⟩:=w1.get (i:=j) (x:=vs[j]'(by lia)) (gE _)
   obtain⟨v',e2,q2⟩:=w2.get (i:=j) (x:=ws[j]'(by lia)) (gE _)
   obtain⟨d',f1,g1⟩:=r1.at (i:=j) (gE (by lia))
   obtain⟨e',f2,g2⟩:=r2.at (i:=j) (gE (by lia))
   rw[gE h1]at e1
   rw[gE h2]at e2
   cases e1;cases e2
   have hj:ll ds es j=jc d' e':=by unfold ll;rw[f1,f2]
   rw[hj]
   have:=rO f1
   exact ih (A:=A.in1) I (by lia) (by show A.units+1+n<cLine;lia) g1 g2 q1 q2
  cases hf:j8 d with
  |some z=>
   refine ih I ?_ (by lia) rd re rx ry
   cases d<;>simp only[j8,reduceCtorEq]at hf<;>simp[ke]
  | none =>
   cases he:j8 e with
   | some y'=>
    rw[(Bx hf he).1]
    obtain⟨rfl,fy⟩:=vd he re
    cases d<;>simp only[j8,reduceCtorEq]at hf
    ·rw[Rep]at rd
     obtain⟨a,vs,rfl,q,_⟩:=rd
     cases rx
     obtain⟨its,_,p⟩:=I.tupE q
     cases e<;>simp only[j8,cS,reduceCtorEq]at he<;>subst he
     ·cases ry;exact SeqAt.EqAt.tuple_none p hu0
     ·cases ry;exact SeqAt.EqAt.tuple_bool _ p hu0
     ·obtain⟨t,rfl⟩:=ry;exact SeqAt.EqAt.tuple_int _ _ p hu0
     ·obtain⟨t,rfl⟩:=ry;exact SeqAt.EqAt.tuple_str _ _ p hu0
    ·rw[Rep]at rd
     obtain⟨a,vs,rfl,q,_⟩:=rd
     cases rx
     obtain⟨its,_,p⟩:=I.lstE q
     cases e<;>simp only[j8,cS,reduceCtorEq]at he<;>subst he
     ·cases ry;exact SeqAt.EqAt.list_none p hu0
     ·cases ry;exact SeqAt.EqAt.list_bool _ p hu0
     ·obtain⟨t,rfl⟩:=ry;exact SeqAt.EqAt.list_int _ _ p hu0
     ·obtain⟨t,rfl⟩:=ry;exact SeqAt.EqAt.list_str _ _ p hu0
   | none=>
    cases d<;>simp only[j8,reduceCtorEq]at hf<;>cases e<;>simp only[j8,reduceCtorEq]at he
    ·rename_i ds es
     have hn':jI ds<=n:=by rw[ke]at hn;lia
     have rd0:=rd
     have re0:=re
     rw[Rep]at rd
     rw[Rep]at re
     obtain⟨a,vs,rfl,q,r1⟩:=rd
     obtain⟨b,ws,rfl,q2,r2⟩:=re
     cases rx;cases ry
     by_cases hab:a=b
     ·subst hab
      rw[Rep.inj rd0 re0,nN]
      exact ic _
     ·obtain⟨its,w1,p1⟩:=I.tupE q
      obtain⟨its2,w2,p2⟩:=I.tupE q2
      have k:=SeqAt.RcAt.tuples p1 p2 hu0 (items hn' r1 r2 w1 w2)
      have e0:((List.range (min its.toArray.size its2.toArray.size)).all (ll ds es)&&its.toArray.size==its2.toArray.size)=jc (.tup ds) (.tup es):=by
       have l1:=w1.length
       have l2:=w2.length
       have l3:=r1.len
       have l4:=r2.len
       rw[jc,aj,aj]
       by_cases hl:ds.length=es.length
       ·rw [oR hl,<- l1,<- l2,l3,l4,hl,Nat.min_self]
        simp
       ·rw[oN hl]
        have:(its.length==its2.length)=false:=by
         rw[bU];lia
        rw[this,fv]
      rw[e0]at k
      exact .of_refs hab k
    ·rename_i ds es
     rw[Rep]at rd
     rw[Rep]at re
     obtain⟨a,vs,rfl,q,r1⟩:=rd
     obtain⟨b,ws,rfl,q2,r2⟩:=re
     cases rx;cases ry
     obtain⟨its,w1,p1⟩:=I.tupE q
     obtain⟨its2,w2,p2⟩:=I.lstE q2
     have:jc (.tup ds) (.lst es)=false:=by simp[jc]
     rw[this]
     exact SeqAt.EqAt.tuple_list p1 p2 hu0
    ·rename_i ds es
     rw[Rep]at rd
     rw[Rep]at re
     obtain⟨a,vs,rfl,q,r1⟩:=rd
     obtain⟨b,ws,rfl,q2,r2⟩:=re
     cases rx;cases ry
     obtain⟨its,w1,p1⟩:=I.lstE q
     obtain⟨its2,w2,p2⟩:=I.tupE q2
     have:jc (.lst ds) (.tup es)=false:=by simp[jc]
     rw[this]
     exact SeqAt.EqAt.list_tuple p1 p2 hu0
    ·rename_i ds es
     have hn':jI ds<=n:=by rw[ke]at hn;lia
     have rd0:=rd
     have re0:=re
     rw[Rep]at rd
     rw[Rep]at re
     obtain⟨a,vs,rfl,q,r1⟩:=rd
     obtain⟨b,ws,rfl,q2,r2⟩:=re
     cases rx;cases ry
     by_cases hab:a=b
     ·subst hab
      rw[Rep.inj rd0 re0,nN]
      exact ic _
     ·obtain⟨its,w1,p1⟩:=I.lstE q
      obtain⟨its2,w2,p2⟩:=I.lstE q2
      have l1:=w1.length
      have l2:=w2.length
      have l3:=r1.len
      have l4:=r2.len
      refine .of_refs hab ?_
      rw[jc]
      by_cases hl:ds.length=es.length
      ·rw[oR hl]
       have k:=SeqAt.RcAt.lists p1 p2 (by rw[aj,aj];lia) hu0 (items hn' r1 r2 w1 w2)
       rw [aj,<- l1,l3] at k
       exact k
      ·rw[oN hl]
       exact SeqAt.RcAt.lists_lengths p1 p2 (by rw[aj,aj];simp;lia) hu0
end
section
variable{prog:Program}{w:World}{A:Around}{R:Result->Shared->Prop}{I:Addr}{fp wr:List Addr}{n:Nat}{P:Nat->Value->Prop}{St:Nat->Heap->Prop}
def Best(val:Nat->Int)(n:Nat)(m:Int):Prop:=(∃i,i<n/\m=val i)/\∀i,i<n->val i<=m
theorem Best.keep{val:Nat->Int}{j:Nat}{m:Int}(h:Best val j m)(hb:¬val j>m):Best val (j+1) m:=
 ⟨let⟨i,hi,e⟩:=h.1;⟨i,cD hi,e⟩,fun i hi=>by
  rcases c6.mp hi with z|z
  ·exact h.2 i z
  ·rw[z];lia⟩
end
section
variable{X:Cx}
def xb(r:List V->List V->Hp->VK->Prop)(t tk:TA):TE:=fun σ H Q=>t σ H fun vs H1=>tk σ H1 fun zs H2=>r vs zs H2 Q
theorem Gs{x k:Str}{p kp pos:Pos}{e g:Expr}{t tk:TA}{id:String}{r:List V->List V->Hp->VK->Prop}
  (hcall:∀(pins:List (Addr×Obj)) (s:Shared) (σ:St) (H:Hp) (xs zs:List V) (us ws:List Value) (Q:VK),Inv X pins σ H s->Vals xs us->Vals zs ws->r xs zs H Q->
   wpAny (model X.prog X.w) X.A (call (.builtin id) us ([k].zip ws)) (EP X pins σ Q) X.xe s)
  (hg:Gl X x) (hm:X.mg x=none) (hv:bootBuiltins x=some (.builtin id)) (ha:PA X [e] t) (hk:PK X [⟨some k,g,kp⟩] tk) (hn:x≠"__name__":=by decide) (hdb:(x==("__debug__":Str))=false:=by decide)
  (he:backTo pos (starEach [e] X.env)=(false,eval e X.env)::backTo pos (starEach [] X.env):=by rfl) (hpl:(backTo pos (starEach [e] X.env)).any (·.1)=false:=by rfl):PE X (.Call (.Name x p) [e] [⟨some k,g,kp⟩] pos) (xb r t tk):=by
 intro pins s σ H Q I h
 refine cP (lJ I hg hm hv ?_ hn hdb)
 refine callWith_kw (iK (ha pos pins s σ H _ I h) fun us s1 ⟨vs,H1,I1,r1,q1⟩=>iK (hk pos pins s1 σ H1 _ I1 q1) fun ws s2 ⟨zs,H2,I2,r2,q2⟩=>?_) he hpl
 exact hcall pins s2 σ H2 vs zs us ws Q I2 r1 r2 q2
end
section
variable{X:Cx}{pins:List (Addr×Obj)}{σ:St}{H:Hp}{s:Shared}
theorem rD(n:Nat){A:Around}(I:Inv X pins σ H s){ds es:List Dt}{vs ws:List V}{its its2:List Value}(hdp:jI ds<=n)(hu:A.units+n<cLine)(r1:Reps H ds vs)(r2:Reps H es ws)(w1:Vals vs its)(w2:Vals ws its2):
  ∀j (h1:j<its.toArray.size) (h2:j<its2.toArray.size),SeqAt.EqAt A s its.toArray[j] its2.toArray[j] (ll ds es j):=by
 intro j h1 h2
 rw[aj]at h1 h2
 have l1:=w1.length
 have l2:=w2.length
 obtain⟨u',e1,q1⟩:=w1.get (i:=j) (x:=vs[j]'(by lia)) (gE _)
 obtain⟨v',e2,q2⟩:=w2.get (i:=j) (x:=ws[j]'(by lia)) (gE _)
 obtain⟨d',f1,g1⟩:=r1.at (i:=j) (gE (by lia))
 obtain⟨e',f2,g2⟩:=r2.at (i:=j) (gE (by lia))
 rw[gE h1]at e1
 rw[gE h2]at e2
 cases e1;cases e2
 have hj:ll ds es j=jc d' e':=by unfold ll;rw[f1,f2]
 rw[hj]
 have:=rO f1
 exact xP n I (by lia) hu g1 g2 q1 q2
theorem Bj{ds es:List Dt}{vs ws:List V}{its its2:List Value}(r1:Reps H ds vs)(r2:Reps H es ws)(w1:Vals vs its)(w2:Vals ws its2):
  ((List.range (min its.toArray.size its2.toArray.size)).all (ll ds es)&&its.toArray.size==its2.toArray.size)=kK ds es:=by
 have l1:=w1.length
 have l2:=w2.length
 have l3:=r1.len
 have l4:=r2.len
 rw[aj,aj]
 by_cases hl:ds.length=es.length
 ·rw [oR hl,<- l1,<- l2,l3,l4,hl,Nat.min_self]
  simp
 ·rw[oN hl]
  have:(its.length==its2.length)=false:=by
   rw[bU];lia
  rw[this,fv]
def xu(neg:Bool):R2:=fun x y H Q=>∃d e,Rep H d x/\Rep H e y/\ke d<=20/\((∃ds es,d= .lst ds/\e= .lst es)\/∃ds es,d= .tup ds/\e= .tup es)/\Q (.bl (if neg=true then !jc d e else jc d e)) H
theorem Dy(hu:X.A.units+64<cLine):OpR X (compareOp .Eq) (xu false):=by
 intro pins s σ H x y v u Q I rx ry h
 obtain⟨d,e,rd,re,hd,hk,q⟩:=h
 have hu0:X.A.units<cLine:=by lia
 rcases hk with⟨ds,es,rfl,rfl⟩|⟨ds,es,rfl,rfl⟩
 ·have hn':jI ds<=20:=by rw[ke]at hd;lia
  rw[Rep]at rd re
  obtain⟨a,vs,rfl,q1,r1⟩:=rd
  obtain⟨b,ws,rfl,q2,r2⟩:=re
  cases rx;cases ry
  obtain⟨its,w1,p1⟩:=I.lstE q1
  obtain⟨its2,w2,p2⟩:=I.lstE q2
  have l1:=w1.length
  have l2:=w2.length
  have l3:=r1.len
  have l4:=r2.len
  by_cases hl:ds.length=es.length
  ·refine SeqAt.RcAt.lists (e:=ll ds es) p1 p2 (by rw[aj,aj];lia) hu0 (rD 20 I hn' (by show X.A.units+1+20<cLine;lia) r1 r2 w1 w2) _ _ _ _ ⟨.bl _,H,I,rfl,?_⟩
   rw [aj,<- l1,l3,<- oR hl]
   rw[jc]at q
   exact q
  ·refine SeqAt.RcAt.lists_lengths p1 p2 (by rw[aj,aj];simp;lia) hu0 _ _ _ _ ⟨.bl _,H,I,rfl,?_⟩
   rw[jc,oN hl]at q
   exact q
 ·have hn':jI ds<=20:=by rw[ke]at hd;lia
  rw[Rep]at rd re
  obtain⟨a,vs,rfl,q1,r1⟩:=rd
  obtain⟨b,ws,rfl,q2,r2⟩:=re
  cases rx;cases ry
  obtain⟨its,w1,p1⟩:=I.tupE q1
  obtain⟨its2,w2,p2⟩:=I.tupE q2
  refine SeqAt.RcAt.tuples (e:=ll ds es) p1 p2 hu0 (rD 20 I hn' (by show X.A.units+1+20<cLine;lia) r1 r2 w1 w2) _ _ _ _ ⟨.bl _,H,I,rfl,?_⟩
  rw[Bj r1 r2 w1 w2]
  rw[jc]at q
  exact q
theorem qY(hu:X.A.units+64<cLine):OpR X (compareOp .NotEq) (xu true):=by
 intro pins s σ H x y v u Q I rx ry h
 obtain⟨d,e,rd,re,hd,hk,q⟩:=h
 have hu0:X.A.units<cLine:=by lia
 rcases hk with⟨ds,es,rfl,rfl⟩|⟨ds,es,rfl,rfl⟩
 ·have hn':jI ds<=20:=by rw[ke]at hd;lia
  rw[Rep]at rd re
  obtain⟨a,vs,rfl,q1,r1⟩:=rd
  obtain⟨b,ws,rfl,q2,r2⟩:=re
  cases rx;cases ry
  obtain⟨its,w1,p1⟩:=I.lstE q1
  obtain⟨its2,w2,p2⟩:=I.lstE q2
  have l1:=w1.length
  have l2:=w2.length
  have l3:=r1.len
  have l4:=r2.len
  by_cases hl:ds.length=es.length
  ·refine SeqAt.RcNeAt.lists (e:=ll ds es) p1 p2 (by rw[aj,aj];lia) hu0 (rD 20 I hn' (by show X.A.units+1+20<cLine;lia) r1 r2 w1 w2) _ _ _ _ ⟨.bl _,H,I,rfl,?_⟩
   rw [aj,<- l1,l3,<- oR hl]
   rw[jc]at q
   exact q
  ·refine SeqAt.RcNeAt.lists_lengths p1 p2 (by rw[aj,aj];simp;lia) hu0 _ _ _ _ ⟨.bl _,H,I,rfl,?_⟩
   rw[jc,oN hl]at q
   exact q
 ·have hn':jI ds<=20:=by rw[ke]at hd;lia
  rw[Rep]at rd re
  obtain⟨a,vs,rfl,q1,r1⟩:=rd
  obtain⟨b,ws,rfl,q2,r2⟩:=re
  cases rx;cases ry
  obtain⟨its,w1,p1⟩:=I.tupE q1
  obtain⟨its2,w2,p2⟩:=I.tupE q2
  refine SeqAt.RcNeAt.tuples (e:=ll ds es) p1 p2 hu0 (rD 20 I hn' (by show X.A.units+1+20<cLine;lia) r1 r2 w1 w2) _ _ _ _ ⟨.bl _,H,I,rfl,?_⟩
  rw[Bj r1 r2 w1 w2]
  rw[jc]at q
  exact q
theorem RelV.inj'{x y:V}{u:Value}(h1:RelV x u)(h2:RelV y u):x=y:=aO (h1.abs.symm.trans h2.abs)
open Classical in
def mB(H:Hp)(d:Dt)(u:Value):Bool:=if h:∃c,∃x,RelV x u/\Rep H c x then jc h.choose d else false
theorem ue{H:Hp}{d c:Dt}{x:V}{u:Value}(r:RelV x u)(p:Rep H c x):mB H d u=jc c d:=by
 unfold mB
 have h:∃c,∃x,RelV x u/\Rep H c x:=⟨c,x,r,p⟩
 rw[dif_pos h]
 obtain⟨y,r2,p2⟩:=h.choose_spec
 have:=RelV.inj' r r2
 subst this
 rw[Rep.inj p2 p]
theorem yu{H:Hp}{d:Dt}:∀{cs:List Dt} {xs:List V} {us:List Value},Reps H cs xs->Vals xs us->us.any (mB H d)=cs.any fun c=>jc c d
 |[],_,_,h,r=>by
  rw[Reps]at h;subst h
  cases r
  rfl
 |c::cs,_,_,h,r=>by
  rw[Reps]at h
  obtain⟨v,t,rfl,h1,h2⟩:=h
  cases r with
  |cons r1 r2=>rw[List.any_cons,List.any_cons,ue r1 h1,yu h2 r2]
def CY(neg:Bool):R2:=fun x y H Q=>∃(d:Dt) (p:Addr) (xs:List V) (cs:List Dt),Rep H d x/\y= .ref p/\H p=some (.lst xs)/\Reps H cs xs/\jI cs<=20/\Q (.bl (if neg=true then !cs.any (fun c=>jc c d)else cs.any fun c=>jc c d)) H
theorem zM(hu:X.A.units+64<cLine)(I:Inv X pins σ H s){d:Dt}{x:V}{v:Value}{cs:List Dt}{xs:List V}{its:List Value}(rd:Rep H d x)(rx:RelV x v)(rc:Reps H cs xs)(r:Vals xs its)(hd:jI cs<=20):
  ∀y,y∈its.toArray->SeqAt.EqAt X.A.in1 s y v (mB H d y):=by
 intro y hy
 have hy':y∈its:=by simpa using hy
 obtain⟨j,hj,e⟩:=aS.mp hy'
 have l1:=r.length
 obtain⟨u',e1,q1⟩:=r.get (i:=j) (x:=xs[j]'(by lia)) (gE _)
 obtain⟨c,f1,g1⟩:=rc.at (i:=j) (gE (by lia))
 rw[gE hj]at e1
 cases e1
 rw [<- e,ue q1 g1]
 have:=rO f1
 exact xP 20 I (by lia) (by show X.A.units+1+20<cLine;lia) g1 rd q1 rx
theorem Gq(hu:X.A.units+64<cLine):OpR X (compareOp .NotIn) (CY true):=by
 intro pins s σ H x y v u Q I rx ry h
 obtain⟨d,p,xs,cs,rd,rfl,e,rc,hd,q⟩:=h
 cases ry
 obtain⟨its,r,pl⟩:=I.lstE e
 refine SeqAt.notIn_listAt (mB H d) pl (zM hu I rd rx rc r hd) ⟨.bl _,H,I,rfl,?_⟩
 rw[show its.toArray.any (mB H d)=its.any (mB H d) by simp,yu rc r]
 exact q
end
section
variable{X:Cx}{o i e f value:Expr}{td ty tv tx:TE}{pos pos' apos cpos:Pos}
def yb(td ty tv:TE):TS:=fun D σ H=>tv σ H fun v H1=>td σ H1 fun x H2=>ty σ H2 fun y H3=>match x,y with
 | .ref a,.int n=>match H3 a with
  |some (.dK kvs)=>kvs.length<sizeLine/\D.nx σ (upd H3 a (.dK (jC kvs (Sum.inl n:iE) v)))
  |_=>False
 |_,_=>False
theorem Jv{x y:V}{H3:Hp}{R:List (iE×V)->Addr->Int->Prop}(h:match x,y with
 | .ref a,.int n=>match H3 a with
  |some (.dK kvs)=>R kvs a n
  |_=>False
 |_,_=>False):∃a n kvs,x= .ref a/\y= .int n/\H3 a=some (.dK kvs)/\R kvs a n:=by
 split at h
 ·split at h
  ·rename_i e;exact⟨_,_,_,rfl,rfl,e,h⟩
  ·exact h.elim
 ·exact h.elim
theorem nH(hu:X.A.units+1<cLine)(ho:PE X o td)(hi:PE X i ty)(hv:PE X value tv)(hs:swapsWith value (some (.Subscript o i pos')) pos.line X.env=pure false:=by rfl):
  PS X (.Assign [.Subscript o i pos'] value pos) (yb td ty tv):=by
 intro pins s σ H D I h
 refine wpAny_Assign_Subscript (iK (hv pins s σ H _ I h) fun r s1 ⟨v,H1,I1,rv,q1⟩=>iK (ho pins s1 σ H1 _ I1 q1) fun u s2 ⟨x,H2,I2,rx,q2⟩=>iK (hi pins s2 σ H2 _ I2 q2) fun iv s3 ⟨y,H3,I3,ry,q3⟩=>?_) hs
 obtain⟨a,n,kvs,rfl,rfl,ea,q4,q5⟩:=Jv (R:=fun kvs a n=>kvs.length<sizeLine/\D.nx σ (upd H3 a (.dK (jC kvs (Sum.inl n:iE) v)))) q3
 obtain rfl:u=Value.ref a:=rx
 exact F4 hu I3 (DPut.k (k:=Sum.inl n) ea q4) ry rv fun s4 I4=>⟨σ,_,I4,q5⟩
def Jj(td ty tx:TE):TE:=fun σ H Q=>td σ H fun x H1=>match x with
 | .ref a=>(∃kvs,H1 a=some (.dK kvs))/\ty σ H1 fun y H2=>tx σ H2 fun z H3=>match y with
  | .int n=>match H3 a with
   |some (.dK kvs)=>Q ((jb kvs (Sum.inl n:iE)).getD z) H3
   |_=>False
  |_=>False
 |_=>False
def wm:R2:=fun x y H Q=>match x,y with
 | .ref l,.ref b=>match H l,H b with
  |some (.lst xs),some (.lst zs)=>xs.length+zs.length<=sizeLine/\∀p,H p=none->Q (.ref p) (upd H p (.lst (xs++zs)))
  |_,_=>False
 |_,_=>False
theorem tV:OpR X (binaryOp .Add) wm:=DA.imp fun x y H Q h=>by
 unfold wm at h
 split at h
 ·split at h
  ·rename_i e1 e2;exact⟨_,_,_,_,rfl,rfl,e1,e2,h.1,h.2⟩
  ·exact h.elim
 ·exact h.elim
def Jk:V->List V->Hp->VK->Prop:=fun x vs H Q=>match x,vs with
 | .ref l,[]=>match H l with
  |some (.lst _)=>Q .non (upd H l (.lst []))
  |_=>False
 |_,_=>False
def BV(r:V->List V->Hp->VK->Prop)(to:TE):TE:=fun σ H Q=>to σ H fun x H1=>(∃a xs,x= .ref a/\H1 a=some (.lst xs))/\r x [] H1 Q
theorem C9{to:TE}{name:Str}{id:String}{r:V->List V->Hp->VK->Prop}(pa:PlainAttrs "list")(slot:Slot "list" name id)(hty:typeOf (.builtin id)=pure (.type "method_descriptor"))(hm:MtR X id r)(ho:PE X o to)
  (hbase:attributeBase o name X.env (eval o X.env)=eval o X.env:=by rfl) (hline:(apos.endLine==cpos.line)=true:=by rfl):PE X (.Call (.Attribute o name apos) [] [] cpos) (BV r to):=by
 intro pins s σ H Q I h
 refine wpAny_Call_method0_late hbase hline (iK (ho pins s σ H _ I h) fun v s1 ⟨x,H1,I1,r1,⟨a,xs,ex,ea⟩,q1⟩=>?_)
 subst ex
 obtain⟨h1,h2⟩:=yp (T:="list") I1 r1 (.inl ⟨rfl,_,SqL.of ea⟩)
 exact⟨"list",id,pa,slot,hty,h1,h2,dr rfl (PySem.evalArgs_none (hm pins s1 σ H1 _ [] v [] Q I1 r1 .nil q1))⟩
def vV:V->Option Int->Option Int->Hp->VK->Prop:=fun x lo hi H Q=>match x with
 | .ref a=>match H a with
  |some (.tup xs)=>¬(HT.i4 xs.length 0 lo=0/\HT.i4 xs.length xs.length hi=xs.length)/\∀p,H p=none->Q (.ref p) (upd H p (.tup (kn xs lo hi)))
  |_=>False
 |_=>False
theorem xx:SlR X vV:=Cu.imp fun x l u H Q h=>by
 unfold vV at h
 split at h
 ·split at h
  ·rename_i xs e;exact⟨_,xs,rfl,SqT.of e,h.1,h.2⟩
  ·exact h.elim
 ·exact h.elim
def tM:List V->Hp->VK->Prop:=fun vs H Q=>match vs with
 |[.bl k]=>Q (.int (if k=true then 1 else 0)) H
 |[.int i]=>Q (.int i) H
 |_=>False
theorem C6:jbs X (.type "int") tM:=FV.imp fun vs H Q h=>by
 unfold tM at h
 split at h
 ·exact .inr ⟨_,rfl,h⟩
 ·exact .inl ⟨_,rfl,h⟩
 ·exact h.elim
end
section
variable{prog:Program}{w:World}{A:Around}{E:Value->Shared->Prop}
end
section
variable{X:Cx}{es:List Expr}{pos:Pos}
def Ji(n:Nat)(t:kU):TG:=fun v σ H Q=>match v with
 | .ref a=>match H a with
  |some (.lst xs)=>xs.length=n/\t xs σ H Q
  |_=>False
 |_=>False
end
end L2
namespace So
open PySem PyProof.Rows
def kv(R:Keyed->Int)(xs:Array Keyed)(i:Nat):Int:=(xs[i]?.map R).getD 0
theorem pL{R:Keyed->Int}{xs ys:Array Keyed}{i j:Nat}(h:xs[i]? =ys[j]?):kv R xs i=kv R ys j:=by unfold kv;rw[h]
theorem kv_at{R:Keyed->Int}{xs:Array Keyed}{i:Nat}{x:Keyed}(h:xs[i]? =some x):kv R xs i=R x:=by unfold kv;rw[h];rfl
def Up(R:Keyed->Int)(xs:Array Keyed)(a b:Nat):Prop:=∀i j,a<=i->i<=j->j<b->kv R xs i<=kv R xs j
def Dn(R:Keyed->Int)(xs:Array Keyed)(a b:Nat):Prop:=∀i j,a<=i->i<=j->j<b->kv R xs j<=kv R xs i
def Fore(lo:Nat)(xs ys:Array Keyed):Prop:=∀i,i<lo->ys[i]? =xs[i]?
theorem Fore.rfl'{lo:Nat}{xs:Array Keyed}:Fore lo xs xs:=fun _ _=>rfl
theorem Fore.tr{lo:Nat}{xs ys zs:Array Keyed}(a:Fore lo xs ys)(b:Fore lo ys zs):Fore lo xs zs:=fun i h=>(b i h).trans (a i h)
theorem Up.one{R:Keyed->Int}{xs:Array Keyed}{a b:Nat}(h:b<=a+1):Up R xs a b:=fun i j h1 h2 h3=>by
 have e:i=j:=by lia
 rw[e];exact bE _
theorem Up.grow{R:Keyed->Int}{xs:Array Keyed}{a b:Nat}(h:Up R xs a b)(h2:a<b)(hl:kv R xs (b-1)<=kv R xs b):Up R xs a (b+1):=fun i j h3 h4 h5=>by
 by_cases hj:j<b
 ·exact h i j h3 h4 hj
 ·have e:j=b:=by lia
  rw[e]at h4 ⊢
  by_cases hi:i=b
  ·rw[hi];exact bE _
  ·exact gZ (h i (b-1) h3 (by lia) (by lia)) hl
theorem Dn.grow{R:Keyed->Int}{xs:Array Keyed}{a b:Nat}(h:Dn R xs a b)(h2:a<b)(hl:kv R xs b<=kv R xs (b-1)):Dn R xs a (b+1):=fun i j h3 h4 h5=>by
 by_cases hj:j<b
 ·exact h i j h3 h4 hj
 ·have e:j=b:=by lia
  rw[e]at h4 ⊢
  by_cases hi:i=b
  ·rw[hi];exact bE _
  ·exact gZ hl (h i (b-1) h3 (by lia) (by lia))
theorem Dn.like{R:Keyed->Int}{xs ys:Array Keyed}{a b:Nat}(h:Dn R xs a b)(e:∀k,kv R ys k=kv R xs k):Dn R ys a b:=fun i j h1 h2 h3=>by rw[e,e];exact h i j h1 h2 h3
theorem uH{R:Keyed->Int}{xs:Array Keyed}{i j:Nat}(hj:j<=xs.size)(k:Nat):
  kv R (mirror xs i j ((j-i)/2)) k=if i<=k/\k<j then kv R xs (i+j-1-k)else kv R xs k:=by
 have e:=getElem?_mirror_all (i:=i) hj k
 by_cases c:i<=k/\k<j
 ·rw[aw c]at e ⊢;exact pL e
 ·rw[au c]at e ⊢;exact pL e
theorem vL{R:Keyed->Int}{xs:Array Keyed}{i j:Nat}(hj:j<=xs.size)(q:∀k,i<=k->k<j->kv R xs k=kv R xs (j-1))(k:Nat):
  kv R (mirror xs i j ((j-i)/2)) k=kv R xs k:=by
 rw[uH hj]
 split
 ·rename_i c;rw[q _ (by lia) (by lia),q k c.1 c.2]
 ·rfl
theorem sd{lo:Nat}{xs:Array Keyed}{i j:Nat}(hj:j<=xs.size)(hi:lo<=i):Fore lo xs (mirror xs i j ((j-i)/2)):=fun k hk=>by
 rw[getElem?_mirror_all hj,au (by lia)]
theorem yL{R:Keyed->Int}{xs:Array Keyed}{src d:Nat}(hs:src<xs.size)(hd:d<=src)(k:Nat):
  kv R (bubble xs src d) k=if k=src-d then kv R xs src else if src-d<k/\k<=src then kv R xs (k-1)else kv R xs k:=by
 have e:=getElem?_bubble hs d hd k
 by_cases c:k=src-d
 ·rw[aw c]at e ⊢;exact pL e
 ·rw[au c]at e ⊢
  by_cases c2:src-d<k/\k<=src
  ·rw[aw c2]at e ⊢;exact pL e
  ·rw[au c2]at e ⊢;exact pL e
theorem F7{lo:Nat}{xs:Array Keyed}{src d:Nat}(hs:src<xs.size)(hd:lo+d<=src):Fore lo xs (bubble xs src d):=fun k hk=>by
 rw[getElem?_bubble hs d (by lia),au (by lia),au (by lia)]
structure Bs(κ:SortKind)(a₀:Array Keyed)(pd:Array (Nat×Nat×Nat))(st:SortSt):Prop where
 perm:(arrOf st).Perm a₀
 kind:kindOf st=κ
 ok:failedOf st=none
 pend:pendingOf st=pd
section
variable{prog:Program}{w:World}{A:Around}{E:Value->Shared->Prop}{s:Shared}{R:Keyed->Int}{κ:SortKind}{a₀:Array Keyed}{pd:Array (Nat×Nat×Nat)}
theorem Bs.size{st:SortSt}(b:Bs κ a₀ pd st):(arrOf st).size=a₀.size:=b.perm.size_eq
theorem Bs.put{st:SortSt}(b:Bs κ a₀ pd st){xs:Array Keyed}(p:xs.Perm (arrOf st)):Bs κ a₀ pd (setArr st xs):=⟨p.trans b.perm,b.kind,b.ok,b.pend⟩
theorem Bs.get{st:SortSt}(b:Bs κ a₀ pd st){i:Nat}(hi:i<a₀.size):∃x,(arrOf st)[i]? =some x/\x∈a₀.toList:=by
 have h1:i<(arrOf st).size:=by rw[b.size];exact hi
 exact⟨(arrOf st)[i],getElem?_pos _ i h1,(iA.mp b.perm).mem_iff.mp (by simp)⟩
def Cm(prog:Program)(w:World)(A:Around)(s:Shared)(R:Keyed->Int)(κ:SortKind)(a₀:Array Keyed):Prop:=
 ∀x y,x∈a₀.toList->y∈a₀.toList->∀(Q:Bool->Shared->Prop) (E:Value->Shared->Prop),Q (decide (R x<R y)) s->wpAny (model prog w) A (keyLt' κ x.1 y.1) Q E s
theorem w_lt(C:Cm prog w A s R κ a₀){st:SortSt}{x y:Keyed}(hk:kindOf st=κ)(hx:x∈a₀.toList)(hy:y∈a₀.toList){Q:Option Bool->SortSt->Prop}(h:Q (some (decide (R x<R y))) st):
  wpS (model prog w) A E s (lt' x y) Q st:=by
 rw[lt'_eq]
 refine ck (wpS_get ?_)
 rw[hk]
 refine ck (wpS_lift (gJ (C x y hx hy _ _ ⟨rfl,?_⟩)))
 exact cM h
theorem yr{st:SortSt}{xs:Array Keyed}{i:Nat}{x:Keyed}(e:xs[i]? =some x){Q:Keyed->SortSt->Prop}(h:Q x st):wpS (model prog w) A E s (elem' xs i) Q st:=by
 rw[elem'_eq,e];exact cM h
theorem pX(C:Cm prog w A s R κ a₀){st:SortSt}(b:Bs κ a₀ pd st){i j:Nat}(hi:i<a₀.size)(hj:j<a₀.size){Q:Option Bool->SortSt->Prop}
  (h:Q (some (decide (kv R (arrOf st) i<kv R (arrOf st) j))) st):wpS (model prog w) A E s (ltAt' i j) Q st:=by
 obtain⟨x,e1,m1⟩:=b.get hi
 obtain⟨y,e2,m2⟩:=b.get hj
 rw[ltAt'_eq]
 refine ck (wpS_get (ck (yr e1 (ck (yr e2 (w_lt C b.kind m1 m2 ?_))))))
 rw[kv_at e1,kv_at e2]at h
 exact h
abbrev wz:=Option (Option Nat)×Nat
abbrev wF:=Option (Option Nat)×Nat×Nat
def qj(lo a nrem:Nat):StateT SortSt Sem wz:=
 forIn [a:nrem] ((none,a):wz) fun _ c=>do
  let z <- ltAt' (lo + c.snd) (lo + c.snd - 1)
  match z with
  |some less=>if less=true then pure (.done (none,c.snd))else pure (.yield (none,c.snd+1))
  |_=>pure (.done (some none,c.snd))
def pT (lo n nrem:Nat):StateT SortSt Sem (Option Nat):=do
 reverseSlice' lo (lo+n)
 let c <- qj lo n nrem
 match c.fst with
 |some r=>pure r
 |none=>pure (some c.snd)
def sx(lo n nrem:Nat):StateT SortSt Sem wF:=
 forIn [n:nrem] ((none,n,0):wF) fun _ c=>do
  let z <- ltAt' (lo + c.snd.fst) (lo + c.snd.fst - 1)
  match z with
  | some less=>
   if less=true then
    if c.snd.snd > 0 then do
     reverseSlice' (lo+c.snd.fst-(c.snd.snd+1)) (lo+c.snd.fst)
     pure (.yield (none,c.snd.fst+1,0))
    else pure (.yield (none,c.snd.fst+1,0))
   else do
    let y <- ltAt' (lo + c.snd.fst - 1) (lo + c.snd.fst)
    match y with
    |some more=>if more=true then pure (.done (none,c.snd.fst,c.snd.snd))else pure (.yield (none,c.snd.fst+1,c.snd.snd+1))
    |_=>pure (.done (some none,c.snd.fst,c.snd.snd))
  |_=>pure (.done (some none,c.snd.fst,c.snd.snd))
def pD (lo n nrem:Nat):StateT SortSt Sem (Option Nat):=do
 liftM (rule "list.sort.descending-run")
 let c <- sx lo (n + 1) nrem
 match c.fst with
 |some r=>pure r
 | none=>
  if c.snd.snd > 0 then do
   reverseSlice' (lo+c.snd.fst-(c.snd.snd+1)) (lo+c.snd.fst)
   pT lo c.snd.fst nrem
  else pT lo c.snd.fst nrem
theorem Fc (lo nrem:Nat):countRun' lo nrem = (do
    let c <- qj lo 1 nrem
    match c.fst with
    |some r=>pure r
    | none =>
      if(c.snd==nrem)=true then pure (some c.snd)
      else if c.snd > 1 then do
        let z <- ltAt' lo (lo + c.snd - 1)
        match z with
        | some rose=>if rose = true then pure (some c.snd) else do
            reverseSlice' lo (lo+c.snd)
            pD lo c.snd nrem
        |_=>pure none
      else pD lo c.snd nrem):=by
  rw[countRun'_eq]
  unfold pD pT sx qj
  dsimp only
  congr 1
  funext c
  obtain⟨r,n⟩:=c
  cases r with
  |some r=>rfl
  | none =>
    dsimp only
    split
    · rfl
    · split
      · congr 1
        funext z
        cases z with
        |none=>rfl
        | some rose=>
          dsimp only
          split
          · rfl
          · congr 1
            funext _r
            (congr 1;funext _u;congr 1;congr 1;funext c2;obtain⟨r2,n2,q2⟩:=c2;cases r2 with
            |some r2=>rfl
            | none=>
              dsimp only
              split
              · congr 1;funext _t;congr 1;funext _v;congr 1;funext c3;obtain⟨r3,n3⟩:=c3;cases r3<;>rfl
              · congr 1;funext _v;congr 1;funext c3;obtain⟨r3,n3⟩:=c3;cases r3<;>rfl)
      · (congr 1;funext _u;congr 1;congr 1;funext c2;obtain⟨r2,n2,q2⟩:=c2;cases r2 with
            |some r2=>rfl
            | none=>
              dsimp only
              split
              · congr 1;funext _t;congr 1;funext _v;congr 1;funext c3;obtain⟨r3,n3⟩:=c3;cases r3<;>rfl
              · congr 1;funext _v;congr 1;funext c3;obtain⟨r3,n3⟩:=c3;cases r3<;>rfl)
theorem rj{st:SortSt}{i j:Nat}{Q:Unit->SortSt->Prop}(h:Q () (setArr st (mirror (arrOf st) i j ((j-i)/2)))):
  wpS (model prog w) A E s (reverseSlice' i j) Q st:=by
 rw[reverseSlice'_eq];exact wpS_modify h
theorem yt(C:Cm prog w A s R κ a₀){st:SortSt}{lo a nrem:Nat}{Q:wz->SortSt->Prop}(hn:lo+nrem<=a₀.size)(ha:1<=a)(han:a<=nrem)(b:Bs κ a₀ pd st)(u:Up R (arrOf st) lo (lo+a))
  (h:∀n,a<=n->n<=nrem->Up R (arrOf st) lo (lo+n)->(n=nrem\/kv R (arrOf st) (lo+n)<kv R (arrOf st) (lo+n-1))->Q (none,n) st):
  wpS (model prog w) A E s (qj lo a nrem) Q st:=by
 unfold qj
 refine fi (I:=fun x c st'=>st'=st/\c=(none,x)/\Up R (arrOf st) lo (lo+x)) ?step ?fin ⟨rfl,rfl,u⟩
 case fin=>
  rintro c st' ⟨rfl,rfl,u'⟩
  rw[show max a nrem=nrem by lia]at u' ⊢
  exact h nrem han (av _) u' (.inl rfl)
 case step=>
  rintro x c st' hax hxn ⟨rfl,rfl,u'⟩
  dsimp only
  refine ck (pX C b (by lia) (by lia) ?_)
  by_cases c:kv R (arrOf st') (lo+x)<kv R (arrOf st') (lo+x-1)
  ·simp only[c,c0,if_true]
   exact cM (h x hax (by lia) u' (.inr c))
  ·simp only[c,dD,aK,if_false]
   exact cM ⟨rfl,rfl,u'.grow (by lia) (by lia)⟩
theorem An(C:Cm prog w A s R κ a₀){st:SortSt}{lo n nrem:Nat}{Q:Option Nat->SortSt->Prop}(hn:lo+nrem<=a₀.size)(h1:1<=n)(hnn:n<=nrem)(b:Bs κ a₀ pd st)(d:Dn R (arrOf st) lo (lo+n))
  (h:∀m st',Bs κ a₀ pd st'->Fore lo (arrOf st) (arrOf st')->1<=m->m<=nrem->Up R (arrOf st') lo (lo+m)->Q (some m) st'):
  wpS (model prog w) A E s (pT lo n nrem) Q st:=by
 unfold pT
 have hsz:lo+n<=(arrOf st).size:=by rw[b.size];lia
 refine ck (rj ?_)
 have b':=b.put (hV (arrOf st) lo (lo+n) ((lo+n-lo)/2))
 refine ck (yt C hn h1 hnn b' ?_ fun m hm1 hm2 u _=>cM (h m _ b' (sd hsz (av _)) (by lia) hm2 u))
 intro i j h3 h4 h5
 show kv R (mirror (arrOf st) lo (lo+n) _) i<=kv R (mirror (arrOf st) lo (lo+n) _) j
 rw[uH hsz,uH hsz,aw (by lia),aw (by lia)]
 exact d _ _ (by lia) (by lia) (by lia)
theorem Ce(C:Cm prog w A s R κ a₀){st:SortSt}{lo n nrem:Nat}{Q:wF->SortSt->Prop}(hn:lo+nrem<=a₀.size)(h1:1<=n)(hnn:n<=nrem)(b:Bs κ a₀ pd st)(d:Dn R (arrOf st) lo (lo+n))
  (h:∀m q st',Bs κ a₀ pd st'->Fore lo (arrOf st) (arrOf st')->n<=m->m<=nrem->Dn R (arrOf st') lo (lo+m)->q+1<=m->(∀i,lo+m-(q+1)<=i->i<lo+m->kv R (arrOf st') i=kv R (arrOf st') (lo+m-1))->Q (none,m,q) st'):
  wpS (model prog w) A E s (sx lo n nrem) Q st:=by
 unfold sx
 refine fi (I:=fun x c st'=>∃q,c=(none,x,q)/\Bs κ a₀ pd st'/\Fore lo (arrOf st) (arrOf st')/\Dn R (arrOf st') lo (lo+x)/\q+1<=x/\
   (∀i,lo+x-(q+1)<=i->i<lo+x->kv R (arrOf st') i=kv R (arrOf st') (lo+x-1))) ?step ?fin ⟨0,rfl,b,Fore.rfl',d,by lia,fun i h1 h2=>by congr 1;lia⟩
 case fin=>
  rintro c st' ⟨q,rfl,b',f,d',hq,he⟩
  rw[show max n nrem=nrem by lia]at d' hq he ⊢
  exact h nrem q st' b' f hnn (av _) d' hq he
 case step=>
  rintro x c st' hax hxn ⟨q,rfl,b',f,d',hq,he⟩
  dsimp only
  have hsz:lo+x<=(arrOf st').size:=by rw[b'.size];lia
  refine ck (pX C b' (by lia) (by lia) ?_)
  by_cases c:kv R (arrOf st') (lo+x)<kv R (arrOf st') (lo+x-1)
  ·simp only[c,c0,if_true]
   have g:=d'.grow (by lia) (gh c)
   by_cases hq0:q>0
   ·rw[aw hq0]
    exact ck (rj (cM ⟨0,rfl,b'.put (hV _ _ _ _),f.tr (sd hsz (by lia)),g.like (vL hsz he),by lia,fun i h1 h2=>by congr 1;lia⟩))
   ·rw[au hq0]
    exact cM ⟨0,rfl,b',f,g,by lia,fun i h1 h2=>by congr 1;lia⟩
  ·simp only[c,dD,aK,if_false]
   refine ck (pX C b' (by lia) (by lia) ?_)
   by_cases c2:kv R (arrOf st') (lo+x-1)<kv R (arrOf st') (lo+x)
   ·simp only[c2,c0,if_true]
    exact cM (h x q st' b' f hax (by lia) d' hq he)
   ·simp only[c2,dD,aK,if_false]
    have e2:kv R (arrOf st') (lo+x)=kv R (arrOf st') (lo+x-1):=by lia
    refine cM ⟨q+1,rfl,b',f,d'.grow (by lia) (by lia),by lia,fun i h1 h2=>?_⟩
    rw[show lo+(x+1)-1=lo+x by lia]
    by_cases hix:i=lo+x
    ·rw[hix]
    ·rw[e2];exact he i (by lia) (by lia)
theorem zx(C:Cm prog w A s R κ a₀){st:SortSt}{lo n nrem:Nat}{Q:Option Nat->SortSt->Prop}(hn:lo+nrem<=a₀.size)(hnn:n+1<=nrem)(b:Bs κ a₀ pd st)(d:Dn R (arrOf st) lo (lo+(n+1)))
  (h:∀m st',Bs κ a₀ pd st'->Fore lo (arrOf st) (arrOf st')->1<=m->m<=nrem->Up R (arrOf st') lo (lo+m)->Q (some m) st'):
  wpS (model prog w) A E s (pD lo n nrem) Q st:=by
 unfold pD
 refine ck (wpS_lift (eQ ⟨rfl,?_⟩))
 refine ck (Ce C hn (by lia) hnn b d fun m q st' b' f hm1 hm2 d' hq he=>?_)
 dsimp only
 have hsz:lo+m<=(arrOf st').size:=by rw[b'.size];lia
 by_cases hq0:q>0
 ·rw[aw hq0]
  exact ck (rj (An C hn (by lia) hm2 (b'.put (hV _ _ _ _)) (d'.like (vL hsz he)) fun m2 st2 a1 a2=>h m2 st2 a1 ((f.tr (sd hsz (by lia))).tr a2)))
 ·rw[au hq0]
  exact An C hn (by lia) hm2 b' d' fun m2 st2 a1 a2=>h m2 st2 a1 (f.tr a2)
theorem E3(C:Cm prog w A s R κ a₀){st:SortSt}{lo nrem:Nat}{Q:Option Nat->SortSt->Prop}(hn:lo+nrem<=a₀.size)(h1:1<=nrem)(b:Bs κ a₀ pd st)
  (h:∀m st',Bs κ a₀ pd st'->Fore lo (arrOf st) (arrOf st')->1<=m->m<=nrem->Up R (arrOf st') lo (lo+m)->Q (some m) st'):
  wpS (model prog w) A E s (countRun' lo nrem) Q st:=by
 rw[Fc]
 refine ck (yt C hn (av 1) h1 b (Up.one (av _)) fun n hn1 hn2 u hor=>?_)
 dsimp only
 by_cases c:n=nrem
 ·rw[aw (by simpa using c)]
  exact cM (h n st b Fore.rfl' hn1 hn2 u)
 ·rw [au (by simpa using c)]
  have hlt:=hor.resolve_left c
  by_cases hgt:n>1
  ·rw[aw hgt]
   refine ck (pX C b (by lia) (by lia) ?_)
   by_cases c2:kv R (arrOf st) lo<kv R (arrOf st) (lo+n-1)
   ·simp only[c2,c0,if_true]
    exact cM (h n st b Fore.rfl' hn1 hn2 u)
   ·simp only[c2,dD,aK,if_false]
    have hsz:lo+n<=(arrOf st).size:=by rw[b.size];lia
    have hall:∀k,lo<=k->k<lo+n->kv R (arrOf st) k=kv R (arrOf st) (lo+n-1):=by
     intro k h2 h3
     have a1:=u lo k (av _) h2 h3
     have a2:=u k (lo+n-1) h2 (by lia) (by lia)
     lia
    have d:Dn R (arrOf st) lo (lo+n):=fun i j h3 h4 h5=>by rw[hall i h3 (by lia),hall j (by lia) h5];exact bE _
    have g:Dn R (arrOf st) lo (lo+(n+1)):=d.grow (by lia) (gh hlt)
    exact ck (rj (zx C hn (by lia) (b.put (hV _ _ _ _)) (g.like (vL hsz hall)) fun m st' a1 a2=>h m st' a1 ((sd hsz (av _)).tr a2)))
  ·rw[au hgt]
   have e:n=1:=by lia
   subst e
   have d:Dn R (arrOf st) lo (lo+1):=fun i j h3 h4 h5=>by
    have e:i=j:=by lia
    rw[e];exact bE _
   exact zx C hn (by lia) b (d.grow (by lia) (gh hlt)) h
theorem Cd(C:Cm prog w A s R κ a₀){st:SortSt}{lo n ok:Nat}{Q:Bool->SortSt->Prop}(hn:lo+n<=a₀.size)(hok:ok<=n)(b:Bs κ a₀ pd st)(u:Up R (arrOf st) lo (lo+ok))
  (h:∀st',Bs κ a₀ pd st'->Fore lo (arrOf st) (arrOf st')->Up R (arrOf st') lo (lo+n)->Q true st'):wpS (model prog w) A E s (binarySort' lo n ok) Q st:=by
 rw[binarySort'_eq]
 refine ck (wpS_mono (fi (I:=fun k c st'=>c=(none,())/\Bs κ a₀ pd st'/\Fore lo (arrOf st) (arrOf st')/\Up R (arrOf st') lo (lo+min k n))
  (Q:=fun c st'=>c=(none,())/\Bs κ a₀ pd st'/\Fore lo (arrOf st) (arrOf st')/\Up R (arrOf st') lo (lo+n)) ?step ?fin ?init) ?post)
 case post=>
  rintro c st' ⟨rfl,b',f,u'⟩
  exact cM (h st' b' f u')
 case init=>
  refine⟨rfl,b,Fore.rfl',fun i j h1 h2 h3=>?_⟩
  by_cases c:ok=0
  ·have e:i=j:=by lia
   rw[e];exact bE _
  ·exact u i j h1 h2 (by lia)
 case fin=>
  rintro c st' ⟨hc,b',f,u'⟩
  rw[show min (max (max ok 1) n) n=n by lia]at u'
  exact⟨hc,b',f,u'⟩
 case step=>
  rintro k c st' hak hkn ⟨rfl,b',f,u'⟩
  rw[show min k n=k by lia]at u'
  refine ck (wpS_mono (fi (I:=fun x c st2=>st2=st'/\∃l r,c=(none,l,r)/\l<=r/\r<=k/\r-l<=k-x/\
    (∀i,i<l->kv R (arrOf st') (lo+i)<=kv R (arrOf st') (lo+k))/\(∀i,r<=i->i<k->kv R (arrOf st') (lo+k)<kv R (arrOf st') (lo+i)))
   (Q:=fun c st2=>st2=st'/\∃l r,c=(none,l,r)/\l<=k/\
    (∀i,i<l->kv R (arrOf st') (lo+i)<=kv R (arrOf st') (lo+k))/\(∀i,l<=i->i<k->kv R (arrOf st') (lo+k)<kv R (arrOf st') (lo+i))) ?istep ?ifin ?iinit) ?ipost)
  case iinit=>exact⟨rfl,0,k,rfl,by lia,by lia,by lia,fun i hi=>by lia,fun i h1 h2=>by lia⟩
  case ifin=>
   rintro c st2 ⟨rfl,l,r,rfl,hlr,hrk,hm,hlo,hhi⟩
   have e:l=r:=by lia
   subst e
   exact⟨rfl,l,l,rfl,hrk,hlo,hhi⟩
  case istep=>
   rintro x c st2 _ hxk ⟨rfl,l,r,rfl,hlr,hrk,hm,hlo,hhi⟩
   dsimp only
   by_cases hge:l ≥ r
   ·rw[aw hge]
    have e:l=r:=by lia
    subst e
    exact cM ⟨rfl,l,l,rfl,hrk,hlo,hhi⟩
   ·rw[au hge]
    refine ck (pX C b' (by lia) (by lia) ?_)
    by_cases c:kv R (arrOf st2) (lo+k)<kv R (arrOf st2) (lo+(l+r)/2)
    ·simp only[c,c0,if_true]
     exact cM ⟨rfl,l,(l+r)/2,rfl,by lia,by lia,by lia,hlo,fun i h1 h2=>Int.lt_of_lt_of_le c (u' _ _ (by lia) (by lia) (by lia))⟩
    ·simp only[c,dD,aK,if_false]
     exact cM ⟨rfl,(l+r)/2+1,r,rfl,by lia,by lia,by lia,fun i h1=>gZ (u' (lo+i) (lo+(l+r)/2) (by lia) (by lia) (by lia)) (Int.not_lt.mp c),hhi⟩
  case ipost=>
   rintro c st2 ⟨rfl,l,r,rfl,hlk,hlo,hhi⟩
   show wpS _ _ _ _ (do moveDown' (lo + k) (lo + l); pure (ForInStep.yield (none,()))) _ _
   rw[moveDown'_eq]
   have hks:lo+k<(arrOf st2).size:=by rw[b'.size];lia
   refine ck (wpS_modify (cM ⟨rfl,b'.put (bubble_perm _ _ _),f.tr (F7 hks (by lia)),?_⟩))
   rw[show min (k+1) n=k+1 by lia]
   intro i j h1 h2 h3
   show kv R (bubble (arrOf st2) (lo+k) (lo+k-(lo+l))) i<=kv R (bubble (arrOf st2) (lo+k) (lo+k-(lo+l))) j
   rw[yL hks (by lia),yL hks (by lia),show lo+k-(lo+k-(lo+l))=lo+l by lia]
   have lowof:∀i,lo<=i->i<lo+l->kv R (arrOf st2) i<=kv R (arrOf st2) (lo+k):=fun i a1 a2=>by
    have z:=hlo (i-lo) (by lia)
    rwa[show lo+(i-lo)=i by lia]at z
   have highof:∀i,lo+l<=i->i<lo+k->kv R (arrOf st2) (lo+k)<kv R (arrOf st2) i:=fun i a1 a2=>by
    have z:=hhi (i-lo) (by lia) (by lia)
    rwa[show lo+(i-lo)=i by lia]at z
   repeat' split
   all_goals first
    |(exfalso;lia)
    |exact bE _
    |exact lowof _ (by lia) (by lia)
    |exact gh (highof _ (by lia) (by lia))
    |exact u' _ _ (by lia) (by lia) (by lia)
end
end So
namespace So
open PySem PyProof.Rows
section
variable{prog:Program}{w:World}{A:Around}{E:Value->Shared->Prop}{s:Shared}{R:Keyed->Int}{κ:SortKind}{a₀:Array Keyed}{pd:Array (Nat×Nat×Nat)}
end
end So
namespace So
open PySem PyProof.Rows
def Le(R:Keyed->Int):Keyed->Keyed->Prop:=fun x y=>R x<=R y
def MS(R:Keyed->Int)(o la lb tot:List Keyed):Prop:=(o++la).Pairwise (Le R)/\(o++lb).Pairwise (Le R)/\(o++(la++lb)).Perm tot
def Fi(R:Keyed->Int)(l tot:List Keyed):Prop:=l.Pairwise (Le R)/\l.Perm tot
section
variable{R:Keyed->Int}{o la lb tot xs:List Keyed}
theorem MS.a(h:MS R o (xs++la) lb tot)(hx:∀x∈xs,∀y∈lb,R x<=R y):MS R (o++xs) la lb tot:=by
 obtain⟨h1,h2,h3⟩:=h
 refine ⟨by rw [bu]; exact h1,?_,by rw [bu,<- bu xs]; exact h3⟩
 rw[bu,bZ]
 rw[bZ]at h1 h2
 obtain⟨o1,o2,o3⟩:=h1
 obtain⟨p1,p2,p3⟩:=h2
 rw[bZ]at o2
 refine⟨o1,bZ.mpr ⟨o2.1,p2,hx⟩,fun x m y n=>?_⟩
 rcases aQ.mp n with n|n
 ·exact o3 x m y (bx _ n)
 ·exact p3 x m y n
theorem MS.b(h:MS R o la (xs++lb) tot)(hx:∀x∈xs,∀y∈la,R x<=R y):MS R (o++xs) la lb tot:=by
 have z:MS R o (xs++lb) la tot:=⟨h.2.1,h.1,(eP _ bQ).trans h.2.2⟩
 have q:=z.a hx
 exact⟨q.2.1,q.1,(eP _ bQ).trans q.2.2⟩
theorem MS.last(h:MS R o la lb tot)(hx:∀y∈lb,∀x∈la,R y<=R x):Fi R (o++lb++la) tot:=by
 obtain⟨h1,h2,h3⟩:=h
 refine⟨?_,?_⟩
 ·rw[bu,bZ]
  rw[bZ]at h1 h2
  refine⟨h1.1,bZ.mpr ⟨h2.2.1,h1.2.1,hx⟩,fun x m y n=>?_⟩
  rcases aQ.mp n with n|n
  ·exact h2.2.2 x m y n
  ·exact h1.2.2 x m y n
 ·rw[bu];exact(eP _ bQ).trans h3
end
section
variable{a:Array Keyed}{R:Keyed->Int}{i k:Nat}
theorem Up.le(u:Up R a 0 a.size){j:Nat}{x y:Keyed}(hx:a[i]? =some x)(hy:a[j]? =some y)(h:i<=j):R x<=R y:=by
 have z:=u i j (bI _) h (iB.mp hy).1
 rwa[kv_at hx,kv_at hy]at z
end
section
variable{M:Model}{A:Around}{E:Value->Shared->Prop}{s:Shared}{σ α:Type}
theorem pN{c:Prop}[Decidable c]{m n:StateT σ Sem α}{Q:α->σ->Prop}{st:σ}(h1:c->wpS M A E s m Q st)(h2:¬c->wpS M A E s n Q st):wpS M A E s (if c then m else n) Q st:=by
 by_cases h:c
 ·rw[aw h];exact h1 h
 ·rw[au h];exact h2 h
end
section
variable{R:Keyed->Int}{a b out:Array Keyed}{ia ib k:Nat}{tot:List Keyed}
end
section
variable{prog:Program}{w:World}{A:Around}{E:Value->Shared->Prop}{s:Shared}{R:Keyed->Int}{κ:SortKind}{a₀:Array Keyed}{pd:Array (Nat×Nat×Nat)}
end
end So
namespace So
open PySem PyProof.Rows
def MH(R:Keyed->Int)(la lb o tot:List Keyed):Prop:=(la++o).Pairwise (Le R)/\(lb++o).Pairwise (Le R)/\(la++(lb++o)).Perm tot
section
variable{R:Keyed->Int}{o la lb tot xs:List Keyed}
theorem MH.a(h:MH R (la++xs) lb o tot)(hx:∀x∈xs,∀y∈lb,R y<=R x):MH R la lb (xs++o) tot:=by
 obtain⟨h1,h2,h3⟩:=h
 refine ⟨by rw [<- bu]; exact h1,?_,?_⟩
 ·rw[bu,bZ]at h1
  rw[bZ]at h2 ⊢
  refine⟨h2.1,h1.2.1,fun y hy x hx2=>?_⟩
  rcases aQ.mp hx2 with n|n
  ·exact hx x n y hy
  ·exact h2.2.2 y hy x n
 ·refine List.Perm.trans ?_ h3
  rw[bu]
  refine eP _ ?_
  rw [<- bu,<- bu]
  exact List.Perm.append_right _ bQ
theorem MH.swap(h:MH R la lb o tot):MH R lb la o tot:=by
 refine⟨h.2.1,h.1,List.Perm.trans ?_ h.2.2⟩
 rw [<- bu,<- bu]
 exact List.Perm.append_right _ bQ
theorem MH.b(h:MH R la (lb++xs) o tot)(hx:∀x∈xs,∀y∈la,R y<=R x):MH R la lb (xs++o) tot:=(h.swap.a hx).swap
theorem MH.first(h:MH R la lb o tot)(hx:∀y∈lb,∀x∈la,R y<=R x):Fi R (lb++la++o) tot:=by
 obtain⟨h1,h2,h3⟩:=h.swap
 refine⟨?_,by rw[bu];exact h3⟩
 rw[bu]
 rw[bZ]at h1 h2 ⊢
 refine⟨h1.1,bZ.mpr h2,fun y hy x hx2=>?_⟩
 rcases aQ.mp hx2 with n|n
 ·exact hx y hy x n
 ·exact h1.2.2 y hy x n
end
section
variable{a:Array Keyed}{R:Keyed->Int}{i k n:Nat}
end
section
variable{R:Keyed->Int}{a b out:Array Keyed}{na nb k:Nat}{tot:List Keyed}
end
section
variable{prog:Program}{w:World}{A:Around}{E:Value->Shared->Prop}{s:Shared}{R:Keyed->Int}{κ:SortKind}{a₀:Array Keyed}{pd:Array (Nat×Nat×Nat)}
end
end So
namespace So
open PySem PyProof.Rows
section
variable{prog:Program}{w:World}{A:Around}{E:Value->Shared->Prop}{s:Shared}{R:Keyed->Int}{κ:SortKind}{a₀:Array Keyed}{pd:Array (Nat×Nat×Nat)}
end
end So
namespace So
open PySem PyProof.Rows
def two(pd:Array (Nat×Nat×Nat)):List (Nat×Nat):=pd.toList.map fun t=>(t.1,t.2.1)
section
variable{R:Keyed->Int}{xs ys:Array Keyed}
end
section
variable{prog:Program}{w:World}{A:Around}{E:Value->Shared->Prop}{s:Shared}{R:Keyed->Int}{κ:SortKind}{a₀:Array Keyed}{pd:Array (Nat×Nat×Nat)}
end
end So
namespace So
open PySem PyProof.Rows
section
variable{prog:Program}{w:World}{A:Around}{E:Value->Shared->Prop}{s:Shared}
theorem vo(vs:List Value):vs.zip vs=vs.map fun v=>(v,v):=by
 induction vs with
 |nil=>rfl
 |cons v vs ih=>rw[List.zip_cons_cons,ih,aq]
theorem Up.all{R:Keyed->Int}{xs:Array Keyed}(u:Up R xs 0 xs.size):xs.toList.Pairwise (Le R):=by
 rw[cX]
 intro i j hi hj hij
 rw[Array.length_toList]at hi hj
 exact u.le (getElem?_pos xs i hi) (getElem?_pos xs j hj) (fk hij)
theorem Di{R:Keyed->Int}{vs:List Value}{xs:Array Keyed}(p:xs.Perm (pairsOf vs))(u:Up R xs 0 xs.size):(xs.map (·.2)).toList.Perm vs/\(xs.map (·.2)).toList.Pairwise fun a b=>R (a,a)<=R (b,b):=by
 have hp:xs.toList.Perm (vs.map fun v=>(v,v)):=by rw [<- vo,<- ir]; exact iA.mp p
 rw[Array.toList_map]
 refine⟨?_,?_⟩
 ·have z:=hp.map (·.2)
  rw[bG]at z
  have e:vs.map ((fun x:Keyed=>x.2)∘fun v=>(v,v))=vs:=by
   rw[show((fun x:Keyed=>x.2)∘fun v=>(v,v))=id from rfl,List.map_id]
  rwa[e]at z
 ·rw[bL]
  refine c7 ?_ u.all
  intro a b ha hb hab
  obtain⟨v,_,rfl⟩:=aB.mp (hp.mem_iff.mp ha)
  obtain⟨u',_,rfl⟩:=aB.mp (hp.mem_iff.mp hb)
  exact hab
def sW(prog:Program)(w:World)(s:Shared)(vs:List Value)(R:Keyed->Int)(κ:SortKind):Prop:=
 ∀(A:Around) (h':Heap),(∀b o,s.heap.get? b=some o->h'.get? b=some o)->
  (∀(Q:SortKind->Shared->Prop) (E:Value->Shared->Prop),Q κ {s with heap:=h'}->wpAny (model prog w) A (keyKind' vs.toArray) Q E {s with heap:=h'})/\Cm prog w A {s with heap:=h'} R κ (pairsOf vs)
def PairAt(h:Heap)(v:Value)(x y:Int):Prop:=∃a o t u n,v= .ref a/\h.get? a=some o/\o.cls= .type "tuple"/\o.data= .seq #[.int x t,.int y u] n
theorem Ax{h:Heap}:∀{vs:List Value},(∀v∈vs,∃x y,PairAt h v x y)->∃fs,PySem.W.KatTups h vs fs/\fs.length=vs.length/\∀f∈fs,∃i t,f= .int i t
 |[],_=>⟨[],trivial,rfl,fun _ q=>by cases q⟩
 |v::vs,hv=>by
  obtain⟨fs,h1,h2,h3⟩:=Ax (vs:=vs) fun v m=>hv v (.tail _ m)
  obtain⟨x,y,a,o,t,u,n,rfl,e1,e2,e3⟩:=hv v (.head _)
  refine⟨.int x t::fs,.cons e1 e2 e3 rfl h1,by rw[List.length_cons,List.length_cons,h2],fun f m=>?_⟩
  rcases aR.mp m with rfl|m
  ·exact⟨x,t,rfl⟩
  ·exact h3 f m
theorem p8{B x y x' y':Int}(h1:0<=y)(h2:y<B)(h3:0<=y')(h4:y'<B):x*B+y<x'*B+y'↔x<x'\/(x=x'/\y<y'):=by
 constructor
 ·intro h
  rcases Int.lt_trichotomy x x' with c|c|c
  ·exact .inl c
  ·subst c;exact .inr ⟨rfl,by lia⟩
  ·exfalso
   have q:(x'+1)*B<=x*B:=hJ (by lia) (by lia)
   rw[Int.add_mul,Int.one_mul]at q
   lia
 ·rintro(c|⟨rfl,c⟩)
  ·have q:(x+1)*B<=x'*B:=hJ (by lia) (by lia)
   rw[Int.add_mul,Int.one_mul]at q
   lia
  ·lia
theorem GN{vs:List Value}{R:Keyed->Int}{B:Int}(hv:∀v∈vs,∃x y,PairAt s.heap v x y/\R (v,v)=x*B+y/\0<=y/\y<B)(h2:2<=vs.length):sW prog w s vs R (tuples' true):=by
 intro A h' keep
 refine⟨fun Q E q=>?_,fun x y hx hy Q E q=>?_⟩
 ·obtain⟨fs,k1,k2,k3⟩:=Ax (h:=h') (vs:=vs) fun v m=>by
   obtain⟨x,y,⟨a,o,t,u,n,e0,e1,e2⟩,_⟩:=hv v m
   exact⟨x,y,a,o,t,u,n,e0,keep _ _ e1,e2⟩
  refine PySem.W.kat_kind (T:=.type "int") k1 (by lia) (fun f m=>?_) rfl q
  obtain⟨i,t,rfl⟩:=k3 f m
  exact PySem.W.Looks.of_pure rfl
 ·rw[ir,vo]at hx hy
  obtain⟨v,mv,rfl⟩:=aB.mp hx
  obtain⟨u,mu,rfl⟩:=aB.mp hy
  obtain⟨x1,y1,⟨a,o,t1,t2,n,rfl,e1,e2,e3⟩,r1,r2,r3⟩:=hv v mv
  obtain⟨x2,y2,⟨b,p,t3,t4,m,rfl,e4,e5,e6⟩,r4,r5,r6⟩:=hv u mu
  rw[r1,r4]at q
  have lx:=p8 (x:=x1) (x':=x2) r2 r3 r5 r6
  refine PySem.W.kat_lt (b:=true) (s:={s with heap:=h'}) (keep _ _ e1) e3 (keep _ _ e4) e6 ?_
  refine eU (dC ?_)
  by_cases c:x1=x2
  ·rw[show(x1==x2)=true by rw[c];exact dF _]
   refine eZ (eU (dC ?_))
   by_cases c2:y1=y2
   ·rw[show(y1==y2)=true by rw[c2];exact dF _]
    refine eZ (PySem.W.kat_nil ?_)
    rw[show decide (x1*B+y1<x2*B+y2)=false by rw[eD,lx];lia]at q
    exact q
   ·rw[show(y1==y2)=false by rw[bU];exact c2]
    refine fq (ie _ _ (lt_int ?_))
    rw[show decide (x1*B+y1<x2*B+y2)=decide (y1<y2) by rw[dE,lx];lia]at q
    exact q
  ·rw[show(x1==x2)=false by rw[bU];exact c]
   refine fq (oneLt_int ?_)
   rw[show decide (x1*B+y1<x2*B+y2)=decide (x1<x2) by rw[dE,lx];lia]at q
   exact q
end
end So
namespace L2
open PySem PySem.Spec PyProof.Rows
def lU(a b:Int×Int):Prop:=a.1<b.1\/(a.1=b.1/\a.2<=b.2)
def kf(H:Hp):Value->Int×Int
 | .ref a=>match H a with
  |some (.tup [.int x,.int y])=>(x,y)
  |_=>(0,0)
 |_=>(0,0)
def kX:Value->V
 | .ref a=>.ref a
 |_=>.non
theorem zu{H:Hp}:∀{xs:List V} {its:List Value} {ps:List (Int×Int)},Vals xs its->Prs H xs ps->its.map (kf H)=ps/\∀v∈its,RelV (kX v) v/\Pr H (kX v) (kf H v)
 |_,_,_,.nil,.nil=>⟨rfl,fun _ m=>by cases m⟩
 | _,_,_,.cons r t,.cons q u=>by
  obtain⟨e1,e2⟩:=zu t u
  obtain⟨a,rfl,ea⟩:=q
  cases r
  rename_i b _
  have e:kf H (.ref a)=b:=by unfold kf;dsimp only;rw[ea]
  refine⟨?_,fun v m=>?_⟩
  ·rw[aq,e1,e]
  ·rcases aR.mp m with rfl|m
   ·rw[e];exact⟨rfl,a,rfl,ea⟩
   ·exact e2 v m
theorem yv{H:Hp}:∀{us:List Value},(∀v∈us,RelV (kX v) v/\Pr H (kX v) (kf H v))->Vals (us.map kX) us/\Prs H (us.map kX) (us.map (kf H))
 |[],_=>⟨.nil,.nil⟩
 |v::us,h=>by
  obtain⟨a,b⟩:=yv (us:=us) fun v m=>h v (.tail _ m)
  obtain⟨c,d⟩:=h v (.head _)
  exact⟨.cons c a,.cons d b⟩
def CG:List V->Hp->VK->Prop:=fun vs H Q=>∃(p:Addr) (ns:List Int),vs=[.ref p]/\H p=some (.lst (ns.map V.int))/\Q (.int ns.sum) H
theorem xw{X:Cx}(hc:X.calm=true):jbs X (.builtin "sum") CG:=by
 intro pins s σ H xs us Q I r h
 obtain⟨p,ns,rfl,e,q⟩:=h
 obtain⟨u,rfl,rx⟩:=kZ r
 cases rx
 obtain⟨its,r',pl,_⟩:=I.list (SqL.of e)
 have hI:=my r'
 obtain⟨zs,hz⟩:=hI.allInts.items
 have hn:=hI.numsOf
 have hl:=pl.isList
 rw[hz]at hl
 refine sum_intListG (I.ok.hd hc) hl fun h' tk t' hk=>?_
 have e2:preSum (numAt zs) zs.size=ns.sum:=by
  rw [preSum_eq,eJ (by simp),<- hn,<- nums_intItems,<- hz]
 rw[e2]
 exact⟨.int ns.sum,H,I.kept hk,⟨t',rfl⟩,q⟩
def Jg(f:Bool->Bool):R2:=fun x y H Q=>match x,y with
 | .bl a,.bl b=>Q (.bl (f (a==b))) H
 |_,_=>False
def ly(d:Addr)(o:Obj)(kvs:List (iE×V)):It:=
 ⟨fun i H=>H d=some (.frz o (.dK kvs))/\i<kvs.length,fun i H x H'=>H'=H/\∃kv,kvs[i]? =some kv/\x=kV kv.1,fun i H=>H d=some (.frz o (.dK kvs))/\kvs.length<=i⟩
theorem FK{k:iE}{v:Value}(h:mL k v=true):RelV (kV k) v:=by
 rcases lM h with⟨i,t,rfl,rfl⟩|⟨x,t,rfl,rfl⟩
 ·exact⟨t,rfl⟩
 ·exact⟨t,rfl⟩
theorem kv_at{kvs:List (iE×V)}{vs:List (iE×Value)}(r:KV kvs vs){i:Nat}{k:iE}{x:Value}(e:vs[i]? =some (k,x)):∃kv,kvs[i]? =some kv/\kv.1=k:=by
 obtain⟨kv,e1,e2⟩:=lO r e
 exact⟨kv,e1,e2.1⟩
theorem AV{P:Program}{w:World}{K:PySem.W.Frag}{tg:Expr}(d it:Addr)(o:Obj)(kvs:List (iE×V))(vs:List (iE×Value))(ep:Nat)(hne:d≠it)(rk:KV kvs vs)
  (hD:∀h:Heap,h.get? d=some o->h.DictAt (jR P w) d vs ep):Turn P w K tg (ly d o kvs) [it] it (fun i h=>h.IsKeyIter it d i vs.length ep)where
 mem:=by simp
 obj:=fun i h st b hb=>by
  have e:b=it:=by simpa using hb
  subst e
  obtain⟨o,e,c,d⟩:=st
  exact⟨o,e,fun v z=>by rw[d]at z;cases z⟩
 keep:=fun i h h' st k=>st.at fun o e=>k it (by simp) o e
 item:=by
  intro X hP hw hK hc i pins s σ H E I hf st hg
  subst hP hw hK
  obtain⟨hq,hx⟩:=hg
  obtain⟨eo,_⟩:=(show s.heap.get? d=some o/\_ from I.hok _ _ hq)
  have hl:=rk.length
  obtain⟨⟨k,x⟩,hx'⟩:∃p,vs[i]? =some p:=⟨vs[i]'(by lia),gE _⟩
  obtain⟨f0,f1,f2,f3,f4,f5⟩:=hf it (by simp)
  refine wpAny_pyNext_dict_item st (hD _ eo) hx' fun key h' hkey st' sb=>?_
  have I1:Inv X pins σ H {s with heap:=h'}:=I.turned (t':=s.toks) (fun b o hb e=>(sb.2 b hb).trans e) f0 f1 f3 f4 f5
  obtain⟨kv,e1,e2⟩:=kv_at rk hx'
  obtain⟨o',e,c,dd⟩:=id st'
  exact⟨key,rfl,qO (s:={s with heap:=h'}) e c dd (by decide) ⟨kV k,H,I1,FK hkey,⟨rfl,kv,e1,by rw[e2]⟩,st',fun b hb=>(hf b hb).1⟩⟩
 done:=by
  intro X hP hw hK hc i pins s σ H E I hf st hg
  subst hP hw hK
  obtain⟨hq,hx⟩:=hg
  obtain⟨eo,_⟩:=(show s.heap.get? d=some o/\_ from I.hok _ _ hq)
  have hl:=rk.length
  obtain⟨f0,f1,f2,f3,f4,f5⟩:=hf it (by simp)
  exact wpAny_pyNext_dict_end (I.ok.hd hc) st (hD _ eo) (List.getElem?_eq_none_iff.mpr (by lia)) fun h' eb=>⟨rfl,I.turned (t':=s.toks) (fun b o hb e=>eb b o hb e) f0 f1 f3 f4 f5⟩
 self:=fun _ _ _ _ _ st h=>wpAny_pyIter_keyiter st h
def su(tl:TE):TI:=fun σ H R=>tl σ H fun v H1=>∃d kvs,v= .ref d/\H1 d=some (.dK kvs)/\∀o,R (ly d o kvs) (upd H1 d (.frz o (.dK kvs)))
theorem uK{X:Cx}{tg l:Expr}{tl:TE}(hl:PE X l tl):PI X tg l (su tl):=by
 intro pins s σ H R I h
 refine iK (hl pins s σ H _ I h) fun v s1 ⟨x,H1,I1,r1,q1⟩=>?_
 obtain⟨d,kvs,e,hd,q⟩:=q1
 subst e
 cases r1
 obtain⟨z,lo,vs,rel,dd⟩:=nj I1.hok hd
 obtain⟨ep,hat⟩:=dd.dictAt
 obtain⟨o,es,eo,rest⟩:=id hat
 have I2:Inv X pins σ (upd H1 d (.frz o (.dK kvs))) {s1 with heap:=s1.heap,toks:=s1.toks}:=
  I1.write (x:=d) (e:=d) (by rw[hd];exact True.intro) (.inl rfl) (fun b u _ q=>q) ⟨o,eo⟩ (show jbf X.prog X.w _ s1.heap d (.frz o (.dK kvs))from⟨eo,z,lo,vs,rel,dd⟩)
 have I2:Inv X pins σ (upd H1 d (.frz o (.dK kvs))) s1:=I2
 have hdl:d<s1.heap.objs.size:=aE eo
 refine wpAny_pyIter_dict lo hat ?_
 refine⟨s1.heap.objs.size,[s1.heap.objs.size],_,_,_,rfl,I2.kept (t':=s1.toks) fun b o e=>af _ e,AV d _ o kvs vs ep (aU hdl) rel fun h e=>⟨o,es,e,rest⟩,⟨_,aF _ rfl,rfl,rfl⟩,fun b hb=>?_,q o⟩
 have e:b=s1.heap.objs.size:=by simpa using hb
 subst e
 exact I2.fpOk (av _) (I2.hok.fresh (av _))
theorem uX{d:Addr}{o:Obj}{kvs:List (iE×V)}{g:TG}{tb:TS}{D:Ends}{σ:St}{H:Hp}(Pv:Nat->St->Hp->Prop)(h0:Pv 0 σ H)(hl:∀i σ H,i<=kvs.length->Pv i σ H->H d=some (.frz o (.dK kvs)))
  (hs:∀i kv σ H,kvs[i]? =some kv->Pv i σ H->g (kV kv.1) σ H fun σ2 H2=>tb {D with nx:=Pv (i+1),ct:=Pv (i+1),bk:=D.nx} σ2 H2) (hd:∀σ H,Pv kvs.length σ H->D.nx σ H):
  ∃W:Nat->Nat->St->Hp->Prop,(∃m,W 0 m σ H)/\∀i m σ H,W i m σ H->
   ((ly d o kvs).stop i H/\D.nx σ H)\/((ly d o kvs).go i H/\∃N:St->Hp->Prop,(∀σ' H',N σ' H'->∃m',m'<m/\W (i+1) m' σ' H')/\∀x H',(ly d o kvs).yld i H x H'->g x σ H' fun σ2 H2=>tb {D with nx:=N,ct:=N,bk:=D.nx} σ2 H2):=by
 refine⟨fun i m σ H=>m=kvs.length-i/\i<=kvs.length/\Pv i σ H,⟨kvs.length,by simp,bI _,h0⟩,?_⟩
 rintro i m σ H ⟨rfl,hi,p⟩
 have q:=hl i σ H hi p
 by_cases hlt:i<kvs.length
 ·refine .inr ⟨⟨q,hlt⟩,Pv (i+1),fun σ' H' p'=>⟨kvs.length-(i+1),by lia,rfl,hlt,p'⟩,fun x H' y=>?_⟩
  obtain⟨e,kv,e1,e2⟩:=y
  subst e e2
  exact hs i kv σ H' e1 p
 ·have e:i=kvs.length:=by lia
  subst e
  exact .inl ⟨⟨q,av _⟩,hd σ H p⟩
def Cs(td ty:TE):TE:=fun σ H Q=>td σ H fun x H1=>∃a,x= .ref a/\B6 H1 a/\ty σ H1 fun y H2=>∃b kvs more,y= .ref b/\a≠b/\H2 a=some (.dK kvs)/\H2 b=some (.dK more)/\kvs.length+more.length<=1000/\Q .non (upd H2 a (.dK (lW kvs more)))
theorem EG{X:Cx}{o e:Expr}{apos cpos:Pos}{td ty:TE}(ho:PE X o td)(he:PE X e ty)(m:M1 X o "update" apos e cpos:=by exact⟨rfl,rfl,rfl,rfl⟩):PE X (.Call (.Attribute o "update" apos) [e] [] cpos) (Cs td ty):=by
 intro pins s σ H Q I h
 refine wpAny_Call_method m.base m.few m.line fS PySem.F.slot_dict_update PySem.F.type_dict_update (iK (ho pins s σ H _ I h) fun u s1 ⟨x,H1,I1,rx,a,ex,d,q1⟩=>?_)
 subst ex
 obtain rfl:u=Value.ref a:=rx
 obtain⟨t1,t2,_⟩:=uo I1 d
 refine⟨t1,t2,?_⟩
 rw[m.trees]
 refine dr rfl (gz (eA (iK (he pins s1 σ H1 _ I1 q1) fun iv s2 ⟨y,H2,I2,ry,b,kvs,more,ey,hab,ea,eb,hl,q2⟩=>fM ?_)))
 subst ey
 obtain rfl:iv=Value.ref b:=ry
 obtain⟨z1,lo1,vs1,rel1,dd1⟩:=nj I2.hok ea
 obtain⟨z2,lo2,vs2,rel2,dd2⟩:=nj I2.hok eb
 have h1000:(1000:Nat)<=sizeLine:=by decide
 refine gU PySem.F.slot_dict_update dd1.typeIs PySem.F.entry_dict_update (PySem.F.args_dict_update_2 _ _) (meets_dict_update (jR X.prog X.w) a b hab lo2)
  ⟨vs1,vs2,dd1,dd2,by rw [<- rel1.length,<- rel2.length]; lia,fun h' dd' _ hs=>?_⟩
 have hm:=vN more kvs
 have he:∃q,h'.get? a=some q:=let⟨q,_,_,hq,_⟩:=dd';⟨q,hq⟩
 exact⟨.non,_,rq I2 (by rw[ea];exact True.intro) hs he (qV (by lia) lo1 (rel2.merge rel1) dd'),rfl,q2⟩
theorem C3{X:Cx}:MtR X "list.pop" xr:=fun pins s σ H x xs v us Q I rx rv q=>DH pins s σ H x xs v us Q I rx rv q
section
variable{X:Cx}
def pE:V->List V->Hp->VK->Prop:=fun x vs H Q=>match x,vs with
 | .ref l,[.int k,y]=>match H l with
  |some (.lst xs)=>(0<=k/\k<=xs.length/\xs.length<1000)/\Q .non (upd H l (.lst (xs.take k.toNat++y::xs.drop k.toNat)))
  |_=>False
 |_,_=>False
theorem Fp(its:List Value)(k:Int)(u:Value)(h0:0<=k)(h1:k<=its.length):
  (fun xs:Array Value=>have j:=if k<0 then(k+(xs.size:Int)).toNat else min k.toNat xs.size;(xs.extract 0 j).push u++xs.extract j) its.toArray=(its.take k.toNat++u::its.drop k.toNat).toArray:=by
 have e:(if k<0 then(k+(its.toArray.size:Int)).toNat else min k.toNat its.toArray.size)=k.toNat:=by
  rw[au (by lia),aj]
  lia
 show((its.toArray.extract 0 (if k<0 then(k+(its.toArray.size:Int)).toNat else min k.toNat its.toArray.size)).push u++its.toArray.extract (if k<0 then(k+(its.toArray.size:Int)).toNat else min k.toNat its.toArray.size))=_
 rw[e]
 apply Array.ext'
 simp
 exact eJ (by rw[cU];lia)
theorem C7:MtR X "list.insert" pE:=by
 intro pins s σ H x vs v us Q I rx rv h
 unfold pE at h
 split at h
 ·rename_i l k y
  split at h
  ·rename_i xs hH
   obtain⟨⟨h0,h1,hz⟩,q⟩:=h
   cases rx
   obtain⟨u1,u2,rfl,r1,r2⟩:=rv.two
   obtain⟨t,rfl⟩:=r1
   obtain⟨z,its,n,r,hl,e⟩:=I.lstM hH
   have hsz:its.toArray.size<=sizeLine:=by rw[aj,fF];lia
   refine iu F.slot_list_insert ⟨_,e,rfl⟩ F.entry_list_insert (F.args_list_insert_3 _ _ _) (PySem.AutoSeq1.list_insert_list_int_val_1 l its.toArray n k t u2 (by unfold Builtin.List.listFitsIndex;simp;lia) hsz) ⟨e,?_⟩
   refine⟨.non,_,I.lset (its':=its.take k.toNat++u2::its.drop k.toNat) hH e (Fp its k u2 h0 (by lia)) (Vals.append (r.take _) (.cons r2 (r.drop _))) ?_,rfl,q⟩
   rw[aH,List.length_cons,aW,cU,fF]
   lia
  ·exact h.elim
 ·exact h.elim
def pI(tl:TE):TI:=fun σ H R=>tl σ H fun v H1=>∃d kvs o,v= .ref d/\H1 d=some (.frz o (.dK kvs))/\R (ly d o kvs) H1
theorem rS{tg l:Expr}{tl:TE}(hl:PE X l tl):PI X tg l (pI tl):=by
 intro pins s σ H R I h
 refine iK (hl pins s σ H _ I h) fun v s1 ⟨x,H1,I1,r1,q1⟩=>?_
 obtain⟨d,kvs,o,e,hd,q⟩:=q1
 subst e
 cases r1
 obtain⟨eo,hk⟩:=(show s1.heap.get? d=some o/\_ from I1.hok _ _ hd)
 obtain⟨z,lo,vs,rel,dd⟩:=hk
 obtain⟨ep,hat⟩:=dd.dictAt
 obtain⟨o',es,eo',rest⟩:=id hat
 obtain rfl:o=o':=aO (eo.symm.trans eo')
 have hdl:d<s1.heap.objs.size:=aE eo
 refine wpAny_pyIter_dict lo hat ?_
 refine⟨s1.heap.objs.size,[s1.heap.objs.size],_,_,_,rfl,I1.kept (t':=s1.toks) fun b o e=>af _ e,AV d _ o kvs vs ep (aU hdl) rel fun h e=>⟨o,es,e,rest⟩,⟨_,aF _ rfl,rfl,rfl⟩,fun b hb=>?_,q⟩
 have e:b=s1.heap.objs.size:=by simpa using hb
 subst e
 exact I1.fpOk (av _) (I1.hok.fresh (av _))
end
def me(C:Addr)(o:Option HO)(f:Str):Option V:=match o with
 |some (.ins C' _ fs)=>if C'=C then fs.lookup f else none
 |_=>none
def lq(C:Addr)(o:Option HO)(m:Str):Bool:=match o with
 |some (.ins C' _ fs)=>decide (C'=C)&&(fs.lookup m).isNone
 |_=>false
def BS(C:Addr)(f:Str)(ta:TE):TE:=fun σ H Q=>ta σ H fun x H1=>match x with
 | .ref a=>match me C (H1 a) f with
  |some v=>Q v H1
  |none=>False
 |_=>False
def xo(C:Addr)(f:Str)(ta tv:TE):TS:=fun D σ H=>tv σ H fun y H1=>ta σ H1 fun x H2=>match x with
 | .ref a=>match H2 a with
  |some (.ins C' dx fs)=>C'=C/\fs.length<1000/\D.nx σ (upd H2 a (.ins C dx (ji f y fs)))
  |_=>False
 |_=>False
def qN(C:Addr)(m:Str)(sp:Sp)(dvs:List V)(E:XK)(ta:TE)(t:TA):TE:=fun σ H Q=>ta σ H fun x H1=>match x with
 | .ref a=>lq C (H1 a) m=true/\t σ H1 fun vs H2=>sp (.ref a::(vs++dvs)) H2 Q E
 |_=>False
section
variable{X:Cx}{C:Addr}
theorem Fj{o:Option HO}{f:Str}{v:V}(h:me C o f=some v):∃dx fs,o=some (.ins C dx fs)/\fs.lookup f=some v:=by
 unfold me at h
 split at h
 ·split at h
  ·rename_i c;subst c;exact⟨_,_,rfl,h⟩
  ·cases h
 ·cases h
theorem Fx{o:Option HO}{m:Str}(h:lq C o m=true):∃dx fs,o=some (.ins C dx fs)/\fs.lookup m=none:=by
 unfold lq at h
 split at h
 ·rw[cR]at h
  have c:=bK h.1
  subst c
  exact⟨_,_,rfl,Option.isNone_iff_eq_none.mp h.2⟩
 ·cases h
theorem kQ{e:Expr}{f:Str}{pos:Pos}{ta:TE}(c:Cls X.K C)(n:jdt X.K C f)(he:PE X e ta)(hb:attributeBase e f X.env (eval e X.env)=eval e X.env):PE X (.Attribute e f pos) (BS C f ta):=by
 intro pins s σ H Q I h
 refine D7 hb (iK (he pins s σ H _ I h) fun u s1 ⟨x,H1,I1,rx,q⟩=>?_)
 dsimp only at q
 split at q
 ·rename_i a
  split at q
  ·rename_i v hv
   obtain⟨dx,fs,ea,l⟩:=Fj hv
   obtain rfl:u=Value.ref a:=rx
   exact GV I1 ea c n l fun u' s2 I2 ru=>⟨v,H1,I2,ru,q⟩
  ·exact q.elim
 ·exact q.elim
theorem uP{o value:Expr}{f:Str}{pos pos':Pos}{ta tv:TE}(c:Cls X.K C)(n:jdt X.K C f)(ha:PE X o ta)(hv:PE X value tv)(hs:swapsWith value (some (.Attribute o f pos')) pos.line X.env=pure false):PS X (.Assign [.Attribute o f pos'] value pos) (xo C f ta tv):=by
 intro pins s σ H D I h
 refine plainObj_wpAny_Assign_Attribute (iK (hv pins s σ H _ I h) fun u s1 ⟨y,H1,I1,ry,q⟩=>iK (ha pins s1 σ H1 _ I1 q) fun ov s2 ⟨x,H2,I2,rx,q2⟩=>?_) hs
 dsimp only at q2
 split at q2
 ·rename_i a
  split at q2
  ·rename_i C' dx fs ea
   obtain⟨rfl,l,q2⟩:=q2
   obtain rfl:ov=Value.ref a:=rx
   exact Hn I2 ea c n l ry fun s3 I3=>⟨σ,_,I3,q2⟩
  ·exact q2.elim
 ·exact q2.elim
theorem zU{m:Str}{sp:Sp}{dvs:List V}{E:XK}{ta:TE}{t:TA}{ex:Expr}(h:PE X ex (t8 C m sp dvs E ta t))(hmono:∀pins s σ H Q Q',Inv X pins σ H s->(∀x H1,Q x H1->Q' x H1)->ta σ H Q->ta σ H Q'):PE X ex (qN C m sp dvs E ta t):=by
 intro pins s σ H Q I q
 refine h pins s σ H Q I (hmono pins s σ H _ _ I (fun x H1 q=>?_) q)
 split at q
 ·rename_i a
  obtain⟨dx,fs,e,l⟩:=Fx q.1
  exact⟨a,dx,fs,rfl,e,l,q.2⟩
 ·exact q.elim
theorem u7{i:Nat}:∀(pins:List (Addr×Obj)) s σ H Q Q',Inv X pins σ H s->(∀x H1,Q x H1->Q' x H1)->kc i σ H Q->kc i σ H Q':=by
 intro pins s σ H Q Q' _ h q
 unfold kc at q ⊢
 split
 ·rename_i v e
  rw[e]at q
  exact h _ _ q
 ·rename_i hne
  split at q
  ·rename_i v e;exact absurd e (hne v)
  ·exact q
theorem lZ{CX:kW}{k:Nat}{f:Addr}{fd:FuncData}{ps:List Str}{sp:Sp}{dvs:List V}{ds:List Value}{E:XK}{m:Str}{pos apos:Pos}{e o:Expr}{es:List Expr}{i:Nat}{t:TA}{pl:Sem Bool}
  (he:PE X o (kc i)) (c:Cls X.K C) (hm:Meth X.K C m f) (F:FnOk X.prog X.w X.K X.mg X.base CX k f fd ps sp) (hr:Room k X.A) (hb:jel X.K fd ps ds) (hd:Vals dvs ds) (hx:mm CX X E) (ha:PA X (e::es) t)
  (hst:starEach (e::es) X.env=(false,eval e X.env)::starEach es X.env:=by rfl) (hpl:(backTo pos (starEach es X.env)).any (·.1)=false:=by rfl)
  (ht:eval (.Call (.Attribute o m apos) (e :: es) [] pos) X.env = (do
   let ov <- eval o X.env
   standAt apos.atName
   let (f,first) <- holding [ov] (getMethod ov m pl)
   callWith pos f first (backTo pos (starEach (e::es) X.env)) (backToKw pos (keywordEach [] X.env))):=by rfl):
  PE X (.Call (.Attribute o m apos) (e::es) [] pos) (qN C m sp dvs E (kc i) t):=
 zU (EI (pl:=pl) he c hm F hr hb hd hx ha hst hpl ht) u7
theorem Gu{CX:kW}{k:Nat}{f:Addr}{fd:FuncData}{ps:List Str}{sp:Sp}{dvs:List V}{ds:List Value}{E:XK}{m:Str}{pos apos:Pos}{o:Expr}{i:Nat}{pl:Sem Bool}
  (he:PE X o (kc i)) (c:Cls X.K C) (hm:Meth X.K C m f) (F:FnOk X.prog X.w X.K X.mg X.base CX k f fd ps sp) (hr:Room k X.A) (hb:jel X.K fd ps ds) (hd:Vals dvs ds) (hx:mm CX X E)
  (ht:eval (.Call (.Attribute o m apos) [] [] pos) X.env = (do
   let ov <- eval o X.env
   standAt apos.atName
   let (f,first) <- holding [ov] (getMethod ov m pl)
   callWith pos f first (backTo pos (starEach [] X.env)) (backToKw pos (keywordEach [] X.env))):=by rfl):
  PE X (.Call (.Attribute o m apos) [] [] pos) (qN C m sp dvs E (kc i) n4):=
 zU (FC (pl:=pl) he c hm F hr hb hd hx ht) u7
end
section
variable{X:Cx}
def ug(td ty:TE):TE:=fun σ H Q=>td σ H fun x H1=>match x with
 | .ref a=>(∃kvs,H1 a=some (.dK kvs))/\ty σ H1 fun y H2=>match y with
  | .int n=>match H2 a with
   |some (.dK kvs)=>Q ((jb kvs (Sum.inl n:iE)).getD .non) H2
   |_=>False
  |_=>False
 |_=>False
theorem EO{o e:Expr}{apos cpos:Pos}{td ty:TE}(hu:X.A.units+1<cLine)(ho:PE X o td)(he:PE X e ty)(m:M1 X o "get" apos e cpos:=by exact⟨rfl,rfl,rfl,rfl⟩):PE X (.Call (.Attribute o "get" apos) [e] [] cpos) (ug td ty):=by
 intro pins s σ H Q I h
 refine wpAny_Call_method m.base m.few m.line fS gq PySem.F.type_dict_get (iK (ho pins s σ H _ I h) fun u s1 ⟨x,H1,I1,rx,q1⟩=>?_)
 dsimp only at q1
 split at q1
 ·rename_i a
  obtain⟨⟨kvs0,e0⟩,q1⟩:=q1
  obtain rfl:u=Value.ref a:=rx
  obtain⟨t1,t2,_⟩:=uo I1 (.inl ⟨kvs0,.inl e0⟩)
  refine⟨t1,t2,?_⟩
  rw[m.trees]
  refine dr rfl (gz (eA (iK (he pins s1 σ H1 _ I1 q1) fun iv s2 ⟨y,H2,I2,ry,q2⟩=>fM ?_)))
  dsimp only at q2
  split at q2
  ·rename_i n
   split at q2
   ·rename_i kvs ea
    exact Js hu I2 (DGet.k (k:=Sum.inl n) ea) ry fun w' s3 I3 rw'=>⟨_,H2,I3,rw',q2⟩
   ·exact q2.elim
  ·exact q2.elim
 ·exact q1.elim
def ui(i:Nat):TE:=fun σ H Q=>match σ[i]? with
 |some (some (.int n))=>∀p,H p=none->Q (.ref p) (upd H p (.dK [(Sum.inl n,.non)]))
 |_=>False
theorem EY{H:Hp}{p:Addr}{a b:HO}:upd (upd H p a) p b=upd H p b:=by
 funext x
 by_cases c:x=p
 ·rw[c,iF,iF]
 ·rw[iJ c,iJ c,iJ c]
theorem FB{pos:Pos}{k v:Expr}{i:Nat}(hk:PE X k (kc i))(hv:PE X v (tC .non)):PE X (.Dict [some k] [v] pos) (ui i):=by
 intro pins s σ H Q I q
 refine uJ (vb hk hv uM) rfl rfl (fun z=>nomatch z) (du rfl) pins s σ H Q I ?_
 intro p hp
 unfold ui at q
 split at q
 ·rename_i n e
  show kc i σ (upd H p (.dK [])) _
  unfold kc
  rw[e]
  show tC V.non σ _ _
  refine⟨iF,[(Sum.inl n,.non)],rfl,du rfl,?_⟩
  rw[EY]
  exact q p hp
 ·exact q.elim
def tP:V->V->Hp->VK->Prop:=fun o i H Q=>match o,i with
 | .ref p,.int k=>match H p with
  |some (.lst xs)=>0<=k/\match je xs k with
   |some v=>Q v H
   |none=>False
  |_=>False
 |_,_=>False
theorem Az:B3 X tP:=by
 intro pins s σ H o i ov iv Q I ro ri h
 unfold tP at h
 split at h
 ·rename_i p k
  split at h
  ·rename_i xs hp
   obtain⟨k0,h⟩:=h
   split at h
   ·rename_i v hv
    cases ro
    obtain⟨t,rfl⟩:=ri
    obtain⟨its,r,pl,hz⟩:=I.list (SqL.of hp)
    obtain⟨j,h1,h2,h3,h4,h5⟩:=uB hv
    obtain⟨w,ew,rw'⟩:=r.get h2
    have hn:=nE
    have hj:k.toNat=j:=by
     rw[hU k0 h5]at h1
     exact aO h1
    exact wpAny_getItem_list pl.isList k0 (by lia) (by rw[hj];simpa using ew) ⟨v,H,I,rw',h⟩
   ·exact h.elim
  ·exact h.elim
 ·exact h.elim
def tL:mF:=fun x y H Q=>match x,y with
 | .int i,.int j=>Q (.int (i-j)) H
 |_,_=>False
def tK:mF:=fun x y H Q=>match x,y with
 | .int i,.int j=>Q (.int (i+j)) H
 |_,_=>False
theorem Es:oX X .Sub tL:=by
 intro pins s σ H x y v u Q I r1 r2 h
 unfold tL at h
 split at h
 ·rename_i i j
  obtain⟨t,rfl⟩:=(show ∃t,v=Value.int i t from r1)
  obtain⟨t',rfl⟩:=(show ∃t,u=Value.int j t from r2)
  exact PyProof.Rows.isub_int ⟨.int (i-j),H,I.tok _,⟨_,rfl⟩,h⟩
 ·exact h.elim
theorem Er:oX X .Add tK:=by
 intro pins s σ H x y v u Q I r1 r2 h
 unfold tK at h
 split at h
 ·rename_i i j
  obtain⟨t,rfl⟩:=(show ∃t,v=Value.int i t from r1)
  obtain⟨t',rfl⟩:=(show ∃t,u=Value.int j t from r2)
  exact PyProof.Rows.iadd_int ⟨.int (i+j),H,I.tok _,⟨_,rfl⟩,h⟩
 ·exact h.elim
def vU:R2:=fun x y H Q=>match x,y with
 | .int i,.int j=>Q (.int (Builtin.bitXor i j)) H
 |_,_=>False
theorem tY:OpR X (binaryOp .BitXor) vU:=by
 intro pins s σ H x y v u Q I r1 r2 h
 unfold vU at h
 split at h
 ·rename_i i j
  obtain⟨t,rfl⟩:=(show ∃t,v=Value.int i t from r1)
  obtain⟨t',rfl⟩:=(show ∃t,u=Value.int j t from r2)
  exact PyProof.Rows.xor_int ⟨.int (Builtin.bitXor i j),H,I.tok _,⟨_,rfl⟩,h⟩
 ·exact h.elim
theorem E6(w:Nat):Builtin.bitXor (w:Int) 1=((if w%2=0 then w+1 else w-1:Nat):Int):=by
 have h1:(w|||1:Nat)=2*(w/2)+1:=by
  have a:=Nat.or_div_two (a:=w) (b:=1)
  have b:(w|||1)%2=1:=by rw[Nat.or_mod_two_eq_one];right;rfl
  rw[show 1/2=0 from rfl,Nat.or_zero]at a
  lia
 have h2:(w&&& 1:Nat)=w%2:=Nat.and_one_is_mod w
 have n1:¬(0:Int)<= -(w:Int)-1:=by lia
 have e:Builtin.bitXor (w:Int) 1=((w|||1:Nat):Int)-((w&&& 1:Nat):Int):=by
  unfold Builtin.bitXor Builtin.bitOr Builtin.bitAnd Builtin.bitNot
  simp only[aC n1,show decide ((0:Int)<= -(1:Int)-1)=false from rfl,show decide ((0:Int)<=(w:Int))=true from az (by lia),show decide ((0:Int)<=1)=true from rfl]
  simp only[show(-(-(w:Int)-1)-1).toNat=w by lia,show(-(-(1:Int)-1)-1).toNat=1 from rfl,show((w:Int)).toNat=w from rfl,show((1:Int)).toNat=1 from rfl]
  lia
 rw[e,h1,h2]
 split<;>lia
def ju{α:Type}:Bool->List α->List α
 |_,[]=>[]
 |true,x::xs=>x::ju false xs
 |false,_::xs=>ju true xs
def BY(b:Bool)(te:TE):TE:=fun σ H Q=>te σ H fun x H1=>match x with
 | .ref a=>match H1 a with
  |some (.lst xs)=>∀p,H1 p=none->Q (.ref p) (upd H1 p (.lst (ju b xs)))
  |_=>False
 |_=>False
theorem vm:∀(b:Bool) {vs:List V} {us:List Value},Vals vs us->Vals (ju b vs) (ju b us)
 |_,_,_,.nil=>by cases ‹Bool›<;>exact .nil
 |true,_,_,.cons r t=>.cons r (vm false t)
 |false,_,_,.cons _ t=>vm true t
theorem uz{α:Type}:∀(b:Bool) (xs:List α),(ju b xs).length<=xs.length
 |true,[]=>av _
 |false,[]=>av _
 |true,x::xs=>by have:=uz false xs;show(ju false xs).length+1<=xs.length+1;lia
 |false,x::xs=>by have:=uz true xs;show(ju true xs).length<=xs.length+1;lia
theorem pO{α:Type}:∀(b:Bool) (xs:List α) (i:Nat),(ju b xs)[i]? =xs[2*i+(if b then 0 else 1)]?
 |true,[],i=>by simp[ju]
 |false,[],i=>by simp[ju]
 |true,x::xs,0=>rfl
 |true,x::xs,i+1=>by
  show(ju false xs)[i]? =_
  rw[pO false xs i,aw rfl,au (by decide),show 2*(i+1)+0=(2*i+1)+1 by lia,List.getElem?_cons_succ]
 |false,x::xs,i=>by
  show(ju true xs)[i]? =_
  rw[pO true xs i,aw rfl,au (by decide),List.getElem?_cons_succ]
  rfl
theorem FE(its:List Value)(b:Bool)(hb:b=false->0<its.length):slicePick its.toArray (some (if b then 0 else 1)) none (some 2)=(ju b its).toArray:=by
 unfold slicePick
 congr 1
 have h1:sliceBounds (some (if b then 0 else 1)) none (some 2) its.toArray.size=(((if b then 0 else 1:Nat):Int),(its.length:Int),2):=by
  cases b
  ·have:=hb rfl
   simp[sliceBounds]
   lia
  ·simp[sliceBounds]
   lia
 rw[h1]
 dsimp only
 have h2:∀c:Nat,sliceRange ((c:Nat):Int) (its.length:Int) 2=(List.range ((its.length+1-c)/2)).map fun k=>c+2*k:=fun c=>by
  unfold sliceRange
  dsimp only
  rw[aw (by decide)]
  have e:(if(c:Int)<(its.length:Int)then((its.length:Int)-c+2-1)/2 else 0).toNat=(its.length+1-c)/2:=by
   split<;>lia
  rw[e]
  exact dJ fun k _=>by lia
 rw[h2,dY]
 have h3:∀(l:List Nat),(∀k∈l,(if b then 0 else 1)+2*k<its.length)->l.filterMap ((fun x=>its.toArray[x]?)∘fun k=>(if b then 0 else 1)+2*k)=l.map fun k=>its.getD ((if b then 0 else 1)+2*k) .none:=fun l=>by
  induction l with
  |nil=>intro _;rfl
  | cons k r ih=>
   intro hk
   have hk0:=hk k (.head _)
   rw[List.filterMap_cons]
   have e:((fun x=>its.toArray[x]?)∘fun k=>(if b then 0 else 1)+2*k) k=some (its.getD ((if b then 0 else 1)+2*k) .none):=by
    show its.toArray[(if b then 0 else 1)+2*k]? =_
    rw[List.getElem?_toArray,aI,gE hk0]
    rfl
   rw[e]
   dsimp only
   rw[aq,ih fun j hj=>hk j (.tail _ hj)]
 rw[h3 _ fun k hk=>by have:=aV.mp hk;cases b<;>simp only[if_true,if_false,aK]at this ⊢ <;>lia]
 apply eL
 intro i
 rw[pO,aA]
 by_cases c:2*i+(if b then 0 else 1)<its.length
 ·rw[c9 (by cases b<;>simp only[if_true,if_false,aK]at c ⊢ <;>lia)]
  show some (its.getD _ .none)=_
  rw[aI,Nat.add_comm,gE c]
  rfl
 ·rw[bD (by rw[bC];cases b<;>simp only[if_true,if_false,aK]at c ⊢ <;>lia),bD (by lia)]
  rfl
theorem Dh{b:Bool}{c:Int}(hc:c=if b then 0 else 1){e:Expr}{te:TE}{k k2:Nat}{z1 z2 p2 pos:Pos}(he:PE X e te):PE X (.Subscript e (.Slice (some (.Constant (.int c) k2 z2)) none (some (.Constant (.int 2) k z1)) p2) pos) (BY b te):=by
 intro pins s σ H Q I h
 refine gO (iK (he pins s σ H _ I h) fun v s1 ⟨x,H1,I1,r1,q1⟩=>?_)
 refine wpAny_Slice ?_
 simp only[evalPart_none]
 rw[evalPart_some]
 refine iK ((iG (i:=c) (j:=k2) (pos:=z2):PE X _ _) pins s1 σ H1 (fun y H2=>y= .int c/\H2=H1) I1 ⟨rfl,rfl⟩) fun st s2 ⟨y,H2,I2,r2,ey,eh⟩=>?_
 subst ey eh
 obtain⟨t1,rfl⟩:=r2
 refine ak ?_
 rw[evalPart_some]
 refine iK ((iG (i:=2) (j:=k) (pos:=z1):PE X _ _) pins s2 σ H2 (fun y H3=>y= .int 2/\H3=H2) I2 ⟨rfl,rfl⟩) fun st s3 ⟨y,H3,I3,r3,ey,eh⟩=>?_
 subst ey eh
 obtain⟨t2,rfl⟩:=r3
 split at q1
 ·rename_i a
  split at q1
  ·rename_i xs ea
   cases r1
   have I4:Inv X pins σ H3 {s3 with heap:=s3.heap.push {cls:=.type "slice",data:=.fields #[.int c t1,.none,.int 2 t2]}}:=I3.kept (t':=s3.toks) fun b ob q=>af _ q
   obtain⟨its,r,ht,hz⟩:=I4.list (SqL.of ea)
   have hlen:=r.length
   show wpAny (model X.prog X.w) X.A (subscriptTail e (.Slice (some (.Constant (.int c) k2 z2)) none (some (.Constant (.int 2) k z1)) p2) (.ref a) (.ref s3.heap.objs.size)) (EP X pins σ Q) X.xe {s3 with heap:=s3.heap.push {cls:=.type "slice",data:=.fields #[.int c t1,.none,.int 2 t2]}}
   refine tail_any (ops:=[.ref a,.ref s3.heap.objs.size]) ht.isList.typeIs fE.lookup ?_ (by with_unfolding_all rfl)
   refine fN ht.isList (gT ..) (.int _ t1) .none (.int 2 t2) (by decide) ?_ (by rw[aj]<;>lia)
   by_cases hb:b=false->0<its.length
   ·rw[show slicePick its.toArray (some c) none (some 2)=(ju b its).toArray from by rw[hc];exact FE _ _ hb]
    refine⟨.ref _,_,I4.laid (t':=s3.toks) (o:=.lst (ju b xs)) (fun b ob q=>af _ q) (av _) ?_,rfl,q1 _ (I4.hok.fresh (av _))⟩
    exact⟨by have:=uz b xs;lia,_,0,vm b r,aF _ rfl⟩
   ·have hi:its=[]:=cL fun z=>hb fun _=>dM.mpr z
    have hx:xs=[]:=List.length_eq_zero_iff.mp (by rw[hi]at hlen;exact hlen)
    subst hi hx
    have e2:ju b ([]:List V)=[]:=by cases b<;>rfl
    rw[e2]at q1
    have e3:slicePick ([]:List Value).toArray (some c) none (some 2)=([]:List Value).toArray:=by rw[hc];cases b<;>rfl
    rw[e3]
    refine⟨.ref _,_,I4.laid (t':=s3.toks) (o:=.lst []) (fun b ob q=>af _ q) (av _) ?_,rfl,q1 _ (I4.hok.fresh (av _))⟩
    exact⟨bI _,_,0,.nil,aF _ rfl⟩
  ·exact q1.elim
 ·exact q1.elim
def pF(ta:TE):TT:=fun σ H Q=>ta σ H fun x H1=>match x with
 | .ref a=>match H1 a with
  |some (.lst xs)=>Q (!xs.isEmpty) H1
  |_=>False
 |_=>False
theorem yW {a:Expr} {i:Nat} (ha:PE X a (kc i)) (he:∀ whole,isTrue a X.env whole = (do let v <- whole; standAt a.pos; holding [v] (truthy v)):=by exact fun _=>rfl):PT X a (pF (kc i)):=by
 intro pins s σ H Q I h
 refine FH ha he pins s σ H Q I ?_
 show kc i σ H _
 have h:kc i σ H _:=h
 refine u7 pins s σ H _ _ I (fun x H1 q=>?_) h
 split at q
 ·rename_i a
  split at q
  ·rename_i xs e
   exact⟨_,.inl ⟨xs,SqL.of e,rfl⟩,q⟩
  ·exact q.elim
 ·exact q.elim
end
end L2
namespace My
open PySem L2
theorem Cz:(0<=sizeLine)=True:=eq_true (by decide)
theorem Cy:(1<=sizeLine)=True:=eq_true (by decide)
theorem o8:(2<=sizeLine)=True:=eq_true (by decide)
theorem Cw:(3<=sizeLine)=True:=eq_true (by decide)
theorem Cv:(4<=sizeLine)=True:=eq_true (by decide)
end My
local macro_rules | `(tactic| walk_at "SC") => `(tactic| exact ⟨rfl,rfl,rfl,by decide +kernel,rfl,by decide +kernel,by decide +kernel⟩)
local macro_rules | `(tactic| simp_arith [$args,*]) => do
 let l<-("L2.pE L2.Jg L2.nZ L2.wV L2.wZ L2.wQ L2.Cq L2.qA L2.qE L2.kh L2.wo L2.nc L2.sY L2.tC L2.kc L2.fI L2.fIC L2.vX L2.wg L2.vY L2.oS L2.pK L2.BX L2.Jf L2.BR L2.fB L2.wU L2.xg L2.wR L2.xQ L2.wd L2.sy L2.uF L2.vZ L2.wb L2.Jh L2.vW L2.wN L2.BQ L2.zl L2.uE L2.BW L2.tN L2.BO L2.oh L2.ow L2.oi L2.Ji L2.Jj L2.yb L2.yl L2.wm L2.Jk L2.BV L2.vV L2.tM L2.xb L2.wj L2.BU L2.we L2.Jl L2.uh L2.wc L2.xa L2.qD L2.qU L2.n4 L2.wL L2.wX L2.wY L2.wM L2.Kd.nm L2.ml aq cq List.length_cons List.length_nil Nat.reduceAdd Nat.reduceSub List.replicate_succ List.replicate_zero List.getElem?_cons_zero List.getElem?_cons_succ List.set_cons_zero List.set_cons_succ bt List.nil_append List.cons_append eq_self true_and and_true if_true aK if_false c8 eN id_eq My.Cz My.Cy My.o8 My.Cw My.Cv L2.pF L2.tL L2.qN L2.tP L2.xf L2.wW L2.BS L2.tK L2.BY L2.ui L2.ug L2.xo L2.vU".splitOn " ").toArray.mapM fun s=>`(Lean.Parser.Tactic.simpLemma| $(Lean.mkIdent s.toName):ident)
 `(tactic| try simp only [$l,*,$args,*])
local macro_rules | `(tactic| walk_at "D") => `(tactic| simp_arith [L2.pE])
namespace My
open PySem L2
theorem sZ{n:Nat}(h:n<=1000):n<=sizeLine:=bz h (by decide)
theorem jk{n:Nat}(h:n<=1000):n<sizeLine:=gQ h (by decide)
def iI(i:Nat):Stmt:=PySem.Challenge.pw_touchall_k62_pairings_along_strings.main.body.getD i (.Pass ⟨0,0,0,0⟩)
structure DefAt(K:PySem.W.Frag)(mg:Str->Option Value)(x:Str)(st:Stmt)(ps:List Str)(f:Addr)(fd:FuncData):Prop where
 F:Fun K x x st f fd
 b:jel K fd ps []
 m:mg x=some (.ref f)
structure Blt(mg:Str->Option Value):Prop where
 len:mg "len"=none
 isinstance:mg "isinstance"=none
 all:mg "all"=none
 min:mg "min"=none
 list:mg "list"=none
 dict:mg "dict"=none
 int:mg "int"=none
 bool:mg "bool"=none
 str:mg "str"=none
 tuple:mg "tuple"=none
 range:mg "range"=none
 enumerate:mg "enumerate"=none
 zip:mg "zip"=none
 max:mg "max"=none
 any:mg "any"=none
 sum:mg "sum"=none
 sorted:mg "sorted"=none
 set:mg "set"=none
structure Cst(mg:Str->Option Value)(t1 t2 t3 t4:Tok):Prop where
 MOST_PLACES:mg "MOST_PLACES"=some (.int 40 t1)
 MOST_TIES:mg "MOST_TIES"=some (.int 120 t2)
 LAST_PLACE:mg "LAST_PLACE"=some (.int 999 t3)
 MOST_PRICE:mg "MOST_PRICE"=some (.int 1000000000000 t4)
section
variable{P:Program}{w:World}{K:PySem.W.Frag}{mg:Str->Option Value}{base:Heap}{c1 c2 c3 c4:Tok}
theorem jw{α:Type}{x:α}{r:List α}:je (x::r) 0=some x:=by
 have e:je (x::r) ((0:Nat):Int)=some x:=k4 rfl
 exact e
theorem jX{α:Type}{x y:α}{r:List α}:je (x::y::r) 1=some y:=by
 have e:je (x::y::r) ((1:Nat):Int)=some y:=k4 rfl
 exact e
theorem mD{α:Type}{x y z:α}{r:List α}:je (x::y::z::r) 2=some z:=by
 have e:je (x::y::z::r) ((2:Nat):Int)=some z:=k4 rfl
 exact e
def pY:Kd->Bool
 | .int=>true
 |_=>false
def rL:Sp:=fun vs H Q _=>∃x k,vs=[x]/\kd H x=some k/\Q (.bl (pY k)) H
def vC:Sp:=fun vs H Q _=>∃a xs m,vs=[.ref a,.int m]/\H a=some (.tup xs)/\Q (.bl (decide ((xs.length:Int)=m))) H
def vH:Sp:=fun vs H Q _=>∃a xs m,vs=[.ref a,.int m]/\H a=some (.lst xs)/\Q (.bl (decide ((xs.length:Int)<=m))) H
def uw:Sp:=fun vs H Q _=>∃x p,vs=[x]/\Pr H x p/\Q (.bl true) H
def BE:Sp:=fun vs H Q _=>∃x p l s,vs=[x,.int l,.int s]/\Pr H x p/\(l<p.1/\p.1<=999/\1<=p.2/\p.2<=1000000000000-s)/\Q (.bl true) H
def j6(kvs:List (iE×V))(n:Int):Bool:=(jb kvs (Sum.inl n:iE)).isSome
def Bw:Sp:=fun vs H Q _=>∃x p y q d kvs,vs=[x,y,.ref d]/\Pr H x p/\Pr H y q/\H d=some (.dK kvs)/\(HT.lexLt [q.1,q.2] [p.1,p.2]=true/\p.1<p.2/\j6 kvs p.1=true/\j6 kvs p.2=true)/\Q (.bl true) H
theorem Hy(B:Blt mg)(D:DefAt K mg "is_whole" (iI 11) ["thing"] f fd):FnOk P w K mg base iQ 1 f fd ["thing"] rL:=by
 have sc:FnScope ["thing"] ["thing"] (ja (iI 11)):=by walk_at "SC"
 refine D.F.ok sc (fun vs H Q E h=>?_) (fun cdv A outer s H vs Q E hr h=>?_)
 ·obtain⟨x,k,rfl,_⟩:=h
  rfl
 obtain⟨x,k,rfl,ek,h⟩:=h
 have hu:=jl hr
 have hu0:_<PySem.cLine:=aD hu
 refine⟨_,(iN (jg (lV (jh (mP .int) rfl B.isinstance bV (iC (qv 0) (iC (mU (v:=.ty "int") rfl B.int gr rfl) iD))) (nF (xy (jh (mP .bl) rfl B.isinstance bV (iC (qv 0) (iC (mU (v:=.ty "bool") rfl B.bool PyProof.Rows.boot_bool rfl) iD)))))))),?_⟩
 simp_arith[ek]
 cases k<;>simpa only[mV,pY,if_true,if_false,aK,c8,eN]using h
theorem IF(B:Blt mg)(D:DefAt K mg "is_tuple_of" (iI 12) ["thing","many"] f fd):FnOk P w K mg base iQ 1 f fd ["thing","many"] vC:=by
 have sc:FnScope ["thing","many"] ["thing","many"] (ja (iI 12)):=by walk_at "SC"
 refine D.F.ok sc (fun vs H Q E h=>?_) (fun cdv A outer s H vs Q E hr h=>?_)
 ·obtain⟨a,xs,m,rfl,_⟩:=h
  rfl
 obtain⟨a,xs,m,rfl,ea,h⟩:=h
 have hu:=jl hr
 have hu0:_<PySem.cLine:=aD hu
 refine⟨_,(iN (jg (lV (jh (mP .tup) rfl B.isinstance bV (iC (qv 0) (iC (mU (v:=.ty "tuple") rfl B.tuple PyProof.Rows.boot_tuple rfl) iD))) (nF (nK mJ (jh kY rfl B.len bP (iC (qv 0) iD)) (qv 1) (jr _)))))),?_⟩
 simp_arith[kd,ea,iW,mV]
 exact h
theorem IP(B:Blt mg)(D:DefAt K mg "is_list_up_to" (iI 14) ["thing","most"] f fd):FnOk P w K mg base iQ 1 f fd ["thing","most"] vH:=by
 have sc:FnScope ["thing","most"] ["thing","most"] (ja (iI 14)):=by walk_at "SC"
 refine D.F.ok sc (fun vs H Q E h=>?_) (fun cdv A outer s H vs Q E hr h=>?_)
 ·obtain⟨a,xs,m,rfl,_⟩:=h
  rfl
 obtain⟨a,xs,m,rfl,ea,h⟩:=h
 have hu:=jl hr
 have hu0:_<PySem.cLine:=aD hu
 refine⟨_,(iN (jg (lV (jh (mP .lst) rfl B.isinstance bV (iC (qv 0) (iC (mU (v:=.ty "list") rfl B.list di rfl) iD))) (nF (nK qH (jh kY rfl B.len bP (iC (qv 0) iD)) (qv 1) (jr _)))))),?_⟩
 simp_arith[kd,ea,iW,mV]
 exact h
theorem IT(B:Blt mg)(D:DefAt K mg "is_pair_of_wholes" (iI 13) ["thing"] f fd)(Dqd:DefAt K mg "is_tuple_of" (iI 12) ["thing","many"] fqd dqd)(Gqd:FnOk P w K mg base iQ 1 fqd dqd ["thing","many"] vC)(Dqj:DefAt K mg "is_whole" (iI 11) ["thing"] fqj dqj)(Gqj:FnOk P w K mg base iQ 1 fqj dqj ["thing"] rL):FnOk P w K mg base iQ 2 f fd ["thing"] uw:=by
 have sc:FnScope ["thing"] ["thing"] (ja (iI 13)):=by walk_at "SC"
 refine D.F.ok sc (fun vs H Q E h=>?_) (fun cdv A outer s H vs Q E hr h=>?_)
 ·obtain⟨x,p,rfl,_⟩:=h
  rfl
 obtain⟨x,p,rfl,⟨a,rfl,ea⟩,h⟩:=h
 have hu:=jl hr
 have hu0:_<PySem.cLine:=aD hu
 refine⟨_,(iN (jg (lV (i8 Gqd (hr.mono (by decide)) rfl Dqd.m Dqd.F.kp Dqd.b .nil iX (iC (qv 0) (iC iG iD))) (lV (i8 Gqj (hr.mono (by decide)) rfl Dqj.m Dqj.F.kp Dqj.b .nil iX (iC (iO iP (qv 0) iG (fun _ _=>rfl)) iD)) (nF (i8 Gqj (hr.mono (by decide)) rfl Dqj.m Dqj.F.kp Dqj.b .nil iX (iC (iO iP (qv 0) iG (fun _ _=>rfl)) iD))))))),?_⟩
 simp_arith[iW,ea,jw,jX]
 refine⟨a,_,2,rfl,ea,?_⟩
 simp_arith[iW,ea,jw,jX,Int.cast_ofNat_Int,c0]
 refine⟨_,.int,rfl,rfl,?_⟩
 simp_arith[pY,iW,ea,jw,jX]
 exact⟨_,.int,rfl,rfl,h⟩
theorem IK(B:Blt mg)(C:Cst mg c1 c2 c3 c4)(D:DefAt K mg "place_stands" (iI 21) ["thing","last","spent"] f fd)(Dqc:DefAt K mg "is_pair_of_wholes" (iI 13) ["thing"] fqc dqc)(Gqc:FnOk P w K mg base iQ 2 fqc dqc ["thing"] uw):FnOk P w K mg base iQ 3 f fd ["thing","last","spent"] BE:=by
 have sc:FnScope ["thing","last","spent"] ["thing","last","spent"] (ja (iI 21)):=by walk_at "SC"
 refine D.F.ok sc (fun vs H Q E h=>?_) (fun cdv A outer s H vs Q E hr h=>?_)
 ·obtain⟨x,p,l,s,rfl,_⟩:=h
  rfl
 obtain⟨x,p,l,sp,rfl,hp,⟨b1,b2,b3,b4⟩,h⟩:=h
 obtain⟨a,rfl,ea⟩:=id hp
 have hu:=jl hr
 have hu0:_<PySem.cLine:=aD hu
 refine⟨_,(iH (jK (lX (lL (i8 Gqc (hr.mono (by decide)) rfl Dqc.m Dqc.F.kp Dqc.b .nil iX (iC (qv 0) iD)))) (iN (jg ny)) jL) (iN (jg (lV (yY ng qH (qv 1) (iO iP (qv 0) iG (fun _ _=>rfl)) (lD (v:=.int 999) rfl C.LAST_PLACE ⟨_,rfl⟩)) (nF (yY qH qH iG (iO iP (qv 0) iG (fun _ _=>rfl)) (i5 ou (lD (v:=.int 1000000000000) rfl C.MOST_PRICE ⟨_,rfl⟩) (qv 2)))))))),?_⟩
 walk_at "D"
 refine⟨_,p,rfl,hp,?_⟩
 simp_arith[iW,ea,jw,jX,az b1,az b2,az b3,az b4]
 exact h
theorem Iy(B:Blt mg)(D:DefAt K mg "tie_stands" (iI 22) ["thing","last","prices"] f fd)(Dqc:DefAt K mg "is_pair_of_wholes" (iI 13) ["thing"] fqc dqc)(Gqc:FnOk P w K mg base iQ 2 fqc dqc ["thing"] uw):FnOk P w K mg base iQ 3 f fd ["thing","last","prices"] Bw:=by
 have sc:FnScope ["thing","last","prices"] ["thing","last","prices"] (ja (iI 22)):=by walk_at "SC"
 refine D.F.ok sc (fun vs H Q E h=>?_) (fun cdv A outer s H vs Q E hr h=>?_)
 ·obtain⟨x,p,y,q,d,kvs,rfl,_⟩:=h
  rfl
 obtain⟨x,p,y,q,d,kvs,rfl,hp,hq,hd,⟨b1,b2,b3,b4⟩,h⟩:=h
 obtain⟨a,rfl,ea⟩:=id hp
 obtain⟨b,rfl,eb⟩:=id hq
 unfold j6 at b3 b4
 have hu:=jl hr
 have hu0:_<PySem.cLine:=aD hu
 refine⟨_,(iH (jK (lX (lL (i8 Gqc (hr.mono (by decide)) rfl Dqc.m Dqc.F.kp Dqc.b .nil iX (iC (qv 0) iD)))) (iN (jg ny)) jL) (iN (jg (lV (nK (C4 hu0) (qv 1) (qv 0) (jr _)) (lV (nK ng (iO iP (qv 0) iG (fun _ _=>rfl)) (iO iP (qv 0) iG (fun _ _=>rfl)) (jr _)) (lV (qZ (mO hu (iO iP (qv 0) iG (fun _ _=>rfl)) (qv 2))) (nF (qZ (mO hu (iO iP (qv 0) iG (fun _ _=>rfl)) (qv 2)))))))))),?_⟩
 walk_at "D"
 refine⟨_,p,rfl,hp,?_⟩
 simp_arith[iW,ea,eb,hd,jw,jX,b1,az b2,b3,b4]
 exact h
def PlOk:Int->Int->List (Int×Int)->Prop
 |_,_,[]=>True
 |l,s,p::r=>(l<p.1/\p.1<=999/\1<=p.2/\p.2<=1000000000000-s)/\PlOk p.1 (s+p.2) r
def jd(ps:List (Int×Int)):List (iE×V):=ps.map fun p=>(Sum.inl p.1,V.int p.2)
def TiOk(kvs:List (iE×V)):Int×Int->List (Int×Int)->Prop
 |_,[]=>True
 |q,p::r=>(HT.lexLt [q.1,q.2] [p.1,p.2]=true/\p.1<p.2/\j6 kvs p.1=true/\j6 kvs p.2=true)/\TiOk kvs p r
structure WebOk(ps ts:List (Int×Int)):Prop where
 pl:ps.length<=40
 p:PlOk (-1) 0 ps
 tl:ts.length<=120
 t:TiOk (jd ps) (-1,-1) ts
def jdc(H:Hp)(v:V)(ps ts:List (Int×Int)):Prop:=
 ∃u pa ta xs ys,v= .ref u/\H u=some (.tup [.ref pa,.ref ta])/\H pa=some (.lst xs)/\H ta=some (.lst ys)/\Prs H xs ps/\Prs H ys ts
theorem jdc.same{H H':Hp}{v:V}{ps ts:List (Int×Int)}(h:jdc H v ps ts)(s:Same H H'):jdc H' v ps ts:=by
 obtain⟨u,pa,ta,xs,ys,e,h1,h2,h3,h4,h5⟩:=h
 exact⟨u,pa,ta,xs,ys,e,s _ _ h1,s _ _ h2,s _ _ h3,Prs.same s h4,Prs.same s h5⟩
theorem PlOk.gt:∀{ps:List (Int×Int)} {l s:Int},PlOk l s ps->∀p∈ps,l<p.1
 |[],_,_,_,_,h=>by cases h
 | q::r,l,s,h,p,hp=>by
  rcases aR.mp hp with e|hp
  ·rw[e];exact h.1.1
  ·have:=PlOk.gt h.2 p hp
   have:=h.1.1
   lia
theorem PlOk.nodup:∀{ps:List (Int×Int)} {l s:Int},PlOk l s ps->(ps.map (·.1)).Nodup
 |[],_,_,_=>eK
 |q::r,l,s,h=>by
  rw[aq]
  refine bB.mpr ⟨fun hm=>?_,PlOk.nodup h.2⟩
  obtain⟨p,hp,e⟩:=aB.mp hm
  have:=PlOk.gt h.2 p hp
  lia
theorem A6{ps:List (Int×Int)}(h:(ps.map (·.1)).Nodup):((jd ps).map (·.1)).Nodup:=by
 unfold jd
 rw[bG]
 have e:((fun(x:iE×V)=>x.1)∘fun(p:Int×Int)=>((Sum.inl p.1:iE),V.int p.2))=(fun(n:Int)=>(Sum.inl n:iE))∘fun(p:Int×Int)=>p.1:=rfl
 rw [e,<- bG]
 unfold List.Nodup at h ⊢
 rw[bL]
 exact h.imp fun q z=>q (cI z)
theorem u9{H:Hp}:∀{xs:List V} {ps:List (Int×Int)},Prs H xs ps->Paired (PairAt H) xs (jd ps)
 |_,_,.nil=>.nil
 |_,_,.cons r t=>by
  obtain⟨a,e,q⟩:=r
  exact .cons ⟨a,e,q⟩ (u9 t)
theorem qc:∀{ps:List (Int×Int)} {p:Int×Int},(ps.map (·.1)).Nodup->p∈ps->jb (jd ps) (Sum.inl p.1:iE)=some (.int p.2)
 |[],_,_,h=>by cases h
 | q::r,p,hn,h=>by
  rw[aq]at hn
  unfold jd jb
  rw[aq,List.find?_cons]
  rcases aR.mp h with e|h
  ·rw[e]
   simp
  ·have hne:q.1≠p.1:=fun z=>(bB.mp hn).1 (by rw[z];exact bh h)
   have hd:decide ((Sum.inl q.1:iE)=Sum.inl p.1)=false:=aC fun z=>hne (cI z)
   dsimp only
   rw[hd]
   exact qc (bB.mp hn).2 h
theorem Em{ps:List (Int×Int)}{p:Int×Int}(hn:(ps.map (·.1)).Nodup)(h:p∈ps):j6 (jd ps) p.1=true:=by
 unfold j6
 rw[qc hn h]
 rfl
def BB:Sp:=fun vs H Q _=>∃a xs ps,vs=[.ref a]/\H a=some (.lst xs)/\Prs H xs ps/\ps.length<=40/\PlOk (-1) 0 ps/\∀H',Same H H'->Q .non H'
def Bh:Sp:=fun vs H Q _=>∃a d xs ts kvs,vs=[.ref a,.ref d]/\H a=some (.lst xs)/\H d=some (.dK kvs)/\Prs H xs ts/\ts.length<=120/\TiOk kvs (-1,-1) ts/\∀H',Same H H'->Q .non H'
def AM:Sp:=fun vs H Q _=>∃v ps ts,vs=[v]/\jdc H v ps ts/\WebOk ps ts/\∀H',Same H H'->Q .non H'
theorem IS(B:Blt mg)(C:Cst mg c1 c2 c3 c4)(D:DefAt K mg "look_at_places" (iI 23) ["places"] f fd)(Dqb:DefAt K mg "is_list_up_to" (iI 14) ["thing","most"] fqb dqb)(Gqb:FnOk P w K mg base iQ 1 fqb dqb ["thing","most"] vH)(Dq4:DefAt K mg "place_stands" (iI 21) ["thing","last","spent"] fq4 dq4)(Gq4:FnOk P w K mg base iQ 3 fq4 dq4 ["thing","last","spent"] BE):FnOk P w K mg base iQ 4 f fd ["places"] BB:=by
 have sc:FnScope ["places","last","spent","number","thing"] ["places"] (ja (iI 23)):=by walk_at "SC"
 refine D.F.ok sc (fun vs H Q E h=>?_) (fun cdv A outer s H vs Q E hr h=>?_)
 ·obtain⟨a,xs,ps,rfl,_⟩:=h
  rfl
 obtain⟨a,xs,ps,rfl,ea,hp,hl,ok,h⟩:=h
 have hlx:xs.length=ps.length:=aP hp
 have hu:=jl hr
 have hu0:_<PySem.cLine:=aD hu
 refine⟨_,(iH (jK (lX (lL (i8 Gqb (hr.mono (by decide)) rfl Dqb.m Dqb.F.kp Dqb.b .nil iX (iC (qv 0) (iC (lD (v:=.int 40) rfl C.MOST_PLACES ⟨_,rfl⟩) iD))))) (iN oP) jL) (iH (iR (i:=1) sc.nd rfl (Or.inl rfl) (om oq iG)) (iH (iR (i:=2) sc.nd rfl (Or.inl rfl) iG) (iN (j4 bo rfl (uL rfl B.enumerate (iC (qv 0) iD)) (kE (n:=2) rfl (js (i3 (i:=3) sc.nd rfl (Or.inl rfl)) (js (i3 (i:=4) sc.nd rfl (Or.inl rfl)) kF))) (iH (jK (lX (lL (i8 Gq4 (hr.mono (by decide)) rfl Dq4.m Dq4.F.kp Dq4.b .nil iX (iC (qv 4) (iC (qv 1) (iC (qv 2) iD)))))) (iN oP) jL) (iH (iR (i:=1) sc.nd rfl (Or.inl rfl) (iO iP (qv 4) iG (fun _ _=>rfl))) (iN (rg (i:=2) sc.nd rfl (Or.inl rfl) (iO iP (qv 4) iG (fun _ _=>rfl)) rf))))))))),?_⟩
 walk_at "D"
 refine⟨a,xs,40,rfl,ea,?_⟩
 rw[az (show(xs.length:Int)<=40 by lia)]
 walk_at "D"
 refine⟨a,rfl,⟨xs,SqL.of ea⟩,zK (K:=K) (a:=a) (xs:=xs) (fun i σ H1=>∃l sp nb th,σ=[some (.ref a),some (.int l),some (.int sp),nb,th]/\Same H H1/\PlOk l sp (ps.drop i)) ⟨-1,0,none,none,rfl,Same.refl _,ok⟩ (fun i σ H1 _ ⟨_,_,_,_,_,s1,_⟩=>SqL.of (s1 _ _ ea)) ?_ ?_⟩
 ·rintro i x σ H1 t hi ⟨l,sp,nb,th,rfl,s1,ok1⟩ ht
  obtain⟨p,hpi,px⟩:=kI hp hi
  rw[zH hpi]at ok1
  have s2:Same H (upd H1 t (.tup [.int i,x])):=s1.trans (iL ht _)
  have px2:=px.same s2
  obtain⟨u,rfl,eu⟩:=id px2
  simp_arith[iF]
  refine⟨_,p,l,sp,rfl,px2,ok1.1,?_⟩
  simp_arith[iW,eu,jw,jX]
  exact⟨_,_,_,_,rfl,s2,ok1.2⟩
 ·rintro σ H1 ⟨l,sp,nb,th,rfl,s1,_⟩
  exact h H1 s1
theorem IJ(B:Blt mg)(C:Cst mg c1 c2 c3 c4)(D:DefAt K mg "look_at_ties" (iI 24) ["ties","prices"] f fd)(Dqb:DefAt K mg "is_list_up_to" (iI 14) ["thing","most"] fqb dqb)(Gqb:FnOk P w K mg base iQ 1 fqb dqb ["thing","most"] vH)(Dq6:DefAt K mg "tie_stands" (iI 22) ["thing","last","prices"] fq6 dq6)(Gq6:FnOk P w K mg base iQ 3 fq6 dq6 ["thing","last","prices"] Bw):FnOk P w K mg base iQ 4 f fd ["ties","prices"] Bh:=by
 have sc:FnScope ["ties","prices","last","number","thing"] ["ties","prices"] (ja (iI 24)):=by walk_at "SC"
 refine D.F.ok sc (fun vs H Q E h=>?_) (fun cdv A outer s H vs Q E hr h=>?_)
 ·obtain⟨a,d,xs,ts,kvs,rfl,_⟩:=h
  rfl
 obtain⟨a,d,xs,ts,kvs,rfl,ea,ed,hp,hl,ok,h⟩:=h
 have hlx:xs.length=ts.length:=aP hp
 have hu:=jl hr
 have hu0:_<PySem.cLine:=aD hu
 refine⟨_,(iH (jK (lX (lL (i8 Gqb (hr.mono (by decide)) rfl Dqb.m Dqb.F.kp Dqb.b .nil iX (iC (qv 0) (iC (lD (v:=.int 120) rfl C.MOST_TIES ⟨_,rfl⟩) iD))))) (iN oP) jL) (iH (iR (i:=2) sc.nd rfl (Or.inl rfl) (kr (iC (om oq iG) (iC (om oq iG) iD)))) (iN (j4 bo rfl (uL rfl B.enumerate (iC (qv 0) iD)) (kE (n:=2) rfl (js (i3 (i:=3) sc.nd rfl (Or.inl rfl)) (js (i3 (i:=4) sc.nd rfl (Or.inl rfl)) kF))) (iH (jK (lX (lL (i8 Gq6 (hr.mono (by decide)) rfl Dq6.m Dq6.F.kp Dq6.b .nil iX (iC (qv 4) (iC (qv 2) (iC (qv 1) iD)))))) (iN oP) jL) (iN (iR (i:=2) sc.nd rfl (Or.inl rfl) (qv 4)))))))),?_⟩
 walk_at "D"
 refine⟨a,xs,120,rfl,ea,?_⟩
 rw[az (show(xs.length:Int)<=120 by lia)]
 walk_at "D"
 intro t0 ht0
 refine⟨a,rfl,⟨xs,SqL.of (iL ht0 _ _ _ ea)⟩,zK (K:=K) (a:=a) (xs:=xs) (fun i σ H1=>∃lv q nb th,σ=[some (.ref a),some (.ref d),some lv,nb,th]/\Same H H1/\Pr H1 lv q/\TiOk kvs q (ts.drop i)) ⟨_,(-1,-1),none,none,rfl,iL ht0 _,⟨t0,rfl,iF⟩,ok⟩ (fun i σ H1 _ ⟨_,_,_,_,_,s1,_⟩=>SqL.of (s1 _ _ ea)) ?_ ?_⟩
 ·rintro i x σ H1 t hi ⟨lv,q,nb,th,rfl,s1,pq,ok1⟩ ht
  obtain⟨p,hpi,px⟩:=kI hp hi
  rw[zH hpi]at ok1
  have s2:Same H (upd H1 t (.tup [.int i,x])):=s1.trans (iL ht _)
  have px2:=px.same s2
  simp_arith[iF]
  refine⟨_,p,_,q,d,kvs,rfl,px2,pq.same (iL ht _),s2 _ _ ed,ok1.1,?_⟩
  walk_at "D"
  exact⟨_,_,_,_,rfl,s2,px2,ok1.2⟩
 ·rintro σ H1 ⟨lv,q,nb,th,rfl,s1,_⟩
  exact h H1 s1
theorem IG(B:Blt mg)(D:DefAt K mg "look_at_web" (iI 25) ["thing"] f fd)(Dqd:DefAt K mg "is_tuple_of" (iI 12) ["thing","many"] fqd dqd)(Gqd:FnOk P w K mg base iQ 1 fqd dqd ["thing","many"] vC)(Dqx:DefAt K mg "look_at_places" (iI 23) ["places"] fqx dqx)(Gqx:FnOk P w K mg base iQ 4 fqx dqx ["places"] BB)(Dqy:DefAt K mg "look_at_ties" (iI 24) ["ties","prices"] fqy dqy)(Gqy:FnOk P w K mg base iQ 4 fqy dqy ["ties","prices"] Bh):FnOk P w K mg base iQ 5 f fd ["thing"] AM:=by
 have sc:FnScope ["thing"] ["thing"] (ja (iI 25)):=by walk_at "SC"
 refine D.F.ok sc (fun vs H Q E h=>?_) (fun cdv A outer s H vs Q E hr h=>?_)
 ·obtain⟨v,ps,ts,rfl,_⟩:=h
  rfl
 obtain⟨v,ps,ts,rfl,hw,ok,h⟩:=h
 obtain⟨u,pa,ta,xs,ys,rfl,eu,ep,et,pp,pt⟩:=hw
 have hlx:xs.length=ps.length:=aP pp
 have okl:=ok.pl
 have hu:=jl hr
 have hu0:_<PySem.cLine:=aD hu
 refine⟨_,(iH (jK (lX (lL (i8 Gqd (hr.mono (by decide)) rfl Dqd.m Dqd.F.kp Dqd.b .nil iX (iC (qv 0) (iC iG iD))))) (iN oP) jL) (iH (j0 (i8 Gqx (hr.mono (by decide)) rfl Dqx.m Dqx.F.kp Dqx.b .nil iX (iC (iO iP (qv 0) iG (fun _ _=>rfl)) iD))) (iN (j0 (i8 Gqy (hr.mono (by decide)) rfl Dqy.m Dqy.F.kp Dqy.b .nil iX (iC (iO iP (qv 0) iG (fun _ _=>rfl)) (iC (nQ (rG rfl) rfl B.dict eG (iC (iO iP (qv 0) iG (fun _ _=>rfl)) iD)) iD))))))),?_⟩
 walk_at "D"
 refine⟨u,_,2,rfl,eu,?_⟩
 simp_arith[iW,eu,jw,jX,Int.cast_ofNat_Int,c0]
 refine⟨pa,xs,ps,rfl,ep,pp,ok.pl,ok.p,fun H1 s1=>?_⟩
 simp_arith[iW,s1 _ _ eu,s1 _ _ ep,jw,jX]
 refine⟨jd ps,u9 (Prs.same s1 pp),by lia,A6 ok.p.nodup,fun d hd=>?_⟩
 have s2:Same H (upd H1 d (.dK (jd ps))):=s1.trans (iL hd _)
 exact⟨ta,d,ys,ts,_,rfl,s2 _ _ et,iF,Prs.same s2 pt,ok.tl,ok.t,fun H3 s3=>h H3 (s2.trans s3)⟩
theorem IX:ky 3 0=some 0:=rfl
theorem IW:ky 3 1=some 1:=rfl
theorem IV:ky 3 2=some 2:=rfl
def StO(o:HO):Prop:=∃c st fl,o= .lst [.int c,.int st,.bl fl]/\0<=st/\st<4294967296
theorem StO.imm{o:HO}(h:StO o):tQ o=false:=by obtain⟨_,_,_,rfl,_⟩:=h;rfl
def za(K:PySem.W.Frag):Sp:=fun vs H Q _=>∃a k ns,vs=[.ref a,.int k]/\Scr K H a ns/\0<=k/\k<=1000/\∀s o,H s=none->StO o->Q (.ref s) (upd H s o)
theorem wq{i j:Int}(h1:-(2^64)<j)(h2:j<2^64):CMul i j:=.inr ⟨h1,h2⟩
theorem mZ{i j:Int}(h1:-(2^64)<i)(h2:i<2^64):CMul i j:=.inl ⟨h1,h2⟩
def Dr:Int->List (Int×Int)->Prop
 |_,[]=>True
 |l,p::r=>(l<p.1/\p.1<=l+23/\1<=p.2/\p.2<=1000000000)/\Dr p.1 r
def But(s:Addr)(H H':Hp):Prop:=∀b o,b≠s->H b=some o->H' b=some o
theorem But.trans{s:Addr}{H H1 H2:Hp}(a:But s H H1)(b:But s H1 H2):But s H H2:=fun c o n q=>b c o n (a c o n q)
theorem But.at (s:Addr)(H:Hp)(o:HO):But s H (upd H s o):=fun b u n q=>by rw[iJ n];exact q
theorem But.new{s t:Addr}{H:Hp}{o:HO}(h:H t=none):But s H (upd H t o):=fun b u n q=>by rw[iJ (iU q h)];exact q
theorem But.tups{s:Addr}{H H':Hp}(h:But s H H'){o:HO}(e:H s=some o)(i:tQ o=false):TupS H H':=fun b u z q=>h b u (fun x=>by rw[x,e]at q;cases q;rw[i]at z;cases z) q
theorem JD{α:Type}{x y z u:α}{r:List α}:je (x::y::z::u::r) 3=some u:=by
 have e:je (x::y::z::u::r) ((3:Nat):Int)=some u:=k4 rfl
 exact e
theorem DJ{a b c e d:Int}(h0:0<=d)(h1:d<4):∃v,je [V.int a,.int b,.int c,.int e] d=some (.int v)/\(v=a\/v=b\/v=c\/v=e):=by
 have hd:d=0\/d=1\/d=2\/d=3:=by lia
 rcases hd with rfl|rfl|rfl|rfl
 ·exact⟨a,jw,.inl rfl⟩
 ·exact⟨b,jX,.inr (.inl rfl)⟩
 ·exact⟨c,mD,.inr (.inr (.inl rfl))⟩
 ·exact⟨e,JD,.inr (.inr (.inr rfl))⟩
def yd:Sp:=fun vs H Q _=>∃v ps ts,vs=[v]/\jdc H v ps ts/\∀v' H',Same H H'->jdc H' v' ps ts->Q v' H'
theorem Ij(B:Blt mg)(D:DefAt K mg "_law_begun" (iI 43) ["_law_script","_law_k"] f fd):FnOk P w K mg base iQ 1 f fd ["_law_script","_law_k"] (za K):=by
 have sc:FnScope ["_law_script","_law_k","_law_cell","_law_mixed"] ["_law_script","_law_k"] (ja (iI 43)):=by walk_at "SC"
 refine D.F.ok sc (fun vs H Q E h=>?_) (fun cdv A outer s H vs Q E hr h=>?_)
 ·obtain⟨a,k,ns,rfl,_⟩:=h
  rfl
 obtain⟨a,k,ns,rfl,hs,k0,k1,h⟩:=h
 have hu:=jl hr
 have hu0:_<PySem.cLine:=aD hu
 refine⟨_,(iH (iR (i:=2) sc.nd rfl (Or.inl rfl) iG) (iH (jK (jF ng (qv 1) (jh vK rfl B.len bP (iC (qv 0) iD)) (jr _)) (iN (iR (i:=2) sc.nd rfl (Or.inl rfl) (iO yK (qv 0) (qv 1) (fun _ _=>rfl)))) jL) (iH (iR (i:=3) sc.nd rfl (Or.inl rfl) (i5 kl (i5 kl (i5 lB (qv 2) iG) (i5 mi iG (qv 1))) (i5 mi iG (i5 x8 (qv 1) iG)))) (iN (jg (jE (iC (qv 2) (iC (i5 lB (qv 3) iG) (iC (nK C8 (qv 2) (i5 tX iG iG) (jr _)) iD))))))))),?_⟩
 walk_at "D"
 refine⟨a,_,rfl,.inl hs.sq,?_⟩
 simp_arith[ae,xt]
 have q0:∀n:Int,0<=n%2147483629:=fun n=>ff _ (by decide)
 have q1:∀n:Int,n%2147483629<2147483629:=fun n=>dZ _ (by decide)
 have cp:sU 10 18:=⟨by decide,by decide,by decide⟩
 have cd:sV k 7:=⟨by decide,by decide⟩
 refine lr (fun c=>?_) (fun c=>?_)
 ·have c':k<(ns.length:Int):=bK c
  have hk:k.toNat<ns.length:=by lia
  have e1:je (ns.map V.int) ((k.toNat:Nat):Int)=some (.int ns[k.toNat]):=k4 (by rw[aA,gE hk];rfl)
  rw[show((k.toNat:Nat):Int)=k by lia]at e1
  refine⟨a,_,k,_,rfl,rfl,hs.sq,e1,?_⟩
  walk_at "D"
  exact⟨by decide,mZ (by decide) (by decide),cd,mZ (by decide) (by decide),by decide,cp,fun p hp=>h p _ hp ⟨_,_,_,rfl,q0 _,by have:=q1 (ns[k.toNat]%2147483629+104729*k+7919*(k/7));lia⟩⟩
 ·exact⟨by decide,mZ (by decide) (by decide),cd,mZ (by decide) (by decide),by decide,cp,fun p hp=>h p _ hp ⟨_,_,_,rfl,q0 _,by have:=q1 (0%2147483629+104729*k+7919*(k/7));lia⟩⟩
end
end My
namespace My
open PySem L2
section
variable{P:Program}{w:World}{K:PySem.W.Frag}{mg:Str->Option Value}{base:Heap}{c1 c2 c3 c4:Tok}
def SeOk(kvs:List (iE×V)):Int->List Int->Prop
 |_,[]=>True
 |l,n::r=>(j6 kvs n=true/\l<n)/\SeOk kvs n r
theorem SeOk.gt{kvs:List (iE×V)}:∀{ss:List Int} {l:Int},SeOk kvs l ss->∀n∈ss,l<n
 |[],_,_,_,h=>by cases h
 | q::r,l,h,n,hn=>by
  rcases aR.mp hn with e|hn
  ·rw[e];exact h.1.2
  ·have:=SeOk.gt h.2 n hn
   have:=h.1.2
   lia
def mk(ss:List Int):List (iE×V):=ss.map fun n=>(Sum.inl n,V.bl true)
theorem sk{α:Type}{f:α->Bool}{l:List α}{i:Nat}{x:α}(h:l[i]? =some x):(l.take (i+1)).filter f=(l.take i).filter f++(if f x=true then[x]else[]):=by
 rw[jM h,dq,cQ]
 rfl
def nr(n:Int)(t:Int×Int):List Int:=if t.1=n then[t.2]else if t.2=n then[t.1]else[]
def jm(ts:List (Int×Int))(n:Int):List Int:=ts.flatMap (nr n)
theorem G3{ts:List (Int×Int)}{j:Nat}{t:Int×Int}(h:ts[j]? =some t)(n:Int):jm (ts.take (j+1)) n=jm (ts.take j) n++nr n t:=by
 unfold jm
 rw[jM h,gG]
 simp
theorem AI:∀(ts:List (Int×Int)) (n:Int),(jm ts n).length<=ts.length
 |[],n=>by simp[jm]
 | t::r,n=>by
  have ih:=AI r n
  have e:jm (t::r) n=nr n t++jm r n:=by simp[jm]
  have e2:(nr n t).length<=1:=by
   unfold nr
   split
   ·simp
   ·split<;>simp
  rw[e,aH,List.length_cons]
  lia
def kz:List (Int×Int)->List Addr->List (iE×V)
 |p::r,a::s=>(Sum.inl p.1,V.ref a)::kz r s
 |_,_=>[]
theorem yN:∀{ps:List (Int×Int)} {as:List Addr} {p:Int×Int} {a:Addr},ps.length=as.length->kz (ps++[p]) (as++[a])=kz ps as++[(Sum.inl p.1,V.ref a)]
 |[],[],_,_,_=>rfl
 |[],_::_,_,_,h=>by simp at h
 |_::_,[],_,_,h=>by simp at h
 |q::r,b::s,p,a,h=>by
  have ih:=yN (ps:=r) (as:=s) (p:=p) (a:=a) (by simpa using h)
  show(Sum.inl q.1,V.ref b)::kz (r++[p]) (s++[a])=_
  rw[ih]
  rfl
theorem oC:∀{ps:List (Int×Int)} {as:List Addr},ps.length=as.length->(kz ps as).map (·.1)=ps.map fun p=>(Sum.inl p.1:iE)
 |[],[],_=>rfl
 |[],_::_,h=>by simp at h
 |_::_,[],h=>by simp at h
 |q::r,b::s,h=>by
  show(Sum.inl q.1:iE)::(kz r s).map (·.1)=_
  rw[oC (by simpa using h)]
  rfl
theorem pS:∀{ps:List (Int×Int)} {as:List Addr} {i:Nat} {p:Int×Int} {a:Addr},(ps.map (·.1)).Nodup->ps[i]? =some p->as[i]? =some a->jb (kz ps as) (Sum.inl p.1:iE)=some (.ref a)
 |[],_,i,_,_,_,h,_=>by simp at h
 |_::_,[],i,_,_,_,_,h=>by simp at h
 | q::r,b::s,i,p,a,hn,h1,h2=>by
  rw[aq]at hn
  unfold jb
  show Option.map _ (List.find? _ ((Sum.inl q.1,V.ref b)::kz r s))=_
  rw[List.find?_cons]
  cases i with
  |zero=>
   simp at h1 h2
   subst h1 h2
   simp
  |succ i=>
   have hp:p∈r:=ao (by simpa using h1)
   have hne:q.1≠p.1:=fun z=>(bB.mp hn).1 (by rw[z];exact bh hp)
   have hd:decide ((Sum.inl q.1:iE)=Sum.inl p.1)=false:=aC fun z=>hne (cI z)
   dsimp only
   rw[hd]
   exact pS (bB.mp hn).2 (i:=i) (by simpa using h1) (by simpa using h2)
theorem rP{ps:List (Int×Int)}{n:Int}(h:j6 (jd ps) n=true):∃(i:Nat) (p:Int×Int),ps[i]? =some p/\p.1=n:=by
 unfold j6 jb jd at h
 rw[fJ,List.find?_isSome]at h
 obtain⟨kv,hm,he⟩:=h
 obtain⟨p,hp,e⟩:=aB.mp hm
 subst e
 obtain⟨i,hi,e2⟩:=aS.mp hp
 refine⟨i,p,by rw[gE hi,e2],?_⟩
 exact cI (bK he)
theorem TiOk.at{kvs:List (iE×V)}:∀{ts:List (Int×Int)} {q:Int×Int},TiOk kvs q ts->∀t∈ts,t.1<t.2/\j6 kvs t.1=true/\j6 kvs t.2=true
 |[],_,_,_,h=>by cases h
 |p::r,q,h,t,ht=>by
  rcases aR.mp ht with e|ht
  ·rw[e];exact⟨h.1.2.1,h.1.2.2.1,h.1.2.2.2⟩
  ·exact TiOk.at h.2 t ht
def ni(H:Hp)(ps ts:List (Int×Int))(as:List Addr):Prop:=∀(i:Nat) (p:Int×Int) (a:Addr),ps[i]? =some p->as[i]? =some a->H a=some (.lst ((jm ts p.1).map V.int))
def AN:Sp:=fun vs H Q _=>∃v ps ts,vs=[v]/\jdc H v ps ts/\WebOk ps ts/\∀d as H',H d=none->Same H H'->H' d=some (.dK (kz ps as))->as.length=ps.length->ni H' ps ts as->Q (.ref d) H'
theorem rQ{α:Type}{l:List α}(h:l.Nodup){i j:Nat}{a b:α}(h1:l[i]? =some a)(h2:l[j]? =some b)(hij:i≠j):a≠b:=by
 intro e
 subst e
 obtain⟨p1,q1⟩:=ag.mp h1
 obtain⟨p2,q2⟩:=ag.mp h2
 exact hij ((fW h).mp (q1.trans q2.symm))
theorem Fm{α:Type}{l:List α}{x y:α}{i:Nat}(h:(l++[x])[i]? =some y):l[i]? =some y\/(i=l.length/\y=x):=by
 by_cases hi:i<l.length
 ·left
  rw[bH hi]at h
  exact h
 ·right
  rw[cA (by lia)]at h
  by_cases h0:i-l.length=0
  ·rw[h0]at h
   simp at h
   exact⟨by lia,h.symm⟩
  ·have:i-l.length=(i-l.length-1)+1:=by lia
   rw[this]at h
   simp at h
theorem SeOk.has{kvs:List (iE×V)}:∀{ss:List Int} {l:Int},SeOk kvs l ss->∀n∈ss,j6 kvs n=true
 |[],_,_,_,h=>by cases h
 |q::r,l,h,n,hn=>by
  rcases aR.mp hn with e|hn
  ·rw[e];exact h.1.1
  ·exact SeOk.has h.2 n hn
theorem HM(B:Blt mg)(D:DefAt K mg "nears_in" (iI 26) ["web"] f fd):FnOk P w K mg base iQ 1 f fd ["web"] AN:=by
 have sc:FnScope ["web","nears","one","other"] ["web"] (ja (iI 26)):=by walk_at "SC"
 refine D.F.ok sc (fun vs H Q E h=>?_) (fun cdv A outer s H vs Q E hr h=>?_)
 ·obtain⟨v,ps,ts,rfl,_⟩:=h
  rfl
 obtain⟨v,ps,ts,rfl,hw,wok,h⟩:=h
 obtain⟨x,pa,ta,xs,ys,rfl,ex,ep,et,pp,pt⟩:=id hw
 have hlx:xs.length=ps.length:=aP pp
 have hly:ys.length=ts.length:=aP pt
 have okl:=wok.pl
 have okt:=wok.tl
 have hnd:=wok.p.nodup
 have hu:=jl hr
 have hu0:_<PySem.cLine:=aD hu
 refine⟨_,(iH (iR (i:=1) sc.nd rfl (Or.inl rfl) (nQ (rG rfl) rfl B.dict eG (iC (k6 (CpScope.of (N:=["place","price"]) (src:=[none,none]) (by rfl)) rfl (ka (iO iP (qv 0) iG (fun _ _=>rfl))) (fun _ _ _ _=>(kE (n:=2) rfl (js (i3 (i:=0) (j5 (l:=["place","price"]) (by rfl)) rfl (Or.inl rfl)) (js (i3 (i:=1) (j5 (l:=["place","price"]) (by rfl)) rfl (Or.inl rfl)) kF)))) (fun _ _ _ _=>mq) (fun _ _ _ _=>(kr (iC (qv 0) (iC (jE iD) iD))))) iD))) (iH (j4 bo rfl (ka (iO iP (qv 0) iG (fun _ _=>rfl))) (kE (n:=2) rfl (js (i3 (i:=2) sc.nd rfl (Or.inl rfl)) (js (i3 (i:=3) sc.nd rfl (Or.inl rfl)) kF))) (iH (j0 (ko aZ br bq kH (kP hu (qv 1) (qv 2) (fun _ _=>rfl)) (iC (qv 3) iD))) (iN (j0 (ko aZ br bq kH (kP hu (qv 1) (qv 3) (fun _ _=>rfl)) (iC (qv 2) iD)))))) (iN (jg (qv 1))))),?_⟩
 walk_at "D"
 refine kR (jS K pa) H (fun R hR=>?_) (fun l hl0=>kG ps.length (fun i σ' Hc=>∃w1 w2 zs as,σ'=[w1,w2]/\Same H Hc/\Hc l=some (.lst zs)/\as.length=i/\as.Nodup/\(∀a∈as,H a=none/\a≠l/\Hc a=some (.lst []))/\Paired (PairAt Hc) zs (kz (ps.take i) as)) ⟨none,none,[],[],rfl,iL hl0 _,iF,rfl,eK,(fun _ h=>by cases h),.nil⟩ ?_ ?_)
 ·unfold j2
  simp_arith[iW,ex,jw]
  exact⟨pa,rfl,⟨_,SqL.of ep⟩,hR⟩
 ·rintro i σ' Hc hi ⟨w1,w2,zs,as,rfl,s2,ez,hla,nda,ha,pz⟩
  have x1:xs[i]? =some (xs[i]'(by lia)):=gE _
  have z1:SqL K Hc pa xs:=SqL.of (s2 _ _ ep)
  have hlt:(ps.take i).length=as.length:=by rw[aW];lia
  have hlz:zs.length=(kz (ps.take i) as).length:=aP pz
  have hlz2:zs.length<=i:=by
   have e:=bY List.length (oC hlt)
   rw[ae,ae]at e
   lia
  refine⟨⟨_,_,z1,x1⟩,?_⟩
  rintro y H' ⟨rfl,hy⟩
  obtain⟨q,hq,pq⟩:=kI pp (hy _ z1)
  obtain⟨t,rfl,ht⟩:=pq.same s2
  simp_arith[ht]
  intro a1 ha1 t2 ht2
  have na1:a1≠l:=fun z=>by rw[z,ez]at ha1;cases ha1
  have nt2:t2≠a1:=fun z=>by rw[z,iF]at ht2;cases ht2
  have s3:=iL ha1 (.lst [])
  have s4:=iL ht2 (.tup [.int q.1,.ref a1])
  have ez2:=s4 _ _ (s3 _ _ ez)
  have t6:=l0 (ys:=zs++[.ref t2]) ez2
  refine⟨zs,ez2,jk (by lia),_,_,zs++[.ref t2],as++[a1],rfl,jt (s2.trans (s3.trans s4)) hl0,(by first|rfl|exact iF),(by rw[aH,hla];rfl),?_,?_,?_⟩
  ·rw[bM]
   refine⟨nda,(by simp),fun a hm b hb=>?_⟩
   have hb':b=a1:=by simpa using hb
   intro z
   rw[hb']at z
   have:=(ha a hm).2.2
   rw[z,ha1]at this
   cases this
  ·intro a hm
   rcases aQ.mp hm with hm|hm
   ·obtain⟨q1,q2,q3⟩:=ha a hm
    refine⟨q1,q2,?_⟩
    rw[iJ q2]
    exact s4 _ _ (s3 _ _ q3)
   ·have e:a=a1:=by simpa using hm
    subst e
    refine⟨s2.free ha1,na1,?_⟩
    rw[iJ na1]
    exact s4 _ _ iF
  ·rw[jM hq,yN hlt]
   refine lN (Paired.mapP pz fun v p q=>?_) ⟨t2,rfl,t6 _ _ rfl iF⟩
   obtain⟨b,e,q⟩:=q
   exact⟨b,e,t6 _ _ rfl (s4 _ _ (s3 _ _ q))⟩
 rintro σ' Hc ⟨w1,w2,zs,as,rfl,s2,ez,hla,nda,ha,pz⟩
 refine⟨⟨_,SqL.of (s2 _ _ ep),by lia⟩,?_⟩
 rw[aX]at pz
 have hlz:zs.length=(kz ps as).length:=aP pz
 have hkk:=oC (ps:=ps) (as:=as) hla.symm
 have hlz2:zs.length=ps.length:=by
  have e:=bY List.length hkk
  rw[ae,ae]at e
  lia
 simp_arith[ez]
 refine⟨kz ps as,pz,by lia,?_,fun d hd=>?_⟩
 ·rw[hkk]
  have hnd2:=hnd
  unfold List.Nodup at hnd2 ⊢
  rw[bL]at hnd2 ⊢
  exact hnd2.imp fun q z=>q (cI z)
 have s3:=iL hd (.dK (kz ps as))
 have ed:upd Hc d (.dK (kz ps as)) d=some (.dK (kz ps as)):=iF
 have hd0:=s2.free hd
 have ha3:∀a∈as,H a=none/\a≠d/\upd Hc d (.dK (kz ps as)) a=some (.lst []):=fun a hm=>by
  obtain⟨q1,q2,q3⟩:=ha a hm
  exact⟨q1,iU q3 hd,s3 _ _ q3⟩
 have s23:=s2.trans s3
 generalize upd Hc d (.dK (kz ps as))=H2 at s23 ed ha3
 clear s3 s2 ez pz ha hlz hd
 refine ku (jS K ta) H2 (fun R hR=>?_) (k7 (K:=K) (a:=ta) (xs:=ys) (fun j σ H3=>∃v1 v2,σ=[some (.ref x),some (.ref d),v1,v2]/\Same H H3/\H3 d=some (.dK (kz ps as))/\ni H3 ps (ts.take j) as) ⟨none,none,rfl,s23,ed,fun i p a _ h2=>(ha3 a (ao h2)).2.2⟩ (fun i σ H3 _ ⟨_,_,_,s3,_⟩=>SqL.of (s3 _ _ et)) ?_ ?_)
 ·unfold j2
  simp_arith[iW,s23 _ _ ex,jX]
  exact⟨ta,rfl,⟨_,SqL.of (s23 _ _ et)⟩,hR⟩
 ·rintro j y σ H3 hj ⟨v1,v2,rfl,s3,ed3,hN⟩
  obtain⟨q,hq,pq⟩:=kI pt hj
  obtain⟨t,rfl,ht⟩:=pq.same s3
  obtain⟨b1,b2,b3⟩:=wok.t.at q (ao hq)
  obtain⟨i1,p1,g1,e1⟩:=rP b2
  obtain⟨i2,p2,g2,e2⟩:=rP b3
  have hi1:i1<as.length:=by have:=(ag.mp g1).1;lia
  have hi2:i2<as.length:=by have:=(ag.mp g2).1;lia
  have A1:as[i1]? =some as[i1]:=gE hi1
  have A2:as[i2]? =some as[i2]:=gE hi2
  generalize as[i1]=a1 at A1
  generalize as[i2]=a2 at A2
  have V1:=pS hnd g1 A1
  have V2:=pS hnd g2 A2
  have n12:i1≠i2:=fun z=>by rw[z,g2]at g1;cases g1;lia
  have na:a1≠a2:=rQ nda A1 A2 n12
  rw[e1]at V1
  rw[e2]at V2
  have M1:=hN i1 p1 a1 g1 A1
  have M2:=hN i2 p2 a2 g2 A2
  have hlj:∀n,(jm (ts.take j) n).length<=120:=fun n=>bz (AI _ _) (by rw[aW];lia)
  have nd1:d≠a1:=((ha3 a1 (ao A1)).2.1).symm
  have nd2:d≠a2:=((ha3 a2 (ao A2)).2.1).symm
  simp_arith[ht,ed3,V1]
  refine⟨⟨a1,_,rfl,M1⟩,?_⟩
  simp_arith[M1]
  refine⟨jk (by rw[ae];have:=hlj p1.1;lia),?_⟩
  simp_arith[iJ nd1,ed3,V2]
  refine⟨⟨a2,_,rfl,(by rw[iJ na.symm];exact M2)⟩,?_⟩
  simp_arith[iJ na.symm,M2]
  refine⟨jk (by rw[ae];have:=hlj p2.1;lia),_,_,rfl,?_,?_,?_⟩
  ·intro b o hb
   rw[iJ (iU hb (ha3 a2 (ao A2)).1),iJ (iU hb (ha3 a1 (ao A1)).1)]
   exact s3 b o hb
  ·rw[iJ nd2,iJ nd1]
   exact ed3
  ·intro i p a hp ha'
   rw[G3 hq,ah]
   have hpe:∀{k:Nat} {r:Int×Int},ps[k]? =some r->r.1=p.1->k=i:=fun{k r} hr he=>by
    have h1:(ps.map (·.1))[k]? =some r.1:=by rw[aA,hr];rfl
    have h2:(ps.map (·.1))[i]? =some p.1:=by rw[aA,hp];rfl
    by_cases z:k=i
    ·exact z
    ·exact absurd he (rQ hnd h1 h2 z)
   by_cases c2:i=i2
   ·subst c2
    rw[g2]at hp
    cases hp
    rw[A2]at ha'
    cases ha'
    have e3:nr p2.1 q=[q.1]:=by
     unfold nr
     rw[au (by lia),aw e2.symm]
    rw[iF,e3]
    rfl
   by_cases c1:i=i1
   ·subst c1
    rw[g1]at hp
    cases hp
    rw[A1]at ha'
    cases ha'
    have e3:nr p1.1 q=[q.2]:=by
     unfold nr
     rw[aw e1.symm]
    rw[iJ na,iF,e3]
    rfl
   have n1:a≠a1:=rQ nda ha' A1 c1
   have n2:a≠a2:=rQ nda ha' A2 c2
   have e3:nr p.1 q=[]:=by
    unfold nr
    rw[au (fun z=>c1 (hpe g1 (e1.trans z)).symm),au (fun z=>c2 (hpe g2 (e2.trans z)).symm)]
   rw[iJ n2,iJ n1,e3,cq,bt]
   exact hN i p a hp ha'
 ·rintro σ H3 ⟨v1,v2,rfl,s3,ed3,hN⟩
  rw[hly,aX]at hN
  walk_at "D"
  exact h d as H3 hd0 s3 ed3 hla hN
theorem Dr.pl:∀{ps:List (Int×Int)} {l s:Int},Dr l ps->l+23*ps.length<=999->s+1000000000*ps.length<=1000000000000->PlOk l s ps
 |[],_,_,_,_,_=>trivial
 |p::r,l,s,h,h1,h2=>by
  have e:((p::r).length:Int)=r.length+1:=by simp
  rw[e]at h1 h2
  obtain⟨⟨a1,a2,a3,a4⟩,h3⟩:=h
  exact⟨⟨a1,by lia,a3,by lia⟩,Dr.pl h3 (by lia) (by lia)⟩
theorem Dr.gt:∀{ps:List (Int×Int)} {l:Int},Dr l ps->∀p∈ps,l<p.1
 |[],_,_,_,h=>by cases h
 | q::r,l,h,p,hp=>by
  rcases aR.mp hp with e|hp
  ·rw[e];exact h.1.1
  ·have:=Dr.gt h.2 p hp
   have:=h.1.1
   lia
theorem Dr.rise:∀{ps:List (Int×Int)} {l:Int},Dr l ps->∀(i j:Nat) (p q:Int×Int),i<j->ps[i]? =some p->ps[j]? =some q->p.1<q.1
 |[],_,_,i,j,p,q,_,h,_=>by simp at h
 | r::rs,l,h,i,j,p,q,hij,hi,hj=>by
  cases j with
  |zero=>lia
  | succ j=>
   have hj':rs[j]? =some q:=by simpa using hj
   cases i with
   |zero=>
    have e:r=p:=by simpa using hi
    subst e
    exact Dr.gt h.2 q (ao hj')
   |succ i=>exact Dr.rise h.2 i j p q (by lia) (by simpa using hi) hj'
theorem uq{a b c d:Int}(h:a<c):HT.lexLt [a,b] [c,d]=true:=by
 rw[HT.lT,au (by lia)]
 exact az h
theorem xT{a b d:Int}(h:b<d):HT.lexLt [a,b] [a,d]=true:=by
 rw[HT.lT,aw rfl,HT.lT,au (by lia)]
 exact az h
theorem PlOk.rise:∀{ps:List (Int×Int)} {l s:Int},PlOk l s ps->∀(i j:Nat) (p q:Int×Int),i<j->ps[i]? =some p->ps[j]? =some q->p.1<q.1
 |[],_,_,_,i,j,p,q,_,h,_=>by simp at h
 | r::rs,l,s,h,i,j,p,q,hij,hi,hj=>by
  cases j with
  |zero=>lia
  | succ j=>
   have hj':rs[j]? =some q:=by simpa using hj
   cases i with
   |zero=>
    have e:r=p:=by simpa using hi
    subst e
    exact PlOk.gt h.2 q (ao hj')
   |succ i=>exact PlOk.rise h.2 i j p q (by lia) (by simpa using hi) hj'
end
end My
namespace My
open PySem L2
inductive Rch(ts:List (Int×Int))(a:Int):Int->Prop
 |refl:Rch ts a a
 |step {m n:Int}:Rch ts a m->n∈jm ts m->Rch ts a n
section
variable{ts:List (Int×Int)}{m n a b:Int}
theorem nO(ho:∀t∈ts,t.1<t.2):n∈jm ts m↔(m,n)∈ts\/(n,m)∈ts:=by
 unfold jm
 rw[List.mem_flatMap]
 constructor
 ·rintro⟨t,ht,hn⟩
  unfold nr at hn
  split at hn
  ·rename_i c
   have e:n=t.2:=by simpa using hn
   exact .inl (by rw [e,<- c]; exact ht)
  ·split at hn
   ·rename_i c
    have e:n=t.1:=by simpa using hn
    exact .inr (by rw [e,<- c]; exact ht)
   ·cases hn
 ·rintro(h|h)
  ·refine⟨_,h,?_⟩
   unfold nr
   rw[aw rfl]
   exact aG.mpr rfl
  ·refine⟨_,h,?_⟩
   have:=ho _ h
   dsimp only at this
   unfold nr
   rw[if_neg (by dsimp only;lia),if_pos rfl]
   exact aG.mpr rfl
theorem Gk(ho:∀t∈ts,t.1<t.2)(h:n∈jm ts m):m∈jm ts n:=by
 rw[nO ho]at h ⊢
 exact h.symm
theorem Rch.trans{c:Int}(h1:Rch ts a b)(h2:Rch ts b c):Rch ts a c:=by
 induction h2 with
 |refl=>exact h1
 |step _ hn ih=>exact .step ih hn
theorem Rch.symm(ho:∀t∈ts,t.1<t.2)(h:Rch ts a b):Rch ts b a:=by
 induction h with
 |refl=>exact .refl
 |step _ hn ih=>exact(Rch.step .refl (Gk ho hn)).trans ih
theorem Rch.mono{ts':List (Int×Int)}(hs:∀m n,n∈jm ts m->n∈jm ts' m)(h:Rch ts a b):Rch ts' a b:=by
 induction h with
 |refl=>exact .refl
 |step _ hn ih=>exact .step ih (hs _ _ hn)
end
theorem A8(ts:List (Int×Int))(t:Int×Int)(m:Int):jm (ts++[t]) m=jm ts m++nr m t:=by
 unfold jm
 rw[gG]
 simp
def Ends(ps ts:List (Int×Int)):Prop:=∀t∈ts,t.1<t.2/\t.1∈ps.map (·.1)/\t.2∈ps.map (·.1)
theorem Ends.near{ps ts:List (Int×Int)}(h:Ends ps ts){m n:Int}(hn:n∈jm ts m):n∈ps.map (·.1):=by
 rcases(nO fun t ht=>(h t ht).1).mp hn with z|z
 ·exact(h _ z).2.2
 ·exact(h _ z).2.1
theorem Rch.pl{ps ts:List (Int×Int)}(h:Ends ps ts){a b:Int}(ha:a∈ps.map (·.1))(r:Rch ts a b):b∈ps.map (·.1):=by
 induction r with
 |refl=>exact ha
 |step _ hn _=>exact h.near hn
structure LabOk(ps ts:List (Int×Int))(f:Int->Int):Prop where
 cls:∀m n,m∈ps.map (·.1)->n∈ps.map (·.1)->(f m=f n↔Rch ts m n)
 le:∀m,m∈ps.map (·.1)->f m<=m
 fix:∀m,m∈ps.map (·.1)->f (f m)=f m
 pl:∀m,m∈ps.map (·.1)->f m∈ps.map (·.1)
theorem LabOk.none{ps:List (Int×Int)}:LabOk ps [] fun n=>n:=by
 refine⟨fun m n _ _=>⟨fun h=>h▸ .refl,fun h=>?_⟩,fun _ _=>bE _,fun _ _=>rfl,fun _ h=>h⟩
 induction h with
 |refl=>rfl
 |step _ hn _=>simp[jm]at hn
theorem LabOk.put{ps ts:List (Int×Int)}{f:Int->Int}(h:LabOk ps ts f)(he:Ends ps ts){a b u v:Int}(ha:a∈ps.map (·.1))(hb:b∈ps.map (·.1))(hab:a<b)(huv:u<=v)(hor:(u=f a/\v=f b)\/(u=f b/\v=f a)):
  LabOk ps (ts++[(a,b)]) fun n=>if f n=v then u else f n:=by
 have he':Ends ps (ts++[(a,b)]):=fun t ht=>by
  rcases aQ.mp ht with ht|ht
  ·exact he t ht
  ·rw[aG.mp ht];exact⟨hab,ha,hb⟩
 have ho:∀t∈ts++[(a,b)],t.1<t.2:=fun t ht=>(he' t ht).1
 have more:∀m n,n∈jm ts m->n∈jm (ts++[(a,b)]) m:=fun m n hn=>by rw[A8];exact bx _ hn
 have ab:Rch (ts++[(a,b)]) a b:=.step .refl ((nO ho).mpr (.inl (bp _ (aG.mpr rfl))))
 have ba:=ab.symm ho
 have fu:f u=u:=by rcases hor with⟨e,_⟩|⟨e,_⟩<;>rw[e];exact h.fix _ ha;exact h.fix _ hb
 have pu:u∈ps.map (·.1):=by rcases hor with⟨e,_⟩|⟨e,_⟩<;>rw[e];exact h.pl _ ha;exact h.pl _ hb
 have ea:(if f a=v then u else f a)=u:=by rcases hor with⟨e1,e2⟩|⟨e1,e2⟩<;>split<;>lia
 have eb:(if f b=v then u else f b)=u:=by rcases hor with⟨e1,e2⟩|⟨e1,e2⟩<;>split<;>lia
 have toA:∀m,m∈ps.map (·.1)->(f m=v\/f m=u)->Rch (ts++[(a,b)]) m a:=fun m hm q=>by
  have hc:f m=f a\/f m=f b:=by rcases hor with⟨e1,e2⟩|⟨e1,e2⟩<;>lia
  rcases hc with c|c
  ·exact((h.cls m a hm ha).mp c).mono more
  ·exact(((h.cls m b hm hb).mp c).mono more).trans ba
 refine⟨fun m n hm hn=>⟨fun q=>?_,fun r=>?_⟩,fun m hm=>?_,fun m hm=>?_,fun m hm=>?_⟩
 ·by_cases c1:f m=v
  ·have c2:f n=v\/f n=u:=by
    try dsimp only at q
    rw[aw c1]at q
    by_cases c2:f n=v
    ·exact .inl c2
    ·rw[au c2]at q;exact .inr q.symm
   exact(toA m hm (.inl c1)).trans ((toA n hn c2).symm ho)
  ·try dsimp only at q
   rw[au c1]at q
   by_cases c2:f n=v
   ·rw[aw c2]at q
    exact(toA m hm (.inr q)).trans ((toA n hn (.inl c2)).symm ho)
   ·rw[au c2]at q
    exact((h.cls m n hm hn).mp q).mono more
 ·clear hn
  induction r with
  |refl=>rfl
  | @step k n r' hn' ih=>
   rw[ih]
   have hk:=r'.pl he' hm
   have hn2:=he'.near hn'
   rw[A8]at hn'
   rcases aQ.mp hn' with z|z
   ·have e:=(h.cls k n hk hn2).mpr (.step .refl z)
    try dsimp only
    rw[e]
   ·unfold nr at z
    split at z
    ·rename_i c
     have e:n=b:=by simpa using z
     have c':a=k:=c
     try dsimp only
     rw [e,<- c',ea,eb]
    ·split at z
     ·rename_i c
      have e:n=a:=by simpa using z
      have c':b=k:=c
      try dsimp only
      rw [e,<- c',ea,eb]
     ·cases z
 ·have:=h.le m hm
  try dsimp only
  split<;>lia
 ·try dsimp only
  by_cases c:f m=v
  ·rw[aw c,fu]
   split<;>rfl
  ·rw[au c,h.fix m hm,au c]
 ·try dsimp only
  split
  ·exact pu
  ·exact h.pl m hm
end My
namespace My
open PySem L2
section
variable{P:Program}{w:World}{K:PySem.W.Frag}{mg:Str->Option Value}{base:Heap}{c1 c2 c3 c4:Tok}
theorem qi:∀{ks L:List Int},ks.Nodup->(∀n∈ks,n∈L)->ks.length<=L.length
 |[],_,_,_=>bI _
 |k::r,L,h,hs=>by
  rw[bB]at h
  have hk:=hs k (.head _)
  have ih:=qi (ks:=r) (L:=L.erase k) h.2 fun n hn=>(gy (fun z=>h.1 (by rw [<- z]; exact hn))).mpr (hs n (.tail _ hn))
  have e:=fP hk
  have hp:0<L.length:=gf hk
  rw[List.length_cons]
  lia
theorem Rd.same{H H':Hp}{a:Addr}{u:HO}(h:Rd H a u)(s:Same H H'):Rd H' a u:=by
 rcases h with e|⟨o,e⟩
 ·exact .inl (s _ _ e)
 ·exact .inr ⟨o,s _ _ e⟩
theorem tFor_hideI{ι:Type}{wi:TI}{g:TG}{tb:TS}{D:L2.Ends}{σ:St}{H:Hp}(J:ι->It)(H1:ι->Hp)(ok:ι->Prop)(h1:∀R:It->Hp->Prop,(∀i,ok i->R (J i) (H1 i))->wi σ H R)
  (h2:∀i0,ok i0->∃W:Nat->Nat->St->Hp->Prop,(∃m,W 0 m σ (H1 i0))/\∀i m σ H,W i m σ H->((J i0).stop i H/\D.nx σ H)\/((J i0).go i H/\∃N:St->Hp->Prop,(∀σ' H',N σ' H'->∃m',m'<m/\W (i+1) m' σ' H')/\∀x H',(J i0).yld i H x H'->g x σ H' fun σ2 H2=>tb {D with nx:=N,ct:=N,bk:=D.nx} σ2 H2)):
  qC wi g tb D σ H:=h1 _ h2
theorem tT{ps:List (Int×Int)}{as:List Addr}(hl:as.length=ps.length){j:Nat}{kv:iE×V}(h:(kz ps as)[j]? =some kv):∃p,ps[j]? =some p/\kv.1=Sum.inl p.1:=by
 have z:=bY (fun l=>l[j]?) (oC (ps:=ps) (as:=as) hl.symm)
 rw[aA,h,aA]at z
 cases e:ps[j]? with
 |none=>rw[e]at z;cases z
 |some p=>rw[e]at z;exact⟨p,rfl,aO z⟩
theorem DR{ps:List (Int×Int)}{as:List Addr}(hl:as.length=ps.length):(kz ps as).length=ps.length:=by
 have z:=bY List.length (oC (ps:=ps) (as:=as) hl.symm)
 rwa[ae,ae]at z
theorem WebOk.ends{ps ts:List (Int×Int)}(h:WebOk ps ts):Ends ps ts:=fun t ht=>by
 obtain⟨a,b,c⟩:=h.t.at t ht
 obtain⟨i,p,hp,e⟩:=rP b
 obtain⟨i2,p2,hp2,e2⟩:=rP c
 exact ⟨a,by rw [<- e]; exact bh (ao hp),by rw [<- e2]; exact bh (ao hp2)⟩
def gk(l:List (Int×V)):List (iE×V):=l.map fun p=>((Sum.inl p.1:iE),p.2)
theorem uj(l:List (Int×V))(n:Int):(jb (gk l) (Sum.inl n:iE)).isSome=decide (n∈l.map (·.1)):=by
 rw [<- qg]
 unfold gk
 rw[dU,List.any_eq_true,decide_eq_true_iff]
 constructor
 ·rintro⟨kv,hkv,e⟩
  obtain⟨q,hq,rfl⟩:=aB.mp hkv
  have e2:q.1=n:=cI (bK e)
  rw [<- e2]
  exact bh hq
 ·intro h
  obtain⟨q,hq,e⟩:=aB.mp h
  have e':q.1=n:=e
  exact⟨_,bh hq,az (by rw[e'])⟩
theorem pQ:∀{l:List (Int×V)} {p:Int×V},(l.map (·.1)).Nodup->p∈l->jb (gk l) (Sum.inl p.1:iE)=some p.2
 |[],_,_,h=>by cases h
 | q::r,p,hn,h=>by
  rw[aq,bB]at hn
  by_cases c:q.1=p.1
  ·rcases aR.mp h with e|h
   ·rw[e]
    exact rW (p:=((Sum.inl q.1:iE),q.2)) rfl
   ·exact absurd (by rw[c];exact bh h) hn.1
  ·rcases aR.mp h with e|h
   ·exact absurd (by rw[e]) c
   ·show jb (((Sum.inl q.1:iE),q.2)::gk r) _=_
    rw[rV (fun z=>c (cI z))]
    exact pQ hn.2 h
theorem uk{l:List (Int×V)}{n:Int}{v:V}(h:n∉l.map (·.1)):jC (gk l) (Sum.inl n:iE) v=gk (l++[(n,v)]):=by
 unfold jC
 rw[au]
 ·unfold gk;rw[ah];rfl
 ·rw[qg,uj]
  simpa using h
theorem zL:∀{more l:List (Int×V)},(∀n∈more.map (·.1),n∉l.map (·.1))->(more.map (·.1)).Nodup->lW (gk l) (gk more)=gk (l++more)
 |[],l,_,_=>by rw[bt];rfl
 | p::r,l,h,nd=>by
  rw[aq,bB]at nd
  show lW (jC (gk l) (Sum.inl p.1:iE) p.2) (gk r)=_
  rw[uk (h p.1 (.head _)),zL (fun m hm=>?_) nd.2,bu]
  ·rfl
  ·intro z
   rw[ah]at z
   rcases aQ.mp z with z|z
   ·exact h m (by rw[aq];exact .tail _ hm) z
   ·have e:m=p.1:=by simpa using z
    rw[e]at hm;exact nd.1 hm
theorem pP(l:List (Int×V)):(gk l).length=l.length:=by unfold gk;rw[ae]
theorem BN{l:List (Int×V)}{j:Nat}{kv:iE×V}(h:(gk l)[j]? =some kv):∃p,l[j]? =some p/\kv.1=Sum.inl p.1:=by
 unfold gk at h
 rw[aA]at h
 obtain⟨p,hp,e⟩:=bN.mp h
 exact ⟨p,hp,by rw [<- e]⟩
def nW(ts:List (Int×Int))(col:Int->Bool):Prop:=∀m n,n∈jm ts m->col n= !(col m)
def Tree(ts:List (Int×Int))(c:Int)(ab:List (Int×V)):Prop:=∀(i:Nat) (p:Int×V),ab[i]? =some p->(p.2= .non/\p.1=c)\/∃m,p.2= .int m/\m∈(ab.take i).map (·.1)/\p.1∈jm ts m
structure MetOk(ts:List (Int×Int))(c:Int)(ab:List (Int×V)):Prop where
 nd:(ab.map (·.1)).Nodup
 all:∀n,n∈ab.map (·.1)↔Rch ts c n
 tree:Tree ts c ab
theorem Tree.snoc{ts:List (Int×Int)}{c m n:Int}{ab:List (Int×V)}(h:Tree ts c ab)(hm:m∈ab.map (·.1))(hn:n∈jm ts m):Tree ts c (ab++[(n,.int m)]):=fun i p hp=>by
 rcases Fm hp with e|⟨rfl,rfl⟩
 ·have hi:=(ag.mp e).1
  rcases h i p e with z|⟨k,z1,z2,z3⟩
  ·exact .inl z
  ·refine .inr ⟨k,z1,?_,z3⟩
   rw[hX (by lia)]
   exact z2
 ·refine .inr ⟨m,rfl,?_,hn⟩
  rw[List.take_left']
  ·exact hm
  ·rfl
structure Bf(ps ts:List (Int×Int))(c:Int)(i:Nat)(x:Option Int)(j:Nat)(ab:List (Int×V)):Prop where
 c_in:c∈ab.map (·.1)
 nd:(ab.map (·.1)).Nodup
 sub:∀n∈ab.map (·.1),Rch ts c n
 cl:∀m∈(ab.map (·.1)).take i,∀n∈jm ts m,n∈ab.map (·.1)
 xin:∀m,x=some m->(ab.map (·.1))[i]? =some m/\∀n∈(jm ts m).take j,n∈ab.map (·.1)
 tree:Tree ts c ab
 il:i<=ab.length
theorem Bf.len{ps ts:List (Int×Int)}{c:Int}{i:Nat}{x:Option Int}{j:Nat}{ab:List (Int×V)}(h:Bf ps ts c i x j ab)(he:Ends ps ts)(hc:c∈ps.map (·.1)):ab.length<=ps.length:=by
 have z:=qi h.nd fun n hn=>(h.sub n hn).pl he hc
 rwa[ae,ae]at z
def tZ:Sp:=fun vs H Q _=>∃nd c ps ts as,vs=[.ref nd,.int c]/\Rd H nd (.dK (kz ps as))/\as.length=ps.length/\ni H ps ts as/\Ends ps ts/\(ps.map (·.1)).Nodup/\ps.length<=40/\ts.length<=120/\c∈ps.map (·.1)/\
 ∀d H' ab,H d=none->Same H H'->H' d=some (.dK (gk ab))->MetOk ts c ab->ab.length<=40->Q (.ref d) H'
def tJ(col:Int->Bool)(c:Int)(lv:List (Int×V)):Prop:=∀p∈lv,∃x:Int,p.2= .int x/\x%2=if col p.1=col c then 0 else 1
def vg:Sp:=fun vs H Q _=>∃a ab ts c col,vs=[.ref a]/\H a=some (.dK (gk ab))/\(ab.map (·.1)).Nodup/\Tree ts c ab/\nW ts col/\ab.length<=40/\
 ∀d H' lv o,H d=none->But a H H'->H' a=some (.frz o (.dK (gk ab)))->H' d=some (.dK (gk lv))->lv.map (·.1)=ab.map (·.1)->tJ col c lv->Q (.ref d) H'
def xk:Sp:=fun vs H Q _=>∃nd c ps ts as col,vs=[.ref nd,.int c]/\Rd H nd (.dK (kz ps as))/\as.length=ps.length/\ni H ps ts as/\Ends ps ts/\(ps.map (·.1)).Nodup/\ps.length<=40/\ts.length<=120/\c∈ps.map (·.1)/\nW ts col/\
 ∀H',Same H H'->Q .non H'
theorem HL(B:Blt mg)(D:DefAt K mg "met_from" (iI 28) ["nears","place"] f fd):FnOk P w K mg base iQ 1 f fd ["nears","place"] tZ:=by
 have sc:FnScope ["nears","place","above","line","done","here","there"] ["nears","place"] (ja (iI 28)):=by walk_at "SC"
 refine D.F.ok sc (fun vs H Q E h=>?_) (fun cdv A outer s H vs Q E hr h=>?_)
 ·obtain⟨nd,c,ps,ts,as,rfl,_⟩:=h
  rfl
 obtain⟨nd,c,ps,ts,as,rfl,hrd,hla,hne,hen,hnd,hpl,htl,hc,h⟩:=h
 have hu:=jl hr
 have hu0:_<PySem.cLine:=aD hu
 refine⟨_,(iH (iR (i:=2) sc.nd rfl (Or.inl rfl) (uJ (vb (qv 1) lK uM) rfl rfl (fun z=>nomatch z) (by decide))) (iH (iR (i:=3) sc.nd rfl (Or.inl rfl) (jE (iC (qv 1) iD))) (iH (iR (i:=4) sc.nd rfl (Or.inl rfl) iG) (iH (qd bo (jF ng (qv 4) (jh kY rfl B.len bP (iC (qv 3) iD)) (jr _)) (iH (iR (i:=5) sc.nd rfl (Or.inl rfl) (iO iP (qv 3) (qv 4) (fun _ _=>rfl))) (iH (j4 bo rfl (ka (oG hu (qv 0) (qv 5) (fun _ _=>rfl))) (i3 (i:=6) sc.nd rfl (Or.inl rfl)) (iN (jK (mj (qe hu (qv 6) (qv 2))) (iH (nH hu (qv 2) (qv 6) (qv 5)) (iN (j0 (ko aZ br bq kH (qv 3) (iC (qv 6) iD))))) jL))) (iN (rg (i:=4) sc.nd rfl (Or.inl rfl) iG rf))))) (iN (jg (qv 2))))))),?_⟩
 walk_at "D"
 intro md hmd
 walk_at "D"
 refine⟨iF,[((Sum.inl c:iE),V.non)],rfl,(by show 1<=15;decide),?_⟩
 rw[rM,show lW [] [((Sum.inl c:iE),V.non)]=gk [(c,.non)]from rfl]
 intro tl htl1
 have nmt:md ≠ tl:=fun z=>by rw [<- z,iF] at htl1; cases htl1
 have htl0:H tl = none:=by rw [<- htl1,iJ nmt.symm]
 have s0:Same H (upd (upd H md (.dK (gk [(c,.non)]))) tl (.lst [.int c])):=(iL hmd _).trans (iL htl1 _)
 have em0:upd (upd H md (.dK (gk [(c,.non)]))) tl (.lst [.int c]) md=some (.dK (gk [(c,.non)])):=by rw[iJ nmt,iF]
 have et0:upd (upd H md (.dK (gk [(c,.non)]))) tl (.lst [.int c]) tl=some (.lst ((([(c,V.non)]:List (Int×V)).map (·.1)).map V.int)):=iF
 generalize upd (upd H md (.dK (gk [(c,.non)]))) tl (.lst [.int c])=H0 at s0 em0 et0
 have t0:Tree ts c [(c,.non)]:=fun i p hp=>by
  have hi:=(ag.mp hp).1
  have e:i=0:=by simp at hi;lia
  subst e
  cases hp
  exact .inl ⟨rfl,rfl⟩
 have b0:Bf ps ts c 0 none 0 [(c,.non)]:=⟨.head _,by simp,fun n hn=>by rw[aG.mp hn];exact .refl,(fun m hm=>by rw[List.take_zero]at hm;cases hm),(fun _ z=>nomatch z),t0,bI _⟩
 refine⟨fun m σ H1=>∃hh th i ab,σ=[some (.ref nd),some (.int c),some (.ref md),some (.ref tl),some (.int ((i:Nat):Int)),hh,th]/\Same H H1/\H1 md=some (.dK (gk ab))/\H1 tl=some (.lst ((ab.map (·.1)).map V.int))/\Bf ps ts c i none 0 ab/\m=ps.length-i,⟨_,none,none,0,[(c,.non)],rfl,s0,em0,et0,b0,rfl⟩,?_⟩
 rintro m σ H1 ⟨hh,th,i,ab,rfl,s1,em,et,g,rfl⟩
 have hlen:=g.len hen hc
 simp_arith[iW,et,ae]
 by_cases ci:i<ab.length
 ·rw [aw (az (by lia))]
  refine⟨_,fun σ' H' q=>q,?_⟩
  obtain⟨x,hx⟩:∃x,(ab.map (·.1))[i]? =some x:=⟨_,gE (by rw[ae];exact ci)⟩
  have hxk:x∈ab.map (·.1):=ao hx
  have hxp:x∈ps.map (·.1):=(g.sub x hxk).pl hen hc
  rw[show je ((ab.map (·.1)).map V.int) ((i:Nat):Int)=some (.int x)from k4 (by rw[aA,hx];rfl)]
  obtain⟨p,hp,epx⟩:=aB.mp hxp
  obtain⟨k,hk,epk⟩:=aS.mp hp
  have xi:ps[k]? =some p:=by rw[gE hk,epk]
  have ai:as[k]? =some (as[k]'(by lia)):=gE _
  generalize as[k]'(by lia)=ax at ai
  have eax:=hne k p ax xi ai
  rw[epx]at eax
  have vax:=pS hnd xi ai
  rw[epx]at vax
  have g2:Bf ps ts c i (some x) 0 ab:=⟨g.c_in,g.nd,g.sub,g.cl,fun m hm=>by cases hm;exact⟨hx,fun n hn=>by rw[List.take_zero]at hn;cases hn⟩,g.tree,g.il⟩
  clear g
  dsimp only
  refine ku (jS K ax) H1 (fun R hR=>?_) (k7 (K:=K) (a:=ax) (xs:=(jm ts x).map V.int) (fun j σ H3=>∃th ab1,σ=[some (.ref nd),some (.int c),some (.ref md),some (.ref tl),some (.int ((i:Nat):Int)),some (.int x),th]/\Same H H3/\H3 md=some (.dK (gk ab1))/\H3 tl=some (.lst ((ab1.map (·.1)).map V.int))/\Bf ps ts c i (some x) j ab1) ⟨_,ab,rfl,s1,em,et,g2⟩ (fun j σ H3 _ ⟨_,_,_,s3,_⟩=>SqL.of (s3 _ _ eax)) ?_ ?_)
  ·unfold j2
   walk_at "D"
   exact⟨nd,_,rfl,.inl ⟨_,Sum.inl x,My.Rd.same hrd s1,rfl,vax.symm⟩,ax,rfl,⟨_,SqL.of (s1 _ _ eax)⟩,hR⟩
  ·rintro j y σ H3 hj ⟨th1,ab1,rfl,s3,em3,et3,g3⟩
   rw[aA]at hj
   obtain⟨n,hn,rfl⟩:=bN.mp hj
   have hnn:n∈jm ts x:=ao hn
   have htk:∀q∈(jm ts x).take (j+1),q∈(jm ts x).take j\/q=n:=fun q hq=>by
    rw[jM hn]at hq
    rcases aQ.mp hq with z|z
    ·exact .inl z
    ·exact .inr (aG.mp z)
   have hx3:=(g3.xin x rfl).1
   have hxk3:x∈ab1.map (·.1):=ao hx3
   simp_arith[em3,uj]
   by_cases cn:n∈ab1.map (·.1)
   ·rw[az cn]
    walk_at "D"
    exact⟨_,ab1,rfl,s3,(by first|exact em3|rfl),et3,⟨g3.c_in,g3.nd,g3.sub,g3.cl,fun m hm=>⟨(g3.xin m hm).1,fun q hq=>by
     cases hm
     rcases htk q hq with z|z
     ·exact(g3.xin _ rfl).2 q z
     ·rw[z];exact cn⟩,g3.tree,g3.il⟩⟩
   ·rw[aC cn]
    have em1:(ab1++[(n,V.int x)]).map (·.1)=ab1.map (·.1)++[n]:=by rw[ah];rfl
    have g4:Bf ps ts c i (some x) (j+1) (ab1++[(n,V.int x)]):=by
     refine⟨?_,?_,fun q hq=>?_,fun q hq z hz=>?_,fun q hq=>⟨?_,fun z hz=>?_⟩,g3.tree.snoc hxk3 hnn,?_⟩
     ·rw[em1];exact bx _ g3.c_in
     ·rw[em1,bM]
      exact ⟨g3.nd,by simp,fun a ha b hb=>fun z=>cn (by rw [aG.mp hb] at z; rw [<- z]; exact ha)⟩
     ·rw[em1]at hq
      rcases aQ.mp hq with z|z
      ·exact g3.sub q z
      ·rw[aG.mp z];exact .step (g3.sub x hxk3) hnn
     ·rw[em1,hX (by rw[ae];exact g3.il)]at hq
      rw[em1]
      exact bx _ (g3.cl q hq z hz)
     ·cases hq
      rw[em1,bH (ag.mp hx3).1]
      exact hx3
     ·cases hq
      rw[em1]
      rcases htk z hz with w1|w1
      ·exact bx _ ((g3.xin _ rfl).2 z w1)
      ·exact bp _ (by rw[w1];exact aG.mpr rfl)
     ·have:=g3.il
      rw[aH]
      lia
    have hl4:=g4.len hen hc
    rw[aH]at hl4
    have hl4':ab1.length+1<=ps.length:=hl4
    simp_arith[em3]
    refine⟨by rw[pP];exact jk (by lia),?_⟩
    rw[uk cn]
    have et4:upd H3 md (.dK (gk (ab1++[(n,.int x)]))) tl=some (.lst ((ab1.map (·.1)).map V.int)):=by rw[iJ nmt.symm];exact et3
    refine⟨⟨tl,_,rfl,et4⟩,?_⟩
    rw[et4]
    refine⟨by rw[ae,ae];exact jk (by lia),_,ab1++[(n,.int x)],rfl,jt (jt s3 hmd) htl0,?_,?_,g4⟩
    ·rw[iJ nmt,iF]
    ·rw[iF,em1,ah];rfl
  ·rintro σ H3 ⟨th1,ab1,rfl,s3,em3,et3,g3⟩
   have hx3:=(g3.xin x rfl).1
   have hil:i<ab1.length:=by
    have:=(ag.mp hx3).1
    rwa[ae]at this
   walk_at "D"
   refine⟨ps.length-(i+1),by lia,_,_,i+1,ab1,rfl,s3,em3,et3,⟨g3.c_in,g3.nd,g3.sub,fun m hm n hn=>?_,(fun _ z=>nomatch z),g3.tree,hil⟩,rfl⟩
   rw[jM hx3]at hm
   rcases aQ.mp hm with z|z
   ·exact g3.cl m z n hn
   ·rw[aG.mp z]at hn
    refine(g3.xin x rfl).2 n ?_
    rw[ae,aX]
    exact hn
 ·rw[au (by simp;lia)]
  walk_at "D"
  have hil:=g.il
  have ei:i=ab.length:=by lia
  refine h md H1 ab hmd s1 em ⟨g.nd,fun n=>⟨g.sub n,fun r=>?_⟩,g.tree⟩ (by lia)
  induction r with
  |refl=>exact g.c_in
  | step _ hn ih=>exact g.cl _ (by rw [ei,<- ae (f:=fun (x:Int × V)=>x.1),aX]; exact ih) _ hn
theorem Im(B:Blt mg)(D:DefAt K mg "levels_by" (iI 29) ["above"] f fd):FnOk P w K mg base iQ 1 f fd ["above"] vg:=by
 have sc:FnScope ["above","levels","place"] ["above"] (ja (iI 29)):=by walk_at "SC"
 refine D.F.ok sc (fun vs H Q E h=>?_) (fun cdv A outer s H vs Q E hr h=>?_)
 ·obtain⟨a,ab,ts,c,col,rfl,_⟩:=h
  rfl
 obtain⟨a,ab,ts,c,col,rfl,ea,hnd,tree,hcol,hal,h⟩:=h
 have hu:=jl hr
 have hu0:_<PySem.cLine:=aD hu
 refine⟨_,(iH (iR (i:=1) sc.nd rfl (Or.inl rfl) va) (iH (j4 bo rfl (uK (qv 0)) (i3 (i:=2) sc.nd rfl (Or.inl rfl)) (iN (nH hu (qv 1) (qv 2) (rR (jF C5 (oG hu (qv 0) (qv 2) (fun _ _=>rfl)) lK (jr _)) iG (i5 kl (kP hu (qv 1) (oG hu (qv 0) (qv 2) (fun _ _=>rfl)) (fun _ _=>rfl)) iG))))) (iN (jg (qv 1))))),?_⟩
 walk_at "D"
 intro d hd
 have nad:a≠d:=iU ea hd
 refine tFor_hideI (ι:=Obj) (fun o=>ly a o (gk ab)) (fun o=>upd (upd H d (.dK [])) a (.frz o (.dK (gk ab)))) (fun _=>True) (fun R hR=>?_) (fun o _=>?_)
 ·unfold su
  walk_at "D"
  exact⟨a,_,rfl,(by rw[iJ nad];exact ea),fun o=>hR o trivial⟩
 have b0:But a H (upd (upd H d (.dK [])) a (.frz o (.dK (gk ab)))):=(But.new hd).trans (But.at _ _ _)
 have ea0:upd (upd H d (.dK [])) a (.frz o (.dK (gk ab))) a=some (.frz o (.dK (gk ab))):=iF
 have ed0:upd (upd H d (.dK [])) a (.frz o (.dK (gk ab))) d=some (.dK (gk [])):=by rw[iJ nad.symm,iF];rfl
 generalize upd (upd H d (.dK [])) a (.frz o (.dK (gk ab)))=H0 at b0 ea0 ed0
 refine uX (fun j σ H1=>∃v1 lv,σ=[some (.ref a),some (.ref d),v1]/\But a H H1/\H1 a=some (.frz o (.dK (gk ab)))/\H1 d=some (.dK (gk lv))/\lv.map (·.1)=(ab.take j).map (·.1)/\tJ col c lv) ⟨none,[],rfl,b0,ea0,ed0,by simp,(fun p hp=>nomatch hp)⟩ (fun j σ H1 _ ⟨_,_,_,_,e1,_⟩=>e1) ?_ ?_
 ·rintro j kv σ H1 hj ⟨v1,lv,rfl,b1,ea1,ed1,hk,lok⟩
  obtain⟨p,hp,ekv⟩:=BN hj
  rw[ekv]
  show kh 2 (.int p.1) _ _ _
  have hpm:p∈ab:=ao hp
  have vp:=pQ hnd hpm
  have hjl:j<ab.length:=(ag.mp hp).1
  have htk:(ab.take (j+1)).map (·.1)=lv.map (·.1)++[p.1]:=by rw[jM hp,ah,hk];rfl
  have ndk:((ab.take (j+1)).map (·.1)).Nodup:=by rw[gK];exact List.Sublist.nodup (eI _ _) hnd
  have hpk:p.1∉lv.map (·.1):=fun z=>by
   rw[htk,bM]at ndk
   exact ndk.2.2 p.1 z p.1 (aG.mpr rfl) rfl
  have ndl:(lv.map (·.1)).Nodup:=by
   rw[htk,bM]at ndk
   exact ndk.1
  have hll:lv.length=j:=by
   have z:=bY List.length hk
   rw[ae,ae,aW]at z
   lia
  have fin:∀x:Int,(x%2=if col p.1=col c then 0 else 1)->(gk lv).length<sizeLine/\∃v1 lv',[some (V.ref a),some (V.ref d),some (V.int p.1)]=[some (V.ref a),some (V.ref d),v1]/\But a H (upd H1 d (.dK (jC (gk lv) (Sum.inl p.1:iE) (.int x))))/\upd H1 d (.dK (jC (gk lv) (Sum.inl p.1:iE) (.int x))) a=some (.frz o (.dK (gk ab)))/\upd H1 d (.dK (jC (gk lv) (Sum.inl p.1:iE) (.int x))) d=some (.dK (gk lv'))/\lv'.map (·.1)=(ab.take (j+1)).map (·.1)/\tJ col c lv':=fun x hx=>by
   rw[uk hpk]
   refine⟨by rw[pP];exact jk (by lia),_,lv++[(p.1,.int x)],rfl,fun b u nb q=>?_,?_,iF,?_,fun q hq=>?_⟩
   ·rw[iJ (iU q hd)];exact b1 _ _ nb q
   ·rw[iJ nad];exact ea1
   ·rw[htk,ah];rfl
   ·rcases aQ.mp hq with z|z
    ·exact lok q z
    ·rw[aG.mp z]
     exact⟨x,rfl,hx⟩
  walk_at "D"
  refine⟨a,_,rfl,.inl ⟨_,Sum.inl p.1,.inr ⟨o,ea1⟩,rfl,vp.symm⟩,?_⟩
  rcases tree j p hp with⟨e1,e2⟩|⟨m,e1,e2,e3⟩
  ·rw[e1]
   refine lr (fun _=>?_) (fun z=>absurd rfl z)
   rw[ed1]
   exact fin 0 (by rw[e2,aw rfl];rfl)
  ·rw[e1]at vp ⊢
   refine lr (fun z=>by cases z) (fun _=>?_)
   refine⟨a,_,rfl,.inl ⟨_,Sum.inl p.1,.inr ⟨o,ea1⟩,rfl,vp.symm⟩,?_⟩
   rw [<- hk] at e2
   obtain⟨q,hq,eq⟩:=aB.mp e2
   have eq':q.1=m:=eq
   obtain⟨x,ex,hx⟩:=lok q hq
   have vq:=pQ ndl hq
   rw[eq',ex]at vq
   rw[eq']at hx
   have hc2:=hcol m p.1 e3
   dsimp only
   rw[ed1]
   dsimp only
   rw[vq]
   refine fin (x+1) ?_
   rw[hc2]
   revert hx
   cases col m<;>cases col c<;>simp<;>lia
 ·rintro σ H1 ⟨v1,lv,rfl,b1,ea1,ed1,hk,lok⟩
  rw[pP,aX]at hk
  walk_at "D"
  exact h d H1 lv o hd b1 ea1 ed1 hk lok
theorem IQ(B:Blt mg)(D:DefAt K mg "odd_ring_from" (iI 32) ["nears","place"] f fd)(Dqg:DefAt K mg "met_from" (iI 28) ["nears","place"] fqg dqg)(Gqg:FnOk P w K mg base iQ 1 fqg dqg ["nears","place"] tZ)(Dqe:DefAt K mg "levels_by" (iI 29) ["above"] fqe dqe)(Gqe:FnOk P w K mg base iQ 1 fqe dqe ["above"] vg):FnOk P w K mg base iQ 2 f fd ["nears","place"] xk:=by
 have sc:FnScope ["nears","place","above","levels","here","there"] ["nears","place"] (ja (iI 32)):=by walk_at "SC"
 refine D.F.ok sc (fun vs H Q E h=>?_) (fun cdv A outer s H vs Q E hr h=>?_)
 ·obtain⟨nd,c,ps,ts,as,col,rfl,_⟩:=h
  rfl
 obtain⟨nd,c,ps,ts,as,col,rfl,hrd,hla,hne,hen,hnd,hpl,htl,hc,hcol,h⟩:=h
 have hu:=jl hr
 have hu0:_<PySem.cLine:=aD hu
 refine⟨_,(iH (iR (i:=2) sc.nd rfl (Or.inl rfl) (i8 Gqg (hr.mono (by decide)) rfl Dqg.m Dqg.F.kp Dqg.b .nil iX (iC (qv 0) (iC (qv 1) iD)))) (iH (iR (i:=3) sc.nd rfl (Or.inl rfl) (i8 Gqe (hr.mono (by decide)) rfl Dqe.m Dqe.F.kp Dqe.b .nil iX (iC (qv 2) iD))) (iH (j4 bo rfl (rS (qv 2)) (i3 (i:=4) sc.nd rfl (Or.inl rfl)) (iN (j4 bo rfl (ka (oG hu (qv 0) (qv 4) (fun _ _=>rfl))) (i3 (i:=5) sc.nd rfl (Or.inl rfl)) (iN (jK (jF mJ (kP hu (qv 3) (qv 5) (fun _ _=>rfl)) (kP hu (qv 3) (qv 4) (fun _ _=>rfl)) (jr _)) (iN oP) jL))))) (iN (jg lK))))),?_⟩
 walk_at "D"
 refine⟨nd,c,ps,ts,as,rfl,hrd,hla,hne,hen,hnd,hpl,htl,hc,fun md H1 ab hmd s1 em mok hal=>?_⟩
 walk_at "D"
 refine⟨md,ab,ts,c,col,rfl,em,mok.nd,mok.tree,hcol,hal,fun d H2 lv o hd b2 em2 ed2 hk lok=>?_⟩
 have s2:Same H H2:=fun b u q=>b2 _ _ (iU q hmd) (s1 _ _ q)
 walk_at "D"
 refine ku (ly md o (gk ab)) H2 (fun R hR=>?_) (uX (fun j σ H3=>∃v1 v2,σ=[some (.ref nd),some (.int c),some (.ref md),some (.ref d),v1,v2]/\H3=H2) ⟨none,none,rfl,rfl⟩ (fun j σ H3 _ ⟨_,_,_,e⟩=>by rw[e];exact em2) ?_ ?_)
 ·unfold pI
  walk_at "D"
  exact⟨md,_,o,rfl,em2,hR⟩
 ·rintro j kv σ H3 hj ⟨v1,v2,rfl,rfl⟩
  obtain⟨p0,hp0,ekv⟩:=BN hj
  rw[ekv]
  show kh 4 (.int p0.1) _ _ _
  have hxk:p0.1∈ab.map (·.1):=bh (ao hp0)
  have hxr:=(mok.all _).mp hxk
  have hxp:p0.1∈ps.map (·.1):=hxr.pl hen hc
  generalize p0.1=x at hxk hxr hxp
  obtain⟨p,hp,epx⟩:=aB.mp hxp
  obtain⟨k,hk0,epk⟩:=aS.mp hp
  have xi:ps[k]? =some p:=by rw[gE hk0,epk]
  have ai:as[k]? =some (as[k]'(by lia)):=gE _
  generalize as[k]'(by lia)=ax at ai
  have eax:=hne k p ax xi ai
  rw[epx]at eax
  have vax:=pS hnd xi ai
  rw[epx]at vax
  have lev:∀n,n∈ab.map (·.1)->∃y:Int,jb (gk lv) (Sum.inl n:iE)=some (.int y)/\y%2=if col n=col c then 0 else 1:=fun n hn=>by
   rw [<- hk] at hn
   obtain⟨q,hq,eq⟩:=aB.mp hn
   have eq':q.1=n:=eq
   obtain⟨y,ey,hy⟩:=lok q hq
   have vq:=pQ (by rw[hk];exact mok.nd) hq
   rw[eq',ey]at vq
   rw[eq']at hy
   exact⟨y,vq,hy⟩
  walk_at "D"
  refine ku (jS K ax) H3 (fun R hR=>?_) (k7 (K:=K) (a:=ax) (xs:=(jm ts x).map V.int) (fun j σ H4=>∃v2,σ=[some (.ref nd),some (.int c),some (.ref md),some (.ref d),some (.int x),v2]/\H4=H3) ⟨_,rfl,rfl⟩ (fun j σ H4 _ ⟨_,_,e⟩=>by rw[e];exact SqL.of (s2 _ _ eax)) ?_ ?_)
  ·unfold j2
   walk_at "D"
   exact⟨nd,_,rfl,.inl ⟨_,Sum.inl x,My.Rd.same hrd s2,rfl,vax.symm⟩,ax,rfl,⟨_,SqL.of (s2 _ _ eax)⟩,hR⟩
  ·rintro i y σ H4 hi ⟨v2,rfl,rfl⟩
   rw[aA]at hi
   obtain⟨n,hn,rfl⟩:=bN.mp hi
   have hnn:n∈jm ts x:=ao hn
   obtain⟨y1,e1,h1⟩:=lev x hxk
   obtain⟨y2,e2,h2⟩:=lev n ((mok.all _).mpr (.step hxr hnn))
   have hne12:¬y2=y1:=fun z=>by
    rw[hcol x n hnn]at h2
    rw[z,h1]at h2
    revert h2
    cases col x<;>cases col c<;>simp
   simp_arith[ed2,e1,e2,aC hne12]
   first|exact⟨_,rfl,rfl⟩|exact⟨rfl,rfl⟩|rfl|simp
  ·rintro σ H4 ⟨v2,rfl,rfl⟩
   first|exact⟨_,_,rfl,rfl⟩|rfl|simp
 ·rintro σ H3 ⟨v1,v2,rfl,rfl⟩
  walk_at "D"
  exact h H3 s2
def kN(f:Int->Int)(col:Int->Bool)(n:Int):Int:=if col n=col (f n)then 0 else 1
def jY(f:Int->Int)(col:Int->Bool)(ns:List Int)(b:Int):List Int:=ns.filter fun n=>decide (kN f col n=b)
def zh:Sp:=fun vs H Q _=>∃v ps ts f col,vs=[v]/\jdc H v ps ts/\WebOk ps ts/\LabOk ps ts f/\nW ts col/\
 ∀t a1 a2 H',H a1=none->H a2=none->a1≠a2->Same H H'->H' t=some (.tup [.str "sides",.ref a1,.ref a2])->H' a1=some (.lst ((jY f col (ps.map (·.1)) 0).map V.int))->H' a2=some (.lst ((jY f col (ps.map (·.1)) 1).map V.int))->Q (.ref t) H'
theorem HQ(B:Blt mg)(D:DefAt K mg "sides_of" (iI 34) ["web"] f fd)(Dqz:DefAt K mg "look_at_web" (iI 25) ["thing"] fqz dqz)(Gqz:FnOk P w K mg base iQ 5 fqz dqz ["thing"] AM)(Dq0:DefAt K mg "nears_in" (iI 26) ["web"] fq0 dq0)(Gq0:FnOk P w K mg base iQ 1 fq0 dq0 ["web"] AN)(Dq2:DefAt K mg "odd_ring_from" (iI 32) ["nears","place"] fq2 dq2)(Gq2:FnOk P w K mg base iQ 2 fq2 dq2 ["nears","place"] xk)(Dqe:DefAt K mg "levels_by" (iI 29) ["above"] fqe dqe)(Gqe:FnOk P w K mg base iQ 1 fqe dqe ["above"] vg)(Dqg:DefAt K mg "met_from" (iI 28) ["nears","place"] fqg dqg)(Gqg:FnOk P w K mg base iQ 1 fqg dqg ["nears","place"] tZ):FnOk P w K mg base iQ 6 f fd ["web"] zh:=by
 have sc:FnScope ["web","nears","levels","place","ring","first","other"] ["web"] (ja (iI 34)):=by walk_at "SC"
 refine D.F.ok sc (fun vs H Q E h=>?_) (fun cdv A outer s H vs Q E hr h=>?_)
 ·obtain⟨v,ps,ts,f,col,rfl,_⟩:=h
  rfl
 obtain⟨v,ps,ts,fl,col,rfl,hw,wok,lab,hcol,h⟩:=h
 have okl:=wok.pl
 have okt:=wok.tl
 have hnd:=wok.p.nodup
 have hen:=wok.ends
 have hu:=jl hr
 have hu0:_<PySem.cLine:=aD hu
 refine⟨_,(iH (j0 (i8 Gqz (hr.mono (by decide)) rfl Dqz.m Dqz.F.kp Dqz.b .nil iX (iC (qv 0) iD))) (iH (iR (i:=1) sc.nd rfl (Or.inl rfl) (i8 Gq0 (hr.mono (by decide)) rfl Dq0.m Dq0.F.kp Dq0.b .nil iX (iC (qv 0) iD))) (iH (iR (i:=2) sc.nd rfl (Or.inr rfl) va) (iH (j4 bo rfl (uK (qv 1)) (i3 (i:=3) sc.nd rfl (Or.inl rfl)) (iN (jK (mj (qe hu (qv 3) (qv 2))) (iH (iR (i:=4) sc.nd rfl (Or.inl rfl) (i8 Gq2 (hr.mono (by decide)) rfl Dq2.m Dq2.F.kp Dq2.b .nil iX (iC (qv 1) (iC (qv 3) iD)))) (iH (jK (jF x9 (qv 4) lK (jr _)) (iN (jg (kr (iC ur (iC (qv 4) iD))))) jL) (iN (j0 (EG (qv 2) (i8 Gqe (hr.mono (by decide)) rfl Dqe.m Dqe.F.kp Dqe.b .nil iX (iC (i8 Gqg (hr.mono (by decide)) rfl Dqg.m Dqg.F.kp Dqg.b .nil iX (iC (qv 1) (iC (qv 3) iD))) iD))))))) jL))) (iH (yV (i:=5) sc.nd rfl (Or.inl rfl) (CpScope.of (N:=["place","levels"]) (src:=[none,some 2]) (by rfl)) rfl (rS (qv 1)) (fun _ _ _ _=>(i3 (i:=0) (j5 (l:=["place","levels"]) (by rfl)) rfl (Or.inl rfl))) (fun _ _ _ _=>(nL (jF mJ (i5 lB (kP hu (qv 1) (qv 0) (fun _ _=>rfl)) iG) iG (jr _)))) (fun _ _ _ _=>(qv 0))) (iH (yV (i:=6) sc.nd rfl (Or.inl rfl) (CpScope.of (N:=["place","levels"]) (src:=[none,some 2]) (by rfl)) rfl (rS (qv 1)) (fun _ _ _ _=>(i3 (i:=0) (j5 (l:=["place","levels"]) (by rfl)) rfl (Or.inl rfl))) (fun _ _ _ _=>(nL (jF mJ (i5 lB (kP hu (qv 1) (qv 0) (fun _ _=>rfl)) iG) iG (jr _)))) (fun _ _ _ _=>(qv 0))) (iN (jg (kr (iC ur (iC (qv 5) (iC (qv 6) iD)))))))))))),?_⟩
 walk_at "D"
 refine⟨v,ps,ts,rfl,hw,wok,fun H1 s1=>?_⟩
 walk_at "D"
 refine⟨v,ps,ts,rfl,hw.same s1,wok,fun nd as H2 hn2 s2 en2 hla ne2=>?_⟩
 have s12:=s1.trans s2
 have hn0:H nd=none:=by
  cases q:H nd with
  |none=>rfl
  |some u=>rw[s1 _ _ q]at hn2;cases hn2
 walk_at "D"
 intro md hmd
 have hmd0:H md=none:=s12.free hmd
 have s3:Same H2 (upd H2 md (.dK [])):=iL hmd _
 have em3:upd H2 md (.dK []) md=some (.dK (gk [])):=iF
 have nnm:nd≠md:=iU en2 hmd
 have en3:=s3 _ _ en2
 have ne3:ni (upd H2 md (.dK [])) ps ts as:=fun i p a h1 h2=>s3 _ _ (ne2 i p a h1 h2)
 have hma:∀(i:Nat) (p:Int×Int) (a:Addr),ps[i]? =some p->as[i]? =some a->a≠md/\a≠nd:=fun i p a h1 h2=>⟨iU (ne2 i p a h1 h2) hmd,mh (ne2 i p a h1 h2) en2 (fun z=>nomatch z)⟩
 have s13:=s12.trans s3
 generalize upd H2 md (.dK [])=H3 at em3 en3 ne3 s13
 clear s3 ne2 en2 hmd s2 s12 hn2 s1
 have hkl:=DR hla
 refine tFor_hideI (ι:=Obj) (fun o=>ly nd o (kz ps as)) (fun o=>upd H3 nd (.frz o (.dK (kz ps as)))) (fun _=>True) (fun R hR=>?_) (fun o _=>?_)
 ·unfold su
  walk_at "D"
  exact⟨nd,_,rfl,en3,fun o=>hR o trivial⟩
 have s4:Same H (upd H3 nd (.frz o (.dK (kz ps as)))):=jt s13 hn0
 have em4:upd H3 nd (.frz o (.dK (kz ps as))) md=some (.dK (gk [])):=by rw[iJ nnm.symm];exact em3
 have en4:upd H3 nd (.frz o (.dK (kz ps as))) nd=some (.frz o (.dK (kz ps as))):=iF
 have ne4:ni (upd H3 nd (.frz o (.dK (kz ps as)))) ps ts as:=fun i p a h1 h2=>by rw[iJ (hma i p a h1 h2).2];exact ne3 i p a h1 h2
 generalize upd H3 nd (.frz o (.dK (kz ps as)))=H4 at s4 em4 en4 ne4
 clear s13 em3 en3 ne3
 refine uX (fun j σ H5=>∃v1 v2 lv,σ=[some v,some (.ref nd),some (.ref md),v1,v2,none,none]/\Same H H5/\H5 nd=some (.frz o (.dK (kz ps as)))/\ni H5 ps ts as/\H5 md=some (.dK (gk lv))/\(lv.map (·.1)).Nodup/\(∀n,n∈lv.map (·.1)↔n∈ps.map (·.1)/\fl n∈(ps.take j).map (·.1))/\(∀q∈lv,∃x:Int,q.2= .int x/\x%2=kN fl col q.1)) ⟨none,none,[],rfl,s4,en4,ne4,em4,eK,fun n=>by simp,(fun q hq=>nomatch hq)⟩ (fun j σ H5 _ ⟨_,_,_,_,_,en5,_⟩=>en5) ?_ ?_
 ·rintro j kv σ H5 hj ⟨v1,v2,lv,rfl,s5,en5,ne5,em5,ndk,hks,lok⟩
  obtain⟨p,hp,ekv⟩:=tT hla hj
  rw[ekv]
  have hpm:p∈ps:=ao hp
  have hpn:p.1∈ps.map (·.1):=bh hpm
  have hnj:p.1∉(ps.take j).map (·.1):=fun z=>by
   obtain⟨q,hq,e⟩:=aB.mp z
   obtain⟨i,hi,eq⟩:=aS.mp hq
   rw[aW]at hi
   rw[List.getElem_take]at eq
   have:=wok.p.rise i j q p (by lia) (by rw[gE (by lia),eq]) hp
   lia
  have htk:∀n,n∈(ps.take (j+1)).map (·.1)↔n∈(ps.take j).map (·.1)\/n=p.1:=fun n=>by
   rw[jM hp,ah,aQ]
   simp
  show kh 3 (.int p.1) _ _ _
  simp_arith[em5,uj]
  by_cases cf:fl p.1=p.1
  ·have hpk:p.1∉lv.map (·.1):=fun z=>hnj (by have:=((hks p.1).mp z).2;rwa[cf]at this)
   rw[aC hpk]
   walk_at "D"
   refine⟨nd,p.1,ps,ts,as,col,rfl,.inr ⟨o,en5⟩,hla,ne5,hen,hnd,okl,okt,hpn,hcol,fun H6 s6=>?_⟩
   walk_at "D"
   have em6:=s6 _ _ em5
   refine⟨md,rfl,.inl ⟨_,.inl em6⟩,nd,p.1,ps,ts,as,rfl,.inr ⟨o,s6 _ _ en5⟩,hla,fun i q a h1 h2=>s6 _ _ (ne5 i q a h1 h2),hen,hnd,okl,okt,hpn,fun ad H7 ab had s7 ead mok hal=>?_⟩
   walk_at "D"
   refine⟨ad,ab,ts,p.1,col,rfl,ead,mok.nd,mok.tree,hcol,hal,fun d H8 l2 o2 hd b8 ea8 ed8 hk2 lok2=>?_⟩
   have s67:=s6.trans s7
   have s58:Same H5 H8:=fun b u q=>b8 _ _ (iU (s6 _ _ q) had) (s67 _ _ q)
   have em8:=s58 _ _ em5
   have ndm:md≠d:=iU (s67 _ _ em5) hd
   have hk2':∀n,n∈l2.map (·.1)↔n∈ps.map (·.1)/\fl n=p.1:=fun n=>by
    rw[hk2,mok.all]
    constructor
    ·intro r
     have hn:=r.pl hen hpn
     exact ⟨hn,by rw [<- (lab.cls p.1 n hpn hn).mpr r,cf]⟩
    ·rintro⟨hn,e⟩
     exact(lab.cls p.1 n hpn hn).mp (by rw[cf,e])
   have nd2:(l2.map (·.1)).Nodup:=by rw[hk2];exact mok.nd
   have dis:∀n∈l2.map (·.1),n∉lv.map (·.1):=fun n h1 h2=>hnj (by have z:=((hks n).mp h2).2;rwa[((hk2' n).mp h1).2]at z)
   have l1:=qi ndk fun n hn=>((hks n).mp hn).1
   have l3:=qi nd2 fun n hn=>((hk2' n).mp hn).1
   rw[ae,ae]at l1 l3
   refine⟨d,gk lv,gk l2,rfl,ndm,em8,ed8,by rw[pP,pP];lia,?_⟩
   rw[zL dis nd2]
   have k9:∀b u,b≠md->H5 b=some u->upd H8 md (.dK (gk (lv++l2))) b=some u:=fun b u nb q=>by rw[iJ nb];exact s58 _ _ q
   refine⟨_,_,lv++l2,rfl,jt (s5.trans s58) hmd0,k9 _ _ nnm en5,fun i q a h1 h2=>k9 _ _ (hma i q a h1 h2).1 (ne5 i q a h1 h2),iF,?_,fun n=>?_,fun q hq=>?_⟩
   ·rw[ah,bM]
    exact ⟨ndk,nd2,fun a ha b hb z=>dis b hb (by rw [<- z]; exact ha)⟩
   ·rw[ah,aQ,hks,hk2',htk]
    constructor
    ·rintro(⟨a,b⟩|⟨a,b⟩)
     ·exact⟨a,.inl b⟩
     ·exact⟨a,.inr b⟩
    ·rintro⟨a,b|b⟩
     ·exact .inl ⟨a,b⟩
     ·exact .inr ⟨a,b⟩
   ·rcases aQ.mp hq with z|z
    ·exact lok q z
    ·obtain⟨x,ex,hx⟩:=lok2 q z
     refine⟨x,ex,?_⟩
     rw[hx,kN,((hk2' q.1).mp (bh z)).2]
  ·have hfp:=lab.pl p.1 hpn
   have hfl:=lab.le p.1 hpn
   have hpk:p.1∈lv.map (·.1):=by
    rw[hks]
    refine⟨hpn,?_⟩
    obtain⟨q,hq,e⟩:=aB.mp hfp
    obtain⟨i,hi,eq⟩:=aS.mp hq
    have xi:ps[i]? =some q:=by rw[gE hi,eq]
    have hij:i<j:=by
     rcases gX i j with c|c|c
     ·exact c
     ·rw[c,hp]at xi;cases xi;exact absurd e.symm cf
     ·have:=wok.p.rise j i p q c hp xi
      have e':q.1=fl p.1:=e
      lia
    rw [<- e]
    exact bh (ao (i:=i) (by rw[List.getElem?_take,aw hij];exact xi))
   rw[az hpk]
   walk_at "D"
   refine⟨_,_,lv,rfl,s5,en5,ne5,(by first|exact em5|rfl),ndk,fun n=>?_,lok⟩
   rw[hks,htk]
   constructor
   ·rintro⟨a,b⟩
    exact⟨a,.inl b⟩
   ·rintro⟨a,b|b⟩
    ·exact⟨a,b⟩
    ·exact absurd (by rw [<- b]; exact lab.fix n a) cf
 rintro σ H5 ⟨v1,v2,lv,rfl,s5,en5,ne5,em5,ndk,hks,lok⟩
 rw[hkl]at hks
 have hkz:=oC (ps:=ps) (as:=as) hla.symm
 have lev:∀p∈ps,∃x:Int,jb (gk lv) (Sum.inl p.1:iE)=some (.int x)/\x%2=kN fl col p.1:=fun p hp=>by
  have hpn:p.1∈ps.map (·.1):=bh hp
  have hn:=(hks p.1).mpr ⟨hpn,by rw[aX];exact lab.pl p.1 hpn⟩
  obtain⟨q,hq,e⟩:=aB.mp hn
  have e':q.1=p.1:=e
  obtain⟨x,ex,hx⟩:=lok q hq
  have vq:=pQ ndk hq
  rw[e',ex]at vq
  rw[e']at hx
  exact⟨x,vq,hx⟩
 walk_at "D"
 refine kR (ly nd o (kz ps as)) H5 (fun R hR=>?_) (fun l hl=>kG ps.length (fun i σ' Hc=>∃w1,σ'=[w1,some (.ref md)]/\Same H5 Hc/\Hc l=some (.lst ((jY fl col ((ps.map (·.1)).take i) 0).map V.int))) ⟨none,rfl,iL hl _,iF⟩ ?_ ?_)
 ·unfold pI
  walk_at "D"
  exact⟨nd,_,o,rfl,en5,hR⟩
 ·rintro i σ' Hc hi ⟨w1,rfl,s6,el⟩
  refine⟨⟨s6 _ _ (en5),by rw[hkl];exact hi⟩,?_⟩
  rintro y H' ⟨rfl,kv,hkv,rfl⟩
  obtain⟨p,hp,ekv⟩:=tT hla hkv
  rw[ekv]
  obtain⟨x,vx,hx⟩:=lev p (ao hp)
  have hp1:(ps.map (·.1))[i]? =some p.1:=by rw[aA,hp];rfl
  have ft:=sk (f:=fun n=>decide (kN fl col n=0)) hp1
  have hls:(jY fl col ((ps.map (·.1)).take i) 0).length<=i:=by
   unfold jY
   refine bz (bR _ _) ?_
   rw[aW]
   lia
  show kh 0 (.int p.1) _ _ _
  simp_arith[s6 _ _ (em5),vx]
  refine⟨by decide,?_⟩
  rw[hx]
  refine lr (fun c1=>?_) (fun c1=>?_)
  ·refine⟨_,el,by rw[ae];exact jk (by lia),_,rfl,jt s6 hl,?_⟩
   rw[iF]
   unfold jY
   rw[ft,aw c1,ah]
   rfl
  ·unfold jY at el ⊢
   rw[ft,au c1,bt]
   exact⟨_,rfl,s6,el⟩
 rintro σ' HA ⟨w7,rfl,s7,el7⟩
 refine⟨⟨s7 _ _ (en5),by rw[hkl];exact av _⟩,?_⟩
 rw[show ps.length=(ps.map (·.1)).length by rw[ae],aX]at el7
 walk_at "D"
 refine kR (ly nd o (kz ps as)) HA (fun R hR=>?_) (fun l2 hl2=>kG ps.length (fun i σ' Hc=>∃w1,σ'=[w1,some (.ref md)]/\Same HA Hc/\Hc l2=some (.lst ((jY fl col ((ps.map (·.1)).take i) 1).map V.int))) ⟨none,rfl,iL hl2 _,iF⟩ ?_ ?_)
 ·unfold pI
  walk_at "D"
  exact⟨nd,_,o,rfl,s7 _ _ en5,hR⟩
 ·rintro i σ' Hc hi ⟨w1,rfl,s6,el⟩
  refine⟨⟨s6 _ _ (s7 _ _ en5),by rw[hkl];exact hi⟩,?_⟩
  rintro y H' ⟨rfl,kv,hkv,rfl⟩
  obtain⟨p,hp,ekv⟩:=tT hla hkv
  rw[ekv]
  obtain⟨x,vx,hx⟩:=lev p (ao hp)
  have hp1:(ps.map (·.1))[i]? =some p.1:=by rw[aA,hp];rfl
  have ft:=sk (f:=fun n=>decide (kN fl col n=1)) hp1
  have hls:(jY fl col ((ps.map (·.1)).take i) 1).length<=i:=by
   unfold jY
   refine bz (bR _ _) ?_
   rw[aW]
   lia
  show kh 0 (.int p.1) _ _ _
  simp_arith[s6 _ _ (s7 _ _ em5),vx]
  refine⟨by decide,?_⟩
  rw[hx]
  refine lr (fun c1=>?_) (fun c1=>?_)
  ·refine⟨_,el,by rw[ae];exact jk (by lia),_,rfl,jt s6 hl2,?_⟩
   rw[iF]
   unfold jY
   rw[ft,aw c1,ah]
   rfl
  ·unfold jY at el ⊢
   rw[ft,au c1,bt]
   exact⟨_,rfl,s6,el⟩
 rintro σ' HB ⟨w8,rfl,s8,el8⟩
 refine⟨⟨s8 _ _ (s7 _ _ en5),by rw[hkl];exact av _⟩,?_⟩
 rw[show ps.length=(ps.map (·.1)).length by rw[ae],aX]at el8
 have s78:=s7.trans s8
 walk_at "D"
 intro t ht
 have st:=iL ht (.tup [.str "sides",.ref l,.ref l2])
 exact h t l l2 _ (s5.free hl) (s5.free (s7.free hl2)) (iU el7 hl2) (s5.trans (s78.trans st)) iF (st _ _ (s8 _ _ el7)) (st _ _ el8)
structure Ds(ts:List (Int×Int))(c:Int)(k0:List Int)(x:Option Int)(dn:Int->Prop)(ks td:List Int):Prop where
 c_in:c∈ks
 sup:∀n∈k0,n∈ks
 nd:ks.Nodup
 sub:∀n∈ks,n∈k0\/Rch ts c n
 tin:∀n∈td,n∈ks/\Rch ts c n
 cl:∀m∈ks,m∉k0->m∉td->x≠some m->∀n∈jm ts m,n∈ks
 xin:∀m,x=some m->m∈ks/\Rch ts c m/\∀n,dn n->n∈ks
 tl:td.length<=ks.length
theorem Ds.len{ps ts:List (Int×Int)}{c:Int}{k0:List Int}{x:Option Int}{dn:Int->Prop}{ks td:List Int}(h:Ds ts c k0 x dn ks td)(he:Ends ps ts)(hc:c∈ps.map (·.1))(h0:∀n∈k0,n∈ps.map (·.1)):ks.length<=ps.length:=by
 have z:=qi h.nd fun n hn=>by
  rcases h.sub n hn with z|z
  ·exact h0 n z
  ·exact z.pl he hc
 rwa[ae]at z
theorem FM{ps ts:List (Int×Int)}{f:Int->Int}{col:Int->Bool}(lab:LabOk ps ts f)(hcol:nW ts col){m n:Int}(hm:m∈ps.map (·.1))(hn:n∈ps.map (·.1))(h:n∈jm ts m):kN f col n=1-kN f col m:=by
 have e:=(lab.cls m n hm hn).mpr (.step .refl h)
 unfold kN
 rw [<- e,hcol m n h]
 cases col m<;>cases col (f m)<;>simp
theorem DL{a b c d:Int}(h0:0<=d)(h1:d<3):∃v,je [V.int a,.int b,.int c] d=some (.int v)/\(v=a\/v=b\/v=c):=by
 have hd:d=0\/d=1\/d=2:=by lia
 rcases hd with rfl|rfl|rfl
 ·exact⟨a,jw,.inl rfl⟩
 ·exact⟨b,jX,.inr (.inl rfl)⟩
 ·exact⟨c,mD,.inr (.inr rfl)⟩
end
end My
namespace Fl
structure Tw where
 a:Int
 b:Int
 x:Int
 y:Int
def iY(n m v:Int):Int:=if n=m then v else 0
theorem og(n v:Int):iY n n v=v:=by unfold iY;rw[aw rfl]
theorem jW{n m:Int}(h:n≠m)(v:Int):iY n m v=0:=by unfold iY;rw[au h]
theorem tj(c:Int->Int)(a x:Int):∀{ns:List Int},ns.Nodup->a∈ns->(ns.map fun p=>c p*iY a p x).sum=c a*x
 |[],_,h=>by cases h
 | n ::ns,nd,h=>by
  rw[aq,List.sum_cons]
  have nd':=bB.mp nd
  by_cases e:a=n
  ·subst e
   have h0:∀{l:List Int},a∉l->(l.map fun p=>c p*iY a p x).sum=0:=by
    intro l
    induction l with
    |nil=>intro _;rfl
    |cons m l ih=>
     intro hm
     rw[aq,List.sum_cons,jW (fun z:a=m=>hm (by rw[z];exact aJ ..)),Int.mul_zero,ih fun z=>hm (ay _ z)]
     rfl
   rw[og,h0 nd'.1,fm]
  ·have hm:a∈ns:=(aR.mp h).resolve_left e
   rw[jW e,Int.mul_zero,tj c a x nd'.2 hm,Int.zero_add]
theorem n6{α:Type}(f g:α->Int):∀(l:List α),(l.map fun p=>f p+g p).sum=(l.map f).sum+(l.map g).sum
 |[]=>rfl
 |a::l=>by
  rw[aq,aq,aq,List.sum_cons,List.sum_cons,List.sum_cons,n6 f g l]
  lia
theorem lH{α:Type}:∀(l:List α),(l.map fun _=>(0:Int)).sum=0
 |[]=>rfl
 |_::l=>by rw[aq,List.sum_cons,lH l];rfl
theorem kj{α:Type}{f g:α->Int}:∀{l:List α},(∀p∈l,f p=g p)->(l.map f).sum=(l.map g).sum
 |[],_=>rfl
 |a::l,h=>by
  rw[aq,aq,List.sum_cons,List.sum_cons,h a (aJ ..),kj fun p hp=>h p (ay _ hp)]
def qJ(zs:List Tw)(p:Int):Int:=(zs.map fun z=>iY z.a p z.x+iY z.b p z.y).sum
def inR(zs:List Tw)(p:Int):Int:=(zs.map fun z=>iY z.b p z.x+iY z.a p z.y).sum
structure Full(ns:List Int)(pr:Int->Int)(zs:List Tw)(fs ft:Int->Int)(SL SR:Int->Bool):Prop where
 nd:ns.Nodup
 ends:∀z∈zs,z.a∈ns/\z.b∈ns
 pos:∀z∈zs,0<=z.x/\0<=z.y
 left:∀p∈ns,fs p=qJ zs p
 right:∀p∈ns,ft p=inR zs p
 capL:∀p∈ns,0<=fs p/\fs p<=pr p
 capR:∀p∈ns,0<=ft p/\ft p<=pr p
 satL:∀p∈ns,SL p=false->fs p=pr p
 satR:∀p∈ns,SR p=true->ft p=pr p
 go:∀z∈zs,(SL z.a=true->SR z.b=true)/\(SL z.b=true->SR z.a=true)
 zero:∀z∈zs,(SR z.b=true->SL z.a=false->z.x=0)/\(SR z.a=true->SL z.b=false->z.y=0)
def one(b:Bool):Int:=if b=true then 1 else 0
def um(SL SR:Int->Bool)(p:Int):Int:=(1-one (SL p))+one (SR p)
section
variable{ns:List Int}{pr:Int->Int}{zs:List Tw}{fs ft:Int->Int}{SL SR:Int->Bool}
theorem Full.two(F:Full ns pr zs fs ft SL SR):∀z∈zs,2<=um SL SR z.a+um SL SR z.b:=fun z hz=>by
 obtain⟨g1,g2⟩:=F.go z hz
 unfold um one
 cases h1:SL z.a<;>cases h2:SL z.b<;>cases h3:SR z.a<;>cases h4:SR z.b<;>simp_all
end
end Fl
namespace Fl
def iV(w:Nat):Nat:=if w%2=0 then w+1 else w-1
theorem pA(w:Nat):iV (iV w)=w:=by unfold iV;split<;>split<;>lia
theorem tF(w:Nat):iV w≠w:=by unfold iV;split<;>lia
theorem nh{w m:Nat}(h:w<2*m):iV w<2*m:=by unfold iV;split<;>lia
def at'(l:List Int)(i:Nat):Int:=l.getD i 0
theorem wy(l:List Int)(i j:Nat)(v:Int):at' (l.set i v) j=if i=j/\j<l.length then v else at' l j:=by
 unfold at'
 rw[aI,aI,List.getElem?_set]
 by_cases h:i=j
 ·by_cases h2:j<l.length
  ·rw[aw h,aw (by lia),aw ⟨h,h2⟩];rfl
  ·rw[aw h,au (by lia),au (fun z=>h2 z.2),bD (by lia)]
 ·rw[au h,au (fun z=>h z.1)]
def bump(r:List Int)(w:Nat)(a:Int):List Int:=(r.set w (at' r w-a)).set (iV w) (at' r (iV w)+a)
theorem uV(r:List Int)(w:Nat)(a:Int):(bump r w a).length=r.length:=by unfold bump;rw[e9,e9]
theorem uC{r:List Int}{w m:Nat}{a:Int}(hl:r.length=2*m)(hw:w<2*m)(j:Nat):at' (bump r w a) j=at' r j-(if j=w then a else 0)+(if j=iV w then a else 0):=by
 unfold bump
 rw[wy,wy]
 have hm:=nh hw
 have hn:=tF w
 rw[e9,hl]
 by_cases h1:j=iV w
 ·subst h1
  rw[aw ⟨rfl,hm⟩,au hn,aw rfl]
  lia
 ·rw[au (fun z=>h1 z.1.symm),au h1]
  by_cases h2:j=w
  ·subst h2
   rw[aw ⟨rfl,hw⟩,aw rfl]
   lia
  ·rw[au (fun z=>h2 z.1.symm),au h2]
   lia
theorem vP{g g':Nat->Int}:∀{m k0:Nat},k0<m->(∀k,k≠k0->g' k=g k)->((List.range m).map g').sum=((List.range m).map g).sum+(g' k0-g k0)
 |0,_,h,_=>by lia
 | m+1,k0,h,he=>by
  rw[bF,ah,ah,cu,cu]
  show _+(g' m+0)=_+(g m+0)+_
  by_cases c:k0=m
  ·subst c
   have e:((List.range k0).map g').sum=((List.range k0).map g).sum:=kj fun k hk=>he k (by have:=aV.mp hk;lia)
   rw[e]
   lia
  ·rw[vP (m:=m) (k0:=k0) (by lia) he,he m (fun z=>c z.symm)]
   lia
def ex(hs:List Int)(m:Nat)(r:List Int)(v:Int):Int:=((List.range m).map fun k=>iY (at' hs (2*k)) v (at' r (2*k+1))-iY (at' hs (2*k+1)) v (at' r (2*k+1))).sum
theorem z8(n v a b:Int):iY n v (a+b)=iY n v a+iY n v b:=by unfold iY;split<;>lia
theorem z9(n v a b:Int):iY n v (a-b)=iY n v a-iY n v b:=by unfold iY;split<;>lia
theorem Eh{hs r:List Int}{m w:Nat}{a:Int}(hl:r.length=2*m)(hw:w<2*m)(v:Int):ex hs m (bump r w a) v=ex hs m r v+iY (at' hs w) v a-iY (at' hs (iV w)) v a:=by
 unfold ex
 have hk:w/2<m:=by lia
 rw[vP (g:=fun k=>iY (at' hs (2*k)) v (at' r (2*k+1))-iY (at' hs (2*k+1)) v (at' r (2*k+1))) hk (fun k hne=>?_)]
 ·rw[uC hl hw]
  by_cases c:w%2=0
  ·have e1:iV w=w+1:=by unfold iV;rw[aw c]
   have e2:2*(w/2)=w:=by lia
   rw[e2,e1,au (by lia),aw rfl,Int.sub_zero,z8,z8]
   lia
  ·have e1:iV w=w-1:=by unfold iV;rw[au c]
   have e2:2*(w/2)+1=w:=by lia
   have e3:2*(w/2)=w-1:=by lia
   rw[e2,e3,e1,aw rfl,au (by lia),fm,z9,z9]
   lia
 ·rw[uC hl hw,au (by lia),au (by unfold iV;split<;>lia),Int.sub_zero,fm]
def push(r:List Int)(tr:List Nat)(a:Int):List Int:=tr.foldl (fun r w=>bump r w a) r
theorem qI:∀(tr:List Nat) (r:List Int) (a:Int),(push r tr a).length=r.length
 |[],_,_=>rfl
 |w::tr,r,a=>by
  show(push (bump r w a) tr a).length=_
  rw[qI tr,uV]
def qM(hs:List Int):Int->List Nat->Int->Prop
 |t,[],s=>t=s
 |t,w::tr,s=>at' hs w=t/\qM hs (at' hs (iV w)) tr s
theorem yE{hs:List Int}{m:Nat}{a:Int}{s:Int}(v:Int):∀{tr:List Nat} {r:List Int} {t:Int},r.length=2*m->(∀w∈tr,w<2*m)->qM hs t tr s->ex hs m (push r tr a) v=ex hs m r v+iY t v a-iY s v a
 |[],r,t,_,_,h=>by
  have h:t=s:=h
  subst h
  show ex hs m r v=_
  lia
 |w::tr,r,t,hl,hw,h=>by
  show ex hs m (push (bump r w a) tr a) v=_
  obtain⟨h1,h2⟩:=h
  rw[yE v (by rw[uV];exact hl) (fun x hx=>hw x (ay _ hx)) h2,Eh hl (hw w (aJ ..)),h1]
  lia
theorem AH(a:Int)(n:Nat):a*((n+1:Nat):Int)=a*(n:Int)+a:=by rw[Int.natCast_add,fL];show _+a*1=_;rw[hZ]
theorem rF{m:Nat}{a:Int}(j:Nat):∀{tr:List Nat} {r:List Int},r.length=2*m->(∀w∈tr,w<2*m)->at' (push r tr a) j=at' r j-a*(tr.count j:Int)+a*(tr.count (iV j):Int)
 |[],r,_,_=>by
  show at' r j=at' r j-a*0+a*0
  lia
 | w::tr,r,hl,hw=>by
  show at' (push (bump r w a) tr a) j=_
  have hm:(j=iV w)↔(w=iV j):=⟨fun z=>by rw[z,pA],fun z=>by rw[z,pA]⟩
  rw[rF j (by rw[uV];exact hl) (fun x hx=>hw x (ay _ hx)),uC hl (hw w (aJ ..)),List.count_cons,List.count_cons]
  by_cases c1:j=w
  ·by_cases c2:j=iV w
   ·exact absurd (c2.symm.trans c1) (tF w)
   ·rw[aw c1,au c2,aw (by simp[c1]),au (by simp;exact fun z=>c2 (hm.mpr z)),AH]
    simp only[Nat.add_zero]
    lia
  ·by_cases c2:j=iV w
   ·rw[au c1,aw c2,au (by simp;exact fun z=>c1 z.symm),aw (by simp;exact hm.mp c2),AH]
    simp only[Nat.add_zero]
    lia
   ·rw[au c1,au c2,au (by simp;exact fun z=>c1 z.symm),au (by simp;exact fun z=>c2 (hm.mpr z))]
    simp only[Nat.add_zero]
    lia
end Fl
namespace Fl
abbrev Cb:=List (Int×Option Nat)
def seen(cb:Cb)(v:Int):Bool:=decide (v∈cb.map (·.1))
def jP(hs r:List Int):Cb->List Nat->Cb
 |cb,[]=>cb
 |cb,w::ws=>jP hs r (if 0<at' r w/\seen cb (at' hs w)=false then cb++[(at' hs w,some w)]else cb) ws
def jf(wf:Int->List Nat)(hs r:List Int)(s:Int):Nat->Cb
 |0=>[(s,none)]
 |k+1=>match(jf wf hs r s k)[k]? with
  |some p=>jP hs r (jf wf hs r s k) (wf p.1)
  |none=>jf wf hs r s k
structure Cam(hs r:List Int)(m:Nat)(s:Int)(cb:Cb):Prop where
 nd:(cb.map (·.1)).Nodup
 first:cb[0]? =some (s,none)
 came:∀i v o,cb[i]? =some (v,o)->0<i->∃w,o=some w/\w<2*m/\0<at' r w/\at' hs w=v/\∃j u,j<i/\(cb[j]?.map (·.1))=some u/\at' hs (iV w)=u
section
variable{hs r:List Int}{m:Nat}{s:Int}
theorem Cam.put{cb:Cb}(h:Cam hs r m s cb){w:Nat}{j:Nat}{u:Int}(hw:w<2*m)(hp:0<at' r w)(hn:seen cb (at' hs w)=false)(hj:(cb[j]?.map (·.1))=some u)(hu:at' hs (iV w)=u):Cam hs r m s (cb++[(at' hs w,some w)]):=by
 have hlen:0<cb.length:=by
  have:=h.first
  cases cb with
  |nil=>cases this
  |cons _ _=>simp
 have hjl:j<cb.length:=by
  cases e:cb[j]? with
  |none=>rw[e]at hj;cases hj
  |some p=>exact(ag.mp e).1
 refine⟨?_,?_,?_⟩
 ·rw[ah,bM]
  refine⟨h.nd,by simp,fun a ha b hb=>?_⟩
  simp at hb
  subst hb
  intro z
  subst z
  unfold seen at hn
  rw[eD]at hn
  exact hn ha
 ·rw[bH hlen]
  exact h.first
 ·intro i v o hi h0
  by_cases c:i<cb.length
  ·rw[bH c]at hi
   obtain⟨w',h1,h2,h3,h4,j',u',h5,h6,h7⟩:=h.came i v o hi h0
   exact⟨w',h1,h2,h3,h4,j',u',h5,by rw[bH (by lia)];exact h6,h7⟩
  ·rw[cA (by lia)]at hi
   have:i-cb.length=0:=by
    cases e:i-cb.length with
    |zero=>rfl
    |succ n=>rw[e]at hi;simp at hi
   rw[this]at hi
   simp at hi
   obtain⟨rfl,rfl⟩:=hi
   exact⟨w,rfl,hw,hp,rfl,j,u,by lia,by rw[bH hjl];exact hj,hu⟩
theorem vE:∀{ws:List Nat} {cb:Cb} {j:Nat} {u:Int},Cam hs r m s cb->(cb[j]?.map (·.1))=some u->(∀w∈ws,w<2*m/\at' hs (iV w)=u)->Cam hs r m s (jP hs r cb ws)
 |[],_,_,_,h,_,_=>h
 | w::ws,cb,j,u,h,hj,hw=>by
  unfold jP
  have h1:=hw w (aJ ..)
  have hjl:j<cb.length:=by
   cases e:cb[j]? with
   |none=>rw[e]at hj;cases hj
   |some p=>exact(ag.mp e).1
  split
  ·rename_i c
   exact vE (j:=j) (u:=u) (h.put h1.1 c.1 c.2 hj h1.2) (by rw[bH hjl];exact hj) fun x hx=>hw x (ay _ hx)
  ·exact vE h hj fun x hx=>hw x (ay _ hx)
theorem nY:∀(ws:List Nat) (cb:Cb),∃l,jP hs r cb ws=cb++l
 |[],cb=>⟨[],(bt _).symm⟩
 | w::ws,cb=>by
  unfold jP
  split
  ·obtain⟨l,e⟩:=nY ws (cb++[(at' hs w,some w)])
   exact⟨(at' hs w,some w)::l,by rw[e,bu];rfl⟩
  ·exact nY ws cb
theorem AW:∀{ws:List Nat} {cb:Cb} {w:Nat},w∈ws->0<at' r w->at' hs w∈(jP hs r cb ws).map (·.1)
 | x::ws,cb,w,h,hp=>by
  unfold jP
  rcases aR.mp h with rfl|h
  ·by_cases c:seen cb (at' hs w)=false
   ·rw[aw ⟨hp,c⟩]
    obtain⟨l,e⟩:=nY (hs:=hs) (r:=r) ws (cb++[(at' hs w,some w)])
    rw[e]
    simp
   ·rw[au (fun z=>c z.2)]
    obtain⟨l,e⟩:=nY (hs:=hs) (r:=r) ws cb
    rw[e,ah,aQ]
    left
    unfold seen at c
    simpa using c
  ·exact AW h hp
end
section
variable{wf:Int->List Nat}{hs r:List Int}{m:Nat}{s:Int}
theorem l8(hwf:∀u,∀w∈wf u,w<2*m/\at' hs (iV w)=u):∀k,Cam hs r m s (jf wf hs r s k)
 | 0=>⟨by simp[jf],rfl,fun i v o h h0=>by
   cases i with
   |zero=>lia
   |succ i=>simp[jf]at h⟩
 | k+1=>by
  unfold jf
  have ih:=l8 hwf k
  split
  ·rename_i p e
   exact vE ih (j:=k) (u:=p.1) (by rw[e];rfl) (hwf p.1)
  ·exact ih
theorem xj(k:Nat):∃l,jf wf hs r s (k+1)=jf wf hs r s k++l:=by
 rw[jf]
 split
 ·exact nY _ _
 ·exact⟨[],(bt _).symm⟩
theorem tq{k:Nat}(h:(jf wf hs r s k).length<=k):∀j,jf wf hs r s (k+j)=jf wf hs r s k
 |0=>rfl
 |j+1=>by
  have ih:=tq h j
  show jf wf hs r s (k+j+1)=_
  rw[jf,ih,bD (by lia)]
theorem Ak:∀{k:Nat} {i:Nat} {p:Int×Option Nat} {w:Nat},i<k->(jf wf hs r s k)[i]? =some p->w∈wf p.1->0<at' r w->at' hs w∈(jf wf hs r s k).map (·.1)
 | k+1,i,p,w,hi,hp,hw,h0=>by
  obtain⟨l,e⟩:=xj (wf:=wf) (hs:=hs) (r:=r) (s:=s) k
  by_cases c:i<(jf wf hs r s k).length
  ·rw[e,bH c]at hp
   by_cases c2:i=k
   ·subst c2
    rw[jf,hp]
    exact AW hw h0
   ·rw[e,ah,aQ]
    left
    exact Ak (by lia) hp hw h0
  ·by_cases c3:(jf wf hs r s k).length<=k
   ·have:=tq c3 1
    rw[this,bD (by lia)]at hp
    cases hp
   ·lia
end
end Fl
namespace Fl
def lk(cb:Cb)(v:Int):Option Nat:=(cb.find? fun p=>decide (p.1=v)).bind (·.2)
theorem tU{cb:Cb}(nd:(cb.map (·.1)).Nodup){i:Nat}{v:Int}{o:Option Nat}(h:cb[i]? =some (v,o)):lk cb v=o:=by
 unfold lk
 induction cb generalizing i with
 |nil=>cases h
 | cons p cb ih=>
  rw[aq]at nd
  have nd':=bB.mp nd
  rw[List.find?_cons]
  cases i with
  |zero=>
   simp at h
   subst h
   simp
  |succ i=>
   simp at h
   have hm:v∈cb.map (·.1):=aB.mpr ⟨(v,o),ao h,rfl⟩
   have hne:p.1≠v:=fun z=>nd'.1 (z▸hm)
   rw[aC hne]
   exact ih nd'.2 h
theorem Ew{cb:Cb}{v:Int}(h:v∉cb.map (·.1)):lk cb v=none:=by
 unfold lk
 rw[List.find?_eq_none.mpr fun p hp=>by
  rw[bX]
  exact fun z=>h (aB.mpr ⟨p,hp,z⟩)]
 rfl
def jx(hs:List Int)(cb:Cb):Nat->Int->List Nat
 |0,_=>[]
 |f+1,v=>match lk cb v with
  |some w=>w::jx hs cb f (at' hs (iV w))
  |none=>[]
def key(cb:Cb)(i:Nat):Option Int:=cb[i]?.map (·.1)
theorem Et{cb:Cb}(nd:(cb.map (·.1)).Nodup){i j:Nat}{v:Int}(h1:key cb i=some v)(h2:key cb j=some v):i=j:=by
 unfold key at h1 h2
 rw [<- aA] at h1 h2
 obtain⟨a,b⟩:=ag.mp h1
 obtain⟨c,d⟩:=ag.mp h2
 exact(fW nd).mp (b.trans d.symm)
structure Good(hs r:List Int)(m:Nat)(cb:Cb)(i:Nat)(tr:List Nat):Prop where
 up:∀w∈tr,w<2*m/\0<at' r w/\∃k j,j<k/\k<=i/\key cb k=some (at' hs w)/\key cb j=some (at' hs (iV w))
 nd:tr.Nodup
section
variable{hs r:List Int}{m:Nat}{s:Int}{cb:Cb}
theorem Bi(C:Cam hs r m s cb):∀(i:Nat) (v:Int) (o:Option Nat),cb[i]? =some (v,o)->∀f,i<=f->qM hs v (jx hs cb f v) s/\Good hs r m cb i (jx hs cb f v)/\(0<i->jx hs cb f v≠[]):=by
 intro i
 induction i using Nat.strongRecOn with
 | ind i ih=>
  intro v o h f hf
  by_cases h0:i=0
  ·subst h0
   have e:=C.first
   rw[h]at e
   have ho:o=none:=bY Prod.snd (aO e)
   have hv:v=s:=bY Prod.fst (aO e)
   have hl:=tU C.nd h
   rw[ho]at hl
   have ht:jx hs cb f v=[]:=by
    cases f with
    |zero=>rfl
    |succ f=>unfold jx;rw[hl]
   rw[ht]
   exact⟨hv,⟨(fun w hw=>by cases hw),.nil⟩,fun z=>by lia⟩
  ·obtain⟨w,rfl,h2,h3,h4,j,u,h5,h6,h7⟩:=C.came i v o h (by lia)
   have hl:=tU C.nd h
   obtain⟨f',rfl⟩:∃f',f=f'+1:=⟨f-1,by lia⟩
   have ht:jx hs cb (f'+1) v=w::jx hs cb f' u:=by
    rw[jx,hl]
    dsimp only
    rw[h7]
   obtain⟨p,hp⟩:∃p,cb[j]? =some p:=by
    cases e:cb[j]? with
    |none=>rw[e]at h6;cases h6
    |some p=>exact⟨p,rfl⟩
   have hpu:p.1=u:=by rw[hp]at h6;exact aO h6
   obtain⟨p1,p2⟩:=p
   dsimp only at hpu
   subst hpu
   obtain⟨t1,t2,_⟩:=ih j h5 p1 p2 hp f' (by lia)
   rw[ht]
   have kv:key cb i=some v:=by unfold key;rw[h];rfl
   refine⟨⟨h4,by rw[h7];exact t1⟩,⟨fun x hx=>?_,?_⟩,fun _=>by simp⟩
   ·rcases aR.mp hx with rfl|hx
    ·exact⟨h2,h3,i,j,h5,av _,by rw[h4];exact kv,by rw[h7];exact h6⟩
    ·obtain⟨a,b,k,l,c1,c2,c3,c4⟩:=t2.up x hx
     exact⟨a,b,k,l,c1,by lia,c3,c4⟩
   ·refine bB.mpr ⟨fun hm=>?_,t2.nd⟩
    obtain⟨a,b,k,l,c1,c2,c3,c4⟩:=t2.up w hm
    rw[h4]at c3
    have:=Et C.nd kv c3
    lia
structure Rooms(m:Nat)(cap:Nat->Int)(r:List Int):Prop where
 len:r.length=2*m
 pos:∀j,0<=at' r j
 two:∀k,k<m->at' r (2*k)+at' r (2*k+1)=cap k
theorem F3{l:List Nat}(nd:l.Nodup)(j:Nat):l.count j=if j∈l then 1 else 0:=by
 by_cases h:j∈l
 ·rw[aw h]
  have h1:=List.nodup_iff_count.mp nd j
  have h2:=List.count_pos_iff.mpr h
  lia
 ·rw[au h];exact List.count_eq_zero.mpr h
theorem Rooms.push{cap:Nat->Int}(R:Rooms m cap r){tr:List Nat}(nd:tr.Nodup)(hw:∀w∈tr,w<2*m){a:Int}(ha:0<=a)(hm:∀w∈tr,a<=at' r w):Rooms m cap (push r tr a):=by
 refine⟨by rw[qI];exact R.len,fun j=>?_,fun k hk=>?_⟩
 ·rw[rF j R.len hw,F3 nd j]
  have h0:0<=a*(tr.count (iV j):Int):=Int.mul_nonneg ha (gS _)
  by_cases h:j∈tr
  ·rw[aw h]
   have:=hm j h
   show 0<=at' r j-a*1+_
   lia
  ·rw[au h]
   have:=R.pos j
   show 0<=at' r j-a*0+_
   lia
 ·rw[rF _ R.len hw,rF _ R.len hw]
  have e1:iV (2*k)=2*k+1:=by unfold iV;rw[aw (by lia)]
  have e2:iV (2*k+1)=2*k:=by unfold iV;rw[au (by lia)];lia
  rw[e1,e2]
  have:=R.two k hk
  lia
end
end Fl
namespace Fl
structure Net(wf:Int->List Nat)(hs:List Int)(m n:Nat):Prop where
 len:hs.length=2*m
 from':∀u,∀w∈wf u,w<2*m/\at' hs (iV w)=u
 knot:∀w,w<2*m->0<=at' hs w/\at' hs w<n
 all:∀w,w<2*m->w∈wf (at' hs (iV w))
def kO(r:List Int):List Nat->Int
 |[]=>0
 |[w]=>at' r w
 |w::x::tr=>if kO r (x::tr)<at' r w then kO r (x::tr)else at' r w
theorem tE(r:List Int):∀{tr:List Nat} {w:Nat},w∈tr->kO r tr<=at' r w
 |[],_,h=>by cases h
 |[x],w,h=>by rw[aG.mp h];exact bE _
 | y::x::tr,w,h=>by
  unfold kO
  rcases aR.mp h with rfl|h
  ·split<;>lia
  ·have:=tE r h
   split<;>lia
theorem zV(r:List Int):∀{tr:List Nat},tr≠[]->(∀w∈tr,0<at' r w)->0<kO r tr
 |[],h,_=>absurd rfl h
 |[x],_,h=>h x (aG.mpr rfl)
 |y::x::tr,_,h=>by
  unfold kO
  have h1:=h y (aJ ..)
  have h2:=zV r (tr:=x::tr) (by simp) fun w hw=>h w (ay _ hw)
  split<;>lia
section
variable(wf:Int->List Nat)(hs:List Int)(n:Nat)(s t:Int)
def jJ(r:List Int):Cb:=jf wf hs r s n
def ki(r:List Int):List Nat:=jx hs (jJ wf hs n s r) n t
def lA(r:List Int):Option (List Int):=if ki wf hs n s t r=[]then none else some (push r (ki wf hs n s t r) (kO r (ki wf hs n s t r)))
inductive Runs:List Int->List Int->Prop
 |done (r:List Int):Runs r r
 |step {r r1 r':List Int}:lA wf hs n s t r=some r1->Runs r1 r'->Runs r r'
end
section
variable{wf:Int->List Nat}{hs:List Int}{n:Nat}{s t:Int}
theorem Runs.snoc{r r' r2:List Int}(h:Runs wf hs n s t r r')(e:lA wf hs n s t r'=some r2):Runs wf hs n s t r r2:=by
 induction h with
 |done r=>exact .step e (.done _)
 |step a _ ih=>exact .step a (ih e)
variable{m:Nat}{r:List Int}
theorem xK(N:Net wf hs m n)(hs0:0<=s/\s<n)(k:Nat):∀v:Int,v∈(jf wf hs r s k).map (·.1)->0<=v/\v<(n:Int):=fun v hv=>by
 obtain⟨p,hp,rfl⟩:=aB.mp hv
 obtain⟨i,hi,e⟩:=aS.mp hp
 have C:=l8 (r:=r) (s:=s) N.from' k
 have he:(jf wf hs r s k)[i]? =some p:=by rw[gE hi,e]
 cases i with
 |zero=>
  have:=C.first
  rw[he]at this
  cases this
  exact hs0
 |succ i=>
  obtain⟨w,_,h2,_,h4,_⟩:=C.came (i+1) p.1 p.2 he (by lia)
  rw [<- h4]
  exact N.knot w h2
theorem tH{l:List Int}(nd:l.Nodup):∀{n:Nat},(∀v:Int,v∈l->0<=v/\v<(n:Int))->l.length<=n:=fun{n} h=>by
 have h1:(l.map Int.toNat).Nodup:=by
  unfold List.Nodup at nd ⊢
  rw[bL]
  exact nd.imp_of_mem fun{a b} ha hb z e=>z (by have:=h a ha;have:=h b hb;lia)
 have h2:∀x∈l.map Int.toNat,x∈List.range n:=fun x hx=>by
  obtain⟨v,hv,rfl⟩:=aB.mp hx
  have:=h v hv
  exact aV.mpr (by lia)
 have h3:(l.map Int.toNat).length<=(List.range n).length:=by
  have key:∀(a b:List Nat),a.Nodup->(∀x∈a,x∈b)->a.length<=b.length:=by
   intro a
   induction a with
   |nil=>intro b _ _;exact bI _
   |cons x a ih=>
    intro b nd hb
    have nd':=bB.mp nd
    have hx:=hb x (aJ ..)
    have h4:=ih (b.erase x) nd'.2 fun y hy=>(gy (fun z:y = x=>nd'.1 (by rw [<- z]; exact hy))).mpr (hb y (ay _ hy))
    rw[fP hx]at h4
    have:=gf hx
    rw[List.length_cons]
    lia
  exact key _ _ h1 h2
 rw[ae,bC]at h3
 exact h3
theorem m9(N:Net wf hs m n)(hs0:0<=s/\s<n)(k:Nat):(jf wf hs r s k).length<=n:=by
 have:=tH (l8 (r:=r) (s:=s) N.from' k).nd (xK N hs0 k)
 rw[ae]at this
 exact this
theorem Jy(N:Net wf hs m n)(hs0:0<=s/\s<n){w:Nat}(hw:w<2*m)(h0:0<at' r w)(hf:at' hs (iV w)∈(jJ wf hs n s r).map (·.1)):at' hs w∈(jJ wf hs n s r).map (·.1):=by
 obtain⟨p,hp,e⟩:=aB.mp hf
 obtain⟨i,hi,e2⟩:=aS.mp hp
 have:=m9 (r:=r) N hs0 n
 unfold jJ at hi
 exact Ak (k:=n) (i:=i) (p:=p) (by lia) (by rw[gE hi];exact bY some e2) (by rw[e];exact N.all w hw) h0
theorem CB(N:Net wf hs m n):s∈(jJ wf hs n s r).map (·.1):=by
 have:=(l8 (r:=r) (s:=s) N.from' n).first
 exact aB.mpr ⟨_,ao this,rfl⟩
theorem Cp(N:Net wf hs m n)(hst:s≠t)(hs0:0<=s/\s<n)(h:lA wf hs n s t r=none):t∉(jJ wf hs n s r).map (·.1):=fun ht=>by
 obtain⟨p,hp,e⟩:=aB.mp ht
 obtain⟨i,hi,e2⟩:=aS.mp hp
 have C:=l8 (r:=r) (s:=s) N.from' n
 have he:(jf wf hs r s n)[i]? =some (t,p.2):=by
  unfold jJ at hi e2
  rw [gE hi,e2,<- e]
 have hn:ki wf hs n s t r=[]:=by
  unfold lA at h
  split at h
  ·assumption
  ·cases h
 have hl:=m9 (r:=r) N hs0 n
 unfold jJ at hi
 have G:=Bi C i t p.2 he n (by lia)
 by_cases h0:i=0
 ·subst h0
  have:=C.first
  rw[he]at this
  have:=bY Prod.fst (aO this)
  exact hst this.symm
 ·exact G.2.2 (by lia) hn
end
end Fl
namespace Fl
section
variable{wf:Int->List Nat}{hs:List Int}{m n:Nat}{s t:Int}{r:List Int}{cap:Nat->Int}
theorem wH(N:Net wf hs m n)(hst:s≠t)(hs0:0<=s/\s<(n:Int))(h:ki wf hs n s t r≠[]):qM hs t (ki wf hs n s t r) s/\∃i,Good hs r m (jJ wf hs n s r) i (ki wf hs n s t r):=by
 have C:=l8 (r:=r) (s:=s) N.from' n
 by_cases ht:t∈(jJ wf hs n s r).map (·.1)
 ·obtain⟨p,hp,e⟩:=aB.mp ht
  obtain⟨i,hi,e2⟩:=aS.mp hp
  have he:(jf wf hs r s n)[i]? =some (t,p.2):=by
   unfold jJ at hi e2
   rw [gE hi,e2,<- e]
  have hl:=m9 (r:=r) N hs0 n
  unfold jJ at hi
  have G:=Bi C i t p.2 he n (by lia)
  exact⟨G.1,i,G.2.1⟩
 ·refine absurd ?_ h
  unfold ki
  cases n with
  |zero=>rfl
  |succ k=>rw[jx,Ew ht]
theorem xh(N:Net wf hs m n)(hst:s≠t)(hs0:0<=s/\s<(n:Int))(R:Rooms m cap r){r1:List Int}(h:lA wf hs n s t r=some r1):Rooms m cap r1/\(∀v,v≠s->v≠t->ex hs m r1 v=ex hs m r v)/\ex hs m r t+1<=ex hs m r1 t:=by
 unfold lA at h
 split at h
 ·cases h
 ·rename_i hne
  cases h
  obtain⟨T,i,G⟩:=wH N hst hs0 hne
  have hw:∀w∈ki wf hs n s t r,w<2*m:=fun w hw=>(G.up w hw).1
  have hp:=zV r hne fun w hw=>(G.up w hw).2.1
  have E:=fun v=>yE (a:=kO r (ki wf hs n s t r)) v R.len hw T
  refine⟨R.push G.nd hw (by lia) fun w hw=>tE r hw,fun v h1 h2=>?_,?_⟩
  ·rw[E v,jW (fun z=>h2 z.symm),jW (fun z=>h1 z.symm)]
   lia
  ·rw[E t,og,jW hst]
   lia
def wu(cap:Nat->Int)(m:Nat):Int:=((List.range m).map cap).sum
theorem qF{α:Type}{f g:α->Int}:∀{l:List α},(∀p∈l,f p<=g p)->(l.map f).sum<=(l.map g).sum
 |[],_=>bE _
 |a::l,h=>by
  rw[aq,aq,List.sum_cons,List.sum_cons]
  have:=h a (aJ ..)
  have:=qF fun p hp=>h p (ay _ hp)
  lia
theorem Jo(R:Rooms m cap r)(v:Int):ex hs m r v<=wu cap m:=by
 unfold ex wu
 refine qF fun k hk=>?_
 have h1:=R.pos (2*k+1)
 have h2:=R.pos (2*k)
 have h3:=R.two k (aV.mp hk)
 unfold iY
 split<;>split<;>lia
theorem CD(N:Net wf hs m n)(hst:s≠t)(hs0:0<=s/\s<(n:Int)){r':List Int}(h:Runs wf hs n s t r r'):Rooms m cap r->Rooms m cap r'/\∀v,v≠s->v≠t->ex hs m r' v=ex hs m r v:=by
 induction h with
 |done r=>exact fun R=>⟨R,fun _ _ _=>rfl⟩
 |step e _ ih=>
  intro R
  obtain⟨R1,E1,_⟩:=xh N hst hs0 R e
  obtain⟨R2,E2⟩:=ih R1
  exact⟨R2,fun v h1 h2=>(E2 v h1 h2).trans (E1 v h1 h2)⟩
end
end Fl
namespace Fl
theorem n5(g:Nat->Int)(a:Nat):∀b,((List.range (a+b)).map g).sum=((List.range a).map g).sum+((List.range b).map fun k=>g (a+k)).sum
 |0=>by show _=_+0;rw[fm];rfl
 |b+1=>by
  rw [<- Nat.add_assoc,bF,ah,cu,n5 g a b,bF,ah,cu]
  show _+(g (a+b)+0)=_+(_+(g (a+b)+0))
  lia
theorem vO(g:Nat->Int):∀b,((List.range (2*b)).map g).sum=((List.range b).map fun k=>g (2*k)+g (2*k+1)).sum
 |0=>rfl
 |b+1=>by
  rw[show 2*(b+1)=2*b+1+1 by lia,bF,ah,cu,bF,ah,cu,vO g b,bF,ah,cu]
  show _+(g (2*b)+0)+(g (2*b+1)+0)=_+(g (2*b)+g (2*b+1)+0)
  lia
theorem tf(g:Nat->Int){n i:Nat}(hi:i<n)(h:∀k,k<n->k≠i->g k=0):((List.range n).map g).sum=g i:=by
 have h1:((List.range n).map g).sum=((List.range n).map fun k=>if k=i then g i else 0).sum:=kj fun k hk=>by
  by_cases c:k=i
  ·rw[aw c,c]
  ·rw[au c];exact h k (aV.mp hk) c
 have h2:=vP (g:=fun _=>0) (g':=fun k=>if k=i then g i else 0) hi fun k hk=>au hk
 rw[h1,h2,lH,aw rfl]
 lia
structure Dbl(ns:List Int)(ts:List (Int×Int))(sp:Int->Int)(hs:List Int):Prop where
 nd:ns.Nodup
 spot:∀(i:Nat) (p:Int),ns[i]? =some p->sp p=2+(i:Int)
 ends:∀t∈ts,t.1∈ns/\t.2∈ns
 src:∀i:Nat,i<ns.length->at' hs (2*i)=2+(i:Int)/\at' hs (2*i+1)=0
 snk:∀i:Nat,i<ns.length->at' hs (2*(ns.length+i))=1/\at' hs (2*(ns.length+i)+1)=2+(ns.length:Int)+i
 tie:∀(j:Nat) (t:Int×Int),ts[j]? =some t->(at' hs (2*(ns.length+ns.length+2*j))=sp t.2+ns.length/\at' hs (2*(ns.length+ns.length+2*j)+1)=sp t.1)/\(at' hs (2*(ns.length+ns.length+(2*j+1)))=sp t.1+ns.length/\at' hs (2*(ns.length+ns.length+(2*j+1))+1)=sp t.2)
section
variable{ns:List Int}{ts:List (Int×Int)}{sp:Int->Int}{hs r:List Int}
def twAt(ns:List Int)(r:List Int)(ts:List (Int×Int))(j:Nat):Tw:=⟨(ts.getD j (0,0)).1,(ts.getD j (0,0)).2,at' r (2*(ns.length+ns.length+2*j)+1),at' r (2*(ns.length+ns.length+(2*j+1))+1)⟩
def twS(ns:List Int)(r:List Int)(ts:List (Int×Int)):List Tw:=(List.range ts.length).map (twAt ns r ts)
theorem getD_at{l:List (Int×Int)}{j:Nat}(h:j<l.length):l[j]? =some (l.getD j (0,0)):=by
 rw[aI,gE h];rfl
theorem Dbl.spI(D:Dbl ns ts sp hs){i:Nat}{p q:Int}(hp:ns[i]? =some p)(hq:q∈ns):sp q=2+(i:Int)↔q=p:=by
 obtain⟨k,hk,e⟩:=aS.mp hq
 have hk':ns[k]? =some q:=by rw[gE hk,e]
 constructor
 ·intro h
  rw[D.spot k q hk']at h
  have:k=i:=by lia
  subst this
  rw[hp]at hk'
  exact(aO hk').symm
 ·rintro rfl
  exact D.spot i q hp
theorem Dbl.spB(D:Dbl ns ts sp hs){q:Int}(hq:q∈ns):2<=sp q/\sp q<2+(ns.length:Int):=by
 obtain⟨k,hk,e⟩:=aS.mp hq
 rw[D.spot k q (by rw[gE hk,e])]
 lia
theorem pj{a b c d v:Int}(h:a=b↔c=d):iY a b v=iY c d v:=by
 unfold iY
 by_cases x:a=b
 ·rw[aw x,aw (h.mp x)]
 ·rw[au x,au fun z=>x (h.mpr z)]
theorem Dbl.left(D:Dbl ns ts sp hs){i:Nat}{p:Int}(hp:ns[i]? =some p):ex hs (ns.length+ns.length+2*ts.length) r (2+(i:Int))=at' r (2*i+1)-qJ (twS ns r ts) p:=by
 have hi:=(ag.mp hp).1
 unfold ex
 rw[n5,n5,vO]
 have h1:((List.range ns.length).map fun k=>iY (at' hs (2*k)) (2+(i:Int)) (at' r (2*k+1))-iY (at' hs (2*k+1)) (2+(i:Int)) (at' r (2*k+1))).sum=at' r (2*i+1):=by
  rw[tf _ hi fun k hk hne=>?_]
  ·rw[(D.src i hi).1,(D.src i hi).2,og,jW (by lia)];lia
  ·rw[(D.src k hk).1,(D.src k hk).2,jW (by lia),jW (by lia)];rfl
 have h2:((List.range ns.length).map fun k=>iY (at' hs (2*(ns.length+k))) (2+(i:Int)) (at' r (2*(ns.length+k)+1))-iY (at' hs (2*(ns.length+k)+1)) (2+(i:Int)) (at' r (2*(ns.length+k)+1))).sum=0:=by
  rw [<- lH (List.range ns.length)]
  refine kj fun k hk=>?_
  have hk:=aV.mp hk
  rw[(D.snk k hk).1,(D.snk k hk).2,jW (by lia),jW (by lia)]
  rfl
 rw[h1,h2]
 have h3:qJ (twS ns r ts) p=((List.range ts.length).map fun j=>iY (twAt ns r ts j).a p (twAt ns r ts j).x+iY (twAt ns r ts j).b p (twAt ns r ts j).y).sum:=by
  unfold qJ twS
  rw[bG]
  rfl
 have h4:∀(l:List Nat) (f g:Nat->Int),(∀j∈l,f j= -g j)->(l.map f).sum= -(l.map g).sum:=fun l f g h=>by
  induction l with
  |nil=>rfl
  |cons a l ih=>
   rw[aq,aq,List.sum_cons,List.sum_cons,h a (aJ ..),ih fun j hj=>h j (ay _ hj)]
   lia
 rw[h3,h4 _ _ (fun j=>iY (twAt ns r ts j).a p (twAt ns r ts j).x+iY (twAt ns r ts j).b p (twAt ns r ts j).y) fun j hj=>?_]
 ·lia
 ·have hj:=aV.mp hj
  have hg:=getD_at hj
  have hm:=ao hg
  have he:=D.ends _ hm
  obtain⟨⟨a1,a2⟩,b1,b2⟩:=D.tie j _ hg
  have l1:=D.spB he.1
  have l2:=D.spB he.2
  have n1:sp (ts.getD j (0,0)).2+ns.length≠2+(i:Int):=by lia
  have n2:sp (ts.getD j (0,0)).1+ns.length≠2+(i:Int):=by lia
  rw[a1,a2,b1,b2,jW n1,jW n2,pj (D.spI hp he.1),pj (D.spI hp he.2)]
  unfold twAt
  dsimp only
  lia
theorem Dbl.right(D:Dbl ns ts sp hs){i:Nat}{p:Int}(hp:ns[i]? =some p):ex hs (ns.length+ns.length+2*ts.length) r (2+(ns.length:Int)+i)=inR (twS ns r ts) p-at' r (2*(ns.length+i)+1):=by
 have hi:=(ag.mp hp).1
 unfold ex
 rw[n5,n5,vO]
 have h1:((List.range ns.length).map fun k=>iY (at' hs (2*k)) (2+(ns.length:Int)+i) (at' r (2*k+1))-iY (at' hs (2*k+1)) (2+(ns.length:Int)+i) (at' r (2*k+1))).sum=0:=by
  rw [<- lH (List.range ns.length)]
  refine kj fun k hk=>?_
  have hk:=aV.mp hk
  rw[(D.src k hk).1,(D.src k hk).2,jW (by lia),jW (by lia)]
  rfl
 have h2:((List.range ns.length).map fun k=>iY (at' hs (2*(ns.length+k))) (2+(ns.length:Int)+i) (at' r (2*(ns.length+k)+1))-iY (at' hs (2*(ns.length+k)+1)) (2+(ns.length:Int)+i) (at' r (2*(ns.length+k)+1))).sum= -at' r (2*(ns.length+i)+1):=by
  rw[tf _ hi fun k hk hne=>?_]
  ·rw[(D.snk i hi).1,(D.snk i hi).2,og,jW (by lia)];lia
  ·rw[(D.snk k hk).1,(D.snk k hk).2,jW (by lia),jW (by lia)];rfl
 rw[h1,h2]
 have h3:inR (twS ns r ts) p=((List.range ts.length).map fun j=>iY (twAt ns r ts j).b p (twAt ns r ts j).x+iY (twAt ns r ts j).a p (twAt ns r ts j).y).sum:=by
  unfold inR twS
  rw[bG]
  rfl
 rw[h3,kj (g:=fun j=>iY (twAt ns r ts j).b p (twAt ns r ts j).x+iY (twAt ns r ts j).a p (twAt ns r ts j).y) fun j hj=>?_]
 ·lia
 ·have hj:=aV.mp hj
  have hg:=getD_at hj
  have hm:=ao hg
  have he:=D.ends _ hm
  obtain⟨⟨a1,a2⟩,b1,b2⟩:=D.tie j _ hg
  have l1:=D.spB he.1
  have l2:=D.spB he.2
  have i1:sp (ts.getD j (0,0)).1+ns.length=2+(ns.length:Int)+i↔(ts.getD j (0,0)).1=p:=⟨fun z=>(D.spI hp he.1).mp (by lia),fun z=>by have:=(D.spI hp he.1).mpr z;lia⟩
  have i2:sp (ts.getD j (0,0)).2+ns.length=2+(ns.length:Int)+i↔(ts.getD j (0,0)).2=p:=⟨fun z=>(D.spI hp he.2).mp (by lia),fun z=>by have:=(D.spI hp he.2).mpr z;lia⟩
  have n1:sp (ts.getD j (0,0)).1≠2+(ns.length:Int)+i:=by lia
  have n2:sp (ts.getD j (0,0)).2≠2+(ns.length:Int)+i:=by lia
  rw[a1,a2,b1,b2,pj i1,pj i2,jW n1,jW n2]
  unfold twAt
  dsimp only
  lia
end
end Fl
namespace Fl
section
variable{ns:List Int}{ts:List (Int×Int)}{sp:Int->Int}{hs r:List Int}{wf:Int->List Nat}{pr:Int->Int}{cap:Nat->Int}
def JK(ns:List Int):Nat:=2+(ns.length+ns.length)
def arcs(ns:List Int)(ts:List (Int×Int)):Nat:=ns.length+ns.length+2*ts.length
def inS(wf:Int->List Nat)(hs:List Int)(n:Nat)(r:List Int)(v:Int):Bool:=decide (v∈(jJ wf hs n 0 r).map (·.1))
theorem tI{α:Type}{f:α->Int}:∀{l:List α},(∀p∈l,0<=f p)->∀p∈l,f p<=(l.map f).sum
 |[],_,p,h=>by cases h
 | a::l,h0,p,h=>by
  rw[aq,List.sum_cons]
  have ha:=h0 a (aJ ..)
  have hl:0<=(l.map f).sum:=by
   have:=qF (f:=fun _=>0) (g:=f) (l:=l) fun q hq=>h0 q (ay _ hq)
   rw[lH]at this
   exact this
  rcases aR.mp h with rfl|h
  ·lia
  ·have:=tI (fun q hq=>h0 q (ay _ hq)) p h
   lia
end
end Fl
namespace Fl
abbrev jU:=Int×Int×Int
def i7:List jU->List Int
 |[]=>[]
 |a::r=>a.2.1::a.1::i7 r
def jT:List jU->List Int
 |[]=>[]
 |a::r=>a.2.2::0::jT r
def mC(as:List jU)(k:Nat):Int:=(as.getD k (0,0,0)).2.2
theorem sv:∀as:List jU,(i7 as).length=2*as.length
 |[]=>rfl
 |a::r=>by rw[i7,List.length_cons,List.length_cons,sv r,List.length_cons];lia
theorem qG:∀as:List jU,(jT as).length=2*as.length
 |[]=>rfl
 |a::r=>by rw[jT,List.length_cons,List.length_cons,qG r,List.length_cons];lia
theorem rN(x y:Int)(l:List Int)(i:Nat):at' (x::y::l) (i+2)=at' l i:=rfl
theorem mX:∀(as:List jU) (i:Nat),at' (i7 as) (2*i)=(as.getD i (0,0,0)).2.1
 |[],i=>by simp[i7,at']
 |a::r,0=>rfl
 |a::r,i+1=>by rw[show 2*(i+1)=2*i+2 by lia,i7,rN,mX r i];rfl
theorem mW:∀(as:List jU) (i:Nat),at' (i7 as) (2*i+1)=(as.getD i (0,0,0)).1
 |[],i=>by simp[i7,at']
 |a::r,0=>rfl
 |a::r,i+1=>by rw[show 2*(i+1)+1=(2*i+1)+2 by lia,i7,rN,mW r i];rfl
theorem ve:∀(as:List jU) (i:Nat),at' (jT as) (2*i)=mC as i
 |[],i=>by simp[jT,at',mC]
 |a::r,0=>rfl
 |a::r,i+1=>by rw[show 2*(i+1)=2*i+2 by lia,jT,rN,ve r i];rfl
theorem rH:∀(as:List jU) (i:Nat),at' (jT as) (2*i+1)=0
 |[],i=>by simp[jT,at']
 |a::r,0=>rfl
 |a::r,i+1=>by rw[show 2*(i+1)+1=(2*i+1)+2 by lia,jT,rN,rH r i]
def jO(as:List jU)(u:Int):List Nat:=(List.range (2*as.length)).filter fun w=>decide (at' (i7 as) (iV w)=u)
theorem xH(k:Nat):iV (2*k)=2*k+1:=by unfold iV;rw[aw (by lia)]
theorem xG(k:Nat):iV (2*k+1)=2*k:=by unfold iV;rw[au (by lia)];lia
theorem uY{α:Type}{l:List α}{i:Nat}(d:α)(h:i<l.length):l.getD i d∈l:=by
 rw[aI,gE h]
 exact df h
theorem xC{as:List jU}{n:Nat}(h:∀a∈as,(0<=a.1/\a.1<(n:Int))/\0<=a.2.1/\a.2.1<(n:Int)):Net (jO as) (i7 as) as.length n:=by
 refine⟨sv as,fun u w hw=>?_,fun w hw=>?_,fun w hw=>?_⟩
 ·have hw:=cv.mp hw
  exact⟨aV.mp hw.1,bK hw.2⟩
 ·by_cases c:w%2=0
  ·have e:w=2*(w/2):=by lia
   have hk:w/2<as.length:=by lia
   rw[e,mX]
   exact(h _ (uY _ hk)).2
  ·have e:w=2*(w/2)+1:=by lia
   have hk:w/2<as.length:=by lia
   rw[e,mW]
   exact(h _ (uY _ hk)).1
 ·exact cv.mpr ⟨aV.mpr hw,az rfl⟩
theorem CF{as:List jU}(h:∀a∈as,0<=a.2.2):Rooms as.length (mC as) (jT as):=by
 refine⟨qG as,fun j=>?_,fun k hk=>?_⟩
 ·by_cases c:j%2=0
  ·rw[show j=2*(j/2) by lia,ve]
   unfold mC
   by_cases hk:j/2<as.length
   ·exact h _ (uY _ hk)
   ·rw[aI,bD (by lia)]
    exact bE _
  ·rw[show j=2*(j/2)+1 by lia,rH]
   exact bE _
 ·rw[ve,rH];lia
theorem Jp(as:List jU)(hs:List Int)(m:Nat)(v:Int):ex hs m (jT as) v=0:=by
 unfold ex
 rw [<- lH (List.range m)]
 refine kj fun k _=>?_
 rw[rH]
 unfold iY
 split<;>split<;>rfl
theorem vS:∀(as:List jU) (a:jU),i7 (as++[a])=i7 as++[a.2.1,a.1]
 |[],a=>rfl
 |b::r,a=>by rw[List.cons_append,i7,vS r a,i7];rfl
theorem xp:∀(as:List jU) (a:jU),jT (as++[a])=jT as++[a.2.2,0]
 |[],a=>rfl
 |b::r,a=>by rw[List.cons_append,jT,xp r a,jT];rfl
theorem JC{l l':List Int}{i:Nat}(h:i<l.length):at' (l++l') i=at' l i:=by
 unfold at'
 rw[aI,aI,bH h]
theorem B9(as:List jU)(a:jU)(u:Int):jO (as++[a]) u=(jO as u++(if a.1=u then[2*as.length]else[]))++(if a.2.1=u then[2*as.length+1]else[]):=by
 unfold jO
 rw[aH,List.length_singleton,show 2*(as.length+1)=2*as.length+1+1 by lia,bF,dq,bF,dq]
 have e1:at' (i7 (as++[a])) (iV (2*as.length))=a.1:=by
  rw[xH,mW,aI,cA (av _),Nat.sub_self];rfl
 have e2:at' (i7 (as++[a])) (iV (2*as.length+1))=a.2.1:=by
  rw[xG,mX,aI,cA (av _),Nat.sub_self];rfl
 congr 1
 ·congr 1
  ·refine List.filter_congr fun w hw=>?_
   rw[vS,JC]
   rw[sv]
   exact nh (aV.mp hw)
  ·rw[cQ,e1]
   by_cases c:a.1=u
   ·rw[aw c,aw (az c)];rfl
   ·rw[au c,au (by simp[c])];rfl
 ·rw[cQ,e2]
  by_cases c:a.2.1=u
  ·rw[aw c,aw (az c)];rfl
  ·rw[au c,au (by simp[c])];rfl
section
variable{sp:Int->Int}{pl:Int}{ps ts:List (Int×Int)}
end
end Fl
namespace L2
open PySem PySem.Spec PyProof.Rows
def JJ(h B:Heap)(x:Addr)(cl:Value)(dd:Option Addr)(fl:Value):Prop:=
 ∃ox ws T oT ts,h.get? x=some ox/\ox.cls=cl/\ox.dict=dd/\ox.data= .fields ws/\ws[1]? =some (.ref T)/\B.get? T=none/\T≠x/\h.get? T=some oT/\oT.data= .fields ts/\ts[3]? =some fl/\(dd≠none->ws[2]? =some .none)
structure FlyD(B:Heap)(l:List Env)(x:Addr)(cl:Value)(dd:Option Addr)(fl:Value)(h:Heap):Prop where
 stays:B.StaysIn h
 new:B.get? x=none
 funs:h.FunFrames B l
 tr:JJ h B x cl dd fl
theorem FlyD.there{B:Heap}{l:List Env}{x:Addr}{cl:Value}{dd:Option Addr}{fl:Value}{h:Heap}(f:FlyD B l x cl dd fl h):∃ox ws,h.get? x=some ox/\ox.cls=cl/\ox.dict=dd/\ox.data= .fields ws:=by
 obtain⟨ox,ws,_,_,_,h1,h2,h3,h4,_⟩:=f.tr
 exact⟨ox,ws,h1,h2,h3,h4⟩
section
variable{M:Model}{A:Around}{E:Value->Shared->Prop}{s:Shared}{B:Heap}{env:Env}{l:List Env}{L x:Addr}{cl:Value}{dd:Option Addr}{Q:Unit->Shared->Prop}
end
structure Df(X:Cx):Prop where
 stk:X.stack=X.env::X.outer
 fr:X.env.frame=some X.env.locals
 ex:X.ex=[]
 fn:∀x,X.fn x=true
structure Cov(X:Cx)(B:Heap)(H:Hp)(h:Heap):Prop where
 tr:∀b o,H b=some o->∃q,h.get? b=some q/\B.get? b=some q
 old:∀b o,X.s₀.heap.get? b=some o->b∉kJ X.stack->∃q,h.get? b=some q/\B.get? b=some q
 pin:∀p∈X.pn,B.get? p.1=some p.2
 cel:∀x c,X.env.cells.lookup x=some c->∃q,h.get? c=some q/\B.get? c=some q
section
variable{X:Cx}{σ:St}{H:Hp}{s:Shared}{B h':Heap}
end
inductive Md(B:Heap)(l:List Env)(L x:Addr)(cl:Value)(dd:Option Addr)(h:Heap):Prop where
 |new {ox:Obj} {ws:Array Value}:h.get? x=some ox->ox.cls=cl->ox.dict=dd->ox.data= .fields ws->ws[1]? =some .none->(dd≠none->ws[2]? =some .none)->B.StaysIn h->B.get? x=none->h.FunFrames B l->Md B l L x cl dd h
 |fly:FlyD B l x cl dd .none h->Md B l L x cl dd h
 |held:FlyD B l x cl dd (rawInt L) h->Md B l L x cl dd h
theorem Md.stays{B:Heap}{l:List Env}{L x:Addr}{cl:Value}{dd:Option Addr}{h:Heap}(m:Md B l L x cl dd h):B.StaysIn h:=by
 cases m with
 |new _ _ _ _ _ _ s _ _=>exact s
 |fly f=>exact f.stays
 |held f=>exact f.stays
def XT(X:Cx)(EX:St->XK):Value->Shared->Prop:=fun e s'=>∃(x:Addr) (cl:Value) (dd:Option Addr) (σ:St) (H:Hp) (B:Heap),e= .ref x/\Inv X [] σ H s'/\H x=none/\X.s₀.heap.objs.size<=x/\Cov X B H s'.heap/\EX σ cl dd H/\Md B X.stack X.env.locals x cl dd s'.heap
def Cx.tr(X:Cx)(pins:List (Addr×Obj))(EX:St->XK):Cx:={X with pn:=X.pn++pins,xe:=XT {X with pn:=X.pn++pins} EX}
theorem Cx.Ok.pn{X:Cx}(ok:X.Ok)(pn:List (Addr×Obj))(E:Value->Shared->Prop):({X with pn:=pn,xe:=E}:Cx).Ok:=
 ⟨ok.mod,ok.kind,ok.glob,ok.blt,ok.above,ok.inj,ok.has,ok.cab,ok.hd,ok.frames,ok.stk,ok.exf,ok.bs,ok.bsz,ok.noex,ok.exfs,ok.funs,ok.frf⟩
theorem Inv.tr{X:Cx}{pins:List (Addr×Obj)}{σ:St}{H:Hp}{s:Shared}(I:Inv X pins σ H s)(EX:St->XK):Inv (X.tr pins EX) [] σ H s:=
 ⟨I.ok.pn _ _,I.os,I.bare,I.base,I.loc,I.cell,I.free,I.freeC,fun p hp=>I.pin p (by
  have:p∈(X.pn++pins)++[]:=hp
  simpa using this),I.hok,I.len⟩
theorem Df.tr{X:Cx}(d:Df X)(pins:List (Addr×Obj))(EX:St->XK):Df (X.tr pins EX):=⟨d.stk,d.fr,d.ex,d.fn⟩
section
variable{X:Cx}{CX:kW}{k:Nat}{f:Addr}{fd:FuncData}{ps:List Str}{sp:Sp}{EX:St->XK}{x:Str}{p pos:Pos}{e:Expr}{es:List Expr}{t:TA}{ds:List Value}{dvs:List V}
end
section
variable{P:Program}{w:World}{K:PySem.W.Frag}{mg:Str->Option Value}{base:Heap}
end
section
variable{prog:Program}{w:World}{A:Around}{E:Value->Shared->Prop}{h:Heap}{g:Array GenState}{d:Drawn}{t:Nat}{os:OsState}
variable{nm q:Str}{C N:Addr}{bs bm bmB:List Value}{hdct:Bool}{sn:List Str}{sub:List Value}{ab:Bool}{col:Option Bool}{dd:Option Addr}{k0 k1 k2 k3 k5:Option Value}{B newId initId:String}
end
end L2
namespace L2
open PySem PySem.Spec PyProof.Rows Builtin Builtin.ObjectAttr
section
variable{prog:Program}{w:World}{A:Around}{E:Value->Shared->Prop}{h:Heap}{g:Array GenState}{d:Drawn}{t:Nat}{os:OsState}{C:Addr}{bmB:List Value}{B newId initId:String}
end
def jty:Value->Bool
 | .ref _=>true
 |_=>false
theorem jty.ex{v:Value}(h:jty v=true):∃a,v= .ref a:=by
 cases v<;>first|exact⟨_,rfl⟩|cases h
section
variable{prog:Program}{w:World}{A:Around}{E:Value->Shared->Prop}{s:Shared}{K:PySem.W.Frag}{x C t0:Addr}{dz:Option Addr}{name:Str}{v:Value}{Q:Unit->Shared->Prop}
end
section
variable{P:Program}{w:World}{H:Hp}{h:Heap}{a C:Addr}{dd:Option Addr}{fs:List (Str×V)}
end
section
variable{X:Cx}{pins:List (Addr×Obj)}{σ:St}{H:Hp}{s:Shared}{h':Heap}{x dx:Addr}{φ:Heap->Prop}{o1 o2:HO}{t':Nat}
end
section
variable{X:Cx}{o value e:Expr}{es:List Expr}{f x:Str}{p pos pos' apos:Pos}{ta tv:TE}{t:TA}{C T:Addr}{bmB:List Value}{B newId initId:String}{fI:Addr}
end
section
variable{X:Cx}{EX:St->XK}{k:Nat}{fI C:Addr}{fd:FuncData}{ps:List Str}{sp:Sp}{x:Str}{p cpos pos:Pos}{e:Expr}{es:List Expr}{t:TA}{bmB:List Value}{B newId initId:String}
end
section
variable{X:Cx}{pins:List (Addr×Obj)}{σ:St}{H:Hp}{s:Shared}{x:Addr}{o:HO}
end
section
variable{X:Cx}{x n:Str}{np hpos pos:Pos}{body suite:List Stmt}{b0:Stmt}{C:Addr}{mt:Value->Prop}{i:Nat}{tb:(St->XK)->TS}{th:TS}
end
section
variable{X:Cx}{C dx a:Addr}{fs:List (Str×V)}{H:Hp}{s:Shared}
end
end L2
namespace L2
open PySem PySem.Spec PyProof.Rows Builtin Builtin.ObjectAttr
structure XG(K:PySem.W.Frag)(C:Addr):Prop where
 ga:PySem.W.findIn K (.ref C) "__getattribute__"=some (some (.builtin "BaseException.__getattribute__"))
 gt:PySem.W.findIn K (.ref C) "__getattr__"=some none
 sub:PySem.W.mroIn K C (.type "BaseException")=some true
section
variable{prog:Program}{w:World}{A:Around}{E:Value->Shared->Prop}{s:Shared}{K:PySem.W.Frag}{x C:Addr}{ox:Obj}{od:Option Obj}{name:Str}{v:Value}
end
structure XY(K:PySem.W.Frag)(C:Addr):Prop where
 g:XG K C
 hd:PySem.W.hasDictIn K C=true
 ha:PySem.W.findIn K (.ref C) "__class__"=some (some (.builtin "object.__class__"))
 hn:PySem.W.specialIn K (.builtin "object.__class__") "__get__"=some (some (.builtin "getset_descriptor.__get__"))
 ht:PySem.W.takesIn K (.builtin "object.__class__")=some true
 hm:PySem.W.mroIn K C (.type "object")=some true
theorem XY.cls{K:PySem.W.Frag}{C:Addr}(y:XY K C):∃c d cd sl,K.lookup C=some ⟨c,d,.cls cd,sl⟩:=by
 obtain⟨cd,hc,_⟩:=PySem.W.any_some y.hd
 unfold PySem.W.clsIn at hc
 split at hc
 ·rename_i ho
  exact⟨_,_,_,_,ho⟩
 ·cases hc
section
variable{X:Cx}{C dx a:Addr}{fs:List (Str×V)}{H:Hp}{s:Shared}
end
section
variable{X:Cx}
end
structure RoomH(k:Nat)(A:Around):Prop where
 dp:A.depth+3*k+5<recursionLimit
 un:A.units+16*k+200<cLine
theorem Room.h{j k:Nat}{A:Around}(r:Room k A)(h:j<=k):RoomH j A:=⟨(r.mono h).dp,(r.mono h).un⟩
theorem Room.hm{j k:Nat}{A:Around}{o:Option Value}(r:Room k A)(h:j<=k):RoomH j (A.mark o):=⟨(r.mono h).dp,(r.mono h).un⟩
theorem RoomH.mono{j k:Nat}{A:Around}(r:RoomH k A)(h:j<=k):RoomH j A:=⟨by have:=r.dp;lia,by have:=r.un;lia⟩
section
variable{P:Program}{w:World}{K:PySem.W.Frag}{mg:Str->Option Value}{base:Heap}
end
section
variable{X:Cx}{k:Nat}{f:Addr}{fd:FuncData}{ps:List Str}{sp:Sp}{x:Str}{p pos:Pos}{e:Expr}{es:List Expr}{t:TA}
end
section
variable{X:Cx}{C:Addr}
end
section
variable{X:Cx}{x n:Str}{np hpos pos:Pos}{body suite:List Stmt}{b0:Stmt}{C:Addr}{mt:Value->Prop}{tb:(St->XK)->TS}{th:TS}
end
section
variable{prog:Program}{w:World}{A:Around}{E:Value->Shared->Prop}{s:Shared}{C a:Addr}{bmB:List Value}{newId:String}
end
section
variable{prog:Program}{w:World}{A:Around}{E:Value->Shared->Prop}{h:Heap}{g:Array GenState}{d:Drawn}{t:Nat}{os:OsState}
variable{C:Addr}{bmB:List Value}{B newId initId:String}
end
section
variable{X:Cx}{x y:Str}{np hpos pos p cpos rpos cp:Pos}{kk:Nat}{body:List Stmt}{C D':Addr}{mt:Value->Prop}{tb:(St->XK)->TS}{EX:St->XK}{e:Expr}{es:List Expr}{t:TA}{bmB:List Value}{B newId initId:String}
end
open PySem.Builtin.ObjectAttr
section
variable{X:Cx}{C a:Addr}{H:Hp}{s:Shared}
end
def B7(i j:Int):Prop:=0<j/\j<1000000000000000000
section
variable{X:Cx}
theorem ER:OpR X (binaryOp .FloorDiv) (fIC B7 fun i j=>.int (i/j)):=by
 intro pins s σ H x y v u Q I rx ry h
 unfold fIC at h
 split at h
 ·rename_i i j
  obtain⟨⟨h1,h2⟩,q⟩:=h
  obtain⟨t,rfl⟩:=rx
  obtain⟨t',rfl⟩:=ry
  refine floordiv_int (by lia) ?_ (.inl (PyProof.noPylong_of_log2 ?_))
  ·rw[iy i (by lia)]
   exact⟨.int (i/j),H,I.tok _,⟨_,rfl⟩,q⟩
  ·by_cases h0:j.natAbs=0
   ·rw[h0];decide
   ·exact bw ((Nat.log2_lt h0).mpr (show j.natAbs<2^60 by lia)) (by decide)
 ·exact h.elim
end
theorem iS{a b:TS}{D:Ends}{σ:St}{H:Hp}(h:∀R,R=b->nZ a R D σ H):nZ a b D σ H:=h b rfl
theorem tFor_hideI{ι:Type}{wi:TI}{g:TG}{tb:TS}{D:Ends}{σ:St}{H:Hp}(J:ι->It)(H1:ι->Hp)(ok:ι->Prop)(h1:∀R:It->Hp->Prop,(∀i,ok i->R (J i) (H1 i))->wi σ H R)
  (h2:∀i0,ok i0->∃W:Nat->Nat->St->Hp->Prop,(∃m,W 0 m σ (H1 i0))/\∀i m σ H,W i m σ H->((J i0).stop i H/\D.nx σ H)\/((J i0).go i H/\∃N:St->Hp->Prop,(∀σ' H',N σ' H'->∃m',m'<m/\W (i+1) m' σ' H')/\∀x H',(J i0).yld i H x H'->g x σ H' fun σ2 H2=>tb {D with nx:=N,ct:=N,bk:=D.nx} σ2 H2)):
  qC wi g tb D σ H:=h1 _ h2
section
variable{X:Cx}
end
end L2
namespace So
open PySem PyProof.Rows
section
variable{prog:Program}{w:World}{A:Around}{E:Value->Shared->Prop}{s:Shared}
section
variable{prog:Program}{w:World}{A:Around}{E:Value->Shared->Prop}{s:Shared}{R:Keyed->Int}{κ:SortKind}{a₀:Array Keyed}{pd:Array (Nat×Nat×Nat)}
theorem Ia{n:Nat}(h:n<64):minRun' n n 0=n:=by
 show(sortPriv%PySem.Builtin.minRun) n n 0=n
 cases n with
 |zero=>rfl
 |succ k=>exact aw h
theorem E4(C:Cm prog w A s R κ a₀){st:SortSt}(b:Bs κ a₀ #[] st)(h1:1<=a₀.size)(h63:a₀.size<64){Q:Unit->SortSt->Prop}
  (h:∀st',(arrOf st').Perm a₀->failedOf st'=none->Up R (arrOf st') 0 a₀.size->Q () st'):wpS (model prog w) A E s sortRuns' Q st:=by
 have pn:∀{st:SortSt} {pd:Array (Nat×Nat×Nat)},Bs κ a₀ pd st->(sortPriv%PySem.Builtin.SortState.pending) st=pd:=fun b=>b.pend
 have sz:(sortPriv%PySem.Builtin.SortState.a) st=arrOf st:=rfl
 have mr:=Ia h63
 unfold sortRuns'
 refine ck (wpS_get ?_)
 rw[sz,b.size]
 refine ck (wpS_mono (fi (I:=fun x (c:Option Unit×Nat) st'=>∃lo pd,c=(none,lo)/\Bs κ a₀ pd st'/\((x=0/\lo=0/\pd= #[])\/(lo=a₀.size/\pd.size<=1/\Up R (arrOf st') 0 a₀.size)))
  (Q:=fun(c:Option Unit×Nat) st'=>∃pd,c=(none,a₀.size)/\Bs κ a₀ pd st'/\pd.size<=1/\Up R (arrOf st') 0 a₀.size) ?step ?fin ⟨0,#[],rfl,b,.inl ⟨rfl,rfl,rfl⟩⟩) ?post)
 case fin=>
  rintro c st' ⟨lo,pd,rfl,b',q⟩
  rcases q with⟨q,_⟩|⟨rfl,q1,q2⟩
  ·lia
  ·exact⟨pd,rfl,b',q1,q2⟩
 case post=>
  rintro c st' ⟨pd,rfl,b',p1,u⟩
  refine ck (wpS_mono (fi (I:=fun x (c:Option Unit×Unit) st'=>∃pd,c=(none,())/\Bs κ a₀ pd st'/\pd.size<=1/\Up R (arrOf st') 0 a₀.size)
   (Q:=fun(c:Option Unit×Unit) st'=>∃pd,c=(none,())/\Bs κ a₀ pd st'/\pd.size<=1/\Up R (arrOf st') 0 a₀.size) ?s2 (fun _ _ z=>z) ⟨pd,rfl,b',p1,u⟩) ?p2)
  case p2=>
   rintro c st2 ⟨pd,rfl,b2,q,u2⟩
   exact cM (h st2 b2.perm b2.ok u2)
  case s2=>
   rintro x c st2 _ hx ⟨pd,rfl,b2,q,u2⟩
   refine ck (wpS_get ?_)
   rw[pn b2]
   exact pN (fun c=>cM ⟨pd,rfl,b2,q,u2⟩) fun c=>absurd q c
 case step=>
  rintro x c st' _ hx ⟨lo,pd,rfl,b',q⟩
  rcases q with⟨rfl,rfl,rfl⟩|⟨rfl,q1,q2⟩
  ·refine pN (fun c=>absurd (show 0 ≥ a₀.size from c) (by lia)) fun c=>?_
   refine ck (E3 (lo:=0) (nrem:=a₀.size-0) C (by lia) (by lia) b' fun m st2 b2 f2 m1 m2 u2=>?_)
   have push:∀(n:Nat) (st4:SortSt),Bs κ a₀ #[] st4->Up R (arrOf st4) 0 (0+n)->n=a₀.size->
     ∃lo' pd',((none,0+n):Option Unit×Nat)=(none,lo')/\Bs κ a₀ pd' (SortSt.mk' (kindOf st4) (arrOf st4) ((pendingOf st4).push (0,n,0)) (gallopOf st4) (failedOf st4))/\((0+1=0/\lo'=0/\pd'= #[])\/(lo'=a₀.size/\pd'.size<=1/\Up R (arrOf st4) 0 a₀.size)):=by
    intro n st4 b4 u4 hn
    subst hn
    refine⟨_,#[].push (0,a₀.size,0),rfl,⟨b4.perm,b4.kind,b4.ok,?_⟩,.inr ⟨by lia,by simp,?_⟩⟩
    ·show(pendingOf st4).push (0,a₀.size,0)=_
     rw[b4.pend]
    ·rwa[gc]at u4
   refine pN (fun cm=>?_) fun cm=>?_
   case' refine_1=>
    refine ck (wpS_lift (eQ ⟨rfl,?_⟩))
    refine ck (Cd (lo:=0) (n:=min (a₀.size-0) (minRun' a₀.size a₀.size 0)) (ok:=m) C (by lia) (by rw[mr];lia) b2 u2 fun st3 b3 f3 u3=>?_)
    refine pN (fun c=>by cases c) fun _=>?_
    have hn:min (a₀.size-0) (minRun' a₀.size a₀.size 0)=a₀.size:=by rw[mr];lia
   case' refine_2=>
    have b3:=b2
    have u3:=u2
    have hn:m=a₀.size:=by
     have cm':¬m<minRun' a₀.size a₀.size 0:=cm
     rw[mr]at cm'
     lia
   all_goals
    refine ck (wpS_get ?_)
    rw[pn b3]
    exact ck (wpS_modify (cM (push _ _ b3 u3 hn)))
  ·refine pN (fun c=>cM ⟨pd,rfl,b',q1,q2⟩) fun c=>absurd (av _) c
end
section
variable{prog:Program}{w:World}{A:Around}{E:Value->Shared->Prop}{s:Shared}
theorem FQ{a:Addr}{vs:List Value}{n:Nat}{P:PySem.Fin->Shared->Prop}{R:Keyed->Int}{κ:SortKind}{h₁:Heap}(ho:s.heap.get? a=some (seqObj "list" vs.toArray n))(h63:vs.length<64)(hz:vs.length<=sizeLine)
  (hold:∀b o,h₁.get? b=some o->b≠a/\s.heap.get? b=some o) (hk:2<=vs.length->sW prog w {s with heap:=h₁} vs R κ)
  (h:∀out:Array Value,out.toList.Perm vs->out.toList.Pairwise (fun a b=>R (a,a)<=R (b,b))->P (.done (.ret .none)) {s with heap:=sortedHeap s.heap a vs out}):
  wpAny (model prog w) A (Builtin.«list.sort» ⟨[.ref a],[]⟩) P E s:=by
 rw[list_sort_plain]
 have ha:a<s.heap.objs.size:=aE ho
 have hz1:vs.toArray.size<=sizeLine:=by rw[aj];exact hz
 refine aa (listItems_at ho rfl (aa (listUpdate_at ho rfl ?_ hz1 (bI _))))
 obtain⟨e1,ho1⟩:∃e1,(s.heap.update a (Obj.mapSeq fun _=>(#[]:Array Value))).get? a=some (seqObj "list" #[] e1):=⟨_,get?_update_seq ho fun _=>#[]⟩
 refine aa (seqEpoch_at ho1 rfl (aa (wpAny_newTuple (aa (dO (cg ?_) (bI _))) hz)))
 have keep:∀b o,b≠a->s.heap.get? b=some o->(((s.heap.update a (Obj.mapSeq fun _=>(#[]:Array Value))).push (seqObj "tuple" vs.toArray 0)).push (seqObj "list" #[] 0)).get? b=some o:=fun b o hne q=>
  af _ (af _ (by rw[Heap.get?_update_ne _ _ _ _ hne];exact q))
 have ho6:(((s.heap.update a (Obj.mapSeq fun _=>(#[]:Array Value))).push (seqObj "tuple" vs.toArray 0)).push (seqObj "list" #[] 0)).get? a=some (seqObj "list" #[] e1):=af _ (af _ ho1)
 show wpAny (model prog w) A _ P E {s with heap:=((s.heap.update a (Obj.mapSeq fun _=>(#[]:Array Value))).push (seqObj "tuple" vs.toArray 0)).push (seqObj "list" #[] 0)}
 dsimp only
 have fin:∀st':SortSt,(arrOf st').Perm (pairsOf vs)->Up R (arrOf st') 0 (arrOf st').size->P (.done (.ret .none)) {s with heap:=sortedHeap s.heap a vs ((arrOf st').map (·.2))}:=fun st' p u=>by
  obtain⟨z1,z2⟩:=Di p u
  exact h _ z1 z2
 by_cases c2:vs.toArray.size<2
 ·rw[aw c2,aw c2]
  refine aa (ak ?_)
  rw[StateT.run_pure]
  refine aa (ak (aa (seqEpoch_at ho6 rfl (aa (listUpdate_at ho6 rfl ?_ (bI _) (by rw[gB];show(pairsOf vs).size<=_;rw[gb];exact Nat.le_succ_of_le hz))))))
  simp only[gW,aK,if_false]
  refine ak (fin (SortSt.mk' general' (vs.toArray.zip vs.toArray) #[] 7 none) (Array.Perm.refl _) (Up.one ?_))
  show(pairsOf vs).size<=1
  rw[gb]
  rw[aj]at c2
  lia
 ·rw[au c2,au c2]
  rw[aj]at c2
  obtain⟨k1,k2⟩:=hk (by lia) A _ fun b o q=>keep b o (hold b o q).1 (hold b o q).2
  refine aa (k1 _ _ ?_)
  have k3:=E4 (E:=E) (st:=SortSt.mk' κ (pairsOf vs) #[] 7 none) (Q:=fun _ st'=>(arrOf st').Perm (pairsOf vs)/\failedOf st'=none/\Up R (arrOf st') 0 (pairsOf vs).size) k2 ⟨Array.Perm.refl _,rfl,rfl,rfl⟩ (by rw[gb];lia) (by rw[gb];exact h63) fun st' a1 a2 a3=>⟨a1,a2,a3⟩
  refine aa (cV k3 ?_ fun _ _ e=>e)
  rintro⟨⟨⟩,st'⟩ s' ⟨rfl,hp,hf,hs⟩
  dsimp only
  refine aa (seqEpoch_at ho6 rfl (aa (listUpdate_at ho6 rfl ?_ (bI _) (by refine bz (Nat.le_of_eq ((gB ..).trans (hp.size_eq.trans (gb _)))) (Nat.le_succ_of_le hz)))))
  rw[hf]
  simp only[gW,aK,if_false]
  rw [<- hp.size_eq] at hs
  exact ak (fin st' hp hs)
theorem Bg{l:Addr}{vs:List Value}{Q:Value->Shared->Prop}{R:Keyed->Int}{κ:SortKind}(hl:s.heap.IsList l vs.toArray)(h63:vs.length<64)(hz:vs.length<=sizeLine)(hk:2<=vs.length->sW prog w s vs R κ)
  (h:∀out:Array Value,out.toList.Perm vs->out.toList.Pairwise (fun a b=>R (a,a)<=R (b,b))->Q (.ref (s.heap.objs.size+1)) {s with heap:=sortedAll s.heap vs out}):
  wpAny (model prog w) A (call (.builtin "sorted") [.ref l]) Q E s:=by
 refine Calls.call_function_entry kind_sorted plain_sorted entry_sorted (args_sorted1 _) ?_
 unfold Builtin.«sorted»
 refine aa (m:=checkCount "sorted" 1 1 _) (ak (aa (collect_list hl (aa (dO ?_ hz)) hz)))
 have hsz:((s.heap.push (seqObj "list" #[] 0)).update s.heap.objs.size (Obj.mapSeq (·++vs.toArray))).objs.size=s.heap.objs.size+1:=by rw[Heap.size_update,eS]
 generalize hh:((s.heap.push (seqObj "list" #[] 0)).update s.heap.objs.size (Obj.mapSeq (·++vs.toArray))).push (seqObj "list" vs.toArray 0)=h2
 have hoL:h2.get? (s.heap.objs.size + 1) = some (seqObj "list" vs.toArray 0):=by rw [<- hh,<- hsz]; exact aF _ rfl
 have keep:∀b o,s.heap.get? b=some o->b≠s.heap.objs.size+1/\h2.get? b=some o:=fun b o q=>by
  have hlt:b<s.heap.objs.size:=aE q
  refine⟨aU (cD hlt),?_⟩
  rw [<- hh]
  exact af _ (by rw[Heap.get?_update_ne _ _ _ _ (aU hlt)];exact af _ q)
 show wpAny _ _ _ _ _ {s with heap:=h2}
 rw[hsz]
 refine aa (cg (da slot_list_sort ⟨_,hoL,rfl⟩ entry_list_sort (FQ (s:={s with heap:=h2}) (h₁:=s.heap) hoL h63 hz keep hk fun out p1 p2=>⟨_,rfl,?_⟩) (args_list_sort _)))
 refine ak ⟨_,rfl,?_⟩
 have z:=h out p1 p2
 unfold sortedAll at z
 rw[hh]at z
 exact z
end
end
end So
namespace L2
open PySem PySem.Spec PyProof.Rows
def CI:List V->Hp->VK->Prop:=fun vs H Q=>∃(p:Addr) (xs:List V) (ps:List (Int×Int)) (B:Int),vs=[.ref p]/\H p=some (.lst xs)/\Prs H xs ps/\xs.length<64/\(∀q∈ps,0<=q.2/\q.2<B)/\
 ∀(l:Addr) (ys:List V) (qs:List (Int×Int)),H l=none->Prs H ys qs->qs.Perm ps->qs.Pairwise lU->Q (.ref l) (upd H l (.lst ys))
theorem AZ{X:Cx}:jbs X (.builtin "sorted") CI:=by
 intro pins s σ H xs us Q I r h
 obtain⟨p,xs,ps,B,rfl,e,pp,hz,hB,q⟩:=h
 obtain⟨u,rfl,rx⟩:=kZ r
 cases rx
 obtain⟨its,r',pl,_⟩:=I.list (SqL.of e)
 have hlen:=r'.length
 obtain⟨m1,m2⟩:=zu r' pp
 have hz2:(64:Nat)<=sizeLine:=by decide
 have hpv:∀ v ∈ its,kf H v ∈ ps:=fun v m=>by rw [<- m1]; exact bh m
 refine So.Bg (R:=fun k=>(kf H k.1).1*B+(kf H k.1).2) pl.isList (by lia) (by lia) (fun h2=>So.GN (B:=B) (fun v m=>?_) h2) fun out o1 o2=>?_
 ·obtain⟨a,ea,eh⟩:=(m2 v m).2
  have ev:v= .ref a:=by
   have z:=(m2 v m).1
   rw[ea]at z
   exact z
  obtain⟨_,is2,rv,ob,eo,ec,n,en⟩:=I.hok _ _ eh
  match is2,rv with
  |_,.cons ⟨t1,e1⟩ (.cons ⟨t2,e2⟩ .nil)=>
   subst e1 e2
   exact⟨(kf H v).1,(kf H v).2,⟨a,ob,t1,t2,n,ev,eo,ec,en⟩,rfl,hB _ (hpv v m)⟩
 ·obtain⟨c,hc⟩:=sortedAll_at s.heap its out
  obtain⟨b1,b2⟩:=yv (H:=H) (us:=out.toList) fun v m=>m2 v (o1.mem_iff.mp m)
  have hol:=o1.length_eq
  refine⟨.ref (s.heap.objs.size+1),_,I.laid (t':=s.toks) (fun _ _=>sortedAll_old) (c5 _) (show jbf X.prog X.w _ _ _ (.lst (out.toList.map kX))from⟨?_,out.toList,c,b1,?_⟩),rfl,q _ _ (out.toList.map (kf H)) (I.hok.fresh (c5 _)) b2 ?_ ?_⟩
  ·rw[ae];lia
  ·rw[hc]
  ·have z:=o1.map (kf H)
   rwa[m1]at z
  ·rw[bL]
   refine c7 ?_ o2
   intro u v mu mv huv
   have g1:=hB _ (hpv u (o1.mem_iff.mp mu))
   have g2:=hB _ (hpv v (o1.mem_iff.mp mv))
   have z:=So.p8 (x:=(kf H v).1) (x':=(kf H u).1) g2.1 g2.2 g1.1 g1.2
   have z2:¬((kf H v).1<(kf H u).1\/((kf H v).1=(kf H u).1/\(kf H v).2<(kf H u).2)):=fun w=>by
    have:=z.mpr w
    dsimp only at huv
    lia
   unfold lU
   lia
end L2
namespace So
open PySem PySem.Spec PyProof.Rows
section
variable{prog:Program}{w:World}{s:Shared}
def xM(h:Heap)(v:Value)(x y z:Int):Prop:=∃a o t u t3 n,v= .ref a/\h.get? a=some o/\o.cls= .type "tuple"/\o.data= .seq #[.int x t,.int y u,.int z t3] n
theorem A3{h:Heap}:∀{vs:List Value},(∀v∈vs,∃x y z,xM h v x y z)->∃fs,PySem.W.KatTups h vs fs/\fs.length=vs.length/\∀f∈fs,∃i t,f= .int i t
 |[],_=>⟨[],trivial,rfl,fun _ q=>by cases q⟩
 |v::vs,hv=>by
  obtain⟨fs,h1,h2,h3⟩:=A3 (vs:=vs) fun v m=>hv v (.tail _ m)
  obtain⟨x,y,z,a,o,t,u,t3,n,rfl,e1,e2,e3⟩:=hv v (.head _)
  refine⟨.int x t::fs,.cons e1 e2 e3 rfl h1,by rw[List.length_cons,List.length_cons,h2],fun f m=>?_⟩
  rcases aR.mp m with rfl|m
  ·exact⟨x,t,rfl⟩
  ·exact h3 f m
theorem zP{B x y z x' y' z':Int}(h1:0<=y)(h2:y<B)(h3:0<=y')(h4:y'<B)(h5:0<=z)(h6:z<B)(h7:0<=z')(h8:z'<B):(x*B+y)*B+z<(x'*B+y')*B+z'↔x<x'\/(x=x'/\(y<y'\/(y=y'/\z<z'))):=by
 rw[p8 h5 h6 h7 h8,p8 h1 h2 h3 h4]
 constructor
 ·rintro((c|c)|⟨c,d⟩)
  ·exact .inl c
  ·exact .inr ⟨c.1,.inl c.2⟩
  ·rcases Int.lt_trichotomy x x' with e|e|e
   ·exact .inl e
   ·subst e
    exact .inr ⟨rfl,.inr ⟨by lia,d⟩⟩
   ·exfalso
    have q:=(p8 (x:=x') (x':=x) h3 h4 h1 h2).mpr (.inl e)
    lia
 ·rintro(c|⟨rfl,c|⟨rfl,c⟩⟩)
  ·exact .inl (.inl c)
  ·exact .inl (.inr ⟨rfl,c⟩)
  ·exact .inr ⟨rfl,c⟩
theorem GO{vs:List Value}{R:Keyed->Int}{B:Int}(hv:∀v∈vs,∃x y z,xM s.heap v x y z/\R (v,v)=(x*B+y)*B+z/\(0<=y/\y<B)/\0<=z/\z<B)(h2:2<=vs.length):sW prog w s vs R (tuples' true):=by
 intro A h' keep
 refine⟨fun Q E q=>?_,fun x y hx hy Q E q=>?_⟩
 ·obtain⟨fs,k1,k2,k3⟩:=A3 (h:=h') (vs:=vs) fun v m=>by
   obtain⟨x,y,z,⟨a,o,t,u,t3,n,e0,e1,e2⟩,_⟩:=hv v m
   exact⟨x,y,z,a,o,t,u,t3,n,e0,keep _ _ e1,e2⟩
  refine PySem.W.kat_kind (T:=.type "int") k1 (by lia) (fun f m=>?_) rfl q
  obtain⟨i,t,rfl⟩:=k3 f m
  exact PySem.W.Looks.of_pure rfl
 ·rw [ir,vo]at hx hy
  obtain⟨v,mv,rfl⟩:=aB.mp hx
  obtain⟨u,mu,rfl⟩:=aB.mp hy
  obtain⟨x1,y1,z1,⟨a,o,t1,t2,t5,n,rfl,e1,e2,e3⟩,r1,⟨r2,r3⟩,r7,r8⟩:=hv v mv
  obtain⟨x2,y2,z2,⟨b,p,t3,t4,t6,m,rfl,e4,e5,e6⟩,r4,⟨r5,r6⟩,r9,r10⟩:=hv u mu
  rw[r1,r4]at q
  have lx:=zP (x:=x1) (x':=x2) r2 r3 r5 r6 r7 r8 r9 r10
  refine PySem.W.kat_lt (b:=true) (s:={s with heap:=h'}) (keep _ _ e1) e3 (keep _ _ e4) e6 ?_
  refine eU (dC ?_)
  by_cases c:x1=x2
  ·rw[show(x1==x2)=true by rw[c];exact dF _]
   refine eZ (eU (dC ?_))
   by_cases c2:y1=y2
   ·rw[show(y1==y2)=true by rw[c2];exact dF _]
    refine eZ (eU (dC ?_))
    by_cases c3:z1=z2
    ·rw[show(z1==z2)=true by rw[c3];exact dF _]
     refine eZ (PySem.W.kat_nil ?_)
     rw[show decide ((x1*B+y1)*B+z1<(x2*B+y2)*B+z2)=false by rw[eD,lx];lia]at q
     exact q
    ·rw[show(z1==z2)=false by rw[bU];exact c3]
     refine fq (ie _ _ (lt_int ?_))
     rw[show decide ((x1*B+y1)*B+z1<(x2*B+y2)*B+z2)=decide (z1<z2) by rw[dE,lx];lia]at q
     exact q
   ·rw[show(y1==y2)=false by rw[bU];exact c2]
    refine fq (ie _ _ (lt_int ?_))
    rw[show decide ((x1*B+y1)*B+z1<(x2*B+y2)*B+z2)=decide (y1<y2) by rw[dE,lx];lia]at q
    exact q
  ·rw[show(x1==x2)=false by rw[bU];exact c]
   refine fq (oneLt_int ?_)
   rw[show decide ((x1*B+y1)*B+z1<(x2*B+y2)*B+z2)=decide (x1<x2) by rw[dE,lx];lia]at q
   exact q
end
end So
namespace L2
open PySem PySem.Spec PyProof.Rows
def Tp(H:Hp)(v:V)(p:Int×Int×Int):Prop:=∃a,v= .ref a/\H a=some (.tup [.int p.1,.int p.2.1,.int p.2.2])
abbrev kB(H:Hp)(xs:List V)(ps:List (Int×Int×Int)):Prop:=Paired (Tp H) xs ps
def nD(a b:Int×Int×Int):Prop:=a.1<b.1\/(a.1=b.1/\(a.2.1<b.2.1\/(a.2.1=b.2.1/\a.2.2<=b.2.2)))
def jQ(H:Hp):Value->Int×Int×Int
 | .ref a=>match H a with
  |some (.tup [.int x,.int y,.int z])=>(x,y,z)
  |_=>(0,0,0)
 |_=>(0,0,0)
def CH:List V->Hp->VK->Prop:=fun vs H Q=>∃(p:Addr) (xs:List V) (ps:List (Int×Int×Int)) (B:Int),vs=[.ref p]/\H p=some (.lst xs)/\kB H xs ps/\xs.length<64/\(∀q∈ps,(0<=q.2.1/\q.2.1<B)/\0<=q.2.2/\q.2.2<B)/\
 ∀(l:Addr) (ys:List V) (qs:List (Int×Int×Int)),H l=none->kB H ys qs->qs.Perm ps->qs.Pairwise nD->Q (.ref l) (upd H l (.lst ys))
theorem zw{H:Hp}:∀{xs:List V} {its:List Value} {ps:List (Int×Int×Int)},Vals xs its->kB H xs ps->its.map (jQ H)=ps/\∀v∈its,RelV (kX v) v/\Tp H (kX v) (jQ H v)
 |_,_,_,.nil,.nil=>⟨rfl,fun _ m=>by cases m⟩
 | _,_,_,.cons r t,.cons q u=>by
  obtain⟨e1,e2⟩:=zw t u
  obtain⟨a,rfl,ea⟩:=q
  cases r
  rename_i b _
  have e:jQ H (.ref a)=b:=by unfold jQ;dsimp only;rw[ea]
  refine⟨?_,fun v m=>?_⟩
  ·rw[aq,e1,e]
  ·rcases aR.mp m with rfl|m
   ·rw[e];exact⟨rfl,a,rfl,ea⟩
   ·exact e2 v m
theorem yw{H:Hp}:∀{us:List Value},(∀v∈us,RelV (kX v) v/\Tp H (kX v) (jQ H v))->Vals (us.map kX) us/\kB H (us.map kX) (us.map (jQ H))
 |[],_=>⟨.nil,.nil⟩
 |v::us,h=>by
  obtain⟨a,b⟩:=yw (us:=us) fun v m=>h v (.tail _ m)
  obtain⟨c,d⟩:=h v (.head _)
  exact⟨.cons c a,.cons d b⟩
theorem GR{X:Cx}:jbs X (.builtin "sorted") CH:=by
 intro pins s σ H xs us Q I r h
 obtain⟨p,xs,ps,B,rfl,e,pp,hz,hB,q⟩:=h
 obtain⟨u,rfl,rx⟩:=kZ r
 cases rx
 obtain⟨its,r',pl,_⟩:=I.list (SqL.of e)
 have hlen:=r'.length
 obtain⟨m1,m2⟩:=zw r' pp
 have hz2:(64:Nat)<=sizeLine:=by decide
 have hpv:∀ v ∈ its,jQ H v ∈ ps:=fun v m=>by rw [<- m1]; exact bh m
 refine So.Bg (R:=fun k=>((jQ H k.1).1*B+(jQ H k.1).2.1)*B+(jQ H k.1).2.2) pl.isList (by lia) (by lia) (fun h2=>So.GO (B:=B) (fun v m=>?_) h2) fun out o1 o2=>?_
 ·obtain⟨a,ea,eh⟩:=(m2 v m).2
  have ev:v= .ref a:=by
   have z:=(m2 v m).1
   rw[ea]at z
   exact z
  obtain⟨_,is2,rv,ob,eo,ec,n,en⟩:=I.hok _ _ eh
  match is2,rv with
  |_,.cons ⟨t1,e1⟩ (.cons ⟨t2,e2⟩ (.cons ⟨t3,e3⟩ .nil))=>
   subst e1 e2 e3
   exact⟨(jQ H v).1,(jQ H v).2.1,(jQ H v).2.2,⟨a,ob,t1,t2,t3,n,ev,eo,ec,en⟩,rfl,(hB _ (hpv v m)).1,(hB _ (hpv v m)).2⟩
 ·obtain⟨c,hc⟩:=sortedAll_at s.heap its out
  obtain⟨b1,b2⟩:=yw (H:=H) (us:=out.toList) fun v m=>m2 v (o1.mem_iff.mp m)
  have hol:=o1.length_eq
  refine⟨.ref (s.heap.objs.size+1),_,I.laid (t':=s.toks) (fun _ _=>sortedAll_old) (c5 _) (show jbf X.prog X.w _ _ _ (.lst (out.toList.map kX))from⟨?_,out.toList,c,b1,?_⟩),rfl,q _ _ (out.toList.map (jQ H)) (I.hok.fresh (c5 _)) b2 ?_ ?_⟩
  ·rw[ae];lia
  ·rw[hc]
  ·have z:=o1.map (jQ H)
   rwa[m1]at z
  ·rw[bL]
   refine c7 ?_ o2
   intro u v mu mv huv
   have g1:=hB _ (hpv u (o1.mem_iff.mp mu))
   have g2:=hB _ (hpv v (o1.mem_iff.mp mv))
   have z:=So.zP (x:=(jQ H v).1) (x':=(jQ H u).1) g2.1.1 g2.1.2 g1.1.1 g1.1.2 g2.2.1 g2.2.2 g1.2.1 g1.2.2
   have z2:¬((jQ H v).1<(jQ H u).1\/((jQ H v).1=(jQ H u).1/\((jQ H v).2.1<(jQ H u).2.1\/((jQ H v).2.1=(jQ H u).2.1/\(jQ H v).2.2<(jQ H u).2.2)))):=fun w=>by
    have:=z.mpr w
    dsimp only at huv
    lia
   unfold nD
   lia
section
variable{X:Cx}
end
end L2
namespace L2
open PySem PySem.Spec PyProof.Rows
section
variable{prog:Program}{w:World}{A:Around}{E:Value->Shared->Prop}{s:Shared}
end
section
variable{prog:Program}{w:World}{A:Around}{E:Value->Shared->Prop}{R:Result->Shared->Prop}
abbrev TK(prog:Program)(w:World):HeapKind prog w (List iE):=tupleKind (jR prog w)
end
def wK(td:TE):TE:=fun σ H Q=>td σ H fun x H1=>∃a kvs,x= .ref a/\H1 a=some (.dK kvs)/\∀l,H1 l=none->Q (.ref l) (upd H1 l (.lst (kvs.map (·.2))))
theorem yM{κ:Type}:∀{kvs:List (κ×V)} {vs:List (κ×Value)},KV kvs vs->Vals (kvs.map (·.2)) (vs.map (·.2))
 |_,_,.nil=>.nil
 |_,_,.cons r t=>.cons r.2 (yM t)
theorem HS{X:Cx}{x:Str}{o:Expr}{td:TE}{p apos vpos cpos:Pos}(hc:X.calm=true)(hg:Gl X x)(hm:X.mg x=none)(hv:bootBuiltins x=some (.type "list"))(ho:PE X o td)
  (hn:x≠"__name__":=by decide) (hdb:(x==("__debug__":Str))=false:=by decide)
  (hbase:attributeBase o "values" X.env (eval o X.env)=eval o X.env:=by rfl) (hline:(apos.endLine==vpos.line)=true:=by rfl)
  (he:starEach [.Call (.Attribute o "values" apos) [] [] vpos] X.env=(false,eval (.Call (.Attribute o "values" apos) [] [] vpos) X.env)::starEach [] X.env:=by rfl):
  PE X (.Call (.Name x p) [.Call (.Attribute o "values" apos) [] [] vpos] [] cpos) (wK td):=by
 intro pins s σ H Q I h
 refine cP (lJ I hg hm hv ?_ hn hdb)
 refine cz ?_ he rfl
 rw[he]
 show wpAny _ _ (spliced ((false,eval (.Call (.Attribute o "values" apos) [] [] vpos) X.env)::backTo cpos (starEach [] X.env))) _ _ s
 refine eA ?_
 refine wpAny_Call_method0_late hbase hline (iK (ho pins s σ H _ I h) fun v s1 ⟨x,H1,I1,r1,a,kvs,ex,ea,q1⟩=>?_)
 subst ex
 cases r1
 obtain⟨z,hd,vs,rel,dd⟩:=nj I1.hok ea
 refine⟨"dict","dict.values",fS,PySem.F.slot_dict_values,PySem.F.type_dict_values,dd.typeIs,?_,dr rfl (PySem.evalArgs_none ?_)⟩
 ·exact(uo I1 (.inl ⟨kvs,.inl ea⟩)).2.1
 refine gU PySem.F.slot_dict_values dd.typeIs PySem.F.entry_dict_values (PySem.F.args_dict_values_1 _) (meets_dict_values (jR X.prog X.w) a hd) ⟨⟨vs,dd⟩,?_⟩
 show wpAny _ _ (spliced []) _ _ _
 refine ak ?_
 obtain⟨ep,dat⟩:=dd.dictAt
 have hlv:kvs.length=vs.length:=aP rel
 refine PySem.W.kdl_call (PySem.W.kdl_values (prog:=X.prog) (w:=X.w) (knd:=jR X.prog X.w) (r:=s1.heap.objs.size) (d:=a) (kvs:=vs) (ep:=ep)) (I.ok.hd hc) ⟨⟨_,aF _ rfl,rfl,rfl⟩,dat.push _⟩ (by lia) fun h' tk acc' c' hk hD hacc=>?_
 have hav:acc'.toList=vs.map (·.2):=by
  refine eL fun j=>?_
  rw[aA,cO]
  cases e:acc'[j]? with
  |some v=>
   obtain⟨k,hk⟩:=hacc.2 j v e
   rw[hk];rfl
  |none=>
   have:acc'.size<=j:=by simpa using e
   rw [bD (by rw [<- hacc.1]; exact this)]
   rfl
 refine⟨.ref _,_,I1.laid (fun b o' qq=>hk b o' (af _ qq)) ?_ (show jbf X.prog X.w _ h' _ (.lst (kvs.map (·.2)))from⟨by rw[ae];exact z,vs.map (·.2),c',yM rel,?_⟩),rfl,q1 _ ?_⟩
 ·show _<=(s1.heap.push _).objs.size
  rw[eS]
  exact c5 _
 ·rw [<- hav,Array.toArray_toList]
  exact hD
 ·refine I1.hok.fresh ?_
  show _<=(s1.heap.push _).objs.size
  rw[eS]
  exact c5 _
section
variable{prog:Program}{w:World}{A:Around}{R:Result->Shared->Prop}{I:Addr}{fp wr:List Addr}{n:Nat}{P:Nat->Value->Prop}{St:Nat->Heap->Prop}
def jk4(val:Nat->Int)(n:Nat)(m:Int):Prop:=(∃i,i<n/\m=val i)/\∀i,i<n->m<=val i
theorem jk4.up{val:Nat->Int}{j:Nat}{m:Int}(h:jk4 val j m)(hb:val j<m):jk4 val (j+1) (val j):=
 ⟨⟨j,fU _,rfl⟩,fun i hi=>by
  rcases c6.mp hi with z|z
  ·have:=h.2 i z;lia
  ·rw[z];exact bE _⟩
theorem jk4.keep{val:Nat->Int}{j:Nat}{m:Int}(h:jk4 val j m)(hb:¬val j<m):jk4 val (j+1) m:=
 ⟨let⟨i,hi,e⟩:=h.1;⟨i,cD hi,e⟩,fun i hi=>by
  rcases c6.mp hi with z|z
  ·exact h.2 i z
  ·rw[z];lia⟩
theorem lE:(toString "min"++toString ".loop":String)="min.loop":=by decide
theorem vJ(W:Walks prog w A.in1 I fp wr n P St)(val:Nat->Int)(hval:∀i v,P i v->∃t:Tok,v=Value.int (val i) t)(kw:List (Str×Value))(S:Addr)(hSf:S∉fp):
  ∀(k j:Nat) (s:Shared) (m:Int) (t:Tok) (c:Nat),n-j=k->j<=n->St j s.heap->jk4 val j m->
  s.heap.get? S=some {cls:=.type "list",dict:=none,data:=.seq #[.int m t,.int m t] c,slots:=#[]}->
  (∀m' t' h' tk,jk4 val n m'->(∀b o,b∉wr->b≠S->s.heap.get? b=some o->h'.get? b=some o)->R (.ok (.ret (.int m' t'))) {s with heap:=h',toks:=tk})->
  codeAny (model prog w) A (.builtin "min.loop" ⟨[.ref I,.none,.ref S],kw⟩) R s:=by
 have hSw:S∉wr:=fun z=>hSf (W.sub _ z)
 intro k
 induction k with
 |zero=>
  intro j s m t c hk hj hst hb hS hR
  have hin:j=n:=by lia
  subst hin
  refine cx cB ?_
  rw[bO aY _]
  show wpAny _ A.in1 (seqItems? (.ref S)>>=_) _ _ s
  refine aa (bJ hS rfl ?_)
  show wpAny _ A.in1 (tryCatch (pyNext (.ref I)) _>>=_) _ _ s
  refine aa (cE (W.done s _ _ hst fun h' tk kp=>?_))
  have hS':=kp S _ hSw hS
  show wpAny _ A.in1 (updateSeq S (fun _=>#[])>>=_) _ _ _
  refine aa ?_
  refine cY hS' rfl (aa (cZ (ak ?_)))
  exact hR m t _ tk hb fun b o hbw hbS e=>(bf _ _ (cG hbS)).trans (kp b o hbw e)
 | succ k ih=>
  intro j s m t c hk hj hst hb hS hR
  have hlt:j<n:=by lia
  refine cx cB ?_
  rw[bO aY _]
  show wpAny _ A.in1 (seqItems? (.ref S)>>=_) _ _ s
  refine aa (bJ hS rfl ?_)
  show wpAny _ A.in1 (tryCatch (pyNext (.ref I)) _>>=_) _ _ s
  refine aa (cE (W.item j s _ _ hlt hst fun v h' tk hP hst' kp=>?_))
  obtain⟨t',rfl⟩:=hval j v hP
  have hS':=kp S _ hSw hS
  show wpAny _ A.in1 (tryCatch (holding [.int (val j) t',.int (val j) t'] (richCompare .Lt (.int (val j) t') (.int m t)>>=_)) _>>=_) _ _ _
  refine aa (cE (cg (aa (lt_int ?_))))
  refine aa (cg (cJ ?_))
  refine aa (cZ (ak ?_))
  by_cases hc:val j<m
  ·rw[az (show val j<m from hc)]
   simp only[if_true]
   refine aa ?_
   refine cY hS' rfl (aa (cZ ?_))
   rw[lE]
   refine ak ⟨cy aY _,ih (j+1) _ (val j) t' _ (by lia) hlt (W.frame _ _ _ hst' fun b hbf o e=>?_) (hb.up hc) (bS _ hS' rfl) fun m' u h'' tk'' hB k''=>?_⟩
   ·exact(bf _ _ (fun z:S=b=>hSf (by rw[z];exact hbf))).trans e
   ·exact hR m' u h'' tk'' hB fun b o hbw hbS e=>k'' b o hbw hbS ((bf _ _ (cG hbS)).trans (kp b o hbw e))
  ·rw[aC (show ¬val j<m from hc)]
   simp only[aK,if_false]
   refine aa (cZ ?_)
   rw[lE]
   refine ak ⟨cy aY _,ih (j+1) _ m t c (by lia) hlt hst' (hb.keep hc) hS' fun m' u h'' tk'' hB k''=>?_⟩
   exact hR m' u h'' tk'' hB fun b o hbw hbS e=>k'' b o hbw hbS (kp b o hbw e)
end
section
variable{X:Cx}
theorem IM(a d:Value):argsOk "min" ⟨[a],[(Str.ofString "default",d)]⟩:=by unfold argsOk;kernel_rfl
def CT:List V->List V->Hp->VK->Prop:=fun vs zs H Q=>∃(p:Addr) (ns:List Int) (d:Int),vs=[.ref p]/\zs=[.int d]/\H p=some (.lst (ns.map V.int))/\
 ∀m,(ns=[]->m=d)->(ns≠[]->m∈ns)->(∀x∈ns,m<=x)->Q (.int m) H
theorem FY(hc:X.calm=true):∀(pins:List (Addr×Obj)) (s:Shared) (σ:St) (H:Hp) (xs zs:List V) (us ws:List Value) (Q:VK),Inv X pins σ H s->Vals xs us->Vals zs ws->CT xs zs H Q->
  wpAny (model X.prog X.w) X.A (call (.builtin "min") us ([Str.ofString "default"].zip ws)) (EP X pins σ Q) X.xe s:=by
 intro pins s σ H xs zs us ws Q I r rz h
 obtain⟨p,ns,d,rfl,rfl,e,q⟩:=h
 obtain⟨u,rfl,rx⟩:=kZ r
 cases rx
 obtain⟨dv,rfl,td,rfl⟩:=kZ rz
 obtain⟨z,its,c,r',hlen,e'⟩:=I.lstM e
 have hI:=my r'
 have plt:p<s.heap.objs.size:=aE e'
 have hL:s.heap.IsList p its.toArray:=⟨_,e',rfl,_,rfl⟩
 refine kmk_tree fT fG fH (IM _ _) ?_
 show wpAny _ X.A.in1 (Builtin.Builtins.bindParams "min" ["key","default"] 0 ⟨[],[(Str.ofString "default",.int d td)]⟩>>=_) _ _ s
 refine aa (fD (show Builtin.Builtins.bindParams "min" ["key","default"] 0 ⟨[],[(Str.ofString "default",.int d td)]⟩=pure [none,some (.int d td)]from rfl) ?_)
 refine aa (ak ?_)
 refine aa (dw hL ?_)
 refine aa (dO ?_ (bI _))
 rw[lE]
 have hS:(s.heap.push {cls:=.type "list_iterator",data:=.fields #[.ref p,.int 0 0]}).objs.size=s.heap.objs.size+1:=eS ..
 have W:=Walks.list (prog:=X.prog) (w:=X.w) (A:=X.A.in1) (show X.A.in1.handled=none from I.ok.hd hc) s.heap.objs.size p (aU plt) its.toArray
 have hsz:its.toArray.size = ns.length:=by rw [aj,<- hlen,ae]
 have hval:∀(i:Nat) (v:Value),its.toArray[i]? =some v->∃t:Tok,v=Value.int (ns[i]?.getD 0) t:=fun i v hv=>by
  have hv':its[i]? =some v:=by simpa using hv
  have hi:i<ns.length:=by
   have:=(ag.mp hv').1
   rw[ae]at hlen
   lia
  obtain⟨u,e1,t,e2⟩:=r'.get (i:=i) (x:=.int ns[i]) (by rw[aA,gE hi];rfl)
  rw[hv']at e1
  cases e1
  exact⟨t,by rw[e2,gE hi];rfl⟩
 have kp0:∀(h':Heap) (tk:Nat),(∀b o,b∉[s.heap.objs.size]->b≠(s.heap.push {cls:=.type "list_iterator",data:=.fields #[.ref p,.int 0 0]}).objs.size->((s.heap.push {cls:=.type "list_iterator",data:=.fields #[.ref p,.int 0 0]}).push {cls:=.type "list",data:=.seq #[]}).get? b=some o->h'.get? b=some o)->
   Inv X pins σ H {s with heap:=h',toks:=tk}:=fun h' tk k=>I.kept fun b o qq=>k b o (by
    intro z
    have:b=s.heap.objs.size:=by simpa using z
    exact absurd (aE qq) (by rw[this];exact cw _)) (by rw[hS];exact aU (cD (aE qq))) (af _ (af _ qq))
 have hst0:(fun i (h:Heap)=>h.IsListIter s.heap.objs.size p i/\h.IsList p its.toArray) 0 ((s.heap.push {cls:=.type "list_iterator",data:=.fields #[.ref p,.int 0 0]}).push {cls:=.type "list",data:=.seq #[]}):=
  ⟨⟨_,af _ (aF _ rfl),rfl,rfl⟩,(hL.push _).push _⟩
 have hSg:((s.heap.push {cls:=.type "list_iterator",data:=.fields #[.ref p,.int 0 0]}).push {cls:=.type "list",data:=.seq #[]}).get? (s.heap.push {cls:=.type "list_iterator",data:=.fields #[.ref p,.int 0 0]}).objs.size=some {cls:=.type "list",dict:=none,data:=.seq #[] 0,slots:=#[]}:=aF _ rfl
 have hSf:(s.heap.push {cls:=.type "list_iterator",data:=.fields #[.ref p,.int 0 0]}).objs.size∉[s.heap.objs.size,p]:=by
  rw[hS]
  intro z
  rcases aR.mp z with z|z
  ·exact absurd z (eV _)
  ·have z:=aG.mp z
   rw [<- z] at plt
   exact cw _ (aD plt)
 refine ak ⟨cy aY _,?_⟩
 refine cx cB ?_
 rw[bO aY _]
 show wpAny _ X.A.in1 (seqItems? (.ref _)>>=_) _ _ _
 refine aa (bJ hSg rfl ?_)
 show wpAny _ X.A.in1 (tryCatch (pyNext (.ref s.heap.objs.size)) _>>=_) _ _ _
 cases hn:ns with
 |nil=>
  have h0:its.toArray.size=0:=by rw[hsz,hn];rfl
  refine aa (cE (W.done _ _ _ (by rw[h0];exact hst0) fun h' tk kp=>?_))
  refine aa (eQ (ak ?_))
  exact⟨.int d,H,kp0 h' tk fun b o h1 _ h3=>kp b o h1 h3,⟨td,rfl⟩,q d (fun _=>rfl) (fun z=>absurd hn z) (by rw[hn];intro x hx;cases hx)⟩
 | cons n0 rest=>
  have hpos:0<its.toArray.size:=by rw[hsz,hn];simp
  refine aa (cE (W.item 0 _ _ _ hpos hst0 fun v h' tk hP hst' kp=>?_))
  obtain⟨t',rfl⟩:=hval 0 v hP
  have hS':=kp _ _ (fun z=>hSf (aR.mpr (.inl (aG.mp z)))) hSg
  show wpAny _ X.A.in1 (updateSeq _ (fun _=>#[_,_])>>=_) _ _ _
  refine aa ?_
  refine cY hS' rfl ?_
  rw[lE]
  refine ak ⟨cy aY _,vJ W (fun i=>ns[i]?.getD 0) hval _ _ hSf _ 1 _ _ t' _ rfl hpos (W.frame _ _ _ hst' fun b hbf o e=>?_) ⟨⟨0,Nat.one_pos,rfl⟩,fun i hi=>by
   have:i=0:=by lia
   subst this;exact bE _⟩ (bS _ hS' rfl) fun m u h'' tk'' hB k''=>?_⟩
  ·exact(bf _ _ (fun z=>hSf (by rw[z];exact hbf))).trans e
  ·refine⟨.int m,H,kp0 h'' tk'' fun b o h1 h2 h3=>k'' b o h1 h2 ((bf _ _ (cG h2)).trans (kp b o h1 h3)),⟨u,rfl⟩,q m (fun z=>by rw[hn]at z;cases z) (fun _=>?_) fun x hx=>?_⟩
   ·obtain⟨i,hi,e1⟩:=hB.1
    rw[hsz]at hi
    rw[e1]
    show ns[i]?.getD 0∈ns
    rw[gE hi]
    exact df hi
   ·obtain⟨i,hi,e1⟩:=aS.mp hx
    have:m<=ns[i]?.getD 0:=hB.2 i (by rw[hsz];exact hi)
    rw[gE hi]at this
    rw [<- e1]
    exact this
end
section
variable{X:Cx}
theorem Bm(a:Value):argsOk "min" ⟨[a],[]⟩:=by unfold argsOk;kernel_rfl
def CS:List V->Hp->VK->Prop:=fun vs H Q=>∃(p:Addr) (ns:List Int),vs=[.ref p]/\H p=some (.lst (ns.map V.int))/\ns≠[]/\
 ∀m,m∈ns->(∀x∈ns,m<=x)->Q (.int m) H
theorem FZ(hc:X.calm=true):jbs X (.builtin "min") CS:=by
 intro pins s σ H xs us Q I r h
 obtain⟨p,ns,rfl,e,hne,q⟩:=h
 obtain⟨u,rfl,rx⟩:=kZ r
 cases rx
 obtain⟨z,its,c,r',hlen,e'⟩:=I.lstM e
 have hI:=my r'
 have plt:p<s.heap.objs.size:=aE e'
 have hL:s.heap.IsList p its.toArray:=⟨_,e',rfl,_,rfl⟩
 refine gM fT fG fH (Bm _) ?_
 show wpAny _ X.A.in1 (Builtin.Builtins.bindParams "min" ["key","default"] 0 ⟨[],[]⟩>>=_) _ _ s
 refine aa (fD (show Builtin.Builtins.bindParams "min" ["key","default"] 0 ⟨[],[]⟩=pure [none,none]from rfl) ?_)
 refine aa (ak ?_)
 refine aa (dw hL ?_)
 refine aa (dO ?_ (bI _))
 rw[lE]
 have hS:(s.heap.push {cls:=.type "list_iterator",data:=.fields #[.ref p,.int 0 0]}).objs.size=s.heap.objs.size+1:=eS ..
 have W:=Walks.list (prog:=X.prog) (w:=X.w) (A:=X.A.in1) (show X.A.in1.handled=none from I.ok.hd hc) s.heap.objs.size p (aU plt) its.toArray
 have hsz:its.toArray.size = ns.length:=by rw [aj,<- hlen,ae]
 have hval:∀(i:Nat) (v:Value),its.toArray[i]? =some v->∃t:Tok,v=Value.int (ns[i]?.getD 0) t:=fun i v hv=>by
  have hv':its[i]? =some v:=by simpa using hv
  have hi:i<ns.length:=by
   have:=(ag.mp hv').1
   rw[ae]at hlen
   lia
  obtain⟨u,e1,t,e2⟩:=r'.get (i:=i) (x:=.int ns[i]) (by rw[aA,gE hi];rfl)
  rw[hv']at e1
  cases e1
  exact⟨t,by rw[e2,gE hi];rfl⟩
 have kp0:∀(h':Heap) (tk:Nat),(∀b o,b∉[s.heap.objs.size]->b≠(s.heap.push {cls:=.type "list_iterator",data:=.fields #[.ref p,.int 0 0]}).objs.size->((s.heap.push {cls:=.type "list_iterator",data:=.fields #[.ref p,.int 0 0]}).push {cls:=.type "list",data:=.seq #[]}).get? b=some o->h'.get? b=some o)->
   Inv X pins σ H {s with heap:=h',toks:=tk}:=fun h' tk k=>I.kept fun b o qq=>k b o (by
    intro z
    have:b=s.heap.objs.size:=by simpa using z
    exact absurd (aE qq) (by rw[this];exact cw _)) (by rw[hS];exact aU (cD (aE qq))) (af _ (af _ qq))
 have hst0:(fun i (h:Heap)=>h.IsListIter s.heap.objs.size p i/\h.IsList p its.toArray) 0 ((s.heap.push {cls:=.type "list_iterator",data:=.fields #[.ref p,.int 0 0]}).push {cls:=.type "list",data:=.seq #[]}):=
  ⟨⟨_,af _ (aF _ rfl),rfl,rfl⟩,(hL.push _).push _⟩
 have hSg:((s.heap.push {cls:=.type "list_iterator",data:=.fields #[.ref p,.int 0 0]}).push {cls:=.type "list",data:=.seq #[]}).get? (s.heap.push {cls:=.type "list_iterator",data:=.fields #[.ref p,.int 0 0]}).objs.size=some {cls:=.type "list",dict:=none,data:=.seq #[] 0,slots:=#[]}:=aF _ rfl
 have hSf:(s.heap.push {cls:=.type "list_iterator",data:=.fields #[.ref p,.int 0 0]}).objs.size∉[s.heap.objs.size,p]:=by
  rw[hS]
  intro z
  rcases aR.mp z with z|z
  ·exact absurd z (eV _)
  ·have z:=aG.mp z
   rw [<- z] at plt
   exact cw _ (aD plt)
 refine ak ⟨cy aY _,?_⟩
 refine cx cB ?_
 rw[bO aY _]
 show wpAny _ X.A.in1 (seqItems? (.ref _)>>=_) _ _ _
 refine aa (bJ hSg rfl ?_)
 show wpAny _ X.A.in1 (tryCatch (pyNext (.ref s.heap.objs.size)) _>>=_) _ _ _
 cases hn:ns with
 |nil=>exact absurd hn hne
 | cons n0 rest=>
  have hpos:0<its.toArray.size:=by rw[hsz,hn];simp
  refine aa (cE (W.item 0 _ _ _ hpos hst0 fun v h' tk hP hst' kp=>?_))
  obtain⟨t',rfl⟩:=hval 0 v hP
  have hS':=kp _ _ (fun z=>hSf (aR.mpr (.inl (aG.mp z)))) hSg
  show wpAny _ X.A.in1 (updateSeq _ (fun _=>#[_,_])>>=_) _ _ _
  refine aa ?_
  refine cY hS' rfl ?_
  rw[lE]
  refine ak ⟨cy aY _,vJ W (fun i=>ns[i]?.getD 0) hval _ _ hSf _ 1 _ _ t' _ rfl hpos (W.frame _ _ _ hst' fun b hbf o e=>?_) ⟨⟨0,Nat.one_pos,rfl⟩,fun i hi=>by
   have:i=0:=by lia
   subst this;exact bE _⟩ (bS _ hS' rfl) fun m u h'' tk'' hB k''=>?_⟩
  ·exact(bf _ _ (fun z=>hSf (by rw[z];exact hbf))).trans e
  ·refine⟨.int m,H,kp0 h'' tk'' fun b o h1 h2 h3=>k'' b o h1 h2 ((bf _ _ (cG h2)).trans (kp b o h1 h3)),⟨u,rfl⟩,q m ?_ fun x hx=>?_⟩
   ·obtain⟨i,hi,e1⟩:=hB.1
    rw[hsz]at hi
    rw[e1]
    show ns[i]?.getD 0∈ns
    rw[gE hi]
    exact df hi
   ·obtain⟨i,hi,e1⟩:=aS.mp hx
    have:m<=ns[i]?.getD 0:=hB.2 i (by rw[hsz];exact hi)
    rw[gE hi]at this
    rw [<- e1]
    exact this
end
end L2
namespace My
open PySem L2
section
variable{P:Program}{w:World}{K:PySem.W.Frag}{mg:Str->Option Value}{base:Heap}{c1 c2 c3 c4:Tok}{C_Net C_NoWeb fq7:Addr}{dI:FuncData}
def Eb:Stmt->List Stmt
 | .ClassDef _ _ _ b _ _ _ _ _ _ _=>b
 |_=>[]
def jo(i j:Nat):Stmt:=(Eb (iI i)).getD j (.Pass ⟨0,0,0,0⟩)
structure MthAt(K:PySem.W.Frag)(C:Addr)(x qual:Str)(st:Stmt)(ps:List Str)(f:Addr)(fd:FuncData):Prop where
 F:Fun K x qual st f fd
 b:jel K fd ps []
 m:Meth K C x f
structure NetC(K:PySem.W.Frag)(mg:Str->Option Value)(C:Addr):Prop where
 cl:Cls K C
 n_ways_from:jdt K C "ways_from"
 n_heads:jdt K C "heads"
 n_rooms:jdt K C "rooms"
 m:mg "Net"=some (.ref C)
def jZ(C dx W Hd R:Addr):HO:=.ins C dx [("ways_from",.ref W),("heads",.ref Hd),("rooms",.ref R)]
section
variable{C dx W Hd R:Addr}
theorem tO:me C (some (jZ C dx W Hd R)) "ways_from"=some (.ref W):=by unfold me jZ;dsimp only;rw[if_pos rfl];rfl
theorem pH:me C (some (jZ C dx W Hd R)) "heads"=some (.ref Hd):=by unfold me jZ;dsimp only;rw[if_pos rfl];rfl
theorem nu:me C (some (jZ C dx W Hd R)) "rooms"=some (.ref R):=by unfold me jZ;dsimp only;rw[if_pos rfl];rfl
theorem mN{m:Str}(h:(m==("ways_from":Str))=false)(h2:(m==("heads":Str))=false)(h3:(m==("rooms":Str))=false):lq C (some (jZ C dx W Hd R)) m=true:=by
 unfold lq jZ
 simp only[c0,Bool.true_and,List.lookup_cons,h,h2,h3,List.lookup_nil,Option.isNone_none]
theorem Bt:lq C (some (jZ C dx W Hd R)) "put_way"=true:=mN rfl rfl rfl
theorem A7:lq C (some (jZ C dx W Hd R)) "spread"=true:=mN rfl rfl rfl
theorem By:lq C (some (jZ C dx W Hd R)) "shortest"=true:=mN rfl rfl rfl
theorem Fw:lq C (some (jZ C dx W Hd R)) "push"=true:=mN rfl rfl rfl
theorem Fv:lq C (some (jZ C dx W Hd R)) "fill"=true:=mN rfl rfl rfl
theorem Gj:lq C (some (jZ C dx W Hd R)) "flows"=true:=mN rfl rfl rfl
theorem Hx:lq C (some (jZ C dx W Hd R)) "reached_from"=true:=mN rfl rfl rfl
end
def nv(ws:List Nat):List V:=ws.map fun w:Nat=>V.int (w:Int)
def NtS(C:Addr)(H:Hp)(p R:Addr)(wf:Int->List Nat)(hs:List Int)(n:Nat):Prop:=∃(dx W Hd:Addr) (ls:List Addr),H p=some (jZ C dx W Hd R)/\H W=some (.lst (ls.map V.ref))/\ls.length=n/\(∀(i:Nat) (a:Addr),ls[i]? =some a->H a=some (.lst (nv (wf (i:Int))))/\a≠R)/\H Hd=some (.lst (hs.map V.int))/\W≠R/\Hd≠R/\p≠R
theorem NtS.but{C:Addr}{H H':Hp}{p R:Addr}{wf:Int->List Nat}{hs:List Int}{n:Nat}(h:NtS C H p R wf hs n)(s:But R H H'):NtS C H' p R wf hs n:=by
 obtain⟨dx,W,Hd,ls,e1,e2,e3,e4,e5,n1,n2,n3⟩:=h
 exact⟨dx,W,Hd,ls,s _ _ n3 e1,s _ _ n1 e2,e3,fun i a ha=>⟨s _ _ (e4 i a ha).2 (e4 i a ha).1,(e4 i a ha).2⟩,s _ _ n2 e5,n1,n2,n3⟩
theorem NtS.same{C:Addr}{H H':Hp}{p R:Addr}{wf:Int->List Nat}{hs:List Int}{n:Nat}(h:NtS C H p R wf hs n)(s:Same H H'):NtS C H' p R wf hs n:=h.but fun b o _ q=>s b o q
theorem mQ{l:List Int}{w:Nat}(h:w<l.length):je (l.map V.int) (w:Int)=some (.int (Fl.at' l w)):=by
 refine k4 ?_
 rw[aA,gE h]
 unfold Fl.at'
 rw[aI,gE h]
 rfl
theorem ub{l:List Addr}{i:Nat}{a:Addr}(h:l[i]? =some a):je (l.map V.ref) (i:Int)=some (.ref a):=by
 refine k4 ?_
 rw[aA,h]
 rfl
def oV:Option Nat->V
 |none=>.non
 |some w=>.int (w:Int)
def kx(cb:Fl.Cb):List (iE×V):=cb.map fun p=>(Sum.inl p.1,oV p.2)
theorem uW:∀(cb:Fl.Cb) (v:Int),(jb (kx cb) (Sum.inl v:iE)).isSome=Fl.seen cb v
 |[],v=>rfl
 | p::r,v=>by
  have ih:=uW r v
  unfold kx jb Fl.seen at ih ⊢
  rw[aq,List.find?_cons]
  by_cases c:p.1=v
  ·dsimp only
   rw[az (show(Sum.inl p.1:iE)=Sum.inl v from bY Sum.inl c)]
   dsimp only
   rw[az (by rw[aq,c];exact aJ)]
   rfl
  ·dsimp only
   rw[aC (fun z:(Sum.inl p.1:iE)=Sum.inl v=>c (cI z))]
   dsimp only
   rw[ih,aq]
   congr 1
   simp only[aR,eq_iff_iff]
   exact⟨fun z=>.inr z,fun z=>z.resolve_left fun e=>c e.symm⟩
theorem uc:∀(cb:Fl.Cb) (v:Int),(jb (kx cb) (Sum.inl v:iE)).getD .non=oV (Fl.lk cb v)
 |[],v=>rfl
 | p::r,v=>by
  have ih:=uc r v
  unfold kx jb Fl.lk at ih ⊢
  rw[aq,List.find?_cons,List.find?_cons]
  by_cases c:p.1=v
  ·dsimp only
   rw[az (show(Sum.inl p.1:iE)=Sum.inl v from bY Sum.inl c),az c]
   rfl
  ·dsimp only
   rw[aC (fun z:(Sum.inl p.1:iE)=Sum.inl v=>c (cI z)),aC c]
   dsimp only
   exact ih
theorem D9{cb:Fl.Cb}{v:Int}{w:Nat}(h:Fl.seen cb v=false):jC (kx cb) (Sum.inl v:iE) (.int (w:Int))=kx (cb++[(v,some w)]):=by
 rw[vc]
 ·unfold kx
  rw[ah]
  rfl
 ·rw [<- uW] at h
  cases e:jb (kx cb) (Sum.inl v:iE)with
  |none=>rfl
  |some x=>rw[e]at h;cases h
theorem vD(hs r:List Int):∀(a b:List Nat) (cb:Fl.Cb),Fl.jP hs r cb (a++b)=Fl.jP hs r (Fl.jP hs r cb a) b
 |[],b,cb=>rfl
 |w::a,b,cb=>by
  rw[List.cons_append,Fl.jP,Fl.jP]
  exact vD hs r a b _
theorem FS(hs r:List Int)(ws:List Nat)(i:Nat)(cb:Fl.Cb):(Fl.jP hs r cb (ws.take i)).length<=(Fl.jP hs r cb ws).length:=by
 have e:Fl.jP hs r cb ws = Fl.jP hs r (Fl.jP hs r cb (ws.take i)) (ws.drop i):=by rw [<- vD,gu]
 obtain⟨l,e2⟩:=Fl.nY (hs:=hs) (r:=r) (ws.drop i) (Fl.jP hs r cb (ws.take i))
 rw[e,e2,aH]
 lia
structure Nt(C:Addr)(H:Hp)(p R:Addr)(wf:Int->List Nat)(hs:List Int)(m n:Nat)(r:List Int):Prop where
 st:NtS C H p R wf hs n
 eR:H R=some (.lst (r.map V.int))
 net:Fl.Net wf hs m n
 len:r.length=2*m
 big:2*m<=1000
 n200:n<=200
theorem Nt.same{C:Addr}{H H':Hp}{p R:Addr}{wf:Int->List Nat}{hs:List Int}{m n:Nat}{r:List Int}(h:Nt C H p R wf hs m n r)(s:Same H H'):Nt C H' p R wf hs m n r:=⟨h.st.same s,s _ _ h.eR,h.net,h.len,h.big,h.n200⟩
def vh(C:Addr):Sp:=fun vs H Q _=>∃p s R wf hs m n r,vs=[.ref p,.int s]/\Nt C H p R wf hs m n r/\0<=s/\s<(n:Int)/\∀d H',H d=none->Same H H'->H' d=some (.dK (kx (Fl.jJ wf hs n s r)))->Q (.ref d) H'
def mM(cb:Fl.Cb):List V:=cb.map fun p=>V.int p.1
theorem Gp(B:Blt mg)(D:MthAt K C_Net "spread" "Net.spread" (jo 9 4) ["self","source"] f fd)(T:NetC K mg C_Net):FnOk P w K mg base iQ 1 f fd ["self","source"] (vh C_Net):=by
 have sc:FnScope ["self","source","came_by","line","done","knot","way","head"] ["self","source"] (ja (jo 9 4)):=by walk_at "SC"
 refine D.F.ok sc (fun vs H Q E h=>?_) (fun cdv A outer s H vs Q E hr h=>?_)
 ·obtain⟨p,s,R,wf,hs,m,n,r,rfl,_⟩:=h
  rfl
 obtain⟨p,s,R,wf,hs,m,n,r,rfl,N,s0,s1,h⟩:=h
 have hu:=jl hr
 have hu0:_<PySem.cLine:=aD hu
 refine⟨_,(iH (iR (i:=2) sc.nd rfl (Or.inl rfl) (FB (qv 1) lK)) (iH (iR (i:=3) sc.nd rfl (Or.inl rfl) (jE (iC (qv 1) iD))) (iH (iR (i:=4) sc.nd rfl (Or.inl rfl) iG) (iH (qd bo (jF ng (qv 4) (jh kY rfl B.len bP (iC (qv 3) iD)) (jr _)) (iH (iR (i:=5) sc.nd rfl (Or.inl rfl) (iO iP (qv 3) (qv 4) (fun _ _=>rfl))) (iH (j4 bo rfl (ka (iO iP (kQ T.cl T.n_ways_from (qv 0) rfl) (qv 5) (fun _ _=>rfl))) (i3 (i:=6) sc.nd rfl (Or.inl rfl)) (iH (iR (i:=7) sc.nd rfl (Or.inl rfl) (iO iP (kQ T.cl T.n_heads (qv 0) rfl) (qv 6) (fun _ _=>rfl))) (iN (jK (PW.pt (x6 (jF oa (iO iP (kQ T.cl T.n_rooms (qv 0) rfl) (qv 6) (fun _ _=>rfl)) iG (jr _)) (yX (mj (qe hu (qv 7) (qv 2)))))) (iH (nH hu (qv 2) (qv 7) (qv 6)) (iN (j0 (ko aZ br bq kH (qv 3) (iC (qv 7) iD))))) jL)))) (iN (rg (i:=4) sc.nd rfl (Or.inl rfl) iG rf))))) (iN (jg (qv 2))))))),?_⟩
 have N0:=N
 obtain⟨⟨dx,W,Hd,ls,e1,e2,e3,e4,e5,n1,n2,n3⟩,eR,net,hlen,hbig,hn⟩:=N
 refine iS fun R' hR=>?_
 walk_at "D"
 intro d hd
 have q1:=iL hd (.dK [(Sum.inl s,.non)])
 have ed:upd H d (.dK [(Sum.inl s,.non)]) d=some (.dK [(Sum.inl s,.non)]):=iF
 generalize upd H d (.dK [(Sum.inl s,.non)])=H1 at q1 ed
 subst hR
 refine iS fun R' hR=>?_
 walk_at "D"
 intro l hl
 have q2:=q1.trans (iL hl (.lst [.int s]))
 have ed2:=iL hl (.lst [.int s]) _ _ ed
 have el:upd H1 l (.lst [.int s]) l=some (.lst [.int s]):=iF
 have ld:l≠d:=(iU ed hl).symm
 have hlH:H l=none:=q1.free hl
 generalize upd H1 l (.lst [.int s])=H2 at q2 ed2 el
 subst hR
 refine iS fun R' hR=>?_
 walk_at "D"
 subst hR
 refine iS fun R' hR=>?_
 refine rX (fun σ Hc=>∃(k:Nat) (v5 v6 v7:Option V),σ=[some (.ref p),some (.int s),some (.ref d),some (.ref l),some (.int (k:Int)),v5,v6,v7]/\Same H Hc/\Hc d=some (.dK (kx (Fl.jf wf hs r s k)))/\Hc l=some (.lst (mM (Fl.jf wf hs r s k)))/\k<=(Fl.jf wf hs r s k).length) (fun σ _=>match σ with |[_,_,_,_,some (.int k),_,_,_]=>n-k.toNat|_=>0) ⟨0,none,none,none,rfl,q2,ed2,el,bI _⟩ ?_ ?_
 ·rintro σ Hc ⟨k,v5,v6,v7,rfl,s3,ed3,el3,hk⟩
  have hkl:=Fl.m9 (r:=r) net ⟨s0,s1⟩ k
  have hlk:(mM (Fl.jf wf hs r s k)).length=(Fl.jf wf hs r s k).length:=ae _
  by_cases c:k<(Fl.jf wf hs r s k).length
  ·have hdt:decide ((k:Int)<((Fl.jf wf hs r s k).length:Int))=true:=az (by lia)
   have hg:(Fl.jf wf hs r s k)[k]? =some (Fl.jf wf hs r s k)[k]:=gE c
   generalize hpk:(Fl.jf wf hs r s k)[k]=pk at hg
   have hgl:je (mM (Fl.jf wf hs r s k)) (k:Int)=some (.int pk.1):=k4 (by unfold mM;rw[aA,hg];rfl)
   simp_arith[iW,el3,hlk,hdt,hgl]
   have hkn:=Fl.xK (r:=r) net ⟨s0,s1⟩ k pk.1 (aB.mpr ⟨_,ao hg,rfl⟩)
   have hi:pk.1.toNat<ls.length:=by lia
   have hla:ls[pk.1.toNat]? =some ls[pk.1.toNat]:=gE hi
   generalize ls[pk.1.toNat]=wa at hla
   have ewa:=(e4 _ _ hla).1
   rw[show((pk.1.toNat:Nat):Int)=pk.1 by lia]at ewa
   have hwa:je (ls.map V.ref) pk.1=some (.ref wa):=by have:=ub hla;rw[show((pk.1.toNat:Nat):Int)=pk.1 by lia]at this;exact this
   have hnext:Fl.jf wf hs r s (k+1)=Fl.jP hs r (Fl.jf wf hs r s k) (wf pk.1):=by rw[Fl.jf,hg]
   have hkl2:=Fl.m9 (r:=r) net ⟨s0,s1⟩ (k+1)
   rw[hnext]at hkl2
   generalize hcb:Fl.jf wf hs r s k=cb at*
   refine ku (jS K wa) Hc (fun R3 hR3=>?_) (k7 (K:=K) (a:=wa) (xs:=nv (wf pk.1)) (fun i σ H4=>∃v6 v7,σ=[some (.ref p),some (.int s),some (.ref d),some (.ref l),some (.int (k:Int)),some (.int pk.1),v6,v7]/\Same H H4/\H4 d=some (.dK (kx (Fl.jP hs r cb ((wf pk.1).take i))))/\H4 l=some (.lst (mM (Fl.jP hs r cb ((wf pk.1).take i))))) ⟨v6,v7,rfl,s3,ed3,el3⟩ (fun i σ H4 _ ⟨_,_,_,s4,_⟩=>SqL.of (s4 _ _ ewa)) ?_ ?_)
   ·unfold j2
    simp_arith[iW,s3 _ _ e1,tO,s3 _ _ e2,hwa]
    exact⟨wa,rfl,⟨_,SqL.of (s3 _ _ ewa)⟩,hR3⟩
   ·rintro i x σ H4 hx ⟨v6,v7,rfl,s4,ed4,el4⟩
    unfold nv at hx
    rw[aA]at hx
    obtain⟨w,hw,rfl⟩:=bN.mp hx
    have hwm:=net.from' pk.1 w (ao hw)
    have hh:je (hs.map V.int) (w:Int)=some (.int (Fl.at' hs w)):=mQ (by rw[net.len];exact hwm.1)
    have hr':je (r.map V.int) (w:Int)=some (.int (Fl.at' r w)):=mQ (by rw[hlen];exact hwm.1)
    have hv1:Fl.jP hs r cb ((wf pk.1).take (i+1))=if 0<Fl.at' r w/\Fl.seen (Fl.jP hs r cb ((wf pk.1).take i)) (Fl.at' hs w)=false then Fl.jP hs r cb ((wf pk.1).take i)++[(Fl.at' hs w,some w)]else Fl.jP hs r cb ((wf pk.1).take i):=by
     rw[jM hw,vD]
     rfl
    have hvl:=FS hs r (wf pk.1) i cb
    generalize Fl.jP hs r cb ((wf pk.1).take i)=cb1 at*
    simp_arith[iW,s4 _ _ e1,pH,nu,s4 _ _ e5,hh,s4 _ _ eR,hr',ed4,uW]
    by_cases c1:0<Fl.at' r w
    ·rw[az c1,aw rfl]
     cases c2:Fl.seen cb1 (Fl.at' hs w)with
     |true=>
      walk_at "D"
      rw[au (fun z=>by rw[c2]at z;cases z.2)]at hv1
      rw[hv1]
      exact⟨_,_,rfl,s4,(by first|rfl|exact ed4),el4⟩
     | false=>
      rw[aw ⟨c1,c2⟩]at hv1
      simp_arith[D9 c2]
      have hcl:(kx cb1).length=cb1.length:=ae _
      refine⟨jk (by lia),?_⟩
      have el5:upd H4 d (.dK (kx (cb1++[(Fl.at' hs w,some w)]))) l=some (.lst (mM cb1)):=by rw[iJ ld];exact el4
      refine⟨⟨l,_,rfl,el5⟩,?_⟩
      rw[el5]
      dsimp only
      have hcl2:(mM cb1).length=cb1.length:=ae _
      refine⟨jk (by lia),_,_,rfl,jt (jt s4 hd) hlH,?_,?_⟩
      ·rw[iJ (cG ld),iF,hv1]
      ·rw[iF,hv1]
       unfold mM
       rw[ah]
       rfl
    ·rw[aC c1,au (by decide)]
     rw[au (fun z=>c1 z.1)]at hv1
     rw[hv1]
     exact⟨_,_,rfl,s4,(by first|rfl|exact ed4),el4⟩
   ·rintro σ H4 ⟨v6,v7,rfl,s4,ed4,el4⟩
    have htl:(wf pk.1).take (nv (wf pk.1)).length=wf pk.1:=by unfold nv;rw[ae,aX]
    rw [htl,<- hnext] at ed4 el4
    walk_at "D"
    refine⟨⟨k+1,_,_,_,by rw[show((k+1:Nat):Int)=(k:Int)+1 by lia],s4,ed4,el4,?_⟩,?_⟩
    ·obtain⟨z,hz⟩:=Fl.xj (wf:=wf) (hs:=hs) (r:=r) (s:=s) k
     rw[hz,hcb,aH]
     lia
    ·lia
  ·have hdt:decide ((k:Int)<((Fl.jf wf hs r s k).length:Int))=false:=aC (by lia)
   simp_arith[iW,el3,hlk,hdt]
   subst hR
   walk_at "D"
   have hfin:Fl.jJ wf hs n s r=Fl.jf wf hs r s k:=by
    unfold Fl.jJ
    rw[show n=k+(n-k) by lia]
    exact Fl.tq (by lia) _
   exact h d Hc hd s3 (by rw[hfin];exact ed3)
 ·intro σ Hc Q1 Q2 hq hc
  unfold fB nc qD qU n4 kc at hc ⊢
  cases e:σ[4]? with
  |none=>rw[e]at hc;exact hc.elim
  | some ov=>
   rw[e]at hc
   cases ov with
   |none=>exact hc.elim
   | some u=>
    dsimp only[sy,fI,tC]at hc ⊢
    cases e3:σ[3]? with
    |none=>rw[e3]at hc;exact hc.elim
    | some ov3=>
     rw[e3]at hc
     cases ov3 with
     |none=>exact hc.elim
     | some u3=>
      dsimp only at hc ⊢
      cases u3 with
      | ref b=>
       dsimp only at hc ⊢
       cases e2:iW Hc b with
       |none=>rw[e2]at hc;exact hc.elim
       |some us=>
        rw[e2]at hc
        dsimp only at hc ⊢
        cases u with
        |int i=>exact hq _ _ hc
        |_=>exact hc.elim
      |_=>exact hc.elim
end
end My
namespace Fl
section
variable{hs r:List Int}{m:Nat}{s:Int}{cb:Cb}
theorem Ex{v:Int}{w:Nat}(h:lk cb v=some w):∃i:Nat,cb[i]? =some (v,some w):=by
 unfold lk at h
 cases e:cb.find? fun p=>decide (p.1=v)with
 |none=>rw[e]at h;cases h
 |some p=>
  rw[e]at h
  have hp:=List.mem_of_find?_eq_some e
  have hv:p.1=v:=by have:=List.find?_some e;exact bK (p:=p.1=v) this
  obtain⟨i,hi,e2⟩:=aS.mp hp
  refine⟨i,?_⟩
  rw[gE hi,e2]
  obtain⟨a,b⟩:=p
  dsimp only at hv
  have h:b=some w:=h
  rw[hv,h]
theorem Hr(C:Cam hs r m s cb):∀(i:Nat) (v:Int) (o:Option Nat),cb[i]? =some (v,o)->∀f,i<=f->jx hs cb (f+1) v=jx hs cb f v:=by
 intro i
 induction i using Nat.strongRecOn with
 | ind i ih=>
  intro v o h f hf
  have hl:=tU C.nd h
  by_cases h0:i=0
  ·subst h0
   have e:=C.first
   rw[h]at e
   have ho:o=none:=bY Prod.snd (aO e)
   rw[ho]at hl
   rw[jx,hl]
   cases f with
   |zero=>rfl
   |succ f=>rw[jx,hl]
  ·obtain⟨w,rfl,h2,h3,h4,j,u,h5,h6,h7⟩:=C.came i v o h (by lia)
   obtain⟨f',rfl⟩:∃f',f=f'+1:=⟨f-1,by lia⟩
   obtain⟨p,hp⟩:∃p,cb[j]? =some p:=by
    cases e:cb[j]? with
    |none=>rw[e]at h6;cases h6
    |some p=>exact⟨p,rfl⟩
   have hpu:p.1=u:=by rw[hp]at h6;exact aO h6
   obtain⟨p1,p2⟩:=p
   dsimp only at hpu
   subst hpu
   have e1:jx hs cb (f'+1+1) v=w::jx hs cb (f'+1) p1:=by
    rw[jx,hl];dsimp only;rw[h7]
   have e2:jx hs cb (f'+1) v=w::jx hs cb f' p1:=by
    rw[jx,hl];dsimp only;rw[h7]
   rw[e1,e2,ih j h5 p1 p2 hp f' (by lia)]
theorem Cj(C:Cam hs r m s cb){n:Nat}(hn:cb.length<=n){v:Int}{w:Nat}(h:lk cb v=some w):jx hs cb n v=w::jx hs cb n (at' hs (iV w))/\w<2*m:=by
 obtain⟨i,hi⟩:=Ex h
 have hil:=(ag.mp hi).1
 have h0:0<i:=by
  by_cases z:i=0
  ·subst z
   have e:=C.first
   rw[hi]at e
   have:=bY Prod.snd (aO e)
   cases this
  ·lia
 obtain⟨w',hw',h2,h3,h4,j,u,h5,h6,h7⟩:=C.came i v _ hi h0
 cases hw'
 obtain⟨p,hp⟩:∃p,cb[j]? =some p:=by
  cases e:cb[j]? with
  |none=>rw[e]at h6;cases h6
  |some p=>exact⟨p,rfl⟩
 have hpu:p.1=u:=by rw[hp]at h6;exact aO h6
 obtain⟨f',rfl⟩:∃f',n=f'+1:=⟨n-1,by lia⟩
 refine⟨?_,h2⟩
 rw[jx,h]
 dsimp only
 rw [h7,<- hpu,Hr C j p.1 p.2 hp f' (by lia)]
theorem Ck{v:Int}{n:Nat}(h:lk cb v=none):jx hs cb n v=[]:=by
 cases n with
 |zero=>rfl
 |succ n=>rw[jx,h]
theorem sX:∀(n:Nat) (v:Int),(jx hs cb n v).length<=n
 |0,_=>av _
 | n+1,v=>by
  rw[jx]
  split
  ·have:=sX n (at' hs (iV ‹Nat›))
   rw[List.length_cons];lia
  ·exact bI _
theorem xF(r:List Int):∀{tr:List Nat},tr≠[]->kO r tr∈tr.map (at' r)
 |[],h=>absurd rfl h
 |[w],_=>aG.mpr rfl
 |w::x::tr,_=>by
  rw[kO]
  split
  ·exact ay _ (xF r (tr:=x::tr) (by simp))
  ·exact aJ
theorem Da(r:List Int)(tr:List Nat)(w:Nat)(a:Int):push r (tr++[w]) a=bump (push r tr a) w a:=by
 unfold push
 rw[List.foldl_append]
 rfl
end
end Fl
namespace My
open PySem L2
section
variable{P:Program}{w:World}{K:PySem.W.Frag}{mg:Str->Option Value}{base:Heap}{c1 c2 c3 c4:Tok}{C_Net C_NoWeb fq7:Addr}{dI:FuncData}
def zg(C:Addr):Sp:=fun vs H Q _=>∃p s t R wf hs m n r,vs=[.ref p,.int s,.int t]/\Nt C H p R wf hs m n r/\0<=s/\s<(n:Int)/\∀l H',H l=none->Same H H'->H' l=some (.lst (nv (Fl.ki wf hs n s t r)))->Q (.ref l) H'
def yj(C:Addr):Sp:=fun vs H Q _=>∃p l R wf hs m n r tr,vs=[.ref p,.ref l]/\Nt C H p R wf hs m n r/\H l=some (.lst (nv tr))/\l≠R/\tr≠[]/\tr.length<=200/\(∀w∈tr,w<2*m)/\∀H',But R H H'->H' R=some (.lst ((Fl.push r tr (Fl.kO r tr)).map V.int))->Q (.int (Fl.kO r tr)) H'
def yg(C:Addr):Sp:=fun vs H Q _=>∃p s t R wf hs m n r cap,vs=[.ref p,.int s,.int t]/\Nt C H p R wf hs m n r/\s≠t/\0<=s/\s<(n:Int)/\Fl.Rooms m cap r/\∀x r' H',Fl.Runs wf hs n s t r r'->Fl.lA wf hs n s t r'=none->But R H H'->H' R=some (.lst (r'.map V.int))->Q (.int x) H'
theorem DE(o:Option Nat):pK (oV o)=o.isNone:=by cases o<;>rfl
theorem vn(w:Nat):PySem.Builtin.bitXor (w:Int) 1=((Fl.iV w:Nat):Int):=E6 w
def unI(xs:List V):List Int:=xs.map fun x=>match x with
 | .int i=>i
 |_=>0
theorem zr(r:List Int):unI (r.map V.int)=r:=by
 unfold unI
 rw[bG]
 exact List.map_id _
theorem yI{n w:Nat}(h:w<n):ky n (w:Int)=some w:=by
 unfold ky
 rw[aw (by lia),aw (by lia)]
 rfl
theorem Nt.but{C:Addr}{H H':Hp}{p R:Addr}{wf:Int->List Nat}{hs:List Int}{m n:Nat}{r r':List Int}(h:Nt C H p R wf hs m n r)(s:But R H H')(e:H' R=some (.lst (r'.map V.int)))(hl:r'.length=2*m):Nt C H' p R wf hs m n r':=⟨h.st.but s,e,h.net,hl,h.big,h.n200⟩
theorem Ea{cb:Fl.Cb}{v:Int}{w:Nat}(h:Fl.lk cb v=some w):jb (kx cb) (Sum.inl v:iE)=some (.int (w:Int)):=by
 have:=uc cb v
 rw[h]at this
 cases e:jb (kx cb) (Sum.inl v:iE)with
 |none=>rw[e]at this;cases this
 |some x=>rw[e]at this;exact bY some this
theorem HP(B:Blt mg)(D:MthAt K C_Net "shortest" "Net.shortest" (jo 9 3) ["self","source","sink"] f fd)(Dqi:MthAt K C_Net "spread" "Net.spread" (jo 9 4) ["self","source"] fqi dqi)(Gqi:FnOk P w K mg base iQ 1 fqi dqi ["self","source"] (vh C_Net))(T:NetC K mg C_Net):FnOk P w K mg base iQ 2 f fd ["self","source","sink"] (zg C_Net):=by
 have sc:FnScope ["self","source","sink","came_by","trail","knot"] ["self","source","sink"] (ja (jo 9 3)):=by walk_at "SC"
 refine D.F.ok sc (fun vs H Q E h=>?_) (fun cdv A outer s H vs Q E hr h=>?_)
 ·obtain⟨p,s,t,R,wf,hs,m,n,r,rfl,_⟩:=h
  rfl
 obtain⟨p,s,t,R,wf,hs,m,n,r,rfl,N,s0,s1,h⟩:=h
 have hu:=jl hr
 have hu0:_<PySem.cLine:=aD hu
 refine⟨_,(iH (iR (i:=3) sc.nd rfl (Or.inl rfl) (lZ (qv 0) T.cl Dqi.m Gqi (hr.mono (by decide)) Dqi.b .nil iX (iC (qv 1) iD))) (iH (iR (i:=4) sc.nd rfl (Or.inl rfl) (jE iD)) (iH (iR (i:=5) sc.nd rfl (Or.inl rfl) (qv 2)) (iH (qd bo (jF x9 (EO hu (qv 3) (qv 5)) lK (jr _)) (iH (j0 (ko aZ br bq kH (qv 4) (iC (kP hu (qv 3) (qv 5) (fun _ _=>rfl)) iD))) (iN (iR (i:=5) sc.nd rfl (Or.inl rfl) (iO iP (kQ T.cl T.n_heads (qv 0) rfl) (i5 tY (kP hu (qv 3) (qv 5) (fun _ _=>rfl)) iG) (fun _ _=>rfl)))))) (iN (jg (qv 4))))))),?_⟩
 have N0:=N
 obtain⟨⟨dx,W,Hd,ls,e1,e2,e3,e4,e5,n1,n2,n3⟩,eR,net,hlen,hbig,hn⟩:=N
 refine iS fun R' hR=>?_
 simp_arith[e1,A7]
 refine⟨p,s,R,wf,hs,m,n,r,rfl,N0,s0,s1,fun d H1 hd q1 ed=>?_⟩
 subst hR
 refine iS fun R' hR=>?_
 walk_at "D"
 intro l hl
 have q2:=q1.trans (iL hl (.lst []))
 have ed2:=iL hl (.lst []) _ _ ed
 have el:upd H1 l (.lst []) l=some (.lst []):=iF
 have hlH:H l=none:=q1.free hl
 have ld:l≠d:=(iU ed hl).symm
 generalize upd H1 l (.lst [])=H2 at q2 ed2 el
 subst hR
 refine iS fun R' hR=>?_
 walk_at "D"
 subst hR
 refine iS fun R' hR=>?_
 have Cm:=Fl.l8 (r:=r) (s:=s) net.from' n
 have hcl:=Fl.m9 (r:=r) net ⟨s0,s1⟩ n
 have htl:=Fl.sX (hs:=hs) (cb:=Fl.jJ wf hs n s r) n t
 have htr:Fl.ki wf hs n s t r=Fl.jx hs (Fl.jJ wf hs n s r) n t:=rfl
 rw[htr]at h
 generalize hcb:Fl.jJ wf hs n s r=cb at*
 unfold Fl.jJ at hcb
 rw[hcb]at Cm hcl
 refine rX (fun σ Hc=>∃(v:Int) (tr:List Nat),σ=[some (.ref p),some (.int s),some (.int t),some (.ref d),some (.ref l),some (.int v)]/\Same H Hc/\Hc d=some (.dK (kx cb))/\Hc l=some (.lst (nv tr))/\Fl.jx hs cb n t=tr++Fl.jx hs cb n v) (fun σ _=>match σ with |[_,_,_,_,_,some (.int v)]=>(Fl.jx hs cb n v).length|_=>0) ⟨t,[],rfl,q2,ed2,el,rfl⟩ ?_ ?_
 ·rintro σ Hc ⟨v,tr,rfl,s3,ed3,el3,htv⟩
  simp_arith[ed3,uc,DE]
  refine⟨⟨_,rfl⟩,?_⟩
  cases hlk:Fl.lk cb v with
  |none=>
   simp_arith[Option.isNone]
   subst hR
   walk_at "D"
   rw[Fl.Ck hlk,bt]at htv
   exact h l Hc hlH s3 (by rw[htv];exact el3)
  | some w=>
   obtain⟨hnx,hw⟩:=Fl.Cj Cm hcl hlk
   have hm:=Fl.nh hw
   have hh:je (hs.map V.int) ((Fl.iV w:Nat):Int)=some (.int (Fl.at' hs (Fl.iV w))):=mQ (by rw[net.len];exact hm)
   have hval:=Ea hlk
   have htl2:tr.length<=n:=by
    have:=bY List.length htv
    rw[aH]at this
    lia
   simp_arith[Option.isNone,el3,ed3,hval]
   refine⟨⟨l,_,rfl,el3⟩,?_⟩
   have hnl:(nv tr).length=tr.length:=ae _
   refine⟨jk (by lia),?_⟩
   have ed4:upd Hc l (.lst (nv tr++[.int (w:Int)])) d=some (.dK (kx cb)):=by rw[iJ (cG ld)];exact ed3
   have s4:Same H (upd Hc l (.lst (nv tr++[.int (w:Int)]))):=jt s3 hlH
   have el4:upd Hc l (.lst (nv tr++[.int (w:Int)])) l=some (.lst (nv (tr++[w]))):=by rw[iF];unfold nv;rw[ah];rfl
   generalize upd Hc l (.lst (nv tr++[.int (w:Int)]))=H4 at ed4 s4 el4
   simp_arith[iW,s4 _ _ e1,pH,s4 _ _ e5,ed4,hval,vn,hh]
   refine⟨⟨_,_,rfl,s4,el4,?_⟩,?_⟩
   ·rw[htv,hnx,bu]
    rfl
   ·rw[hnx,List.length_cons]
    lia
 ·intro σ Hc Q1 Q2 hq hc
  unfold fB nc ug kc at hc ⊢
  cases e:σ[3]? with
  |none=>rw[e]at hc;exact hc.elim
  | some ov=>
   rw[e]at hc
   cases ov with
   |none=>exact hc.elim
   | some u=>
    dsimp only at hc ⊢
    cases u with
    | ref a=>
     dsimp only at hc ⊢
     refine⟨hc.1,?_⟩
     have hc:=hc.2
     cases e3:σ[5]? with
     |none=>rw[e3]at hc;exact hc.elim
     | some ov3=>
      rw[e3]at hc
      cases ov3 with
      |none=>exact hc.elim
      | some u3=>
       dsimp only at hc ⊢
       cases u3 with
       | int i=>
        dsimp only at hc ⊢
        cases e4:Hc a with
        |none=>rw[e4]at hc;exact hc.elim
        |some ob=>
         rw[e4]at hc
         cases ob with
         |dK kvs=>dsimp only[tC,oS]at hc ⊢;exact hq _ _ hc
         |_=>exact hc.elim
       |_=>exact hc.elim
    |_=>exact hc.elim
theorem Br(r:List Int)(w:Nat)(x:Int):(r.map V.int).set w (.int x)=(r.set w x).map V.int:=by rw[List.map_set]
theorem zW{i:Nat}{σ:St}{H:Hp}{Q Q':Bool->Hp->Prop}(hq:∀b H1,Q b H1->Q' b H1)(hc:pF (kc i) σ H Q):pF (kc i) σ H Q':=by
 unfold pF kc at hc ⊢
 cases e:σ[i]? with
 |none=>rw[e]at hc;exact hc.elim
 | some ov=>
  rw[e]at hc
  cases ov with
  |none=>exact hc.elim
  | some u=>
   dsimp only at hc ⊢
   cases u with
   | ref a=>
    dsimp only at hc ⊢
    cases e4:H a with
    |none=>rw[e4]at hc;exact hc.elim
    |some ob=>
     rw[e4]at hc
     cases ob with
     |lst xs=>exact hq _ _ hc
     |_=>exact hc.elim
   |_=>exact hc.elim
theorem EB(B:Blt mg)(D:MthAt K C_Net "push" "Net.push" (jo 9 5) ["self","trail"] f fd)(T:NetC K mg C_Net):FnOk P w K mg base iQ 1 f fd ["self","trail"] (yj C_Net):=by
 have sc:FnScope ["self","trail","amount","way"] ["self","trail"] (ja (jo 9 5)):=by walk_at "SC"
 refine D.F.ok sc (fun vs H Q E h=>?_) (fun cdv A outer s H vs Q E hr h=>?_)
 ·obtain⟨p,l,R,wf,hs,m,n,r,tr,rfl,_⟩:=h
  rfl
 obtain⟨p,l,R,wf,hs,m,n,r,tr,rfl,N,el,lR,tr0,htl,hw,h⟩:=h
 have hu:=jl hr
 have hu0:_<PySem.cLine:=aD hu
 refine⟨_,(iH (iR (i:=2) sc.nd rfl (Or.inl rfl) (jh (FZ rfl) rfl B.min cN (iC (k6 (CpScope.of (N:=["way","self"]) (src:=[none,some 0]) (by rfl)) rfl (ka (qv 1)) (fun _ _ _ _=>(i3 (i:=0) (j5 (l:=["way","self"]) (by rfl)) rfl (Or.inl rfl))) (fun _ _ _ _=>mq) (fun _ _ _ _=>(iO iP (kQ T.cl T.n_rooms (qv 1) rfl) (qv 0) (fun _ _=>rfl)))) iD))) (iH (j4 bo rfl (ka (qv 1)) (i3 (i:=3) sc.nd rfl (Or.inl rfl)) (iH (yU (kQ T.cl T.n_rooms (qv 0) rfl) (qv 3) Az (qv 2) Es oy) (iN (yU (kQ T.cl T.n_rooms (qv 0) rfl) (i5 tY (qv 3) iG) Az (qv 2) Er oy)))) (iN (jg (qv 2))))),?_⟩
 have N0:=N
 obtain⟨⟨dx,W,Hd,ls,e1,e2,e3,e4,e5,n1,n2,n3⟩,eR,net,hlen,hbig,hn⟩:=N
 have hnl:(nv tr).length=tr.length:=ae _
 refine iS fun R' hR=>?_
 walk_at "D"
 refine kR (jS K l) H (fun R2 hR2=>?_) (fun z hz0=>kG tr.length (fun i σ' Hc=>∃w1,σ'=[w1,some (.ref p)]/\Same H Hc/\Hc z=some (.lst (((tr.take i).map (Fl.at' r)).map V.int))) ⟨none,rfl,iL hz0 _,iF⟩ ?_ ?_)
 ·unfold j2
  walk_at "D"
  exact⟨l,rfl,⟨_,SqL.of el⟩,hR2⟩
 ·rintro i σ' Hc hi ⟨w1,rfl,s7,ez⟩
  have x1:(nv tr)[i]? =some (.int ((tr[i]:Nat):Int)):=by unfold nv;rw[aA,gE hi];rfl
  have x2:tr[i]? =some tr[i]:=gE hi
  have hwi:=hw _ (df hi)
  generalize tr[i]=wi at x1 x2 hwi
  refine⟨⟨_,_,SqL.of (s7 _ _ el),x1⟩,?_⟩
  rintro y H' ⟨rfl,hy⟩
  have E1:=aO (x1.symm.trans (hy _ (SqL.of (s7 _ _ el))))
  subst E1
  have hr':je (r.map V.int) (wi:Int)=some (.int (Fl.at' r wi)):=mQ (by rw[hlen];exact hwi)
  simp_arith[iW,s7 _ _ e1,nu,s7 _ _ eR,hr']
  refine⟨_,ez,?_,_,rfl,jt s7 hz0,?_⟩
  ·rw[ae,ae,aW]
   exact jk (by lia)
  ·rw[iF,jM x2,ah,ah]
   rfl
 ·rintro σ' Hc ⟨w1,rfl,s7,ez⟩
  refine⟨⟨_,SqL.of (s7 _ _ el),by lia⟩,?_⟩
  rw[aX]at ez
  refine⟨z,_,rfl,ez,by simpa using tr0,fun a ha hmin=>?_⟩
  have hae:a=Fl.kO r tr:=by
   have h1:=hmin _ (Fl.xF r tr0)
   obtain⟨w,hwt,rfl⟩:=aB.mp ha
   have h2:=Fl.tE r hwt
   lia
  subst hae
  generalize Fl.kO r tr=a at*
  walk_at "D"
  subst hR
  refine iS fun R' hR=>?_
  have zR:z≠R:=(iU eR hz0).symm
  refine ku (jS K l) Hc (fun R3 hR3=>?_) (k7 (K:=K) (a:=l) (xs:=nv tr) (fun i σ H4=>∃v3,σ=[some (.ref p),some (.ref l),some (.int a),v3]/\But R H H4/\H4 R=some (.lst ((Fl.push r (tr.take i) a).map V.int))) ⟨none,rfl,fun b o _ q=>s7 b o q,s7 _ _ eR⟩ (fun i σ H4 _ ⟨_,_,s4,_⟩=>SqL.of (s4 _ _ lR el)) ?_ ?_)
  ·unfold j2
   walk_at "D"
   exact⟨l,rfl,⟨_,SqL.of (s7 _ _ el)⟩,hR3⟩
  ·rintro i x σ H4 hx ⟨v3,rfl,s4,eR4⟩
   unfold nv at hx
   rw[aA]at hx
   obtain⟨w,hwt,rfl⟩:=bN.mp hx
   have hwm:=hw w (ao hwt)
   have hmm:=Fl.nh hwm
   have hpl:(Fl.push r (tr.take i) a).length=2*m:=by rw[Fl.qI];exact hlen
   have hps:Fl.push r (tr.take (i+1)) a=Fl.bump (Fl.push r (tr.take i) a) w a:=by rw[jM hwt,Fl.Da]
   generalize Fl.push r (tr.take i) a=r1 at*
   have e14:=s4 _ _ n3 e1
   have h1:je (r1.map V.int) (w:Int)=some (.int (Fl.at' r1 w)):=mQ (by lia)
   have hx1:ky (r1.map V.int).length (w:Int)=some w:=yI (by rw[ae];lia)
   refine iS fun R5 hR5=>?_
   simp_arith[e14,nu,eR4,h1,hx1]
   refine⟨gS _,?_⟩
   rw[Br]
   have b5:But R H (upd H4 R (.lst ((r1.set w (Fl.at' r1 w-a)).map V.int))):=s4.trans (But.at R H4 _)
   have e15:=b5 _ _ n3 e1
   have eR5:upd H4 R (.lst ((r1.set w (Fl.at' r1 w-a)).map V.int)) R=some (.lst ((r1.set w (Fl.at' r1 w-a)).map V.int)):=iF
   generalize upd H4 R (.lst ((r1.set w (Fl.at' r1 w-a)).map V.int))=H5 at b5 e15 eR5
   have hl2:(r1.set w (Fl.at' r1 w-a)).length=2*m:=by rw[e9];exact hpl
   have h2:je ((r1.set w (Fl.at' r1 w-a)).map V.int) ((Fl.iV w:Nat):Int)=some (.int (Fl.at' r1 (Fl.iV w))):=by
    rw[mQ (by lia),Fl.wy,au (fun z=>Fl.tF w z.1.symm)]
   have hx2:ky ((r1.set w (Fl.at' r1 w-a)).map V.int).length ((Fl.iV w:Nat):Int)=some (Fl.iV w):=yI (by rw[ae];lia)
   subst hR5
   simp_arith[e15,nu,eR5,vn,h2,hx2]
   refine⟨gS _,_,rfl,b5.trans (But.at R H5 _),?_⟩
   rw[iF,hps,Br]
   rfl
  ·rintro σ H4 ⟨v3,rfl,s4,eR4⟩
   rw[hnl,aX]at eR4
   subst hR
   walk_at "D"
   exact h H4 s4 eR4
theorem Ez(B:Blt mg)(D:MthAt K C_Net "fill" "Net.fill" (jo 9 2) ["self","source","sink"] f fd)(Dqn:MthAt K C_Net "shortest" "Net.shortest" (jo 9 3) ["self","source","sink"] fqn dqn)(Gqn:FnOk P w K mg base iQ 2 fqn dqn ["self","source","sink"] (zg C_Net))(Dza:MthAt K C_Net "push" "Net.push" (jo 9 5) ["self","trail"] fza dza)(Gza:FnOk P w K mg base iQ 1 fza dza ["self","trail"] (yj C_Net))(T:NetC K mg C_Net):FnOk P w K mg base iQ 3 f fd ["self","source","sink"] (yg C_Net):=by
 have sc:FnScope ["self","source","sink","flowing","trail"] ["self","source","sink"] (ja (jo 9 2)):=by walk_at "SC"
 refine D.F.ok sc (fun vs H Q E h=>?_) (fun cdv A outer s H vs Q E hr h=>?_)
 ·obtain⟨p,s,t,R,wf,hs,m,n,r,cap,rfl,_⟩:=h
  rfl
 obtain⟨p,s,t,R,wf,hs,m,n,r,cap,rfl,N,st,s0,s1,rm,h⟩:=h
 have hu:=jl hr
 have hu0:_<PySem.cLine:=aD hu
 refine⟨_,(iH (iR (i:=3) sc.nd rfl (Or.inl rfl) iG) (iH (iR (i:=4) sc.nd rfl (Or.inl rfl) (lZ (qv 0) T.cl Dqn.m Gqn (hr.mono (by decide)) Dqn.b .nil iX (iC (qv 1) (iC (qv 2) iD)))) (iH (qd bo (yW (qv 4)) (iH (rg (i:=3) sc.nd rfl (Or.inl rfl) (lZ (qv 0) T.cl Dza.m Gza (hr.mono (by decide)) Dza.b .nil iX (iC (qv 4) iD)) rf) (iN (iR (i:=4) sc.nd rfl (Or.inl rfl) (lZ (qv 0) T.cl Dqn.m Gqn (hr.mono (by decide)) Dqn.b .nil iX (iC (qv 1) (iC (qv 2) iD))))))) (iN (jg (qv 3)))))),?_⟩
 refine iS fun R' hR=>?_
 walk_at "D"
 subst hR
 refine iS fun R' hR=>?_
 obtain⟨dx,W,Hd,ls,e1,e2,e3,e4,e5,n1,n2,n3⟩:=N.st
 simp_arith[e1,By]
 refine⟨p,s,t,R,wf,hs,m,n,r,rfl,N,s0,s1,fun l H1 hl q1 el=>?_⟩
 have lR:l≠R:=(iU N.eR hl).symm
 subst hR
 refine iS fun R' hR=>?_
 refine rX (fun σ Hc=>∃(x:Int) (l:Addr) (r1:List Int),σ=[some (.ref p),some (.int s),some (.int t),some (.int x),some (.ref l)]/\But R H Hc/\Hc R=some (.lst (r1.map V.int))/\Fl.Runs wf hs n s t r r1/\Fl.Rooms m cap r1/\Hc l=some (.lst (nv (Fl.ki wf hs n s t r1)))/\l≠R) (fun _ Hc=>match Hc R with |some (.lst xs)=>(Fl.wu cap m-Fl.ex hs m (unI xs) t).toNat|_=>0) ⟨0,l,r,rfl,fun b o _ q=>q1 b o q,q1 _ _ N.eR,.done r,rm,el,lR⟩ ?_ ?_
 ·rintro σ Hc ⟨x,l,r1,rfl,b2,eR2,run,rm1,el2,lR⟩
  have N2:=N.but b2 eR2 rm1.len
  have e12:=b2 _ _ n3 e1
  by_cases ct:Fl.ki wf hs n s t r1=[]
  ·have hst:Fl.lA wf hs n s t r1=none:=by unfold Fl.lA;rw[aw ct]
   have hne:(nv (Fl.ki wf hs n s t r1)).isEmpty=true:=by rw[ct];rfl
   simp_arith[el2,hne]
   subst hR
   walk_at "D"
   exact h x r1 Hc run hst b2 eR2
  ·have hst:Fl.lA wf hs n s t r1=some (Fl.push r1 (Fl.ki wf hs n s t r1) (Fl.kO r1 (Fl.ki wf hs n s t r1))):=by unfold Fl.lA;rw[au ct]
   have hne:(nv (Fl.ki wf hs n s t r1)).isEmpty=false:=by unfold nv;cases hq:Fl.ki wf hs n s t r1 with |nil=>exact absurd hq ct|cons _ _=>rfl
   obtain⟨_,gi,G⟩:=Fl.wH N.net st ⟨s0,s1⟩ ct
   have hk:=Fl.xh N.net st ⟨s0,s1⟩ rm1 hst
   have hle:=Fl.sX (hs:=hs) (cb:=Fl.jJ wf hs n s r1) n t
   simp_arith[el2,hne,e12,Fw]
   refine⟨p,l,R,wf,hs,m,n,r1,_,rfl,N2,el2,lR,ct,bz hle N.n200,fun w hw=>(G.up w hw).1,fun H3 b3 eR3=>?_⟩
   have b4:=b2.trans b3
   have N3:=N2.but b3 eR3 (by rw[Fl.qI];exact rm1.len)
   simp_arith[b4 _ _ n3 e1,By]
   refine⟨p,s,t,R,wf,hs,m,n,_,rfl,N3,s0,s1,fun l2 H5 hl2 q5 el5=>?_⟩
   have eR5:=q5 _ _ eR3
   refine⟨⟨_,l2,_,rfl,b4.trans fun b o _ q=>q5 b o q,eR5,run.snoc hst,hk.1,el5,(iU eR3 hl2).symm⟩,?_⟩
   rw[eR5,eR2]
   dsimp only
   rw[zr,zr]
   have:=hk.2.2
   have:=Fl.Jo (hs:=hs) hk.1 t
   lia
 ·intro σ Hc Q1 Q2 hq hc
  exact zW hq hc
structure NtG(C:Addr)(H:Hp)(p dx W Hd R:Addr)(ls:List Addr)(f:Nat->List V)(hv rv:List V):Prop where
 o:H p=some (jZ C dx W Hd R)
 w:H W=some (.lst (ls.map V.ref))
 l:∀(i:Nat) (a:Addr),ls[i]? =some a->H a=some (.lst (f i))/\a≠R/\a≠Hd/\a≠W
 nd:ls.Nodup
 h:H Hd=some (.lst hv)
 r:H R=some (.lst rv)
 n1:W≠R
 n2:Hd≠R
 n3:W≠Hd
def ph(H:Hp)(wa Hd R:Addr)(a b c:List V):Hp:=upd (upd (upd H wa (.lst a)) Hd (.lst b)) R (.lst c)
theorem NtG.put{C:Addr}{H:Hp}{p dx W Hd R:Addr}{ls:List Addr}{f:Nat->List V}{hv rv:List V}(G:NtG C H p dx W Hd R ls f hv rv){i:Nat}{wa:Addr}(hi:ls[i]? =some wa)(x y z:V):
  NtG C (ph H wa Hd R (f i++[x]) (hv++[y]) (rv++[z])) p dx W Hd R ls (fun j=>if j=i then f i++[x]else f j) (hv++[y]) (rv++[z]):=by
 obtain⟨a1,a2,a3,a4⟩:=G.l i wa hi
 have p1:p≠wa:=mh G.o a1 (by intro z;cases z)
 have p2:p≠Hd:=mh G.o G.h (by intro z;cases z)
 have p3:p≠R:=mh G.o G.r (by intro z;cases z)
 unfold ph
 refine⟨by rw[iJ p3,iJ p2,iJ p1];exact G.o,by rw[iJ G.n1,iJ G.n3,iJ (cG a4)];exact G.w,fun j a ha=>?_,G.nd,by rw[iJ G.n2,iF],iF,G.n1,G.n2,G.n3⟩
 obtain⟨b1,b2,b3,b4⟩:=G.l j a ha
 refine⟨?_,b2,b3,b4⟩
 rw[iJ b2,iJ b3]
 by_cases c:j=i
 ·subst c
  rw[hi]at ha
  cases ha
  rw[aw rfl,iF]
 ·rw[au c,iJ (fun e=>c ?_)]
  ·exact b1
  ·subst e
   have h1:=(ag.mp ha)
   have h2:=(ag.mp hi)
   exact(fW G.nd).mp (h1.2.trans h2.2.symm)
def Ai(C:Addr):Sp:=fun vs H Q _=>∃p dx W Hd R ls f hv rv i wa hd rm,vs=[.ref p,.int ((i:Nat):Int),.int hd,.int rm]/\NtG C H p dx W Hd R ls f hv rv/\ls[i]? =some wa/\(f i).length<=900/\hv.length<=900/\rv.length<=900/\Q .non (ph H wa Hd R (f i++[.int (hv.length:Int)]) (hv++[.int hd]) (rv++[.int rm]))
def yh(C:Addr):Sp:=fun vs H Q _=>∃p dx n al zs as,vs=[.ref p,.int ((n:Nat):Int),.ref al]/\H p=some (.ins C dx [])/\H al=some (.lst zs)/\kB H zs as/\n<=200/\as.length<=450/\(∀a∈as,(0<=a.1/\a.1<(n:Int))/\0<=a.2.1/\a.2.1<(n:Int))/\∀R H',H R=none->But p H H'->Nt C H' p R (Fl.jO as) (Fl.i7 as) as.length n (Fl.jT as)->Q .non H'
theorem Ca(as:List Fl.jU)(u:Int):(Fl.jO as u).length<=2*as.length:=by
 unfold Fl.jO
 have:=bR (fun w=>decide (Fl.at' (Fl.i7 as) (Fl.iV w)=u)) (List.range (2*as.length))
 rw[bC]at this
 exact this
theorem But.upd{p q:Addr}{H H':Hp}{o:HO}(b:But p H H')(h:H q=none):But p H (upd H' q o):=fun c u n e=>by rw[iJ (iU e h)];exact b c u n e
theorem xW(a b:List Nat):nv (a++b)=nv a++nv b:=ah
theorem G9(B:Blt mg)(D:MthAt K C_Net "put_way" "Net.put_way" (jo 9 1) ["self","tail","head","room"] f fd)(T:NetC K mg C_Net):FnOk P w K mg base iQ 1 f fd ["self","tail","head","room"] (Ai C_Net):=by
 have sc:FnScope ["self","tail","head","room"] ["self","tail","head","room"] (ja (jo 9 1)):=by walk_at "SC"
 refine D.F.ok sc (fun vs H Q E h=>?_) (fun cdv A outer s H vs Q E hr h=>?_)
 ·obtain⟨p,dx,W,Hd,R,ls,f,hv,rv,i,wa,hd,rm,rfl,_⟩:=h
  rfl
 obtain⟨p,dx,W,Hd,R,ls,f,hv,rv,i,wa,hd,rm,rfl,G,hi,l1,l2,l3,h⟩:=h
 have hu:=jl hr
 have hu0:_<PySem.cLine:=aD hu
 refine⟨_,(iH (j0 (ko aZ br bq kH (iO iP (kQ T.cl T.n_ways_from (qv 0) rfl) (qv 1) (fun _ _=>rfl)) (iC (jh kY rfl B.len bP (iC (kQ T.cl T.n_heads (qv 0) rfl) iD)) iD))) (iH (j0 (ko aZ br bq kH (kQ T.cl T.n_heads (qv 0) rfl) (iC (qv 2) iD))) (iN (j0 (ko aZ br bq kH (kQ T.cl T.n_rooms (qv 0) rfl) (iC (qv 3) iD)))))),?_⟩
 have e1:=G.o
 have e2:=G.w
 have e3:=G.h
 have hat:=ub hi
 obtain⟨a1,a2,a3,a4⟩:=G.l i wa hi
 have p1:p≠wa:=mh G.o a1 (by intro z;cases z)
 have p2:p≠Hd:=mh G.o G.h (by intro z;cases z)
 refine iS fun R' hR=>?_
 simp_arith[iW,e1,tO,pH,e2,hat,a1,e3]
 refine⟨⟨wa,_,rfl,a1⟩,jk (by lia),?_⟩
 have e4:upd H wa (.lst (f i++[.int (hv.length:Int)])) p=some (jZ C_Net dx W Hd R):=by rw[iJ p1];exact e1
 have e5:upd H wa (.lst (f i++[.int (hv.length:Int)])) Hd=some (.lst hv):=by rw[iJ (cG a3)];exact e3
 have e6:upd H wa (.lst (f i++[.int (hv.length:Int)])) R=some (.lst rv):=by rw[iJ (cG a2)];exact G.r
 subst hR
 refine iS fun R' hR=>?_
 simp_arith[e4,pH,e5]
 refine⟨⟨Hd,_,rfl,e5⟩,jk (by lia),?_⟩
 have e7:upd (upd H wa (.lst (f i++[.int (hv.length:Int)]))) Hd (.lst (hv++[.int hd])) p=some (jZ C_Net dx W Hd R):=by rw[iJ p2];exact e4
 have e8:upd (upd H wa (.lst (f i++[.int (hv.length:Int)]))) Hd (.lst (hv++[.int hd])) R=some (.lst rv):=by rw[iJ (cG G.n2)];exact e6
 subst hR
 simp_arith[e7,nu,e8]
 exact⟨⟨R,_,rfl,e8⟩,jk (by lia),h⟩
theorem Tp.tups{H H':Hp}{v:V}{p:Int×Int×Int}(h:Tp H v p)(s:TupS H H'):Tp H' v p:=let⟨a,e,q⟩:=h;⟨a,e,s _ _ rfl q⟩
theorem k8{H H':Hp}(s:TupS H H'):∀{xs:List V} {ps:List (Int×Int×Int)},kB H xs ps->kB H' xs ps
 |_,_,.nil=>.nil
 |_,_,.cons r t=>.cons (Tp.tups r s) (k8 s t)
theorem NtG.congr{C:Addr}{H:Hp}{p dx W Hd R:Addr}{ls:List Addr}{f g:Nat->List V}{hv rv hv' rv':List V}(G:NtG C H p dx W Hd R ls f hv rv)(h:∀i,i<ls.length->f i=g i)(e1:hv=hv')(e2:rv=rv'):NtG C H p dx W Hd R ls g hv' rv':=by
 subst e1 e2
 exact ⟨G.o,G.w,fun i a ha=>by rw [<- h i (ag.mp ha).1]; exact G.l i a ha,G.nd,G.h,G.r,G.n1,G.n2,G.n3⟩
theorem Ab{p wa Hd R:Addr}{H H':Hp}{a b c:List V}(s:But p H H')(h1:H wa=none)(h2:H Hd=none)(h3:H R=none):But p H (ph H' wa Hd R a b c):=((s.upd h1).upd h2).upd h3
theorem E5{as:List Fl.jU}{a:Fl.jU}{i1 i2 j:Nat}(h1:a.1=(i1:Int))(h2:a.2.1=(i2:Int)){x y:V}(hx:x= .int ((2*as.length:Nat):Int))(hy:y= .int ((2*as.length+1:Nat):Int)):
  (if j=i2 then(if i2=i1 then nv (Fl.jO as (i1:Int))++[x]else nv (Fl.jO as (i2:Int)))++[y]else(if j=i1 then nv (Fl.jO as (i1:Int))++[x]else nv (Fl.jO as (j:Int))))=nv (Fl.jO (as++[a]) (j:Int)):=by
 rw[Fl.B9,xW,xW,h1,h2,hx,hy]
 by_cases c1:j=i1
 ·by_cases c2:j=i2
  ·have:i2=i1:=by lia
   subst c2
   subst this
   rw[aw rfl,aw rfl,aw rfl,aw rfl]
   rfl
  ·subst c1
   rw[au c2,aw rfl,aw rfl,au (by lia)]
   show _=_++[]
   rw[bt]
   rfl
 ·by_cases c2:j=i2
  ·subst c2
   rw[aw rfl,au c1,au (by lia),aw rfl]
   show _=(_++[])++_
   rw[bt]
   rfl
  ·rw[au c2,au c1,au (by lia),au (by lia)]
   show _=(_++[])++[]
   rw[bt,bt]
theorem EA(B:Blt mg)(D:MthAt K C_Net "__init__" "Net.__init__" (jo 9 0) ["self","many","arcs"] f fd)(Dqm:MthAt K C_Net "put_way" "Net.put_way" (jo 9 1) ["self","tail","head","room"] fqm dqm)(Gqm:FnOk P w K mg base iQ 1 fqm dqm ["self","tail","head","room"] (Ai C_Net))(T:NetC K mg C_Net):FnOk P w K mg base iQ 2 f fd ["self","many","arcs"] (yh C_Net):=by
 have sc:FnScope ["self","many","arcs","tail","head","room"] ["self","many","arcs"] (ja (jo 9 0)):=by walk_at "SC"
 refine D.F.ok sc (fun vs H Q E h=>?_) (fun cdv A outer s H vs Q E hr h=>?_)
 ·obtain⟨p,dx,n,al,zs,as,rfl,_⟩:=h
  rfl
 obtain⟨p,dx,n,al,zs,as,rfl,ep,eal,pz,hn,ha,hok,h⟩:=h
 have hu:=jl hr
 have hu0:_<PySem.cLine:=aD hu
 refine⟨_,(iH (uP T.cl T.n_ways_from (qv 0) (k6 (CpScope.of (N:=["knot"]) (src:=[none]) (by rfl)) rfl (sf rfl B.range (iC (qv 1) iD)) (fun _ _ _ _=>(i3 (i:=0) (j5 (l:=["knot"]) (by rfl)) rfl (Or.inl rfl))) (fun _ _ _ _=>mq) (fun _ _ _ _=>(jE iD))) rfl) (iH (uP T.cl T.n_heads (qv 0) (jE iD) rfl) (iH (uP T.cl T.n_rooms (qv 0) (jE iD) rfl) (iN (j4 bo rfl (ka (qv 2)) (kE (n:=3) rfl (js (i3 (i:=3) sc.nd rfl (Or.inl rfl)) (js (i3 (i:=4) sc.nd rfl (Or.inl rfl)) (js (i3 (i:=5) sc.nd rfl (Or.inl rfl)) kF)))) (iH (j0 (lZ (qv 0) T.cl Dqm.m Gqm (hr.mono (by decide)) Dqm.b .nil iX (iC (qv 3) (iC (qv 4) (iC (qv 5) iD))))) (iN (j0 (lZ (qv 0) T.cl Dqm.m Gqm (hr.mono (by decide)) Dqm.b .nil iX (iC (qv 4) (iC (qv 3) (iC iG iD)))))))))))),?_⟩
 have hlz:zs.length=as.length:=aP pz
 have alp:al≠p:=mh eal ep (by intro z;cases z)
 refine iS fun R' hR=>?_
 walk_at "D"
 refine kR (lG 0 n) H (fun R2 hR2=>?_) (fun W hW=>kG n (fun i σ' Hc=>∃w1 ls,σ'=[w1]/\Same H Hc/\Hc W=some (.lst (ls.map V.ref))/\ls.length=i/\ls.Nodup/\∀a∈ls,Hc a=some (.lst [])/\a≠W/\H a=none) ⟨none,[],rfl,iL hW _,iF,rfl,.nil,fun a z=>by cases z⟩ ?_ ?_)
 ·unfold pJ
  walk_at "D"
  exact⟨_,rfl,by lia,by lia,hR2⟩
 ·rintro i σ' Hc hi ⟨w1,ls,rfl,s1,eW,hl,nd,hls⟩
  refine⟨hi,?_⟩
  rintro y H' ⟨rfl,rfl⟩
  walk_at "D"
  intro b hb
  have q:=iL hb (.lst [])
  have eb:upd H' b (.lst []) b=some (.lst []):=iF
  have eW2:=q _ _ eW
  have bW:b≠W:=(iU eW hb).symm
  have s2:=s1.trans q
  have hls2:∀a∈ls,upd H' b (.lst []) a=some (.lst [])/\a≠b:=fun a ha=>⟨q _ _ (hls a ha).1,iU (hls a ha).1 hb⟩
  generalize upd H' b (.lst [])=H3 at q eb eW2 s2 hls2
  refine⟨_,eW2,by rw[ae];exact jk (by lia),_,ls++[b],rfl,jt s2 hW,by rw[iF,ah];rfl,by rw[aH,hl];rfl,?_,fun a ha=>?_⟩
  ·rw[bM]
   refine⟨nd,by simp,fun a ha c hc=>?_⟩
   rw[aG.mp hc]
   exact(hls2 a ha).2
  ·rcases aQ.mp ha with ha|ha
   ·refine⟨by rw[iJ (hls a ha).2.1];exact(hls2 a ha).1,(hls a ha).2⟩
   ·rw[aG.mp ha]
    exact⟨by rw[iJ bW];exact eb,bW,s1.free hb⟩
 rintro σ' H1 ⟨w1,ls,rfl,s1,eW,hl,nd,hls⟩
 refine⟨av _,?_⟩
 have ep1:=s1 _ _ ep
 simp_arith[ep1]
 refine⟨du rfl,?_⟩
 have b2:But p H (upd H1 p (.ins C_Net dx (ji "ways_from" (.ref W) []))):=fun b o n q=>by rw[iJ n];exact s1 b o q
 have ep2:upd H1 p (.ins C_Net dx (ji "ways_from" (.ref W) [])) p=some (.ins C_Net dx (ji "ways_from" (.ref W) [])):=iF
 have Wp:W≠p:=(iU ep hW).symm
 have eW2:upd H1 p (.ins C_Net dx (ji "ways_from" (.ref W) [])) W=some (.lst (ls.map V.ref)):=by rw[iJ Wp];exact eW
 have hls2:∀a∈ls,upd H1 p (.ins C_Net dx (ji "ways_from" (.ref W) [])) a=some (.lst [])/\a≠W/\H a=none:=fun a ha=>⟨by rw[iJ (iU ep (hls a ha).2.2).symm];exact(hls a ha).1,(hls a ha).2⟩
 generalize upd H1 p (.ins C_Net dx (ji "ways_from" (.ref W) []))=H2 at b2 ep2 eW2 hls2
 clear hls eW ep1 s1
 have free:∀{H':Hp} {q:Addr},But p H H'->H' p≠none->H' q=none->H q=none:=fun{H' q} b hp hq=>by
  cases e:H q with
  |none=>rfl
  |some o=>
   have hqp:q ≠ p:=fun z=>hp (by rw [<- z]; exact hq)
   rw[b _ _ hqp e]at hq
   cases hq
 subst hR
 refine iS fun R' hR=>?_
 walk_at "D"
 intro Hd hHd
 have fHd:H Hd=none:=free b2 (by rw[ep2];simp) hHd
 have ep3:upd H2 Hd (.lst []) p=some (.ins C_Net dx (ji "ways_from" (.ref W) [])):=iL hHd _ _ _ ep2
 have eHd:upd H2 Hd (.lst []) Hd=some (.lst []):=iF
 have WHd:W≠Hd:=iU eW2 hHd
 have hls3:∀a∈ls,upd H2 Hd (.lst []) a=some (.lst [])/\a≠Hd:=fun a ha=>⟨iL hHd _ _ _ (hls2 a ha).1,iU (hls2 a ha).1 hHd⟩
 have eW3:=iL hHd (.lst []) _ _ eW2
 have b3:But p H (upd H2 Hd (.lst [])):=b2.upd fHd
 generalize upd H2 Hd (.lst [])=H3 at ep3 eHd hls3 eW3 b3
 simp_arith[ep3]
 refine⟨du rfl,?_⟩
 have Hdp:Hd≠p:=(iU ep fHd).symm
 have ep4:upd H3 p (.ins C_Net dx (ji "heads" (.ref Hd) (ji "ways_from" (.ref W) []))) p=some (.ins C_Net dx (ji "heads" (.ref Hd) (ji "ways_from" (.ref W) []))):=iF
 have eHd4:upd H3 p (.ins C_Net dx (ji "heads" (.ref Hd) (ji "ways_from" (.ref W) []))) Hd=some (.lst []):=by rw[iJ Hdp];exact eHd
 have eW4:upd H3 p (.ins C_Net dx (ji "heads" (.ref Hd) (ji "ways_from" (.ref W) []))) W=some (.lst (ls.map V.ref)):=by rw[iJ Wp];exact eW3
 have hls4:∀a∈ls,upd H3 p (.ins C_Net dx (ji "heads" (.ref Hd) (ji "ways_from" (.ref W) []))) a=some (.lst []):=fun a ha=>by rw[iJ (iU ep (hls2 a ha).2.2).symm];exact(hls3 a ha).1
 have b4:But p H (upd H3 p (.ins C_Net dx (ji "heads" (.ref Hd) (ji "ways_from" (.ref W) [])))):=b3.trans (But.at p H3 _)
 generalize upd H3 p (.ins C_Net dx (ji "heads" (.ref Hd) (ji "ways_from" (.ref W) [])))=H4 at ep4 eHd4 eW4 hls4 b4
 subst hR
 refine iS fun R' hR=>?_
 walk_at "D"
 intro R hRn
 have fR:H R=none:=free b4 (by rw[ep4];simp) hRn
 have ep5:upd H4 R (.lst []) p=some (.ins C_Net dx (ji "heads" (.ref Hd) (ji "ways_from" (.ref W) []))):=iL hRn _ _ _ ep4
 have eR5:upd H4 R (.lst []) R=some (.lst []):=iF
 have eHd5:=iL hRn (.lst []) _ _ eHd4
 have eW5:=iL hRn (.lst []) _ _ eW4
 have WR:W≠R:=iU eW4 hRn
 have HdR:Hd≠R:=iU eHd4 hRn
 have hls5:∀a∈ls,upd H4 R (.lst []) a=some (.lst [])/\a≠R:=fun a ha=>⟨iL hRn _ _ _ (hls4 a ha),iU (hls4 a ha) hRn⟩
 have b5:But p H (upd H4 R (.lst [])):=b4.upd fR
 generalize upd H4 R (.lst [])=H5 at ep5 eR5 eHd5 eW5 hls5 b5
 simp_arith[ep5]
 refine⟨du rfl,?_⟩
 have Rp:R≠p:=(iU ep fR).symm
 have eo:(HO.ins C_Net dx (ji "rooms" (.ref R) (ji "heads" (.ref Hd) (ji "ways_from" (.ref W) []))))=jZ C_Net dx W Hd R:=rfl
 rw[eo]
 have b6:But p H (upd H5 p (jZ C_Net dx W Hd R)):=b5.trans (But.at p H5 _)
 have G0:NtG C_Net (upd H5 p (jZ C_Net dx W Hd R)) p dx W Hd R ls (fun i=>nv (Fl.jO (as.take 0) (i:Int))) ((Fl.i7 (as.take 0)).map V.int) ((Fl.jT (as.take 0)).map V.int):=by
  refine⟨iF,by rw[iJ Wp];exact eW5,fun i a hia=>?_,nd,by rw[iJ Hdp];exact eHd5,by rw[iJ Rp];exact eR5,WR,HdR,WHd⟩
  have ha:=ao hia
  exact⟨by rw[iJ (iU ep (hls2 a ha).2.2).symm];exact(hls5 a ha).1,(hls5 a ha).2,(hls3 a ha).2,(hls2 a ha).2.1⟩
 generalize upd H5 p (jZ C_Net dx W Hd R)=H6 at b6 G0
 have fls:∀a∈ls,H a=none:=fun a ha=>(hls2 a ha).2.2
 clear hls2 hls3 hls4 hls5 b2 b3 b4 b5 ep2 ep3 ep4 ep5 eW2 eW3 eW4 eW5 eHd eHd4 eHd5 eR5
 subst hR
 refine ku (jS K al) H6 (fun R3 hR3=>?_) (k7 (K:=K) (a:=al) (xs:=zs) (fun k σ Hc=>∃v1 v2 v3,σ=[some (.ref p),some (.int (n:Int)),some (.ref al),v1,v2,v3]/\But p H Hc/\NtG C_Net Hc p dx W Hd R ls (fun i=>nv (Fl.jO (as.take k) (i:Int))) ((Fl.i7 (as.take k)).map V.int) ((Fl.jT (as.take k)).map V.int)) ⟨none,none,none,rfl,b6,G0⟩ (fun i σ Hc _ ⟨_,_,_,_,b,_⟩=>SqL.of (b _ _ alp eal)) ?_ ?_)
 ·unfold j2
  walk_at "D"
  exact⟨al,rfl,⟨_,SqL.of (b6 _ _ alp eal)⟩,hR3⟩
 ·rintro k x σ Hc hx ⟨v1,v2,v3,rfl,b7,G⟩
  obtain⟨a,hka,pa⟩:=kI pz hx
  obtain⟨t,rfl,et⟩:=Tp.tups pa (b7.tups ep rfl)
  have hkl:=(ag.mp hka).1
  obtain⟨⟨h1,h2⟩,h3,h4⟩:=hok a (ao hka)
  have i1:ls[a.1.toNat]? =some (ls[a.1.toNat]'(by lia)):=gE _
  have i2:ls[a.2.1.toNat]? =some (ls[a.2.1.toNat]'(by lia)):=gE _
  generalize ls[a.1.toNat]'(by lia)=w1 at i1
  generalize ls[a.2.1.toNat]'(by lia)=w2 at i2
  have c1:((a.1.toNat:Nat):Int)=a.1:=by lia
  have c2:((a.2.1.toNat:Nat):Int)=a.2.1:=by lia
  have htk:(as.take k).length=k:=by rw[aW];lia
  have hl1:((Fl.i7 (as.take k)).map V.int).length=2*k:=by rw[ae,Fl.sv,htk]
  have hl2:((Fl.jT (as.take k)).map V.int).length=2*k:=by rw[ae,Fl.qG,htk]
  have hl3:∀u:Int,(nv (Fl.jO (as.take k) u)).length<=2*k:=fun u=>by
   have:=Ca (as.take k) u
   rw[htk]at this
   unfold nv
   rw[ae]
   exact this
  simp_arith[et,G.o,Bt]
  refine⟨p,dx,W,Hd,R,ls,_,_,_,a.1.toNat,w1,a.2.1,a.2.2,by rw[c1],G,i1,by have:=hl3 ((a.1.toNat:Nat):Int);lia,by lia,by lia,?_⟩
  have G1:=G.put i1 (.int (((Fl.i7 (as.take k)).map V.int).length:Int)) (.int a.2.1) (.int a.2.2)
  have b8:=Ab (wa:=w1) (Hd:=Hd) (R:=R) (a:=nv (Fl.jO (as.take k) ((a.1.toNat:Nat):Int))++[.int (((Fl.i7 (as.take k)).map V.int).length:Int)]) (b:=(Fl.i7 (as.take k)).map V.int++[.int a.2.1]) (c:=(Fl.jT (as.take k)).map V.int++[.int a.2.2]) b7 (fls _ (ao i1)) fHd fR
  generalize ph Hc w1 Hd R (nv (Fl.jO (as.take k) ((a.1.toNat:Nat):Int))++[.int (((Fl.i7 (as.take k)).map V.int).length:Int)]) ((Fl.i7 (as.take k)).map V.int++[.int a.2.1]) ((Fl.jT (as.take k)).map V.int++[.int a.2.2])=H8 at G1 b8
  simp_arith[G1.o,Bt]
  refine⟨p,dx,W,Hd,R,ls,_,_,_,a.2.1.toNat,w2,a.1,0,by rw[c2],G1,i2,?_,by rw[aH,hl1];show _+1<=_;lia,by rw[aH,hl2];show _+1<=_;lia,?_⟩
  ·split
   ·rw[aH]
    have:=hl3 ((a.1.toNat:Nat):Int)
    show _+1<=_
    lia
   ·have:=hl3 ((a.2.1.toNat:Nat):Int);lia
  have G2:=G1.put i2 (.int ((((Fl.i7 (as.take k)).map V.int)++[V.int a.2.1]).length:Int)) (.int a.1) (.int 0)
  have b9:=Ab (wa:=w2) (Hd:=Hd) (R:=R) (a:=(if a.2.1.toNat=a.1.toNat then nv (Fl.jO (as.take k) ((a.1.toNat:Nat):Int))++[.int (((Fl.i7 (as.take k)).map V.int).length:Int)]else nv (Fl.jO (as.take k) ((a.2.1.toNat:Nat):Int)))++[.int ((((Fl.i7 (as.take k)).map V.int)++[V.int a.2.1]).length:Int)]) (b:=((Fl.i7 (as.take k)).map V.int++[.int a.2.1])++[.int a.1]) (c:=((Fl.jT (as.take k)).map V.int++[.int a.2.2])++[.int 0]) b8 (fls _ (ao i2)) fHd fR
  refine⟨_,_,_,rfl,b9,G2.congr (fun j hj=>?_) ?_ ?_⟩
  ·rw[jM hka]
   exact E5 c1.symm c2.symm (by rw[hl1,htk]) (by rw[aH,hl1,htk];rfl)
  ·rw[jM hka,Fl.vS,ah,bu];rfl
  ·rw[jM hka,Fl.xp,ah,bu];rfl
 ·rintro σ Hc ⟨v1,v2,v3,rfl,b7,G⟩
  rw[hlz,aX]at G
  refine h R Hc fR b7 ⟨⟨dx,W,Hd,ls,G.o,G.w,hl,fun i a hia=>⟨(G.l i a hia).1,(G.l i a hia).2.1⟩,G.h,G.n1,G.n2,Rp.symm⟩,G.r,Fl.xC hok,Fl.qG as,by lia,hn⟩
end
end My
namespace Fl
structure Bk(wf:Int->List Nat)(hs r:List Int)(n:Nat)(t:Int)(ms td:List Int)(x:Option Int)(i:Nat):Prop where
 nd:ms.Nodup
 bd:∀v:Int,v∈ms->0<=v/\v<(n:Int)
 t_in:t∈ms
 tin:∀v∈td,v∈ms
 tl:td.length<=ms.length
 cl:∀v∈ms,v∉td->x≠some v->∀w∈wf v,0<at' r (iV w)->at' hs w∈ms
 xc:∀v,x=some v->v∈ms/\∀w∈(wf v).take i,0<at' r (iV w)->at' hs w∈ms
 ind:∀B:Int->Prop,B t->(∀u w,B u->w∈wf u->0<at' r (iV w)->B (at' hs w))->∀v∈ms,B v
structure CoR(wf:Int->List Nat)(hs r:List Int)(n:Nat)(t:Int)(ms:List Int):Prop where
 nd:ms.Nodup
 bd:∀v:Int,v∈ms->0<=v/\v<(n:Int)
 t_in:t∈ms
 cl:∀v∈ms,∀w∈wf v,0<at' r (iV w)->at' hs w∈ms
 ind:∀B:Int->Prop,B t->(∀u w,B u->w∈wf u->0<at' r (iV w)->B (at' hs w))->∀v∈ms,B v
section
variable{wf:Int->List Nat}{hs r:List Int}{n:Nat}{t:Int}{ms td:List Int}
theorem Bk.init(h:0<=t/\t<(n:Int)):Bk wf hs r n t [t] [t] none 0:=by
 refine⟨by simp,fun v hv=>by rw[aG.mp hv];exact h,aG.mpr rfl,fun v hv=>hv,av _,fun v hv h1=>absurd hv h1,fun v z=>(nomatch z),fun B h1 _ v hv=>by rw[aG.mp hv];exact h1⟩
theorem Bk.len(h:Bk wf hs r n t ms td x i):ms.length<=n:=tH h.nd h.bd
theorem Bk.pop{v:Int}(h:Bk wf hs r n t ms (td++[v]) none i):Bk wf hs r n t ms td (some v) 0:=by
 refine⟨h.nd,h.bd,h.t_in,fun u hu=>h.tin u (bx _ hu),by have:=h.tl;rw[aH]at this;lia,fun u hu h1 h2=>h.cl u hu (fun z=>?_) (fun z=>(nomatch z)),fun u e=>?_,h.ind⟩
 ·rcases aQ.mp z with z|z
  ·exact h1 z
  ·exact h2 (by rw[aG.mp z])
 ·cases e
  exact⟨h.tin _ (bp _ (aG.mpr rfl)),fun w hw=>by rw[List.take_zero]at hw;cases hw⟩
theorem Al{l:List Nat}{i w x:Nat}(h:l[i]? =some w)(hx:x∈l.take (i+1)):x∈l.take i\/x=w:=by
 rw[List.take_succ,h]at hx
 exact(aQ.mp hx).imp id fun z=>by simpa using z
theorem Bk.skip{v:Int}{w:Nat}(h:Bk wf hs r n t ms td (some v) i)(hw:(wf v)[i]? =some w)(c:0<at' r (iV w)->at' hs w∈ms):Bk wf hs r n t ms td (some v) (i+1):=by
 refine⟨h.nd,h.bd,h.t_in,h.tin,h.tl,h.cl,fun u e=>?_,h.ind⟩
 cases e
 obtain⟨h1,h2⟩:=h.xc v rfl
 refine⟨h1,fun x hx h0=>?_⟩
 rcases Al hw hx with z|rfl
 ·exact h2 x z h0
 ·exact c h0
theorem Bk.put{v:Int}{w:Nat}(h:Bk wf hs r n t ms td (some v) i)(hw:(wf v)[i]? =some w)(h0:0<at' r (iV w))(hb:0<=at' hs w/\at' hs w<(n:Int))(hn:at' hs w∉ms):Bk wf hs r n t (ms++[at' hs w]) (td++[at' hs w]) (some v) (i+1):=by
 obtain⟨x1,x2⟩:=h.xc v rfl
 have up:∀{u},u∈ms->u∈ms++[at' hs w]:=fun z=>bx _ z
 refine⟨?_,fun u hu=>?_,up h.t_in,fun u hu=>?_,by rw[aH,aH];have:=h.tl;lia,fun u hu h1 h2 k hk hk0=>?_,fun u e=>?_,fun B b1 b2 u hu=>?_⟩
 ·exact bM.mpr ⟨h.nd,by simp,fun a ha b hb=>fun z=>hn (by rw [aG.mp hb] at z; rw [<- z]; exact ha)⟩
 ·rcases aQ.mp hu with z|z
  ·exact h.bd u z
  ·rw[aG.mp z];exact hb
 ·rcases aQ.mp hu with z|z
  ·exact up (h.tin u z)
  ·exact bp _ z
 ·rcases aQ.mp hu with z|z
  ·exact up (h.cl u z (fun q=>h1 (bx _ q)) h2 k hk hk0)
  ·exact absurd (bp _ z) h1
 ·cases e
  refine⟨up x1,fun k hk hk0=>?_⟩
  rcases Al hw hk with z|rfl
  ·exact up (x2 k z hk0)
  ·exact bp _ (aG.mpr rfl)
 ·rcases aQ.mp hu with z|z
  ·exact h.ind B b1 b2 u z
  ·rw[aG.mp z]
   exact b2 v w (h.ind B b1 b2 v x1) (ao hw) h0
theorem Bk.done{v:Int}(h:Bk wf hs r n t ms td (some v) i)(hi:(wf v).length<=i):Bk wf hs r n t ms td none 0:=by
 obtain⟨x1,x2⟩:=h.xc v rfl
 rw[eJ hi]at x2
 refine⟨h.nd,h.bd,h.t_in,h.tin,h.tl,fun u hu h1 _=>?_,fun u z=>(nomatch z),h.ind⟩
 by_cases c:u=v
 ·subst c;exact x2
 ·exact h.cl u hu h1 fun z=>c (aO z).symm
theorem Bk.fin(h:Bk wf hs r n t ms [] none i){ls:List Int}(p:ls.Perm ms):CoR wf hs r n t ls:=
 ⟨p.nodup_iff.mpr h.nd,fun v hv=>h.bd v (p.mem_iff.mp hv),p.mem_iff.mpr h.t_in,fun v hv w hw h0=>p.mem_iff.mpr (h.cl v (p.mem_iff.mp hv) (by simp) (fun z=>(nomatch z)) w hw h0),fun B b1 b2 v hv=>h.ind B b1 b2 v (p.mem_iff.mp hv)⟩
end
end Fl
namespace My
open PySem L2
section
variable{P:Program}{w:World}{K:PySem.W.Frag}{mg:Str->Option Value}{base:Heap}{c1 c2 c3 c4 e1 e2 e3:Tok}{C_Net C_NoWeb fq7:Addr}{dI:FuncData}
def jD(ns:List Int):List (iE×V):=ns.map fun n=>(Sum.inl n,V.bl true)
theorem yQ:∀(ns:List Int) (n:Int),j6 (jD ns) n=decide (n∈ns)
 |[],n=>rfl
 | m::r,n=>by
  have ih:=yQ r n
  unfold j6 jb jD at ih ⊢
  rw[aq,List.find?_cons]
  by_cases c:m=n
  ·subst c
   simp
  ·have hd:decide ((Sum.inl m:iE)=Sum.inl n)=false:=aC fun z=>c (cI z)
   dsimp only
   rw[hd]
   rw[ih,dU,bX,bX,aR]
   exact⟨.inr,fun z=>z.resolve_left fun y=>c y.symm⟩
def zc:Sp:=fun vs H Q _=>∃u,∃ns:List Int,vs=[.ref u]/\H u=some (.lst (ns.map V.int))/\ns.Nodup/\ns.length<=120/\∀d H',H d=none->Same H H'->H' d=some (.dK (jD ns))->Q (.ref d) H'
structure Cst2(mg:Str->Option Value)(t1 t2 t3:Tok):Prop where
 SOURCE:mg "SOURCE"=some (.int 0 t1)
 SINK:mg "SINK"=some (.int 1 t2)
 FIRST:mg "FIRST"=some (.int 2 t3)
theorem HU{ι:Type}{src:List (Option Nat)}{wi:TI}{g:TG}{tc:TT}{te:TE}{Q:VK}{σ:St}{H:Hp}(J:ι->It)(H1:ι->Hp)(ok:ι->Prop)(h1:∀R:It->Hp->Prop,(∀p,ok p->R (J p) (H1 p))->wi σ H R)
  (h2:∀p,ok p->∀l,H1 p l=none->pC (J p) src g tc te Q σ (H1 p) l):qS src wi g tc te σ H Q:=h1 _ h2
theorem uA{α β:Type}(f:α->β):∀(b:Bool) (xs:List α),ju b (xs.map f)=(ju b xs).map f
 |true,[]=>rfl
 |false,[]=>rfl
 |true,x::xs=>by show f x::ju false (xs.map f)=f x::(ju false xs).map f;rw[uA f false xs]
 |false,x::xs=>uA f true xs
def zb(C:Addr):Sp:=fun vs H Q _=>∃p R wf hs m n r,vs=[.ref p]/\Nt C H p R wf hs m n r/\∀l H',H l=none->Same H H'->H' l=some (.lst ((ju false r).map V.int))->Q (.ref l) H'
def zf(C:Addr):Sp:=fun vs H Q _=>∃p s R wf hs m n r,vs=[.ref p,.int s]/\Nt C H p R wf hs m n r/\0<=s/\s<(n:Int)/\n<64/\∀(l:Addr) (ms:List Int) (H':Hp),H l=none->Same H H'->H' l=some (.lst (ms.map V.int))->ms.Perm ((Fl.jJ wf hs n s r).map (·.1))->Q (.ref l) H'
def xm(C:Addr):Sp:=fun vs H Q _=>∃p t R wf hs m n r,vs=[.ref p,.int t]/\Nt C H p R wf hs m n r/\0<=t/\t<(n:Int)/\n<64/\∀(l:Addr) (ms:List Int) (H':Hp),H l=none->Same H H'->H' l=some (.lst (ms.map V.int))->Fl.CoR wf hs r n t ms->Q (.ref l) H'
theorem nB(ms:List Int)(v:Int):(jb (jD ms) (Sum.inl v:iE)).isSome=decide (v∈ms):=by
 have:=yQ ms v
 exact this
theorem Fz(B:Blt mg)(D:MthAt K C_Net "flows" "Net.flows" (jo 9 6) ["self"] f fd)(T:NetC K mg C_Net):FnOk P w K mg base iQ 1 f fd ["self"] (zb C_Net):=by
 have sc:FnScope ["self"] ["self"] (ja (jo 9 6)):=by walk_at "SC"
 refine D.F.ok sc (fun vs H Q E h=>?_) (fun cdv A outer s H vs Q E hr h=>?_)
 ·obtain⟨p,R,wf,hs,m,n,r,rfl,_⟩:=h
  rfl
 obtain⟨p,R,wf,hs,m,n,r,rfl,N,h⟩:=h
 have hu:=jl hr
 have hu0:_<PySem.cLine:=aD hu
 refine⟨_,(iN (jg (Dh (b:=false) rfl (kQ T.cl T.n_rooms (qv 0) rfl)))),?_⟩
 obtain⟨⟨dx,W,Hd,ls,e1,e2,e3,e4,e5,n1,n2,n3⟩,eR,net,hlen,hbig,hn⟩:=N
 simp_arith[e1,nu,eR]
 intro l hl
 rw[uA]
 exact h l _ hl (iL hl _) iF
theorem IL(B:Blt mg)(D:MthAt K C_Net "reached_from" "Net.reached_from" (jo 9 7) ["self","source"] f fd)(Dqi:MthAt K C_Net "spread" "Net.spread" (jo 9 4) ["self","source"] fqi dqi)(Gqi:FnOk P w K mg base iQ 1 fqi dqi ["self","source"] (vh C_Net))(T:NetC K mg C_Net):FnOk P w K mg base iQ 2 f fd ["self","source"] (zf C_Net):=by
 have sc:FnScope ["self","source"] ["self","source"] (ja (jo 9 7)):=by walk_at "SC"
 refine D.F.ok sc (fun vs H Q E h=>?_) (fun cdv A outer s H vs Q E hr h=>?_)
 ·obtain⟨p,s,R,wf,hs,m,n,r,rfl,_⟩:=h
  rfl
 obtain⟨p,s,R,wf,hs,m,n,r,rfl,N,s0,s1,h64,h⟩:=h
 have hu:=jl hr
 have hu0:_<PySem.cLine:=aD hu
 refine⟨_,(iN (jg (jh (AY rfl) rfl B.sorted cj (iC (lZ (qv 0) T.cl Dqi.m Gqi (hr.mono (by decide)) Dqi.b .nil iX (iC (qv 1) iD)) iD)))),?_⟩
 have N0:=N
 obtain⟨⟨dx,W,Hd,ls,e1,e2,e3,e4,e5,n1,n2,n3⟩,eR,net,hlen,hbig,hn⟩:=N
 simp_arith[e1,A7]
 refine⟨p,s,R,wf,hs,m,n,r,rfl,N0,s0,s1,fun d H1 hd q1 ed=>?_⟩
 have hcl:=Fl.m9 (r:=r) net ⟨s0,s1⟩ n
 refine⟨d,_,(Fl.jJ wf hs n s r).map (·.1),rfl,ed,?_,by rw[ae];exact gQ hcl h64,fun l ms hl pm _=>?_⟩
 ·unfold kx
  rw[bG,bG]
  rfl
 ·exact h l ms _ (q1.free hl) (q1.trans (iL hl _)) iF pm
theorem G6(B:Blt mg)(D:DefAt K mg "marked" (iI 15) ["places"] f fd):FnOk P w K mg base iQ 1 f fd ["places"] zc:=by
 have sc:FnScope ["places"] ["places"] (ja (iI 15)):=by walk_at "SC"
 refine D.F.ok sc (fun vs H Q E h=>?_) (fun cdv A outer s H vs Q E hr h=>?_)
 ·obtain⟨u,ns,rfl,_⟩:=h
  rfl
 obtain⟨u,ns,rfl,eu,nd,hl,h⟩:=h
 have hu:=jl hr
 have hu0:_<PySem.cLine:=aD hu
 refine⟨_,(iN (jg (nQ (rG rfl) rfl B.dict eG (iC (k6 (CpScope.of (N:=["place"]) (src:=[none]) (by rfl)) rfl (ka (qv 0)) (fun _ _ _ _=>(i3 (i:=0) (j5 (l:=["place"]) (by rfl)) rfl (Or.inl rfl))) (fun _ _ _ _=>mq) (fun _ _ _ _=>(kr (iC (qv 0) (iC ny iD))))) iD)))),?_⟩
 walk_at "D"
 refine kR (jS K u) H (fun R hR=>?_) (fun l hl0=>kG ns.length (fun i σ' Hc=>∃w1 zs,σ'=[w1]/\Same H Hc/\Hc l=some (.lst zs)/\Paired (PairAt Hc) zs (jD (ns.take i))) ⟨none,[],rfl,iL hl0 _,iF,.nil⟩ ?_ ?_)
 ·unfold j2
  walk_at "D"
  exact⟨u,rfl,⟨_,SqL.of eu⟩,hR⟩
 ·rintro i σ' Hc hi ⟨w1,zs,rfl,s2,ez,pz⟩
  have x1:ns[i]? =some ns[i]:=gE hi
  have X1:(ns.map V.int)[i]? =some (.int ns[i]):=by rw[aA,x1];rfl
  have hlz:zs.length=(jD (ns.take i)).length:=aP pz
  have hlz2:zs.length<=i:=by
   rw[hlz,jD,ae,aW]
   lia
  refine⟨⟨_,_,SqL.of (s2 _ _ eu),X1⟩,?_⟩
  rintro y H' ⟨rfl,hy⟩
  have E1:V.int ns[i]=y:=aO (X1.symm.trans (hy _ (SqL.of (s2 _ _ eu))))
  subst E1
  walk_at "D"
  intro t ht
  have ez2:=iL ht (.tup [.int ns[i],.bl true]) _ _ ez
  have t6:=l0 (ys:=zs++[.ref t]) ez2
  refine⟨zs,ez2,jk (by lia),_,zs++[.ref t],rfl,jt (s2.trans (iL ht _)) hl0,(by first|rfl|exact iF),?_⟩
  rw[jM x1,jD,ah]
  refine lN (Paired.mapP pz fun v p q=>?_) ?_
  ·obtain⟨b,e,q⟩:=q
   exact⟨b,e,t6 _ _ rfl (iL ht _ _ _ q)⟩
  ·exact⟨t,rfl,t6 _ _ rfl iF⟩
 ·rintro σ' Hc ⟨w1,zs,rfl,s2,ez,pz⟩
  refine⟨⟨_,SqL.of (s2 _ _ eu),by rw[ae];exact av _⟩,?_⟩
  rw[aX]at pz
  have hlz:zs.length=(jD ns).length:=aP pz
  rw[jD,ae]at hlz
  simp_arith[ez]
  refine⟨jD ns,pz,by lia,?_,fun d hd=>h d _ (s2.free hd) (s2.trans (iL hd _)) iF⟩
  unfold jD
  rw[bG]
  have e:((fun(x:iE×V)=>x.1)∘fun(n:Int)=>((Sum.inl n:iE),V.bl true))=fun(n:Int)=>(Sum.inl n:iE):=rfl
  rw[e]
  unfold List.Nodup at nd ⊢
  rw[bL]
  exact nd.imp fun q z=>q (cI z)
theorem HN(B:Blt mg)(D:MthAt K C_Net "reaching" "Net.reaching" (jo 9 8) ["self","sink"] f fd)(T:NetC K mg C_Net):FnOk P w K mg base iQ 1 f fd ["self","sink"] (xm C_Net):=by
 have sc:FnScope ["self","sink","met","todo","knot","way","tail"] ["self","sink"] (ja (jo 9 8)):=by walk_at "SC"
 refine D.F.ok sc (fun vs H Q E h=>?_) (fun cdv A outer s H vs Q E hr h=>?_)
 ·obtain⟨p,t,R,wf,hs,m,n,r,rfl,_⟩:=h
  rfl
 obtain⟨p,t,R,wf,hs,m,n,r,rfl,N,t0,t1,h64,h⟩:=h
 have hu:=jl hr
 have hu0:_<PySem.cLine:=aD hu
 refine⟨_,(iH (iR (i:=2) sc.nd rfl (Or.inl rfl) (uJ (vb (qv 1) ny uM) rfl rfl (fun z=>nomatch z) (by decide))) (iH (iR (i:=3) sc.nd rfl (Or.inl rfl) (jE (iC (qv 1) iD))) (iH (qd bo (yW (qv 3)) (iH (iR (i:=4) sc.nd rfl (Or.inl rfl) (C9 aZ PySem.F.slot_list_pop PySem.F.type_list_pop C3 (qv 3))) (iN (j4 bo rfl (ka (iO iP (kQ T.cl T.n_ways_from (qv 0) rfl) (qv 4) (fun _ _=>rfl))) (i3 (i:=5) sc.nd rfl (Or.inl rfl)) (iH (iR (i:=6) sc.nd rfl (Or.inl rfl) (iO iP (kQ T.cl T.n_heads (qv 0) rfl) (qv 5) (fun _ _=>rfl))) (iN (jK (PW.pt (x6 (jF oa (iO iP (kQ T.cl T.n_rooms (qv 0) rfl) (i5 tY (qv 5) iG) (fun _ _=>rfl)) iG (jr _)) (yX (mj (qe hu (qv 6) (qv 2)))))) (iH (nH hu (qv 2) (qv 6) ny) (iN (j0 (ko aZ br bq kH (qv 3) (iC (qv 6) iD))))) jL))))))) (iN (jg (jh (AY rfl) rfl B.sorted cj (iC (qv 2) iD))))))),?_⟩
 have N0:=N
 obtain⟨⟨dx,W,Hd,ls,e1,e2,e3,e4,e5,n1,n2,n3⟩,eR,net,hlen,hbig,hn⟩:=N
 refine iS fun R' hR=>?_
 walk_at "D"
 intro d hd
 walk_at "D"
 refine⟨iF,[((Sum.inl t:iE),V.bl true)],rfl,(by show 1<=15;decide),?_⟩
 rw[rM,show lW [] [((Sum.inl t:iE),V.bl true)]=jD [t]from rfl]
 have q1:=iL hd (.dK (jD [t]))
 have ed:upd H d (.dK (jD [t])) d=some (.dK (jD [t])):=iF
 generalize upd H d (.dK (jD [t]))=H1 at q1 ed
 subst hR
 refine iS fun R' hR=>?_
 walk_at "D"
 intro l hl
 have q2:=q1.trans (iL hl (.lst [.int t]))
 have ed2:=iL hl (.lst [.int t]) _ _ ed
 have el:upd H1 l (.lst [.int t]) l=some (.lst ([t].map V.int)):=iF
 have ld:l≠d:=(iU ed hl).symm
 have hlH:H l=none:=q1.free hl
 generalize upd H1 l (.lst [.int t])=H2 at q2 ed2 el
 subst hR
 refine iS fun R' hR=>?_
 refine rX (fun σ Hc=>∃(ms td:List Int) (v5 v6 v7:Option V),σ=[some (.ref p),some (.int t),some (.ref d),some (.ref l),v5,v6,v7]/\Same H Hc/\Hc d=some (.dK (jD ms))/\Hc l=some (.lst (td.map V.int))/\Fl.Bk wf hs r n t ms td none 0) (fun _ Hc=>match Hc d,Hc l with |some (.dK kv),some (.lst xs)=>2*(n-kv.length)+xs.length|_,_=>0) ⟨[t],[t],none,none,none,rfl,q2,ed2,el,.init ⟨t0,t1⟩⟩ ?_ ?_
 rotate_left
 ·intro σ Hc Q1 Q2 hq hc
  exact zW hq hc
 rintro σ Hc ⟨ms,td,v5,v6,v7,rfl,s3,ed3,el3,bk⟩
 have mkl:∀ns:List Int,(jD ns).length=ns.length:=fun ns=>ae _
 rcases List.eq_nil_or_concat td with rfl|⟨td0,v,rfl⟩
 ·have hne:(([]:List Int).map V.int).isEmpty=true:=rfl
  simp_arith[el3,hne]
  subst hR
  walk_at "D"
  refine⟨d,_,ms,rfl,ed3,?_,by have:=bk.len;lia,fun l2 ms2 hl2 pm _=>?_⟩
  ·unfold jD
   rw[bG]
   rfl
  ·exact h l2 ms2 _ (s3.free hl2) (s3.trans (iL hl2 _)) iF (bk.fin pm)
 ·rw [List.concat_eq_append]at el3 bk
  have hne:((td0++[v]).map V.int).isEmpty=false:=by rw[ah];cases td0<;>rfl
  have hml:=bk.len
  have bk1:=bk.pop
  simp_arith[el3,hne]
  refine⟨⟨l,_,rfl,el3⟩,l,_,.int v,rfl,rfl,el3,?_,?_⟩
  ·rw[ah,aH]
   show((td0.map V.int)++[V.int v])[(td0.map V.int).length+1-1]? =_
   rw[Nat.add_sub_cancel,cA (av _),Nat.sub_self]
   rfl
  have edl:((td0++[v]).map V.int).dropLast=td0.map V.int:=by rw[ah];exact List.dropLast_concat
  rw[edl,ed3]
  have s4:Same H (upd Hc l (.lst (td0.map V.int))):=jt s3 hlH
  have ed4:upd Hc l (.lst (td0.map V.int)) d=some (.dK (jD ms)):=by rw[iJ (cG ld)];exact ed3
  have el4:upd Hc l (.lst (td0.map V.int)) l=some (.lst (td0.map V.int)):=iF
  generalize upd Hc l (.lst (td0.map V.int))=H4 at s4 ed4 el4
  have hvb:=bk1.bd v (bk1.xc v rfl).1
  have hla:ls[v.toNat]? =some (ls[v.toNat]'(by lia)):=gE _
  generalize ls[v.toNat]'(by lia)=wa at hla
  have ewa:=(e4 _ _ hla).1
  rw[show((v.toNat:Nat):Int)=v by lia]at ewa
  have hwa:je (ls.map V.ref) v=some (.ref wa):=by have:=ub hla;rw[show((v.toNat:Nat):Int)=v by lia]at this;exact this
  refine ku (jS K wa) H4 (fun R3 hR3=>?_) (k7 (K:=K) (a:=wa) (xs:=nv (wf v)) (fun i σ H5=>∃(ms1 td1:List Int) (v6 v7:Option V),σ=[some (.ref p),some (.int t),some (.ref d),some (.ref l),some (.int v),v6,v7]/\Same H H5/\H5 d=some (.dK (jD ms1))/\H5 l=some (.lst (td1.map V.int))/\Fl.Bk wf hs r n t ms1 td1 (some v) i/\2*(n-ms1.length)+td1.length<=2*(n-ms.length)+td0.length) ⟨ms,td0,v6,v7,rfl,s4,ed4,el4,bk1,av _⟩ (fun i σ H5 _ ⟨_,_,_,_,_,s5,_⟩=>SqL.of (s5 _ _ ewa)) ?_ ?_)
  ·unfold j2
   simp_arith[iW,s4 _ _ e1,tO,s4 _ _ e2,hwa]
   exact⟨wa,rfl,⟨_,SqL.of (s4 _ _ ewa)⟩,hR3⟩
  ·rintro i x σ H5 hx ⟨ms1,td1,v6,v7,rfl,s5,ed5,el5,bk5,hm5⟩
   unfold nv at hx
   rw[aA]at hx
   obtain⟨w,hw,rfl⟩:=bN.mp hx
   have hwm:=net.from' v w (ao hw)
   have hwm2:=Fl.nh hwm.1
   have hh:je (hs.map V.int) (w:Int)=some (.int (Fl.at' hs w)):=mQ (by rw[net.len];exact hwm.1)
   have hr':je (r.map V.int) ((Fl.iV w:Nat):Int)=some (.int (Fl.at' r (Fl.iV w))):=mQ (by rw[hlen];exact hwm2)
   have hb:=net.knot w hwm.1
   have hm1:=bk5.len
   have ht1:=bk5.tl
   simp_arith[iW,s5 _ _ e1,pH,nu,s5 _ _ e5,hh,vn,s5 _ _ eR,hr']
   by_cases c1:0<Fl.at' r (Fl.iV w)
   ·rw [az c1,aw rfl]
    simp_arith[ed5,nB]
    by_cases c2:Fl.at' hs w∈ms1
    ·rw[az c2]
     walk_at "D"
     exact⟨ms1,td1,_,_,rfl,s5,(by first|rfl|exact ed5),el5,bk5.skip hw fun _=>c2,hm5⟩
    ·rw[aC c2]
     walk_at "D"
     have bk6:=bk5.put hw c1 hb c2
     have epk:jC (jD ms1) (Sum.inl (Fl.at' hs w):iE) (.bl true)=jD (ms1++[Fl.at' hs w]):=by
      rw[vc]
      ·unfold jD;rw[ah];rfl
      ·have:=nB ms1 (Fl.at' hs w)
       rw[aC c2]at this
       cases e:jb (jD ms1) (Sum.inl (Fl.at' hs w):iE)with
       |none=>rfl
       |some x=>rw[e]at this;cases this
     simp_arith[ed5,epk]
     refine⟨jk (by rw[mkl];lia),?_⟩
     have el6:upd H5 d (.dK (jD (ms1++[Fl.at' hs w]))) l=some (.lst (td1.map V.int)):=by rw[iJ ld];exact el5
     refine⟨⟨l,_,rfl,el6⟩,?_⟩
     rw[el6]
     dsimp only
     refine⟨jk (by rw[ae];lia),ms1++[Fl.at' hs w],td1++[Fl.at' hs w],_,_,rfl,jt (jt s5 hd) hlH,?_,?_,bk6,?_⟩
     ·rw[iJ (cG ld),iF]
     ·rw[iF,ah];rfl
     ·have:=bk6.len
      rw[aH]at this ⊢
      rw[aH]
      simp only[List.length_cons,List.length_nil]at this ⊢
      lia
   ·rw[aC c1,au (by decide)]
    walk_at "D"
    exact⟨ms1,td1,_,_,rfl,s5,(by first|rfl|exact ed5),el5,bk5.skip hw fun z=>absurd z c1,hm5⟩
  ·rintro σ H5 ⟨ms1,td1,v6,v7,rfl,s5,ed5,el5,bk5,hm5⟩
   walk_at "D"
   refine⟨⟨ms1,td1,_,_,_,rfl,s5,ed5,el5,bk5.done (by unfold nv;rw[ae];exact av _)⟩,?_⟩
   rw[ed5,el5]
   dsimp only
   rw[mkl,mkl,ae,ae,aH]
   simp only[List.length_cons,List.length_nil]
   lia
def vT(hs:List (Int×Int))(n:Int):Int:=match jb (jd hs) (Sum.inl n:iE)with
 |some (.int i)=>i
 |_=>0
theorem El{hs:List (Int×Int)}{n:Int}(hn:(hs.map (·.1)).Nodup)(h:n∈hs.map (·.1)):jb (jd hs) (Sum.inl n:iE)=some (.int (vT hs n)):=by
 obtain⟨p,hp,rfl⟩:=aB.mp h
 have e:=qc hn hp
 unfold vT
 rw[e]
theorem TiOk.in{kvs:List (iE×V)}:∀{ts:List (Int×Int)} {q:Int×Int},TiOk kvs q ts->∀p∈ts,p.1<p.2/\j6 kvs p.1=true/\j6 kvs p.2=true
 |[],_,_,_,h=>by cases h
 |u::r,q,h,p,hp=>by
  rcases aR.mp hp with e|hp
  ·rw[e];exact h.1.2
  ·exact TiOk.in h.2 p hp
theorem rB:∀{ps:List (Int×Int)} {n:Int},j6 (jd ps) n=true->n∈ps.map (·.1)
 |[],_,h=>by cases h
 | p::r,n,h=>by
  by_cases c:p.1=n
  ·rw [<- c]; exact aJ
  ·refine ay _ (rB ?_)
   unfold j6 jd jb at h
   rw[aq,List.find?_cons]at h
   dsimp only at h
   rw[aC (fun z=>c (cI z))]at h
   exact h
theorem mx{α:Type}{l:List α}{i:Nat}{a d:α}(h:l[i]? =some a):l.getD i d=a:=by rw[aI,h];rfl
theorem zE{xs:List V}{k:Nat}(h1:k<=xs.length):kn xs (some (k:Int)) none=xs.drop k:=by
 unfold kn HT.i4
 simp only[au (show ¬(k:Int)<0 by lia)]
 rw[Nat.min_eq_left (by lia)]
 exact eJ (by rw[cU];exact av _)
def jn(ps:List (Int×Int))(k:Nat):List (Int×Int):=(List.range k).map fun i=>((ps.getD i (0,0)).1,2+(i:Int))
theorem uQ(ps:List (Int×Int)):∀k,k<=ps.length->(jn ps k).map (·.1)=(ps.take k).map (·.1)
 |0,_=>by simp[jn]
 |k+1,h=>by
  have hk:ps[k]? =some ps[k]:=gE (by lia)
  have ih:=uQ ps k (by lia)
  unfold jn at ih ⊢
  rw[bF,ah,ah,ih,jM hk,ah,List.map_singleton,List.map_singleton,List.map_singleton,mx hk]
def i6(ps:List (Int×Int))(n:Int):Int:=vT (jn ps ps.length) n
def kC(ps:List (Int×Int)):Int:=1+(ps.map (·.2)).sum
theorem uv{ps ts:List (Int×Int)}(wk:WebOk ps ts):((jn ps ps.length).map (·.1)).Nodup:=by
 rw[uQ ps ps.length (av _),aX]
 exact wk.p.nodup
theorem oK{ps ts:List (Int×Int)}(wk:WebOk ps ts){n:Int}(h:n∈ps.map (·.1)):jb (jd (jn ps ps.length)) (Sum.inl n:iE)=some (.int (i6 ps n)):=by
 refine El (uv wk) ?_
 rw[uQ ps ps.length (av _),aX]
 exact h
theorem pW{ps ts:List (Int×Int)}(wk:WebOk ps ts){i:Nat}{p:Int}(h:(ps.map (·.1))[i]? =some p):i6 ps p=2+(i:Int):=by
 have hi:=(ag.mp h).1
 rw[ae]at hi
 have hm:(p,2+(i:Int))∈jn ps ps.length:=by
  unfold jn
  refine aB.mpr ⟨i,aV.mpr hi,?_⟩
  rw[aA,gE hi]at h
  have h2:ps[i].1=p:=aO h
  rw[mx (gE hi),h2]
 have e:=qc (uv wk) hm
 rw[oK wk (ao h)]at e
 exact V.int.inj (aO e)
theorem rh{ps ts:List (Int×Int)}(wk:WebOk ps ts){p:Int}(h:p∈ps.map (·.1)):2<=i6 ps p/\i6 ps p<2+(ps.length:Int):=by
 obtain⟨i,hi,e⟩:=aS.mp h
 rw[pW wk (i:=i) (by rw[gE hi,e])]
 rw[ae]at hi
 lia
theorem nJ{ps ts:List (Int×Int)}(wk:WebOk ps ts):∀t∈ts,t.1∈ps.map (·.1)/\t.2∈ps.map (·.1):=fun t ht=>by
 obtain⟨_,a,b⟩:=wk.t.in t ht
 exact⟨rB a,rB b⟩
theorem PlOk.pos:∀{ps:List (Int×Int)} {l s:Int},PlOk l s ps->∀p∈ps,1<=p.2
 |[],_,_,_,p,h=>by cases h
 |q::r,l,s,h,p,hp=>by
  rcases aR.mp hp with e|hp
  ·rw[e];exact h.1.2.2.1
  ·exact PlOk.pos h.2 p hp
def jy(fs:List Int)(t:Int×Int):Int:=if t.1∈fs then t.1 else t.2
def jA(fs:List Int)(t:Int×Int):Int:=if t.1∈fs then t.2 else t.1
def lu(ps:List (Int×Int))(fs:List Int)(p:Int×Int):Fl.jU:=if p.1∈fs then(0,i6 ps p.1,p.2)else(i6 ps p.1,1,p.2)
def qm(ps:List (Int×Int))(fs:List Int)(t:Int×Int):Fl.jU:=(i6 ps (jy fs t),i6 ps (jA fs t),kC ps)
def iZ(ps ts:List (Int×Int))(fs:List Int):List Fl.jU:=ps.map (lu ps fs)++ts.map (qm ps fs)
theorem EM{ps ts:List (Int×Int)}(wk:WebOk ps ts):0<=kC ps:=by
 have h:0<=(ps.map (·.2)).sum:=by
  have:=Fl.qF (f:=fun _=>(0:Int)) (g:=fun p:Int×Int=>p.2) (l:=ps) fun p hp=>by have:=wk.p.pos p hp;lia
  rw[Fl.lH]at this
  exact this
 unfold kC
 lia
theorem pM{ps ts:List (Int×Int)}(wk:WebOk ps ts)(fs:List Int):∀t∈ts,jy fs t∈ps.map (·.1)/\jA fs t∈ps.map (·.1):=fun t ht=>by
 obtain⟨a,b⟩:=nJ wk t ht
 unfold jy jA
 split
 ·exact⟨a,b⟩
 ·exact⟨b,a⟩
theorem uU{ps ts:List (Int×Int)}(wk:WebOk ps ts)(fs:List Int):∀a∈iZ ps ts fs,((0<=a.1/\a.1<((2+ps.length:Nat):Int))/\0<=a.2.1/\a.2.1<((2+ps.length:Nat):Int))/\0<=a.2.2:=fun a ha=>by
 have e:((2+ps.length:Nat):Int)=2+(ps.length:Int):=by lia
 rw[e]
 unfold iZ at ha
 rcases aQ.mp ha with h|h
 ·obtain⟨p,hp,rfl⟩:=aB.mp h
  have b:=rh wk (aB.mpr ⟨p,hp,rfl⟩:p.1∈ps.map (·.1))
  have c:=wk.p.pos p hp
  unfold lu
  split<;>dsimp only<;>lia
 ·obtain⟨t,ht,rfl⟩:=aB.mp h
  obtain⟨m1,m2⟩:=pM wk fs t ht
  have b1:=rh wk m1
  have b2:=rh wk m2
  have:=EM wk
  unfold qm
  dsimp only
  lia
theorem rY(ps ts:List (Int×Int))(fs:List Int):(iZ ps ts fs).length=ps.length+ts.length:=by
 unfold iZ
 rw[aH,ae,ae]
def uR:Sp:=fun vs H Q _=>∃v ps ts,vs=[v]/\jdc H v ps ts/\WebOk ps ts/\∀d H',H d=none->Same H H'->H' d=some (.dK (jd (jn ps ps.length)))->Q (.ref d) H'
def kg(ps:List (Int×Int))(fs ns:List Int):List Int:=(ps.map (·.1)).filter fun n=>decide (decide (n∈fs)≠decide (n∈ns))
def xl:Sp:=fun vs H Q _=>∃v ps ts f fs g ns,vs=[v,.ref f,.ref g]/\jdc H v ps ts/\ps.length<=40/\H f=some (.dK (jD fs))/\H g=some (.dK (jD ns))/\∀l H',H l=none->Same H H'->H' l=some (.lst ((kg ps fs ns).map V.int))->Q (.ref l) H'
def kS(gs:List Int)(n:Nat)(ts:List (Int×Int))(k:Nat):List (Int×Int×Int):=((List.range k).map fun j=>((ts.getD j (0,0)).1,(ts.getD j (0,0)).2,2*Fl.at' gs (n+j))).filter fun d=>decide (d.2.2>0)
def yf:Sp:=fun vs H Q _=>∃v ps ts fl gs,vs=[v,.ref fl]/\jdc H v ps ts/\WebOk ps ts/\H fl=some (.lst (gs.map V.int))/\gs.length=ps.length+ts.length/\∀l zs H',H l=none->Same H H'->H' l=some (.lst zs)->kB H' zs (kS gs ps.length ts ts.length)->Q (.ref l) H'
def Ah(C:Addr):Sp:=fun vs H Q _=>∃v ps ts f fs,vs=[v,.ref f]/\jdc H v ps ts/\WebOk ps ts/\H f=some (.dK (jD fs))/\∀p R H',H R=none->Same H H'->Nt C H' p R (Fl.jO (iZ ps ts fs)) (Fl.i7 (iZ ps ts fs)) (iZ ps ts fs).length (2+ps.length) (Fl.jT (iZ ps ts fs))->Q (.ref p) H'
theorem HR(B:Blt mg)(D:DefAt K mg "spots_of" (iI 37) ["web"] f fd)(C2:Cst2 mg e1 e2 e3):FnOk P w K mg base iQ 1 f fd ["web"] uR:=by
 have sc:FnScope ["web"] ["web"] (ja (iI 37)):=by walk_at "SC"
 refine D.F.ok sc (fun vs H Q E h=>?_) (fun cdv A outer s H vs Q E hr h=>?_)
 ·obtain⟨v,ps,ts,rfl,_⟩:=h
  rfl
 obtain⟨v,ps,ts,rfl,hw,wk,h⟩:=h
 obtain⟨u,pa,ta,xs,ys,rfl,hu1,hpa,hta,hxs,hys⟩:=hw
 have hxl:=aP hxs
 have hu:=jl hr
 have hu0:_<PySem.cLine:=aD hu
 refine⟨_,(iN (jg (nQ (rG rfl) rfl B.dict eG (iC (k6 (CpScope.of (N:=["at","pair"]) (src:=[none,none]) (by rfl)) rfl (uL rfl B.enumerate (iC (iO iP (qv 0) iG (fun _ _=>rfl)) iD)) (fun _ _ _ _=>(kE (n:=2) rfl (js (i3 (i:=0) (j5 (l:=["at","pair"]) (by rfl)) rfl (Or.inl rfl)) (js (i3 (i:=1) (j5 (l:=["at","pair"]) (by rfl)) rfl (Or.inl rfl)) kF)))) (fun _ _ _ _=>mq) (fun _ _ _ _=>(kr (iC (iO iP (qv 1) iG (fun _ _=>rfl)) (iC (i5 kl (lD (v:=.int 2) rfl C2.FIRST ⟨_,rfl⟩) (qv 0)) iD))))) iD)))),?_⟩
 have hpl:=wk.pl
 walk_at "D"
 refine kR (oY K pa) H (fun R2 hR2=>?_) (fun z hz0=>kG ps.length (fun i σ' Hc=>∃w1 w2 zs,σ'=[w1,w2]/\Same H Hc/\Hc z=some (.lst zs)/\Prs Hc zs (jn ps i)) ⟨none,none,[],rfl,iL hz0 _,iF,.nil⟩ ?_ ?_)
 ·unfold BM
  simp_arith[iW,hu1,jw]
  exact⟨pa,rfl,⟨_,SqL.of hpa⟩,hR2⟩
 ·rintro i σ' Hc hi ⟨w1,w2,zs,rfl,s2,ez,pz⟩
  have s3:=s2
  have x1:xs[i]? =some (xs[i]'(by lia)):=gE _
  have z1:SqL K Hc pa xs:=SqL.of (s3 _ _ hpa)
  refine⟨⟨_,_,z1,x1⟩,?_⟩
  rintro x H' ⟨t,y,ht,rfl,rfl,g⟩
  obtain⟨p,hp,px⟩:=kI hxs (g _ z1)
  have q4:=iL ht (.tup [.int i,y])
  have s4:=s3.trans q4
  obtain⟨b,rfl,eb⟩:=px.same s4
  have et:upd Hc t (.tup [.int i,.ref b]) t=some (.tup [.int i,.ref b]):=iF
  have ez4:=q4 _ _ ez
  have pz4:=Prs.same q4 pz
  have s24:=s2.trans q4
  generalize upd Hc t (.tup [.int i,.ref b])=H4 at q4 s4 eb et ez4 pz4 s24
  have hzl:zs.length=i:=by rw[aP pz];unfold jn;rw[ae,bC]
  simp_arith[et,iW,eb,jw]
  intro t2 ht2
  have q5:=iL ht2 (.tup [.int p.1,.int (2+(i:Int))])
  have ez5:=q5 _ _ ez4
  have t6:=l0 (ys:=zs++[.ref t2]) ez5
  refine⟨zs,ez5,jk (by lia),_,_,zs++[.ref t2],rfl,jt (s24.trans q5) hz0,(by first|rfl|exact iF),?_⟩
  have e:jn ps (i+1)=jn ps i++[(p.1,2+(i:Int))]:=by
   unfold jn
   rw[bF,ah,List.map_singleton,mx hp]
  rw[e]
  exact lN (Prs.tups t6 (Prs.same q5 pz4)) ⟨t2,rfl,t6 _ _ rfl iF⟩
 rintro σ' H2 ⟨w1,w2,zs,rfl,s2,ez,pz⟩
 have s3:=s2
 refine⟨⟨_,SqL.of (s3 _ _ hpa),by lia⟩,?_⟩
 have hzl:zs.length=ps.length:=by rw[aP pz];unfold jn;rw[ae,bC]
 simp_arith[ez]
 refine⟨jd (jn ps ps.length),u9 pz,by lia,A6 (uv wk),fun d hd0=>?_⟩
 have s4:=s3.trans (iL hd0 (.dK (jd (jn ps ps.length))))
 have ed:upd H2 d (.dK (jd (jn ps ps.length))) d=some (.dK (jd (jn ps ps.length))):=iF
 generalize upd H2 d (.dK (jd (jn ps ps.length)))=H3 at s4 ed
 exact h d H3 (s3.free hd0) s4 ed
theorem Iw(B:Blt mg)(D:DefAt K mg "set_of_cut" (iI 38) ["web","first","near_source"] f fd):FnOk P w K mg base iQ 1 f fd ["web","first","near_source"] xl:=by
 have sc:FnScope ["web","first","near_source"] ["web","first","near_source"] (ja (iI 38)):=by walk_at "SC"
 refine D.F.ok sc (fun vs H Q E h=>?_) (fun cdv A outer s H vs Q E hr h=>?_)
 ·obtain⟨v,ps,ts,f,fs,g,ns,rfl,_⟩:=h
  rfl
 obtain⟨v,ps,ts,f1,fs,g1,ns,rfl,hw,h40,ef,eg,h⟩:=h
 obtain⟨u,pa,ta,xs,ys,rfl,hu1,hpa,hta,hxs,hys⟩:=hw
 have hxl:=aP hxs
 have hu:=jl hr
 have hu0:_<PySem.cLine:=aD hu
 refine⟨_,(iN (jg (k6 (CpScope.of (N:=["place","price","first","near_source"]) (src:=[none,none,some 1,some 2]) (by rfl)) rfl (ka (iO iP (qv 0) iG (fun _ _=>rfl))) (fun _ _ _ _=>(kE (n:=2) rfl (js (i3 (i:=0) (j5 (l:=["place","price","first","near_source"]) (by rfl)) rfl (Or.inl rfl)) (js (i3 (i:=1) (j5 (l:=["place","price","first","near_source"]) (by rfl)) rfl (Or.inl rfl)) kF)))) (fun _ _ _ _=>(nL (jF pe (qZ (mO hu (qv 0) (qv 2))) (qZ (mO hu (qv 0) (qv 3))) (jr _)))) (fun _ _ _ _=>(qv 0))))),?_⟩
 walk_at "D"
 refine kR (jS K pa) H (fun R2 hR2=>?_) (fun z hz=>kG ps.length (fun i σ' Hc=>∃w1 w2,σ'=[w1,w2,some (.ref f1),some (.ref g1)]/\Same H Hc/\Hc z=some (.lst ((kg (ps.take i) fs ns).map V.int))) ⟨none,none,rfl,iL hz _,iF⟩ ?_ ?_)
 ·unfold j2
  simp_arith[iW,hu1,jw]
  exact⟨pa,rfl,⟨_,SqL.of hpa⟩,hR2⟩
 ·rintro i σ' Hc hi ⟨w1,w2,rfl,s4,ez⟩
  have x1:xs[i]? =some (xs[i]'(by lia)):=gE _
  have z1:SqL K Hc pa xs:=SqL.of (s4 _ _ hpa)
  refine⟨⟨_,_,z1,x1⟩,?_⟩
  rintro y H' ⟨rfl,hy⟩
  obtain⟨q,hq,pq⟩:=kI hxs (hy _ z1)
  obtain⟨t,rfl,ht⟩:=pq.same s4
  have hcl:(kg (ps.take i) fs ns).length<=200:=bz (bR _ _) (by rw[ae,aW];lia)
  have hcs:kg (ps.take (i+1)) fs ns=kg (ps.take i) fs ns++(if(!decide (decide (q.1∈fs)=decide (q.1∈ns)))=true then[q.1]else[]):=by
   unfold kg
   rw[jM hq,ah,dq,List.map_singleton,cQ,List.filter_nil]
   congr 1
   by_cases c:decide (q.1∈fs)=decide (q.1∈ns)<;>simp[c]
  simp_arith[ht,s4 _ _ ef,s4 _ _ eg,nB]
  cases c:(!decide (decide (q.1∈fs)=decide (q.1∈ns)))with
  | true=>
   rw[c,aw rfl]at hcs
   rw[aw rfl]
   refine⟨_,ez,?_,_,_,rfl,jt s4 hz,?_⟩
   ·rw[ae]
    exact jk (by lia)
   ·rw[iF,hcs,ah]
    rfl
  |false=>
   rw[c,au (by decide),bt]at hcs
   rw[au (by decide),hcs]
   exact⟨_,_,rfl,s4,ez⟩
 rintro σ' H1 ⟨w1,w2,rfl,s1,ez⟩
 refine⟨⟨_,SqL.of (s1 _ _ hpa),by lia⟩,?_⟩
 rw[aX]at ez
 exact h z H1 hz s1 ez
theorem Ih(B:Blt mg)(D:DefAt K mg "even_dues" (iI 39) ["web","flows"] f fd):FnOk P w K mg base iQ 1 f fd ["web","flows"] yf:=by
 have sc:FnScope ["web","flows","across"] ["web","flows"] (ja (iI 39)):=by walk_at "SC"
 refine D.F.ok sc (fun vs H Q E h=>?_) (fun cdv A outer s H vs Q E hr h=>?_)
 ·obtain⟨v,ps,ts,fl,gs,rfl,_⟩:=h
  rfl
 obtain⟨v,ps,ts,fl,gs,rfl,hw,wk,ef,hfl,h⟩:=h
 obtain⟨u,pa,ta,xs,ys,rfl,hu1,hpa,hta,hxs,hys⟩:=hw
 have hxl:=aP hxs
 have hyl:=aP hys
 have hu:=jl hr
 have hu0:_<PySem.cLine:=aD hu
 refine⟨_,(iH (iR (i:=2) sc.nd rfl (Or.inl rfl) (oO qQ (qv 1) (oJ (jh kY rfl B.len bP (iC (iO iP (qv 0) iG (fun _ _=>rfl)) iD))) oH)) (iN (jg (k6 (CpScope.of (N:=["tie","amount"]) (src:=[none,none]) (by rfl)) rfl (EK rfl B.zip (iC (iO iP (qv 0) iG (fun _ _=>rfl)) (iC (qv 2) iD))) (fun _ _ _ _=>(kE (n:=2) rfl (js (i3 (i:=0) (j5 (l:=["tie","amount"]) (by rfl)) rfl (Or.inl rfl)) (js (i3 (i:=1) (j5 (l:=["tie","amount"]) (by rfl)) rfl (Or.inl rfl)) kF)))) (fun _ _ _ _=>(nL (jF oa (qv 1) iG (jr _)))) (fun _ _ _ _=>(kr (iC (iO iP (qv 0) iG (fun _ _=>rfl)) (iC (iO iP (qv 0) iG (fun _ _=>rfl)) (iC (i5 mi iG (qv 1)) iD))))))))),?_⟩
 have hpl:=wk.pl
 have htl:=wk.tl
 refine iS fun R' hR=>?_
 simp_arith[iW,hu1,jw,hpa,ef]
 intro ac hac
 rw [show (xs.length:Int) = ((ps.length:Nat):Int) by lia,zE (by rw [ae]; lia),<- List.map_drop]
 have q1:=iL hac (.lst ((gs.drop ps.length).map V.int))
 have ea:upd H ac (.lst ((gs.drop ps.length).map V.int)) ac=some (.lst ((gs.drop ps.length).map V.int)):=iF
 generalize upd H ac (.lst ((gs.drop ps.length).map V.int))=H1 at q1 ea
 have hgl:(gs.drop ps.length).length=ts.length:=by rw[cU];lia
 have hgat:∀k,k<ts.length->(gs.drop ps.length)[k]? =some (Fl.at' gs (ps.length+k)):=fun k hk=>by
  unfold Fl.at'
  rw[List.getElem?_drop,aI,gE (by lia)]
  rfl
 subst hR
 walk_at "D"
 refine kR (sT true K ta ac) H1 (fun R2 hR2=>?_) (fun l hl0=>kG ts.length (fun i σ' Hc=>∃w1 w2 zs,σ'=[w1,w2]/\Same H1 Hc/\Hc l=some (.lst zs)/\kB Hc zs (kS gs ps.length ts i)) ⟨none,none,[],rfl,iL hl0 _,iF,.nil⟩ ?_ ?_)
 ·unfold BJ
  simp_arith[iW,q1 _ _ hu1,jX]
  exact⟨true,ta,ac,rfl,⟨_,SqL.of (q1 _ _ hta)⟩,⟨_,SqL.of ea⟩,hR2⟩
 ·rintro i σ' Hc hi ⟨w1,w2,zs,rfl,s6,el,pz⟩
  have s7:=q1.trans s6
  have z1:kM true K Hc ta ys:=SqL.of (s7 _ _ hta)
  have z2:kM true K Hc ac ((gs.drop ps.length).map V.int):=SqL.of (s6 _ _ ea)
  have x1:ys[i]? =some (ys[i]'(by lia)):=gE _
  have x2:((gs.drop ps.length).map V.int)[i]? =some (.int (Fl.at' gs (ps.length+i))):=by rw[aA,hgat i hi];rfl
  refine⟨⟨_,_,_,_,z1,z2,x1,x2⟩,?_⟩
  rintro x H' ⟨t,y1,y2,ht,rfl,rfl,g1,g2⟩
  have E2:=aO (x2.symm.trans (g2 _ z2))
  subst E2
  obtain⟨tt,htt,pt⟩:=kI hys (g1 _ z1)
  generalize hgi:Fl.at' gs (ps.length+i)=gi at*
  have q8:=iL ht (.tup [y1,.int gi])
  have s8:=s7.trans q8
  obtain⟨tb,rfl,etb⟩:=pt.same s8
  have et:upd Hc t (.tup [.ref tb,.int gi]) t=some (.tup [.ref tb,.int gi]):=iF
  have el8:=q8 _ _ el
  have pz8:=k8 q8.tups pz
  have s68:=s6.trans q8
  generalize upd Hc t (.tup [.ref tb,.int gi])=H8 at q8 s8 etb et el8 pz8 s68
  have hdu:kS gs ps.length ts (i+1)=kS gs ps.length ts i++(if gi>0 then[(tt.1,tt.2,2*gi)]else[]):=by
   unfold kS
   rw[bF,ah,dq,List.map_singleton,mx htt,hgi]
   congr 1
   rw[cQ]
   by_cases c:gi>0
   ·rw[aw c,aw (az (show 2*gi>0 by lia))];rfl
   ·rw[au c,au (by simp;lia)];rfl
  have hzl:=aP pz
  have hzl2:zs.length<=i:=by
   rw[hzl]
   unfold kS
   refine bz (bR _ _) ?_
   rw[ae,bC]
   exact av _
  simp_arith[et]
  refine lr (fun c=>?_) (fun c=>?_)
  ·rw[aw (bK c)]at hdu
   simp_arith[iW,etb,jw,jX]
   refine⟨mZ (by decide) (by decide),?_⟩
   intro t2 ht2
   have q9:=iL ht2 (.tup [.int tt.1,.int tt.2,.int (2*gi)])
   have el9:=q9 _ _ el8
   have t9:=l0 (ys:=zs++[.ref t2]) el9
   refine⟨zs,el9,jk (by lia),_,_,zs++[.ref t2],rfl,jt (s68.trans q9) hl0,(by first|rfl|exact iF),?_⟩
   rw[hdu]
   exact lN (k8 t9 (k8 q9.tups pz8)) ⟨t2,rfl,t9 _ _ rfl iF⟩
  ·rw[au (fun z=>c (az z)),bt]at hdu
   rw[hdu]
   exact⟨_,_,zs,rfl,s68,el8,pz8⟩
 ·rintro σ' Hc ⟨w1,w2,zs,rfl,s6,el,pz⟩
  refine⟨⟨_,_,SqL.of ((q1.trans s6) _ _ hta),SqL.of (s6 _ _ ea),.inl (by lia)⟩,?_⟩
  exact h l zs Hc (q1.free hl0) (q1.trans s6) el pz
theorem Ir(B:Blt mg)(D:DefAt K mg "net_across" (iI 36) ["web","first"] f fd)(Dqh:DefAt K mg "spots_of" (iI 37) ["web"] fqh dqh)(Gqh:FnOk P w K mg base iQ 1 fqh dqh ["web"] uR)(Dqo:MthAt K C_Net "__init__" "Net.__init__" (jo 9 0) ["self","many","arcs"] fqo dqo)(Gqo:FnOk P w K mg base iQ 2 fqo dqo ["self","many","arcs"] (yh C_Net))(T:NetC K mg C_Net)(C2:Cst2 mg e1 e2 e3)(MK:Mk K C_Net fqo):FnOk P w K mg base iQ 5 f fd ["web","first"] (Ah C_Net):=by
 have sc:FnScope ["web","first","plenty","spots","arcs","place","price","one","other","tail","head"] ["web","first"] (ja (iI 36)):=by walk_at "SC"
 refine D.F.ok sc (fun vs H Q E h=>?_) (fun cdv A outer s H vs Q E hr h=>?_)
 ·obtain⟨v,ps,ts,f,fs,rfl,_⟩:=h
  rfl
 obtain⟨v,ps,ts,f1,fs,rfl,hw,wk,ef,h⟩:=h
 obtain⟨u,pa,ta,xs,ys,rfl,hu1,hpa,hta,hxs,hys⟩:=id hw
 have hxl:=aP hxs
 have hyl:=aP hys
 have hu:=jl hr
 have hu0:_<PySem.cLine:=aD hu
 refine⟨_,(iH (iR (i:=2) sc.nd rfl (Or.inl rfl) (i5 kl iG (jh (xw rfl) rfl B.sum PyProof.Rows.boot_sum (iC (k6 (CpScope.of (N:=["place","price"]) (src:=[none,none]) (by rfl)) rfl (ka (iO iP (qv 0) iG (fun _ _=>rfl))) (fun _ _ _ _=>(kE (n:=2) rfl (js (i3 (i:=0) (j5 (l:=["place","price"]) (by rfl)) rfl (Or.inl rfl)) (js (i3 (i:=1) (j5 (l:=["place","price"]) (by rfl)) rfl (Or.inl rfl)) kF)))) (fun _ _ _ _=>mq) (fun _ _ _ _=>(qv 1))) iD)))) (iH (iR (i:=3) sc.nd rfl (Or.inl rfl) (i8 Gqh (hr.mono (by decide)) rfl Dqh.m Dqh.F.kp Dqh.b .nil iX (iC (qv 0) iD))) (iH (iR (i:=4) sc.nd rfl (Or.inl rfl) (jE iD)) (iH (j4 bo rfl (ka (iO iP (qv 0) iG (fun _ _=>rfl))) (kE (n:=2) rfl (js (i3 (i:=5) sc.nd rfl (Or.inl rfl)) (js (i3 (i:=6) sc.nd rfl (Or.inl rfl)) kF))) (iN (j0 (ko aZ br bq kH (qv 4) (iC (rR (mj (mO hu (qv 5) (qv 1))) (kr (iC (lD (v:=.int 0) rfl C2.SOURCE ⟨_,rfl⟩) (iC (kP hu (qv 3) (qv 5) (fun _ _=>rfl)) (iC (qv 6) iD)))) (kr (iC (kP hu (qv 3) (qv 5) (fun _ _=>rfl)) (iC (lD (v:=.int 1) rfl C2.SINK ⟨_,rfl⟩) (iC (qv 6) iD))))) iD))))) (iH (j4 bo rfl (ka (iO iP (qv 0) iG (fun _ _=>rfl))) (kE (n:=2) rfl (js (i3 (i:=7) sc.nd rfl (Or.inl rfl)) (js (i3 (i:=8) sc.nd rfl (Or.inl rfl)) kF))) (iH (iR (i:=9) sc.nd rfl (Or.inl rfl) (rR (mj (mO hu (qv 7) (qv 1))) (qv 7) (qv 8))) (iH (iR (i:=10) sc.nd rfl (Or.inl rfl) (rR (mj (mO hu (qv 7) (qv 1))) (qv 8) (qv 7))) (iN (j0 (ko aZ br bq kH (qv 4) (iC (kr (iC (kP hu (qv 3) (qv 9) (fun _ _=>rfl)) (iC (kP hu (qv 3) (qv 10) (fun _ _=>rfl)) (iC (qv 2) iD)))) iD))))))) (iN (jg (EH MK Gqo (hr.mono (by decide)) rfl T.m Dqo.b .nil iX (iC (i5 kl (lD (v:=.int 2) rfl C2.FIRST ⟨_,rfl⟩) (jh kY rfl B.len bP (iC (iO iP (qv 0) iG (fun _ _=>rfl)) iD))) (iC (qv 4) iD)))))))))),?_⟩
 have hpl:=wk.pl
 have htl:=wk.tl
 refine iS fun R' hR=>?_
 walk_at "D"
 refine kR (jS K pa) H (fun R2 hR2=>?_) (fun z hz0=>kG ps.length (fun i σ' Hc=>∃w1 w2,σ'=[w1,w2]/\Same H Hc/\Hc z=some (.lst (((ps.take i).map (·.2)).map V.int))) ⟨none,none,rfl,iL hz0 _,iF⟩ ?_ ?_)
 ·unfold j2
  simp_arith[iW,hu1,jw]
  exact⟨pa,rfl,⟨_,SqL.of hpa⟩,hR2⟩
 ·rintro i σ' Hc hi ⟨w1,w2,rfl,s7,ez⟩
  have x1:xs[i]? =some (xs[i]'(by lia)):=gE _
  refine⟨⟨_,_,SqL.of (s7 _ _ hpa),x1⟩,?_⟩
  rintro y H' ⟨rfl,hy⟩
  have E1:=aO (x1.symm.trans (hy _ (SqL.of (s7 _ _ hpa))))
  obtain⟨pr,hpr,px⟩:=kI hxs x1
  rw[E1]at px
  obtain⟨b,rfl,hb⟩:=px.same s7
  simp_arith[hb]
  refine⟨_,ez,?_,_,_,rfl,jt s7 hz0,?_⟩
  ·rw[ae,ae,aW]
   exact jk (by lia)
  ·rw[iF,jM hpr,ah,ah]
   rfl
 rintro σ' H1 ⟨w1,w2,rfl,s1,ez⟩
 refine⟨⟨_,SqL.of (s1 _ _ hpa),by lia⟩,?_⟩
 rw[aX]at ez
 refine⟨z,_,rfl,ez,?_⟩
 walk_at "D"
 rw[show(1:Int)+(ps.map (·.2)).sum=kC ps from rfl]
 clear ez
 subst hR
 refine iS fun R' hR=>?_
 walk_at "D"
 refine⟨.ref u,ps,ts,rfl,hw.same s1,wk,fun d H3 hd0 s3' ed=>?_⟩
 have s3:=s1.trans s3'
 subst hR
 refine iS fun R' hR=>?_
 walk_at "D"
 intro al hal
 have falH:=s3.free hal
 have dal:d≠al:=iU ed hal
 have s4:=s3.trans (iL hal (.lst []))
 have ed4:=iL hal (.lst []) _ _ ed
 have eal4:upd H3 al (.lst []) al=some (.lst []):=iF
 generalize upd H3 al (.lst [])=H4 at s4 ed4 eal4
 subst hR
 refine iS fun R' hR=>?_
 refine ku (jS K pa) H4 (fun R3 hR3=>?_) (k7 (K:=K) (a:=pa) (xs:=xs) (fun k σ Hc=>∃v5 v6 ws,σ=[some (.ref u),some (.ref f1),some (.int (kC ps)),some (.ref d),some (.ref al),v5,v6,none,none,none,none]/\Same H Hc/\Hc d=some (.dK (jd (jn ps ps.length)))/\Hc al=some (.lst ws)/\kB Hc ws ((ps.take k).map (lu ps fs))) ⟨none,none,[],rfl,s4,ed4,eal4,.nil⟩ (fun k σ Hc _ ⟨_,_,_,_,s5,_⟩=>SqL.of (s5 _ _ hpa)) ?_ ?_)
 ·unfold j2
  simp_arith[iW,s4 _ _ hu1,jw]
  exact⟨pa,rfl,⟨_,SqL.of (s4 _ _ hpa)⟩,hR3⟩
 ·rintro k x σ Hc hx ⟨v5,v6,ws,rfl,sA,edA,ealA,pw⟩
  obtain⟨p,hp,px⟩:=kI hxs hx
  obtain⟨b,rfl,hb⟩:=px.same sA
  have hv:=oK wk (aB.mpr ⟨p,ao hp,rfl⟩)
  have hkl:=(ag.mp hp).1
  have hwl:ws.length<=k:=by rw[aP pw,ae,aW];lia
  have fin:∀(V1 V2 V3:V) (a:Fl.jU),V1= .int a.1->V2= .int a.2.1->V3= .int a.2.2->lu ps fs p=a->∀t1,Hc t1=none->upd (upd Hc t1 (.tup [V1,V2,V3])) al (.lst (ws++[.ref t1]))=upd (upd Hc t1 (.tup [V1,V2,V3])) al (.lst (ws++[.ref t1]))/\Same H (upd (upd Hc t1 (.tup [V1,V2,V3])) al (.lst (ws++[.ref t1])))/\upd (upd Hc t1 (.tup [V1,V2,V3])) al (.lst (ws++[.ref t1])) d=some (.dK (jd (jn ps ps.length)))/\upd (upd Hc t1 (.tup [V1,V2,V3])) al (.lst (ws++[.ref t1])) al=some (.lst (ws++[.ref t1]))/\kB (upd (upd Hc t1 (.tup [V1,V2,V3])) al (.lst (ws++[.ref t1]))) (ws++[.ref t1]) ((ps.take (k+1)).map (lu ps fs)):=by
   rintro V1 V2 V3 a rfl rfl rfl ea t1 ht1
   have qB:=iL ht1 (.tup [.int a.1,.int a.2.1,.int a.2.2])
   have tB:=l0 (ys:=ws++[.ref t1]) (qB _ _ ealA)
   refine⟨rfl,jt (sA.trans qB) falH,by rw[iJ dal];exact qB _ _ edA,iF,?_⟩
   rw[jM hp,ah,List.map_singleton,ea]
   exact lN (k8 tB (k8 qB.tups pw)) ⟨t1,rfl,tB _ _ rfl iF⟩
  simp_arith[hb]
  refine⟨⟨al,ws,rfl,ealA⟩,?_⟩
  simp_arith[sA _ _ ef,nB,edA,hv]
  by_cases c:p.1∈fs
  ·rw[az c,aw rfl]
   intro t1 ht1
   have ealB:=iL ht1 (.tup [.int 0,.int (i6 ps p.1),.int p.2]) _ _ ealA
   rw[ealB]
   dsimp only
   obtain⟨_,f2,f3,f4,f5⟩:=fin _ _ _ (0,i6 ps p.1,p.2) rfl rfl rfl (by unfold lu;rw[aw c]) t1 ht1
   exact⟨jk (by lia),_,_,_,rfl,f2,f3,f4,f5⟩
  ·rw[aC c,au (by decide)]
   intro t1 ht1
   have ealB:=iL ht1 (.tup [.int (i6 ps p.1),.int 1,.int p.2]) _ _ ealA
   rw[ealB]
   dsimp only
   obtain⟨_,f2,f3,f4,f5⟩:=fin _ _ _ (i6 ps p.1,1,p.2) rfl rfl rfl (by unfold lu;rw[au c]) t1 ht1
   exact⟨jk (by lia),_,_,_,rfl,f2,f3,f4,f5⟩
 rintro σ H6 ⟨v5,v6,ws0,rfl,s9,ed9,eal9,pz9⟩
 refine(?_:R' _ _ _)
 rw[hxl,aX]at pz9
 subst hR
 refine iS fun R' hR=>?_
 refine ku (jS K ta) H6 (fun R3 hR3=>?_) (k7 (K:=K) (a:=ta) (xs:=ys) (fun k σ Hc=>∃v7 v8 v9 v10 ws,σ=[some (.ref u),some (.ref f1),some (.int (kC ps)),some (.ref d),some (.ref al),v5,v6,v7,v8,v9,v10]/\Same H Hc/\Hc d=some (.dK (jd (jn ps ps.length)))/\Hc al=some (.lst ws)/\kB Hc ws (ps.map (lu ps fs)++(ts.take k).map (qm ps fs))) ⟨none,none,none,none,ws0,rfl,s9,ed9,eal9,by rw[List.take_zero,cq,bt];exact pz9⟩ (fun k σ Hc _ ⟨_,_,_,_,_,_,s5,_⟩=>SqL.of (s5 _ _ hta)) ?_ ?_)
 ·unfold j2
  simp_arith[iW,s9 _ _ hu1,jX]
  exact⟨ta,rfl,⟨_,SqL.of (s9 _ _ hta)⟩,hR3⟩
 ·rintro k x σ Hc hx ⟨v7,v8,v9,v10,ws,rfl,sA,edA,ealA,pw⟩
  obtain⟨t,htk,pt⟩:=kI hys hx
  obtain⟨tb,rfl,etb⟩:=pt.same sA
  have hkl:=(ag.mp htk).1
  obtain⟨m1,m2⟩:=pM wk fs t (ao htk)
  have hv1:=oK wk m1
  have hv2:=oK wk m2
  have hwl:ws.length<=40+k:=by rw[aP pw,aH,ae,ae,aW];lia
  have fin:∀(T1 T2:Int),jy fs t=T1->jA fs t=T2->∀t1,Hc t1=none->upd Hc t1 (.tup [.int (i6 ps T1),.int (i6 ps T2),.int (kC ps)]) al=some (.lst ws)/\Same H (upd (upd Hc t1 (.tup [.int (i6 ps T1),.int (i6 ps T2),.int (kC ps)])) al (.lst (ws++[.ref t1])))/\upd (upd Hc t1 (.tup [.int (i6 ps T1),.int (i6 ps T2),.int (kC ps)])) al (.lst (ws++[.ref t1])) d=some (.dK (jd (jn ps ps.length)))/\upd (upd Hc t1 (.tup [.int (i6 ps T1),.int (i6 ps T2),.int (kC ps)])) al (.lst (ws++[.ref t1])) al=some (.lst (ws++[.ref t1]))/\kB (upd (upd Hc t1 (.tup [.int (i6 ps T1),.int (i6 ps T2),.int (kC ps)])) al (.lst (ws++[.ref t1]))) (ws++[.ref t1]) (ps.map (lu ps fs)++(ts.take (k+1)).map (qm ps fs)):=by
   rintro T1 T2 e1' e2' t1 ht1
   have qB:=iL ht1 (.tup [.int (i6 ps T1),.int (i6 ps T2),.int (kC ps)])
   have tB:=l0 (ys:=ws++[.ref t1]) (qB _ _ ealA)
   refine⟨qB _ _ ealA,jt (sA.trans qB) falH,by rw[iJ dal];exact qB _ _ edA,iF,?_⟩
   rw [jM htk,ah,List.map_singleton,<- bu]
   exact lN (k8 tB (k8 qB.tups pw)) (show Tp _ _ (i6 ps (jy fs t),i6 ps (jA fs t),kC ps)from⟨t1,rfl,by rw[e1',e2'];exact tB _ _ rfl iF⟩)
  simp_arith[etb,sA _ _ ef,nB]
  by_cases c:t.1∈fs
  ·have e1':jy fs t=t.1:=aw c
   have e2':jA fs t=t.2:=aw c
   rw[e1']at hv1
   rw[e2']at hv2
   simp only[c,c0,if_true]
   simp_arith[edA,hv1,hv2]
   refine⟨⟨al,ws,rfl,ealA⟩,fun t1 ht1=>?_⟩
   obtain⟨f1',f2,f3,f4,f5⟩:=fin _ _ e1' e2' t1 ht1
   rw[f1']
   dsimp only
   exact⟨jk (by lia),_,_,_,_,_,rfl,f2,f3,f4,f5⟩
  ·have e1':jy fs t=t.2:=au c
   have e2':jA fs t=t.1:=au c
   rw[e1']at hv1
   rw[e2']at hv2
   simp only[c,dD,aK,if_false]
   simp_arith[edA,hv1,hv2]
   refine⟨⟨al,ws,rfl,ealA⟩,fun t1 ht1=>?_⟩
   obtain⟨f1',f2,f3,f4,f5⟩:=fin _ _ e1' e2' t1 ht1
   rw[f1']
   dsimp only
   exact⟨jk (by lia),_,_,_,_,_,rfl,f2,f3,f4,f5⟩
 ·rintro σ Hc ⟨v7,v8,v9,v10,ws,rfl,sA,edA,ealA,pw⟩
  rw[hyl,aX]at pw
  have pw:kB Hc ws (iZ ps ts fs):=pw
  subst hR
  simp_arith[iW,sA _ _ hu1,jw,sA _ _ hpa]
  intro p dx hp hdx hne
  have hpal:al≠p:=iU ealA hp
  have hdal:al≠dx:=iU ealA hdx
  have sB:Same Hc (upd (upd Hc dx (.own p)) p (.ins C_Net dx [])):=fun b o q=>by rw[iJ (iU q hp),iJ (iU q hdx)];exact q
  refine⟨p,dx,2+ps.length,al,ws,iZ ps ts fs,by rw[show((2+ps.length:Nat):Int)=2+(xs.length:Int) by lia],iF,sB _ _ ealA,k8 sB.tups pw,by lia,by rw[rY];lia,fun a ha=>(uU wk fs a ha).1,fun R H' hR' b N=>?_⟩
  refine⟨rfl,h p R H' (sA.free (sB.free hR')) (fun b' o q=>b b' o (iU (sA _ _ q) hp) (sB _ _ (sA _ _ q))) N⟩
structure RstB(ps ts:List (Int×Int))(fs r nr nt:List Int):Prop where
 run:Fl.Runs (Fl.jO (iZ ps ts fs)) (Fl.i7 (iZ ps ts fs)) (2+ps.length) 0 1 (Fl.jT (iZ ps ts fs)) r
 end_:Fl.lA (Fl.jO (iZ ps ts fs)) (Fl.i7 (iZ ps ts fs)) (2+ps.length) 0 1 r=none
 nr:∀n,n∈nr↔n∈ps.map (·.1)/\i6 ps n∈(Fl.jJ (Fl.jO (iZ ps ts fs)) (Fl.i7 (iZ ps ts fs)) (2+ps.length) 0 r).map (·.1)
 nt:∃ms,Fl.CoR (Fl.jO (iZ ps ts fs)) (Fl.i7 (iZ ps ts fs)) r (2+ps.length) 1 ms/\∀n,n∈nt↔n∈ps.map (·.1)/\i6 ps n∉ms
theorem ya{ps ts:List (Int×Int)}(wk:WebOk ps ts)(fs:List Int):Fl.Rooms (iZ ps ts fs).length (Fl.mC (iZ ps ts fs)) (Fl.jT (iZ ps ts fs)):=Fl.CF fun a ha=>(uU wk fs a ha).2
theorem xD{ps ts:List (Int×Int)}(wk:WebOk ps ts)(fs:List Int):Fl.Net (Fl.jO (iZ ps ts fs)) (Fl.i7 (iZ ps ts fs)) (iZ ps ts fs).length (2+ps.length):=Fl.xC fun a ha=>(uU wk fs a ha).1
theorem Bb{ps ts:List (Int×Int)}{fs r:List Int}(wk:WebOk ps ts)(run:Fl.Runs (Fl.jO (iZ ps ts fs)) (Fl.i7 (iZ ps ts fs)) (2+ps.length) 0 1 (Fl.jT (iZ ps ts fs)) r):Fl.Rooms (iZ ps ts fs).length (Fl.mC (iZ ps ts fs)) r/\∀v,v≠0->v≠1->Fl.ex (Fl.i7 (iZ ps ts fs)) (iZ ps ts fs).length r v=0:=by
 obtain⟨a,b⟩:=Fl.CD (xD wk fs) (by decide) ⟨bE _,by lia⟩ run (ya wk fs)
 exact⟨a,fun v h1 h2=>(b v h1 h2).trans (Fl.Jp _ _ _ _)⟩
theorem Nt.frz{C:Addr}{H:Hp}{p R d:Addr}{wf:Int->List Nat}{hs:List Int}{m n:Nat}{r:List Int}{kvs:List (iE×V)}(N:Nt C H p R wf hs m n r)(e:H d=some (.dK kvs))(o:HO):Nt C (upd H d o) p R wf hs m n r:=by
 have k:∀a q,H a=some q->(q≠ .dK kvs)->upd H d o a=some q:=fun a q ha hq=>by
  rw[iJ (fun z=>by rw[z,e]at ha;exact hq (aO ha).symm)]
  exact ha
 obtain⟨⟨dx,W,Hd,ls,e1,e2,e3,e4,e5,n1,n2,n3⟩,eR,net,hlen,hbig,hn⟩:=N
 exact⟨⟨dx,W,Hd,ls,k _ _ e1 (fun z=>nomatch z),k _ _ e2 (fun z=>nomatch z),e3,fun i a ha=>⟨k _ _ (e4 i a ha).1 (fun z=>nomatch z),(e4 i a ha).2⟩,k _ _ e5 (fun z=>nomatch z),n1,n2,n3⟩,k _ _ eR (fun z=>nomatch z),net,hlen,hbig,hn⟩
theorem E7{α:Type}{xs:List α}{k:Nat}(h:xs.length=2*k):(ju false xs).length=k:=by
 have h1:=pO false xs
 have hge:¬k<(ju false xs).length:=fun z=>by
  have:=h1 k
  rw[gE z,bD (show xs.length<=2*k+(if false=true then 0 else 1) by rw[au (by decide)];lia)]at this
  cases this
 by_cases c:k=0
 ·lia
 ·have:=h1 (k-1)
  rw[gE (show 2*(k-1)+(if false=true then 0 else 1)<xs.length by rw[au (by decide)];lia)]at this
  have:=(ag.mp this).1
  lia
def ze(C:Addr):Sp:=fun vs H Q _=>∃v ps ts f col,vs=[v]/\jdc H v ps ts/\WebOk ps ts/\LabOk ps ts f/\nW ts col/\∀t m1 m2 l us r nr nt H',Same H H'->H t=none->H m1=none->H m2=none->H l=none->m1≠m2->m1≠l->m2≠l->H' t=some (.tup [.ref m1,.ref m2,.ref l])->H' m1=some (.lst ((kg ps (jY f col (ps.map (·.1)) 0) nr).map V.int))->H' m2=some (.lst ((kg ps (jY f col (ps.map (·.1)) 0) nt).map V.int))->H' l=some (.lst us)->kB H' us (kS (ju false r) ps.length ts ts.length)->RstB ps ts (jY f col (ps.map (·.1)) 0) r nr nt->Q (.ref t) H'
theorem yi{ps:List (Int×Int)}{i:Nat}{p:Int×Int}(h:ps[i]? =some p):(jd (jn ps ps.length))[i]? =some (Sum.inl p.1,.int (2+(i:Int))):=by
 have hi:=(ag.mp h).1
 unfold jd jn
 rw[bG,aA,c9 hi]
 show some _=_
 dsimp only[Function.comp]
 rw[mx h]
theorem rK(ps:List (Int×Int)):(jd (jn ps ps.length)).length=ps.length:=by
 unfold jd jn
 rw[ae,ae,bC]
theorem Ic{C dx W Hd R:Addr}:lq C (some (jZ C dx W Hd R)) "reaching"=true:=mN rfl rfl rfl
theorem Iu(B:Blt mg)(D:DefAt K mg "pairing_of" (iI 40) ["web"] f fd)(Dq5:DefAt K mg "sides_of" (iI 34) ["web"] fq5 dq5)(Gq5:FnOk P w K mg base iQ 6 fq5 dq5 ["web"] zh)(Dqf:DefAt K mg "marked" (iI 15) ["places"] fqf dqf)(Gqf:FnOk P w K mg base iQ 1 fqf dqf ["places"] zc)(Dqh:DefAt K mg "spots_of" (iI 37) ["web"] fqh dqh)(Gqh:FnOk P w K mg base iQ 1 fqh dqh ["web"] uR)(Dq1:DefAt K mg "net_across" (iI 36) ["web","first"] fq1 dq1)(Gq1:FnOk P w K mg base iQ 5 fq1 dq1 ["web","first"] (Ah C_Net))(Dq8:MthAt K C_Net "fill" "Net.fill" (jo 9 2) ["self","source","sink"] fq8 dq8)(Gq8:FnOk P w K mg base iQ 3 fq8 dq8 ["self","source","sink"] (yg C_Net))(Dzb:MthAt K C_Net "reached_from" "Net.reached_from" (jo 9 7) ["self","source"] fzb dzb)(Gzb:FnOk P w K mg base iQ 2 fzb dzb ["self","source"] (zf C_Net))(Dzc:MthAt K C_Net "reaching" "Net.reaching" (jo 9 8) ["self","sink"] fzc dzc)(Gzc:FnOk P w K mg base iQ 1 fzc dzc ["self","sink"] (xm C_Net))(Dql:DefAt K mg "set_of_cut" (iI 38) ["web","first","near_source"] fql dql)(Gql:FnOk P w K mg base iQ 1 fql dql ["web","first","near_source"] xl)(Dq9:MthAt K C_Net "flows" "Net.flows" (jo 9 6) ["self"] fq9 dq9)(Gq9:FnOk P w K mg base iQ 1 fq9 dq9 ["self"] (zb C_Net))(Dqp:DefAt K mg "even_dues" (iI 39) ["web","flows"] fqp dqp)(Gqp:FnOk P w K mg base iQ 1 fqp dqp ["web","flows"] yf)(T:NetC K mg C_Net)(C2:Cst2 mg e1 e2 e3):FnOk P w K mg base iQ 7 f fd ["web"] (ze C_Net):=by
 have sc:FnScope ["web","told","first","spots","net","reached","reaching","most","fewest"] ["web"] (ja (iI 40)):=by walk_at "SC"
 refine D.F.ok sc (fun vs H Q E h=>?_) (fun cdv A outer s H vs Q E hr h=>?_)
 ·obtain⟨v,ps,ts,fl,col,rfl,_⟩:=h
  rfl
 obtain⟨v,ps,ts,fl,col,rfl,hw,wk,lab,hcol,h⟩:=h
 have hpl:=wk.pl
 have htl:=wk.tl
 have hnd:=wk.p.nodup
 have hu:=jl hr
 have hu0:_<PySem.cLine:=aD hu
 refine⟨_,(iH (iR (i:=1) sc.nd rfl (Or.inl rfl) (i8 Gq5 (hr.mono (by decide)) rfl Dq5.m Dq5.F.kp Dq5.b .nil iX (iC (qv 0) iD))) (iH (jK (jF mJ (iO iP (qv 1) iG (fun _ _=>rfl)) ur (jr _)) GA jL) (iH (iR (i:=2) sc.nd rfl (Or.inl rfl) (i8 Gqf (hr.mono (by decide)) rfl Dqf.m Dqf.F.kp Dqf.b .nil iX (iC (iO iP (qv 1) iG (fun _ _=>rfl)) iD))) (iH (iR (i:=3) sc.nd rfl (Or.inr rfl) (i8 Gqh (hr.mono (by decide)) rfl Dqh.m Dqh.F.kp Dqh.b .nil iX (iC (qv 0) iD))) (iH (iR (i:=4) sc.nd rfl (Or.inl rfl) (i8 Gq1 (hr.mono (by decide)) rfl Dq1.m Dq1.F.kp Dq1.b .nil iX (iC (qv 0) (iC (qv 2) iD)))) (iH (j0 (lZ (qv 4) T.cl Dq8.m Gq8 (hr.mono (by decide)) Dq8.b .nil iX (iC (lD (v:=.int 0) rfl C2.SOURCE ⟨_,rfl⟩) (iC (lD (v:=.int 1) rfl C2.SINK ⟨_,rfl⟩) iD)))) (iH (iR (i:=5) sc.nd rfl (Or.inr rfl) (i8 Gqf (hr.mono (by decide)) rfl Dqf.m Dqf.F.kp Dqf.b .nil iX (iC (lZ (qv 4) T.cl Dzb.m Gzb (hr.mono (by decide)) Dzb.b .nil iX (iC (lD (v:=.int 0) rfl C2.SOURCE ⟨_,rfl⟩) iD)) iD))) (iH (iR (i:=6) sc.nd rfl (Or.inr rfl) (i8 Gqf (hr.mono (by decide)) rfl Dqf.m Dqf.F.kp Dqf.b .nil iX (iC (lZ (qv 4) T.cl Dzc.m Gzc (hr.mono (by decide)) Dzc.b .nil iX (iC (lD (v:=.int 1) rfl C2.SINK ⟨_,rfl⟩) iD)) iD))) (iH (iR (i:=7) sc.nd rfl (Or.inl rfl) (i8 Gql (hr.mono (by decide)) rfl Dql.m Dql.F.kp Dql.b .nil iX (iC (qv 0) (iC (qv 2) (iC (i8 Gqf (hr.mono (by decide)) rfl Dqf.m Dqf.F.kp Dqf.b .nil iX (iC (k6 (CpScope.of (N:=["place","reached","spots"]) (src:=[none,some 5,some 3]) (by rfl)) rfl (uK (qv 3)) (fun _ _ _ _=>(i3 (i:=0) (j5 (l:=["place","reached","spots"]) (by rfl)) rfl (Or.inl rfl))) (fun _ _ _ _=>(nL (mj (mO hu (oG (by exact hu) (qv 2) (qv 0) (fun _ _=>rfl)) (qv 1))))) (fun _ _ _ _=>(qv 0))) iD)) iD))))) (iH (iR (i:=8) sc.nd rfl (Or.inl rfl) (i8 Gql (hr.mono (by decide)) rfl Dql.m Dql.F.kp Dql.b .nil iX (iC (qv 0) (iC (qv 2) (iC (i8 Gqf (hr.mono (by decide)) rfl Dqf.m Dqf.F.kp Dqf.b .nil iX (iC (k6 (CpScope.of (N:=["place","reaching","spots"]) (src:=[none,some 6,some 3]) (by rfl)) rfl (rS (qv 3)) (fun _ _ _ _=>(i3 (i:=0) (j5 (l:=["place","reaching","spots"]) (by rfl)) rfl (Or.inl rfl))) (fun _ _ _ _=>(nL (mj (qe hu (oG (by exact hu) (qv 2) (qv 0) (fun _ _=>rfl)) (qv 1))))) (fun _ _ _ _=>(qv 0))) iD)) iD))))) (iN (jg (kr (iC (qv 7) (iC (qv 8) (iC (i8 Gqp (hr.mono (by decide)) rfl Dqp.m Dqp.F.kp Dqp.b .nil iX (iC (qv 0) (iC (Gu (qv 4) T.cl Dq9.m Gq9 (hr.mono (by decide)) Dq9.b .nil iX) iD))) iD)))))))))))))))),?_⟩
 refine iS fun R' hR=>?_
 walk_at "D"
 refine⟨v,ps,ts,fl,col,rfl,hw,wk,lab,hcol,fun t0 a1 a2 H1 n1 n2 n12 s1 et ea1 ea2=>?_⟩
 obtain⟨fs,hfs⟩:∃fs,fs=jY fl col (ps.map (·.1)) 0:=⟨_,rfl⟩
 have fnd:fs.Nodup:=by rw[hfs];exact hnd.filter _
 have fl40:fs.length<=40:=by
  rw[hfs]
  refine bz (bR _ _) ?_
  rw[ae];exact hpl
 rw [<- hfs] at ea1 h
 subst hR
 refine iS fun R' hR=>?_
 simp_arith[iW,et,jw]
 rw[show decide (("sides":Str)="ring")=false from by decide]
 walk_at "D"
 subst hR
 refine iS fun R' hR=>?_
 simp_arith[iW,et,jX]
 refine⟨a1,fs,rfl,ea1,fnd,by lia,fun fd H2 hfd s2' efd=>?_⟩
 have s2:=s1.trans s2'
 clear ea1 ea2 et s2' s1
 subst hR
 refine iS fun R' hR=>?_
 walk_at "D"
 refine⟨v,ps,ts,rfl,hw.same s2,wk,fun d H3 hd s3' ed=>?_⟩
 have s3:=s2.trans s3'
 have efd3:=s3' _ _ efd
 have hd0:=s2.free hd
 have nfd:fd≠d:=iU efd hd
 clear efd s3' hd s2
 subst hR
 refine iS fun R' hR=>?_
 walk_at "D"
 refine⟨v,ps,ts,fd,fs,rfl,hw.same s3,wk,efd3,fun p R H4 fR s4' N=>?_⟩
 have s4:=s3.trans s4'
 have ed4:=s4' _ _ ed
 have efd4:=s4' _ _ efd3
 have fR0:=s3.free fR
 have fdR:fd≠R:=iU efd3 fR
 have dR:d≠R:=iU ed fR
 clear ed efd3 s4' s3 fR
 subst hR
 refine iS fun R' hR=>?_
 obtain⟨dx,W,Hd,ls,o1,_,_,_,_,_,_,pR⟩:=N.st
 simp_arith[o1,Fv]
 refine⟨p,0,1,R,_,_,_,_,_,Fl.mC (iZ ps ts fs),rfl,N,by decide,bE _,by lia,ya wk fs,fun x r H5 run fin b5 eR5=>?_⟩
 have rm:=(Bb wk run).1
 have N5:=N.but b5 eR5 rm.len
 have s5:Same H H5:=fun b o q=>b5 b o (iU q fR0) (s4 _ _ q)
 have o5:=b5 _ _ pR o1
 have ed5:=b5 _ _ dR ed4
 have efd5:=b5 _ _ fdR efd4
 clear ed4 efd4 o1 s4 eR5 b5 N
 subst hR
 refine iS fun R' hR=>?_
 simp_arith[o5,Hx]
 refine⟨p,0,R,_,_,_,_,r,rfl,N5,bE _,by lia,by lia,fun l ms H6 hl s6 el pm=>?_⟩
 have hmn:ms.Nodup:=pm.nodup_iff.mpr (Fl.l8 (r:=r) (s:=0) N5.net.from' _).nd
 have hml:ms.length<=120:=by
  rw[pm.length_eq,ae]
  have:=Fl.m9 (r:=r) N5.net ⟨bE 0,by lia⟩ (2+ps.length)
  show(Fl.jf _ _ _ _ _).length<=120
  lia
 refine⟨l,ms,rfl,el,hmn,hml,fun rd H7 hrd s7 erd=>?_⟩
 have nrd:rd≠d:=(iU (s6 _ _ ed5) hrd).symm
 have s67:=s6.trans s7
 have N7:=N5.same s67
 have s07:=s5.trans s67
 have ed7:=s67 _ _ ed5
 have efd7:=s67 _ _ efd5
 have o7:=s67 _ _ o5
 clear el s6 s7 N5 s5 ed5 efd5 o5 hrd s67
 subst hR
 refine iS fun R' hR=>?_
 simp_arith[o7,Ic]
 refine⟨p,1,R,_,_,_,_,r,rfl,N7,by lia,by lia,by lia,fun l2 ms2 H8 hl2 s8 el2 cor=>?_⟩
 have h2l:ms2.length<=120:=by
  have:=Fl.tH cor.nd cor.bd
  lia
 refine⟨l2,ms2,rfl,el2,cor.nd,h2l,fun gd H9 hgd s9 egd=>?_⟩
 have ngd:gd≠d:=(iU (s8 _ _ ed7) hgd).symm
 have s89:=s8.trans s9
 have NA:=N7.same s89
 have s0A:=s07.trans s89
 have edA:=s89 _ _ ed7
 have efdA:=s89 _ _ efd7
 have oA:=s89 _ _ o7
 have erdA:=s89 _ _ erd
 clear el2 s8 s9 N7 s07 ed7 efd7 o7 erd hgd s89
 subst hR
 refine iS fun R' hR=>?_
 walk_at "D"
 refine HU (ι:=Obj) (fun o=>ly d o (jd (jn ps ps.length))) (fun o=>upd H9 d (.frz o (.dK (jd (jn ps ps.length))))) (fun _=>True) (fun R2 hR2=>?_) (fun o _=>?_)
 ·unfold su
  walk_at "D"
  exact⟨d,_,rfl,edA,fun o=>hR2 o trivial⟩
 have k9:∀a q,H9 a=some q->a≠d->upd H9 d (.frz o (.dK (jd (jn ps ps.length)))) a=some q:=fun a q ha hq=>by rw[iJ hq];exact ha
 have NB:=NA.frz edA (.frz o (.dK (jd (jn ps ps.length))))
 have s0B:Same H (upd H9 d (.frz o (.dK (jd (jn ps ps.length))))):=jt s0A hd0
 have eB:upd H9 d (.frz o (.dK (jd (jn ps ps.length)))) d=some (.frz o (.dK (jd (jn ps ps.length)))):=iF
 have erdB:=k9 _ _ erdA nrd
 have egdB:=k9 _ _ egd ngd
 have efdB:=k9 _ _ efdA nfd
 have oB:=k9 _ _ oA (mh oA edA (fun z=>nomatch z))
 generalize upd H9 d (.frz o (.dK (jd (jn ps ps.length))))=HB at NB s0B eB erdB egdB efdB oB
 clear k9 NA s0A edA efdA oA erdA egd
 intro z1 hz1
 refine kG ps.length (fun i σ' Hc=>∃w1,σ'=[w1,some (.ref rd),some (.ref d)]/\Same HB Hc/\Hc z1=some (.lst ((((ps.map (·.1)).take i).filter fun n=>decide (i6 ps n∈ms)).map V.int))) ⟨none,rfl,iL hz1 _,iF⟩ ?_ ?_
 ·rintro i σ' Hc hi ⟨w1,rfl,sQ,ez⟩
  refine⟨⟨sQ _ _ eB,by rw[rK];exact hi⟩,?_⟩
  rintro y H' ⟨rfl,kv,hkv,rfl⟩
  have hp:ps[i]? =some ps[i]:=gE hi
  rw[yi hp]at hkv
  cases hkv
  generalize ps[i]=pp at hp
  have hv:=oK wk (aB.mpr ⟨pp,ao hp,rfl⟩)
  have hpn:(ps.map (·.1))[i]? =some pp.1:=by rw[aA,hp];rfl
  have ft:=sk (f:=fun n=>decide (i6 ps n∈ms)) hpn
  have hfl:((((ps.map (·.1)).take i).filter fun n=>decide (i6 ps n∈ms))).length<=200:=bz (bR _ _) (by rw[aW];lia)
  show kh 0 (.int pp.1) _ _ _
  simp_arith[sQ _ _ erdB,sQ _ _ eB,t7]
  refine⟨d,.int (i6 ps pp.1),rfl,.inl ⟨_,Sum.inl pp.1,.inr ⟨o,sQ _ _ eB⟩,rfl,hv.symm⟩,?_⟩
  simp_arith[sQ _ _ erdB,nB]
  by_cases c:i6 ps pp.1∈ms
  ·simp only[c,c0,c8,aK,if_false,if_true,bt]at ft ⊢
   refine⟨_,ez,?_,_,rfl,jt sQ hz1,?_⟩
   ·rw[ae]
    exact jk (by lia)
   ·rw[iF,ft,ah]
    rfl
  ·simp only[c,dD,eN,aK,if_false,if_true,bt]at ft ⊢
   exact⟨_,rfl,sQ,by rw[ft];exact ez⟩
 rintro σ' HC ⟨w1,rfl,sC,ez1⟩
 refine⟨⟨sC _ _ eB,by rw[rK];exact av _⟩,?_⟩
 rw[show ps.length=(ps.map (·.1)).length by rw[ae],aX]at ez1
 have f40:∀(f:Int->Bool),((ps.map (·.1)).filter f).length<=40:=fun f=>bz (bR _ _) (by rw[ae];exact hpl)
 obtain⟨nr,hnr⟩:∃nr,nr=(ps.map (·.1)).filter fun n=>decide (i6 ps n∈ms):=⟨_,rfl⟩
 rw [<- hnr] at ez1
 refine⟨z1,nr,rfl,ez1,by rw[hnr];exact hnd.filter _,by rw[hnr];have:=f40 (fun n=>decide (i6 ps n∈ms));lia,fun md HD hmd sD emd=>?_⟩
 have sBD:=sC.trans sD
 refine⟨v,ps,ts,fd,fs,md,nr,rfl,hw.same (s0B.trans sBD),by lia,sBD _ _ efdB,emd,fun m1 HE hm1 sE em1=>?_⟩
 have sBE:=sBD.trans sE
 have s0E:=s0B.trans sBE
 have fm1:=(s0B.trans sBD).free hm1
 have NE:=NB.same sBE
 have eE:=sBE _ _ eB
 have efdE:=sBE _ _ efdB
 have egdE:=sBE _ _ egdB
 have oE:=sBE _ _ oB
 clear ez1 emd sC sD sE sBD sBE NB s0B eB efdB egdB oB hz1 hmd hm1
 subst hR
 refine iS fun R' hR=>?_
 walk_at "D"
 refine kR (ly d o (jd (jn ps ps.length))) HE (fun R2 hR2=>?_) (fun z2 hz2=>kG ps.length (fun i σ' Hc=>∃w1,σ'=[w1,some (.ref gd),some (.ref d)]/\Same HE Hc/\Hc z2=some (.lst ((((ps.map (·.1)).take i).filter fun n=>!decide (i6 ps n∈ms2)).map V.int))) ⟨none,rfl,iL hz2 _,iF⟩ ?_ ?_)
 ·unfold pI
  walk_at "D"
  exact⟨d,_,o,rfl,eE,hR2⟩
 ·rintro i σ' Hc hi ⟨w1,rfl,sQ,ez⟩
  refine⟨⟨sQ _ _ eE,by rw[rK];exact hi⟩,?_⟩
  rintro y H' ⟨rfl,kv,hkv,rfl⟩
  have hp:ps[i]? =some ps[i]:=gE hi
  rw[yi hp]at hkv
  cases hkv
  generalize ps[i]=pp at hp
  have hv:=oK wk (aB.mpr ⟨pp,ao hp,rfl⟩)
  have hpn:(ps.map (·.1))[i]? =some pp.1:=by rw[aA,hp];rfl
  have ft:=sk (f:=fun n=>!decide (i6 ps n∈ms2)) hpn
  have hfl:((((ps.map (·.1)).take i).filter fun n=>!decide (i6 ps n∈ms2))).length<=200:=bz (bR _ _) (by rw[aW];lia)
  show kh 0 (.int pp.1) _ _ _
  simp_arith[sQ _ _ egdE,sQ _ _ eE,t7]
  refine⟨d,.int (i6 ps pp.1),rfl,.inl ⟨_,Sum.inl pp.1,.inr ⟨o,sQ _ _ eE⟩,rfl,hv.symm⟩,?_⟩
  simp_arith[sQ _ _ egdE,nB]
  by_cases c:i6 ps pp.1∈ms2
  ·simp only[c,c0,c8,aK,if_false,if_true,bt]at ft ⊢
   exact⟨_,rfl,sQ,by rw[ft];exact ez⟩
  ·simp only[c,dD,eN,aK,if_false,if_true,bt]at ft ⊢
   refine⟨_,ez,?_,_,rfl,jt sQ hz2,?_⟩
   ·rw[ae]
    exact jk (by lia)
   ·rw[iF,ft,ah]
    rfl
 rintro σ' HF ⟨w1,rfl,sF,ez2⟩
 refine⟨⟨sF _ _ eE,by rw[rK];exact av _⟩,?_⟩
 rw[show ps.length=(ps.map (·.1)).length by rw[ae],aX]at ez2
 obtain⟨nt,hnt⟩:∃nt,nt=(ps.map (·.1)).filter fun n=>!decide (i6 ps n∈ms2):=⟨_,rfl⟩
 rw [<- hnt] at ez2
 refine⟨z2,nt,rfl,ez2,by rw[hnt];exact hnd.filter _,by rw[hnt];have:=f40 (fun n=>!decide (i6 ps n∈ms2));lia,fun md2 HG hmd2 sG emd2=>?_⟩
 have sEG:=sF.trans sG
 refine⟨v,ps,ts,fd,fs,md2,nt,rfl,hw.same (s0E.trans sEG),by lia,sEG _ _ efdE,emd2,fun m2 HI hm2 sI em2=>?_⟩
 have sEI:=sEG.trans sI
 have s0I:=s0E.trans sEI
 have fm2:=(s0E.trans sEG).free hm2
 have n12':m1≠m2:=iU (sEG _ _ em1) hm2
 have NI:=NE.same sEI
 have em1I:=sEI _ _ em1
 have oI:=sEI _ _ oE
 subst hR
 simp_arith[oI,Gj]
 refine⟨p,R,_,_,_,_,r,rfl,NI,fun fl2 HJ hfl sJ ef=>?_⟩
 refine⟨v,ps,ts,fl2,ju false r,rfl,hw.same (s0I.trans sJ),wk,ef,?_,fun l3 us HK hl3 sK el3 pu=>?_⟩
 ·rw[E7 rm.len,rY]
 intro t9 ht9
 have q9:=iL ht9 (.tup [.ref m1,.ref m2,.ref l3])
 have sJK:=sJ.trans sK
 refine h t9 m1 m2 l3 us r nr nt _ ((s0I.trans sJK).trans q9) ((s0I.trans sJK).free ht9) fm1 fm2 ((s0I.trans sJ).free hl3) n12' (iU (sJ _ _ em1I) hl3) (iU (sJ _ _ em2) hl3) iF (q9 _ _ (sJK _ _ em1I)) (q9 _ _ (sJK _ _ em2)) (q9 _ _ el3) (k8 q9.tups pu) ⟨run,fin,fun n=>?_,ms2,cor,fun n=>?_⟩
 ·rw[hnr,cv,bX,pm.mem_iff]
 ·rw[hnt,cv]
  simp
end
end My
namespace My
open PySem L2
section
variable{P:Program}{w:World}{K:PySem.W.Frag}{mg:Str->Option Value}{base:Heap}{c1 c2 c3 c4:Tok}{C_NoWeb fq7:Addr}{dI:FuncData}
theorem D6(r:List Int)(k:Nat):Fl.at' (ju false r) k=Fl.at' r (2*k+1):=by
 unfold Fl.at'
 rw[aI,aI,pO,au (by decide)]
def i9(ds:List (Int×Int×Int))(n:Int):Int:=(ds.map fun d=>(if d.1=n then d.2.2 else 0)+(if d.2.1=n then d.2.2 else 0)).sum
theorem yS{ns:List Int}(nd:ns.Nodup)(y:Int->Int):∀{ds:List (Int×Int×Int)},(∀d∈ds,d.1∈ns/\d.2.1∈ns)->(ns.map fun n=>y n*i9 ds n).sum=(ds.map fun d=>d.2.2*(y d.1+y d.2.1)).sum
 |[],_=>by
  show(ns.map fun p=>y p*0).sum=0
  rw[Fl.kj (g:=fun _=>0) fun p _=>Int.mul_zero _,Fl.lH]
 | d::ds,h=>by
  have hd:=h d (aJ ..)
  have e:∀n∈ns,y n*i9 (d::ds) n=(y n*Fl.iY d.1 n d.2.2+y n*Fl.iY d.2.1 n d.2.2)+y n*i9 ds n:=fun n _=>by
   unfold i9 Fl.iY
   rw[aq,List.sum_cons,fL,fL]
  rw[Fl.kj e,Fl.n6,Fl.n6,Fl.tj y _ _ nd hd.1,Fl.tj y _ _ nd hd.2,yS nd y fun z hz=>h z (ay _ hz),aq,List.sum_cons,fL,Int.mul_comm (y d.1),Int.mul_comm (y d.2.1)]
theorem oM{α:Type}{f g:α->Int}:∀{l:List α},(∀p∈l,f p<=g p)->(l.map f).sum<=(l.map g).sum
 |[],_=>bE _
 |a::l,h=>by
  have:=oM (l:=l) fun p hp=>h p (ay _ hp)
  have:=h a (aJ ..)
  rw[aq,aq,List.sum_cons,List.sum_cons]
  lia
theorem cb_ind{wf:Int->List Nat}{hs r:List Int}{m n:Nat}{s:Int}(N:Fl.Net wf hs m n)(hs0:0<=s/\s<(n:Int))(B:Int->Prop)(b0:B s)(b1:∀w,w<2*m->0<Fl.at' r w->Fl.at' hs (Fl.iV w)∈(Fl.jJ wf hs n s r).map (·.1)->B (Fl.at' hs (Fl.iV w))->B (Fl.at' hs w)):∀v∈(Fl.jJ wf hs n s r).map (·.1),B v:=by
 have cam:Fl.Cam hs r m s (Fl.jJ wf hs n s r):=Fl.l8 N.from' n
 have key:∀(i:Nat) (v:Int) (o:Option Nat),(Fl.jJ wf hs n s r)[i]? =some (v,o)->B v:=by
  intro i
  induction i using Nat.strongRecOn with
  | ind i ih=>
   intro v o hi
   by_cases i0:i=0
   ·subst i0
    rw[cam.first]at hi
    cases hi
    exact b0
   ·obtain⟨w,_,hw,hr,hv,j,u,hj,hu,hm⟩:=cam.came i v o hi (by lia)
    obtain⟨⟨u',o'⟩,hu2,hu3⟩:=bN.mp hu
    dsimp only at hu3
    subst hu3
    have:=b1 w hw hr (by rw[show Fl.at' hs (Fl.iV w)=u' from hm];exact aB.mpr ⟨_,ao hu2,rfl⟩) (by rw[show Fl.at' hs (Fl.iV w)=u' from hm];exact ih j hj u' o' hu2)
    rw [<- hv]
    exact this
 intro v hv
 obtain⟨⟨v',o⟩,hm,e⟩:=aB.mp hv
 obtain⟨i,hi⟩:=cW.mp hm
 rw [<- e]
 exact key i v' o hi
section
variable{ps ts:List (Int×Int)}{fs r nr nt:List Int}
def jV(ps ts:List (Int×Int))(r:List Int):List (Int×Int×Int):=(List.range ts.length).map fun j=>((ts.getD j (0,0)).1,(ts.getD j (0,0)).2,Fl.at' r (2*(ps.length+j)+1))
theorem FT(ps ts:List (Int×Int))(r:List Int):(jV ps ts r).map (fun d=>(d.1,d.2.1))=ts:=by
 unfold jV
 rw[bG]
 apply eL
 intro i
 rw[aA]
 by_cases c:i<ts.length
 ·rw[c9 c,gE c]
  show some ((ts.getD i (0,0)).1,(ts.getD i (0,0)).2)=_
  rw[mx (gE c)]
 ·rw[bD (by rw[bC];lia),bD (by lia)]
  rfl
theorem rn{k:Nat}{p:Int×Int}(h:ps[k]? =some p):(iZ ps ts fs).getD k (0,0,0)=lu ps fs p:=by
 have hk:=(ag.mp h).1
 refine mx ?_
 unfold iZ
 rw[bH (by rw[ae];exact hk),aA,h]
 rfl
theorem rp{j:Nat}{t:Int×Int}(h:ts[j]? =some t):(iZ ps ts fs).getD (ps.length+j) (0,0,0)=qm ps fs t:=by
 refine mx ?_
 unfold iZ
 rw[cA (by rw[ae];lia),ae,Nat.add_sub_cancel_left,aA,h]
 rfl
theorem nM(wk:WebOk ps ts){a b:Int}(ha:a∈ps.map (·.1))(hb:b∈ps.map (·.1))(e:i6 ps a=i6 ps b):a=b:=by
 obtain⟨i,hi,ea⟩:=aS.mp ha
 obtain⟨j,hj,eb⟩:=aS.mp hb
 have h1:(ps.map (·.1))[i]? =some a:=by rw[gE hi,ea]
 have h2:(ps.map (·.1))[j]? =some b:=by rw[gE hj,eb]
 rw[pW wk h1,pW wk h2]at e
 have:i=j:=by lia
 subst this
 rw[h1]at h2
 exact aO h2
def mE(ts:List (Int×Int))(fs:List Int):Prop:=∀t∈ts,(t.1∈fs↔t.2∉fs)
theorem oz(h:mE ts fs){t:Int×Int}(ht:t∈ts):jy fs t∈fs/\jA fs t∉fs:=by
 have:=h t ht
 unfold jy jA
 by_cases c:t.1∈fs
 ·rw[aw c,aw c];exact⟨c,this.mp c⟩
 ·rw[au c,au c];exact⟨cL fun z=>c (this.mpr z),c⟩
theorem Gw(t:Int×Int)(p v:Int):(if t.1=p then v else 0)+(if t.2=p then v else 0)=Fl.iY (jy fs t) p v+Fl.iY (jA fs t) p v:=by
 unfold jy jA Fl.iY
 by_cases c:t.1∈fs
 ·rw[aw c,aw c]
 ·rw[au c,au c,Int.add_comm]
theorem JA(wk:WebOk ps ts)(two:mE ts fs)(B:∀v,v≠0->v≠1->Fl.ex (Fl.i7 (iZ ps ts fs)) (iZ ps ts fs).length r v=0){i:Nat}{p:Int×Int}(hp:ps[i]? =some p):i9 (jV ps ts r) p.1=Fl.at' r (2*i+1):=by
 have hi:=(ag.mp hp).1
 have hn:(ps.map (·.1))[i]? =some p.1:=by rw[aA,hp];rfl
 have sp:=pW wk hn
 have pin:p.1∈ps.map (·.1):=aB.mpr ⟨p,ao hp,rfl⟩
 have b:=B (2+(i:Int)) (by lia) (by lia)
 unfold Fl.ex at b
 rw[rY,Fl.n5]at b
 have e1:((List.range ps.length).map fun k=>Fl.iY (Fl.at' (Fl.i7 (iZ ps ts fs)) (2*k)) (2+(i:Int)) (Fl.at' r (2*k+1))-Fl.iY (Fl.at' (Fl.i7 (iZ ps ts fs)) (2*k+1)) (2+(i:Int)) (Fl.at' r (2*k+1))).sum=if p.1∈fs then Fl.at' r (2*i+1)else -Fl.at' r (2*i+1):=by
  rw[Fl.tf _ hi fun k hk hne=>?_]
  ·rw[Fl.mX,Fl.mW,rn hp]
   unfold lu
   by_cases c:p.1∈fs
   ·rw[if_pos c,if_pos c];dsimp only;rw[sp,Fl.og,Fl.jW (by lia)];lia
   ·rw[if_neg c,if_neg c];dsimp only;rw[sp,Fl.og,Fl.jW (by lia)];lia
  ·have hk':=gE hk
   have hkn:(ps.map (·.1))[k]? =some ps[k].1:=by rw[aA,hk'];rfl
   have spk:=pW wk hkn
   rw[Fl.mX,Fl.mW,rn hk']
   unfold lu
   split<;>dsimp only<;>rw[spk,Fl.jW (by lia),Fl.jW (by lia)]<;>rfl
 have e2:((List.range ts.length).map fun j=>Fl.iY (Fl.at' (Fl.i7 (iZ ps ts fs)) (2*(ps.length+j))) (2+(i:Int)) (Fl.at' r (2*(ps.length+j)+1))-Fl.iY (Fl.at' (Fl.i7 (iZ ps ts fs)) (2*(ps.length+j)+1)) (2+(i:Int)) (Fl.at' r (2*(ps.length+j)+1))).sum=if p.1∈fs then -i9 (jV ps ts r) p.1 else i9 (jV ps ts r) p.1:=by
  have e3:i9 (jV ps ts r) p.1=((List.range ts.length).map fun j=>Fl.iY (jy fs (ts.getD j (0,0))) p.1 (Fl.at' r (2*(ps.length+j)+1))+Fl.iY (jA fs (ts.getD j (0,0))) p.1 (Fl.at' r (2*(ps.length+j)+1))).sum:=by
   unfold i9 jV
   rw[bG]
   exact Fl.kj fun j _=>Gw (ts.getD j (0,0)) p.1 _
  have e4:∀(f g:Nat->Int),(∀j∈List.range ts.length,f j= -g j)->((List.range ts.length).map f).sum= -((List.range ts.length).map g).sum:=by
   intro f g h
   have:((List.range ts.length).map f).sum+((List.range ts.length).map g).sum=0:=by
    rw [<- Fl.n6,Fl.kj (g:=fun _=>0) (fun j hj=>by rw [h j hj]; lia),Fl.lH]
   lia
  have aux:∀j∈List.range ts.length,(Fl.at' (Fl.i7 (iZ ps ts fs)) (2*(ps.length+j))=i6 ps (jA fs (ts.getD j (0,0))))/\(Fl.at' (Fl.i7 (iZ ps ts fs)) (2*(ps.length+j)+1)=i6 ps (jy fs (ts.getD j (0,0))))/\ts.getD j (0,0)∈ts:=fun j hj=>by
   have hg:=Fl.getD_at (aV.mp hj)
   rw[Fl.mX,Fl.mW,rp hg]
   exact⟨rfl,rfl,ao hg⟩
  have pk:∀(q:Int) (v:Int),q∈ps.map (·.1)->Fl.iY (i6 ps q) (2+(i:Int)) v=Fl.iY q p.1 v:=fun q v hq=>Fl.pj ⟨fun z=>nM wk hq pin (by rw[sp];exact z),fun z=>by rw[z,sp]⟩
  rw[e3]
  by_cases c:p.1∈fs
  ·rw[aw c]
   refine e4 _ _ fun j hj=>?_
   obtain⟨a1,a2,a3⟩:=aux j hj
   obtain⟨m1,m2⟩:=pM wk fs _ a3
   have tw:=(oz two a3).2
   rw[a1,a2,pk _ _ m1,pk _ _ m2,Fl.jW (n:=jA fs _) (fun z=>tw (by rw[z];exact c))]
   lia
  ·rw[au c]
   refine Fl.kj fun j hj=>?_
   obtain⟨a1,a2,a3⟩:=aux j hj
   obtain⟨m1,m2⟩:=pM wk fs _ a3
   have tw:=(oz two a3).1
   rw [a1,a2,pk _ _ m1,pk _ _ m2,Fl.jW (n:=jy fs _) (fun z=>c (by rw [<- z]; exact tw))]
   lia
 rw[e1,e2]at b
 by_cases c:p.1∈fs
 ·rw[aw c,aw c]at b;lia
 ·rw[au c,au c]at b;lia
structure TCut(ps ts:List (Int×Int))(fs:List Int)(zs:List (Int×Int×Int))(X:Int->Prop):Prop where
 c1:∀p∈ps,p.1∈fs->¬X p.1->i9 zs p.1=p.2
 c2:∀p∈ps,p.1∉fs->X p.1->i9 zs p.1=p.2
 c3:∀t∈ts,X (jy fs t)->X (jA fs t)
 c4:∀d∈zs,0<d.2.2->X (jA fs (d.1,d.2.1))->X (jy fs (d.1,d.2.1))
structure Bip(ps ts:List (Int×Int))(fs:List Int)(zs:List (Int×Int×Int))(nr nt:List Int):Prop where
 zt:zs.map (fun d=>(d.1,d.2.1))=ts
 pos:∀d∈zs,0<=d.2.2
 pay:∀p∈ps,i9 zs p.1<=p.2
 S:TCut ps ts fs zs (·∈nr)
 T:TCut ps ts fs zs (·∈nt)
 sR:∀A:Int->Prop,(∀p∈ps,p.1∈fs->i9 zs p.1<p.2->A p.1)->(∀t∈ts,A (jy fs t)->A (jA fs t))->(∀d∈zs,0<d.2.2->A (jA fs (d.1,d.2.1))->A (jy fs (d.1,d.2.1)))->∀n∈nr,A n
 tR:∀B:Int->Prop,(∀p∈ps,p.1∉fs->i9 zs p.1<p.2->B p.1)->(∀t∈ts,B (jA fs t)->B (jy fs t))->(∀d∈zs,0<d.2.2->B (jy fs (d.1,d.2.1))->B (jA fs (d.1,d.2.1)))->∀n∈ps.map (·.1),n∉nt->B n
theorem z7{zs:List (Int×Int×Int)}(h:∀d∈zs,0<=d.2.2){d:Int×Int×Int}(hd:d∈zs){n:Int}(e:d.1=n\/d.2.1=n):d.2.2<=i9 zs n:=by
 have:=Fl.tI (f:=fun d:Int×Int×Int=>(if d.1=n then d.2.2 else 0)+(if d.2.1=n then d.2.2 else 0)) (l:=zs) (fun x hx=>by have:=h x hx;split<;>split<;>lia) d hd
 have h0:=h d hd
 unfold i9
 refine gZ ?_ this
 rcases e with e|e
 ·rw[aw e];split<;>lia
 ·rw[aw e];split<;>lia
theorem Jz(wk:WebOk ps ts)(two:mE ts fs)(R:RstB ps ts fs r nr nt):Bip ps ts fs (jV ps ts r) nr nt:=by
 obtain⟨rm,bal⟩:=Bb wk R.run
 have N:=xD wk fs
 have h0:(0:Int)<=0/\(0:Int)<((2+ps.length:Nat):Int):=⟨bE _,by lia⟩
 have sin:=Fl.CB (r:=r) (s:=0) N
 have tout:=Fl.Cp N (s:=0) (t:=1) (by decide) h0 R.end_
 have scl:=fun{w:Nat} (hw:w<2*(iZ ps ts fs).length) (h:0<Fl.at' r w)=>Fl.Jy (r:=r) (s:=0) N h0 hw h
 obtain⟨ms,cor,hnt⟩:=R.nt
 have hnr:=R.nr
 have ind:=cb_ind (r:=r) (s:=0) N h0
 generalize (Fl.jJ (Fl.jO (iZ ps ts fs)) (Fl.i7 (iZ ps ts fs)) (2+ps.length) 0 r).map (·.1)=ks at sin tout scl hnr ind
 have tcl:∀w,w<2*(iZ ps ts fs).length->0<Fl.at' r w->Fl.at' (Fl.i7 (iZ ps ts fs)) w∈ms->Fl.at' (Fl.i7 (iZ ps ts fs)) (Fl.iV w)∈ms:=fun w hw h hm=>by
  have:=cor.cl _ hm (Fl.iV w) (by have:=N.all (Fl.iV w) (Fl.nh hw);rwa[Fl.pA]at this) (by rw[Fl.pA];exact h)
  exact this
 have zout:(0:Int)∉ms:=fun z=>by
  refine cor.ind (fun v=>v∉ks) tout (fun u w hu hw hr hk=>?_) 0 z sin
  have f:=N.from' u w hw
  have:=scl (Fl.nh f.1) hr (by rw[Fl.pA];exact hk)
  rw[f.2]at this
  exact hu this
 have hal:=rY ps ts fs
  -- the ways of a place
 have wayP:∀(k:Nat) (p:Int×Int),ps[k]? =some p->2*k+1<2*(iZ ps ts fs).length/\Fl.at' r (2*k)=p.2-i9 (jV ps ts r) p.1/\Fl.at' r (2*k+1)=i9 (jV ps ts r) p.1/\Fl.at' (Fl.i7 (iZ ps ts fs)) (2*k)=(if p.1∈fs then i6 ps p.1 else 1)/\Fl.at' (Fl.i7 (iZ ps ts fs)) (2*k+1)=(if p.1∈fs then 0 else i6 ps p.1):=fun k p hp=>by
  have hk:=(ag.mp hp).1
  have b:=JA wk two bal hp
  have t:=rm.two k (by lia)
  unfold Fl.mC at t
  rw[rn hp]at t
  rw[Fl.mX,Fl.mW,rn hp]
  unfold lu at t ⊢
  by_cases c:p.1∈fs
  ·rw[if_pos c]at t ⊢;rw[if_pos c,if_pos c];dsimp only at t ⊢;exact⟨by lia,by lia,by lia,rfl,rfl⟩
  ·rw[if_neg c]at t ⊢;rw[if_neg c,if_neg c];dsimp only at t ⊢;exact⟨by lia,by lia,by lia,rfl,rfl⟩
 have pos:∀d∈jV ps ts r,0<=d.2.2:=fun d hd=>by
  obtain⟨j,_,rfl⟩:=aB.mp hd
  exact rm.pos _
 have pay:∀p∈ps,i9 (jV ps ts r) p.1<=p.2:=fun p hp=>by
  obtain⟨k,hk⟩:=cW.mp hp
  have:=wayP k p hk
  have:=rm.pos (2*k)
  lia
 have zt:=FT ps ts r
 have dmem:∀d∈jV ps ts r,(d.1,d.2.1)∈ts:=fun d hd=>by
  have:=bh (f:=fun d:Int×Int×Int=>(d.1,d.2.1)) hd
  rw[zt]at this
  exact this
  -- the ways of a tie
 have wayT:∀(j:Nat),j<ts.length->∃d∈jV ps ts r,(d.1,d.2.1)=ts.getD j (0,0)/\2*(ps.length+j)+1<2*(iZ ps ts fs).length/\0<Fl.at' r (2*(ps.length+j))/\Fl.at' r (2*(ps.length+j)+1)=d.2.2/\Fl.at' (Fl.i7 (iZ ps ts fs)) (2*(ps.length+j))=i6 ps (jA fs (d.1,d.2.1))/\Fl.at' (Fl.i7 (iZ ps ts fs)) (2*(ps.length+j)+1)=i6 ps (jy fs (d.1,d.2.1)):=fun j hj=>by
  have hg:=Fl.getD_at hj
  have hd:((ts.getD j (0,0)).1,(ts.getD j (0,0)).2,Fl.at' r (2*(ps.length+j)+1))∈jV ps ts r:=aB.mpr ⟨j,aV.mpr hj,rfl⟩
  have t:=rm.two (ps.length+j) (by lia)
  unfold Fl.mC at t
  rw[rp hg]at t
  have t2:Fl.at' r (2*(ps.length+j))+Fl.at' r (2*(ps.length+j)+1)=kC ps:=t
  refine⟨_,hd,rfl,by lia,?_,rfl,?_,?_⟩
  ·obtain⟨m1,_⟩:=nJ wk _ (ao hg)
   obtain⟨p,hp,e⟩:=aB.mp m1
   have g:=z7 pos hd (n:=p.1) (.inl e.symm)
   have q:=pay p hp
   have s:=Fl.tI (f:=fun q:Int×Int=>q.2) (l:=ps) (fun q hq=>by have:=wk.p.pos q hq;lia) p hp
   have:(ps.map fun q:Int×Int=>q.2).sum<kC ps:=by unfold kC;lia
   dsimp only at g
   lia
  ·rw[Fl.mX,rp hg];rfl
  ·rw[Fl.mW,rp hg];rfl
 have tieOf:∀t∈ts,∃j,j<ts.length/\ts.getD j (0,0)=t:=fun t ht=>by
  obtain⟨j,hj,e⟩:=aS.mp ht
  exact⟨j,hj,by rw[mx (gE hj),e]⟩
 have zOf:∀d∈jV ps ts r,∃j,j<ts.length/\ts.getD j (0,0)=(d.1,d.2.1)/\Fl.at' r (2*(ps.length+j)+1)=d.2.2:=fun d hd=>by
  obtain⟨j,hj,rfl⟩:=aB.mp hd
  exact⟨j,aV.mp hj,rfl,rfl⟩
 have inN:∀t∈ts,jy fs t∈ps.map (·.1)/\jA fs t∈ps.map (·.1):=pM wk fs
 have mt:∀k,Fl.iV (2*k)=2*k+1:=Fl.xH
 have mt1:∀k,Fl.iV (2*k+1)=2*k:=Fl.xG
  -- every way
 have every:∀w,w<2*(iZ ps ts fs).length->(∃k p,ps[k]? =some p/\(w=2*k\/w=2*k+1))\/∃j,j<ts.length/\(w=2*(ps.length+j)\/w=2*(ps.length+j)+1):=fun w hw=>by
  by_cases c:w<2*ps.length
  ·have hk:w/2<ps.length:=by lia
   exact .inl ⟨w/2,_,gE hk,by lia⟩
  ·exact .inr ⟨w/2-ps.length,by lia,by lia⟩
 have spb:∀{n},n∈ps.map (·.1)->2<=i6 ps n:=fun h=>(rh wk h).1
 refine⟨zt,pos,pay,⟨fun p hp hf hn=>?_,fun p hp hf hn=>?_,fun t ht h=>?_,fun d hd h0' h=>?_⟩,⟨fun p hp hf hn=>?_,fun p hp hf hn=>?_,fun t ht h=>?_,fun d hd h0' h=>?_⟩,fun A a1 a2 a3 n hn=>?_,fun B b1 b2 b3 n hn hnn=>?_⟩
 ·obtain⟨k,hk⟩:=cW.mp hp
  obtain⟨w0,w1,w2,w3,w4⟩:=wayP k p hk
  rw[aw hf]at w3 w4
  have:=pay p hp
  by_cases c:i9 (jV ps ts r) p.1=p.2
  ·exact c
  ·refine absurd ((hnr p.1).mpr ⟨aB.mpr ⟨p,hp,rfl⟩,?_⟩) hn
   have:=scl (w:=2*k) (by lia) (by lia) (by rw[mt,w4];exact sin)
   rwa[w3]at this
 ·obtain⟨k,hk⟩:=cW.mp hp
  obtain⟨w0,w1,w2,w3,w4⟩:=wayP k p hk
  rw[au hf]at w3 w4
  have:=pay p hp
  by_cases c:i9 (jV ps ts r) p.1=p.2
  ·exact c
  ·have:=scl (w:=2*k) (by lia) (by lia) (by rw[mt,w4];exact((hnr p.1).mp hn).2)
   rw[w3]at this
   exact absurd this tout
 ·obtain⟨j,hj,e⟩:=tieOf t ht
  obtain⟨d,hd,ed,w0,w1,w2,w3,w4⟩:=wayT j hj
  rw[ed,e]at w3 w4
  have:=scl (w:=2*(ps.length+j)) (by lia) w1 (by rw[mt,w4];exact((hnr _).mp h).2)
  rw[w3]at this
  exact(hnr _).mpr ⟨(inN t ht).2,this⟩
 ·obtain⟨j,hj,e,ef⟩:=zOf d hd
  obtain⟨d',hd',ed,w0,w1,w2,w3,w4⟩:=wayT j hj
  rw[ed,e]at w3 w4
  have:=scl (w:=2*(ps.length+j)+1) (by lia) (by lia) (by rw[mt1,w3];exact((hnr _).mp h).2)
  rw[w4]at this
  exact(hnr _).mpr ⟨(inN _ (dmem d hd)).1,this⟩
 ·obtain⟨k,hk⟩:=cW.mp hp
  obtain⟨w0,w1,w2,w3,w4⟩:=wayP k p hk
  rw[aw hf]at w3 w4
  have pm:p.1∈ps.map (·.1):=aB.mpr ⟨p,hp,rfl⟩
  have:=pay p hp
  by_cases c:i9 (jV ps ts r) p.1=p.2
  ·exact c
  ·have im:i6 ps p.1∈ms:=cL fun z=>hn ((hnt p.1).mpr ⟨pm,z⟩)
   have:=tcl (2*k) (by lia) (by lia) (by rw[w3];exact im)
   rw[mt,w4]at this
   exact absurd this zout
 ·obtain⟨k,hk⟩:=cW.mp hp
  obtain⟨w0,w1,w2,w3,w4⟩:=wayP k p hk
  rw[au hf]at w3 w4
  have:=pay p hp
  by_cases c:i9 (jV ps ts r) p.1=p.2
  ·exact c
  ·have:=tcl (2*k) (by lia) (by lia) (by rw[w3];exact cor.t_in)
   rw[mt,w4]at this
   exact absurd this ((hnt p.1).mp hn).2
 ·obtain⟨j,hj,e⟩:=tieOf t ht
  obtain⟨d,hd,ed,w0,w1,w2,w3,w4⟩:=wayT j hj
  rw[ed,e]at w3 w4
  refine(hnt _).mpr ⟨(inN t ht).2,fun z=>((hnt _).mp h).2 ?_⟩
  have:=tcl (2*(ps.length+j)) (by lia) w1 (by rw[w3];exact z)
  rwa[mt,w4]at this
 ·obtain⟨j,hj,e,ef⟩:=zOf d hd
  obtain⟨d',hd',ed,w0,w1,w2,w3,w4⟩:=wayT j hj
  rw[ed,e]at w3 w4
  refine(hnt _).mpr ⟨(inN _ (dmem d hd)).1,fun z=>((hnt _).mp h).2 ?_⟩
  have:=tcl (2*(ps.length+j)+1) (by lia) (by lia) (by rw[w4];exact z)
  rwa[mt1,w3]at this
 ·obtain⟨hn1,hn2⟩:=(hnr n).mp hn
  have key:=ind (fun v=>v=0\/∃n∈ps.map (·.1),i6 ps n=v/\A n) (.inl rfl) (fun w hw hr hk hB=>?_) _ hn2
  ·rcases key with z|⟨n',h1,h2,h3⟩
   ·have:=spb hn1;lia
   ·rw [<- nM wk h1 hn1 h2]; exact h3
  ·rcases every w hw with⟨k,p,hp,e⟩|⟨j,hj,e⟩
   ·obtain⟨w0,w1,w2,w3,w4⟩:=wayP k p hp
    have pm:=ao hp
    have pn:p.1∈ps.map (·.1):=aB.mpr ⟨p,pm,rfl⟩
    by_cases c:p.1∈fs
    ·rw[aw c]at w3 w4
     rcases e with rfl|rfl
     ·exact .inr ⟨p.1,pn,w3.symm,a1 p pm c (by lia)⟩
     ·exact .inl w4
    ·rw[au c]at w3 w4
     rcases e with rfl|rfl
     ·have:=scl hw hr hk
      rw[w3]at this
      exact absurd this tout
     ·rw[mt1,show Fl.at' (Fl.i7 (iZ ps ts fs)) (2*k)=1 from w3]at hk
      exact absurd hk tout
   ·obtain⟨d,hd,ed,w0,w1,w2,w3,w4⟩:=wayT j hj
    have dm:=dmem d hd
    obtain⟨m1,m2⟩:=inN _ dm
    rcases e with rfl|rfl
    ·rw[mt,show Fl.at' (Fl.i7 (iZ ps ts fs)) (2*(ps.length+j)+1)=_ from w4]at hB
     rcases hB with z|⟨n',h1,h2,h3⟩
     ·have:=spb m1;lia
     ·exact .inr ⟨_,m2,w3.symm,a2 _ dm (by rw [<- nM wk h1 m1 h2]; exact h3)⟩
    ·rw[mt1,show Fl.at' (Fl.i7 (iZ ps ts fs)) (2*(ps.length+j))=_ from w3]at hB
     rcases hB with z|⟨n',h1,h2,h3⟩
     ·have:=spb m2;lia
     ·exact .inr ⟨_,m1,w4.symm,a3 d hd (by lia) (by rw [<- nM wk h1 m2 h2]; exact h3)⟩
 ·have im:i6 ps n∈ms:=cL fun z=>hnn ((hnt n).mpr ⟨hn,z⟩)
  have key:=cor.ind (fun v=>v∈ms/\(v=1\/∃n∈ps.map (·.1),i6 ps n=v/\B n)) ⟨cor.t_in,.inl rfl⟩ (fun u w hu hw hr=>?_) _ im
  ·rcases key.2 with z|⟨n',h1,h2,h3⟩
   ·have:=spb hn;lia
   ·rw [<- nM wk h1 hn h2]; exact h3
  ·have f:=N.from' u w hw
   have hin:=cor.cl u hu.1 w hw hr
   refine⟨hin,?_⟩
   rcases every w f.1 with⟨k,p,hp,e⟩|⟨j,hj,e⟩
   ·obtain⟨w0,w1,w2,w3,w4⟩:=wayP k p hp
    have pm:=ao hp
    have pn:p.1∈ps.map (·.1):=aB.mpr ⟨p,pm,rfl⟩
    by_cases c:p.1∈fs
    ·rw[aw c]at w3 w4
     rcases e with rfl|rfl
     ·have q:=f.2
      rw[mt,w4]at q
      rw [<- q] at hu
      exact absurd hu.1 zout
     ·rw[w4]at hin
      exact absurd hin zout
    ·rw[au c]at w3 w4
     rcases e with rfl|rfl
     ·exact .inl w3
     ·rw[mt1]at hr
      exact .inr ⟨p.1,pn,w4.symm,b1 p pm c (by lia)⟩
   ·obtain⟨d,hd,ed,w0,w1,w2,w3,w4⟩:=wayT j hj
    have dm:=dmem d hd
    obtain⟨m1,m2⟩:=inN _ dm
    have q:=f.2
    rcases e with rfl|rfl
    ·rw[mt]at q hr
     rw[w4]at q
     rcases hu.2 with z|⟨n',h1,h2,h3⟩
     ·have:=spb m1;lia
     ·exact .inr ⟨_,m2,w3.symm,b3 d hd (by lia) (by rw [<- nM wk h1 m1 (by rw [h2,<- q])]; exact h3)⟩
    ·rw[mt1]at q hr
     rw[w3]at q
     rcases hu.2 with z|⟨n',h1,h2,h3⟩
     ·have:=spb m2;lia
     ·exact .inr ⟨_,m1,w4.symm,b2 _ dm (by rw [<- nM wk h1 m2 (by rw [h2,<- q])]; exact h3)⟩
end
end
end My
namespace L2
open PySem PySem.Spec PyProof.Rows
def pB(m i:Nat):Nat:=(i*5+1)%(m+1)
def lS(m:Nat):Nat->Nat->Nat
 |0,i=>i
 |r+1,i=>lS m r (pB m i)
theorem rE(m:Nat):∀a b i,lS m (a+b) i=lS m b (lS m a i)
 |0,b,i=>by rw[gc];rfl
 |a+1,b,i=>by rw[gR];exact rE m a b (pB m i)
def tu(m:Nat):Nat->Nat->List Nat
 |0,_=>[]
 |r+1,i=>i::tu m r (pB m i)
theorem zZ(m:Nat):∀n i e,e∈tu m n i->∃r,r<n/\lS m r i=e
 |0,_,_,h=>by cases h
 | n+1,i,e,h=>by
  rcases aR.mp h with rfl|h
  ·exact⟨0,by lia,rfl⟩
  ·obtain⟨r,hr,q⟩:=zZ m n _ e h
   exact⟨r+1,by lia,q⟩
def lP(m:Nat):Prop:=m=7\/m=31\/m=127
theorem EE{m:Nat}(h:lP m):lS m (m+1) 0=0/\∀e,e<=m->∃r,r<=m/\lS m r 0=e:=by
 have key:∀m,(List.range (m+1)).all (fun e=>(tu m (m+1) 0).contains e)=true->∀e,e<=m->∃r,r<=m/\lS m r 0=e:=fun m h e he=>by
  have:=List.all_eq_true.mp h e (aV.mpr (by lia))
  obtain⟨r,hr,q⟩:=zZ m (m+1) 0 e (List.elem_iff.mp this)
  exact⟨r,by lia,q⟩
 rcases h with rfl|rfl|rfl
 ·exact⟨by decide+kernel,key 7 (by decide+kernel)⟩
 ·exact⟨by decide+kernel,key 31 (by decide+kernel)⟩
 ·exact⟨by decide+kernel,key 127 (by decide+kernel)⟩
theorem Gr{m:Nat}(h:lP m){i e:Nat}(hi:i<=m)(he:e<=m):∃r,r<=m/\lS m r i=e:=by
 obtain⟨z,al⟩:=EE h
 obtain⟨a,ha,rfl⟩:=al i hi
 obtain⟨b,hb,rfl⟩:=al e he
 by_cases c:a<=b
 ·refine⟨b-a,by lia,?_⟩
  rw [<- rE,show a + (b - a) = b by lia]
 ·refine⟨m+1-a+b,by lia,?_⟩
  rw [<- rE,show a + (m + 1 - a + b) = (m + 1) + b by lia,rE,z]
def kq(m:Nat):Nat->Nat×Nat->Nat×Nat
 |0,x=>x
 |r+1,x=>kq m r (SetTable.leap m x.1 x.2)
theorem yO(m:Nat):∀a b x,kq m (a+b) x=kq m b (kq m a x)
 |0,b,x=>by rw[gc];rfl
 |a+1,b,x=>by rw[gR];exact yO m a b _
theorem yP(m:Nat):∀r x,(kq m r x).2=x.2/32^r
 |0,x=>by simp[kq]
 |r+1,x=>by
  rw[kq,yP m r,SetTable.leap,Nat.div_div_eq_div_mul,Nat.pow_succ,Nat.mul_comm 32]
theorem xU{m:Nat}:∀r {x:Nat×Nat},x.1<=m->(kq m r x).1<=m
 |0,_,h=>h
 |r+1,x,_=>xU r (by unfold SetTable.leap;exact gY (Nat.mod_lt _ (Nat.succ_pos m)))
theorem zS(m:Nat):∀r i,kq m r (i,0)=(lS m r i,0)
 |0,_=>rfl
 |r+1,i=>by rw[kq,show SetTable.leap m (i,0).1 (i,0).2=(pB m i,0) by unfold SetTable.leap pB;simp,zS m r];rfl
theorem AF{m:Nat}(h:lP m){i p e:Nat}(hi:i<=m)(hp:p<2^64)(he:e<=m):∃r,r<=m+13/\(kq m r (i,p)).1=e:=by
 have h2:(kq m 13 (i,p)).2=0:=by
  rw[yP]
  exact Nat.div_eq_of_lt (bw hp (by decide))
 have h1:(kq m 13 (i,p)).1<=m:=xU 13 hi
 obtain⟨r,hr,q⟩:=Gr h h1 he
 refine⟨13+r,by lia,?_⟩
 rw[yO,show kq m 13 (i,p)=((kq m 13 (i,p)).1,0)from iw rfl h2,zS]
 exact q
theorem yx(h:Int):SetTable.bits h<2^64:=by
 unfold SetTable.bits
 have h1:=dZ h (show(0:Int)<2^64 by decide)
 have h0:=ff h (show(2:Int)^64≠0 by decide)
 lia
theorem Af(m i:Nat):i<=SetTable.runEnd m i/\SetTable.runEnd m i<=i+9:=by
 unfold SetTable.runEnd
 split<;>lia
theorem Ay{m:Nat}{owner:Array (Option Nat)}:∀(fuel i p:Nat),(∃r,r<fuel/\(owner.getD (kq m r (i,p)).1 (some 0)).isNone=true)->∃j,SetTable.layClean.free m owner fuel i p=some j/\(owner.getD j (some 0)).isNone=true
 |0,_,_,⟨_,h,_⟩=>by lia
 | fuel+1,i,p,⟨r,hr,q⟩=>by
  rw[SetTable.layClean.free]
  cases hf:(List.range (SetTable.runEnd m i+1-i)).find? fun k=>(owner.getD (i+k) (some 0)).isNone with
  |some k=>exact⟨i+k,rfl,by have:=List.find?_some hf;exact this⟩
  | none=>
   cases r with
   |zero=>
    have:=List.find?_eq_none.mp hf 0 (aV.mpr (by have:=(Af m i).1;lia))
    exact absurd q this
   |succ r=>
    exact Ay fuel _ _ ⟨r,by lia,q⟩
theorem Ag:∀{l:List (Option Nat)} {j k:Nat},l[j]? =some none->((l.set j (some k)).filterMap id).Perm (k::l.filterMap id)
 |[],j,k,h=>by simp at h
 |a::l,0,k,h=>by
  have:a=none:=by simpa using h
  subst this
  exact ix _
 | a::l,j+1,k,h=>by
  have ih:=Ag (l:=l) (j:=j) (k:=k) (by simpa using h)
  rw[List.set_cons_succ]
  cases a with
  |none=>exact ih
  |some b=>
   rw[dP (f:=id) (a:=some b) (b:=b) rfl,dP (f:=id) (a:=some b) (b:=b) rfl]
   exact(ih.cons b).trans (List.Perm.swap _ _ _)
theorem yR:∀{l:List (Option Nat)},(l.filterMap id).length<l.length->∃j:Nat,l[j]? =some none
 |[],h=>by simp at h
 |none::l,_=>⟨0,rfl⟩
 |some b::l,h=>by
  rw[dP (f:=id) (a:=some b) (b:=b) rfl,List.length_cons,List.length_cons]at h
  obtain⟨j,q⟩:=yR (l:=l) (by lia)
  exact⟨j+1,by simpa using q⟩
def oj(m k:Nat)(owner:Array (Option Nat)):Prop:=owner.size=m+1/\(owner.toList.filterMap id).Perm (List.range k)
theorem getD_none{owner:Array (Option Nat)}{j:Nat}:(owner.getD j (some 0)).isNone=true↔owner.toList[j]? =some none:=by
 rw[iq,cO]
 cases owner[j]? with
 |none=>simp
 |some x=>cases x<;>simp
theorem FA{m k:Nat}(hm:lP m){owner:Array (Option Nat)}(h:oj m k owner)(hk:k<=m)(z:Int):∃j,SetTable.layClean.free m owner (SetTable.turns m) (SetTable.bits z%(m+1)) (SetTable.bits z)=some j/\oj m (k+1) (owner.setIfInBounds j (some k)):=by
 obtain⟨e,he⟩:=yR (l:=owner.toList) (by rw[h.2.length_eq,bC,Array.length_toList,h.1];lia)
 have hel:e<=m:=by
  have:=(ag.mp he).1
  rw[Array.length_toList,h.1]at this
  lia
 obtain⟨r,hr,q⟩:=AF hm (i:=SetTable.bits z%(m+1)) (p:=SetTable.bits z) (e:=e) (gY (Nat.mod_lt _ (Nat.succ_pos m))) (yx z) hel
 obtain⟨j,f1,f2⟩:=Ay (m:=m) (owner:=owner) (SetTable.turns m) (SetTable.bits z%(m+1)) (SetTable.bits z) ⟨r,by unfold SetTable.turns;lia,by rw[q];exact getD_none.mpr he⟩
 refine⟨j,f1,by rw[Array.size_setIfInBounds];exact h.1,?_⟩
 have hj:=getD_none.mp f2
 rw[Array.toList_setIfInBounds]
 refine(Ag hj).trans ((h.2.cons k).trans ?_)
 rw[bF]
 exact bQ (l₁:=[k])
theorem yF{m:Nat}(hm:lP m):∀(hs:List Int) (k:Nat) (owner:Array (Option Nat)),oj m k owner->k+hs.length<=m+1->∃o2,oj m (k+hs.length) o2/\
  hs.foldl (fun acc z=>do
   let (owner,k) <- acc
   let j <- SetTable.layClean.free m owner (SetTable.turns m) (SetTable.bits z % (m + 1)) (SetTable.bits z)
   pure (owner.setIfInBounds j (some k),k+1)) (some (owner,k))=some (o2,k+hs.length)
 |[],k,owner,h,_=>⟨owner,h,rfl⟩
 |z::hs,k,owner,h,hl=>by
  rw[List.length_cons]at hl
  obtain⟨j,f1,f2⟩:=FA hm h (by lia) z
  obtain⟨o2,a,b⟩:=yF hm hs (k+1) _ f2 (by lia)
  refine⟨o2,by rw[List.length_cons,show k+(hs.length+1)=k+1+hs.length by lia];exact a,?_⟩
  rw[List.foldl_cons]
  show List.foldl _ (do let j <- SetTable.layClean.free m owner (SetTable.turns m) (SetTable.bits z % (m + 1)) (SetTable.bits z); pure (owner.setIfInBounds j (some k),k + 1)) hs = _
  rw[f1]
  show List.foldl _ (some (owner.setIfInBounds j (some k),k+1)) hs=_
  rw[b,List.length_cons,show k+(hs.length+1)=k+1+hs.length by lia]
theorem Fb{m:Nat}(hm:lP m)(hashes:Array Int)(hl:hashes.size<=m+1):∃owner,SetTable.layClean m hashes=some owner/\oj m hashes.size owner:=by
 have h0:oj m 0 (Array.replicate (m+1) none):=by
  refine⟨by simp,?_⟩
  rw[Array.toList_replicate]
  have:∀n,(List.replicate n (none:Option Nat)).filterMap id=[]:=fun n=>by
   induction n with
   |zero=>rfl
   |succ n ih=>rw[List.replicate_succ];exact ih
  rw[this]
  exact ix _
 obtain⟨o2,a,b⟩:=yF hm hashes.toList 0 _ h0 (by rw[Array.length_toList];lia)
 rw[Array.length_toList,gc]at a b
 refine⟨o2,?_,a⟩
 unfold SetTable.layClean
 rw [<- Array.foldl_toList,b]
 rfl
theorem zQ(owner:Array (Option Nat)):((List.range owner.size).filterMap fun j=>(owner.getD j none).map fun k=>(j,k)).map (·.2)=owner.toList.filterMap id:=by
 rw[List.map_filterMap]
 have e:owner.toList=(List.range owner.size).map fun j=>owner.getD j none:=by
  refine eL fun j=>?_
  by_cases c:j<owner.size
  ·rw[aA,c9 c,cO,fw c]
   show _=some (owner.getD j none)
   rw[iq,fw c]
   rfl
  ·rw[bD (by rw[Array.length_toList];lia),bD (by rw[ae,bC];lia)]
 conv=>rhs;rw[e]
 rw[dY]
 congr 1
 funext j
 show Option.map (·.2) ((owner.getD j none).map fun k=>(j,k))=owner.getD j none
 cases owner.getD j none<;>rfl
theorem GC{m:Nat}(hm:lP m)(t:SetTable)(hashes:Array Int)(wanted:Nat)(hw:SetTable.sizeAbove wanted-1=m)(hl:hashes.size<=m):∃t' order,t.relaid hashes wanted=some (t',order)/\t'.mask=m/\t'.place.size=hashes.size/\t'.dummies= #[]/\order.toList.Perm (List.range hashes.size):=by
 obtain⟨owner,e,ho⟩:=Fb hm hashes (by lia)
 unfold SetTable.relaid SetTable.laid
 rw[hw,e]
 refine⟨_,_,rfl,rfl,?_,rfl,?_⟩
 ·have h2:=zQ owner
  rw[ho.1]at h2
  have h3:=bY List.length h2
  rw[ae,ho.2.length_eq,bC]at h3
  rw[aj,ae]
  exact h3
 ·have h2:=zQ owner
  rw[ho.1]at h2
  have h3:=ho.2
  rw [<- h2] at h3
  exact h3
theorem Gx{α:Type}{es:Array α}{order:Array Nat}(h:order.toList.Perm (List.range es.size)):(order.filterMap (es[·]?)).toList.Perm es.toList:=by
 rw[Array.toList_filterMap]
 refine(h.filterMap _).trans ?_
 have:(List.range es.size).filterMap (es[·]?)=es.toList:=by
  rw [<- Array.length_toList]
  have e2:(fun i=>es[i]?)=fun i=>es.toList[i]?:=funext fun i=>by rw[cO]
  rw[e2]
  generalize es.toList=l
  induction l with
  |nil=>rfl
  |cons a l ih=>
   rw[List.length_cons,List.range_succ_eq_map,dP (f:=fun i=>(a::l)[i]?) (a:=0) (b:=a) rfl,dY]
   congr 1
 rw[this]
section
variable{t:SetTable}
theorem Be(hd:t.dummies= #[])(j:Nat):t.slot j= .empty\/∃i,t.slot j= .live i/\i<t.place.size:=by
 unfold SetTable.slot
 dsimp only
 split
 ·rename_i c
  refine .inr ⟨_,rfl,?_⟩
  have c:=eq_of_beq c
  exact(iB.mp c).1
 ·rw[hd,au (by unfold SetTable.has;simp)]
  exact .inl rfl
theorem FP{j:Nat}(hd:t.dummies= #[])(h:j∉t.place.toList):t.slot j= .empty:=by
 unfold SetTable.slot
 dsimp only
 rw[au,hd,au (by unfold SetTable.has;simp)]
 intro c
 have c:=eq_of_beq c
 exact h (by rw [<- cO] at c; exact ao c)
theorem xV:∀{ks L:List Nat},ks.Nodup->(∀n∈ks,n∈L)->ks.length<=L.length
 |[],_,_,_=>bI _
 |k::ks,L,nd,h=>by
  have nd':=bB.mp nd
  have hk:=h k (aJ ..)
  have:=xV (ks:=ks) (L:=L.erase k) nd'.2 fun n hn=>(gy (fun e=>nd'.1 (by rw [<- e]; exact hn))).mpr (h n (ay _ hn))
  have e:=fP hk
  have:0<L.length:=gf hk
  rw[List.length_cons]
  lia
theorem Fe(hd:t.dummies= #[])(h:t.place.size<=t.mask):∃e,e<=t.mask/\t.slot e= .empty:=by
 by_cases c:∀n∈List.range (t.mask+1),n∈t.place.toList
 ·have:=xV hG c
  rw[bC,Array.length_toList]at this
  lia
 ·obtain⟨e,he⟩:=Classical.not_forall.mp c
  obtain⟨h1,h2⟩:=Classical.not_imp.mp he
  exact⟨e,by have:=aV.mp h1;lia,FP hd h2⟩
def kA(t:SetTable):Nat->SetTable.Probe->SetTable.Probe
 |0,p=>p
 |k+1,p=>kA t k (t.advance p)
theorem uG(t:SetTable):∀a b p,kA t (a+b) p=kA t b (kA t a p)
 |0,b,p=>by rw[gc];rfl
 |a+1,b,p=>by rw[gR];exact uG t a b _
def n8(t:SetTable)(x:Nat×Nat):SetTable.Probe:={j:=x.1,more:=SetTable.runEnd t.mask x.1-x.1,i:=x.1,perturb:=x.2,dummy:=none}
theorem y4(t:SetTable):∀(k:Nat) (p:SetTable.Probe),p.more=k->kA t (k+1) p=t.advance {p with j:=p.j+k,more:=0}
 |0,p,h=>by
  show t.advance p=_
  congr 1
  cases p
  dsimp only at h ⊢
  subst h
  rfl
 | k+1,p,h=>by
  show kA t (k+1) (t.advance p)=_
  have e:t.advance p={p with j:=p.j+1,more:=k}:=by
   unfold SetTable.advance
   rw[aw (by lia),h]
   rfl
  rw[e,y4 t k _ rfl]
  congr 2
  show p.j+1+k=p.j+(k+1)
  lia
theorem G5(t:SetTable)(x:Nat×Nat):∃k,k<=10/\kA t k (n8 t x)=n8 t (SetTable.leap t.mask x.1 x.2):=by
 refine⟨(n8 t x).more+1,?_,?_⟩
 ·have:=(Af t.mask x.1).2
  show SetTable.runEnd t.mask x.1-x.1+1<=10
  lia
 ·rw[y4 t _ _ rfl]
  unfold SetTable.advance
  rw[au (cw 0)]
  rfl
theorem AX(t:SetTable):∀(r:Nat) (x:Nat×Nat),∃k,k<=10*r/\kA t k (n8 t x)=n8 t (kq t.mask r x)
 |0,x=>⟨0,by lia,rfl⟩
 |r+1,x=>by
  obtain⟨k,hk,e⟩:=G5 t x
  obtain⟨k2,hk2,e2⟩:=AX t r (SetTable.leap t.mask x.1 x.2)
  exact⟨k+k2,by lia,by rw[uG,e,e2];rfl⟩
theorem Gz(hm:lP t.mask)(hd:t.dummies= #[])(h:t.place.size<=t.mask)(z:Int):∃k,k<=10*(t.mask+13)/\t.slot (kA t k (t.probeStart z)).j= .empty:=by
 obtain⟨e,he,hs⟩:=Fe hd h
 obtain⟨r,hr,q⟩:=AF hm (i:=SetTable.bits z%(t.mask+1)) (p:=SetTable.bits z) (gY (Nat.mod_lt _ (Nat.succ_pos _))) (yx z) he
 obtain⟨k,hk,e2⟩:=AX t r (SetTable.bits z%(t.mask+1),SetTable.bits z)
 refine⟨k,by lia,?_⟩
 rw[show t.probeStart z=n8 t (SetTable.bits z%(t.mask+1),SetTable.bits z)from rfl,e2]
 show t.slot (kq t.mask r (SetTable.bits z%(t.mask+1),SetTable.bits z)).1=_
 rw[q]
 exact hs
theorem Ao(t:SetTable)(p:SetTable.Probe):(t.advance p).dummy=p.dummy:=by
 unfold SetTable.advance
 split<;>rfl
theorem yG(hd:t.dummies= #[])(f:Nat->Int)(z:Int):∀(k fuel:Nat) (p:SetTable.Probe),k<fuel->t.slot (kA t k p).j= .empty->p.dummy=none->
  (∃j,SetTable.probe.go t f z fuel p=some (.empty j none)/\t.slot j= .empty)\/∃j i k',SetTable.probe.go t f z fuel p=some (.candidate j i (kA t (k'+1) p))/\t.slot j= .live i/\k'<k/\(kA t (k'+1) p).dummy=none
 |k,0,_,h,_,_=>by lia
 | k,fuel+1,p,h,hs,hn=>by
  rw[SetTable.probe.go]
  rcases Be hd p.j with c|⟨i,c,_⟩
  ·rw[c]
   exact .inl ⟨p.j,by rw [<- hn],c⟩
  ·rw[c]
   dsimp only
   cases k with
   |zero=>rw[show kA t 0 p=p from rfl,c]at hs;cases hs
   | succ k=>
    by_cases q:(f i==z)=true
    ·rw[aw q]
     exact .inr ⟨p.j,i,0,rfl,c,by lia,by rw[show kA t (0+1) p=t.advance p from rfl,Ao,hn]⟩
    ·rw[au q]
     rcases yG hd f z k fuel (t.advance p) (by lia) hs (by rw[Ao,hn])with x|⟨j,i2,k',a,b,c2,d⟩
     ·exact .inl x
     ·exact .inr ⟨j,i2,k'+1,a,b,by lia,d⟩
end
structure Tab(t:SetTable)(n:Nat):Prop where
 p:t.place.size=n
 d:t.dummies= #[]
 m:lP t.mask
 f:5*n<3*t.mask
theorem Tab.fits{t:SetTable}{n:Nat}(T:Tab t n):t.fits n=true:=by
 have:=T.f
 unfold SetTable.fits SetTable.fill
 rw[T.p,T.d]
 simp
 lia
theorem Tab.room{t:SetTable}{n:Nat}(T:Tab t n):t.place.size<=t.mask:=by
 have:=T.f
 rw[T.p]
 lia
theorem Tab.way{t:SetTable}{n:Nat}(T:Tab t n):t.gaveWay=false:=by
 unfold SetTable.gaveWay
 rcases T.m with e|e|e<;>rw[e]<;>rfl
section
variable{prog:Program}{w:World}{A:Around}{E:Value->Shared->Prop}
theorem I0{n:Nat}{v:Value}(h:carriedByValue v=true):∃b,hashByValue n v=pure b:=by
 cases v<;>cases n<;>first|exact⟨_,rfl⟩|(unfold carriedByValue at h;cases h)
theorem DD{n:Nat}{v:Value}(h:carriedByValue v=true):ofAClassStatement n v=pure false:=by
 cases v<;>cases n<;>first|rfl|(unfold carriedByValue at h;cases h)
theorem En{k:List iE}{a:Addr}{s:Shared}{Q:Bool->Shared->Prop}(hk:(TK prog w).is s.heap k a)(h:∀b,Q b s):wpAny (model prog w) A (hashByValue 8 (.ref a)) Q E s:=by
 have hT:=IsTupleKey.typeIs hk
 obtain⟨o,items,n,ho,_,hd,hi⟩:=hk
 unfold hashByValue
 refine aa (wpAny_specialOf hT F.slot_tuple_hash.lookup ?_)
 show wpAny _ _ (seqItems? (.ref a)>>=_) _ _ s
 refine aa (bJ ho hd ?_)
 refine aa ?_
 show wpAny _ _ (forIn items _ _) _ _ s
 rw [<- Array.forIn_toList]
 refine fQ _ (fun rest r s'=>r.1=none/\s'=s/\∀v∈rest,carriedByValue v=true) _ ?_ ?_ _ _ ⟨rfl,rfl,hi.byValue⟩
 ·rintro v rest r s' ⟨hr,rfl,hall⟩
  obtain⟨b,e⟩:=I0 (n:=7) (hall v aJ)
  rw[e]
  refine aa (ak ?_)
  cases b
  ·exact ak (ak (h _))
  ·exact ak ⟨rfl,rfl,fun u hu'=>hall u (ay _ hu')⟩
 ·rintro⟨r1,r2⟩ s' ⟨hr,rfl,_⟩
  simp only at hr
  subst hr
  exact ak (h _)
theorem AJ{k:List iE}{a:Addr}{s:Shared}{Q:Bool->Shared->Prop}(hk:(TK prog w).is s.heap k a)(h:Q false s):wpAny (model prog w) A (ofAClassStatement 8 (.ref a)) Q E s:=by
 have hT:=IsTupleKey.typeIs hk
 obtain⟨o,items,n,ho,_,hd,hi⟩:=hk
 unfold ofAClassStatement
 refine aa (fY hT ?_)
 dsimp only
 rw[aw (by decide)]
 refine aa (ak ?_)
 simp only[c8,aK,if_false]
 refine aa (bJ ho hd ?_)
 dsimp only
 refine aa ?_
 rw [<- Array.forIn_toList]
 refine fQ _ (fun rest r s'=>r.1=none/\s'=s/\∀v∈rest,carriedByValue v=true) _ ?_ ?_ _ _ ⟨rfl,rfl,hi.byValue⟩
 ·rintro v rest r s' ⟨hr,rfl,hall⟩
  rw[DD (hall v aJ)]
  refine aa (ak ?_)
  simp only[aK,if_false]
  exact ak ⟨rfl,rfl,fun u hu'=>hall u (ay _ hu')⟩
 ·rintro⟨r1,r2⟩ s' ⟨hr,rfl,_⟩
  simp only at hr
  subst hr
  exact ak h
theorem Fy{k:List iE}{x:Addr}{s:Shared}{Q:Bool->Shared->Prop}(hk:(TK prog w).is s.heap k x){l:List Value}(hl:∀y∈l,∃k' b,y= .ref b/\(TK prog w).is s.heap k' b)(h:Q false s):wpAny (model prog w) A (searchCouldBeSeen (.ref x) l) Q E s:=by
 unfold searchCouldBeSeen
 refine aa ?_
 refine fQ _ (fun rest r s'=>r.1=none/\s'=s/\∀y∈rest,∃k' b,y=Value.ref b/\(TK prog w).is s.heap k' b) _ ?_ ?_ _ _ ⟨rfl,rfl,hl⟩
 ·rintro y rest r s' ⟨hr,rfl,hall⟩
  obtain⟨k',b,rfl,hb⟩:=hall _ aJ
  have go:∀y∈rest,∃k' b,y=Value.ref b/\(TK prog w).is s'.heap k' b:=fun u hu'=>hall u (ay _ hu')
  dsimp only
  split
  ·exact ak ⟨rfl,rfl,go⟩
  ·refine aa ((TK prog w).quiet hk ?_)
   simp only[c8,aK,if_false]
   refine aa ((TK prog w).quiet hb ?_)
   simp only[c8,aK,if_false]
   refine aa (AJ hk ?_)
   simp only[aK,if_false]
   refine aa (AJ hb ?_)
   simp only[aK,if_false]
   exact ak ⟨rfl,rfl,go⟩
 ·rintro⟨r1,r2⟩ s' ⟨hr,rfl,_⟩
  simp only at hr
  subst hr
  exact ak h
theorem DP{M:Model}{s:Shared}{c:Bool}{m:Sem Bool}{u tl:Sem SetFound}{Q:SetFound->Shared->Prop}(hm:wpAny M A m (fun b s'=>b=false/\s'=s) E s)(h:wpAny M A tl Q E s):wpAny M A (if c=true then(m>>=fun b=>if b=true then u else tl)else tl) Q E s:=by
 split
 ·refine aa (cV hm (fun b s' z=>?_) fun _ _ q=>q)
  obtain⟨rfl,rfl⟩:=z
  exact h
 ·exact h
theorem Bv{S x:Addr}{k:List iE}{s:Shared}{o:Obj}{es:Array (Int×Value)}{ep:Nat}{t:SetTable}{Q:SetFound->Shared->Prop}(hu:A.units<cLine)(hx:(TK prog w).is s.heap k x)(ho:s.heap.get? S=some o)(hd:o.data= .set es ep t)(T:Tab t es.size)
  (hel:∀e∈es.toList,∃k' a,k'≠k/\e.2= .ref a/\(TK prog w).is s.heap k' a) (z:Int) (hQ:∀j,Q (.free j false) s):
  ∀(fuel n:Nat) (stand:Option SetTable.Probe),n<fuel->n<10*SetTable.turns t.mask->t.slot (kA t n (stand.getD (t.probeStart z))).j= .empty->(stand.getD (t.probeStart z)).dummy=none->
   wpAny (model prog w) A (setSearchFrom S (.ref x) z true fuel stand) Q E s
 |0,n,_,h,_,_,_=>by lia
 | fuel+1,n,stand,h,hn,hs,hdm=>by
  unfold setSearchFrom
  refine aa (eF ho hd T.fits ?_)
  dsimp only
  rw[T.way]
  simp only[aK,if_false]
  unfold SetTable.probe
  rcases yG T.d _ z n (10*SetTable.turns t.mask) _ hn hs hdm with⟨j,e,_⟩|⟨j,i,k',e,hl,hk,hd2⟩
  ·rw[e]
   exact ak (hQ j)
  ·rw[e]
   dsimp only
   have hi:i<es.size:=by
    rcases Be T.d j with c|⟨i2,c,hi2⟩
    ·rw[hl]at c;cases c
    ·rw[hl]at c
     cases c
     rw [<- T.p]; exact hi2
   have hem:es[i] ∈ es.toList:=by rw [<- Array.getElem_toList]; exact df _
   obtain⟨kb,b,hne,hb1,hb2⟩:=hel _ hem
   have he:es[i]? = some (es[i].1,.ref b):=by rw [fw hi,<- hb1]
   refine DP (Fy hx (fun y hy=>?_) ⟨rfl,rfl⟩) ?_
   ·obtain⟨e2,he2,rfl⟩:=aB.mp hy
    have:e2∈es.toList:=by
     have:=gC.mp he2
     exact gC.mpr (Array.mem_filter.mp this).1
    obtain⟨k2,b2,_,q1,q2⟩:=hel _ this
    exact⟨k2,b2,q1,q2⟩
   rw[he]
   dsimp only
   refine aa (cg ((TK prog w).eqBool hu hb2 hx ?_))
   rw[aC hne]
   refine aa (eF ho hd T.fits ?_)
   simp only[fv,aK,if_false]
   have hsm:t.sameMemory t.moves t.mask=some true:=by unfold SetTable.sameMemory;simp
   rw[hsm]
   dsimp only
   rw[aw rfl,hl]
   dsimp only
   rw[he]
   dsimp only
   refine aa (wpAny_isSame_ref_self ?_)
   refine aa (ak ?_)
   simp only[if_true]
   refine Bv hu hx ho hd T hel z hQ fuel (n-k'-1) _ (by lia) (by lia) ?_ hd2
   show t.slot (kA t (n-k'-1) (kA t (k'+1) (stand.getD (t.probeStart z)))).j=_
   rw [<- uG,show k' + 1 + (n - k' - 1) = n by lia]
   exact hs
def mG(prog:Program)(w:World)(h:Heap)(S:Addr)(ks:List (List iE)):Prop:=∃o es ep t,h.get? S=some o/\o.ExactSet/\o.data= .set es ep t/\es.size=ks.length/\(∀e∈es.toList,∃k∈ks,∃a,e.2=Value.ref a/\(TK prog w).is h k a)/\Tab t es.size
theorem p9{h h':Heap}{k:List iE}{a:Addr}(x:(TK prog w).is h k a)(k1:∀o,o.cls= .type "tuple"->h.get? a=some o->h'.get? a=some o):(TK prog w).is h' k a:=by
 obtain⟨o2,its,n,f1,f2,f3⟩:=x
 exact⟨o2,its,n,k1 _ f2 f1,f2,f3⟩
theorem zN{α:Type}(xs:Array α)(p:Nat)(x:α):(SetTable.insertAt xs p x).size=xs.size+1:=by
 unfold SetTable.insertAt
 simp only[Array.size_append,Array.size_push,Array.size_extract]
 lia
theorem EW{t:SetTable}{n:Nat}(T:Tab t n)(j:Nat):(t.put j).1.place.size=n+1/\(t.put j).1.dummies= #[]/\(t.put j).1.mask=t.mask:=by
 unfold SetTable.put
 refine⟨?_,?_,rfl⟩
 ·dsimp only
  rw[zN,T.p]
 ·dsimp only
  rw[T.d,au (by unfold SetTable.has;simp)]
theorem Eo{α:Type}{xs:Array α}{p:Nat}{x y:α}(h:y∈(SetTable.insertAt xs p x).toList):y=x\/y∈xs.toList:=by
 unfold SetTable.insertAt at h
 rw[Array.toList_append,Array.toList_push]at h
 rcases aQ.mp h with h|h
 ·rcases aQ.mp h with h|h
  ·rw[Array.toList_extract]at h
   exact .inr (List.mem_of_mem_drop (gx h))
  ·exact .inl (aG.mp h)
 ·rw[Array.toList_extract]at h
  exact .inr (List.mem_of_mem_drop (gx h))
theorem FO:SetTable.sizeAbove (SetTable.grown 5)-1=31/\SetTable.sizeAbove (SetTable.grown 19)-1=127/\SetTable.sizeAbove (SetTable.grown 5)<=sizeLine/\SetTable.sizeAbove (SetTable.grown 19)<=sizeLine:=by decide+kernel
theorem GU{t:SetTable}{n:Nat}(T:Tab t n)(hn:n<=60)(t1:SetTable)(p1:t1.place.size=n+1)(d1:t1.dummies= #[])(m1:t1.mask=t.mask):(t1.tooFull=false/\Tab t1 (n+1))\/(t1.tooFull=true/\∃m,lP m/\SetTable.sizeAbove (SetTable.grown (n+1))-1=m/\SetTable.sizeAbove (SetTable.grown (n+1))<=sizeLine/\n+1<=m/\5*(n+1)<3*m):=by
 have hf:=T.f
 have hfill:t1.fill=n+1:=by unfold SetTable.fill;rw[p1,d1];rfl
 by_cases c:t1.tooFull=true
 ·refine .inr ⟨c,?_⟩
  have c:=bK c
  rw[hfill,m1]at c
  obtain⟨z1,z2,z3,z4⟩:=FO
  rcases T.m with e|e|e<;>rw[e]at c hf
  ·have:n+1=5:=by lia
   rw[this]
   exact⟨31,.inr (.inl rfl),z1,z3,by decide,by decide⟩
  ·have:n+1=19:=by lia
   rw[this]
   exact⟨127,.inr (.inr rfl),z2,z4,by decide,by decide⟩
  ·lia
 ·have c':t1.tooFull=false:=by simpa using c
  refine .inl ⟨c',p1,d1,by rw[m1];exact T.m,?_⟩
  have c:=of_decide_eq_false c'
  rw[hfill]at c
  lia
theorem GG{S:Addr}{s:Shared}{o:Obj}{es:Array (Int×Value)}{ep:Nat}{t:SetTable}{Q:Unit->Shared->Prop}(ho:s.heap.get? S=some o)(hex:o.ExactSet)(hd:o.data= .set es ep t)(hf:t.fits es.size=true){m wanted:Nat}(hm:lP m)(hw:SetTable.sizeAbove wanted-1=m)(hsz:SetTable.sizeAbove wanted<=sizeLine)(hl:es.size<=m)(h5:5*es.size<3*m)(hes:es.size<=sizeLine)
  (h:∀h' o' es' ep' t',Heap.SameBut S s.heap h'->h'.get? S=some o'->o'.ExactSet->o'.data= .set es' ep' t'->es'.size=es.size->(∀e∈es'.toList,e∈es.toList)->Tab t' es'.size->Q () {s with heap:=h'}):
  wpAny (model prog w) A (setRelay S wanted) Q E s:=by
 obtain⟨t',order,e1,e2,e3,e4,e5⟩:=GC hm t (es.map (·.1)) wanted hw (by rw[gB];exact hl)
 rw[gB]at e3 e5
 have hp:=Gx e5
 have hps:(order.filterMap (es[·]?)).size = es.size:=by rw [<- Array.length_toList,hp.length_eq,Array.length_toList]
 unfold setRelay
 refine aa (eF ho hd hf ?_)
 dsimp only
 rw[au (by lia),e1]
 refine aa ?_
 change wpAny _ A (do
  let some (t,order):=some (t',order)|unsupported "internal:set-table-without-room"
  let es':=order.filterMap (es[·]?)
  if es'.size !=es.size then unsupported "internal:set-table-lost-an-element"
  pure (es',t)) _ E s
 dsimp only
 rw[hps,gW]
 simp only[aK,if_false]
 refine ak ?_
 refine wpAny_storeSet_of ho hd ?_ (by rw[hps];exact hes)
 have hg:=bS (Obj.putSet (order.filterMap (es[·]?)) t') ho (by rw[gD _ _ hd];rfl)
 refine h _ _ _ (ep+1) t' (fh s.heap S _) hg ?_ ?_ hps (fun e he=>hp.mem_iff.mp he) ⟨by rw[e3,hps],e4,by rw[e2];exact hm,by rw[e2,hps];exact h5⟩
 ·rw[gD _ _ hd];exact hex
 ·rw[gD _ _ hd]
theorem FU{S x:Addr}{k:List iE}{ks:List (List iE)}{s:Shared}{Q:Bool->Shared->Prop}(hu:A.units<cLine)(hx:(TK prog w).is s.heap k x)(hS:mG prog w s.heap S ks)(hk:k∉ks)(hn:ks.length<60)(hxS:x≠S)
  (h:∀h' tk b,Heap.SameBut S s.heap h'->mG prog w h' S (k::ks)->Q b {s with heap:=h',toks:=tk}):wpAny (model prog w) A (setAdd S (.ref x)) Q E s:=by
 obtain⟨o,es,ep,t,ho,hex,hd,hz,hel,T⟩:=hS
 unfold setAdd
 refine cg ?_
 refine aa ((TK prog w).pyHash hu hx ?_)
 generalize s.toks+(TK prog w).draws k=tk
 unfold setAddHashed
 refine cg ?_
 unfold setAddHashedIn
 refine aa (eF (s:={s with toks:=tk}) ho hd T.fits ?_)
 dsimp only
 rw[show byScan (.ref x) es=false from rfl]
 simp only[aK,if_false]
 obtain⟨n,hn1,hn2⟩:=Gz T.m T.d T.room ((TK prog w).hash k)
 have hne:∀e∈es.toList,∃k' a,k'≠k/\e.2=Value.ref a/\(TK prog w).is s.heap k' a:=fun e he=>by
  obtain⟨k',hk',a,q1,q2⟩:=hel e he
  exact ⟨k',a,fun z=>hk (by rw [<- z]; exact hk'),q1,q2⟩
 have hmk:t.mask<=127:=by rcases T.m with e|e|e<;>rw[e]<;>decide
 unfold setSearch
 refine aa (Bv (s:={s with toks:=tk}) hu hx ho hd T hne _ (fun j=>?_) 100000 n none (by lia) (by unfold SetTable.turns;lia) hn2 rfl)
 dsimp only
 refine aa (eF (s:={s with toks:=tk}) ho hd T.fits ?_)
 dsimp only
 obtain⟨p1,d1,m1⟩:=EW T j
 have hm1:∀e∈(SetTable.insertAt es (t.put j).2 ((TK prog w).hash k,Value.ref x)).toList,∃k'∈k::ks,∃a,e.2=Value.ref a/\(TK prog w).is s.heap k' a:=fun e he=>by
  rcases Eo he with rfl|he
  ·exact⟨k,aJ ..,x,rfl,hx⟩
  ·obtain⟨k',hk',r⟩:=hel e he
   exact⟨k',ay _ hk',r⟩
 have hs1:(SetTable.insertAt es (t.put j).2 ((TK prog w).hash k,Value.ref x)).size=es.size+1:=zN ..
 generalize SetTable.insertAt es (t.put j).2 ((TK prog w).hash k,Value.ref x)=es1 at hm1 hs1
 have keep:∀{h1 h2:Heap},Heap.SameBut S h1 h2->(∀e∈es1.toList,∃k'∈k::ks,∃a,e.2=Value.ref a/\a≠S/\(TK prog w).is h1 k' a)->∀e∈es1.toList,∃k'∈k::ks,∃a,e.2=Value.ref a/\a≠S/\(TK prog w).is h2 k' a:=fun sb hh e he=>by
  obtain⟨k',hk',a,q1,q2,q3⟩:=hh e he
  exact⟨k',hk',a,q1,q2,p9 q3 fun o _ g=>(sb.2 a q2).trans g⟩
 have hm2:∀e∈es1.toList,∃k'∈k::ks,∃a,e.2=Value.ref a/\a≠S/\(TK prog w).is s.heap k' a:=fun e he=>by
  obtain⟨k',hk',a,q1,q2⟩:=hm1 e he
  refine⟨k',hk',a,q1,fun z=>?_,q2⟩
  subst z
  obtain⟨o2,its,n2,f1,f2,_⟩:=q2
  rw[ho]at f1;cases f1;rw[hex.1]at f2;exact absurd f2 (by decide)
 have hsl:es1.size<=sizeLine:=by have:=(by decide:61<=sizeLine);lia
 have fin:∀(t1:SetTable),t1.place.size=es.size+1->t1.dummies= #[]->t1.mask=t.mask->wpAny (model prog w) A (storeSet S es1 t1>>=fun _=>if(!false&&t1.tooFull)=true then(setRelay S (SetTable.grown (es.size+1))>>=fun _=>pure true)else pure true) Q E {s with toks:=tk}:=fun t1 a1 a2 a3=>by
  refine aa (wpAny_storeSet_of (s:={s with toks:=tk}) ho hd ?_ hsl)
  have hg:=bS (Obj.putSet es1 t1) ho (by rw[gD _ _ hd];rfl)
  have hex1:(Obj.putSet es1 t1 o).ExactSet:=by rw[gD _ _ hd];exact hex
  have hd1:(Obj.putSet es1 t1 o).data= .set es1 (ep+1) t1:=by rw[gD _ _ hd]
  have sb:=fh s.heap S (Obj.putSet es1 t1)
  have hm3:=keep sb hm2
  generalize s.heap.update S (Obj.putSet es1 t1)=h1 at hg sb hm3
  generalize Obj.putSet es1 t1 o=o1 at hg hex1 hd1
  rcases GU T (by lia) t1 a1 a2 a3 with⟨c,T1⟩|⟨c,m,hm,hw,hsz,hl,h5⟩
  ·rw[c]
   simp only[fv,aK,if_false]
   refine ak (h h1 tk true sb ⟨o1,es1,ep+1,t1,hg,hex1,hd1,by rw[hs1,hz];rfl,fun e he=>?_,by rw[hs1];exact T1⟩)
   obtain⟨k',hk',a,q1,_,q3⟩:=hm3 e he
   exact⟨k',hk',a,q1,q3⟩
  ·rw[c]
   simp only[eN,Bool.and_self,if_true]
   have hf1:t1.fits es1.size=true:=by
    have:=T.f
    unfold SetTable.fits SetTable.fill
    rw[a1,a2,a3,hs1]
    simp
    have:=T.f
    lia
   refine aa (GG (s:={s with heap:=h1,toks:=tk}) hg hex1 hd1 hf1 hm hw hsz (by rw[hs1];exact hl) (by rw[hs1];exact h5) hsl fun h2 o2 es2 ep2 t2 sb2 g2 x2 d2 z2 l2 T2=>?_)
   refine ak (h h2 tk true (sb.trans sb2) ⟨o2,es2,ep2,t2,g2,x2,d2,by rw[z2,hs1,hz];rfl,fun e he=>?_,T2⟩)
   obtain⟨k',hk',a,q1,_,q3⟩:=keep sb2 hm3 e (l2 e he)
   exact⟨k',hk',a,q1,q3⟩
 split
 ·refine aa (En (s:={s with toks:=tk}) hx fun b=>?_)
  cases b
  ·exact fin _ p1 d1 m1
  ·exact fin _ p1 d1 m1
 ·refine aa (ak ?_)
  exact fin _ p1 d1 m1
theorem vB{h h':Heap}{S:Addr}{ks:List (List iE)}(hS:mG prog w h S ks)(k0:∀o,h.get? S=some o->h'.get? S=some o)(k1:∀b o,o.cls= .type "tuple"->h.get? b=some o->h'.get? b=some o):mG prog w h' S ks:=by
 obtain⟨o,es,ep,t,ho,hex,hd,hz,hel,T⟩:=hS
 refine⟨o,es,ep,t,k0 _ ho,hex,hd,hz,fun e he=>?_,T⟩
 obtain⟨k,hk,a,q1,q2⟩:=hel e he
 exact⟨k,hk,a,q1,p9 q2 fun o c g=>k1 _ _ c g⟩
theorem GF{R:Result->Shared->Prop}{S it l:Addr}{its:Array Value}{more:List (List iE×Addr)}(hh:A.handled=none)(hu:A.in1.units<cLine)(hlen:more.length=its.size)(hsz:its.size<=60)(hnd:(more.map (·.1)).Nodup)(hdl:l≠S)(hdi:it≠S)(hil:l≠it):
  ∀(k i:Nat) (s:Shared) (ks:List (List iE)),its.size-i=k->i<=its.size->ks.Perm ((more.take i).map (·.1))->s.heap.IsListIter it l i->s.heap.IsList l its->mG prog w s.heap S ks->
   (∀(j:Nat) (q:List iE×Addr),more[j]? =some q->its[j]? =some (.ref q.2)/\(TK prog w).is s.heap q.1 q.2)->
   (∀h' tk ks',ks'.length=its.size->mG prog w h' S ks'->(∀b o,b≠S->b≠it->s.heap.get? b=some o->h'.get? b=some o)->R (.ok (.ret .none)) {s with heap:=h',toks:=tk})->
   codeAny (model prog w) A (.builtin "set.update.loop" ⟨[.ref S,.ref it],[]⟩) R s:=by
 intro k
 induction k with
 | zero=>
  intro i s ks hk hi hp hit hl hS hq hR
  have e:i=its.size:=by lia
  subst e
  refine cx F.entry_set_update_loop ?_
  rw[bO fX _]
  show wpAny _ A.in1 (pyNext (.ref it)>>=_) _ _ s
  refine aa (gp hh hit hl (by simp) fun h' eb=>?_)
  show wpAny _ A.in1 (ret Value.none) _ _ _
  refine ak (hR h' s.toks ks ?_ ?_ fun b o _ hb q=>eb b o hb q)
  ·rw[hp.length_eq,ae,aW,hlen]
   exact Nat.min_self _
  ·refine vB hS (fun o q=>eb S o hdi.symm q) fun b o c q=>eb b o (fun z=>?_) q
   subst z
   obtain⟨o',e2,c2,_⟩:=hit
   rw[q]at e2;cases e2;rw[c]at c2;exact absurd c2 (by decide)
 | succ k ih=>
  intro i s ks hk hi hp hit hl hS hq hR
  have hlt:i<its.size:=by lia
  have hlm:i<more.length:=by lia
  obtain⟨hu',hkey⟩:=hq i more[i] (by simp[hlm])
  have nit:∀{b:Addr} {o:Obj},o.cls= .type "tuple"->s.heap.get? b=some o->b≠it:=fun{b o} c q z=>by
   subst z
   obtain⟨o',e2,c2,_⟩:=hit
   rw[q]at e2;cases e2;rw[c]at c2;exact absurd c2 (by decide)
  have nS:∀{b:Addr} {o:Obj},o.cls= .type "tuple"->s.heap.get? b=some o->b≠S:=fun{b o} c q z=>by
   subst z
   obtain⟨o',_,_,_,e2,c2,_⟩:=hS
   rw[q]at e2;cases e2;rw[c2.1]at c;exact absurd c (by decide)
  refine cx F.entry_set_update_loop ?_
  rw[bO fX _]
  show wpAny _ A.in1 (pyNext (.ref it)>>=_) _ _ s
  refine aa (fZ hit hl hu' fun h1 hit1 sb1=>?_)
  have keep1:∀b o,o.cls= .type "tuple"->s.heap.get? b=some o->h1.get? b=some o:=fun b o c q=>sb1.extBut b o (nit c q) q
  have hS1:mG prog w h1 S ks:=vB hS (fun o q=>sb1.extBut S o hdi.symm q) keep1
  have hkey1:(TK prog w).is h1 more[i].1 more[i].2:=p9 hkey fun o c g=>keep1 _ _ c g
  have hxS:more[i].2≠S:=by
   obtain⟨o2,_,_,f1,f2,_⟩:=hkey
   exact nS f2 f1
  have hpi:(more.take (i+1)).map (·.1)=(more.take i).map (·.1)++[more[i].1]:=by
   rw[jM (gE hlm),ah];rfl
  have hnew:more[i].1∉ks:=fun z=>by
   have z:=hp.mem_iff.mp z
   have nd2:((more.take (i+1)).map (·.1)).Nodup:=by
    rw[gK]
    exact List.Pairwise.sublist (eI _ _) hnd
   rw[hpi]at nd2
   exact(bM.mp nd2).2.2 _ z _ (aG.mpr rfl) rfl
  have hkl:ks.length=i:=by rw[hp.length_eq,ae,aW];lia
  show wpAny _ A.in1 (holding [.ref more[i].2] (setAdd S (.ref more[i].2))>>=_) _ _ _
  refine aa (cg ?_)
  refine FU (s:={s with heap:=h1}) hu hkey1 hS1 hnew (by lia) hxS fun h2 tk2 b2 sb2 hS2=>?_
  have kk:∀b o,b≠S->b≠it->s.heap.get? b=some o->h2.get? b=some o:=fun b o b1 b2 q=>(sb2.2 b b1).trans (sb1.extBut b o b2 q)
  refine ak ⟨cy fX _,?_⟩
  refine ih (i+1) _ (more[i].1::ks) (by lia) (by lia) ?_ (hit1.extBut (fun b o c q=>(sb2.2 b c).trans q) hdi) ((hl.extBut sb1.extBut hil).extBut (fun b o c q=>(sb2.2 b c).trans q) hdl) hS2 ?_ ?_
  ·rw[hpi]
   exact(hp.cons _).trans (bQ (l₁:=[more[i].1]))
  ·intro j q hj
   obtain⟨a1,a3⟩:=hq j q hj
   exact⟨a1,p9 a3 fun o c g=>kk _ _ (nS c g) (nit c g) g⟩
  ·intro h' tk ks' hl' hS' k'
   exact hR h' tk ks' hl' hS' fun b o b1 b2 q=>k' b o b1 b2 (kk b o b1 b2 q)
end
section
variable{prog:Program}{w:World}{A:Around}{E:Value->Shared->Prop}{s:Shared}
abbrev mw(led:Bool):Obj:={cls:=.type "set",dict:=none,data:=.set #[] 0 (.fresh 0 0 led)}
theorem Hu{a:Value}{Q:Value->Shared->Prop}
  (hin:∀led:Bool,wpAny (model prog w) A.in1.in1 (Builtin.«set.__init__» ⟨[.ref s.heap.objs.size,a],[]⟩)
   (fun fin s'=>match fin with | .done f=>wants (fun r z=>r= .none/\Q (.ref s.heap.objs.size) z) E (.ok f) s'| .again c=>c.quiet=true/\codeAny (model prog w) A.in1 c (wants (fun r z=>r= .none/\Q (.ref s.heap.objs.size) z) E) s')
   (fun e s'=>wants (fun r z=>r= .none/\Q (.ref s.heap.objs.size) z) E (.error e) s') {s with heap:=s.heap.push (mw led)}):
  wpAny (model prog w) A (call (.type "set") [a]) Q E s:=by
 have z1:=dH.made;have z2:=dH.sub;have z3:=dH.notType;have z4:=dH.canCreate
 have z5:=F.typeCall_set_1 a
 obtain⟨mc,mt,z6⟩:=dH.mro
 refine wpAny_call (codeAny_of_tree ?_)
 show wpAny _ _ (callAny (.type "set") _) _ _ _
 refine ak (And.intro (Code.quiet_builtin _ (by decide+kernel)) (cx F.entry_type_call ?_))
 rw[Around.under_plain (weight_type_call_type "set" [a] []) rfl]
 repeat(any_goals (first|assumption|wp_step))
 refine fj (code_set_new_1 a (E:=E) (Q₁:=fun q y=>∃led:Bool,q=Value.ref s.heap.objs.size/\y={s with heap:=s.heap.push (mw led)}) fun led=>⟨led,rfl,rfl⟩) fun r y hy=>?_
 match r,hy with
 | .error _,hy=>exact hy
 | .ok (.ret q),hy=>
  obtain⟨led,rfl,rfl⟩:=hy
  have tS:Shared.TypeIs {s with heap:=s.heap.push (mw led)} (.ref s.heap.objs.size) "set":=⟨_,aF _ rfl,rfl⟩
  have y1:=dH.init.lookup;have y2:=dH.init.bind (.ref s.heap.objs.size)
  repeat(any_goals (first|assumption|wp_step))
  refine fj (codeAny_call_builtin dH.init.plain F.entry_set_init (check_set_init_1 tS (hin led))) fun r2 y2 hy2=>?_
  match r2,hy2 with
  | .error _,hy2=>exact hy2
  | .ok (.ret _),hy2=>
   obtain⟨rfl,hq⟩:=hy2
   repeat(any_goals (first|assumption|wp_step))
  | .ok .next,hy2=>exact hy2.elim
  | .ok .brk,hy2=>exact hy2.elim
  | .ok .cont,hy2=>exact hy2.elim
 | .ok .next,hy=>exact hy.elim
 | .ok .brk,hy=>exact hy.elim
 | .ok .cont,hy=>exact hy.elim
theorem F1{l:Addr}{its:Array Value}{c:Nat}{more:List (List iE×Addr)}{Q:Value->Shared->Prop}(hh:A.handled=none)(hu:A.in1.in1.in1.units<cLine)(hl:s.heap.get? l=some {cls:=.type "list",dict:=none,data:=.seq its c,slots:=#[]})(hlen:more.length=its.size)(hsz:its.size<=60)(hnd:(more.map (·.1)).Nodup)
  (hq:∀(j:Nat) (q:List iE×Addr),more[j]? =some q->its[j]? =some (.ref q.2)/\(TK prog w).is s.heap q.1 q.2)
  (h:∀h' tk ks,ks.length=its.size->mG prog w h' s.heap.objs.size ks->(∀b o,s.heap.get? b=some o->h'.get? b=some o)->Q (.ref s.heap.objs.size) {s with heap:=h',toks:=tk}):
  wpAny (model prog w) A (call (.type "set") [.ref l]) Q E s:=by
 refine Hu fun led=>?_
 have llt:l<s.heap.objs.size:=aE hl
 have g0:(s.heap.push (mw led)).get? s.heap.objs.size=some (mw led):=aF _ rfl
 have g1:(s.heap.push (mw led)).get? l=some {cls:=.type "list",dict:=none,data:=.seq its c,slots:=#[]}:=af _ hl
 have gk:∀b o,s.heap.get? b=some o->(s.heap.push (mw led)).get? b=some o:=fun b o q=>af _ q
 have gsz:s.heap.objs.size<(s.heap.push (mw led)).objs.size:=aE g0
 generalize s.heap.push (mw led)=h1 at g0 g1 gk gsz
 have w1:=F.sub_list_set
 have w2:=F.sub_list_frozenset
 have w3:(Value.type "list"==Value.type "dict")=false:=by decide
 have gL:h1.IsList l its:=⟨_,g1,rfl,c,rfl⟩
 unfold Builtin.«set.__init__» noKeywords Builtin.Frozenset.updateFrom
 generalize hPI:pyIter=PI
 wp_walk
 subst hPI
 refine dw (s:={s with heap:=h1}) gL ?_
 refine aa (wpAny_runValue ?_)
 have hS0:mG prog w h1 s.heap.objs.size []:=⟨_,#[],0,_,g0,⟨rfl,rfl,rfl⟩,rfl,rfl,fun e he=>(by simp at he),rfl,rfl,.inl rfl,(by decide:5*0<3*7)⟩
 refine GF (A:=A.in1.in1) (more:=more) (by simp[hh]) hu hlen hsz hnd (aU llt) (dG gsz) (aU (Nat.lt_trans llt gsz)) its.size 0 {s with heap:=h1.push {cls:=.type "list_iterator",data:=.fields #[.ref l,.int 0 0]}} [] rfl (bI _) (ix _) ⟨_,aF _ rfl,rfl,rfl⟩ (gL.push _) (vB hS0 (fun o q=>af _ q) fun b o _ q=>af _ q) (fun j q hj=>?_) fun h' tk ks e1 e2 e3=>?_
 ·obtain⟨a1,a2⟩:=hq j q hj
  exact⟨a1,p9 a2 fun o _ g=>af _ (gk _ _ g)⟩
 ·show wpAny _ _ _ _ _ _
  refine ak ?_
  show wpAny _ _ (ret Value.none) _ _ _
  refine ak ⟨rfl,h h' tk ks e1 e2 fun b o q=>?_⟩
  have q1:=gk b o q
  exact e3 b o (aU (aE q)) (aU (aE q1)) (af _ q1)
end
def sO(H:Hp)(v:V)(ns:List Int):Prop:=∃a,v= .ref a/\H a=some (.tup (ns.map V.int))
def Ad(te:TE):TE:=fun σ H Q=>te σ H fun x H1=>∃(l:Addr) (vs:List V) (ks:List (List Int)),x= .ref l/\H1 l=some (.lst vs)/\Paired (sO H1) vs ks/\ks.Nodup/\ks.length<=60/\Q (.int ks.length) H1
theorem AU{X:Cx}{pins:List (Addr×Obj)}{σ:St}{H:Hp}{s:Shared}(I:Inv X pins σ H s):∀{vs:List V} {ks:List (List Int)} {its:List Value},Paired (sO H) vs ks->Vals vs its->
  ∃more:List (List iE×Addr),more.map (·.1)=ks.map (fun ns=>ns.map (Sum.inl:Int->iE))/\∀(j:Nat) (q:List iE×Addr),more[j]? =some q->its[j]? =some (.ref q.2)/\(TK X.prog X.w).is s.heap q.1 q.2
 |_,_,_,.nil,.nil=>⟨[],rfl,fun j q h=>by simp at h⟩
 | _,_,_,.cons (b:=ns) hp tp,.cons rv tr=>by
  obtain⟨more,hk,hm⟩:=AU I tp tr
  obtain⟨a,rfl,ha⟩:=hp
  cases rv
  refine⟨(ns.map (Sum.inl:Int->iE),a)::more,by rw[aq,aq,hk],fun j q h=>?_⟩
  cases j with
  |zero=>
   have e:=(show some _=some q from h)
   cases e
   exact⟨rfl,nC I.hok (by rw[bG];exact ha)⟩
  |succ j=>
   obtain⟨a1,a2⟩:=hm j q (by simpa using h)
   exact⟨by simpa using a1,a2⟩
theorem yH:∀{a b:List Int},a.map (Sum.inl:Int->iE)=b.map Sum.inl->a=b
 |[],[],_=>rfl
 |[],_::_,h=>by cases h
 |_::_,[],h=>by cases h
 |x::a,y::b,h=>by
  rw[aq,aq]at h
  injection h with h1 h2
  rw[yH h2,cI h1]
theorem Ha{X:Cx}{x y:Str}{p p2 pos pos2:Pos}{e:Expr}{te:TE}(hc:X.calm=true)(hu:X.A.units+64<cLine)(hg:Gl X x)(hm:X.mg x=none)(hv:bootBuiltins x=some (.builtin "len"))(hg2:Gl X y)(hm2:X.mg y=none)(hv2:bootBuiltins y=some (.type "set"))(he:PE X e te)
  (hn:x≠"__name__":=by decide) (hdb:(x==("__debug__":Str))=false:=by decide) (hn2:y≠"__name__":=by decide) (hdb2:(y==("__debug__":Str))=false:=by decide)
  (h1:starEach [e] X.env=(false,eval e X.env)::starEach [] X.env:=by rfl) (h2:starEach [.Call (.Name y p2) [e] [] pos2] X.env=(false,eval (.Call (.Name y p2) [e] [] pos2) X.env)::starEach [] X.env:=by rfl):
  PE X (.Call (.Name x p) [.Call (.Name y p2) [e] [] pos2] [] pos) (Ad te):=by
 intro pins s σ H Q I h
 refine cP (lJ I hg hm hv ?_ hn hdb)
 refine g9 ?_ h2 rfl
 rw[h2]
 refine eA ?_
 refine cP (lJ I hg2 hm2 hv2 ?_ hn2 hdb2)
 refine cz (iK (iC he iD h1 pos2 pins s σ H (fun xs H1=>match xs with
  |[x]=>∃(l:Addr) (vs:List V) (ks:List (List Int)),x= .ref l/\H1 l=some (.lst vs)/\Paired (sO H1) vs ks/\ks.Nodup/\ks.length<=60/\Q (.int ks.length) H1
  |_=>False) I h) fun us s1 z=>?_) h1 rfl
 obtain⟨xs,H1,I1,rv,z⟩:=z
 match xs,rv,z with
 | [xv],rv,⟨l,vs,ks,ex,el,pk,nd,hk,q⟩=>
  subst ex
  obtain⟨u,rfl,ru⟩:=rv.one
  cases(show u=Value.ref l from ru)
  obtain⟨zz,its,c,r,hlen,e1⟩:=I1.lstM el
  obtain⟨more,hk1,hm1⟩:=AU I1 pk r
  have hml:more.length=ks.length:=by
   have:=bY List.length hk1
   rw[ae,ae]at this
   exact this
  have hvl:vs.length=ks.length:=aP pk
  refine F1 (more:=more) (I1.ok.hd hc) (show X.A.units+1+1+1<cLine by lia) e1 (by rw[aj];lia) (by rw[aj];lia) (by rw[hk1];exact List.Pairwise.map _ (fun a b hab e=>hab (yH e)) nd) (fun j q2 hj=>?_) fun h' tk ks' hl' hS k'=>?_
  ·obtain⟨a1,a2⟩:=hm1 j q2 hj
   exact⟨by simpa using a1,a2⟩
  ·have I2:Inv X pins σ H1 {s1 with heap:=h',toks:=tk}:=I1.kept fun b o g=>k' b o g
   refine fM ?_
   obtain⟨o,es,ep,t,ho,hex,hd,hz,_,T⟩:=hS
   have hes:es.size=ks.length:=by rw[hz,hl',aj];lia
   refine call_len_set ho hex hd T.fits (by rw[hes];lia) ?_
   refine⟨.int es.size,H1,I2.tok _,⟨_,rfl⟩,?_⟩
   rw[hes]
   exact q
end L2
namespace My
open PySem L2
section
variable{P:Program}{w:World}{K:PySem.W.Frag}{mg:Str->Option Value}{base:Heap}{c1 c2 c3 c4:Tok}{C_NoWeb fq7:Addr}{dI:FuncData}
def j7(ts:List (Int×Int))(C:Int->Bool):Prop:=∀t∈ts,C t.1=true\/C t.2=true
def wC(ps:List (Int×Int))(C:Int->Bool):Int:=(ps.map fun p=>if C p.1=true then p.2 else 0).sum
section
variable{ps ts:List (Int×Int)}
end
section
variable{ps ts:List (Int×Int)}{fs nr nt:List Int}{zs:List (Int×Int×Int)}
def jq(C:Int->Bool)(n:Int):Int:=if C n=true then 1 else 0
def j1(fs:List Int)(X:Int->Prop)[DecidablePred X](n:Int):Bool:=decide (decide (n∈fs)≠decide (X n))
def lj(zs:List (Int×Int×Int)):Int:=(zs.map (·.2.2)).sum
theorem Bip.ends(F:Bip ps ts fs zs nr nt)(wk:WebOk ps ts):∀d∈zs,d.1∈ps.map (·.1)/\d.2.1∈ps.map (·.1):=fun d hd=>by
 have:=bh (f:=fun d:Int×Int×Int=>(d.1,d.2.1)) hd
 rw[F.zt]at this
 exact nJ wk _ this
theorem Bip.tie(F:Bip ps ts fs zs nr nt):∀d∈zs,(d.1,d.2.1)∈ts:=fun d hd=>by
 have:=bh (f:=fun d:Int×Int×Int=>(d.1,d.2.1)) hd
 rw[F.zt]at this
 exact this
theorem Bip.sums(F:Bip ps ts fs zs nr nt)(wk:WebOk ps ts)(C:Int->Bool):(ps.map fun p=>jq C p.1*i9 zs p.1).sum=(zs.map fun d=>d.2.2*(jq C d.1+jq C d.2.1)).sum:=by
 have:=yS wk.p.nodup (jq C) (F.ends wk)
 rw[bG]at this
 exact this
theorem Bip.lower(F:Bip ps ts fs zs nr nt)(wk:WebOk ps ts){C:Int->Bool}(h:j7 ts C):lj zs<=wC ps C:=by
 have a:=F.sums wk C
 have b:(ps.map fun p=>jq C p.1*i9 zs p.1).sum<=wC ps C:=by
  unfold wC
  refine oM fun p hp=>?_
  have:=F.pay p hp
  unfold jq
  split<;>lia
 have c:lj zs<=(zs.map fun d=>d.2.2*(jq C d.1+jq C d.2.1)).sum:=by
  unfold lj
  refine oM fun d hd=>?_
  have p:=F.pos d hd
  have q:1<=jq C d.1+jq C d.2.1:=by
   unfold jq
   rcases h _ (F.tie d hd)with e|e
   ·rw[aw e];split<;>lia
   ·rw[aw e];split<;>lia
  have:=h9 q p
  lia
 lia
theorem rT(t:Int×Int):(jy fs t=t.1/\jA fs t=t.2)\/(jy fs t=t.2/\jA fs t=t.1):=by
 unfold jy jA
 by_cases c:t.1∈fs
 ·rw[aw c,aw c];exact .inl ⟨rfl,rfl⟩
 ·rw[au c,au c];exact .inr ⟨rfl,rfl⟩
theorem Av(two:mE ts fs){X:Int->Prop}[DecidablePred X](T:TCut ps ts fs zs X):j7 ts (j1 fs X):=fun t ht=>by
 obtain⟨h1,h2⟩:=oz two ht
 have key:j1 fs X (jy fs t)=true\/j1 fs X (jA fs t)=true:=by
  unfold j1
  by_cases c:X (jy fs t)
  ·right;simp[h2,T.c3 t ht c]
  ·left;simp[h1,c]
 rcases rT (fs:=fs) t with⟨a,b⟩|⟨a,b⟩
 ·rwa[a,b]at key
 ·rw[a,b]at key;exact key.symm
theorem zD(F:Bip ps ts fs zs nr nt)(wk:WebOk ps ts)(two:mE ts fs){X:Int->Prop}[DecidablePred X](T:TCut ps ts fs zs X):wC ps (j1 fs X)=lj zs:=by
 have a:=F.sums wk (j1 fs X)
 have b:wC ps (j1 fs X)=(ps.map fun p=>jq (j1 fs X) p.1*i9 zs p.1).sum:=by
  unfold wC
  refine Fl.kj fun p hp=>?_
  unfold jq
  by_cases c:j1 fs X p.1=true
  ·rw[aw c,aw c,Int.one_mul]
   unfold j1 at c
   by_cases c1:p.1∈fs
   ·by_cases c2:X p.1
    ·simp[c1,c2]at c
    ·exact(T.c1 p hp c1 c2).symm
   ·by_cases c2:X p.1
    ·exact(T.c2 p hp c1 c2).symm
    ·simp[c1,c2]at c
  ·rw[au c,au c,Int.zero_mul]
 have c:(zs.map fun d=>d.2.2*(jq (j1 fs X) d.1+jq (j1 fs X) d.2.1)).sum=lj zs:=by
  unfold lj
  refine Fl.kj fun d hd=>?_
  have p:=F.pos d hd
  by_cases z:d.2.2=0
  ·rw[z,Int.zero_mul]
  ·obtain⟨h1,h2⟩:=oz two (F.tie d hd)
   have t:=Av two T _ (F.tie d hd)
   have q:=T.c4 d hd (by lia)
   have n1:j1 fs X (jy fs (d.1,d.2.1))=true->j1 fs X (jA fs (d.1,d.2.1))=false:=by
    intro e
    unfold j1 at e ⊢
    by_cases x:X (jA fs (d.1,d.2.1))
    ·simp[h1,q x]at e
    ·simp[h2,x]
   have:jq (j1 fs X) d.1+jq (j1 fs X) d.2.1=1:=by
    unfold jq
    dsimp only at t
    rcases rT (fs:=fs) (d.1,d.2.1)with⟨a,b⟩|⟨a,b⟩<;>rw[a,b]at n1<;>dsimp only at n1
    ·cases e1:j1 fs X d.1<;>cases e2:j1 fs X d.2.1<;>simp[e1,e2]at t n1 ⊢
    ·cases e1:j1 fs X d.1<;>cases e2:j1 fs X d.2.1<;>simp[e1,e2]at t n1 ⊢
   rw[this,hZ]
 lia
theorem vM{α:Type}{f:α->Int}:∀{l:List α},(∀p∈l,0<=f p)->(l.map f).sum<=0->∀p∈l,f p=0
 |[],_,_,_,h=>by cases h
 |a::l,hn,h,p,hp=>by
  rw[aq,List.sum_cons]at h
  have h1:=hn a (aJ ..)
  have h2:=oM (f:=fun _=>(0:Int)) (g:=f) (l:=l) fun q hq=>hn q (ay _ hq)
  rw[Fl.lH]at h2
  rcases aR.mp hp with rfl|hp
  ·lia
  ·exact vM (fun q hq=>hn q (ay _ hq)) (by lia) p hp
theorem Bip.tight(F:Bip ps ts fs zs nr nt)(wk:WebOk ps ts)(two:mE ts fs){C:Int->Bool}(h:j7 ts C)(hc:wC ps C<=lj zs):TCut ps ts fs zs (fun n=>decide (n∈fs)≠C n):=by
 have a:=F.sums wk C
 have e1:(ps.map fun p=>jq C p.1*(p.2-i9 zs p.1)).sum+(ps.map fun p=>jq C p.1*i9 zs p.1).sum=wC ps C:=by
  unfold wC
  rw [<- Fl.n6]
  refine Fl.kj fun p _=>?_
  unfold jq
  split<;>lia
 have e2:(zs.map fun d=>d.2.2*(jq C d.1+jq C d.2.1-1)).sum+lj zs=(zs.map fun d=>d.2.2*(jq C d.1+jq C d.2.1)).sum:=by
  unfold lj
  rw [<- Fl.n6]
  refine Fl.kj fun d _=>?_
  rw[Int.mul_sub,hZ]
  lia
 have p1:∀p∈ps,0<=jq C p.1*(p.2-i9 zs p.1):=fun p hp=>by
  have:=F.pay p hp
  unfold jq
  split<;>lia
 have q1:∀d∈zs,1<=jq C d.1+jq C d.2.1:=fun d hd=>by
  unfold jq
  rcases h _ (F.tie d hd)with e|e
  ·rw[aw e];split<;>lia
  ·rw[aw e];split<;>lia
 have p2:∀d∈zs,0<=d.2.2*(jq C d.1+jq C d.2.1-1):=fun d hd=>Int.mul_nonneg (F.pos d hd) (by have:=q1 d hd;lia)
 have s1:=oM (f:=fun _=>(0:Int)) (l:=ps) p1
 have s2:=oM (f:=fun _=>(0:Int)) (l:=zs) p2
 rw[Fl.lH]at s1 s2
 have z1:=vM p1 (by lia)
 have z2:=vM p2 (by lia)
 have full:∀p∈ps,C p.1=true->i9 zs p.1=p.2:=fun p hp e=>by
  have:=z1 p hp
  unfold jq at this
  rw[aw e]at this
  lia
 refine⟨fun p hp hf hx=>full p hp ?_,fun p hp hf hx=>full p hp ?_,fun t ht hx=>?_,fun d hd h0 hx=>?_⟩
 ·cases e:C p.1 with
  |true=>rfl
  |false=>exact absurd (by rw[e,az hf];decide) hx
 ·cases e:C p.1 with
  |true=>rfl
  |false=>rw[e,aC hf]at hx;exact absurd rfl hx
 ·obtain⟨h1,h2⟩:=oz two ht
  have n1:C (jy fs t)=false:=by
   cases e:C (jy fs t)with
   |false=>rfl
   |true=>rw[e,az h1]at hx;exact absurd rfl hx
  have n2:C (jA fs t)=true:=by
   have:=h t ht
   rcases rT (fs:=fs) t with⟨a,b⟩|⟨a,b⟩
   ·rw[a]at n1;rw[b];exact this.resolve_left (by rw[n1];decide)
   ·rw[a]at n1;rw[b];exact this.resolve_right (by rw[n1];decide)
  rw[n2,aC h2];decide
 ·obtain⟨h1,h2⟩:=oz two (F.tie d hd)
  have n2:C (jA fs (d.1,d.2.1))=true:=by
   cases e:C (jA fs (d.1,d.2.1))with
   |true=>rfl
   |false=>rw[e,aC h2]at hx;exact absurd rfl hx
  have n3:jq C d.1+jq C d.2.1=1:=by
   have:=z2 d hd
   rcases Int.mul_eq_zero.mp this with z|z<;>lia
  have n1:C (jy fs (d.1,d.2.1))=false:=by
   cases e:C (jy fs (d.1,d.2.1))with
   |false=>rfl
   |true=>
    unfold jq at n3
    rcases rT (fs:=fs) (d.1,d.2.1)with⟨a,b⟩|⟨a,b⟩<;>rw[a]at e<;>rw[b]at n2<;>dsimp only at e n2<;>rw[if_pos e,if_pos n2]at n3<;>lia
  rw[n1,az h1];decide
theorem Bip.between(F:Bip ps ts fs zs nr nt){X:Int->Prop}(T:TCut ps ts fs zs X):(∀n∈nr,X n)/\∀n∈ps.map (·.1),n∉nt->¬X n:=by
 constructor
 ·refine F.sR X (fun p hp hf h=>cL fun z=>?_) T.c3 T.c4
  have:=T.c1 p hp hf z
  lia
 ·refine F.tR (fun n=>¬X n) (fun p hp hf h z=>?_) (fun t ht h z=>h (T.c3 t ht z)) fun d hd h0 h z=>h (T.c4 d hd h0 z)
  have:=T.c2 p hp hf z
  lia
end
theorem zO{a b c d:Int}(h:HT.lexLt [a,b] [c,d]=true):a<c\/(a=c/\b<d):=by
 rw[HT.lT]at h
 by_cases e:a=c
 ·rw[aw e,HT.lT]at h
  by_cases e2:b=d
  ·rw[aw e2]at h
   cases h
  ·rw[au e2]at h
   exact .inr ⟨e,bK h⟩
 ·rw[au e]at h
  exact .inl (bK h)
theorem Gh{a b c d e f:Int}(h:HT.lexLt [a,b] [c,d]=true)(g:HT.lexLt [c,d] [e,f]=true):HT.lexLt [a,b] [e,f]=true:=by
 have h:=zO h
 have g:=zO g
 by_cases c:a<e
 ·exact uq c
 ·have:a=e:=by lia
  subst this
  exact xT (by lia)
theorem TiOk.lt{kvs:List (iE×V)}:∀{ts:List (Int×Int)} {q:Int×Int},TiOk kvs q ts->∀p∈ts,HT.lexLt [q.1,q.2] [p.1,p.2]=true
 |[],_,_,_,h=>by cases h
 |u::r,q,h,p,hp=>by
  rcases aR.mp hp with e|hp
  ·rw[e];exact h.1.1
  ·exact Gh h.1.1 (TiOk.lt h.2 p hp)
theorem zq{kvs:List (iE×V)}:∀{ts:List (Int×Int)} {q:Int×Int},TiOk kvs q ts->ts.Pairwise fun a b=>HT.lexLt [a.1,a.2] [b.1,b.2]=true
 |[],_,_=>.nil
 |u::r,q,h=>dX.mpr ⟨fun p hp=>TiOk.lt h.2 p hp,zq h.2⟩
structure DueK(ps ts:List (Int×Int))(ds:List (Int×Int×Int)):Prop where
 lx:ds.Pairwise nD
 nd:(ds.map fun d=>[d.1,d.2.1]).Nodup
 t:∀d∈ds,(d.1,d.2.1)∈ts/\2<=d.2.2/\d.2.2%2=0
 pay:∀p∈ps,i9 ds p.1<=2*p.2
section
variable{ps ts:List (Int×Int)}{fs nr nt:List Int}{zs:List (Int×Int×Int)}
theorem mn{ns:List Int}{n:Int}(hn:n∈ps.map (·.1)):n∈kg ps fs ns↔decide (n∈fs)≠decide (n∈ns):=by
 unfold kg
 rw[cv,bX]
 exact⟨fun h=>h.2,fun h=>⟨hn,h⟩⟩
theorem zF(ns:List Int):kg ps fs ns=(ps.map (·.1)).filter fun n=>decide (n∈kg ps fs ns):=by
 conv=>lhs;unfold kg
 refine List.filter_congr fun n hn=>?_
 by_cases c:n∈kg ps fs ns
 ·rw[az c,az ((mn hn).mp c)]
 ·rw[aC c,aC fun z=>c ((mn hn).mpr z)]
def mY(d:Int×Int×Int):Int×Int×Int:=(d.1,d.2.1,2*d.2.2)
theorem xO(r:List Int):kS (ju false r) ps.length ts ts.length=((jV ps ts r).map mY).filter fun d=>decide (d.2.2>0):=by
 unfold kS jV
 rw[bG]
 congr 1
 refine dJ fun j _=>?_
 show _=((ts.getD j (0,0)).1,(ts.getD j (0,0)).2,2*_)
 rw[D6]
theorem Ee(l:List (Int×Int×Int))(h:∀d∈l,0<=d.2.2):(((l.map mY).filter fun d=>decide (d.2.2>0)).map (·.2.2)).sum=2*lj l:=by
 unfold lj
 induction l with
 |nil=>rfl
 |cons d r ih=>
  have ih:=ih fun q hq=>h q (ay _ hq)
  have h0:=h d (aJ ..)
  rw[aq,cQ,aq,List.sum_cons]
  have e:(mY d).2.2=2*d.2.2:=rfl
  by_cases c:d.2.2>0
  ·rw[aw (az (by lia)),aq,List.sum_cons,ih,e];lia
  ·rw[au (by rw[e];simp;lia),ih];lia
theorem Fd(n:Int)(l:List (Int×Int×Int))(h:∀d∈l,0<=d.2.2):i9 ((l.map mY).filter fun d=>decide (d.2.2>0)) n=2*i9 l n:=by
 unfold i9
 induction l with
 |nil=>rfl
 | cons d r ih=>
  have ih:=ih fun q hq=>h q (ay _ hq)
  have h0:=h d (aJ ..)
  rw[aq,cQ,aq,List.sum_cons]
  by_cases c:d.2.2>0
  ·rw[aw (az (show(mY d).2.2>0 by show 2*d.2.2>0;lia)),aq,List.sum_cons,ih]
   show(if d.1=n then 2*d.2.2 else 0)+(if d.2.1=n then 2*d.2.2 else 0)+_=_
   split<;>split<;>lia
  ·have z:d.2.2=0:=by lia
   rw[au (by show ¬decide (2*d.2.2>0)=true;simp;lia),ih,z]
   split<;>split<;>lia
theorem Jt{r:List Int}(wk:WebOk ps ts)(F:Bip ps ts fs (jV ps ts r) nr nt):DueK ps ts (kS (ju false r) ps.length ts ts.length)/\(kS (ju false r) ps.length ts ts.length).length<=ts.length:=by
 rw[xO]
 have e1:((jV ps ts r).map mY).map (fun d=>(d.1,d.2.1))=ts:=by rw[bG];exact F.zt
 have pw:((jV ps ts r).map mY).Pairwise (fun a b=>HT.lexLt [a.1,a.2.1] [b.1,b.2.1]=true):=by
  have:=zq wk.t
  rw [<- e1,bL] at this
  exact this
 have pf:=pw.filter fun d:Int×Int×Int=>decide (d.2.2>0)
 refine⟨⟨pf.imp fun{a b} h=>?_,?_,fun d hd=>?_,fun p hp=>?_⟩,?_⟩
 ·unfold nD
  rw[HT.lT]at h
  by_cases c:a.1=b.1
  ·rw[aw c,HT.lT]at h
   by_cases c2:a.2.1=b.2.1
   ·rw[aw c2]at h;cases h
   ·rw[au c2]at h
    exact .inr ⟨c,.inl (bK h)⟩
  ·rw[au c]at h
   exact .inl (bK h)
 ·refine bL.mpr (pf.imp fun{a b} h e=>?_)
  rw[e]at h
  simp[HT.lexLt]at h
 ·obtain⟨h1,h2⟩:=cv.mp hd
  obtain⟨z,hz,rfl⟩:=aB.mp h1
  have h2:=bK h2
  have e:(mY z).2.2=2*z.2.2:=rfl
  refine⟨?_,by lia,by lia⟩
  have:=bh (f:=fun d:Int×Int×Int=>(d.1,d.2.1)) h1
  rw[e1]at this
  exact this
 ·rw[Fd _ _ F.pos]
  have:=F.pay p hp
  lia
 ·refine bz (bR _ _) ?_
  have:=bY List.length e1
  rw[ae]at this
  lia
theorem BZ(ns:List Int):wC ps (fun n=>decide (n∈kg ps fs ns))=wC ps (j1 fs (·∈ns)):=by
 unfold wC
 refine Fl.kj fun p hp=>?_
 have:=mn (fs:=fs) (ns:=ns) (bh (f:=fun q:Int×Int=>q.1) hp)
 unfold j1
 by_cases c:p.1∈kg ps fs ns
 ·rw[aw (az c),aw (az (this.mp c))]
 ·rw[au (by simpa using c),au (by simp only[bX];exact fun z=>c (this.mpr z))]
theorem yA(wk:WebOk ps ts)(two:mE ts fs){ns:List Int}(T:TCut ps ts fs zs (·∈ns)):j7 ts fun n=>decide (n∈kg ps fs ns):=fun t ht=>by
 obtain⟨m1,m2⟩:=nJ wk t ht
 rw[bX,bX,mn m1,mn m2]
 rcases Av two T t ht with e|e<;>unfold j1 at e
 ·exact .inl (bK e)
 ·exact .inr (bK e)
structure ToldC(ps ts:List (Int×Int))(fs M:List Int)(S:Int)(b:Bool):Prop where
 own:M=(ps.map (·.1)).filter fun n=>decide (n∈M)
 t:j7 ts fun n=>decide (n∈M)
 w:wC ps (fun n=>decide (n∈M))=S
 lo:∀C,j7 ts C->S<=wC ps C
 some:∀C,j7 ts C->wC ps C<=S->∀n∈ps.map (·.1),decide (n∈fs)=b->C n=true->n∈M
 all:∀C,j7 ts C->wC ps C<=S->∀n∈ps.map (·.1),decide (n∈fs)≠b->n∈M->C n=true
theorem GH(wk:WebOk ps ts)(two:mE ts fs)(F:Bip ps ts fs zs nr nt):ToldC ps ts fs (kg ps fs nr) (lj zs) true/\ToldC ps ts fs (kg ps fs nt) (lj zs) false:=by
 refine⟨⟨zF _,yA wk two F.S,by rw[BZ];exact zD F wk two F.S,fun C t=>F.lower wk t,fun C t c n hn hf hC=>?_,fun C t c n hn hf hM=>?_⟩,⟨zF _,yA wk two F.T,by rw[BZ];exact zD F wk two F.T,fun C t=>F.lower wk t,fun C t c n hn hf hC=>?_,fun C t c n hn hf hM=>?_⟩⟩
 ·have B:=F.between (F.tight wk two t c)
  rw[mn hn,hf]
  by_cases d:n∈nr
  ·have:=B.1 n d
   rw[hf,hC]at this
   exact absurd rfl this
  ·rw[aC d];decide
 ·have B:=F.between (F.tight wk two t c)
  have hf:decide (n∈fs)=false:=by simpa using hf
  rw[mn hn,hf]at hM
  by_cases d:n∈nr
  ·have:=B.1 n d
   rw[hf]at this
   simpa using this
  ·rw[aC d]at hM;exact absurd rfl hM
 ·have B:=F.between (F.tight wk two t c)
  rw[mn hn,hf]
  by_cases d:n∈nt
  ·rw[az d];decide
  ·have:=B.2 n hn d
   rw[hf,hC]at this
   exact absurd (by decide) this
 ·have B:=F.between (F.tight wk two t c)
  have hf:decide (n∈fs)=true:=by simpa using hf
  rw[mn hn,hf]at hM
  by_cases d:n∈nt
  ·rw[az d]at hM;exact absurd rfl hM
  ·have:=B.2 n hn d
   rw[hf]at this
   cases e:C n with
   |true=>rfl
   |false=>rw[e]at this;exact absurd (by decide) this
end
def fA(p:Nat->Int):Nat->Int×Int
 |0=>(p 0,0)
 |j+1=>(p (j+1)+min (fA p j).1 (fA p j).2,(fA p j).1)
theorem rA(p:Nat->Int)(j:Nat):fA p (j+1)=(p (j+1)+min (fA p j).1 (fA p j).2,(fA p j).1):=rfl
def sM(p z:Nat->Int):Nat->Int
 |0=>0
 |m+1=>sM p z m+p m*z m
structure Tz(z:Nat->Int)(m:Nat):Prop where
 b:∀k,k<m->0<=z k/\z k<=2
 t:∀k,k+1<m->2<=z k+z (k+1)
def lv(s:Int×Int)(v:Int):Int:=v*s.1+(2-v)*s.2
theorem lI(s:Int×Int):lv s 2=2*s.1:=by unfold lv;lia
theorem ma(s:Int×Int):lv s 0=2*s.2:=by unfold lv;lia
theorem tG(s:Int×Int):lv s 1=s.1+s.2:=by unfold lv;lia
theorem sr{v:Int}(h:0<=v/\v<=2):v=0\/v=1\/v=2:=by lia
theorem uO{p z:Nat->Int}{n:Nat}(T:Tz z n):∀j,j<n->lv (fA p j) (z j)<=sM p z (j+1)
 |0,h=>by
  unfold fA sM sM
  rcases sr (T.b 0 h)with e|e|e
  ·rw[e,ma];lia
  ·rw[e,tG];lia
  ·rw[e,lI];dsimp only;lia
 |j+1,h=>by
  have ih:=uO (p:=p) T j (by lia)
  have tt:=T.t j h
  rw[rA]
  rw[show sM p z (j+1+1)=sM p z (j+1)+p (j+1)*z (j+1)from rfl]
  rcases sr (T.b (j+1) h)with e|e|e<;>rcases sr (T.b j (by lia))with e'|e'|e'<;>rw[e,e']at tt<;>rw[e']at ih<;>rw[e]<;>simp only[ma,tG,lI]at ih ⊢ <;>lia
theorem qf{p z z':Nat->Int}:∀{m:Nat},(∀k,k<m->z k=z' k)->sM p z m=sM p z' m
 |0,_=>rfl
 |m+1,h=>by
  unfold sM
  rw[qf fun k hk=>h k (by lia),h m (by lia)]
theorem uN(p:Nat->Int):∀(j:Nat) (v:Int),v=0\/v=2->∃z,Tz z (j+1)/\(∀k,z k=0\/z k=2)/\z j=v/\sM p z (j+1)=lv (fA p j) v
 |0,v,hv=>by
  refine⟨fun _=>v,⟨fun k _=>by lia,fun k hk=>by lia⟩,fun _=>hv,rfl,?_⟩
  unfold sM sM fA
  rcases hv with rfl|rfl
  ·rw[ma];simp
  ·rw[lI];dsimp only;lia
 | j+1,v,hv=>by
  obtain⟨u,hu,h2,e2⟩:∃u:Int,(u=0\/u=2)/\2<=u+v/\lv (fA p (j+1)) v=lv (fA p j) u+p (j+1)*v:=by
   rw[rA]
   rcases hv with rfl|rfl
   ·exact⟨2,.inr rfl,by decide,by rw[ma,lI];dsimp only;lia⟩
   ·by_cases c:(fA p j).1<=(fA p j).2
    ·exact⟨2,.inr rfl,by decide,by rw[lI,lI];dsimp only;lia⟩
    ·exact⟨0,.inl rfl,by decide,by rw[lI,ma];dsimp only;lia⟩
  obtain⟨z,T,h02,zj,es⟩:=uN p j u hu
  refine⟨fun k=>if k=j+1 then v else z k,⟨fun k hk=>?_,fun k hk=>?_⟩,fun k=>by dsimp only;split;exact hv;exact h02 k,by dsimp only;rw[if_pos rfl],?_⟩
  ·try dsimp only
   split
   ·lia
   ·exact T.b k (by lia)
  ·try dsimp only
   rw[au (by lia)]
   split
   ·rename_i c
    have:k=j:=by lia
    subst this
    rw[zj];exact h2
   ·exact T.t k (by lia)
  ·rw[show ∀f,sM p f (j+1+1)=sM p f (j+1)+p (j+1)*f (j+1)from fun _=>rfl]
   rw[qf (z':=z) fun k hk=>by rw[au (by lia)],es,e2,aw rfl]
def rv(n:Nat)(f:Nat->Int)(k:Nat):Int:=f (n-1-k)
theorem yc(p z:Nat->Int)(n:Nat):∀m,m<=n->sM p z n=sM p z (n-m)+sM (rv n p) (rv n z) m
 |0,_=>by unfold sM;simp[sM]
 |m+1,h=>by
  rw[yc p z n m (by lia)]
  obtain⟨k,e⟩:∃k,n-m=k+1:=⟨n-m-1,by lia⟩
  rw[e,show n-(m+1)=k by lia]
  show sM p z k+p k*z k+_=sM p z k+(_+rv n p m*rv n z m)
  unfold rv
  rw[show n-1-m=k by lia]
  lia
theorem y6(p z:Nat->Int){n j:Nat}(h:j<n):sM p z n=sM p z (j+1)+sM (rv n p) (rv n z) (n-1-j+1)-p j*z j:=by
 have:=yc p z n (n-j) (by lia)
 rw[show n-(n-j)=j by lia,show n-j=n-1-j+1 by lia]at this
 rw[this]
 show _=sM p z j+p j*z j+_-_
 lia
theorem Tz.rv{z:Nat->Int}{n:Nat}(T:Tz z n):Tz (rv n z) n:=by
 refine⟨fun k hk=>T.b _ (by lia),fun k hk=>?_⟩
 have:=T.t (n-1-(k+1)) (by lia)
 rw[show n-1-(k+1)+1=n-1-k by lia]at this
 show 2<=z (n-1-k)+z (n-1-(k+1))
 lia
def wI(p:Nat->Int)(n j:Nat):Int:=(fA p j).1+(fA (rv n p) (n-1-j)).1-p j
def wO(p:Nat->Int)(n j:Nat):Int:=(fA p j).2+(fA (rv n p) (n-1-j)).2
theorem D5{p z:Nat->Int}{n j:Nat}(T:Tz z n)(h:j<n):lv (wI p n j,wO p n j) (z j)<=sM p z n:=by
 have a:=uO (p:=p) T j h
 have b:=uO (p:=rv n p) T.rv (n-1-j) (by lia)
 rw[show rv n z (n-1-j)=z j by unfold My.rv;rw[show n-1-(n-1-j)=j by lia]]at b
 rw[y6 p z h]
 unfold wI wO
 rcases sr (T.b j h)with e|e|e<;>rw[e]at a b ⊢ <;>simp only[ma,tG,lI]at a b ⊢ <;>lia
theorem D4(p:Nat->Int){n j:Nat}(h:j<n){v:Int}(hv:v=0\/v=2):∃z,Tz z n/\(∀k,z k=0\/z k=2)/\z j=v/\sM p z n=lv (wI p n j,wO p n j) v:=by
 obtain⟨z1,T1,h1,e1,s1⟩:=uN p j v hv
 obtain⟨z2,T2,h2,e2,s2⟩:=uN (rv n p) (n-1-j) v hv
 have key:∀k,j<=k->(if k<=j then z1 k else z2 (n-1-k))=z2 (n-1-k):=fun k hk=>by
  by_cases c:k=j
  ·subst c;rw[aw (av _),e1,e2]
  ·rw[au (by lia)]
 refine⟨fun k=>if k<=j then z1 k else z2 (n-1-k),⟨fun k hk=>?_,fun k hk=>?_⟩,fun k=>by dsimp only;split;exact h1 k;exact h2 _,by dsimp only;rw[if_pos (Nat.le_refl _),e1],?_⟩
 ·try dsimp only
  split
  ·exact T1.b k (by lia)
  ·exact T2.b _ (by lia)
 ·by_cases c:k<j
  ·try dsimp only
   rw[aw (by lia),aw (by lia)]
   exact T1.t k (by lia)
  ·try dsimp only
   rw[key k (by lia),key (k+1) (by lia)]
   have:=T2.t (n-1-(k+1)) (by lia)
   rw[show n-1-(k+1)+1=n-1-k by lia]at this
   lia
 ·rw[y6 p _ h,qf (p:=p) (z':=z1) (m:=j+1) fun k hk=>by rw[aw (by lia)],qf (p:=rv n p) (z':=z2) fun k hk=>?_,s1,s2]
  ·try dsimp only
   rw[aw (av _),e1]
   unfold wI wO
   rcases hv with rfl|rfl
   ·simp only[ma];lia
   ·simp only[lI];lia
  ·show(if n-1-k<=j then _ else _)=_
   rw[key _ (by lia),show n-1-(n-1-k)=k by lia]
def iM(ss:List (Int×Int))(k:Nat):Int:=(ss.getD k (0,0)).1
def iT(ss:List (Int×Int))(k:Nat):Int:=(ss.getD k (0,0)).2
def lz(ss:List (Int×Int))(k:Nat):Int×Int:=(min (iM ss k) (iM ss (k+1)),max (iM ss k) (iM ss (k+1)))
def jH(ss:List (Int×Int)):List (Int×Int):=(List.range (ss.length-1)).map (lz ss)
theorem mH{ss:List (Int×Int)}{k:Nat}(h:k<ss.length):ss[k]? =some (ss.getD k (0,0)):=by
 rw[aI,gE h];rfl
theorem ux{ss:List (Int×Int)}{q:Int×Int}(h:q∈ss):∃k,k<ss.length/\q=ss.getD k (0,0):=by
 obtain⟨k,hk⟩:=List.getElem?_of_mem h
 have l:=(ag.mp hk).1
 exact⟨k,l,aO (hk.symm.trans (mH l))⟩
theorem mR{ss:List (Int×Int)}(nd:(ss.map (·.1)).Nodup){i j:Nat}(hi:i<ss.length)(hj:j<ss.length)(e:iM ss i=iM ss j):i=j:=by
 have g:∀k,k<ss.length->(ss.map (·.1))[k]? =some (iM ss k):=fun k hk=>by rw[aA,mH hk];rfl
 have hi':i<(ss.map (·.1)).length:=by rw[ae];exact hi
 have hj':j<(ss.map (·.1)).length:=by rw[ae];exact hj
 have ei:=g i hi
 have ej:=g j hj
 rw[gE hi']at ei
 rw[gE hj']at ej
 have ei:=aO ei
 have ej:=aO ej
 have pw:=cX.mp nd
 rcases gX i j with c|c|c
 ·exact absurd (by rw[ei,ej,e]) (pw i j hi' hj' c)
 ·exact c
 ·exact absurd (by rw[ei,ej,e]) (pw j i hj' hi' c)
def jv:List (Int×Int)->Int
 |[]=>0
 |p::r=>min (wI (iT (p::r)) (r.length+1) 0) (wO (iT (p::r)) (r.length+1) 0)
def zC(g:List (Int×Int))(C:Int->Bool)(k:Nat):Int:=if C (iM g k)=true then 2 else 0
theorem B8{g:List (Int×Int)}{C:Int->Bool}(h:j7 (jH g) C):Tz (zC g C) g.length:=by
 refine⟨fun k _=>by unfold zC;split<;>lia,fun k hk=>?_⟩
 have:=h (lz g k) (aB.mpr ⟨k,aV.mpr (by lia),rfl⟩)
 unfold lz at this
 dsimp only at this
 unfold zC
 have key:C (iM g k)=true\/C (iM g (k+1))=true:=by
  rcases gg (iM g k) (iM g (k+1))with l|l
  ·rw[fc l,eY l]at this;exact this
  ·rw[eX l,fe l]at this;exact this.symm
 rcases key with e|e
 ·rw[aw e];split<;>lia
 ·rw[aw e];split<;>lia
theorem Co{g:List (Int×Int)}{C:Int->Bool}(T:Tz (zC g C) g.length):j7 (jH g) C:=fun t ht=>by
 obtain⟨k,hk,rfl⟩:=aB.mp ht
 have:=T.t k (by have:=aV.mp hk;lia)
 unfold zC at this
 have key:C (iM g k)=true\/C (iM g (k+1))=true:=by
  by_cases a:C (iM g k)=true
  ·exact .inl a
  ·by_cases b:C (iM g (k+1))=true
   ·exact .inr b
   ·rw[au a,au b]at this;lia
 unfold lz
 dsimp only
 rcases gg (iM g k) (iM g (k+1))with l|l
 ·rw[fc l,eY l];exact key
 ·rw[eX l,fe l];exact key.symm
theorem wG(g:List (Int×Int))(C:Int->Bool):∀m,m<=g.length->2*wC (g.take m) C=sM (iT g) (zC g C) m
 |0,_=>rfl
 |m+1,h=>by
  have ih:=wG g C m (by lia)
  have e:g.take (m+1)=g.take m++[g.getD m (0,0)]:=jM (mH (by lia))
  rw[e]
  unfold wC at ih ⊢
  rw[ah,cu,fL,ih]
  show sM (iT g) (zC g C) m+2*((if C (iM g m)=true then iT g m else 0)+0)=sM (iT g) (zC g C) m+iT g m*zC g C m
  unfold zC
  split<;>lia
theorem yq(g:List (Int×Int))(C:Int->Bool):2*wC g C=sM (iT g) (zC g C) g.length:=by
 rw [<- wG g C _ (av _),aX]
theorem ud{g:List (Int×Int)}{C:Int->Bool}(h:j7 (jH g) C){j:Nat}(hj:j<g.length):(C (iM g j)=true->wI (iT g) g.length j<=wC g C)/\(C (iM g j)=false->wO (iT g) g.length j<=wC g C):=by
 have a:=D5 (p:=iT g) (B8 h) hj
 rw [<- yq] at a
 constructor
 ·intro c
  rw[show zC g C j=2 by unfold zC;rw[aw c],lI]at a
  dsimp only at a
  lia
 ·intro c
  rw[show zC g C j=0 by unfold zC;rw[au (by rw[c];decide)],ma]at a
  dsimp only at a
  lia
open Classical in
theorem E8{g:List (Int×Int)}(nd:(g.map (·.1)).Nodup)(z:Nat->Int)(h02:∀k,z k=0\/z k=2):∃C:Int->Bool,∀k,k<g.length->zC g C k=z k:=by
 refine⟨fun x=>decide (∃k,k<g.length/\iM g k=x/\z k=2),fun k hk=>?_⟩
 unfold zC
 by_cases c:z k=2
 ·rw[aw (az ⟨k,hk,rfl,c⟩),c]
 ·rw[au (by
   rw[bX]
   rintro⟨i,hi,e,h⟩
   rw[mR nd hi hk e]at h
   exact c h)]
  exact((h02 k).resolve_right c).symm
theorem qW{g:List (Int×Int)}(nd:(g.map (·.1)).Nodup){j:Nat}(hj:j<g.length)(b:Bool):∃C:Int->Bool,j7 (jH g) C/\C (iM g j)=b/\wC g C=if b=true then wI (iT g) g.length j else wO (iT g) g.length j:=by
 obtain⟨z,T,h02,e,s⟩:=D4 (iT g) hj (v:=if b=true then 2 else 0) (by cases b<;>simp)
 obtain⟨C,hC⟩:=E8 nd z h02
 have T2:Tz (zC g C) g.length:=⟨fun k hk=>by rw[hC k hk];exact T.b k hk,fun k hk=>by rw[hC k (by lia),hC (k+1) hk];exact T.t k hk⟩
 have a:=yq g C
 rw[qf (z':=z) hC,s]at a
 refine⟨C,Co T2,?_,?_⟩
 ·have h:=hC j hj
  rw[e]at h
  unfold zC at h
  cases b<;>cases c:C (iM g j)<;>simp[c]at h ⊢
 ·cases b
  ·simp only[aK,if_false]at a ⊢
   rw[ma]at a
   dsimp only at a
   lia
  ·simp only[if_true]at a ⊢
   rw[lI]at a
   dsimp only at a
   lia
theorem qP{g:List (Int×Int)}(nd:(g.map (·.1)).Nodup){j:Nat}(hj:j<g.length):min (wI (iT g) g.length j) (wO (iT g) g.length j)=jv g:=by
 have key:∀i k,i<g.length->k<g.length->min (wI (iT g) g.length i) (wO (iT g) g.length i)<=min (wI (iT g) g.length k) (wO (iT g) g.length k):=fun i k hi hk=>by
  have h:∀b,min (wI (iT g) g.length i) (wO (iT g) g.length i)<=if b=true then wI (iT g) g.length k else wO (iT g) g.length k:=fun b=>by
   obtain⟨C,t,_,w⟩:=qW nd hk b
   rw [<- w]
   have:=ud t hi
   cases c:C (iM g i)
   ·have:=this.2 c;lia
   ·have:=this.1 c;lia
  have h1:=h true
  have h2:=h false
  simp only[aK,if_true,if_false]at h1 h2
  lia
 have e:jv g=min (wI (iT g) g.length 0) (wO (iT g) g.length 0):=by
  cases g with
  |nil=>exact absurd hj (gm _)
  |cons p r=>rfl
 rw[e]
 have a:=key j 0 hj (by lia)
 have b:=key 0 j (by lia) hj
 lia
theorem DM{g:List (Int×Int)}(nd:(g.map (·.1)).Nodup){C:Int->Bool}(h:j7 (jH g) C):jv g<=wC g C:=by
 by_cases c:g=[]
 ·subst c;exact bE _
 ·have hl:0<g.length:=dM.mpr c
  have a:=ud h hl
  have b:=qP nd hl
  cases e:C (iM g 0)
  ·have:=a.2 e;lia
  ·have:=a.1 e;lia
theorem DO{g:List (Int×Int)}(nd:(g.map (·.1)).Nodup):∃C:Int->Bool,j7 (jH g) C/\wC g C=jv g:=by
 by_cases c:g=[]
 ·subst c
  exact⟨fun _=>true,fun t ht=>(by cases ht),rfl⟩
 ·have hl:0<g.length:=dM.mpr c
  have b:=qP nd hl
  by_cases d:wI (iT g) g.length 0<=wO (iT g) g.length 0
  ·obtain⟨C,t,_,w⟩:=qW nd hl true
   exact⟨C,t,by rw[w,aw rfl];lia⟩
  ·obtain⟨C,t,_,w⟩:=qW nd hl false
   exact⟨C,t,by rw[w,au (by decide)];lia⟩
theorem lC{g:List (Int×Int)}{j:Nat}(hj:j<g.length):iM g j∈g.map (·.1):=aB.mpr ⟨_,ao (mH hj),rfl⟩
theorem lY{g:List (Int×Int)}{t:Int×Int}(h:t∈jH g):t.1∈g.map (·.1)/\t.2∈g.map (·.1):=by
 obtain⟨k,hk,rfl⟩:=aB.mp h
 have hk:=aV.mp hk
 have a:=lC (g:=g) (j:=k) (by lia)
 have b:=lC (g:=g) (j:=k+1) (by lia)
 unfold lz
 dsimp only
 rcases gg (iM g k) (iM g (k+1))with l|l
 ·rw[fc l,eY l];exact⟨a,b⟩
 ·rw[eX l,fe l];exact⟨b,a⟩
theorem AR{a b:List Int}(h:a.Perm b):a.sum=b.sum:=by
 induction h with
 |nil=>rfl
 |cons x _ ih=>rw[List.sum_cons,List.sum_cons,ih]
 |swap x y l=>rw[List.sum_cons,List.sum_cons,List.sum_cons,List.sum_cons];lia
 |trans _ _ h1 h2=>rw[h1,h2]
structure Part(ps ts g:List (Int×Int))(h th:List (Int×Int)):Prop where
 p:ps.Perm (g++h)
 t:ts.Perm (jH g++th)
 nd:((g++h).map (·.1)).Nodup
 far:∀t∈th,t.1∉g.map (·.1)/\t.2∉g.map (·.1)
section
variable{ps ts g h th:List (Int×Int)}
theorem Part.ndg(P:Part ps ts g h th):(g.map (·.1)).Nodup:=by
 have:=P.nd
 rw[ah]at this
 exact(bM.mp this).1
theorem Part.cost(P:Part ps ts g h th)(C:Int->Bool):wC ps C=wC g C+wC h C:=by
 unfold wC
 rw[AR (P.p.map fun p:Int×Int=>if C p.1=true then p.2 else 0),ah,cu]
theorem Part.tg(P:Part ps ts g h th){C:Int->Bool}(t:j7 ts C):j7 (jH g) C:=fun x hx=>t x (P.t.mem_iff.mpr (bx _ hx))
theorem Part.put(P:Part ps ts g h th){C D:Int->Bool}(t:j7 ts C)(d:j7 (jH g) D):∃E:Int->Bool,j7 ts E/\wC ps E=wC g D+wC h C/\∀n∈g.map (·.1),E n=D n:=by
 refine⟨fun n=>if n∈g.map (·.1)then D n else C n,fun x hx=>?_,?_,fun n hn=>by dsimp only;rw[if_pos hn]⟩
 ·rcases aQ.mp (P.t.mem_iff.mp hx)with hg|hh
  ·obtain⟨a,b⟩:=lY hg
   dsimp only
   rw[aw a,aw b]
   exact d x hg
  ·obtain⟨a,b⟩:=P.far x hh
   dsimp only
   rw[au a,au b]
   exact t x hx
 ·rw[P.cost]
  have nd:=P.nd
  rw[ah]at nd
  have dj:=(bM.mp nd).2.2
  congr 1
  ·unfold wC
   refine Fl.kj fun p hp=>?_
   simp only[aw (bh (f:=fun q:Int×Int=>q.1) hp)]
  ·unfold wC
   refine Fl.kj fun p hp=>?_
   have hno:p.1∉g.map (·.1):=fun z=>dj _ z _ (bh (f:=fun q:Int×Int=>q.1) hp) rfl
   simp only[au hno]
theorem Part.cheap(P:Part ps ts g h th){C:Int->Bool}(t:j7 ts C)(lo:∀D,j7 ts D->wC ps C<=wC ps D):wC g C=jv g:=by
 obtain⟨D,d,e⟩:=DO P.ndg
 obtain⟨E,et,ew,_⟩:=P.put t d
 have a:=lo E et
 have b:=DM P.ndg (P.tg t)
 have w:=P.cost C
 lia
theorem Part.side(P:Part ps ts g h th){fs M:List Int}{S:Int}{b:Bool}(T:ToldC ps ts fs M S b){j:Nat}(hj:j<g.length):iM g j∈M↔(if decide (iM g j∈fs)=b then wI (iT g) g.length j=jv g else jv g<wO (iT g) g.length j):=by
 have hn:iM g j∈ps.map (·.1):=(P.p.map (·.1)).mem_iff.mpr (by rw[ah];exact bx _ (lC hj))
 have ch:=P.cheap T.t fun D d=>by rw[T.w];exact T.lo D d
 have wS:=P.cost fun n=>decide (n∈M)
 rw[T.w]at wS
 have lw:=ud (P.tg T.t) hj
 have ls:=qP P.ndg hj
 have att:∀bb:Bool,(if bb=true then wI (iT g) g.length j else wO (iT g) g.length j)=jv g->∃E,j7 ts E/\wC ps E<=S/\E (iM g j)=bb:=fun bb hb=>by
  obtain⟨D,d,e,w⟩:=qW P.ndg hj bb
  obtain⟨E,et,ew,en⟩:=P.put T.t d
  exact⟨E,et,by rw[ew,w,hb];lia,by rw[en _ (lC hj),e]⟩
 by_cases c:decide (iM g j∈fs)=b
 ·rw[aw c]
  constructor
  ·intro m
   have:=lw.1 (az m)
   lia
  ·intro e
   obtain⟨E,et,ew,en⟩:=att true (by rw[aw rfl];exact e)
   exact T.some E et ew _ hn c en
 ·rw[au c]
  constructor
  ·intro m
   by_cases d:wO (iT g) g.length j=jv g
   ·obtain⟨E,et,ew,en⟩:=att false (by rw[au (by decide)];exact d)
    have:=T.all E et ew _ hn c m
    rw[en]at this
    cases this
   ·lia
  ·intro e
   refine cL fun z=>?_
   have:=lw.2 (aC z)
   lia
end
theorem JF(ts:List (Int×Int))(q:Int×Int):((ts.map j9).any fun c=>jc c (j9 q))=decide (q∈ts):=by
 induction ts with
 |nil=>simp
 | cons t r ih=>
  rw[aq,List.any_cons,ih]
  have:jc (j9 t) (j9 q)=decide (t=q):=by
   obtain⟨a,b⟩:=t
   obtain⟨c,d⟩:=q
   simp only[j9,jc,kK,Bool.and_true]
   by_cases h1:a=c<;>by_cases h2:b=d<;>simp[h1,h2]
  rw[this]
  by_cases c1:t=q
  ·subst c1;simp
  ·by_cases c2:q∈r
   ·simp[c2]
   ·simp[c1,c2,cG c1]
def j3(ps:List (Int×Int))(f:Int->Int):List (iE×V):=ps.map fun p=>(Sum.inl p.1,V.int (2*p.2-f p.1))
theorem AD{ps:List (Int×Int)}(nd:(ps.map (·.1)).Nodup){f:Int->Int}{p:Int×Int}(hp:p∈ps)(a:Int):jC (j3 ps f) (Sum.inl p.1:iE) (.int (2*p.2-f p.1-a))=j3 ps fun m=>f m+(if p.1=m then a else 0):=by
 unfold jC
 have h1:((j3 ps f).any fun kv=>decide (kv.1=(Sum.inl p.1:iE)))=true:=by
  unfold j3
  rw[List.any_map,List.any_eq_true]
  exact⟨p,hp,by simp⟩
 rw[aw h1]
 unfold j3
 rw[bG]
 refine dJ fun q hq=>?_
 dsimp only[Function.comp]
 by_cases c:p.1=q.1
 ·have e:p=q:=by
   have w:=(bL.mp nd)
   have:∀x∈ps,∀y∈ps,x.1=y.1->x=y:=fun x hx y hy e=>by
    obtain⟨i,hi,rfl⟩:=aS.mp hx
    obtain⟨j,hj,rfl⟩:=aS.mp hy
    rcases gX i j with z|z|z
    ·exact absurd e (cX.mp w i j hi hj z)
    ·subst z;rfl
    ·exact absurd e.symm (cX.mp w j i hj hi z)
   exact this p hp q hq c
  subst e
  rw[aw rfl,aw rfl]
  congr 2
  lia
 ·rw[au (fun z=>c (cI z).symm),au c,fm]
theorem AE{ps:List (Int×Int)}(nd:(ps.map (·.1)).Nodup){f:Int->Int}{p:Int×Int}(hp:p∈ps):jb (j3 ps f) (Sum.inl p.1:iE)=some (.int (2*p.2-f p.1)):=by
 have e:j3 ps f=jd (ps.map fun p=>(p.1,2*p.2-f p.1)):=by
  unfold j3 jd
  rw[bG]
  rfl
 rw[e]
 exact qc (ps:=ps.map fun p=>(p.1,2*p.2-f p.1)) (p:=(p.1,2*p.2-f p.1)) (by rw[bG];exact nd) (aB.mpr ⟨p,hp,rfl⟩)
theorem Hq{ns:List Int}(nd:ns.Nodup){i:Nat}{n:Int}(h:ns[i]? =some n):n∉ns.take i:=fun hm=>by
 obtain⟨j,hj,e⟩:=aS.mp hm
 rw[List.getElem_take]at e
 rw[aW]at hj
 obtain⟨hi,e2⟩:=ag.mp h
 exact cX.mp nd j i (by lia) hi (by lia) (e.trans e2.symm)
theorem EZ{hs:List (Int×Int)}{n:Int}(h:n∉hs.map (·.1)):jb (jd hs) (Sum.inl n:iE)=none:=by
 cases e:jb (jd hs) (Sum.inl n:iE)with
 |none=>rfl
 |some v=>exact absurd (rB (by unfold j6;rw[e];rfl)) h
theorem qh:∀(ps:List (Int×Int)),jI (ps.map j9)<=1
 |[]=>by rw[cq,jI];lia
 |p::r=>by
  rw[aq,jI]
  have:=qh r
  have e:ke (j9 p)=1:=rfl
  lia
theorem B0(a b c:V):kn [a,b,c] none (some 2)=[a,b]:=rfl
theorem Jx(a b c:V):¬(HT.i4 [a,b,c].length 0 none=0/\HT.i4 [a,b,c].length [a,b,c].length (some 2)=[a,b,c].length):=fun h=>by cases h.2
theorem uZ:∀ns:List Int,jI (ns.map Dt.int)<=1
 |[]=>by rw[cq,jI];lia
 |n::r=>by
  rw[aq,jI]
  have:=uZ r
  have e:ke (Dt.int n)=0:=rfl
  lia
def nA(d:Int×Int×Int):Dt:=.tup [.int d.1,.int d.2.1,.int d.2.2]
theorem DY{H:Hp}{m:Addr}{xs:List V}(e:H m=some (.lst xs)):kd H (.ref m)=some .lst:=by unfold kd;dsimp only;rw[e]
theorem DX{H:Hp}{m:Addr}{xs:List V}(e:H m=some (.tup xs)):kd H (.ref m)=some .tup:=by unfold kd;dsimp only;rw[e]
theorem D1(H:Hp)(n:Int):kd H (.int n)=some .int:=rfl
def zd:Sp:=fun vs H Q _=>∃v ps ts l zs ds,vs=[v,.ref l]/\jdc H v ps ts/\WebOk ps ts/\H l=some (.lst zs)/\kB H zs ds/\DueK ps ts ds/\ds.length<=60/\(∀d∈ds,d.2.2<10000000000000)/\∀H',Same H H'->Q (.int (ds.map (·.2.2)).sum) H'
theorem xB:∀{ps:List (Int×Int)} {l s:Int},PlOk l s ps->∀p∈ps,p.1<=999
 |[],_,_,_,_,h=>by cases h
 |q::r,l,s,h,p,hp=>by
  rcases aR.mp hp with e|hp
  ·rw[e];exact h.1.2.1
  ·exact xB h.2 p hp
theorem Gf{a b:Int×Int×Int}(h:nD a b)(g:nD b a):a=b:=by
 unfold nD at h g
 exact iw (by lia) (iw (by lia) (by lia))
theorem AS:∀(l:List (Int×Int×Int)),jI (l.map nA)<=1
 |[]=>by rw[cq,jI];lia
 |p::r=>by
  rw[aq,jI]
  have:=AS r
  have e:ke (nA p)=1:=rfl
  lia
theorem Cn{H:Hp}{v:V}{d:Int×Int×Int}(h:Tp H v d):Rep H (nA d) v:=by
 obtain⟨t,e,q⟩:=h
 rw[nA,Rep]
 refine⟨t,_,e,q,?_⟩
 rw[Reps]
 refine⟨_,_,rfl,by rw[Rep],?_⟩
 rw[Reps]
 refine⟨_,_,rfl,by rw[Rep],?_⟩
 rw[Reps]
 exact⟨_,_,rfl,by rw[Rep],by rw[Reps]⟩
theorem vk{H:Hp}:∀{xs:List V} {ds:List (Int×Int×Int)},kB H xs ds->Reps H (ds.map nA) xs
 |_,_,.nil=>by rw[cq,Reps]
 |_,_,.cons r t=>by
  rw[aq,Reps]
  exact⟨_,_,rfl,Cn r,vk t⟩
theorem Il(B:Blt mg)(D:DefAt K mg "_law_whole" (iI 48) ["_law_thing"] f fd):FnOk P w K mg base iQ 1 f fd ["_law_thing"] rL:=by
 have sc:FnScope ["_law_thing"] ["_law_thing"] (ja (iI 48)):=by walk_at "SC"
 refine D.F.ok sc (fun vs H Q E h=>?_) (fun cdv A outer s H vs Q E hr h=>?_)
 ·obtain⟨x,k,rfl,_⟩:=h
  rfl
 obtain⟨x,k,rfl,ek,h⟩:=h
 have hu:=jl hr
 have hu0:_<PySem.cLine:=aD hu
 refine⟨_,(iN (jg (lV (jh (mP .int) rfl B.isinstance bV (iC (qv 0) (iC (mU (v:=.ty "int") rfl B.int gr rfl) iD))) (nF (xy (jh (mP .bl) rfl B.isinstance bV (iC (qv 0) (iC (mU (v:=.ty "bool") rfl B.bool PyProof.Rows.boot_bool rfl) iD)))))))),?_⟩
 simp_arith[ek]
 cases k<;>simpa only[mV,pY,if_true,if_false,aK,c8,eN]using h
theorem Hz(B:Blt mg)(D:DefAt K mg "_law_paid" (iI 49) ["_law_web","_law_dues"] f fd)(Dqw:DefAt K mg "_law_whole" (iI 48) ["_law_thing"] fqw dqw)(Gqw:FnOk P w K mg base iQ 1 fqw dqw ["_law_thing"] rL):FnOk P w K mg base iQ 3 f fd ["_law_web","_law_dues"] zd:=by
 have sc:FnScope ["_law_web","_law_dues","_law_left","_law_place","_law_price","_law_due_here"] ["_law_web","_law_dues"] (ja (iI 49)):=by walk_at "SC"
 refine D.F.ok sc (fun vs H Q E h=>?_) (fun cdv A outer s H vs Q E hr h=>?_)
 ·obtain⟨v,ps,ts,l,zs,ds,rfl,_⟩:=h
  rfl
 obtain⟨v,ps,ts,l,zs,ds,rfl,hw,wk,el,hz,DK,hl,hbd,h⟩:=h
 obtain⟨u,pa,ta,xs,ys,rfl,hu1,hpa,hta,hxs,hys⟩:=hw
 have hxl:=aP hxs
 have hzl:=aP hz
 have hu:=jl hr
 have hu0:_<PySem.cLine:=aD hu
 refine⟨_,(iH (jK (PW.pt (oo (lX (lL (jh (mP .lst) rfl B.isinstance bV (iC (qv 1) (iC (mU (v:=.ty "list") rfl B.list di rfl) iD))))) (rb (jF (qY hr.units) (qv 1) (jh GR rfl B.sorted cj (iC (qv 1) iD)) (jr _))))) (iN (jg lK)) jL) (iH (jK (jF pe (Ha rfl hr.units rfl B.len bP rfl B.set PyProof.Rows.boot_set (k6 (CpScope.of (N:=["_law_due_here"]) (src:=[none]) (by rfl)) rfl (ka (qv 1)) (fun _ _ _ _=>(i3 (i:=0) (j5 (l:=["_law_due_here"]) (by rfl)) rfl (Or.inl rfl))) (fun _ _ _ _=>mq) (fun _ _ _ _=>(oO xx (qv 0) oH (oJ iG))))) (jh kY rfl B.len bP (iC (qv 1) iD)) (jr _)) (iN (jg lK)) jL) (iH (iR (i:=2) sc.nd rfl (Or.inl rfl) va) (iH (j4 bo rfl (ka (iO iP (qv 0) iG (fun _ _=>rfl))) (kE (n:=2) rfl (js (i3 (i:=3) sc.nd rfl (Or.inl rfl)) (js (i3 (i:=4) sc.nd rfl (Or.inl rfl)) kF))) (iN (nH hu (qv 2) (qv 3) (i5 mi iG (qv 4))))) (iH (j4 bo rfl (ka (qv 1)) (i3 (i:=5) sc.nd rfl (Or.inl rfl)) (iH (jK (PW.pt (oo (lX (lL (jh (mP .tup) rfl B.isinstance bV (iC (qv 5) (iC (mU (v:=.ty "tuple") rfl B.tuple PyProof.Rows.boot_tuple rfl) iD))))) (oo (jF pe (jh kY rfl B.len bP (iC (qv 5) iD)) iG (jr _)) (rb (jF (Gq hr.units) (oO xx (qv 5) oH (oJ iG)) (iO iP (qv 0) iG (fun _ _=>rfl)) (by with_unfolding_all rfl)))))) (iN (jg lK)) jL) (iH (jK (PW.pt (oo (jF (qY hr.units) (k6 (CpScope.of (N:=["_law_part"]) (src:=[none]) (by rfl)) rfl (De (qv 5)) (fun _ _ _ _=>(i3 (i:=0) (j5 (l:=["_law_part"]) (by rfl)) rfl (Or.inl rfl))) (fun _ _ _ _=>(nL (lX (lL (i8 Gqw (hr.mono (by decide)) rfl Dqw.m Dqw.F.kp Dqw.b .nil iX (iC (qv 0) iD)))))) (fun _ _ _ _=>(qv 0))) (jE iD) (jr _)) (oo (jF ng (iO iP (qv 5) iG (fun _ _=>rfl)) iG (jr _)) (rb (jF mJ (i5 lB (iO iP (qv 5) iG (fun _ _=>rfl)) iG) iG (jr _)))))) (iN (jg lK)) jL) (iH (nH hu (qv 2) (iO iP (qv 5) iG (fun _ _=>rfl)) (i5 ou (kP hu (qv 2) (iO iP (qv 5) iG (fun _ _=>rfl)) (fun _ _=>rfl)) (iO iP (qv 5) iG (fun _ _=>rfl)))) (iN (nH hu (qv 2) (iO iP (qv 5) iG (fun _ _=>rfl)) (i5 ou (kP hu (qv 2) (iO iP (qv 5) iG (fun _ _=>rfl)) (fun _ _=>rfl)) (iO iP (qv 5) iG (fun _ _=>rfl))))))))) (iH (jK (jF ng (Gs (FY rfl) rfl B.min cN (iC (HS rfl rfl B.list di (qv 2)) iD) (EL iG Dd)) iG (jr _)) (iN (jg lK)) jL) (iN (jg (jh (xw rfl) rfl B.sum PyProof.Rows.boot_sum (iC (k6 (CpScope.of (N:=["_law_due_here"]) (src:=[none]) (by rfl)) rfl (ka (qv 1)) (fun _ _ _ _=>(i3 (i:=0) (j5 (l:=["_law_due_here"]) (by rfl)) rfl (Or.inl rfl))) (fun _ _ _ _=>mq) (fun _ _ _ _=>(iO iP (qv 0) iG (fun _ _=>rfl)))) iD)))))))))),?_⟩
 have hpl:=wk.pl
 have nd:(ps.map (·.1)).Nodup:=wk.p.nodup
 have hkd:=DY el
 have ends:∀d∈ds,d.1∈ps.map (·.1)/\d.2.1∈ps.map (·.1):=fun d hd=>nJ wk _ (DK.t d hd).1
 refine iS fun R hR=>?_
 simp_arith[hkd,mV]
 refine⟨l,zs,ds,10000000000000,rfl,el,hz,by lia,fun q hq=>?_,fun l2 ys2 qs2 h2 py pm pw=>?_⟩
 ·obtain⟨p,hp,e⟩:=aB.mp (ends q hq).2
  have h0:=wk.p.gt p hp
  have h1:=xB wk.p p hp
  have h3:=(DK.t q hq).2.1
  have h4:=hbd q hq
  lia
 have s1:=iL h2 (.lst ys2)
 have e2:upd H l2 (.lst ys2) l2=some (.lst ys2):=iF
 have py1:=k8 s1.tups py
 generalize upd H l2 (.lst ys2)=H1 at s1 e2 py1
 have eqq:qs2=ds:=List.Perm.eq_of_pairwise (fun x y _ _ u v=>Gf u v) pw DK.lx pm
 rw[eqq]at py1
 have z1:=k8 s1.tups hz
 have el1:=s1 _ _ el
 refine⟨.lst (ds.map nA),.lst (ds.map nA),(by rw[Rep];exact⟨l,zs,rfl,el1,vk z1⟩),(by rw[Rep];exact⟨l2,ys2,rfl,e2,vk py1⟩),(by rw[ke];have:=AS ds;lia),.inl ⟨_,_,rfl,rfl⟩,?_⟩
 rw[nN]
 walk_at "D"
 clear h2 py pm pw eqq e2 py1 hkd
 subst hR
 refine iS fun R hR=>?_
 simp_arith[Ad]
 refine kR (jS K l) H1 (fun R2 hR2=>?_) (fun z hz0=>kG ds.length (fun j σ' Hd=>∃w1 vs,σ'=[w1]/\Same H1 Hd/\Hd z=some (.lst vs)/\Paired (sO Hd) vs ((ds.take j).map fun d=>[d.1,d.2.1])) ⟨none,[],rfl,iL hz0 _,iF,.nil⟩ ?_ ?_)
 ·unfold j2
  walk_at "D"
  exact⟨l,rfl,⟨_,SqL.of el1⟩,hR2⟩
 ·rintro j σ' Hd hj ⟨w1,vs,rfl,s7,ez,pv⟩
  have x1:ds[j]? =some ds[j]:=gE hj
  generalize ds[j]=q at x1
  obtain⟨x,hx,px⟩:=lO z1 x1
  obtain⟨b,rfl,hb5⟩:=px
  replace hb5:=s7 _ _ hb5
  have zz:SqL K Hd l zs:=SqL.of (s7 _ _ el1)
  refine⟨⟨_,_,zz,hx⟩,?_⟩
  rintro y H' ⟨rfl,hy'⟩
  have:=hy' _ zz
  rw[hx]at this
  cases this
  have hvl:vs.length<=j:=by
   rw[aP pv,ae,aW]
   exact Nat.min_le_left _ _
  simp_arith[hb5]
  refine⟨Jx (.int q.1) (.int q.2.1) (.int q.2.2),fun t ht=>?_⟩
  rw[B0]
  have q8:=iL ht (.tup [.int q.1,.int q.2.1])
  have e8:upd H' t (.tup [.int q.1,.int q.2.1]) t=some (.tup [.int q.1,.int q.2.1]):=iF
  have ez8:=q8 _ _ ez
  have t9:=l0 (ys:=vs++[.ref t]) ez8
  refine⟨vs,ez8,jk (by lia),_,vs++[.ref t],rfl,jt (s7.trans q8) hz0,iF,?_⟩
  rw[jM x1,ah]
  exact lN (Paired.imp' (fun _ _ ⟨a,e,g⟩=>⟨a,e,t9 _ _ rfl (q8 _ _ g)⟩) pv) ⟨t,rfl,t9 _ _ rfl e8⟩
 rintro σ' H2 ⟨w1,vs,rfl,s2,ez,pv⟩
 refine⟨⟨_,SqL.of (s2 _ _ el1),by lia⟩,?_⟩
 rw[aX]at pv
 refine⟨z,vs,_,rfl,ez,pv,DK.nd,by rw[ae];exact hl,?_⟩
 have s02:=s1.trans s2
 simp_arith[iW,s2 _ _ el1,ae]
 rw[az (show(ds.length:Int)=(zs.length:Int) by lia),au (by decide)]
 clear pv ez s2 el1 z1 s1
 subst hR
 refine iS fun R hR=>?_
 walk_at "D"
 intro d hd0
 have s1:=s02.trans (iL hd0 (.dK []))
 have ed:upd H2 d (.dK []) d=some (.dK []):=iF
 have hd0:H d=none:=s02.free hd0
 generalize upd H2 d (.dK [])=H3 at s1 ed
 subst hR
 refine iS fun R hR=>?_
 refine ku (jS K pa) H3 (fun R' hR'=>?_) (k7 (K:=K) (a:=pa) (xs:=xs) (fun i σ Hc=>∃w1 w2,σ=[some (.ref u),some (.ref l),some (.ref d),w1,w2,none]/\Same H Hc/\Hc d=some (.dK (j3 (ps.take i) fun _=>0))) ⟨none,none,rfl,s1,ed⟩ (fun i σ Hc _ ⟨_,_,_,s2,_⟩=>SqL.of (s2 _ _ hpa)) ?_ ?_)
 ·unfold j2
  simp_arith[iW,s1 _ _ hu1,jw]
  exact⟨pa,rfl,⟨_,SqL.of (s1 _ _ hpa)⟩,hR'⟩
 ·rintro i x σ Hc hx ⟨w1,w2,rfl,s2,ed2⟩
  obtain⟨p,hp,px⟩:=kI hxs hx
  obtain⟨b,rfl,hb⟩:=px.same s2
  simp_arith[hb,ed2]
  have hi:=(ag.mp hp).1
  refine⟨mZ (by decide) (by decide),?_,_,_,rfl,jt s2 hd0,?_⟩
  ·unfold j3
   rw[ae,aW]
   exact jk (by lia)
  ·have hn:jb (j3 (ps.take i) fun _=>0) (Sum.inl p.1:iE)=none:=by
    have e:(j3 (ps.take i) fun _=>0)=jd ((ps.take i).map fun p=>(p.1,2*p.2-0)):=by
     unfold j3 jd
     rw[bG]
     rfl
    rw[e]
    refine EZ ?_
    rw[bG]
    show p.1∉(ps.take i).map (·.1)
    rw[gK]
    exact Hq nd (by rw[aA,hp];rfl)
   rw[iF,vc _ hn,jM hp]
   unfold j3
   rw[ah,List.map_singleton,Int.sub_zero]
 rintro σ H4 ⟨w1,w2,rfl,s2,ed2⟩
 rw[hxl,aX]at ed2
 clear s1 ed s02
 refine(?_:R _ _ _)
 subst hR
 refine iS fun R hR=>?_
 refine ku (jS K l) H4 (fun R' hR'=>?_) (k7 (K:=K) (a:=l) (xs:=zs) (fun i σ Hc=>∃v4,σ=[some (.ref u),some (.ref l),some (.ref d),w1,w2,v4]/\Same H Hc/\Hc d=some (.dK (j3 ps (i9 (ds.take i))))) ⟨none,rfl,s2,ed2⟩ (fun i σ Hc _ ⟨_,_,s3,_⟩=>SqL.of (s3 _ _ el)) ?_ ?_)
 ·unfold j2
  walk_at "D"
  exact⟨l,rfl,⟨_,SqL.of (s2 _ _ el)⟩,hR'⟩
 ·rintro i x σ Hc hx ⟨v4,rfl,s4,ed4⟩
  obtain⟨p,hp,px⟩:=kI hz hx
  obtain⟨t,rfl,et⟩:=id px
  have pm:=ao hp
  obtain⟨cm,c1,ce⟩:=DK.t p pm
  have etc:=s4 _ _ et
  have hkx:=DX etc
  simp only[kh,List.set_cons_zero,List.set_cons_succ]
  refine iS fun R9 hR9=>?_
  simp_arith[hkx,mV,iW,etc]
  refine⟨by decide,fun k1 hk1=>?_⟩
  rw[B0]
  have u1:=iL hk1 (.tup [.int p.1,.int p.2.1])
  have e1:upd Hc k1 (.tup [.int p.1,.int p.2.1]) k1=some (.tup [.int p.1,.int p.2.1]):=iF
  generalize upd Hc k1 (.tup [.int p.1,.int p.2.1])=H5 at u1 e1
  have s45:=s4.trans u1
  simp only[iW,s45 _ _ hu1,jX]
  refine⟨j9 (p.1,p.2.1),ta,ys,ts.map j9,Pr.rep ⟨k1,rfl,e1⟩,rfl,s45 _ _ hta,(Prs.same s45 hys).reps,by have:=qh ts;lia,?_⟩
  rw[aw rfl,JF,az cm]
  walk_at "D"
  try rw[au (by decide)]
  have et5:=s45 _ _ et
  have ed5:=u1 _ _ ed4
  subst hR9
  refine iS fun R9 hR9=>?_
  walk_at "D"
  refine kR (wD K t) H5 (fun R hR=>?_) (fun z hz0=>kG 3 (fun i σ' Hd=>∃w1,σ'=[w1]/\Same H5 Hd/\Hd z=some (.lst [])) ⟨none,rfl,iL hz0 _,iF⟩ ?_ ?_)
  ·unfold BK
   walk_at "D"
   exact⟨t,rfl,⟨_,SqT.of et5⟩,hR⟩
  ·rintro j σ' Hd hj ⟨w3,rfl,s7,ez⟩
   obtain⟨n,x1⟩:∃n:Int,([.int p.1,.int p.2.1,.int p.2.2]:List V)[j]? =some (.int n):=by
    have:j=0\/j=1\/j=2:=by lia
    rcases this with rfl|rfl|rfl
    ·exact⟨_,rfl⟩
    ·exact⟨_,rfl⟩
    ·exact⟨_,rfl⟩
   refine⟨⟨_,_,SqT.of (s7 _ _ et5),x1⟩,?_⟩
   rintro y H' ⟨rfl,hy⟩
   have E1:=aO (x1.symm.trans (hy _ (SqT.of (s7 _ _ et5))))
   subst E1
   walk_at "D"
   refine⟨_,_,rfl,D1 H' n,?_⟩
   simp_arith[pY]
   exact⟨_,rfl,s7,ez⟩
  rintro σ' Hd ⟨w3,rfl,s7,ez⟩
  refine⟨⟨_,SqT.of (s7 _ _ et5),av _⟩,?_⟩
  walk_at "D"
  intro e he
  have s9:=iL he (.lst [])
  have ee:upd Hd e (.lst []) e=some (.lst []):=iF
  have ez9:=s9 _ _ ez
  generalize upd Hd e (.lst [])=He at s9 ee ez9
  have sA:=s7.trans s9
  have sB:=s45.trans sA
  refine⟨.lst [],.lst [],(by rw[Rep];exact⟨z,[],rfl,ez9,rfl⟩),(by rw[Rep];exact⟨e,[],rfl,ee,rfl⟩),(by decide),.inl ⟨_,_,rfl,rfl⟩,?_⟩
  rw[nN]
  have etB:=sB _ _ et
  have edB:=sA _ _ ed5
  clear s7 ez ez9 s9 ee sA ed4 ed5 etc hkx he u1 e1 s45 et5
  simp_arith[iW,etB,mD]
  rw[aC (show ¬p.2.2<2 by lia),au (by decide)]
  refine⟨by decide,?_⟩
  rw[aC (show ¬p.2.2%2=1 by lia),au (by decide)]
  obtain⟨p1,hp1,f1⟩:=aB.mp (ends p pm).1
  obtain⟨p2,hp2,f2⟩:=aB.mp (ends p pm).2
  try dsimp only at f1 f2
  have g1:=AE nd (f:=i9 (ds.take i)) hp1
  rw[f1]at g1
  have q1:=AD nd (f:=i9 (ds.take i)) hp1 p.2.2
  rw[f1]at q1
  have hgl:∀g:Int->Int,(j3 ps g).length<sizeLine:=fun g=>by
   unfold j3
   rw[ae]
   exact jk (by lia)
  subst hR9
  refine iS fun R9 hR9=>?_
  simp_arith[iW,etB,edB,jw,mD,g1]
  rw[q1]
  refine⟨hgl _,?_⟩
  have et8:upd He d (.dK (j3 ps fun m=>i9 (ds.take i) m+(if p.1=m then p.2.2 else 0))) t=some (.tup [.int p.1,.int p.2.1,.int p.2.2]):=by
   rw[iJ (iU et hd0)]
   exact etB
  have ed8:upd He d (.dK (j3 ps fun m=>i9 (ds.take i) m+(if p.1=m then p.2.2 else 0))) d=some (.dK (j3 ps fun m=>i9 (ds.take i) m+(if p.1=m then p.2.2 else 0))):=iF
  have g2:=AE nd (f:=fun m=>i9 (ds.take i) m+(if p.1=m then p.2.2 else 0)) hp2
  rw[f2]at g2
  have q2:=AD nd (f:=fun m=>i9 (ds.take i) m+(if p.1=m then p.2.2 else 0)) hp2 p.2.2
  rw[f2]at q2
  subst hR9
  simp_arith[iW,et8,ed8,jX,mD,g2]
  refine⟨hgl _,_,rfl,jt (jt sB hd0) hd0,?_⟩
  rw[iF]
  refine bY (fun z=>some (HO.dK z)) (Eq.trans q2 ?_)
  have ef:(fun m=>i9 (ds.take i) m+(if p.1=m then p.2.2 else 0)+(if p.2.1=m then p.2.2 else 0))=i9 (ds.take (i+1)):=by
   funext m
   rw[jM hp]
   unfold i9
   rw[ah,cu]
   simp
   lia
  rw [<- ef]
 rintro σ H5 ⟨v4,rfl,s4,ed4⟩
 rw[hzl,aX]at ed4
 refine(?_:R _ _ _)
 subst hR
 refine iS fun R hR=>?_
 simp_arith[wK,ed4]
 refine⟨d,_,rfl,ed4,fun z hz1=>⟨z,ps.map (fun p=>2*p.2-i9 ds p.1),0,rfl,rfl,?_,fun m m1 m2 m3=>?_⟩⟩
 ·rw[iF]
  unfold j3
  rw[bG,bG]
  rfl
 have hm0:¬m<0:=by
  by_cases c:(ps.map fun p=>2*p.2-i9 ds p.1)=[]
  ·rw[m1 c];decide
  ·obtain⟨p,hp,e⟩:=aB.mp (m2 c)
   have:=DK.pay p hp
   lia
 have s5:=s4.trans (iL hz1 (.lst (((j3 ps (i9 ds)).map (·.2)))))
 generalize upd H5 z (.lst (((j3 ps (i9 ds)).map (·.2))))=H6 at s5
 walk_at "D"
 rw[aC hm0,au (by decide)]
 subst hR
 walk_at "D"
 refine kR (jS K l) H6 (fun R2 hR2=>?_) (fun z hz0=>kG ds.length (fun j σ' Hd=>∃w1,σ'=[w1]/\Same H6 Hd/\Hd z=some (.lst (((ds.take j).map (·.2.2)).map V.int))) ⟨none,rfl,iL hz0 _,iF⟩ ?_ ?_)
 ·unfold j2
  walk_at "D"
  exact⟨l,rfl,⟨_,SqL.of (s5 _ _ el)⟩,hR2⟩
 ·rintro j σ' Hd hj ⟨w1,rfl,s7,ez⟩
  have sA:=s5.trans s7
  have x1:ds[j]? =some ds[j]:=gE hj
  generalize ds[j]=q at x1
  obtain⟨x,hx,px⟩:=lO hz x1
  obtain⟨b,rfl,hb5⟩:=px
  replace hb5:=sA _ _ hb5
  have zz:SqL K Hd l zs:=SqL.of (sA _ _ el)
  refine⟨⟨_,_,zz,hx⟩,?_⟩
  rintro y H' ⟨rfl,hy'⟩
  have:=hy' _ zz
  rw[hx]at this
  cases this
  simp_arith[iW,hb5,mD]
  refine⟨_,ez,?_,_,rfl,jt s7 hz0,?_⟩
  ·rw[ae,ae,aW]
   exact jk (by lia)
  ·rw[iF,jM x1,ah,ah]
   rfl
 rintro σ' H7 ⟨w1,rfl,s7,ez⟩
 refine⟨⟨_,SqL.of ((s5.trans s7) _ _ el),by lia⟩,?_⟩
 rw[aX]at ez
 exact⟨z,_,rfl,ez,h _ (s5.trans s7)⟩
theorem Fq(s:List Int)(k:Nat)(n:Int):(s.take k++n::s.drop k).Perm (n::s):=by
 have:=List.perm_middle (a:=n) (l₁:=s.take k) (l₂:=s.drop k)
 rw[gu]at this
 exact this
theorem But.free{s:Addr}{H H':Hp}(b:But s H H'){a:Addr}(ns:a≠s)(h:H' a=none):H a=none:=by
 cases e:H a with
 |none=>rfl
 |some u=>rw[b _ _ ns e]at h;cases h
theorem IZ{s:List Int}{k:Int}{n:Int}:(s.map V.int).take k.toNat++V.int n::(s.map V.int).drop k.toNat=(s.take k.toNat++n::s.drop k.toNat).map V.int:=by
 rw[ah,aq,gK,List.map_drop]
theorem But.updf{s p:Addr}{o':HO}(b:But s H H')(h:H p=none):But s H (L2.upd H' p o'):=fun c u n e=>by rw[iJ (iU e h)];exact b c u n e
theorem But.same{s:Addr}{H2:Hp}(b:But s H H')(q:Same H' H2):But s H H2:=fun c u n e=>q _ _ (b c u n e)
structure StrOk(ss:List (Int×Int)):Prop where
 l1:1<=ss.length
 l40:ss.length<=40
 nd:(ss.map (·.1)).Nodup
 b:∀p∈ss,0<=p.1/\p.1<=919/\1<=p.2/\p.2<=1000000000000
 s:(ss.map (·.2)).sum<=1000000000000
def uS:Sp:=fun vs H Q _=>∃s o m,vs=[.ref s,.int m]/\H s=some o/\StO o/\1<=m/\m<1000000000000000000/\∀d o,0<=d->d<m->StO o->Q (.int d) (upd H s o)
def Aj:Sp:=fun vs H Q _=>∃s o,vs=[.ref s]/\H s=some o/\StO o/\∀sl xs ss H' o',But s H H'->H' s=some o'->StO o'->H sl=none->H' sl=some (.lst xs)->Prs H' xs ss->StrOk ss->Q (.ref sl) H'
theorem EU{v B:Int}{n:Nat}:∀{ss:List (Int×Int)},(∀p∈ss,p.2<=v)->ss.length<=n->0<=v->v*(n:Int)<=B->(ss.map (·.2)).sum<=B:=by
 have aux:∀{ss:List (Int×Int)},(∀p∈ss,p.2<=v)->(ss.map (·.2)).sum<=v*(ss.length:Int):=by
  intro ss
  induction ss with
  |nil=>intro _;simp
  |cons a r ih=>
   intro h
   have h1:=h a (aJ ..)
   have h2:=ih fun n hn=>h n (ay _ hn)
   rw[aq,List.sum_cons,List.length_cons,show v*((r.length+1:Nat):Int)=v*(r.length:Int)+v by rw[Int.natCast_add,fL];simp]
   lia
 intro ss h hl h0 hB
 have h1:=aux h
 have h2:v*(ss.length:Int)<=v*(n:Int):=h9 (by lia) h0
 lia
theorem Ig(B:Blt mg)(D:DefAt K mg "_law_take" (iI 44) ["_law_state","_law_many"] f fd):FnOk P w K mg base iQ 1 f fd ["_law_state","_law_many"] uS:=by
 have sc:FnScope ["_law_state","_law_many","_law_digit","_law_number"] ["_law_state","_law_many"] (ja (iI 44)):=by walk_at "SC"
 refine D.F.ok sc (fun vs H Q E h=>?_) (fun cdv A outer s H vs Q E hr h=>?_)
 ·obtain⟨s,o,m,rfl,_⟩:=h
  rfl
 obtain⟨st,o,m,rfl,es,⟨c,x,fl,rfl,x0,x1⟩,m0,m1,h⟩:=h
 have hu:=jl hr
 have hu0:_<PySem.cLine:=aD hu
 refine⟨_,(iH (jK (lL (iO iP (qv 0) iG (fun _ _=>rfl))) (iH (iR (i:=2) sc.nd rfl (Or.inl rfl) (i5 lB (iO iP (qv 0) iG (fun _ _=>rfl)) (qv 1))) (iH (nG (i5 ER (iO iP (qv 0) iG (fun _ _=>rfl)) (qv 1)) (ra (qv 0) iG oy)) (iH (nG (nK oa (iO iP (qv 0) iG (fun _ _=>rfl)) iG (jr _)) (ra (qv 0) iG oy)) (iN (jg (qv 2)))))) jL) (iH (nG (i5 lB (i5 kl (i5 mi (iO iP (qv 0) iG (fun _ _=>rfl)) iG) iG) iG) (ra (qv 0) iG oy)) (iH (iR (i:=3) sc.nd rfl (Or.inl rfl) (i5 x8 (i5 lB (i5 mi (iO iP (qv 0) iG (fun _ _=>rfl)) (iO iP (qv 0) iG (fun _ _=>rfl))) iG) iG)) (iH (jK (jF oa (qv 1) (i5 tX iG iG) (jr _)) (iH (nG (i5 lB (i5 kl (i5 mi (iO iP (qv 0) iG (fun _ _=>rfl)) iG) iG) iG) (ra (qv 0) iG oy)) (iN (iR (i:=3) sc.nd rfl (Or.inl rfl) (i5 kl (i5 mi (qv 3) iG) (iO iP (qv 0) iG (fun _ _=>rfl)))))) jL) (iN (jg (i5 lB (qv 3) (qv 1)))))))),?_⟩
 simp_arith[iW,es,jw,jX,mD,IX,IW,IV,iF,rM]
 have lo:∀n:Int,0<=n%m:=fun n=>ff _ (by lia)
 have hi:∀n:Int,n%m<m:=fun n=>dZ _ (by lia)
 have y0:0<=(x*48271+39373)%2147483647:=ff _ (by decide)
 have y1:(x*48271+39373)%2147483647<2147483647:=dZ _ (by decide)
 generalize (x*48271+39373)%2147483647=y at y0 y1
 have z0:0<=(y*48271+39373)%2147483647:=ff _ (by decide)
 have z1:(y*48271+39373)%2147483647<2147483647:=dZ _ (by decide)
 generalize (y*48271+39373)%2147483647=z at z0 z1
 have cd:B7 c m:=⟨by lia,by lia⟩
 have cd2:∀n:Int,sV n 16:=fun n=>⟨by decide,by decide⟩
 have cp:sU 10 6:=⟨by decide,by decide,by decide⟩
 refine lr (fun _=>⟨by lia,cd,h _ _ (lo _) (hi _) ⟨_,_,_,rfl,x0,x1⟩⟩) (fun _=>⟨wq (by decide) (by decide),by decide,mZ (by lia) (by lia),by decide,cd2 _,cp,?_⟩)
 refine lr (fun _=>⟨wq (by decide) (by decide),by decide,wq (by decide) (by decide),by lia,h _ _ (lo _) (hi _) ⟨_,_,_,rfl,z0,by lia⟩⟩) (fun _=>⟨by lia,h _ _ (lo _) (hi _) ⟨_,_,_,rfl,y0,by lia⟩⟩)
theorem Iq(B:Blt mg)(D:DefAt K mg "_law_string" (iI 45) ["_law_state"] f fd)(Dqa:DefAt K mg "_law_take" (iI 44) ["_law_state","_law_many"] fqa dqa)(Gqa:FnOk P w K mg base iQ 1 fqa dqa ["_law_state","_law_many"] uS):FnOk P w K mg base iQ 3 f fd ["_law_state"] Aj:=by
 have sc:FnScope ["_law_state","_law_count","_law_number","_law_numbers","_law_k","_law_order","_law_great"] ["_law_state"] (ja (iI 45)):=by walk_at "SC"
 refine D.F.ok sc (fun vs H Q E h=>?_) (fun cdv A outer s H vs Q E hr h=>?_)
 ·obtain⟨s,o,rfl,_⟩:=h
  rfl
 obtain⟨st,o,rfl,es,so,h⟩:=h
 have hu:=jl hr
 have hu0:_<PySem.cLine:=aD hu
 refine⟨_,(iH (iR (i:=1) sc.nd rfl (Or.inl rfl) (i5 kl iG (i8 Gqa (hr.mono (by decide)) rfl Dqa.m Dqa.F.kp Dqa.b .nil iX (iC (qv 0) (iC iG iD))))) (iH (iR (i:=2) sc.nd rfl (Or.inl rfl) (om oq iG)) (iH (iR (i:=3) sc.nd rfl (Or.inl rfl) (jE iD)) (iH (j4 bo rfl (sf rfl B.range (iC (qv 1) iD)) (i3 (i:=4) sc.nd rfl (Or.inl rfl)) (iH (iR (i:=2) sc.nd rfl (Or.inl rfl) (i5 kl (i5 kl (qv 2) iG) (i8 Gqa (hr.mono (by decide)) rfl Dqa.m Dqa.F.kp Dqa.b .nil iX (iC (qv 0) (iC (iO iP (jE (iC iG (iC iG (iC iG iD)))) (i8 Gqa (hr.mono (by decide)) rfl Dqa.m Dqa.F.kp Dqa.b .nil iX (iC (qv 0) (iC iG iD))) (fun _ _=>rfl)) iD))))) (iN (j0 (ko aZ br bq kH (qv 3) (iC (qv 2) iD)))))) (iH (jK (jF mJ (i8 Gqa (hr.mono (by decide)) rfl Dqa.m Dqa.F.kp Dqa.b .nil iX (iC (qv 0) (iC iG iD))) iG (jr _)) (iH (iR (i:=5) sc.nd rfl (Or.inl rfl) (jE iD)) (iH (j4 bo rfl (ka (qv 3)) (i3 (i:=2) sc.nd rfl (Or.inl rfl)) (iN (j0 (ko aZ PySem.F.slot_list_insert PySem.F.type_list_insert C7 (qv 5) (iC (i8 Gqa (hr.mono (by decide)) rfl Dqa.m Dqa.F.kp Dqa.b .nil iX (iC (qv 0) (iC (i5 kl (jh kY rfl B.len bP (iC (qv 5) iD)) iG) iD))) (iC (qv 2) iD)))))) (iN (iR (i:=3) sc.nd rfl (Or.inl rfl) (qv 5))))) jL) (iH (iR (i:=6) sc.nd rfl (Or.inr rfl) (iO iP (jE (iC iG (iC iG (iC iG (iC (i5 tX iG iG) iD))))) (i8 Gqa (hr.mono (by decide)) rfl Dqa.m Dqa.F.kp Dqa.b .nil iX (iC (qv 0) (iC iG iD))) (fun _ _=>rfl))) (iN (jg (k6 (CpScope.of (N:=["_law_number","_law_state","_law_great"]) (src:=[none,some 0,some 6]) (by rfl)) rfl (ka (qv 3)) (fun _ _ _ _=>(i3 (i:=0) (j5 (l:=["_law_number","_law_state","_law_great"]) (by rfl)) rfl (Or.inl rfl))) (fun _ _ _ _=>mq) (fun _ _ _ _=>(kr (iC (qv 0) (iC (i5 kl iG (i8 Gqa (hr.mono (by decide)) rfl Dqa.m Dqa.F.kp Dqa.b .nil iX (iC (qv 1) (iC (qv 2) iD)))) iD))))))))))))),?_⟩
 refine iS fun R hR=>?_
 walk_at "D"
 refine⟨st,o,40,rfl,es,so,by decide,by decide,fun d1 o1 d10 d11 so1=>?_⟩
 have b1:But st H (upd H st o1):=But.at _ _ _
 have e1:upd H st o1 st=some o1:=iF
 generalize upd H st o1=H1 at b1 e1
 obtain⟨n,hn⟩:∃n:Nat,(1:Int)+d1=(n:Int):=⟨(1+d1).toNat,by lia⟩
 try simp only[hn]
 have hn1:1<=n:=by lia
 have hn40:n<=40:=by lia
 clear hn d10 d11
 subst hR
 refine iS fun R hR=>?_
 walk_at "D"
 subst hR
 refine iS fun R hR=>?_
 walk_at "D"
 intro nl hnl
 have q2:=iL hnl (.lst [])
 have b2:=b1.same q2
 have e2:=q2 _ _ e1
 have en2:upd H1 nl (.lst []) nl=some (.lst ((([]:List Int)).map V.int)):=iF
 have nn:nl≠st:=(iU e1 hnl).symm
 have fnl:H nl=none:=b1.free nn hnl
 generalize upd H1 nl (.lst [])=H2 at b2 e2 en2
 clear q2 hnl b1 e1
 subst hR
 refine iS fun R hR=>?_
 refine ku (lG 0 n) H2 (fun R' hR'=>?_) (rZ (n:=n) (fun i σ Hc=>∃num w4 ns o',σ=[some (.ref st),some (.int (n:Int)),some (.int num),some (.ref nl),w4,none,none]/\But st H Hc/\Hc st=some o'/\StO o'/\Hc nl=some (.lst (ns.map V.int))/\ns.length=i/\ns.Nodup/\(∀x∈ns,0<=x/\x<=num)/\-1<=num/\num<= -1+23*(i:Int)) ⟨-1,none,[],o1,rfl,b2,e2,so1,en2,rfl,eK,fun x hx=>(by cases hx),by lia,by lia⟩ ?_ ?_)
 ·unfold pJ
  walk_at "D"
  exact⟨_,rfl,by lia,by lia,by simpa using hR'⟩
 ·rintro i σ Hc hi ⟨num,w4,ns,o',rfl,bc,ec,so',en,hl,nd,hb,h1,h2⟩
  simp only[kh,List.set_cons_zero,List.set_cons_succ]
  refine iS fun R9 hR9=>?_
  walk_at "D"
  intro p1 hp1
  have np:p1≠st:=(iU ec hp1).symm
  refine⟨st,o',3,rfl,(by rw[iJ np.symm];exact ec),so',by decide,by decide,fun d4 o4 d40 d41 so4=>?_⟩
  obtain⟨v,ev,v0,v1⟩:∃v,je [V.int 1,.int 2,.int 23] d4=some (.int v)/\1<=v/\v<=23:=by
   obtain⟨v,ev,hv⟩:=DL (a:=1) (b:=2) (c:=23) d40 d41
   exact⟨v,ev,by lia,by lia⟩
  simp_arith[iW,iJ np,iF,ev]
  refine⟨st,o4,v,rfl,iF,so4,by lia,by lia,fun d5 o5 d50 d51 so5=>?_⟩
  simp_arith[rM]
  have b5:But st Hc (upd (upd Hc p1 (.lst [.int 1,.int 2,.int 23])) st o5):=(But.new hp1).trans (But.at _ _ _)
  have e5:(upd (upd Hc p1 (.lst [.int 1,.int 2,.int 23])) st o5) st=some o5:=iF
  generalize upd (upd Hc p1 (.lst [.int 1,.int 2,.int 23])) st o5=H5 at b5 e5
  have en5:=b5 _ _ nn en
  have bc5:=bc.trans b5
  subst hR9
  walk_at "D"
  refine⟨⟨nl,_,rfl,en5⟩,?_⟩
  simp_arith[en5]
  refine⟨by rw[ae];exact jk (by lia),_,_,ns++[num+1+d5],o5,rfl,bc5.updf fnl,by rw[iJ nn.symm];exact e5,so5,by rw[iF,ah];rfl,by rw[aH,hl];rfl,?_,fun x hx=>?_,by lia,by lia⟩
  ·refine bM.mpr ⟨nd,bB.mpr ⟨List.not_mem_nil,eK⟩,fun a ha b hb'=>?_⟩
   rw[aG.mp hb']
   have:=hb a ha
   lia
  ·rcases aQ.mp hx with hx|hx
   ·have:=hb x hx;lia
   ·rw[aG.mp hx];lia
 rintro σ H3 ⟨num,w4,ns,o3,rfl,b3,e3,so3,en3,hl,nd,hb,h1,h2⟩
 have hb':∀x∈ns,0<=x/\x<=919:=fun x hx=>by have:=hb x hx;lia
 clear hb h1 h2 b2 e2 en2 so1
 refine(?_:R _ _ _)
 subst hR
 refine iS fun R hR=>?_
 walk_at "D"
 refine⟨st,o3,2,rfl,e3,so3,by decide,by decide,fun d2 o2 d20 d21 so2=>?_⟩
 have b4:But st H (upd H3 st o2):=b3.trans (But.at _ _ _)
 have e4:upd H3 st o2 st=some o2:=iF
 have en4:upd H3 st o2 nl=some (.lst (ns.map V.int)):=by rw[iJ nn];exact en3
 generalize upd H3 st o2=H4 at b4 e4 en4
 clear b3 e3 en3
 have J:∀(nl:Addr) (ns:List Int) (w2 w4 w5:Option V) (Hc:Hp) (o':HO),But st H Hc->Hc st=some o'->StO o'->H nl=none->nl≠st->Hc nl=some (.lst (ns.map V.int))->ns.length=n->ns.Nodup->(∀x∈ns,0<=x/\x<=919)->R {nx:=fun _ H'=>Q V.non H',rt:=Q} [some (.ref st),some (.int (n:Int)),w2,some (.ref nl),w4,w5,none] Hc:=by
  clear en4 e4 b4 hl nd hb' nn fnl
  intro nl ns w2 w4 w5 Hc o' bc ec so' fnl nn en hl nd hb
  subst hR
  refine iS fun R hR=>?_
  walk_at "D"
  refine⟨⟨by decide,by decide,by decide⟩,?_⟩
  intro p1 hp1
  have np:p1≠st:=(iU ec hp1).symm
  refine⟨st,o',4,rfl,(by rw[iJ np.symm];exact ec),so',by decide,by decide,fun d4 o4 d40 d41 so4=>?_⟩
  have e10:(10:Int)^Int.toNat 10=10000000000:=by decide
  simp only[e10]
  obtain⟨v,ev,v0,v1,v2⟩:∃v,je [V.int 1,.int 3,.int 9,.int 10000000000] d4=some (.int v)/\1<=v/\v<=1000000000000/\v*(n:Int)<=1000000000000:=by
   obtain⟨v,ev,hv⟩:=DJ (a:=1) (b:=3) (c:=9) (e:=10000000000) d40 d41
   refine⟨v,ev,?_⟩
   rcases hv with rfl|rfl|rfl|rfl
   all_goals exact⟨by lia,by lia,by lia⟩
  simp_arith[iW,iJ np,iF,ev]
  have b5:But st Hc (upd (upd Hc p1 (.lst [.int 1,.int 3,.int 9,.int 10000000000])) st o4):=(But.new hp1).trans (But.at _ _ _)
  have e5:(upd (upd Hc p1 (.lst [.int 1,.int 3,.int 9,.int 10000000000])) st o4) st=some o4:=iF
  generalize upd (upd Hc p1 (.lst [.int 1,.int 3,.int 9,.int 10000000000])) st o4=H5 at b5 e5
  have en5:=b5 _ _ nn en
  have bc5:=bc.trans b5
  clear e10 ev en bc b5 hp1 np
  subst hR
  walk_at "D"
  refine kR (jS K nl) H5 (fun R2 hR2=>?_) (fun z hz0=>kG ns.length (fun j σ' Hd=>∃w1 vs ss o',σ'=[w1,some (.ref st),some (.int v)]/\But st H Hd/\Hd st=some o'/\StO o'/\Hd nl=some (.lst (ns.map V.int))/\Hd z=some (.lst vs)/\Prs Hd vs ss/\ss.map (·.1)=ns.take j/\∀p∈ss,1<=p.2/\p.2<=v) ⟨none,[],[],o4,rfl,bc5.same (iL hz0 _),(iL hz0 _) _ _ e5,so4,(iL hz0 _) _ _ en5,iF,.nil,rfl,fun p hp=>(by cases hp)⟩ ?_ ?_)
  ·unfold j2
   walk_at "D"
   exact⟨nl,rfl,⟨_,SqL.of en5⟩,hR2⟩
  ·rintro j σ' Hd hj ⟨w1,vs,ss,o9,rfl,b6,e6,so6,en6,ez,pz,hm,hp⟩
   have x1:ns[j]? =some ns[j]:=gE hj
   generalize ns[j]=m at x1
   have z1:SqL K Hd nl (ns.map V.int):=SqL.of en6
   have x2:(ns.map V.int)[j]? =some (.int m):=by rw[aA,x1];rfl
   refine⟨⟨_,_,z1,x2⟩,?_⟩
   rintro y H' ⟨rfl,hy'⟩
   have:=hy' _ z1
   rw[x2]at this
   cases this
   walk_at "D"
   refine⟨st,o9,v,rfl,e6,so6,by lia,by lia,fun d7 o7 d70 d71 so7=>?_⟩
   have nz:z≠st:=(iU e5 hz0).symm
   have b7:But st H (upd H' st o7):=b6.trans (But.at _ _ _)
   have e7:upd H' st o7 st=some o7:=iF
   have pz7:=Prs.tups ((But.at st H' o7).tups e6 so6.imm) pz
   have ez7:upd H' st o7 z=some (.lst vs):=by rw[iJ nz];exact ez
   have en7:upd H' st o7 nl=some (.lst (ns.map V.int)):=by rw[iJ nn];exact en6
   generalize upd H' st o7=H7 at b7 e7 pz7 ez7 en7
   walk_at "D"
   intro t ht
   have q8:=iL ht (.tup [.int m,.int (1+d7)])
   have et:upd H7 t (.tup [.int m,.int (1+d7)]) t=some (.tup [.int m,.int (1+d7)]):=iF
   have b8:=b7.same q8
   have ez8:=q8 _ _ ez7
   have e8:=q8 _ _ e7
   have en8:=q8 _ _ en7
   have pz8:=Prs.same q8 pz7
   generalize upd H7 t (.tup [.int m,.int (1+d7)])=H8 at et b8 ez8 e8 en8 pz8
   have hvl:vs.length<=j:=by
    rw [aP pz,<- ae (f:=fun q:Int × Int=>q.1),hm,aW]
    exact Nat.min_le_left _ _
   have fz:H z=none:=(bc5.free nz hz0)
   have t9:=l0 (ys:=vs++[.ref t]) ez8
   have nnz:nl≠z:=iU en5 hz0
   refine⟨vs,ez8,jk (by lia),_,vs++[.ref t],ss++[(m,1+d7)],o7,rfl,b8.updf fz,by rw[iJ nz.symm];exact e8,so7,by rw[iJ nnz];exact en8,iF,lN (Prs.tups t9 pz8) ⟨t,rfl,t9 _ _ rfl et⟩,?_,fun p hp'=>?_⟩
   ·rw[ah,hm,jM x1];rfl
   ·rcases aQ.mp hp' with hp'|hp'
    ·exact hp p hp'
    ·rw[List.mem_singleton.mp hp'];dsimp only;lia
  ·rintro σ' H6 ⟨w1,vs,ss,o6,rfl,b6,e6,so6,en6,ez,pz,hm,hp⟩
   refine⟨⟨_,SqL.of en6,by rw[ae];lia⟩,?_⟩
   rw[aX]at hm
   have hsl:ss.length = n:=by rw [<- hl,<- hm,ae]
   have fz:H z=none:=(bc5.free (iU e5 hz0).symm hz0)
   refine h z vs ss H6 o6 b6 e6 so6 fz ez pz ⟨by lia,by lia,by rw[hm];exact nd,fun p hp'=>?_,EU (v:=v) (n:=n) (fun p hp'=>(hp p hp').2) (by lia) (by lia) v2⟩
   have h1:=hp p hp'
   have h2:=hb p.1 (by rw [<- hm]; exact bh hp')
   lia
 walk_at "D"
 refine lr (fun c=>?_) (fun c=>?_)
 ·intro ol hol
  have q5:=iL hol (.lst [])
  have b5:=b4.same q5
  have e5:=q5 _ _ e4
  have en5:=q5 _ _ en4
  have eo5:upd H4 ol (.lst []) ol=some (.lst ((([]:List Int)).map V.int)):=iF
  have no:ol≠st:=(iU e4 hol).symm
  have nno:nl≠ol:=iU en4 hol
  have fol:H ol=none:=b4.free no hol
  generalize upd H4 ol (.lst [])=H5 at b5 e5 en5 eo5
  refine ku (jS K nl) H5 (fun R' hR'=>?_) (k7 (K:=K) (a:=nl) (xs:=ns.map V.int) (fun i σ Hc=>∃w2 w4 os o',σ=[some (.ref st),some (.int (n:Int)),w2,some (.ref nl),w4,some (.ref ol),none]/\But st H Hc/\Hc st=some o'/\StO o'/\Hc nl=some (.lst (ns.map V.int))/\Hc ol=some (.lst (os.map V.int))/\os.Perm (ns.take i)) ⟨_,_,[],o2,rfl,b5,e5,so2,en5,eo5,by rw[List.take_zero]⟩ (fun i σ Hc _ ⟨_,_,_,_,_,_,_,_,z,_⟩=>SqL.of z) ?_ ?_)
  ·unfold j2
   walk_at "D"
   exact⟨nl,rfl,⟨_,SqL.of en5⟩,hR'⟩
  ·rintro i y σ Hc hy ⟨w2,w4,os,o',rfl,bc,ec,so',en,eo,pm⟩
   rw[aA]at hy
   obtain⟨m,hm,rfl⟩:=bN.mp hy
   have hil:i<ns.length:=(ag.mp hm).1
   have hol':os.length=i:=by rw[pm.length_eq,aW];lia
   simp only[kh,List.set_cons_zero,List.set_cons_succ]
   walk_at "D"
   refine⟨⟨ol,_,rfl,eo⟩,?_⟩
   simp_arith[iW,eo,ae]
   refine⟨st,o',(os.length:Int)+1,rfl,ec,so',by lia,by lia,fun d7 o7 d70 d71 so7=>?_⟩
   have b7:But st H (upd Hc st o7):=bc.trans (But.at st Hc o7)
   have e7:upd Hc st o7 st=some o7:=iF
   have en7:upd Hc st o7 nl=some (.lst (ns.map V.int)):=by rw[iJ nn];exact en
   have eo7:upd Hc st o7 ol=some (.lst (os.map V.int)):=by rw[iJ no];exact eo
   generalize upd Hc st o7=H7 at b7 e7 en7 eo7
   try unfold pE
   try dsimp only
   rw[eo7]
   try dsimp only
   rw[IZ]
   refine⟨⟨d70,by rw[ae];lia,by rw[ae];lia⟩,_,_,os.take d7.toNat++m::os.drop d7.toNat,o7,rfl,b7.updf fol,by rw[iJ no.symm];exact e7,so7,by rw[iJ nno];exact en7,iF,?_⟩
   rw[jM hm]
   exact(Fq os d7.toNat m).trans ((pm.cons m).trans (bQ (l₁:=[m])))
  ·rintro σ Hc ⟨w2,w4,os,o',rfl,bc,ec,so',en,eo,pm⟩
   rw[ae,aX]at pm
   walk_at "D"
   exact J ol os _ _ _ Hc o' bc ec so' fol no eo (by rw[pm.length_eq,hl]) (pm.nodup_iff.mpr nd) fun x hx=>hb' x (pm.mem_iff.mp hx)
 ·exact J nl ns _ _ _ H4 o2 b4 e4 so2 fnl nn en4 hl nd hb'
end
end My
namespace L2
open PySem PySem.Spec PyProof.Rows
section
variable{X:Cx}
theorem HX(a:Value):argsOk "min" ⟨[a],[]⟩:=by unfold argsOk;kernel_rfl
def CP:List V->Hp->VK->Prop:=fun vs H Q=>∃(p:Addr) (ns:List Int),vs=[.ref p]/\H p=some (.tup (ns.map V.int))/\ns≠[]/\
 ∀m,m∈ns->(∀x∈ns,m<=x)->Q (.int m) H
theorem GQ(hc:X.calm=true):jbs X (.builtin "min") CP:=by
 intro pins s σ H xs us Q I r h
 obtain⟨p,ns,rfl,e,hne,q⟩:=h
 obtain⟨u,rfl,rx⟩:=kZ r
 cases rx
 obtain⟨its,r',e',z⟩:=I.tuple (SqT.of e)
 have hlen:=r'.length
 have hI:=my r'
 have plt:p<s.heap.objs.size:=aE e'.choose_spec.1
 have hL:s.heap.IsTuple p its.toArray:=e'
 refine gM fT fG fH (HX _) ?_
 show wpAny _ X.A.in1 (Builtin.Builtins.bindParams "min" ["key","default"] 0 ⟨[],[]⟩>>=_) _ _ s
 refine aa (fD (show Builtin.Builtins.bindParams "min" ["key","default"] 0 ⟨[],[]⟩=pure [none,none]from rfl) ?_)
 refine aa (ak ?_)
 refine aa (fo hL ?_)
 refine aa (dO ?_ (bI _))
 rw[lE]
 have hS:(s.heap.push {cls:=.type "tuple_iterator",data:=.fields #[.ref p,.int 0 0]}).objs.size=s.heap.objs.size+1:=eS ..
 have W:=Walks.tuple (prog:=X.prog) (w:=X.w) (A:=X.A.in1) (show X.A.in1.handled=none from I.ok.hd hc) s.heap.objs.size p (aU plt) its.toArray
 have hsz:its.toArray.size = ns.length:=by rw [aj,<- hlen,ae]
 have hval:∀(i:Nat) (v:Value),its.toArray[i]? =some v->∃t:Tok,v=Value.int (ns[i]?.getD 0) t:=fun i v hv=>by
  have hv':its[i]? =some v:=by simpa using hv
  have hi:i<ns.length:=by
   have:=(ag.mp hv').1
   rw[ae]at hlen
   lia
  obtain⟨u,e1,t,e2⟩:=r'.get (i:=i) (x:=.int ns[i]) (by rw[aA,gE hi];rfl)
  rw[hv']at e1
  cases e1
  exact⟨t,by rw[e2,gE hi];rfl⟩
 have kp0:∀(h':Heap) (tk:Nat),(∀b o,b∉[s.heap.objs.size]->b≠(s.heap.push {cls:=.type "tuple_iterator",data:=.fields #[.ref p,.int 0 0]}).objs.size->((s.heap.push {cls:=.type "tuple_iterator",data:=.fields #[.ref p,.int 0 0]}).push {cls:=.type "list",data:=.seq #[]}).get? b=some o->h'.get? b=some o)->
   Inv X pins σ H {s with heap:=h',toks:=tk}:=fun h' tk k=>I.kept fun b o qq=>k b o (by
    intro z
    have:b=s.heap.objs.size:=by simpa using z
    exact absurd (aE qq) (by rw[this];exact cw _)) (by rw[hS];exact aU (cD (aE qq))) (af _ (af _ qq))
 have hst0:(fun i (h:Heap)=>h.IsTupleIter s.heap.objs.size p i/\h.IsTuple p its.toArray) 0 ((s.heap.push {cls:=.type "tuple_iterator",data:=.fields #[.ref p,.int 0 0]}).push {cls:=.type "list",data:=.seq #[]}):=
  ⟨⟨_,af _ (aF _ rfl),rfl,rfl⟩,(hL.push _).push _⟩
 have hSg:((s.heap.push {cls:=.type "tuple_iterator",data:=.fields #[.ref p,.int 0 0]}).push {cls:=.type "list",data:=.seq #[]}).get? (s.heap.push {cls:=.type "tuple_iterator",data:=.fields #[.ref p,.int 0 0]}).objs.size=some {cls:=.type "list",dict:=none,data:=.seq #[] 0,slots:=#[]}:=aF _ rfl
 have hSf:(s.heap.push {cls:=.type "tuple_iterator",data:=.fields #[.ref p,.int 0 0]}).objs.size∉[s.heap.objs.size,p]:=by
  rw[hS]
  intro z
  rcases aR.mp z with z|z
  ·exact absurd z (eV _)
  ·have z:=aG.mp z
   rw [<- z] at plt
   exact cw _ (aD plt)
 refine ak ⟨cy aY _,?_⟩
 refine cx cB ?_
 rw[bO aY _]
 show wpAny _ X.A.in1 (seqItems? (.ref _)>>=_) _ _ _
 refine aa (bJ hSg rfl ?_)
 show wpAny _ X.A.in1 (tryCatch (pyNext (.ref s.heap.objs.size)) _>>=_) _ _ _
 cases hn:ns with
 |nil=>exact absurd hn hne
 | cons n0 rest=>
  have hpos:0<its.toArray.size:=by rw[hsz,hn];simp
  refine aa (cE (W.item 0 _ _ _ hpos hst0 fun v h' tk hP hst' kp=>?_))
  obtain⟨t',rfl⟩:=hval 0 v hP
  have hS':=kp _ _ (fun z=>hSf (aR.mpr (.inl (aG.mp z)))) hSg
  show wpAny _ X.A.in1 (updateSeq _ (fun _=>#[_,_])>>=_) _ _ _
  refine aa ?_
  refine cY hS' rfl ?_
  rw[lE]
  refine ak ⟨cy aY _,vJ W (fun i=>ns[i]?.getD 0) hval _ _ hSf _ 1 _ _ t' _ rfl hpos (W.frame _ _ _ hst' fun b hbf o e=>?_) ⟨⟨0,Nat.one_pos,rfl⟩,fun i hi=>by
   have:i=0:=by lia
   subst this;exact bE _⟩ (bS _ hS' rfl) fun m u h'' tk'' hB k''=>?_⟩
  ·exact(bf _ _ (fun z=>hSf (by rw[z];exact hbf))).trans e
  ·refine⟨.int m,H,kp0 h'' tk'' fun b o h1 h2 h3=>k'' b o h1 h2 ((bf _ _ (cG h2)).trans (kp b o h1 h3)),⟨u,rfl⟩,q m ?_ fun x hx=>?_⟩
   ·obtain⟨i,hi,e1⟩:=hB.1
    rw[hsz]at hi
    rw[e1]
    show ns[i]?.getD 0∈ns
    rw[gE hi]
    exact df hi
   ·obtain⟨i,hi,e1⟩:=aS.mp hx
    have:m<=ns[i]?.getD 0:=hB.2 i (by rw[hsz];exact hi)
    rw[gE hi]at this
    rw [<- e1]
    exact this
end
theorem FG(its:List Value):slicePick its.toArray none none (some (-1))=its.reverse.toArray:=by
 unfold slicePick
 congr 1
 have hb:sliceBounds none none (some (-1)) its.toArray.size=((its.length:Int)-1,-1,-1):=by
  simp[sliceBounds]
 rw[hb]
 have hr:sliceRange ((its.length:Int)-1) (-1) (-1)=(List.range its.length).map fun k=>its.length-1-k:=by
  unfold sliceRange
  have h0:¬((-1:Int)>0):=by decide
  simp only[h0,if_false]
  have hc:(if(its.length:Int)-1> -1 then((its.length:Int)-1- -1- -1-1)/(- -1)else 0).toNat=its.length:=by
   by_cases hn:(its.length:Int)-1> -1
   ·rw[aw hn]
    have e:(- -1:Int)=1:=by decide
    rw[e,Int.ediv_one];lia
   ·rw[au hn];lia
  rw[hc]
  refine dJ fun k hk=>?_
  have hk':k<its.length:=aV.mp hk
  lia
 rw[hr,dY]
 apply eL
 intro i
 have hm:(List.range its.length).filterMap ((fun x=>its.toArray[x]?)∘fun k=>its.length-1-k)=(List.range its.length).map fun k=>its.getD (its.length-1-k) .none:=by
  have:∀l:List Nat,(∀k∈l,k<its.length)->l.filterMap ((fun x=>its.toArray[x]?)∘fun k=>its.length-1-k)=l.map fun k=>its.getD (its.length-1-k) .none:=fun l=>by
   induction l with
   |nil=>intro _;rfl
   | cons k r ih=>
    intro hk
    have hk0:=hk k (.head _)
    have e:(its.toArray[its.length-1-k]?)=some (its.getD (its.length-1-k) .none):=by
     rw[List.getElem?_toArray,aI,gE (by lia)]
     rfl
    rw[List.filterMap_cons]
    have e':((fun x=>its.toArray[x]?)∘fun k=>its.length-1-k) k=some (its.getD (its.length-1-k) .none):=e
    rw[e']
    dsimp only
    rw[aq,ih fun j hj=>hk j (.tail _ hj)]
  exact this _ fun k hk=>aV.mp hk
 rw[hm]
 by_cases c:i<its.length
 ·rw[aA,c9 c,gv c]
  show some (its.getD (its.length-1-i) .none)=_
  rw[aI,gE (by lia)]
  rfl
 ·rw[bD (by rw[ae,bC];lia),bD (by rw[fg];lia)]
def BP(te:TE):TE:=fun σ H Q=>te σ H fun x H1=>match x with
 | .ref a=>match H1 a with
  |some (.lst xs)=>∀p,H1 p=none->Q (.ref p) (upd H1 p (.lst xs.reverse))
  |_=>False
 |_=>False
theorem Am:∀{vs:List V} {us:List Value},Vals vs us->Vals vs.reverse us.reverse
 |_,_,.nil=>.nil
 |_,_,.cons r t=>by
  rw[fK,fK]
  exact(Am t).append (.cons r .nil)
theorem xY{X:Cx}{e:Expr}{te:TE}{k:Nat}{z1 z2 p2 pos:Pos}(he:PE X e te):PE X (.Subscript e (.Slice none none (some (.UnaryOp .USub (.Constant (.int 1) k z1) z2)) p2) pos) (BP te):=by
 intro pins s σ H Q I h
 refine gO (iK (he pins s σ H _ I h) fun v s1 ⟨x,H1,I1,r1,q1⟩=>?_)
 refine wpAny_Slice ?_
 simp only[evalPart_none]
 refine ak (ak ?_)
 rw[evalPart_some]
 have hm:PE X (.UnaryOp .USub (.Constant (.int 1) k z1) z2) (sY vX (tC (.int 1))):=om oq iG
 refine iK (hm pins s1 σ H1 (fun y H2=>y= .int (-1)/\H2=H1) I1 ⟨rfl,rfl⟩) fun st s2 ⟨y,H2,I2,r2,ey,eh⟩=>?_
 subst ey eh
 obtain⟨t2,rfl⟩:=r2
 split at q1
 ·rename_i a
  split at q1
  ·rename_i xs ea
   cases r1
   have I4:Inv X pins σ H2 {s2 with heap:=s2.heap.push {cls:=.type "slice",data:=.fields #[.none,.none,.int (-1) t2]}}:=I2.kept (t':=s2.toks) fun b ob q=>af _ q
   obtain⟨its,r,ht,hz⟩:=I4.list (SqL.of ea)
   have hlen:=r.length
   show wpAny (model X.prog X.w) X.A (subscriptTail e (.Slice none none (some (.UnaryOp .USub (.Constant (.int 1) k z1) z2)) p2) (.ref a) (.ref s2.heap.objs.size)) (EP X pins σ Q) X.xe {s2 with heap:=s2.heap.push {cls:=.type "slice",data:=.fields #[.none,.none,.int (-1) t2]}}
   refine tail_any (ops:=[.ref a,.ref s2.heap.objs.size]) ht.isList.typeIs fE.lookup ?_ (by with_unfolding_all rfl)
   refine fN ht.isList (gT ..) .none .none (.int (-1) t2) (by decide) ?_ (by rw[aj]<;>lia)
   rw[FG]
   refine⟨.ref _,_,I4.laid (t':=s2.toks) (o:=.lst xs.reverse) (fun b ob q=>af _ q) (av _) ?_,rfl,q1 _ (I4.hok.fresh (av _))⟩
   exact⟨by rw[fg];exact hz,_,0,Am r,aF _ rfl⟩
  ·exact q1.elim
 ·exact q1.elim
end L2
namespace My
open PySem L2
section
variable{P:Program}{w:World}{K:PySem.W.Frag}{mg:Str->Option Value}{base:Heap}{c1 c2 c3 c4:Tok}{C_NoWeb fq7:Addr}{dI:FuncData}
theorem xE{c l:Int}:(if l<c then l else c)=min c l:=by split<;>lia
theorem DG{c l:Int}:(if l>c then l else c)=max c l:=by split<;>lia
theorem Ba{α:Type}(f:Nat->α)(m:Nat):(List.range (m+1)).map f=(List.range m).map f++[f m]:=by
 rw[bF,ah];rfl
theorem zI:∀ps:List (Int×Int),jc (.lst (ps.map j9)) (.lst [])=decide (ps=[])
 |[]=>rfl
 |_::_=>rfl
def gA(p:Nat->Int):Nat->Int×Int
 |0=>(0,0)
 |i+1=>fA p i
theorem Jn(p:Nat->Int):∀i,fA p i=(p i+min (gA p i).1 (gA p i).2,(gA p i).1)
 |0=>by
  show(p 0,(0:Int))=(p 0+min 0 0,0)
  rw[show min (0:Int) 0=0 from rfl,fm]
 |_+1=>rfl
def lg(ss:List (Int×Int))(i:Nat):List (Int×Int):=(List.range i).map (fA (iT ss))
theorem Fh(ss:List (Int×Int))(i:Nat):lg ss (i+1)=lg ss i++[fA (iT ss) i]:=Ba _ i
theorem pZ(ss:List (Int×Int))(i:Nat):(lg ss i).length=i:=by unfold lg;rw[ae,bC]
theorem y8{a b:TS}{D:L2.Ends}{σ:St}{H:Hp}(J:St->Hp->Prop)(h1:∀σ' H',J σ' H'->b D σ' H')(h2:∀R:TS,(∀σ' H',J σ' H'->R D σ' H')->nZ a R D σ H):nZ a b D σ H:=h2 b h1
def zi:Sp:=fun vs H Q _=>∃sl xs ss,vs=[.ref sl]/\H sl=some (.lst xs)/\Prs H xs ss/\StrOk ss/\∀tl zs H',Same H H'->H tl=none->H' tl=some (.lst zs)->Prs H' zs (jH ss)->Q (.ref tl) H'
def y9:Sp:=fun vs H Q _=>∃sl xs ss,vs=[.ref sl]/\H sl=some (.lst xs)/\Prs H xs ss/\ss.length<=40/\∀fl ys H',Same H H'->H fl=none->H' fl=some (.lst ys)->Prs H' ys (lg ss ss.length)->Q (.ref fl) H'
theorem Ii(B:Blt mg)(D:DefAt K mg "_law_ahead" (iI 46) ["_law_string_here"] f fd):FnOk P w K mg base iQ 1 f fd ["_law_string_here"] y9:=by
 have sc:FnScope ["_law_string_here","_law_found","_law_least_in","_law_least_out","_law_place","_law_price","_law_both"] ["_law_string_here"] (ja (iI 46)):=by walk_at "SC"
 refine D.F.ok sc (fun vs H Q E h=>?_) (fun cdv A outer s H vs Q E hr h=>?_)
 ·obtain⟨sl,xs,ss,rfl,_⟩:=h
  rfl
 obtain⟨sl,xs,ss,rfl,el,px,l40,h⟩:=h
 have hxl:=aP px
 have hu:=jl hr
 have hu0:_<PySem.cLine:=aD hu
 refine⟨_,(iH (iR (i:=1) sc.nd rfl (Or.inl rfl) (jE iD)) (iH (iR (i:=2) sc.nd rfl (Or.inl rfl) iG) (iH (iR (i:=3) sc.nd rfl (Or.inl rfl) iG) (iH (j4 bo rfl (ka (qv 0)) (kE (n:=2) rfl (js (i3 (i:=4) sc.nd rfl (Or.inl rfl)) (js (i3 (i:=5) sc.nd rfl (Or.inl rfl)) kF))) (iH (iR (i:=6) sc.nd rfl (Or.inl rfl) (kr (iC (i5 kl (qv 5) (jh (tW rfl) rfl B.min cN (iC (qv 2) (iC (qv 3) iD)))) (iC (qv 2) iD)))) (iH (jK (jF (Dy hr.units) (qv 1) (jE iD) (jr _)) (iN (iR (i:=6) sc.nd rfl (Or.inl rfl) (kr (iC (qv 5) (iC iG iD))))) jL) (iH (j0 (ko aZ br bq kH (qv 1) (iC (qv 6) iD))) (iN (nG (qv 6) (kE (n:=2) rfl (js (i3 (i:=2) sc.nd rfl (Or.inl rfl)) (js (i3 (i:=3) sc.nd rfl (Or.inl rfl)) kF))))))))) (iN (jg (qv 1))))))),?_⟩
 refine iS fun R hR=>?_
 walk_at "D"
 intro fl hfl
 have q1:=iL hfl (.lst [])
 have et1:upd H fl (.lst []) fl=some (.lst []):=iF
 have el1:=q1 _ _ el
 have px1:=Prs.same q1 px
 generalize upd H fl (.lst [])=H1 at q1 et1 el1 px1
 subst hR
 refine iS fun R hR=>?_
 walk_at "D"
 subst hR
 refine iS fun R hR=>?_
 walk_at "D"
 subst hR
 refine iS fun R hR=>?_
 refine ku (jS K sl) H1 (fun R' hR'=>?_) (k7 (K:=K) (a:=sl) (xs:=xs) (fun i σ Hc=>∃w4 w5 w6 zs,σ=[some (.ref sl),some (.ref fl),some (.int (gA (iT ss) i).1),some (.int (gA (iT ss) i).2),w4,w5,w6]/\Same H Hc/\Hc sl=some (.lst xs)/\Prs Hc xs ss/\Hc fl=some (.lst zs)/\Prs Hc zs (lg ss i)) ⟨none,none,none,[],rfl,q1,el1,px1,et1,.nil⟩ (fun i σ Hc _ ⟨_,_,_,_,_,_,z,_⟩=>SqL.of z) ?_ ?_)
 ·unfold j2
  walk_at "D"
  exact⟨sl,rfl,⟨_,SqL.of el1⟩,hR'⟩
 ·rintro i y σ Hc hy ⟨w4,w5,w6,zs,rfl,s2,elc,pxc,etc,pz⟩
  obtain⟨q,hq,pq⟩:=kI pxc hy
  obtain⟨b,rfl,eb⟩:=pq
  have hil:=(ag.mp hq).1
  have hpi:iT ss i=q.2:=by unfold iT;rw[aI,hq];rfl
  have hf:=Jn (iT ss) i
  rw[hpi]at hf
  have hfs:gA (iT ss) (i+1)=fA (iT ss) i:=rfl
  have hzl:=aP pz
  rw[pZ]at hzl
  rw[hf]at hfs
  have hss:=Fh ss i
  rw[hf]at hss
  have h0:i=0->(gA (iT ss) i).1=0/\(gA (iT ss) i).2=0:=fun z=>by subst z;exact⟨rfl,rfl⟩
  generalize gA (iT ss) i=g at*
  obtain⟨g1,g2⟩:=g
  dsimp only at hf hfs hss h0 ⊢
  rw[hss,hfs]
  clear hf hfs hss
  simp only[oi,ow,oh,kh,eb,List.length_cons,List.length_nil,Nat.reduceAdd,List.set_cons_zero,List.set_cons_succ,if_true,eq_self,true_and]
  refine iS fun R9 hR9=>?_
  walk_at "D"
  rw[xE]
  intro t ht
  have q3:=iL ht (.tup [.int (q.2+min g1 g2),.int g1])
  have e3:upd Hc t (.tup [.int (q.2+min g1 g2),.int g1]) t=some (.tup [.int (q.2+min g1 g2),.int g1]):=iF
  have s3:=s2.trans q3
  have ef3:=q3 _ _ etc
  have pz3:=Prs.same q3 pz
  have el3:=q3 _ _ elc
  have px3:=Prs.same q3 pxc
  generalize upd Hc t (.tup [.int (q.2+min g1 g2),.int g1])=H3 at q3 e3 s3 ef3 pz3 el3 px3
  have nst:sl≠fl:=iU el hfl
  subst hR9
  refine y8 (fun σ' H4=>∃w4 w5 t,σ'=[some (.ref sl),some (.ref fl),some (.int g1),some (.int g2),w4,w5,some (.ref t)]/\Same H H4/\H4 sl=some (.lst xs)/\Prs H4 xs ss/\H4 fl=some (.lst zs)/\Prs H4 zs (lg ss i)/\H4 t=some (.tup [.int (q.2+min g1 g2),.int g1])) ?_ fun R9 hR9=>?_
  ·rintro σ' H4 ⟨w4,w5,t,rfl,s4,el4,px4,ef4,pz4,e4⟩
   refine iS fun R9 hR9=>?_
   walk_at "D"
   refine⟨⟨fl,_,rfl,ef4⟩,?_⟩
   simp_arith[ef4]
   have t5:=l0 (ys:=zs++[.ref t]) ef4
   refine⟨jk (by lia),?_⟩
   have s5:=jt s4 hfl (o:=.lst (zs++[.ref t]))
   have e5:upd H4 fl (.lst (zs++[.ref t])) fl=some (.lst (zs++[.ref t])):=iF
   have et5:=t5 _ _ rfl e4
   have el5:upd H4 fl (.lst (zs++[.ref t])) sl=some (.lst xs):=by rw[iJ nst];exact el4
   have px5:=Prs.tups t5 px4
   have pz5:=lN (Prs.tups t5 pz4) (⟨t,rfl,et5⟩:Pr _ _ (q.2+min g1 g2,g1))
   generalize upd H4 fl (.lst (zs++[.ref t]))=H5 at s5 e5 et5 el5 px5 pz5
   subst hR9
   simp_arith[et5]
   exact⟨_,_,_,_,rfl,s5,el5,px5,e5,pz5⟩
  walk_at "D"
  intro n0 hn0
  have q4:=iL hn0 (.lst [])
  have s4:=s3.trans q4
  refine⟨.lst ((lg ss i).map j9),.lst [],(by rw[Rep];exact⟨fl,zs,rfl,q4 _ _ ef3,Prs.reps (Prs.same q4 pz3)⟩),(by rw[Rep];exact⟨n0,[],rfl,iF,rfl⟩),(by rw[ke];have:=qh (lg ss i);lia),.inl ⟨_,_,rfl,rfl⟩,?_⟩
  rw[zI]
  have e4:=q4 _ _ e3
  have ef4:=q4 _ _ ef3
  have pz4:=Prs.same q4 pz3
  have el4:=q4 _ _ el3
  have px4:=Prs.same q4 px3
  generalize upd H3 n0 (.lst [])=H4 at s4 e4 ef4 pz4 el4 px4
  walk_at "D"
  refine lr (fun c=>?_) (fun c=>?_)
  ·intro t6 ht6
   have q6:=iL ht6 (.tup [.int q.2,.int 0])
   have hi0:i=0:=by
    have:lg ss i=[]:=by simpa using c
    have:=bY List.length this
    rw[pZ]at this
    exact this
   obtain⟨rfl,rfl⟩:=h0 hi0
   refine hR9 _ _ ⟨_,_,t6,rfl,s4.trans q6,q6 _ _ el4,Prs.same q6 px4,q6 _ _ ef4,Prs.same q6 pz4,?_⟩
   rw[iF,show q.2+min (0:Int) 0=q.2 by lia]
  ·exact hR9 _ _ ⟨_,_,t,rfl,s4,el4,px4,ef4,pz4,e4⟩
 rintro σ H2 ⟨w4,w5,w6,zs,rfl,s2,el2,px2,et2,pz⟩
 refine(?_:R _ _ _)
 subst hR
 walk_at "D"
 rw[hxl]at pz
 exact h fl zs H2 s2 hfl et2 pz
theorem HH(B:Blt mg)(D:DefAt K mg "_law_tied" (iI 50) ["_law_string_here"] f fd):FnOk P w K mg base iQ 1 f fd ["_law_string_here"] zi:=by
 have sc:FnScope ["_law_string_here","_law_ties","_law_j","_law_one","_law_other"] ["_law_string_here"] (ja (iI 50)):=by walk_at "SC"
 refine D.F.ok sc (fun vs H Q E h=>?_) (fun cdv A outer s H vs Q E hr h=>?_)
 ·obtain⟨sl,xs,ss,rfl,_⟩:=h
  rfl
 obtain⟨sl,xs,ss,rfl,el,px,SK,h⟩:=h
 have hxl:=aP px
 have hu:=jl hr
 have hu0:_<PySem.cLine:=aD hu
 refine⟨_,(iH (iR (i:=1) sc.nd rfl (Or.inl rfl) (jE iD)) (iH (j4 bo rfl (Gv rfl B.range (iC iG (iC (jh kY rfl B.len bP (iC (qv 0) iD)) iD))) (i3 (i:=2) sc.nd rfl (Or.inl rfl)) (iH (iR (i:=3) sc.nd rfl (Or.inl rfl) (iO iP (iO iP (qv 0) (i5 ou (qv 2) iG) (fun _ _=>rfl)) iG (fun _ _=>rfl))) (iH (iR (i:=4) sc.nd rfl (Or.inl rfl) (iO iP (iO iP (qv 0) (qv 2) (fun _ _=>rfl)) iG (fun _ _=>rfl))) (iN (j0 (ko aZ br bq kH (qv 1) (iC (kr (iC (jh (tW rfl) rfl B.min cN (iC (qv 3) (iC (qv 4) iD))) (iC (jh (xA rfl) rfl B.max PyProof.Rows.boot_max (iC (qv 3) (iC (qv 4) iD))) iD))) iD))))))) (iN (jg (qv 1))))),?_⟩
 have l1:=SK.l1
 have l40:=SK.l40
 refine iS fun R hR=>?_
 walk_at "D"
 intro tl htl
 have q1:=iL htl (.lst [])
 have et1:upd H tl (.lst []) tl=some (.lst []):=iF
 have el1:=q1 _ _ el
 have px1:=Prs.same q1 px
 generalize upd H tl (.lst [])=H1 at q1 et1 el1 px1
 subst hR
 refine iS fun R hR=>?_
 refine ku (lG 1 (ss.length-1)) H1 (fun R' hR'=>?_) (rZ (n:=ss.length-1) (fun i σ Hc=>∃w2 w3 w4 zs,σ=[some (.ref sl),some (.ref tl),w2,w3,w4]/\Same H Hc/\Hc sl=some (.lst xs)/\Prs Hc xs ss/\Hc tl=some (.lst zs)/\Prs Hc zs ((List.range i).map (lz ss))) ⟨none,none,none,[],rfl,q1,el1,px1,et1,.nil⟩ ?_ ?_)
 ·unfold BL
  simp_arith[iW,el1]
  refine⟨_,_,rfl,⟨by lia,by lia,by lia,by lia⟩,?_⟩
  rw[show((xs.length:Int)-1).toNat=ss.length-1 by lia]
  exact hR'
 ·rintro i σ Hc hi ⟨w2,w3,w4,zs,rfl,s2,elc,pxc,etc,pz⟩
  have k1:ss[i]? =some (ss.getD i (0,0)):=mH (by lia)
  have k2:ss[1+i]? =some (ss.getD (i+1) (0,0)):=by rw[Nat.add_comm];exact mH (by lia)
  obtain⟨x1,g1,p1⟩:=lO pxc k1
  obtain⟨x2,g2,p2⟩:=lO pxc k2
  obtain⟨b1,rfl,e1⟩:=p1
  obtain⟨b2,rfl,e2⟩:=p2
  have a1:je xs (1+(i:Int)-1)=some (.ref b1):=by rw[show(1+(i:Int)-1)=(i:Int) by lia];exact k4 g1
  have a2:je xs (1+(i:Int))=some (.ref b2):=by rw[show(1+(i:Int))=((1+i:Nat):Int) by lia];exact k4 g2
  have hzl:=aP pz
  rw[ae,bC]at hzl
  simp_arith[iW,elc,a1,a2,e1,e2,jw]
  rw[xE,DG]
  refine⟨⟨tl,_,rfl,etc⟩,fun t ht=>?_⟩
  have q3:=iL ht (.tup [.int (min (iM ss i) (iM ss (i+1))),.int (max (iM ss i) (iM ss (i+1)))])
  have e3:upd Hc t (.tup [.int (min (iM ss i) (iM ss (i+1))),.int (max (iM ss i) (iM ss (i+1)))]) t=some (.tup [.int (min (iM ss i) (iM ss (i+1))),.int (max (iM ss i) (iM ss (i+1)))]):=iF
  have etl3:=q3 _ _ etc
  change match upd Hc t (.tup [.int (min (iM ss i) (iM ss (i+1))),.int (max (iM ss i) (iM ss (i+1)))]) tl with |some (HO.lst xs_1)=>_|_=>False
  rw[etl3]
  dsimp only
  have t4:=l0 (ys:=zs++[.ref t]) etl3
  have nst:sl≠tl:=iU el htl
  refine⟨jk (by lia),_,_,_,zs++[.ref t],rfl,?_,?_,Prs.tups (q3.tups.trans t4) pxc,iF,?_⟩
  ·exact jt (s2.trans q3) htl
  ·rw[iJ nst];exact q3 _ _ elc
  ·rw[Ba]
   exact lN (Prs.tups t4 (Prs.same q3 pz)) ⟨t,rfl,t4 _ _ rfl e3⟩
 rintro σ H2 ⟨w2,w3,w4,zs,rfl,s2,el2,px2,et2,pz⟩
 have hzl:=aP pz
 rw[ae,bC]at hzl
 refine(?_:R _ _ _)
 subst hR
 walk_at "D"
 refine h tl zs H2 s2 htl et2 ?_
 rw[show jH ss=(List.range (ss.length-1)).map (lz ss)from rfl]
 exact pz
end
end My
namespace L2
open PySem PySem.Spec PyProof.Rows
theorem EF(a b:Int×Int):HT.lexLt [a.1,a.2] [b.1,b.2]=decide (a.1<b.1\/(a.1=b.1/\a.2<b.2)):=by
 rw[HT.lT]
 by_cases c:a.1=b.1
 ·rw[aw c,HT.lT]
  by_cases d:a.2=b.2
  ·rw[aw d,HT.xJ];exact(aC (by lia)).symm
  ·rw[au d]
   by_cases e:a.2<b.2
   ·rw[az e];exact(az (by lia)).symm
   ·rw[aC e];exact(aC (by lia)).symm
 ·rw[au c]
  by_cases e:a.1<b.1
  ·rw[az e];exact(az (by lia)).symm
  ·rw[aC e];exact(aC (by lia)).symm
def pU(a b:Int×Int):Prop:=a.1<b.1\/(a.1=b.1/\a.2<=b.2)
def jef(val:Nat->Int×Int)(n m:Nat):Prop:=m<n/\∀i,i<n->pU (val m) (val i)
theorem jef.up{val:Nat->Int×Int}{j m:Nat}(h:jef val j m)(hb:(val j).1<(val m).1\/((val j).1=(val m).1/\(val j).2<(val m).2)):jef val (j+1) j:=
 ⟨fU _,fun i hi=>by
  rcases c6.mp hi with z|z
  ·have:=h.2 i z;unfold pU at this ⊢;lia
  ·rw[z];exact .inr ⟨rfl,bE _⟩⟩
theorem jef.keep{val:Nat->Int×Int}{j m:Nat}(h:jef val j m)(hb:¬((val j).1<(val m).1\/((val j).1=(val m).1/\(val j).2<(val m).2))):jef val (j+1) m:=
 ⟨cD h.1,fun i hi=>by
  rcases c6.mp hi with z|z
  ·exact h.2 i z
  ·rw[z];unfold pU;lia⟩
section
variable{prog:Program}{w:World}{A:Around}{R:Result->Shared->Prop}{I:Addr}{fp wr:List Addr}{n:Nat}{P:Nat->Value->Prop}{St:Nat->Heap->Prop}
theorem Gi(W:Walks prog w A.in1 I fp wr n P St)(val:Nat->Int×Int)(vv:Nat->Value)(hval:∀i v,P i v->v=vv i)(S:Addr)(hSf:S∉fp)(h0:Heap)(s0:Shared)
  (hcmp:∀(i j:Nat) (h:Heap) (tk:Nat) (Q' E':Value->Shared->Prop),i<n->j<n->(∀b o,b∉wr->b≠S->h0.get? b=some o->h.get? b=some o)->Q' (.bool (HT.lexLt [(val j).1,(val j).2] [(val i).1,(val i).2])) {s0 with heap:=h,toks:=tk}->wpAny (model prog w) A.in1 (richCompare .Lt (vv j) (vv i)) Q' E' {s0 with heap:=h,toks:=tk}):
  ∀(k j:Nat) (h:Heap) (tk:Nat) (m:Nat) (c:Nat),n-j=k->j<=n->St j h->jef val j m->(∀b o,b∉wr->b≠S->h0.get? b=some o->h.get? b=some o)->
  h.get? S=some {cls:=.type "list",dict:=none,data:=.seq #[vv m,vv m] c,slots:=#[]}->
  (∀m' h' tk,jef val n m'->(∀b o,b∉wr->b≠S->h.get? b=some o->h'.get? b=some o)->R (.ok (.ret (vv m'))) {s0 with heap:=h',toks:=tk})->
  codeAny (model prog w) A (.builtin "min.loop" ⟨[.ref I,.none,.ref S],[]⟩) R {s0 with heap:=h,toks:=tk}:=by
 have hSw:S∉wr:=fun z=>hSf (W.sub _ z)
 intro k
 induction k with
 |zero=>
  intro j h tk0 m c hk hj hst hb hK hS hR
  have hin:j=n:=by lia
  subst hin
  refine cx cB ?_
  rw[bO aY _]
  show wpAny _ A.in1 (seqItems? (.ref S)>>=_) _ _ _
  refine aa (bJ hS rfl ?_)
  show wpAny _ A.in1 (tryCatch (pyNext (.ref I)) _>>=_) _ _ _
  refine aa (cE (W.done _ _ _ hst fun h' tk kp=>?_))
  have hS':=kp S _ hSw hS
  show wpAny _ A.in1 (updateSeq S (fun _=>#[])>>=_) _ _ _
  refine aa ?_
  refine cY hS' rfl (aa (cZ (ak ?_)))
  exact hR m _ tk hb fun b o hbw hbS e=>(bf _ _ (cG hbS)).trans (kp b o hbw e)
 | succ k ih=>
  intro j h tk0 m c hk hj hst hb hK hS hR
  have hlt:j<n:=by lia
  refine cx cB ?_
  rw[bO aY _]
  show wpAny _ A.in1 (seqItems? (.ref S)>>=_) _ _ _
  refine aa (bJ hS rfl ?_)
  show wpAny _ A.in1 (tryCatch (pyNext (.ref I)) _>>=_) _ _ _
  refine aa (cE (W.item j _ _ _ hlt hst fun v h' tk hP hst' kp=>?_))
  have ev:=hval j v hP
  subst ev
  have hS':=kp S _ hSw hS
  have hK':∀b o,b∉wr->b≠S->h0.get? b=some o->h'.get? b=some o:=fun b o h1 h2 h3=>kp b o h1 (hK b o h1 h2 h3)
  show wpAny _ A.in1 (tryCatch (holding [vv j,vv j] (richCompare .Lt (vv j) (vv m)>>=_)) _>>=_) _ _ _
  refine aa (cE (cg (aa (hcmp m j _ _ _ _ (by have:=hb.1;lia) hlt hK' ?_))))
  refine aa (cg (cJ ?_))
  refine aa (cZ (ak ?_))
  rw[EF]
  by_cases hc:(val j).1<(val m).1\/((val j).1=(val m).1/\(val j).2<(val m).2)
  ·rw[az hc]
   simp only[if_true]
   refine aa ?_
   refine cY hS' rfl (aa (cZ ?_))
   rw[lE]
   refine ak ⟨cy aY _,ih (j+1) _ _ j _ (by lia) hlt (W.frame _ _ _ hst' fun b hbf o e=>?_) (hb.up hc) (fun b o h1 h2 h3=>(bf _ _ (cG h2)).trans (hK' b o h1 h2 h3)) (bS _ hS' rfl) fun m' h'' tk'' hB k''=>?_⟩
   ·exact(bf _ _ (fun z:S=b=>hSf (by rw[z];exact hbf))).trans e
   ·exact hR m' h'' tk'' hB fun b o hbw hbS e=>k'' b o hbw hbS ((bf _ _ (cG hbS)).trans (kp b o hbw e))
  ·rw[aC hc]
   simp only[aK,if_false]
   refine aa (cZ ?_)
   rw[lE]
   refine ak ⟨cy aY _,ih (j+1) _ _ m c (by lia) hlt hst' (hb.keep hc) hK' hS' fun m' h'' tk'' hB k''=>?_⟩
   exact hR m' h'' tk'' hB fun b o hbw hbS e=>k'' b o hbw hbS (kp b o hbw e)
end
section
variable{X:Cx}
def CQ:List V->Hp->VK->Prop:=fun vs H Q=>∃(p:Addr) (xs:List V) (ps:List (Int×Int)),vs=[.ref p]/\H p=some (.lst xs)/\Prs H xs ps/\ps≠[]/\
 ∀(k:Nat) (x:V) (q:Int×Int),xs[k]? =some x->ps[k]? =some q->(∀r∈ps,pU q r)->Q x H
theorem F0(hc:X.calm=true)(hu:X.A.in1.units<cLine):jbs X (.builtin "min") CQ:=by
 intro pins s σ H xs us Q I r h
 obtain⟨p,xs,ps,rfl,e,px,hne,q⟩:=h
 obtain⟨u,rfl,rx⟩:=kZ r
 cases rx
 obtain⟨z,its,c,r',hlen,e'⟩:=I.lstM e
 have hpl:=aP px
 have plt:p<s.heap.objs.size:=aE e'
 have hL:s.heap.IsList p its.toArray:=⟨_,e',rfl,_,rfl⟩
 refine gM fT fG fH (Bm _) ?_
 show wpAny _ X.A.in1 (Builtin.Builtins.bindParams "min" ["key","default"] 0 ⟨[],[]⟩>>=_) _ _ s
 refine aa (fD (show Builtin.Builtins.bindParams "min" ["key","default"] 0 ⟨[],[]⟩=pure [none,none]from rfl) ?_)
 refine aa (ak ?_)
 refine aa (dw hL ?_)
 refine aa (dO ?_ (bI _))
 rw[lE]
 have hS:(s.heap.push {cls:=.type "list_iterator",data:=.fields #[.ref p,.int 0 0]}).objs.size=s.heap.objs.size+1:=eS ..
 have W:=Walks.list (prog:=X.prog) (w:=X.w) (A:=X.A.in1) (show X.A.in1.handled=none from I.ok.hd hc) s.heap.objs.size p (aU plt) its.toArray
 have hsz:its.toArray.size=ps.length:=by rw[aj];lia
 let vv:Nat->Value:=fun i=>its[i]?.getD .none
 let val:Nat->Int×Int:=fun i=>ps[i]?.getD (0,0)
 have hval:∀(i:Nat) (v:Value),its.toArray[i]? =some v->v=vv i:=fun i v hv=>by
  have hv':its[i]? =some v:=by simpa using hv
  show v=its[i]?.getD .none
  rw[hv'];rfl
 have hget:∀i,i<ps.length->∃x q,xs[i]? =some x/\ps[i]? =some q/\val i=q/\RelV x (vv i)/\Pr H x q:=fun i hi=>by
  have hq:ps[i]? =some ps[i]:=gE hi
  obtain⟨x,hx,px⟩:=lO px hq
  obtain⟨u',e1,e2⟩:=r'.get (i:=i) hx
  refine⟨x,_,hx,hq,?_,?_,px⟩
  ·show ps[i]?.getD (0,0)=_
   rw[hq];rfl
  ·show RelV x (its[i]?.getD .none)
   rw[e1];exact e2
 have kp0:∀(h':Heap) (tk:Nat),(∀b o,b∉[s.heap.objs.size]->b≠(s.heap.push {cls:=.type "list_iterator",data:=.fields #[.ref p,.int 0 0]}).objs.size->((s.heap.push {cls:=.type "list_iterator",data:=.fields #[.ref p,.int 0 0]}).push {cls:=.type "list",data:=.seq #[]}).get? b=some o->h'.get? b=some o)->
   Inv X pins σ H {s with heap:=h',toks:=tk}:=fun h' tk k=>I.kept fun b o qq=>k b o (by
    intro z
    have:b=s.heap.objs.size:=by simpa using z
    exact absurd (aE qq) (by rw[this];exact cw _)) (by rw[hS];exact aU (cD (aE qq))) (af _ (af _ qq))
 have hst0:(fun i (h:Heap)=>h.IsListIter s.heap.objs.size p i/\h.IsList p its.toArray) 0 ((s.heap.push {cls:=.type "list_iterator",data:=.fields #[.ref p,.int 0 0]}).push {cls:=.type "list",data:=.seq #[]}):=
  ⟨⟨_,af _ (aF _ rfl),rfl,rfl⟩,(hL.push _).push _⟩
 have hSg:((s.heap.push {cls:=.type "list_iterator",data:=.fields #[.ref p,.int 0 0]}).push {cls:=.type "list",data:=.seq #[]}).get? (s.heap.push {cls:=.type "list_iterator",data:=.fields #[.ref p,.int 0 0]}).objs.size=some {cls:=.type "list",dict:=none,data:=.seq #[] 0,slots:=#[]}:=aF _ rfl
 have hSf:(s.heap.push {cls:=.type "list_iterator",data:=.fields #[.ref p,.int 0 0]}).objs.size∉[s.heap.objs.size,p]:=by
  rw[hS]
  intro z
  rcases aR.mp z with z|z
  ·exact absurd z (eV _)
  ·have z:=aG.mp z
   rw [<- z] at plt
   exact cw _ (aD plt)
 refine ak ⟨cy aY _,?_⟩
 refine cx cB ?_
 rw[bO aY _]
 show wpAny _ X.A.in1 (seqItems? (.ref _)>>=_) _ _ _
 refine aa (bJ hSg rfl ?_)
 show wpAny _ X.A.in1 (tryCatch (pyNext (.ref s.heap.objs.size)) _>>=_) _ _ _
 have hpos:0<its.toArray.size:=by
  rw[hsz]
  exact dM.mpr hne
 refine aa (cE (W.item 0 _ _ _ hpos hst0 fun v h' tk hP hst' kp=>?_))
 have ev:=hval 0 v hP
 subst ev
 have hS':=kp _ _ (fun z=>hSf (aR.mpr (.inl (aG.mp z)))) hSg
 show wpAny _ X.A.in1 (updateSeq _ (fun _=>#[_,_])>>=_) _ _ _
 refine aa ?_
 refine cY hS' rfl ?_
 rw[lE]
 refine ak ⟨cy aY _,Gi W val vv hval _ hSf ((s.heap.push {cls:=.type "list_iterator",data:=.fields #[.ref p,.int 0 0]}).push {cls:=.type "list",data:=.seq #[]}) s (fun i j h1 tk1 Q' E' hi hj hK q'=>?_) _ 1 _ _ 0 _ rfl hpos (W.frame _ _ _ hst' fun b hbf o e=>?_) ⟨Nat.one_pos,fun i hi=>by
   have:i=0:=by lia
   subst this;exact .inr ⟨rfl,bE _⟩⟩ (fun b o h1 h2 h3=>(bf _ _ (cG h2)).trans (kp b o h1 h3)) (bS _ hS' rfl) fun m h'' tk'' hB k''=>?_⟩
 ·have Ik:=kp0 h1 tk1 hK
  have hiN:i < ps.length:=by rw [<- hsz]; exact hi
  have hjN:j < ps.length:=by rw [<- hsz]; exact hj
  obtain⟨x1,q1,_,_,v1,r1,a1,rfl,g1⟩:=hget i hiN
  obtain⟨x2,q2,_,_,v2,r2,a2,rfl,g2⟩:=hget j hjN
  obtain⟨is1,rr1,e1,_⟩:=Ik.tuple (SqT.of g1)
  obtain⟨is2,rr2,e2,_⟩:=Ik.tuple (SqT.of g2)
  have i1:IntsAre is1.toArray.toList [q1.1,q1.2]:=my (ns:=[q1.1,q1.2]) rr1
  have i2:IntsAre is2.toArray.toList [q2.1,q2.2]:=my (ns:=[q2.1,q2.2]) rr2
  have w1:vv i= .ref a1:=r1
  have w2:vv j= .ref a2:=r2
  rw[v1,v2]at q'
  rw[w1,w2]
  exact HT.xI e2 e1 i2 i1 hu q'
 ·exact(bf _ _ (fun z=>hSf (by rw[z];exact hbf))).trans e
 ·have hm:m < ps.length:=by rw [<- hsz]; exact hB.1
  obtain⟨x,q0,hx,hq,hv,rx,_⟩:=hget m hm
  refine⟨x,H,kp0 h'' tk'' fun b o h1 h2 h3=>k'' b o h1 h2 ((bf _ _ (cG h2)).trans (kp b o h1 h3)),rx,q m x q0 hx hq fun r0 hr=>?_⟩
  obtain⟨i,hi,e1⟩:=aS.mp hr
  have:=hB.2 i (by rw[hsz];exact hi)
  rw[hv]at this
  rw [<- e1]
  have e2:val i=ps[i]:=by
   show ps[i]?.getD (0,0)=_
   rw[gE hi];rfl
  rw [<- e2]
  exact this
def Ei:V->List V->Hp->VK->Prop:=fun x vs H Q=>∃(l:Addr) (xs:List V) (cs:List Dt) (y:V) (d:Dt) (j:Nat),x= .ref l/\vs=[y]/\H l=some (.lst xs)/\Reps H cs xs/\Rep H d y/\jI cs<=20/\(cs[j]?.map fun c=>jc c d)=some true/\(∀m c,m<j->cs[m]? =some c->jc c d=false)/\Q (.int (j:Int)) H
theorem FI(hu:X.A.units+64<cLine):MtR X "list.index" Ei:=by
 intro pins s σ H x vs v us Q I rx rv h
 obtain⟨l,xs,cs,y,d,j,rfl,rfl,el,rc,rd,hd,hj,hno,q⟩:=h
 cases rx
 obtain⟨u,rfl,ru⟩:=rv.one
 obtain⟨z,its,n,r,hlen,e⟩:=I.lstM el
 have hits:=zM hu I rd ru rc r hd
 have hcl:=rc.len
 obtain⟨c,hc,hce⟩:=bN.mp hj
 have hjl:j<cs.length:=(ag.mp hc).1
 have key:∀(m:Nat) (hm:m<its.toArray.size) (c:Dt),cs[m]? =some c->mB H d its.toArray[m]=jc c d:=fun m hm c hc=>by
  have hm2:m<its.length:=by simpa using hm
  have hm3:m<xs.length:=by lia
  obtain⟨u',e1,q1⟩:=r.get (i:=m) (x:=xs[m]) (gE hm3)
  obtain⟨c2,f1,g1⟩:=rc.at (i:=m) (gE hm3)
  rw[hc]at f1
  cases f1
  rw[gE hm2]at e1
  cases e1
  exact ue q1 g1
 have hj2:j<its.toArray.size:=by rw[aj];lia
 have hsl:sizeLine<2^62:=by decide
 refine iu F.slot_list_index ⟨_,e,rfl⟩ F.entry_list_index (F.args_list_index_2 _ _) (SeqAt.list_indexAt l its.toArray n none #[] _ (mB H d) j hj2 (by have:=z;lia) (by rw[key j hj2 c hc];exact hce) (fun m hm hmj=>?_)) ⟨e,hits,?_⟩
 ·have hmc:m<cs.length:=by lia
  rw[key m hm _ (gE hmc)]
  exact hno m _ hmj (gE hmc)
 ·exact⟨.int (j:Int),H,I.tok _,⟨_,rfl⟩,q⟩
end
end L2
namespace My
open PySem L2
section
variable{P:Program}{w:World}{K:PySem.W.Frag}{mg:Str->Option Value}{base:Heap}{c1 c2 c3 c4:Tok}{C_NoWeb fq7:Addr}{dI:FuncData}
theorem zJ{p q:Nat->Int}:∀{k:Nat},(∀i,i<=k->p i=q i)->fA p k=fA q k
 |0,h=>by unfold fA;rw[h 0 (av _)]
 |k+1,h=>by rw[rA,rA,zJ fun i hi=>h i (by lia),h (k+1) (av _)]
theorem EN(ss:List (Int×Int)){k:Nat}(h:k<ss.length):iT ss.reverse k=rv ss.length (iT ss) k:=by
 unfold iT rv
 rw[aI,gv h]
 dsimp only
 rw[aI]
theorem Jm(ss:List (Int×Int)){k:Nat}(h:k<ss.length):fA (iT ss.reverse) k=fA (rv ss.length (iT ss)) k:=zJ fun i hi=>EN ss (by lia)
theorem uf{ss:List (Int×Int)}{n k:Nat}(h:k<n):(lg ss n)[k]? =some (fA (iT ss) k):=by
 unfold lg
 rw[aA,c9 h]
 rfl
theorem vG{α β:Type}{F:α->β->Prop}:∀{xs:List α} {ys:List β},Paired F xs ys->Paired F xs.reverse ys.reverse
 |_,_,.nil=>.nil
 |_,_,.cons h t=>by
  rw[fK,fK]
  exact lN (vG t) h
def jB(bg j:Nat):Int:=if j%2=bg%2 then 0 else 1
def inS(g:List (Int×Int))(bg:Nat)(u:Int)(j:Nat):Bool:=if jB bg j=u then decide (wI (iT g) g.length j=jv g)else decide (jv g<wO (iT g) g.length j)
def jj(g:List (Int×Int))(bg:Nat)(u:Int)(i:Nat):List Int:=((List.range i).filter (inS g bg u)).map (iM g)
theorem AK(g:List (Int×Int))(bg:Nat)(u:Int)(i:Nat):jj g bg u (i+1)=if inS g bg u i=true then jj g bg u i++[iM g i]else jj g bg u i:=by
 unfold jj
 rw[bF,dq,ah]
 by_cases c:inS g bg u i=true
 ·rw[aw c,cQ,aw c];rfl
 ·rw[au c,cQ,au c];simp
theorem nP(g:List (Int×Int))(bg:Nat)(u:Int)(i:Nat):(jj g bg u i).length<=i:=by
 unfold jj
 rw[ae]
 refine bz (bR _ _) ?_
 rw[bC]
 exact av _
theorem ua(bg j:Nat):jB bg j=0\/jB bg j=1:=by unfold jB;split<;>simp
theorem DN{ss:List (Int×Int)}{n:Nat}(nd:(ss.map (·.1)).Nodup)(h:ss.length=n+1):jv ss=min (fA (iT ss) n).1 (fA (iT ss) n).2:=by
 rw [<- qP nd (j:=n) (by lia)]
 unfold wI wO
 rw[h,show n+1-1-n=0 by lia]
 show min ((fA (iT ss) n).1+rv (n+1) (iT ss) 0-iT ss n) ((fA (iT ss) n).2+0)=_
 rw[show rv (n+1) (iT ss) 0=iT ss n by unfold rv;rw[show n+1-1-0=n by lia]]
 lia
theorem Eg(a b:Int×Int):jc (j9 a) (j9 b)=decide (a=b):=by
 obtain⟨x,y⟩:=a
 obtain⟨u,v⟩:=b
 unfold j9
 simp only[jc,kK]
 by_cases c:x=u<;>by_cases d:y=v<;>simp[c,d]
def ye:Sp:=fun vs H Q _=>∃sl xs ss,vs=[.ref sl]/\H sl=some (.lst xs)/\Prs H xs ss/\StrOk ss/\∀t a b (ns ms:List Int) bg H',Same H H'->H' t=some (.tup [.ref a,.ref b,.int (2*jv ss)])->H' a=some (.lst (ns.map V.int))->H' b=some (.lst (ms.map V.int))->bg<ss.length->(∀j,j<ss.length->iM ss bg<=iM ss j)->ns.Perm (jj ss bg 0 ss.length)->ms.Perm (jj ss bg 1 ss.length)->Q (.ref t) H'
theorem G7(B:Blt mg)(D:DefAt K mg "_law_due" (iI 47) ["_law_string_here"] f fd)(Dqk:DefAt K mg "_law_ahead" (iI 46) ["_law_string_here"] fqk dqk)(Gqk:FnOk P w K mg base iQ 1 fqk dqk ["_law_string_here"] y9):FnOk P w K mg base iQ 2 f fd ["_law_string_here"] ye:=by
 have sc:FnScope ["_law_string_here","_law_one","_law_other","_law_least","_law_begin","_law_due_here","_law_j","_law_with_it","_law_without_it","_law_turn"] ["_law_string_here"] (ja (iI 47)):=by walk_at "SC"
 refine D.F.ok sc (fun vs H Q E h=>?_) (fun cdv A outer s H vs Q E hr h=>?_)
 ·obtain⟨sl,xs,ss,rfl,_⟩:=h
  rfl
 obtain⟨sl,xs,ss,rfl,el,px,SK,h⟩:=h
 have hxl:=aP px
 have hu:=jl hr
 have hu0:_<PySem.cLine:=aD hu
 refine⟨_,(iH (iR (i:=1) sc.nd rfl (Or.inl rfl) (i8 Gqk (hr.mono (by decide)) rfl Dqk.m Dqk.F.kp Dqk.b .nil iX (iC (qv 0) iD))) (iH (iR (i:=2) sc.nd rfl (Or.inl rfl) (xY (i8 Gqk (hr.mono (by decide)) rfl Dqk.m Dqk.F.kp Dqk.b .nil iX (iC (xY (qv 0)) iD)))) (iH (iR (i:=3) sc.nd rfl (Or.inl rfl) (jh (GQ rfl) rfl B.min cN (iC (iO iP (qv 1) (om oq iG) (fun _ _=>rfl)) iD))) (iH (iR (i:=4) sc.nd rfl (Or.inl rfl) (i5 lB (ko aZ PySem.F.slot_list_index PySem.F.type_list_index (FI hr.units) (qv 0) (iC (jh (F0 rfl hu) rfl B.min cN (iC (qv 0) iD)) iD)) iG)) (iH (iR (i:=5) sc.nd rfl (Or.inl rfl) (jE (iC (jE iD) (iC (jE iD) iD)))) (iH (j4 bo rfl (sf rfl B.range (iC (jh kY rfl B.len bP (iC (qv 0) iD)) iD)) (i3 (i:=6) sc.nd rfl (Or.inl rfl)) (iH (iR (i:=7) sc.nd rfl (Or.inl rfl) (i5 ou (i5 kl (iO iP (iO iP (qv 1) (qv 6) (fun _ _=>rfl)) iG (fun _ _=>rfl)) (iO iP (iO iP (qv 2) (qv 6) (fun _ _=>rfl)) iG (fun _ _=>rfl))) (iO iP (iO iP (qv 0) (qv 6) (fun _ _=>rfl)) iG (fun _ _=>rfl)))) (iH (iR (i:=8) sc.nd rfl (Or.inl rfl) (i5 kl (iO iP (iO iP (qv 1) (qv 6) (fun _ _=>rfl)) iG (fun _ _=>rfl)) (iO iP (iO iP (qv 2) (qv 6) (fun _ _=>rfl)) iG (fun _ _=>rfl)))) (iH (iR (i:=9) sc.nd rfl (Or.inl rfl) (nQ C6 rfl B.int gr (iC (nK pe (i5 lB (qv 6) iG) (qv 4) (jr _)) iD))) (iH (jK (jF mJ (qv 7) (qv 3) (jr _)) (iN (j0 (ko aZ br bq kH (iO iP (qv 5) (qv 9) (fun _ _=>rfl)) (iC (iO iP (iO iP (qv 0) (qv 6) (fun _ _=>rfl)) iG (fun _ _=>rfl)) iD)))) jL) (iN (jK (jF oa (qv 8) (qv 3) (jr _)) (iN (j0 (ko aZ br bq kH (iO iP (qv 5) (i5 ou iG (qv 9)) (fun _ _=>rfl)) (iC (iO iP (iO iP (qv 0) (qv 6) (fun _ _=>rfl)) iG (fun _ _=>rfl)) iD)))) jL))))))) (iN (jg (kr (iC (jh sh rfl B.sorted cj (iC (iO iP (qv 5) iG (fun _ _=>rfl)) iD)) (iC (jh sh rfl B.sorted cj (iC (iO iP (qv 5) iG (fun _ _=>rfl)) iD)) (iC (i5 mi iG (qv 3)) iD)))))))))))),?_⟩
 have l40:=SK.l40
 have l1:=SK.l1
 have nd:=SK.nd
 refine iS fun R hR=>?_
 walk_at "D"
 refine⟨sl,xs,ss,rfl,el,px,l40,fun fl ys H4 s4 ffl ef pf=>?_⟩
 have el4:=s4 _ _ el
 have px4:=Prs.same s4 px
 subst hR
 refine iS fun R hR=>?_
 simp_arith[BP,el4]
 intro ql hql
 have q5:=iL hql (.lst xs.reverse)
 have eq5:upd H4 ql (.lst xs.reverse) ql=some (.lst xs.reverse):=iF
 have pq5:=Prs.same q5 (vG px4)
 have s5:=s4.trans q5
 have ef5:=q5 _ _ ef
 have pf5:=Prs.same q5 pf
 generalize upd H4 ql (.lst xs.reverse)=H5 at q5 eq5 pq5 s5 ef5 pf5
 refine⟨ql,xs.reverse,ss.reverse,rfl,eq5,pq5,by rw[fg];exact l40,fun rl zs H6 s6 frl er pr=>?_⟩
 simp_arith[er]
 intro pl hpl
 have q7:=iL hpl (.lst zs.reverse)
 have e7:upd H6 pl (.lst zs.reverse) pl=some (.lst zs.reverse):=iF
 have s7:=(s5.trans s6).trans q7
 have p7:=Prs.same q7 (vG pr)
 have ef7:=q7 _ _ (s6 _ _ ef5)
 have pf7:=Prs.same (s6.trans q7) pf5
 generalize upd H6 pl (.lst zs.reverse)=H7 at q7 e7 s7 p7 ef7 pf7
 generalize zs.reverse=us at e7 p7
 clear s4 s5 s6 q5 eq5 pq5 ef5 pf5 er pr q7 ef pf el4 px4 hql ffl frl
 have el7:=s7 _ _ el
 have px7:=Prs.same s7 px
 subst hR
 refine iS fun R hR=>?_
 obtain⟨n,hn⟩:∃n,ss.length=n+1:=⟨ss.length-1,by lia⟩
 have hyl:=aP pf7
 rw[pZ]at hyl
 have hfl:(lg ss ss.length)[n]? =some (fA (iT ss) n):=uf (by lia)
 obtain⟨x0,g0,b0,rfl,e0⟩:=lO pf7 hfl
 have a0:je ys (-1)=some (.ref b0):=by
  have hix:ky ys.length (-1)=some n:=by
   unfold ky
   rw[au (by decide),aw (by lia)]
   congr 1
   lia
  unfold je
  rw[hix]
  exact g0
 simp_arith[iW,ef7,a0]
 refine⟨b0,[(fA (iT ss) n).1,(fA (iT ss) n).2],rfl,e0,(by simp),fun m hm1 hm2=>?_⟩
 have hm:m=jv ss:=by
  rw[DN nd hn]
  have h1:=hm2 _ (aJ ..)
  have h2:=hm2 _ (ay _ (aJ ..))
  rcases aR.mp hm1 with h3|h3
  ·lia
  ·have h3:=aG.mp h3
   lia
 clear hm1 hm2 e0 a0 g0 hfl
 subst hm
 subst hR
 refine iS fun R hR=>?_
 walk_at "D"
 refine⟨⟨sl,_,rfl,el7⟩,?_⟩
 walk_at "D"
 refine⟨sl,xs,ss,rfl,el7,px7,(fun z=>by rw[z]at l1;cases l1),fun bg x q hx hq hle=>?_⟩
 have hbl:=(ag.mp hq).1
 obtain⟨q',hq',px'⟩:=kI px7 hx
 rw[hq]at hq'
 cases hq'
 refine⟨sl,xs,ss.map j9,x,j9 q,bg,rfl,rfl,el7,px7.reps,px'.rep,by have:=qh ss;lia,?_,fun i c hi hc=>?_,?_⟩
 ·rw[aA,hq]
  show some (jc (j9 q) (j9 q))=some true
  rw[nN]
 ·rw[aA]at hc
  obtain⟨p,hp,rfl⟩:=bN.mp hc
  rw[Eg]
  refine aC fun z=>?_
  have e1:iM ss i=iM ss bg:=by
   unfold iM
   rw[aI,aI,hp,hq,z]
  have:=mR nd (by lia) hbl e1
  lia
 have hlo:∀j,j<ss.length->iM ss bg<=iM ss j:=fun j hj=>by
  have h1:=hle _ (ao (mH hj))
  have e1:iM ss bg=q.1:=by unfold iM;rw[aI,hq];rfl
  rw[e1]
  unfold pU at h1
  show q.1<=(ss.getD j (0,0)).1
  lia
 clear hle px' hx hq
 refine⟨by decide,?_⟩
 obtain⟨beg,hbeg⟩:∃beg:Int,(bg:Int)%2=beg:=⟨_,rfl⟩
 try simp only[hbeg]
 subst hR
 refine iS fun R hR=>?_
 walk_at "D"
 intro la hla
 have q8:=iL hla (.lst [])
 have ea8:upd H7 la (.lst []) la=some (.lst []):=iF
 have s8:=s7.trans q8
 have ef8:=q8 _ _ ef7
 have pf8:=Prs.same q8 pf7
 have eo8:=q8 _ _ e7
 have po8:=Prs.same q8 p7
 have nla:∀{b:Addr} {o:HO},H7 b=some o->b≠la:=fun g=>iU g hla
 have nfa:=nla ef7
 have npa:=nla e7
 have nsa:=nla el7
 have fla:H la=none:=s7.free hla
 generalize upd H7 la (.lst [])=H8 at q8 ea8 s8 ef8 pf8 eo8 po8
 clear nla q8 s7 e7 p7 ef7 pf7 el7 px7 hla
 intro lb hlb
 have q9:=iL hlb (.lst [])
 have eb9:upd H8 lb (.lst []) lb=some (.lst []):=iF
 have s9:=s8.trans q9
 have ef9:=q9 _ _ ef8
 have pf9:=Prs.same q9 pf8
 have eo9:=q9 _ _ eo8
 have po9:=Prs.same q9 po8
 have ea9:=q9 _ _ ea8
 have nab:la≠lb:=iU ea8 hlb
 have nfb:=iU ef8 hlb
 have npb:=iU eo8 hlb
 have nsb:=iU (s8 _ _ el) hlb
 have flb:H lb=none:=s8.free hlb
 generalize upd H8 lb (.lst [])=H9 at q9 eb9 s9 ef9 pf9 eo9 po9 ea9
 clear q9 s8 ef8 pf8 eo8 po8 ea8 hlb
 intro dl hdl
 have q10:=iL hdl (.lst [.ref la,.ref lb])
 have e10:upd H9 dl (.lst [.ref la,.ref lb]) dl=some (.lst [.ref la,.ref lb]):=iF
 have s10:=s9.trans q10
 have ef10:=q10 _ _ ef9
 have pf10:=Prs.same q10 pf9
 have eo10:=q10 _ _ eo9
 have po10:=Prs.same q10 po9
 have ea10:=q10 _ _ ea9
 have eb10:=q10 _ _ eb9
 have nda:=(iU ea9 hdl).symm
 have ndb:=(iU eb9 hdl).symm
 generalize upd H9 dl (.lst [.ref la,.ref lb])=H10 at q10 e10 s10 ef10 pf10 eo10 po10 ea10 eb10
 clear q10 s9 ef9 pf9 eo9 po9 ea9 eb9 hdl
 have el10:=s10 _ _ el
 have px10:=Prs.same s10 px
 subst hR
 refine iS fun R hR=>?_
 have kfm:∀k,k<ss.length->∃b1 b2 b3:Addr,je ys (0+(k:Int))=some (.ref b1)/\je us (0+(k:Int))=some (.ref b2)/\je xs (0+(k:Int))=some (.ref b3)/\H10 b1=some (.tup [.int (fA (iT ss) k).1,.int (fA (iT ss) k).2])/\H10 b2=some (.tup [.int (fA (rv ss.length (iT ss)) (ss.length-1-k)).1,.int (fA (rv ss.length (iT ss)) (ss.length-1-k)).2])/\H10 b3=some (.tup [.int (iM ss k),.int (iT ss k)]):=fun k hk=>by
  obtain⟨_,g1,b1,rfl,e1⟩:=lO pf10 (uf hk)
  have h2:(lg ss.reverse ss.reverse.length).reverse[k]? =some (fA (rv ss.length (iT ss)) (ss.length-1-k)):=by
   rw[fg,gv (by rw[pZ];exact hk),pZ,uf (by lia),Jm ss (by lia)]
  obtain⟨_,g2,b2,rfl,e2⟩:=lO po10 h2
  obtain⟨_,g3,b3,rfl,e3⟩:=lO px10 (mH hk)
  rw[Int.zero_add]
  exact⟨b1,b2,b3,k4 g1,k4 g2,k4 g3,e1,e2,e3⟩
 refine ku (lG 0 ss.length) H10 (fun R' hR'=>?_) (rZ (n:=ss.length) (fun i σ Hc=>∃w6 w7 w8 w9,σ=[some (.ref sl),some (.ref fl),some (.ref pl),some (.int (jv ss)),some (.int beg),some (.ref dl),w6,w7,w8,w9]/\Same H Hc/\(∀b o,b≠la->b≠lb->H10 b=some o->Hc b=some o)/\Hc la=some (.lst ((jj ss bg 0 i).map V.int))/\Hc lb=some (.lst ((jj ss bg 1 i).map V.int))) ⟨none,none,none,none,rfl,s10,fun _ _ _ _ q=>q,ea10,eb10⟩ ?_ ?_)
 ·unfold pJ
  simp_arith[iW,el10]
  exact⟨_,rfl,by lia,by lia,by rw[hxl];simpa using hR'⟩
 ·rintro i σ Hc hi ⟨w6,w7,w8,w9,rfl,sc,bc,ca,cb⟩
  obtain⟨b1,b2,b3,a1,a2,a3,f1,f2,f3⟩:=kfm i hi
  have nd1:∀{b:Addr} {l:List V},H10 b=some (.tup l)->b≠la/\b≠lb:=fun h=>⟨fun z=>(by rw[z,ea10]at h;cases h),fun z=>(by rw[z,eb10]at h;cases h)⟩
  have c1:=bc _ _ (nd1 f1).1 (nd1 f1).2 f1
  have c2:=bc _ _ (nd1 f2).1 (nd1 f2).2 f2
  have n3:=nd1 f3
  have c3:=bc _ _ n3.1 n3.2 f3
  have cf:=bc _ _ nfa nfb ef10
  have cp:=bc _ _ npa npb eo10
  have cs:=bc _ _ nsa nsb el10
  have cd:=bc _ _ nda ndb e10
  clear f1 f2 kfm nd1
  simp only[kh,List.set_cons_zero,List.set_cons_succ]
  refine iS fun R8 hR8=>?_
  simp_arith[iW,cf,cp,cs,a1,a2,a3,c1,c2,c3,jw,jX]
  subst hR8
  refine iS fun R8 hR8=>?_
  simp_arith[iW,cf,cp,cs,a1,a2,a3,c1,c2,c3,jw,jX]
  rw[show(fA (iT ss) i).1+(fA (rv ss.length (iT ss)) (ss.length-1-i)).1-iT ss i=wI (iT ss) ss.length i from rfl,show(fA (iT ss) i).2+(fA (rv ss.length (iT ss)) (ss.length-1-i)).2=wO (iT ss) ss.length i from rfl]
  clear c1 c2 a1 a2 cf cp
  subst hR8
  refine iS fun R8 hR8=>?_
  walk_at "D"
  refine⟨by decide,?_⟩
  have ht:(if(!decide ((0+(i:Int))%2=beg))=true then(1:Int)else 0)=jB bg i:=by
   unfold jB
   by_cases c:i%2=bg%2
   ·rw[aw c,az (show(0+(i:Int))%2=beg by lia)];rfl
   ·rw[au c,aC (show ¬(0+(i:Int))%2=beg by lia)];rfl
  rw[ht]
  have in1:inS ss bg (jB bg i) i=decide (wI (iT ss) ss.length i=jv ss):=by unfold inS;rw[aw rfl]
  have in2:inS ss bg (1-jB bg i) i=decide (jv ss<wO (iT ss) ss.length i):=by unfold inS;rw[au (by rcases ua bg i with e|e<;>rw[e]<;>decide)]
  have o1:=AK ss bg (jB bg i) i
  have o2:=AK ss bg (1-jB bg i) i
  have n1:=nP ss bg (jB bg i) i
  have n2:=nP ss bg (1-jB bg i) i
  rw[in1]at o1
  rw[in2]at o2
  obtain⟨l1,l2,g1,g2,n12,c1,c2,m1,m2,fin⟩:∃l1 l2:Addr,je [V.ref la,.ref lb] (jB bg i)=some (.ref l1)/\je [V.ref la,.ref lb] (1-jB bg i)=some (.ref l2)/\l1≠l2/\Hc l1=some (.lst ((jj ss bg (jB bg i) i).map V.int))/\Hc l2=some (.lst ((jj ss bg (1-jB bg i) i).map V.int))/\(l1=la\/l1=lb)/\(l2=la\/l2=lb)/\∀H':Hp,H' l1=some (.lst ((jj ss bg (jB bg i) (i+1)).map V.int))->H' l2=some (.lst ((jj ss bg (1-jB bg i) (i+1)).map V.int))->H' la=some (.lst ((jj ss bg 0 (i+1)).map V.int))/\H' lb=some (.lst ((jj ss bg 1 (i+1)).map V.int)):=by
   rcases ua bg i with e|e
   ·rw[e];exact⟨la,lb,rfl,rfl,nab,ca,cb,.inl rfl,.inr rfl,fun H' x y=>⟨x,y⟩⟩
   ·rw[e];exact⟨lb,la,rfl,rfl,nab.symm,cb,ca,.inr rfl,.inl rfl,fun H' x y=>⟨y,x⟩⟩
  have h1:H l1=none:=by rcases m1 with e|e<;>rw[e]<;>assumption
  have h2:H l2=none:=by rcases m2 with e|e<;>rw[e]<;>assumption
  have ne1:∀b,b≠la->b≠lb->b≠l1:=fun b x y z=>by rcases m1 with e|e<;>rw[e]at z<;>contradiction
  have ne2:∀b,b≠la->b≠lb->b≠l2:=fun b x y z=>by rcases m2 with e|e<;>rw[e]at z<;>contradiction
  clear ca cb in1 in2 ht m1 m2
  generalize jB bg i=tn at g1 g2 c1 c2 o1 o2 n1 n2 fin ⊢
  generalize jj ss bg tn i=A at c1 o1 n1
  generalize jj ss bg (1-tn) i=Bl at c2 o2 n2
  subst hR8
  refine y8 (fun σ' H'=>σ'=[some (.ref sl),some (.ref fl),some (.ref pl),some (.int (jv ss)),some (.int beg),some (.ref dl),some (.int (0+(i:Int))),some (.int (wI (iT ss) ss.length i)),some (.int (wO (iT ss) ss.length i)),some (.int tn)]/\Same H H'/\(∀b o,b≠la->b≠lb->H10 b=some o->H' b=some o)/\H' l1=some (.lst ((jj ss bg tn (i+1)).map V.int))/\H' l2=some (.lst (Bl.map V.int))) ?_ fun R8 hR8=>?_
  ·clear c1 c2 sc bc cs cd c3
   rintro σ' H' ⟨rfl,sc,bc,c1,c2⟩
   have c3:=bc _ _ n3.1 n3.2 f3
   have cs:=bc _ _ nsa nsb el10
   have cd:=bc _ _ nda ndb e10
   walk_at "D"
   refine lr (fun c=>?_) (fun c=>?_)
   ·simp_arith[iW,cd,g2]
    refine⟨⟨l2,_,rfl,c2⟩,?_⟩
    simp_arith[iW,cs,a3,c3,jw,c2]
    refine⟨by rw[ae];exact jk (by lia),_,_,_,_,rfl,jt sc h2,fun b o x y q=>?_,fin _ ?_ ?_⟩
    ·rw[iJ (ne2 b x y)];exact bc b o x y q
    ·rw[iJ n12];exact c1
    ·rw[iF,o2,aw (by first|exact c|simpa using c),ah];rfl
   ·walk_at "D"
    refine⟨_,_,_,_,rfl,sc,bc,fin _ c1 ?_⟩
    rw[o2,au (by first|exact c|simpa using c)]
    exact c2
  ·walk_at "D"
   refine lr (fun c=>?_) (fun c=>?_)
   ·simp_arith[iW,cd,g1]
    refine⟨⟨l1,_,rfl,c1⟩,?_⟩
    simp_arith[iW,cs,a3,c3,jw,c1]
    refine⟨by rw[ae];exact jk (by lia),hR8 _ _ ⟨rfl,jt sc h1,fun b o x y q=>?_,?_,?_⟩⟩
    ·rw[iJ (ne1 b x y)];exact bc b o x y q
    ·rw[iF,o1,aw (by first|exact c|simpa using c),ah];rfl
    ·rw[iJ n12.symm];exact c2
   ·walk_at "D"
    refine hR8 _ _ ⟨rfl,sc,bc,?_,c2⟩
    rw[o1,au (by first|exact c|simpa using c)]
    exact c1
 rintro σ H11 ⟨w6,w7,w8,w9,rfl,s11,b11,ea11,eb11⟩
 have ed11:=b11 _ _ nda ndb e10
 refine(?_:R _ _ _)
 subst hR
 have loA:=nP ss bg 0 ss.length
 have loB:=nP ss bg 1 ss.length
 simp_arith[iW,ed11,jw,jX]
 refine⟨la,_,rfl,ea11,by lia,fun l5 m5 h5 p5 _=>?_⟩
 have q5:=iL h5 (.lst (m5.map V.int))
 have e5:upd H11 l5 (.lst (m5.map V.int)) l5=some (.lst (m5.map V.int)):=iF
 have s5:=s11.trans q5
 replace ed11:=q5 _ _ ed11
 replace eb11:=q5 _ _ eb11
 generalize upd H11 l5 (.lst (m5.map V.int))=H12 at q5 e5 s5 ed11 eb11
 simp_arith[iW,ed11,jw,jX]
 refine⟨lb,_,rfl,eb11,by lia,fun l6 m6 h6 p6 _=>?_⟩
 have q6:=iL h6 (.lst (m6.map V.int))
 have e6:upd H12 l6 (.lst (m6.map V.int)) l6=some (.lst (m6.map V.int)):=iF
 have s6:=s5.trans q6
 have e56:=q6 _ _ e5
 generalize upd H12 l6 (.lst (m6.map V.int))=H13 at q6 e6 s6 e56
 walk_at "D"
 refine⟨mZ (by decide) (by decide),fun t ht=>?_⟩
 have q7:=iL ht (.tup [.ref l5,.ref l6,.int (2*jv ss)])
 exact h t l5 l6 m5 m6 bg _ (s6.trans q7) iF (q7 _ _ e56) (q7 _ _ e6) hbl hlo p5 p6
theorem DQ{ps:List (Int×Int)}(ts:List (Int×Int))(h:Ends ps ts):∃f,LabOk ps ts f:=by
 have go:∀n:Nat,n<=ts.length->∃f,LabOk ps (ts.take n) f:=fun n=>by
  induction n with
  |zero=>exact fun _=>⟨_,by rw[List.take_zero];exact LabOk.none⟩
  |succ n ih=>
   intro hn
   obtain⟨f,hf⟩:=ih (by lia)
   have e:ts[n]? =some ts[n]:=gE (by lia)
   have hm:ts[n]∈ts:=df _
   obtain⟨a1,a2,a3⟩:=h _ hm
   rw[jM e]
   have he:Ends ps (ts.take n):=fun t ht=>h t (gx ht)
   by_cases c:f ts[n].1<=f ts[n].2
   ·exact⟨_,hf.put he a2 a3 a1 (u:=f ts[n].1) (v:=f ts[n].2) c (.inl ⟨rfl,rfl⟩)⟩
   ·exact⟨_,hf.put he a2 a3 a1 (u:=f ts[n].2) (v:=f ts[n].1) (by lia) (.inr ⟨rfl,rfl⟩)⟩
 obtain⟨f,hf⟩:=go ts.length (av _)
 rw[aX]at hf
 exact⟨f,hf⟩
def qR(K:PySem.W.Frag):Sp:=fun vs H Q _=>∃a ns,vs=[.ref a]/\Scr K H a ns/\∀H',Q (.bl true) H'
theorem CA(f:Int->Int)(col:Int->Bool)(n:Int):kN f col n=0\/kN f col n=1:=by unfold kN;split<;>simp
theorem rJ{f:Int->Int}{col:Int->Bool}{ns:List Int}{n:Int}(h:n∈ns):n∈jY f col ns 0↔kN f col n=0:=by
 unfold jY
 rw[cv,bX]
 exact⟨fun z=>z.2,fun z=>⟨h,z⟩⟩
theorem two_of{ps ts:List (Int×Int)}{f:Int->Int}{col:Int->Bool}(wk:WebOk ps ts)(lab:LabOk ps ts f)(hcol:nW ts col):mE ts (jY f col (ps.map (·.1)) 0):=fun t ht=>by
 obtain⟨m1,m2⟩:=nJ wk t ht
 have hn:t.2∈jm ts t.1:=(nO fun t ht=>(wk.ends t ht).1).mpr (.inl ht)
 have:=FM lab hcol m1 m2 hn
 rw[rJ m1,rJ m2]
 rcases CA f col t.1 with e|e<;>lia
theorem Aa:∀{ps:List (Int×Int)} {l s:Int},PlOk l s ps->0<=s->∀p∈ps,p.2<=1000000000000
 |[],_,_,_,_,_,h=>by cases h
 |q::r,l,s,h,h0,p,hp=>by
  have:=h.1
  rcases aR.mp hp with e|hp
  ·rw[e];lia
  ·exact Aa h.2 (by lia) p hp
theorem F6{ps ts:List (Int×Int)}{ds:List (Int×Int×Int)}(wk:WebOk ps ts)(D:DueK ps ts ds):∀d∈ds,d.2.2<10000000000000:=fun d hd=>by
 obtain⟨p,hp,e⟩:=aB.mp (nJ wk _ (D.t d hd).1).1
 have h1:=D.pay p hp
 have h2:=z7 (zs:=ds) (fun d hd=>by have:=(D.t d hd).2.1;lia) hd (n:=p.1) (.inl e.symm)
 have h3:=Aa wk.p (bE _) p hp
 lia
theorem AQ:∀{ms:List Int},ms.Pairwise (·<=·)->ms.Nodup->ms.Pairwise (·<·)
 |[],_,_=>.nil
 |n::r,h,nd=>by
  have h':=dX.mp h
  have nd':=bB.mp nd
  refine dX.mpr ⟨fun m hm=>?_,AQ h'.2 nd'.2⟩
  have:=h'.1 m hm
  have:n≠m:=fun z=>nd'.1 (by rw[z];exact hm)
  lia
theorem zp{kvs:List (iE×V)}:∀{ts:List (Int×Int)} {q:Int×Int},ts.Pairwise lU->ts.Nodup->(∀t∈ts,HT.lexLt [q.1,q.2] [t.1,t.2]=true)->(∀t∈ts,t.1<t.2/\j6 kvs t.1=true/\j6 kvs t.2=true)->TiOk kvs q ts
 |[],_,_,_,_,_=>trivial
 | t::r,q,h,nd,hq,hk=>by
  have h':=dX.mp h
  have nd':=bB.mp nd
  refine⟨⟨hq t (aJ ..),hk t (aJ ..)⟩,zp h'.2 nd'.2 (fun u hu=>?_) fun u hu=>hk u (ay _ hu)⟩
  have le:=h'.1 u hu
  have ne:t≠u:=fun z=>nd'.1 (by rw[z];exact hu)
  unfold lU at le
  rcases le with le|⟨e,le⟩
  ·exact uq le
  ·rw[e]
   refine xT ?_
   rcases Int.lt_or_eq_of_le le with z|z
   ·exact z
   ·exact absurd (iw e z) ne
theorem yk{α:Type}{f:α->Int}:∀{l:List α},(∀p∈l,0<=f p)->0<=(l.map f).sum
 |[],_=>bE _
 |a::l,h=>by
  rw[aq,List.sum_cons]
  have:=h a (aJ ..)
  have:=yk (f:=f) (l:=l) fun p hp=>h p (ay _ hp)
  lia
theorem yT:∀{ps:List (Int×Int)} {l s:Int},(∀p∈ps,l<p.1/\p.1<=999/\1<=p.2)->ps.Pairwise (fun a b=>a.1<b.1)->s+(ps.map (·.2)).sum<=1000000000000->PlOk l s ps
 |[],_,_,_,_,_=>trivial
 |p::r,l,s,h,hp,hs=>by
  have h1:=h p (aJ ..)
  have hp':=dX.mp hp
  rw[aq,List.sum_cons]at hs
  have nn:=yk (f:=fun q:Int×Int=>q.2) (l:=r) fun m hm=>by have:=h m (ay _ hm);lia
  exact⟨⟨h1.1,h1.2.1,h1.2.2,by lia⟩,yT (fun m hm=>⟨hp'.1 m hm,(h m (ay _ hm)).2⟩) hp'.2 (by lia)⟩
theorem DI{a b c d:Int}(e:(min a b,max a b)=(min c d,max c d)):(a=c/\b=d)\/(a=d/\b=c):=by
 have e1:=(Prod.mk.inj e).1
 have e2:=(Prod.mk.inj e).2
 lia
theorem vA{a b:List (Int×Int)}(h:a.Perm b)(nd:(a.map (·.1)).Nodup):(b.map (·.1)).Nodup:=(h.map (·.1)).nodup_iff.mp nd
theorem JE{ps ss:List (Int×Int)}(nd:(ss.map (·.1)).Nodup)(pp:ps.Perm ss)(sp:ps.Pairwise lU):ps.Pairwise (fun a b=>a.1<b.1):=by
 have h1:(ps.map (·.1)).Pairwise (·<=·):=bL.mpr (sp.imp fun{a b} h=>by unfold lU at h;lia)
 exact bL.mp (AQ h1 (vA pp.symm nd))
structure Duo(ps ts A B:List (Int×Int)):Prop where
 S:StrOk (A++B)
 p:ps.Perm (A++B)
 sp:ps.Pairwise lU
 t:ts.Perm (jH A++jH B)
 st:ts.Pairwise lU
section
variable{ps ts A B:List (Int×Int)}
theorem Jw(nd:((A++B).map (·.1)).Nodup):(A.map (·.1)).Nodup/\(B.map (·.1)).Nodup/\∀n,n∈A.map (·.1)->n∉B.map (·.1):=by
 rw[ah]at nd
 obtain⟨a,b,c⟩:=bM.mp nd
 exact⟨a,b,fun n h z=>c n h n z rfl⟩
theorem Duo.dis(D:Duo ps ts A B):(A.map (·.1)).Nodup/\(B.map (·.1)).Nodup/\∀n,n∈A.map (·.1)->n∉B.map (·.1):=Jw D.S.nd
theorem Duo.pa(D:Duo ps ts A B):Part ps ts A B (jH B):=⟨D.p,D.t,D.S.nd,fun t ht=>by
 obtain⟨a,b⟩:=lY ht
 exact⟨fun z=>D.dis.2.2 _ z a,fun z=>D.dis.2.2 _ z b⟩⟩
theorem Duo.pb(D:Duo ps ts A B):Part ps ts B A (jH A):=⟨D.p.trans bQ,D.t.trans bQ,(vA bQ D.S.nd),fun t ht=>by
 obtain⟨a,b⟩:=lY ht
 exact⟨D.dis.2.2 _ a,D.dis.2.2 _ b⟩⟩
theorem Duo.asc(D:Duo ps ts A B):ps.Pairwise (fun a b=>a.1<b.1):=JE D.S.nd D.p D.sp
theorem yo{g:List (Int×Int)}(nd:(g.map (·.1)).Nodup){t:Int×Int}(h:t∈jH g):t.1<t.2:=by
 obtain⟨k,hk,rfl⟩:=aB.mp h
 have hk:=aV.mp hk
 have ne:iM g k≠iM g (k+1):=fun e=>by have:=mR nd (by lia) (by lia) e;lia
 unfold lz
 dsimp only
 lia
theorem zo{g:List (Int×Int)}(nd:(g.map (·.1)).Nodup):(jH g).Nodup:=by
 refine bL.mpr (c7 (fun{i j} hi hj h e=>h ?_) (hG (n:=g.length-1)))
 have hi:=aV.mp hi
 have hj:=aV.mp hj
 unfold lz at e
 rcases DI e with⟨e1,_⟩|⟨e1,e2⟩
 ·exact mR nd (by lia) (by lia) e1
 ·have a:=mR nd (i:=i) (j:=j+1) (by lia) (by lia) e1
  have b:=mR nd (i:=i+1) (j:=j) (by lia) (by lia) e2
  lia
theorem oQ(g:List (Int×Int)):(jH g).length=g.length-1:=by unfold jH;rw[ae,bC]
theorem Duo.lens(D:Duo ps ts A B):ps.length<=40/\ts.length<=40:=by
 have l40:=D.S.l40
 have a:=oQ A
 have b:=oQ B
 rw[aH]at l40
 constructor
 ·rw[D.p.length_eq,aH];lia
 ·rw[D.t.length_eq,aH];lia
theorem Duo.ok(D:Duo ps ts A B):WebOk ps ts:=by
 have nd:(ps.map (·.1)).Nodup:=vA D.p.symm D.S.nd
 have asc:=D.asc
 have hall:∀p∈ps,-1<p.1/\p.1<=999/\1<=p.2:=fun p hp=>by
  have:=D.S.b p (D.p.mem_iff.mp hp)
  lia
 have hs:(ps.map (·.2)).sum<=1000000000000:=by
  rw[AR (D.p.map (·.2))]
  exact D.S.s
 have hk:∀n,n∈(A++B).map (·.1)->j6 (jd ps) n=true:=fun n hn=>by
  obtain⟨q,hq,rfl⟩:=aB.mp hn
  exact Em nd (D.p.mem_iff.mpr hq)
 have hb:∀n,n∈(A++B).map (·.1)->0<=n:=fun n hn=>by
  obtain⟨q,hq,rfl⟩:=aB.mp hn
  exact(D.S.b q hq).1
 have hts:∀t∈ts,t.1<t.2/\t.1∈(A++B).map (·.1)/\t.2∈(A++B).map (·.1):=fun t ht=>by
  rw[ah]
  rcases aQ.mp (D.t.mem_iff.mp ht)with h|h
  ·obtain⟨a,b⟩:=lY h
   exact⟨yo D.dis.1 h,bx _ a,bx _ b⟩
  ·obtain⟨a,b⟩:=lY h
   exact⟨yo D.dis.2.1 h,bp _ a,bp _ b⟩
 have tnd:(jH A++jH B).Nodup:=bM.mpr ⟨zo D.dis.1,zo D.dis.2.1,fun x hx y hy e=>by
  subst e
  exact D.dis.2.2 _ (lY hx).1 (lY hy).1⟩
 have l:=D.lens
 refine⟨l.1,yT hall asc (by lia),by lia,zp D.st (D.t.nodup_iff.mpr tnd) (fun t ht=>?_) fun t ht=>⟨(hts t ht).1,hk _ (hts t ht).2.1,hk _ (hts t ht).2.2⟩⟩
 have:=hb _ (hts t ht).2.1
 exact uq (a:=(-1)) (by lia)
open Classical in
def kL(A B:List (Int×Int))(n:Int):Bool:=decide (∃k,((k<A.length/\iM A k=n)\/(k<B.length/\iM B k=n))/\k%2=0)
theorem F2(A B:List (Int×Int))(n:Int):kL A B n=kL B A n:=by
 unfold kL
 congr 1
 apply propext
 constructor<;>rintro⟨k,h,e⟩<;>exact⟨k,h.symm,e⟩
open Classical in
theorem yz(nd:(A.map (·.1)).Nodup)(dj:∀n,n∈A.map (·.1)->n∉B.map (·.1)){k:Nat}(hk:k<A.length):kL A B (iM A k)=decide (k%2=0):=by
 unfold kL
 by_cases c:k%2=0
 ·rw[az c]
  exact az ⟨k,.inl ⟨hk,rfl⟩,c⟩
 ·rw[aC c]
  refine aC ?_
  rintro⟨i,⟨hi,e⟩|⟨hi,e⟩,z⟩
  ·rw[mR nd hi hk e]at z;exact c z
  ·exact dj _ (lC hk) (by rw [<- e]; exact lC hi)
theorem zm{g:List (Int×Int)}{col:Int->Bool}(h:∀k,k<g.length->col (iM g k)=decide (k%2=0)){t:Int×Int}(ht:t∈jH g):col t.2= !(col t.1):=by
 obtain⟨k,hk,rfl⟩:=aB.mp ht
 have hk:=aV.mp hk
 have a:=h k (by lia)
 have b:=h (k+1) (by lia)
 have key:decide ((k+1)%2=0)= !decide (k%2=0):=by
  by_cases c:k%2=0
  ·rw[az c,aC (by lia)];rfl
  ·rw[aC c,az (by lia)];rfl
 unfold lz
 dsimp only
 rcases gg (iM g k) (iM g (k+1))with l|l
 ·rw[fc l,eY l,a,b,key]
 ·rw[eX l,fe l,a,b,key,Bool.not_not]
theorem Duo.colA(D:Duo ps ts A B):∀k,k<A.length->kL A B (iM A k)=decide (k%2=0):=fun _ hk=>yz D.dis.1 D.dis.2.2 hk
theorem Duo.colB(D:Duo ps ts A B):∀k,k<B.length->kL A B (iM B k)=decide (k%2=0):=fun k hk=>by
 rw[F2]
 exact yz D.dis.2.1 (fun n h z=>D.dis.2.2 n z h) hk
theorem Duo.col(D:Duo ps ts A B):nW ts (kL A B):=fun m n h=>by
 have hl:∀t∈ts,t.1<t.2:=fun t ht=>(D.ok.ends t ht).1
 have hc:∀t∈ts,kL A B t.2= !(kL A B t.1):=fun t ht=>by
  rcases aQ.mp (D.t.mem_iff.mp ht)with h|h
  ·exact zm D.colA h
  ·exact zm D.colB h
 rcases(nO hl).mp h with h|h
 ·exact hc _ h
 ·have:=hc _ h
  dsimp only at this
  rw[this,Bool.not_not]
theorem Fs{g h th:List (Int×Int)}(P:Part ps ts g h th)(hl:∀t∈ts,t.1<t.2){f:Int->Int}(lab:LabOk ps ts f){bg:Nat}(hb:bg<g.length)(le:∀j,j<g.length->iM g bg<=iM g j){j:Nat}(hj:j<g.length):f (iM g j)=iM g bg:=by
 have inP:∀k,k<g.length->iM g k∈ps.map (·.1):=fun k hk=>(P.p.map (·.1)).mem_iff.mpr (by rw[ah];exact bx _ (lC hk))
 have step:∀k,k+1<g.length->iM g (k+1)∈jm ts (iM g k):=fun k hk=>by
  have ht:lz g k∈ts:=P.t.mem_iff.mpr (bx _ (aB.mpr ⟨k,aV.mpr (by lia),rfl⟩))
  unfold lz at ht
  refine(nO hl).mpr ?_
  rcases gg (iM g k) (iM g (k+1))with l|l
  ·rw[fc l,eY l]at ht;exact .inl ht
  ·rw[eX l,fe l]at ht;exact .inr ht
 have rch:∀k,k<g.length->Rch ts (iM g 0) (iM g k):=fun k=>by
  induction k with
  |zero=>intro _;exact .refl
  |succ k ih=>intro hk;exact .step (ih (by lia)) (step k hk)
 have same:∀k,k<g.length->f (iM g 0)=f (iM g k):=fun k hk=>(lab.cls _ _ (inP 0 (by lia)) (inP k hk)).mpr (rch k hk)
 have e:f (iM g j)=f (iM g bg):=(same j hj).symm.trans (same bg hb)
 have pb:=inP bg hb
 have x1:=lab.le _ pb
 have x2:=lab.pl _ pb
 have x3:=lab.fix _ pb
 have r:=(lab.cls _ _ pb x2).mp x3.symm
 have stay:∀n,Rch ts (iM g bg) n->n∈g.map (·.1):=fun n r=>by
  induction r with
  |refl=>exact lC hb
  | step _ hn ih=>
   rename_i m n _
   have key:∀t∈ts,(t.1∈g.map (·.1)\/t.2∈g.map (·.1))->t.1∈g.map (·.1)/\t.2∈g.map (·.1):=fun t ht o=>by
    rcases aQ.mp (P.t.mem_iff.mp ht)with h|h
    ·exact lY h
    ·obtain⟨a,b⟩:=P.far t h
     exact absurd o (fun z=>z.elim a b)
   rcases(nO hl).mp hn with z|z
   ·exact(key _ z (.inl ih)).2
   ·exact(key _ z (.inr ih)).1
 obtain⟨q,hq,e2⟩:=aB.mp (stay _ r)
 obtain⟨k,hk,rfl⟩:=ux hq
 have:=le k hk
 rw [e,<- e2]
 have e3:iM g k=f (iM g bg):=e2
 show iM g k=iM g bg
 lia
theorem AL{g h th:List (Int×Int)}(P:Part ps ts g h th)(hl:∀t∈ts,t.1<t.2){f:Int->Int}(lab:LabOk ps ts f){col:Int->Bool}(hc:∀k,k<g.length->col (iM g k)=decide (k%2=0)){bg:Nat}(hb:bg<g.length)(le:∀j,j<g.length->iM g bg<=iM g j){j:Nat}(hj:j<g.length):kN f col (iM g j)=jB bg j:=by
 unfold kN jB
 rw[Fs P hl lab hb le hj,hc j hj,hc bg hb]
 by_cases c:j%2=bg%2
 ·rw[aw c,aw (by rw[c])]
 ·rw[au c,au fun z=>?_]
  have:(j%2=0)↔(bg%2=0):=dE.mp z
  lia
theorem xX{g:List (Int×Int)}(nd:(g.map (·.1)).Nodup)(bg:Nat)(u:Int):(jj g bg u g.length).Nodup:=by
 unfold jj
 refine bL.mpr (c7 (fun{i j} hi hj h e=>h ?_) ((hG (n:=g.length)).filter _))
 exact mR nd (aV.mp (cv.mp hi).1) (aV.mp (cv.mp hj).1) e
theorem oF{g:List (Int×Int)}{bg:Nat}{u n:Int}:n∈jj g bg u g.length↔∃j,j<g.length/\inS g bg u j=true/\iM g j=n:=by
 unfold jj
 rw[aB]
 constructor
 ·rintro⟨j,h,e⟩
  obtain⟨a,b⟩:=cv.mp h
  exact⟨j,aV.mp a,b,e⟩
 ·rintro⟨j,a,b,e⟩
  exact⟨j,cv.mpr ⟨aV.mpr a,b⟩,e⟩
def qu(A:List (Int×Int))(b:Nat):Prop:=A≠[]->b<A.length/\∀j,j<A.length->iM A b<=iM A j
theorem se{g h th:List (Int×Int)}(P:Part ps ts g h th){fs M:List Int}{S:Int}{b:Bool}(T:ToldC ps ts fs M S b){u:Int}{bg:Nat}(hu:∀j,j<g.length->(decide (iM g j∈fs)=b↔jB bg j=u)){j:Nat}(hj:j<g.length):iM g j∈M↔inS g bg u j=true:=by
 rw[P.side T hj]
 unfold inS
 by_cases c:jB bg j=u
 ·rw[aw c,aw ((hu j hj).mpr c),bX]
 ·rw[au c,au fun z=>c ((hu j hj).mp z),bX]
theorem Duo.told(D:Duo ps ts A B){fs M m:List Int}{S:Int}{b:Bool}(T:ToldC ps ts fs M S b){u:Int}{ba bb:Nat}(ha:∀j,j<A.length->(decide (iM A j∈fs)=b↔jB ba j=u))(hb:∀j,j<B.length->(decide (iM B j∈fs)=b↔jB bb j=u))(pm:m.Perm (jj A ba u A.length++jj B bb u B.length))(so:m.Pairwise (·<=·)):m=M:=by
 have asc:M.Pairwise (·<·):=by
  rw[T.own]
  exact(bL.mpr D.asc).filter _
 have ndM:M.Nodup:=asc.imp fun{a b} h e=>by lia
 have nm:m.Nodup:=pm.nodup_iff.mpr (bM.mpr ⟨xX D.dis.1 ba u,xX D.dis.2.1 bb u,fun x hx y hy e=>by
  subst e
  obtain⟨i,hi,_,e1⟩:=oF.mp hx
  obtain⟨j,hj,_,e2⟩:=oF.mp hy
  exact D.dis.2.2 x (by rw [<- e1]; exact lC hi) (by rw [<- e2]; exact lC hj)⟩)
 refine List.Perm.eq_of_pairwise (fun x y _ _ u v=>Int.le_antisymm u v) so (asc.imp fun{a b} h=>gh h) ((List.perm_ext_iff_of_nodup nm ndM).mpr fun n=>?_)
 rw[pm.mem_iff,aQ]
 constructor
 ·rintro(h|h)
  ·obtain⟨j,hj,hi,e⟩:=oF.mp h
   rw [<- e]
   exact(se D.pa T ha hj).mpr hi
  ·obtain⟨j,hj,hi,e⟩:=oF.mp h
   rw [<- e]
   exact(se D.pb T hb hj).mpr hi
 ·intro h
  have hn:n∈ps.map (·.1):=by
   rw[T.own]at h
   exact(cv.mp h).1
  have hn:=(D.p.map (·.1)).mem_iff.mp hn
  rw[ah]at hn
  rcases aQ.mp hn with h'|h'
  ·obtain⟨q,hq,e⟩:=aB.mp h'
   obtain⟨j,hj,rfl⟩:=ux hq
   have e:iM A j=n:=e
   rw [<- e] at h
   exact .inl (oF.mpr ⟨j,hj,(se D.pa T ha hj).mp h,e⟩)
  ·obtain⟨q,hq,e⟩:=aB.mp h'
   obtain⟨j,hj,rfl⟩:=ux hq
   have e:iM B j=n:=e
   rw [<- e] at h
   exact .inr (oF.mpr ⟨j,hj,(se D.pb T hb hj).mp h,e⟩)
theorem Duo.cost(D:Duo ps ts A B){fs M:List Int}{S:Int}{b:Bool}(T:ToldC ps ts fs M S b):S=jv A+jv B:=by
 have lo:∀E,j7 ts E->wC ps (fun n=>decide (n∈M))<=wC ps E:=fun E e=>by rw[T.w];exact T.lo E e
 have a:=D.pa.cheap T.t lo
 have b:=D.pb.cheap T.t lo
 have c:=D.pa.cost fun n=>decide (n∈M)
 rw[T.w]at c
 lia
theorem Duo.all(D:Duo ps ts A B){f:Int->Int}(lab:LabOk ps ts f){r nr nt:List Int}(rst:RstB ps ts (jY f (kL A B) (ps.map (·.1)) 0) r nr nt){ba bb:Nat}(la:qu A ba)(lb:qu B bb){m0 m1:List Int}(p0:m0.Perm (jj A ba 0 A.length++jj B bb 0 B.length))(s0:m0.Pairwise (·<=·))(p1:m1.Perm (jj A ba 1 A.length++jj B bb 1 B.length))(s1:m1.Pairwise (·<=·)):
  m0=kg ps (jY f (kL A B) (ps.map (·.1)) 0) nr/\m1=kg ps (jY f (kL A B) (ps.map (·.1)) 0) nt/\((kS (ju false r) ps.length ts ts.length).map (·.2.2)).sum=2*jv A+2*jv B/\DueK ps ts (kS (ju false r) ps.length ts ts.length)/\(kS (ju false r) ps.length ts ts.length).length<=40:=by
 have wk:=D.ok
 have two:=two_of wk lab D.col
 have hl:∀t∈ts,t.1<t.2:=fun t ht=>(wk.ends t ht).1
 have F:=Jz wk two rst
 obtain⟨T0,T1⟩:=GH wk two F
 have inA:∀j,j<A.length->iM A j∈ps.map (·.1):=fun k hk=>(D.p.map (·.1)).mem_iff.mpr (by rw[ah];exact bx _ (lC hk))
 have inB:∀j,j<B.length->iM B j∈ps.map (·.1):=fun k hk=>(D.p.map (·.1)).mem_iff.mpr (by rw[ah];exact bp _ (lC hk))
 have sa:∀j,j<A.length->(iM A j∈jY f (kL A B) (ps.map (·.1)) 0↔jB ba j=0):=fun j hj=>by
  have l:=la fun z=>by rw[z]at hj;exact absurd hj (gm _)
  rw[rJ (inA j hj),AL D.pa hl lab D.colA l.1 l.2 hj]
 have sb:∀j,j<B.length->(iM B j∈jY f (kL A B) (ps.map (·.1)) 0↔jB bb j=0):=fun j hj=>by
  have l:=lb fun z=>by rw[z]at hj;exact absurd hj (gm _)
  rw[rJ (inB j hj),AL D.pb hl lab D.colB l.1 l.2 hj]
 have tt:∀{p:Prop} [Decidable p] {b j:Nat},(p↔jB b j=0)->((decide p=true↔jB b j=0)/\(decide p=false↔jB b j=1)):=fun{p} _ {b j} h=>by
  rw[bX,eD,h]
  have:=ua b j
  exact⟨Iff.rfl,by lia⟩
 obtain⟨dk,dl⟩:=Jt wk F
 have e0:=D.told T0 (u:=0) (fun j hj=>(tt (sa j hj)).1) (fun j hj=>(tt (sb j hj)).1) p0 s0
 have e1:=D.told T1 (u:=1) (fun j hj=>(tt (sa j hj)).2) (fun j hj=>(tt (sb j hj)).2) p1 s1
 refine⟨e0,e1,?_,dk,by have:=D.lens.2;lia⟩
 rw[xO,Ee _ F.pos,D.cost T0]
 lia
end
theorem Fo{fb:TT}{a b:TS}{D:L2.Ends}{σ:St}{H:Hp}(h:∀A:TS,A=a->qA fb A b D σ H):qA fb a b D σ H:=h a rfl
theorem Ec{xs:List V}{k:Nat}(h:k<=xs.length):kn xs none (some (k:Int))=xs.take k:=by
 unfold kn
 have e1:HT.i4 xs.length 0 none=0:=rfl
 have e2:HT.i4 xs.length xs.length (some (k:Int))=k:=by
  unfold HT.i4
  dsimp only
  first
   |(rw[au (by lia)];lia)
   |(simp;lia)
 rw[e1,e2]
 simp
theorem Bz{α β:Type}{F:α->β->Prop}:∀(k:Nat) {a:List α} {b:List β},Paired F a b->Paired F (a.drop k) (b.drop k)
 |0,_,_,h=>h
 |_+1,_,_,.nil=>.nil
 |k+1,_,_,.cons _ t=>Bz k t
theorem BA{α β:Type}{F:α->β->Prop}:∀(k:Nat) {a:List α} {b:List β},Paired F a b->Paired F (a.take k) (b.take k)
 |0,_,_,_=>.nil
 |_+1,_,_,.nil=>.nil
 |k+1,_,_,.cons h t=>.cons h (BA k t)
theorem Bu{α β:Type}{F:α->β->Prop}:∀{a:List α} {b:List β} {a':List α} {b':List β},Paired F a b->Paired F a' b'->Paired F (a++a') (b++b')
 |_,_,_,_,.nil,h=>h
 |_,_,_,_,.cons x t,h=>.cons x (Bu t h)
theorem EV{a b:List (Int×Int)}(h:a.Sublist b)(pos:∀p∈b,0<=p.2):(a.map (·.2)).sum<=(b.map (·.2)).sum:=by
 induction h with
 |slnil=>exact bE _
 |cons x _ ih=>
  have:=ih fun p hp=>pos p (ay _ hp)
  have:=pos x (aJ ..)
  rw[aq,List.sum_cons]
  lia
 |cons_cons x _ ih=>
  have:=ih fun p hp=>pos p (ay _ hp)
  rw[aq,List.sum_cons,aq,List.sum_cons]
  lia
theorem StrOk.sub{ss g:List (Int×Int)}(S:StrOk ss)(h:g.Sublist ss)(ne:g≠[]):StrOk g:=by
 have hl:=h.length_le
 have l40:=S.l40
 refine⟨dM.mpr ne,by lia,(h.map (·.1)).nodup S.nd,fun p hp=>S.b p (h.subset hp),?_⟩
 have:=EV h fun p hp=>by have:=S.b p hp;lia
 have:=S.s
 lia
def jN(ss:List (Int×Int))(c k:Nat):List (Int×Int):=if k=0 then ss.take c else ss.drop c
theorem Ek(ss:List (Int×Int))(c k:Nat):(jN ss c k).Sublist ss:=by
 unfold jN
 split
 ·exact eI _ _
 ·exact List.drop_sublist _ _
def lF(g:Nat->List (Int×Int))(bs:Nat->Nat)(u:Int)(i:Nat):List Int:=(List.range i).flatMap fun k=>jj (g k) (bs k) u (g k).length
def nT(g:Nat->List (Int×Int))(i:Nat):List (Int×Int):=(List.range i).flatMap fun k=>jH (g k)
def nU(g:Nat->List (Int×Int))(i:Nat):Int:=((List.range i).map fun k=>2*jv (g k)).sum
def qo(g:Nat->List (Int×Int))(i:Nat):Nat:=((List.range i).map fun k=>(g k).length).sum
theorem nR{α:Type}(f:Nat->List α)(i:Nat):(List.range (i+1)).flatMap f=(List.range i).flatMap f++f i:=by
 rw[bF,gG]
 simp
structure Acc(g:Nat->List (Int×Int))(i:Nat)(bs:Nat->Nat)(m0 m1:List Int)(c:Int)(T:List (Int×Int)):Prop where
 p0:m0.Perm (lF g bs 0 i)
 p1:m1.Perm (lF g bs 1 i)
 s0:m0.Pairwise (·<=·)
 s1:m1.Pairwise (·<=·)
 c:c=nU g i
 t:T=nT g i
 lo:∀k,k<i->qu (g k) (bs k)
section
variable{g:Nat->List (Int×Int)}{i bg:Nat}{bs:Nat->Nat}{m0 m1 n0 n1 q0 q1:List Int}{c:Int}{T:List (Int×Int)}
theorem Acc.skip(h:Acc g i bs m0 m1 c T)(e:g i=[]):Acc g (i+1) bs m0 m1 c T:=by
 have eo:∀u,jj (g i) (bs i) u (g i).length=[]:=fun u=>by rw[e];rfl
 refine⟨?_,?_,h.s0,h.s1,?_,?_,fun k hk=>?_⟩
 ·unfold lF;rw[nR,eo,bt];exact h.p0
 ·unfold lF;rw[nR,eo,bt];exact h.p1
 ·unfold nU
  rw[bF,ah,cu,h.c]
  simp only[aq,cq,List.sum_cons,List.sum_nil,e]
  show _=nU g i+(2*0+0)
  lia
 ·unfold nT;rw[nR,e,h.t];show _=_++[];rw[bt];rfl
 ·by_cases z:k=i
  ·subst z;exact fun ne=>absurd e ne
  ·exact h.lo k (by lia)
theorem GL{bs bs':Nat->Nat}{u:Int}(h:∀k,k<i->bs k=bs' k):lF g bs u i=lF g bs' u i:=by
 unfold lF
 rw[List.flatMap_def,List.flatMap_def]
 congr 1
 refine dJ fun k hk=>?_
 rw[h k (aV.mp hk)]
theorem Acc.step(h:Acc g i bs m0 m1 c T)(hb:bg<(g i).length)(le:∀j,j<(g i).length->iM (g i) bg<=iM (g i) j)(pn:n0.Perm (jj (g i) bg 0 (g i).length))(pm:n1.Perm (jj (g i) bg 1 (g i).length))(r0:q0.Perm (m0++n0))(r1:q1.Perm (m1++n1))(s0:q0.Pairwise (·<=·))(s1:q1.Pairwise (·<=·)):∃bs',Acc g (i+1) bs' q0 q1 (c+2*jv (g i)) (T++jH (g i)):=by
 have key:∀u,lF g (fun k=>if k=i then bg else bs k) u (i+1)=lF g bs u i++jj (g i) bg u (g i).length:=fun u=>by
  show(List.range (i+1)).flatMap _=_
  rw[nR]
  dsimp only
  rw[aw rfl]
  congr 1
  exact GL (g:=g) fun k hk=>by rw[au (by lia)]
 refine⟨fun k=>if k=i then bg else bs k,?_,?_,s0,s1,?_,?_,fun k hk=>?_⟩
 ·rw[key];exact r0.trans (h.p0.append pn)
 ·rw[key];exact r1.trans (h.p1.append pm)
 ·unfold nU
  rw[bF,ah,cu,h.c]
  simp only[aq,cq,List.sum_cons,List.sum_nil]
  show nU g i+_=nU g i+_
  lia
 ·unfold nT;rw[nR,h.t];rfl
 ·by_cases z:k=i
  ·subst z
   rw[aw rfl]
   exact fun _=>⟨hb,le⟩
  ·rw[au z]
   exact h.lo k (by lia)
theorem uT(g:Nat->List (Int×Int))(bs:Nat->Nat)(u:Int):∀i,(lF g bs u i).length<=qo g i
 |0=>av _
 |i+1=>by
  have ih:=uT g bs u i
  have:=nP (g i) (bs i) u (g i).length
  unfold lF qo at ih ⊢
  rw[nR,aH,bF,ah,cu]
  simp only[aq,cq,List.sum_cons,List.sum_nil]
  lia
theorem zA(g:Nat->List (Int×Int)):∀i,(nT g i).length<=qo g i
 |0=>av _
 |i+1=>by
  have ih:=zA g i
  have:=oQ (g i)
  unfold nT qo at ih ⊢
  rw[nR,aH,bF,ah,cu]
  simp only[aq,cq,List.sum_cons,List.sum_nil]
  lia
theorem D3{ss:List (Int×Int)}{c:Nat}(hc:c<=ss.length){i:Nat}(hi:i<2):qo (jN ss c) i+(jN ss c i).length<=ss.length:=by
 have:i=0\/i=1:=by lia
 rcases this with rfl|rfl
 ·show 0+(ss.take c).length<=_
  rw[aW];lia
 ·show((ss.take c).length+0)+(ss.drop c).length<=_
  rw[aW,cU];lia
end
theorem Acc.duo{ss ps ts:List (Int×Int)}{c:Nat}{bs:Nat->Nat}{m0 m1:List Int}{cc:Int}{T:List (Int×Int)}(h:Acc (jN ss c) 2 bs m0 m1 cc T)(S:StrOk ss)(pp:ps.Perm ss)(sp:ps.Pairwise lU)(pt:ts.Perm T)(st:ts.Pairwise lU):Duo ps ts (ss.take c) (ss.drop c)/\qu (ss.take c) (bs 0)/\qu (ss.drop c) (bs 1)/\m0.Perm (jj (ss.take c) (bs 0) 0 (ss.take c).length++jj (ss.drop c) (bs 1) 0 (ss.drop c).length)/\m1.Perm (jj (ss.take c) (bs 0) 1 (ss.take c).length++jj (ss.drop c) (bs 1) 1 (ss.drop c).length)/\cc=2*jv (ss.take c)+2*jv (ss.drop c):=by
 have e:ss.take c++ss.drop c=ss:=gu _ _
 have eM:∀u,lF (jN ss c) bs u 2=jj (ss.take c) (bs 0) u (ss.take c).length++(jj (ss.drop c) (bs 1) u (ss.drop c).length++[]):=fun u=>rfl
 have eT:nT (jN ss c) 2=jH (ss.take c)++(jH (ss.drop c)++[]):=rfl
 have eC:nU (jN ss c) 2=2*jv (ss.take c)+(2*jv (ss.drop c)+0):=rfl
 have p0:=h.p0
 have p1:=h.p1
 rw[eM,bt]at p0 p1
 have hT:=h.t
 rw[eT,bt]at hT
 refine ⟨⟨by rw [e]; exact S,by rw [e]; exact pp,sp,by rw [<- hT]; exact pt,st⟩,h.lo 0 (by decide),h.lo 1 (by decide),p0,p1,by rw [h.c,eC]; lia⟩
theorem Acc.ties{ss:List (Int×Int)}{c:Nat}{bs:Nat->Nat}{m0 m1:List Int}{cc:Int}{T:List (Int×Int)}(h:Acc (jN ss c) 2 bs m0 m1 cc T)(S:StrOk ss):T.length<=40/\∀q∈T,0<=q.2/\q.2<1000:=by
 have hT:=h.t
 rw[show nT (jN ss c) 2=jH (ss.take c)++(jH (ss.drop c)++[])from rfl,bt]at hT
 have a:=oQ (ss.take c)
 have b:=oQ (ss.drop c)
 have l40:=S.l40
 rw[aW]at a
 rw[cU]at b
 refine⟨by rw[hT,aH];lia,fun q hq=>?_⟩
 have hn:q.2∈ss.map (·.1):=by
  rw[hT]at hq
  rcases aQ.mp hq with z|z
  ·exact((eI c ss).map (·.1)).subset (lY z).2
  ·exact((List.drop_sublist c ss).map (·.1)).subset (lY z).2
 obtain⟨p,hp,e⟩:=aB.mp hn
 have:=S.b p hp
 have e:p.1=q.2:=e
 lia
def oU(m0 m1:List Int):Dt:=.lst [.lst (m0.map Dt.int),.lst (m1.map Dt.int)]
theorem y3{H:Hp}{t p q:Addr}{m0 m1:List Int}(e:H t=some (.lst [.ref p,.ref q]))(e1:H p=some (.lst (m0.map V.int)))(e2:H q=some (.lst (m1.map V.int))):Rep H (oU m0 m1) (.ref t):=by
 unfold oU
 rw[Rep]
 refine⟨t,_,rfl,e,?_⟩
 rw[Reps]
 refine⟨_,_,rfl,by rw[Rep];exact⟨p,_,rfl,e1,vw _⟩,?_⟩
 rw[Reps]
 exact⟨_,_,rfl,by rw[Rep];exact⟨q,_,rfl,e2,vw _⟩,by rw[Reps]⟩
theorem Ef(m0 m1:List Int):ke (oU m0 m1)<=20:=by
 have h1:=uZ m0
 have h2:=uZ m1
 unfold oU
 rw[ke,jI,ke,jI,ke,jI]
 lia
theorem G8(B:Blt mg)(D:DefAt K mg "_law_own" (iI 42) ["_law_web"] f fd):FnOk P w K mg base iQ 1 f fd ["_law_web"] yd:=by
 have sc:FnScope ["_law_web"] ["_law_web"] (ja (iI 42)):=by walk_at "SC"
 refine D.F.ok sc (fun vs H Q E h=>?_) (fun cdv A outer s H vs Q E hr h=>?_)
 ·obtain⟨v,ps,ts,rfl,_⟩:=h
  rfl
 obtain⟨v,ps,ts,rfl,hw,h⟩:=h
 obtain⟨u,pa,ta,xs,ys,rfl,eu,ep,et,pp,pt⟩:=id hw
 have hu:=jl hr
 have hu0:_<PySem.cLine:=aD hu
 refine⟨_,(iN (jg (kr (iC (nQ Ac rfl B.list di (iC (iO iP (qv 0) iG (fun _ _=>rfl)) iD)) (iC (nQ Ac rfl B.list di (iC (iO iP (qv 0) iG (fun _ _=>rfl)) iD)) iD))))),?_⟩
 simp_arith[iW,eu,ep,jw,jX]
 intro l1 h1
 have s1:Same H (upd H l1 (.lst xs)):=iL h1 _
 simp_arith[iW,s1 _ _ eu,s1 _ _ et,jw,jX]
 intro l2 h2
 have s2:Same H (upd (upd H l1 (.lst xs)) l2 (.lst ys)):=s1.trans (iL h2 _)
 intro t h3
 have s3:Same (upd (upd H l1 (.lst xs)) l2 (.lst ys)) (upd (upd (upd H l1 (.lst xs)) l2 (.lst ys)) t (.tup [.ref l1,.ref l2])):=iL h3 _
 refine h _ _ (s2.trans s3) ⟨t,l1,l2,xs,ys,rfl,iF,s3 _ _ (iL h2 _ _ _ iF),s3 _ _ iF,Prs.same (s2.trans s3) pp,Prs.same (s2.trans s3) pt⟩
theorem DC(B:Blt mg)(D:DefAt K mg "law" (iI 51) ["_law_script"] f fd)(Dqq:DefAt K mg "_law_begun" (iI 43) ["_law_script","_law_k"] fqq dqq)(Gqq:FnOk P w K mg base iQ 1 fqq dqq ["_law_script","_law_k"] (za K))(Dqu:DefAt K mg "_law_string" (iI 45) ["_law_state"] fqu dqu)(Gqu:FnOk P w K mg base iQ 3 fqu dqu ["_law_state"] Aj)(Dqa:DefAt K mg "_law_take" (iI 44) ["_law_state","_law_many"] fqa dqa)(Gqa:FnOk P w K mg base iQ 1 fqa dqa ["_law_state","_law_many"] uS)(Dqr:DefAt K mg "_law_due" (iI 47) ["_law_string_here"] fqr dqr)(Gqr:FnOk P w K mg base iQ 2 fqr dqr ["_law_string_here"] ye)(Dqv:DefAt K mg "_law_tied" (iI 50) ["_law_string_here"] fqv dqv)(Gqv:FnOk P w K mg base iQ 1 fqv dqv ["_law_string_here"] zi)(Dqs:DefAt K mg "_law_own" (iI 42) ["_law_web"] fqs dqs)(Gqs:FnOk P w K mg base iQ 1 fqs dqs ["_law_web"] yd)(Dq3:DefAt K mg "pairing_of" (iI 40) ["web"] fq3 dq3)(Gq3:FnOk P w K mg base iQ 7 fq3 dq3 ["web"] (ze C_Net))(Dqt:DefAt K mg "_law_paid" (iI 49) ["_law_web","_law_dues"] fqt dqt)(Gqt:FnOk P w K mg base iQ 3 fqt dqt ["_law_web","_law_dues"] zd):FnOk P w K mg base iQ 9 f fd ["_law_script"] (qR K):=by
 have sc:FnScope ["_law_script","_law_k","_law_state","_law_string_here","_law_cut","_law_due_here","_law_ties","_law_part","_law_one","_law_other","_law_cost","_law_web","_law_most","_law_fewest","_law_dues"] ["_law_script"] (ja (iI 51)):=by walk_at "SC"
 refine D.F.ok sc (fun vs H Q E h=>?_) (fun cdv A outer s H vs Q E hr h=>?_)
 ·obtain⟨a,ns,rfl,_⟩:=h
  rfl
 obtain⟨a,ns,rfl,hs,h⟩:=h
 have hu:=jl hr
 have hu0:_<PySem.cLine:=aD hu
 refine⟨_,(iH (j4 bo rfl (sf rfl B.range (iC (jh (xA rfl) rfl B.max PyProof.Rows.boot_max (iC iG (iC (jh (tW rfl) rfl B.min cN (iC (jh vK rfl B.len bP (iC (qv 0) iD)) (iC iG iD))) iD))) iD)) (i3 (i:=1) sc.nd rfl (Or.inl rfl)) (iH (iR (i:=2) sc.nd rfl (Or.inl rfl) (i8 Gqq (hr.mono (by decide)) rfl Dqq.m Dqq.F.kp Dqq.b .nil iX (iC (qv 0) (iC (qv 1) iD)))) (iH (iR (i:=3) sc.nd rfl (Or.inl rfl) (i8 Gqu (hr.mono (by decide)) rfl Dqu.m Dqu.F.kp Dqu.b .nil iX (iC (qv 2) iD))) (iH (iR (i:=4) sc.nd rfl (Or.inl rfl) (iO iP (jE (iC (jh kY rfl B.len bP (iC (qv 3) iD)) (iC (i5 kl iG (i8 Gqa (hr.mono (by decide)) rfl Dqa.m Dqa.F.kp Dqa.b .nil iX (iC (qv 2) (iC (jh kY rfl B.len bP (iC (qv 3) iD)) iD)))) iD))) (i8 Gqa (hr.mono (by decide)) rfl Dqa.m Dqa.F.kp Dqa.b .nil iX (iC (qv 2) (iC iG iD))) (fun _ _=>rfl))) (iH (iR (i:=5) sc.nd rfl (Or.inl rfl) (jE (iC (jE iD) (iC (jE iD) (iC iG iD))))) (iH (iR (i:=6) sc.nd rfl (Or.inl rfl) (jE iD)) (iH (j4 bo rfl (ka (jE (iC (oO qQ (qv 3) oH (oJ (qv 4))) (iC (oO qQ (qv 3) (oJ (qv 4)) oH) iD)))) (i3 (i:=7) sc.nd rfl (Or.inl rfl)) (iN (jK (jF (qY hr.units) (qv 7) (jE iD) (jr _)) (iH (nG (i8 Gqr (hr.mono (by decide)) rfl Dqr.m Dqr.F.kp Dqr.b .nil iX (iC (qv 7) iD)) (kE (n:=3) rfl (js (i3 (i:=8) sc.nd rfl (Or.inl rfl)) (js (i3 (i:=9) sc.nd rfl (Or.inl rfl)) (js (i3 (i:=10) sc.nd rfl (Or.inl rfl)) kF))))) (iH (iR (i:=5) sc.nd rfl (Or.inl rfl) (jE (iC (jh sh rfl B.sorted cj (iC (i5 tV (iO iP (qv 5) iG (fun _ _=>rfl)) (qv 8)) iD)) (iC (jh sh rfl B.sorted cj (iC (i5 tV (iO iP (qv 5) iG (fun _ _=>rfl)) (qv 9)) iD)) (iC (i5 kl (iO iP (qv 5) iG (fun _ _=>rfl)) (qv 10)) iD))))) (iN (iR (i:=6) sc.nd rfl (Or.inl rfl) (i5 tV (qv 6) (i8 Gqv (hr.mono (by decide)) rfl Dqv.m Dqv.F.kp Dqv.b .nil iX (iC (qv 7) iD))))))) jL))) (iH (iR (i:=11) sc.nd rfl (Or.inl rfl) (kr (iC (jh AZ rfl B.sorted cj (iC (qv 3) iD)) (iC (jh AZ rfl B.sorted cj (iC (qv 6) iD)) iD)))) (iH (nG (i8 Gq3 (hr.mono (by decide)) rfl Dq3.m Dq3.F.kp Dq3.b .nil iX (iC (i8 Gqs (hr.mono (by decide)) rfl Dqs.m Dqs.F.kp Dqs.b .nil iX (iC (qv 11) iD)) iD)) (kE (n:=3) rfl (js (i3 (i:=12) sc.nd rfl (Or.inl rfl)) (js (i3 (i:=13) sc.nd rfl (Or.inl rfl)) (js (i3 (i:=14) sc.nd rfl (Or.inl rfl)) kF))))) (iN (jK (PW.pt (oo (jF (qY hr.units) (jE (iC (qv 12) (iC (qv 13) iD))) (oO qQ (qv 5) oH (oJ iG)) (jr _)) (rb (jF pe (i8 Gqt (hr.mono (by decide)) rfl Dqt.m Dqt.F.kp Dqt.b .nil iX (iC (qv 11) (iC (qv 14) iD))) (iO iP (qv 5) iG (fun _ _=>rfl)) (jr _))))) (iN (jg ny)) jL))))))))))) (iN (jg ny))),?_⟩
 refine iS fun R hR=>?_
 obtain⟨N,hN,hN2⟩:∃N:Nat,N=(if(1:Int)<(if(2:Int)<(ns.length:Int)then 2 else(ns.length:Int))then(if(2:Int)<(ns.length:Int)then 2 else(ns.length:Int))else 1).toNat/\N<70:=⟨_,rfl,by split<;>split<;>lia⟩
 refine ku (lG 0 N) H (fun R' hR'=>?_) (rZ (n:=N) (fun i σ H1=>∃v1 v2 v3 v4 v5 v6 v7 v8 v9 v10 v11 v12 v13 v14,σ=[some (.ref a),v1,v2,v3,v4,v5,v6,v7,v8,v9,v10,v11,v12,v13,v14]/\Scr K H1 a ns) ⟨none,none,none,none,none,none,none,none,none,none,none,none,none,none,rfl,hs⟩ ?_ ?_)
 ·unfold pJ
  walk_at "D"
  refine⟨a,_,rfl,.inl hs.sq,?_⟩
  simp_arith[ae]
  refine⟨_,rfl,?_,?_,?_⟩
  ·split<;>split<;>lia
  ·split<;>split<;>lia
  ·rw [<- hN]
   exact hR'
 ·rintro i σ H1 hi ⟨v1,v2,v3,v4,v5,v6,v7,v8,v9,v10,v11,v12,v13,v14,rfl,hs1⟩
  simp only[kh,List.set_cons_zero,List.set_cons_succ]
  refine iS fun R9 hR9=>?_
  walk_at "D"
  refine⟨a,0+(i:Int),ns,rfl,hs1,by lia,by lia,fun st o hst so=>?_⟩
  have s2:=iL hst o
  have e2:upd H1 st o st=some o:=iF
  have hs2:=hs1.tups s2.tups
  generalize upd H1 st o=H2 at s2 e2 hs2
  subst hR9
  refine iS fun R9 hR9=>?_
  walk_at "D"
  refine⟨st,o,rfl,e2,so,fun sl xs ss H3 o3 b3 e3 so3 fsl el px SK=>?_⟩
  have hs3:=hs2.tups (b3.tups e2 so.imm)
  have hxl:=aP px
  have l40:=SK.l40
  have l1:=SK.l1
  have nst:sl≠st:=(iU e2 fsl).symm
  clear s2 e2 hs2 hs1 hst b3 fsl so
  subst hR9
  refine iS fun R9 hR9=>?_
  simp_arith[iW,el]
  refine⟨st,o3,(xs.length:Int),rfl,e3,so3,by lia,by lia,fun d1 o1 d10 d11 so1=>?_⟩
  have b4:But st H3 (upd H3 st o1):=But.at _ _ _
  have e4:upd H3 st o1 st=some o1:=iF
  have hs4:=hs3.tups (b4.tups e3 so3.imm)
  have px4:=Prs.tups (b4.tups e3 so3.imm) px
  have el4:=b4 _ _ nst el
  generalize upd H3 st o1=H4 at b4 e4 hs4 px4 el4
  clear b4 el px e3 so3 hs3
  walk_at "D"
  intro p1 hp1
  have np:p1≠st:=(iU e4 hp1).symm
  refine⟨st,o1,2,rfl,(by rw[iJ np.symm];exact e4),so1,by decide,by decide,fun d2 o2 d20 d21 so2=>?_⟩
  obtain⟨c,hc1,hcl,ev⟩:∃c:Nat,1<=c/\c<=ss.length/\je [V.int (xs.length:Int),.int (1+d1)] d2=some (.int (c:Int)):=by
   have:d2=0\/d2=1:=by lia
   rcases this with rfl|rfl
   ·exact⟨xs.length,by lia,by lia,rfl⟩
   ·exact⟨(1+d1).toNat,by lia,by lia,by rw[show(((1+d1).toNat:Nat):Int)=1+d1 by lia];rfl⟩
  simp_arith[iW,iJ np,iF,ev]
  have b5:But st H4 (upd (upd H4 p1 (.lst [.int (xs.length:Int),.int (1+d1)])) st o2):=(But.new hp1).trans (But.at _ _ _)
  replace hs4:=hs4.tups (b5.tups e4 so1.imm)
  replace px4:=Prs.tups (b5.tups e4 so1.imm) px4
  replace el4:=b5 _ _ nst el4
  generalize upd (upd H4 p1 (.lst [.int (xs.length:Int),.int (1+d1)])) st o2=H5 at b5 hs4 px4 el4
  clear b5 e4 np ev hp1 so1 so2 d10 d11 d20 d21
  subst hR9
  refine iS fun R9 hR9=>?_
  walk_at "D"
  intro qa hqa
  have q_qa:=iL hqa (.lst [])
  have e_qa:upd H5 qa (.lst []) qa=some (.lst []):=iF
  replace hs4:=hs4.tups q_qa.tups
  replace el4:=q_qa _ _ el4
  replace px4:=Prs.same q_qa px4
  generalize upd H5 qa (.lst [])=H6 at q_qa e_qa hs4 el4 px4
  clear q_qa hqa
  intro qb hqb
  have q_qb:=iL hqb (.lst [])
  have e_qb:upd H6 qb (.lst []) qb=some (.lst []):=iF
  replace hs4:=hs4.tups q_qb.tups
  replace el4:=q_qb _ _ el4
  replace px4:=Prs.same q_qb px4
  replace e_qa:=q_qb _ _ e_qa
  generalize upd H6 qb (.lst [])=H7 at q_qb e_qb hs4 el4 px4 e_qa
  clear q_qb hqb
  intro dh hdh
  have q_dh:=iL hdh (.lst [.ref qa,.ref qb,.int 0])
  have e_dh:upd H7 dh (.lst [.ref qa,.ref qb,.int 0]) dh=some (.lst [.ref qa,.ref qb,.int 0]):=iF
  replace hs4:=hs4.tups q_dh.tups
  replace el4:=q_dh _ _ el4
  replace px4:=Prs.same q_dh px4
  replace e_qa:=q_dh _ _ e_qa
  replace e_qb:=q_dh _ _ e_qb
  generalize upd H7 dh (.lst [.ref qa,.ref qb,.int 0])=H8 at q_dh e_dh hs4 el4 px4 e_qa e_qb
  clear q_dh hdh
  subst hR9
  refine iS fun R9 hR9=>?_
  walk_at "D"
  intro tl htl
  have q_tl:=iL htl (.lst [])
  have e_tl:upd H8 tl (.lst []) tl=some (.lst []):=iF
  replace hs4:=hs4.tups q_tl.tups
  replace el4:=q_tl _ _ el4
  replace px4:=Prs.same q_tl px4
  replace e_qa:=q_tl _ _ e_qa
  replace e_qb:=q_tl _ _ e_qb
  replace e_dh:=q_tl _ _ e_dh
  generalize upd H8 tl (.lst [])=H9 at q_tl e_tl hs4 el4 px4 e_qa e_qb e_dh
  clear q_tl htl
  subst hR9
  refine iS fun R9 hR9=>?_
  refine tFor_hideI (ι:=Addr×Addr×Addr×Hp) (fun y=>jS K y.2.2.1) (fun y=>y.2.2.2) (fun y=>Same H9 y.2.2.2/\y.2.2.2 y.1=some (.lst (xs.take c))/\y.2.2.2 y.2.1=some (.lst (xs.drop c))/\y.2.2.2 y.2.2.1=some (.lst [.ref y.1,.ref y.2.1])) (fun R' hR'=>?_) ?_
  ·unfold j2
   simp_arith[el4]
   intro p5 h5
   have qa':=iL h5 (.lst (kn xs none (some (c:Int))))
   have el5:=qa' _ _ el4
   simp_arith[el5]
   intro p6 h6
   have qb':=iL h6 (.lst (kn xs (some (c:Int)) none))
   intro l7 h7
   have qc':=iL h7 (.lst [.ref p5,.ref p6])
   exact ⟨l7,rfl,⟨_,SqL.of iF⟩,hR' (p5,p6,l7,_) ⟨(qa'.trans qb').trans qc',(by rw [<- Ec (k:=c) (by lia)]; exact qc' _ _ (qb' _ _ iF)),(by rw [<- zE (k:=c) (by lia)]; exact qc' _ _ iF),iF⟩⟩
  rintro⟨pa,pb,lp,H10⟩ ⟨s9,epa,epb,elp⟩
  dsimp only at s9 epa epb elp
  replace hs4:=hs4.tups s9.tups
  replace el4:=s9 _ _ el4
  replace px4:=Prs.same s9 px4
  replace e_qa:=s9 _ _ e_qa
  replace e_qb:=s9 _ _ e_qb
  replace e_dh:=s9 _ _ e_dh
  replace e_tl:=s9 _ _ e_tl
  have elp':H10 lp=some (.lst [.ref pa,.ref pb]):=elp
  refine k7 (K:=K) (a:=lp) (xs:=[.ref pa,.ref pb]) (fun i' σ Hc=>∃w7 w8 w9 w10 dh' tl' qa' qb' m0 m1 cc zs T bs,σ=[some (.ref a),some (.int (0+(i:Int))),some (.ref st),some (.ref sl),some (.int (c:Int)),some (.ref dh'),some (.ref tl'),w7,w8,w9,w10,v11,v12,v13,v14]/\Same H10 Hc/\Hc dh'=some (.lst [.ref qa',.ref qb',.int cc])/\Hc qa'=some (.lst (m0.map V.int))/\Hc qb'=some (.lst (m1.map V.int))/\Hc tl'=some (.lst zs)/\Prs Hc zs T/\Acc (jN ss c) i' bs m0 m1 cc T) ⟨v7,v8,v9,v10,dh,tl,qa,qb,[],[],0,[],[],fun _=>0,rfl,fun _ _ q=>q,e_dh,e_qa,e_qb,e_tl,.nil,⟨.nil,.nil,.nil,.nil,rfl,rfl,fun k hk=>absurd hk (gm _)⟩⟩ (fun i' σ Hc _ ⟨_,_,_,_,_,_,_,_,_,_,_,_,_,_,_,z,_⟩=>SqL.of (z _ _ elp')) ?_ ?_
  ·rintro i' x σ Hc hx ⟨w7,w8,w9,w10,dh',tl',qa',qb',m0,m1,cc,zs,T,bs,rfl,sC,ed,eqa,eqb,et,pz,AC⟩
   have hi2:i'<2:=(ag.mp hx).1
   obtain⟨pg',ys,rfl,eg,pg⟩:∃pg' ys,x=V.ref pg'/\Hc pg'=some (.lst ys)/\Prs Hc ys (jN ss c i'):=by
    have:i'=0\/i'=1:=by lia
    rcases this with rfl|rfl
    ·cases hx
     exact⟨pa,_,rfl,sC _ _ epa,BA c (Prs.same sC px4)⟩
    ·cases hx
     exact⟨pb,_,rfl,sC _ _ epb,Bz c (Prs.same sC px4)⟩
   have gsub:=Ek ss c i'
   have aL:=D3 (c:=c) hcl hi2
   have aM:=uT (jN ss c) bs 0 i'
   have aM1:=uT (jN ss c) bs 1 i'
   have aT:=zA (jN ss c) i'
   rw [<- AC.p0.length_eq] at aM
   rw [<- AC.p1.length_eq] at aM1
   rw [<- AC.t] at aT
   have hzl:=aP pz
   simp only[kh,List.set_cons_zero,List.set_cons_succ]
   refine Fo fun Bd hBd=>?_
   walk_at "D"
   intro n0 hn0
   have q_n0:=iL hn0 (.lst [])
   have e_n0:upd Hc n0 (.lst []) n0=some (.lst []):=iF
   replace sC:=sC.trans q_n0
   replace ed:=q_n0 _ _ ed
   replace eqa:=q_n0 _ _ eqa
   replace eqb:=q_n0 _ _ eqb
   replace et:=q_n0 _ _ et
   replace pz:=Prs.same q_n0 pz
   replace eg:=q_n0 _ _ eg
   replace pg:=Prs.same q_n0 pg
   generalize upd Hc n0 (.lst [])=Hd at q_n0 e_n0 sC ed eqa eqb et pz eg pg
   clear q_n0 hn0
   refine⟨.lst ((jN ss c i').map j9),.lst [],(by rw[Rep];exact⟨pg',ys,rfl,eg,pg.reps⟩),(by rw[Rep];exact⟨n0,[],rfl,e_n0,rfl⟩),(by rw[ke];have:=qh (jN ss c i');lia),.inl ⟨_,_,rfl,rfl⟩,?_⟩
   rw[zI]
   walk_at "D"
   clear e_n0
   refine lr (fun cn=>?_) (fun cn=>?_)
   ·have hne:jN ss c i'≠[]:=by simpa using cn
    have SKg:=SK.sub gsub hne
    subst hBd
    refine iS fun R8 hR8=>?_
    walk_at "D"
    refine⟨pg',ys,jN ss c i',rfl,eg,pg,SKg,fun t9 a9 b9 k0 k1 bg He sE et9 ea9 eb9 hbg hlo pk0 pk1=>?_⟩
    replace sC:=sC.trans sE
    replace ed:=sE _ _ ed
    replace eqa:=sE _ _ eqa
    replace eqb:=sE _ _ eqb
    replace et:=sE _ _ et
    replace pz:=Prs.same sE pz
    replace eg:=sE _ _ eg
    replace pg:=Prs.same sE pg
    simp only[oi,ow,oh,kh,et9,List.length_cons,List.length_nil,Nat.reduceAdd,List.set_cons_zero,List.set_cons_succ,if_true,eq_self,true_and]
    have hk0:k0.length<=(jN ss c i').length:=by rw[pk0.length_eq];exact nP _ _ _ _
    have hk1:k1.length<=(jN ss c i').length:=by rw[pk1.length_eq];exact nP _ _ _ _
    clear et9
    subst hR8
    refine iS fun R8 hR8=>?_
    simp_arith[iW,ed,jw,eqa,ea9]
    refine⟨by rw[ae,ae];exact sZ (by lia),?_⟩
    intro u1 hu1
    have q_u1:=iL hu1 (.lst (m0.map V.int++k0.map V.int))
    have e_u1:upd He u1 (.lst (m0.map V.int++k0.map V.int)) u1=some (.lst (m0.map V.int++k0.map V.int)):=iF
    replace sC:=sC.trans q_u1
    replace ed:=q_u1 _ _ ed
    replace eqa:=q_u1 _ _ eqa
    replace eqb:=q_u1 _ _ eqb
    replace et:=q_u1 _ _ et
    replace pz:=Prs.same q_u1 pz
    replace eg:=q_u1 _ _ eg
    replace pg:=Prs.same q_u1 pg
    replace eb9:=q_u1 _ _ eb9
    generalize upd He u1 (.lst (m0.map V.int++k0.map V.int))=Hf at q_u1 e_u1 sC ed eqa eqb et pz eg pg eb9
    clear q_u1 hu1
    refine⟨u1,m0++k0,rfl,(by rw[ah];exact e_u1),(by rw[aH];lia),fun u2 q0 hu2 pq0 sq0=>?_⟩
    have q_u2:=iL hu2 (.lst (q0.map V.int))
    have e_u2:upd Hf u2 (.lst (q0.map V.int)) u2=some (.lst (q0.map V.int)):=iF
    replace sC:=sC.trans q_u2
    replace ed:=q_u2 _ _ ed
    replace eqa:=q_u2 _ _ eqa
    replace eqb:=q_u2 _ _ eqb
    replace et:=q_u2 _ _ et
    replace pz:=Prs.same q_u2 pz
    replace eg:=q_u2 _ _ eg
    replace pg:=Prs.same q_u2 pg
    replace eb9:=q_u2 _ _ eb9
    generalize upd Hf u2 (.lst (q0.map V.int))=Hg at q_u2 e_u2 sC ed eqa eqb et pz eg pg eb9
    clear q_u2 hu2
    simp_arith[iW,ed,jX,eqb,eb9]
    refine⟨by rw[ae,ae];exact sZ (by lia),?_⟩
    intro u3 hu3
    have q_u3:=iL hu3 (.lst (m1.map V.int++k1.map V.int))
    have e_u3:upd Hg u3 (.lst (m1.map V.int++k1.map V.int)) u3=some (.lst (m1.map V.int++k1.map V.int)):=iF
    replace sC:=sC.trans q_u3
    replace ed:=q_u3 _ _ ed
    replace eqa:=q_u3 _ _ eqa
    replace eqb:=q_u3 _ _ eqb
    replace et:=q_u3 _ _ et
    replace pz:=Prs.same q_u3 pz
    replace eg:=q_u3 _ _ eg
    replace pg:=Prs.same q_u3 pg
    replace e_u2:=q_u3 _ _ e_u2
    generalize upd Hg u3 (.lst (m1.map V.int++k1.map V.int))=Hh at q_u3 e_u3 sC ed eqa eqb et pz eg pg e_u2
    clear q_u3 hu3
    refine⟨u3,m1++k1,rfl,(by rw[ah];exact e_u3),(by rw[aH];lia),fun u4 q1 hu4 pq1 sq1=>?_⟩
    have q_u4:=iL hu4 (.lst (q1.map V.int))
    have e_u4:upd Hh u4 (.lst (q1.map V.int)) u4=some (.lst (q1.map V.int)):=iF
    replace sC:=sC.trans q_u4
    replace ed:=q_u4 _ _ ed
    replace eqa:=q_u4 _ _ eqa
    replace eqb:=q_u4 _ _ eqb
    replace et:=q_u4 _ _ et
    replace pz:=Prs.same q_u4 pz
    replace eg:=q_u4 _ _ eg
    replace pg:=Prs.same q_u4 pg
    replace e_u2:=q_u4 _ _ e_u2
    generalize upd Hh u4 (.lst (q1.map V.int))=Hi at q_u4 e_u4 sC ed eqa eqb et pz eg pg e_u2
    clear q_u4 hu4
    simp_arith[iW,ed,mD]
    intro u5 hu5
    have q_u5:=iL hu5 (.lst [.ref u2,.ref u4,.int (cc+2*jv (jN ss c i'))])
    have e_u5:upd Hi u5 (.lst [.ref u2,.ref u4,.int (cc+2*jv (jN ss c i'))]) u5=some (.lst [.ref u2,.ref u4,.int (cc+2*jv (jN ss c i'))]):=iF
    replace sC:=sC.trans q_u5
    replace ed:=q_u5 _ _ ed
    replace eqa:=q_u5 _ _ eqa
    replace eqb:=q_u5 _ _ eqb
    replace et:=q_u5 _ _ et
    replace pz:=Prs.same q_u5 pz
    replace eg:=q_u5 _ _ eg
    replace pg:=Prs.same q_u5 pg
    replace e_u2:=q_u5 _ _ e_u2
    replace e_u4:=q_u5 _ _ e_u4
    generalize upd Hi u5 (.lst [.ref u2,.ref u4,.int (cc+2*jv (jN ss c i'))])=Hj at q_u5 e_u5 sC ed eqa eqb et pz eg pg e_u2 e_u4
    clear q_u5 hu5
    subst hR8
    walk_at "D"
    refine⟨pg',ys,jN ss c i',rfl,eg,pg,SKg,fun tt zs2 Hk sK ftt ett pz2=>?_⟩
    replace sC:=sC.trans sK
    replace ed:=sK _ _ ed
    replace eqa:=sK _ _ eqa
    replace eqb:=sK _ _ eqb
    replace et:=sK _ _ et
    replace pz:=Prs.same sK pz
    replace eg:=sK _ _ eg
    replace pg:=Prs.same sK pg
    replace e_u2:=sK _ _ e_u2
    replace e_u4:=sK _ _ e_u4
    replace e_u5:=sK _ _ e_u5
    have hz2:=aP pz2
    rw[oQ]at hz2
    simp_arith[et,ett]
    refine⟨sZ (by lia),?_⟩
    intro u6 hu6
    have q_u6:=iL hu6 (.lst (zs++zs2))
    have e_u6:upd Hk u6 (.lst (zs++zs2)) u6=some (.lst (zs++zs2)):=iF
    replace sC:=sC.trans q_u6
    replace pz:=Prs.same q_u6 pz
    replace pz2:=Prs.same q_u6 pz2
    replace e_u2:=q_u6 _ _ e_u2
    replace e_u4:=q_u6 _ _ e_u4
    replace e_u5:=q_u6 _ _ e_u5
    generalize upd Hk u6 (.lst (zs++zs2))=Hl at q_u6 e_u6 sC pz pz2 e_u2 e_u4 e_u5
    clear q_u6 hu6
    obtain⟨bs',AC'⟩:=AC.step hbg hlo pk0 pk1 pq0 pq1 sq0 sq1
    exact⟨_,_,_,_,u5,u6,u2,u4,q0,q1,_,_,_,bs',rfl,sC,e_u5,e_u2,e_u4,e_u6,Bu pz pz2,AC'⟩
   ·have hne:jN ss c i'=[]:=by simpa using cn
    walk_at "D"
    exact⟨_,_,_,_,_,_,_,_,_,_,_,_,_,bs,rfl,sC,ed,eqa,eqb,et,pz,AC.skip hne⟩
  ·rintro σ Hc ⟨w7,w8,w9,w10,dh',tl',qa',qb',m0,m1,cc,zs,T,bs,rfl,sC,ed,eqa,eqb,et,pz,AC⟩
   refine(?_:R9 _ _ _)
   replace hs4:=hs4.tups sC.tups
   replace el4:=sC _ _ el4
   replace px4:=Prs.same sC px4
   clear sC s9 epa epb elp elp' e_qa e_qb e_dh e_tl
   have AC:Acc (jN ss c) 2 bs m0 m1 cc T:=AC
   obtain⟨tl40,tb⟩:=AC.ties SK
   have hzl:=aP pz
   subst hR9
   refine iS fun R9 hR9=>?_
   walk_at "D"
   refine⟨sl,xs,ss,1000000000001,rfl,el4,px4,by lia,fun q hq=>by have:=SK.b q hq;lia,fun l3 ys ps h3 py pm pw=>?_⟩
   have q_l3:=iL h3 (.lst ys)
   have e_l3:upd Hc l3 (.lst ys) l3=some (.lst ys):=iF
   replace hs4:=hs4.tups q_l3.tups
   replace el4:=q_l3 _ _ el4
   replace px4:=Prs.same q_l3 px4
   replace ed:=q_l3 _ _ ed
   replace eqa:=q_l3 _ _ eqa
   replace eqb:=q_l3 _ _ eqb
   replace et:=q_l3 _ _ et
   replace pz:=Prs.same q_l3 pz
   replace py:=Prs.same q_l3 py
   generalize upd Hc l3 (.lst ys)=Hd at q_l3 e_l3 hs4 el4 px4 ed eqa eqb et pz py
   clear q_l3 h3
   walk_at "D"
   refine⟨tl',zs,T,1000,rfl,et,pz,by lia,tb,fun l4 us ts h4 pu tm tw=>?_⟩
   have q_l4:=iL h4 (.lst us)
   have e_l4:upd Hd l4 (.lst us) l4=some (.lst us):=iF
   replace hs4:=hs4.tups q_l4.tups
   replace el4:=q_l4 _ _ el4
   replace px4:=Prs.same q_l4 px4
   replace ed:=q_l4 _ _ ed
   replace eqa:=q_l4 _ _ eqa
   replace eqb:=q_l4 _ _ eqb
   replace et:=q_l4 _ _ et
   replace pz:=Prs.same q_l4 pz
   replace py:=Prs.same q_l4 py
   replace pu:=Prs.same q_l4 pu
   replace e_l3:=q_l4 _ _ e_l3
   generalize upd Hd l4 (.lst us)=He at q_l4 e_l4 hs4 el4 px4 ed eqa eqb et pz py pu e_l3
   clear q_l4 h4
   walk_at "D"
   intro wt hwt
   have q_wt:=iL hwt (.tup [.ref l3,.ref l4])
   have e_wt:upd He wt (.tup [.ref l3,.ref l4]) wt=some (.tup [.ref l3,.ref l4]):=iF
   replace hs4:=hs4.tups q_wt.tups
   replace el4:=q_wt _ _ el4
   replace px4:=Prs.same q_wt px4
   replace ed:=q_wt _ _ ed
   replace eqa:=q_wt _ _ eqa
   replace eqb:=q_wt _ _ eqb
   replace et:=q_wt _ _ et
   replace pz:=Prs.same q_wt pz
   replace py:=Prs.same q_wt py
   replace pu:=Prs.same q_wt pu
   replace e_l3:=q_wt _ _ e_l3
   replace e_l4:=q_wt _ _ e_l4
   generalize upd He wt (.tup [.ref l3,.ref l4])=Hf at q_wt e_wt hs4 el4 px4 ed eqa eqb et pz py pu e_l3 e_l4
   clear q_wt hwt
   have W:jdc Hf (.ref wt) ps ts:=⟨wt,l3,l4,ys,us,rfl,e_wt,e_l3,e_l4,py,pu⟩
   clear e_wt e_l3 e_l4 py pu
   obtain⟨D,la,lb,p0,p1,ec⟩:=AC.duo SK pm pw tm tw
   have wk:=D.ok
   obtain⟨fl,lab⟩:=DQ ts wk.ends
   subst hR9
   refine iS fun R9 hR9=>?_
   walk_at "D"
   refine⟨.ref wt,ps,ts,rfl,W,fun v' H6 s6 W6=>?_⟩
   walk_at "D"
   refine⟨v',ps,ts,fl,kL (ss.take c) (ss.drop c),rfl,W6,wk,lab,D.col,fun t0 b1 b2 b3 us9 r nr nt H7 s7 n0 n1 n2 n3 n12 n13 n23 et0 em1 em2 el9 pu9 rst=>?_⟩
   obtain⟨e0,e1,es,dk,dl⟩:=D.all lab rst la lb p0 AC.s0 p1 AC.s1
   rw [<- e0] at em1
   rw [<- e1] at em2
   have s67:=s6.trans s7
   replace W:=W.same s67
   replace hs4:=hs4.tups s67.tups
   replace ed:=s67 _ _ ed
   replace eqa:=s67 _ _ eqa
   replace eqb:=s67 _ _ eqb
   simp only[oi,ow,oh,kh,et0,List.length_cons,List.length_nil,Nat.reduceAdd,List.set_cons_zero,List.set_cons_succ,if_true,eq_self,true_and]
   clear et0 s6 s7 s67 W6 n0 n1 n2 n3 n12 n13 n23 rst e0 e1 et pz el4 px4
   generalize kS (ju false r) ps.length ts ts.length=ds at es dk dl pu9
   subst hR9
   walk_at "D"
   intro z1 hz1
   have q_z1:=iL hz1 (.lst [.ref b1,.ref b2])
   have e_z1:upd H7 z1 (.lst [.ref b1,.ref b2]) z1=some (.lst [.ref b1,.ref b2]):=iF
   replace hs4:=hs4.tups q_z1.tups
   replace ed:=q_z1 _ _ ed
   replace eqa:=q_z1 _ _ eqa
   replace eqb:=q_z1 _ _ eqb
   replace em1:=q_z1 _ _ em1
   replace em2:=q_z1 _ _ em2
   replace el9:=q_z1 _ _ el9
   replace W:=W.same q_z1
   replace pu9:=k8 q_z1.tups pu9
   generalize upd H7 z1 (.lst [.ref b1,.ref b2])=Hg at q_z1 W pu9 e_z1 hs4 ed eqa eqb em1 em2 el9
   clear q_z1 hz1
   simp_arith[ed]
   intro z2 hz2
   have q_z2:=iL hz2 (.lst (kn [V.ref qa',.ref qb',.int cc] none (some 2)))
   have e_z2:upd Hg z2 (.lst (kn [V.ref qa',.ref qb',.int cc] none (some 2))) z2=some (.lst (kn [V.ref qa',.ref qb',.int cc] none (some 2))):=iF
   replace hs4:=hs4.tups q_z2.tups
   replace ed:=q_z2 _ _ ed
   replace eqa:=q_z2 _ _ eqa
   replace eqb:=q_z2 _ _ eqb
   replace em1:=q_z2 _ _ em1
   replace em2:=q_z2 _ _ em2
   replace el9:=q_z2 _ _ el9
   replace e_z1:=q_z2 _ _ e_z1
   replace W:=W.same q_z2
   replace pu9:=k8 q_z2.tups pu9
   generalize upd Hg z2 (.lst (kn [V.ref qa',.ref qb',.int cc] none (some 2)))=Hh at q_z2 W pu9 e_z2 hs4 ed eqa eqb em1 em2 el9 e_z1
   clear q_z2 hz2
   have e_z2:Hh z2=some (.lst [V.ref qa',.ref qb']):=e_z2
   refine⟨oU m0 m1,oU m0 m1,y3 e_z1 em1 em2,y3 e_z2 eqa eqb,Ef _ _,.inl ⟨_,_,rfl,rfl⟩,?_⟩
   rw[nN]
   walk_at "D"
   refine⟨.ref wt,ps,ts,b3,us9,ds,rfl,W,wk,el9,pu9,dk,by lia,F6 wk dk,fun Hi si=>?_⟩
   have ed9:=si _ _ ed
   simp_arith[iW,ed9,mD]
   have ee:(ds.map (·.2.2)).sum=cc:=by rw[es,ec]
   try rw[az ee]
   walk_at "D"
   exact⟨_,_,_,_,_,_,_,_,_,_,_,_,_,_,rfl,hs4.tups si.tups⟩
 ·rintro σ H1 ⟨v1,v2,v3,v4,v5,v6,v7,v8,v9,v10,v11,v12,v13,v14,rfl,hs1⟩
  subst hR
  walk_at "D"
  exact h _
end
end My
set_option autoImplicit true
namespace My
open PySem L2
abbrev aT(K:PySem.W.Frag)(x:Str)(f:Addr):Prop:=PySem.W.nsIn K mainGlobals x=some (some (.ref f))
abbrev zT(K:PySem.W.Frag)(x:Str):Prop:=PySem.W.nsIn K mainGlobals x=some none
abbrev kT(K:PySem.W.Frag)(f:Addr):Prop:=PySem.W.keepIn K (.ref f)=true
abbrev qT(K:PySem.W.Frag)(x q:Str)(st:Stmt)(f:Addr):Prop:=∃(oc:Value) (od:Option Addr) (sl:Array (Option Value)) (kV dc pm:Value) (an:Option Addr) (cd ct:Value),K.lookup f=some ⟨oc,od,.func (PySem.W.fnOf x q (nI st) (mS st) (ja st) .none kV dc pm an cd ct),sl⟩/\PySem.W.codeIn K cd q=true/\kT K f
abbrev dT(K:PySem.W.Frag)(x:Str)(st:Stmt):Prop:=∃f,aT K x f/\qT K x x st f
theorem dI{K:PySem.W.Frag}{x:Str}{st:Stmt}{f:Addr}{oc:Value}{od:Option Addr}{sl:Array (Option Value)}{kV dc pm:Value}{an:Option Addr}{cd ct:Value}(a:aT K x f)(l:K.lookup f=some ⟨oc,od,.func (PySem.W.fnOf x x (nI st) (mS st) (ja st) .none kV dc pm an cd ct),sl⟩)(c:PySem.W.codeIn K cd x=true)(k:kT K f):dT K x st:=⟨f,a,oc,od,sl,kV,dc,pm,an,cd,ct,l,c,k⟩
abbrev bT(x q:Str)(st:Stmt)(us:List Value)(bs:List (Str×Value)):Prop:=∀(kV dc pm:Value) (an:Option Addr) (cd ct:Value),bindArgs (PySem.W.fnOf x q (nI st) (mS st) (ja st) .none kV dc pm an cd ct) ⟨us,[]⟩=pure bs
theorem jG{K:PySem.W.Frag}{h:Heap}{mg:Str->Option Value}(X:K.In h)(G:h.Ns mainGlobals mg){x:Str}{st:Stmt}(a:dT K x st)(ps:List Str)(b:∀us:List Value,us.length=ps.length->bT x x st us (ps.zip us)):∃f fd,DefAt K mg x st ps f fd/\∀s us,us.length=ps.length->BindsTo s fd ⟨us,[]⟩ (ps.zip us):=by
 obtain⟨f,a,oc,od,sl,kV,dc,pm,an,cd,ct,l,g,k⟩:=a
 exact⟨f,_,⟨xS l g k,.all fun us h=>b us h _ _ _ _ _ _,cT X G a⟩,fun s us h=>.of_eq (b us h _ _ _ _ _ _)⟩
abbrev mT(K:PySem.W.Frag)(C:Addr)(x q:Str)(st:Stmt):Prop:=∃f,PySem.W.findIn K (.ref C) x=some (some (.ref f))/\PySem.W.isFn K (.ref f)=true/\qT K x q st f
theorem mI{K:PySem.W.Frag}{C:Addr}{x q:Str}{st:Stmt}{f:Addr}{oc:Value}{od:Option Addr}{sl:Array (Option Value)}{kV dc pm:Value}{an:Option Addr}{cd ct:Value}(a:PySem.W.findIn K (.ref C) x=some (some (.ref f)))(i:PySem.W.isFn K (.ref f)=true)(l:K.lookup f=some ⟨oc,od,.func (PySem.W.fnOf x q (nI st) (mS st) (ja st) .none kV dc pm an cd ct),sl⟩)(c:PySem.W.codeIn K cd q=true)(k:kT K f):mT K C x q st:=⟨f,a,i,oc,od,sl,kV,dc,pm,an,cd,ct,l,c,k⟩
theorem l9{K:PySem.W.Frag}{C:Addr}{x q:Str}{st:Stmt}(a:mT K C x q st)(ps:List Str)(b:∀us:List Value,us.length=ps.length->bT x q st us (ps.zip us)):∃f fd,MthAt K C x q st ps f fd:=by
 obtain⟨f,a,i,oc,od,sl,kV,dc,pm,an,cd,ct,l,g,k⟩:=a
 exact⟨f,_,xS l g k,.all fun us h=>b us h _ _ _ _ _ _,a,i,k⟩
theorem b1{x q:Str}{st:Stmt}{p0:Str}(h:∀u0,bT x q st [u0] [(p0,u0)]:=by exact fun _ _ _ _ _ _ _=>rfl):∀us:List Value,us.length=1->bT x q st us ([p0].zip us)|[u0],_=>h u0
theorem b2{x q:Str}{st:Stmt}{p0 p1:Str}(h:∀u0 u1,bT x q st [u0,u1] [(p0,u0),(p1,u1)]:=by exact fun _ _ _ _ _ _ _ _=>rfl):∀us:List Value,us.length=2->bT x q st us ([p0,p1].zip us)|[u0,u1],_=>h u0 u1
theorem b3{x q:Str}{st:Stmt}{p0 p1 p2:Str}(h:∀u0 u1 u2,bT x q st [u0,u1,u2] [(p0,u0),(p1,u1),(p2,u2)]:=by exact fun _ _ _ _ _ _ _ _ _=>rfl):∀us:List Value,us.length=3->bT x q st us ([p0,p1,p2].zip us)|[u0,u1,u2],_=>h u0 u1 u2
theorem b4{x q:Str}{st:Stmt}{p0 p1 p2 p3:Str}(h:∀u0 u1 u2 u3,bT x q st [u0,u1,u2,u3] [(p0,u0),(p1,u1),(p2,u2),(p3,u3)]:=by exact fun _ _ _ _ _ _ _ _ _ _=>rfl):∀us:List Value,us.length=4->bT x q st us ([p0,p1,p2,p3].zip us)|[u0,u1,u2,u3],_=>h u0 u1 u2 u3
theorem JG{l:PySem.W.OpenLaw}{w:World}{K:PySem.W.Frag}{h:Heap}{mg:Str->Option Value}{fa:Addr}(X:K.In h)(G:h.Ns mainGlobals mg)(hfa:mg "law"=some (.ref fa))(a0:dT K "is_whole" (iI 11))(a1:dT K "is_tuple_of" (iI 12))(a2:dT K "is_pair_of_wholes" (iI 13))(a3:dT K "is_list_up_to" (iI 14))(a4:dT K "marked" (iI 15))(a5:dT K "place_stands" (iI 21))(a6:dT K "tie_stands" (iI 22))(a7:dT K "look_at_places" (iI 23))(a8:dT K "look_at_ties" (iI 24))(a9:dT K "look_at_web" (iI 25))(a10:dT K "nears_in" (iI 26))(a11:dT K "met_from" (iI 28))(a12:dT K "levels_by" (iI 29))(a13:dT K "odd_ring_from" (iI 32))(a14:dT K "sides_of" (iI 34))(a15:dT K "net_across" (iI 36))(a16:dT K "spots_of" (iI 37))(a17:dT K "set_of_cut" (iI 38))(a18:dT K "even_dues" (iI 39))(a19:dT K "pairing_of" (iI 40))(a20:dT K "_law_own" (iI 42))(a21:dT K "_law_begun" (iI 43))(a22:dT K "_law_take" (iI 44))(a23:dT K "_law_string" (iI 45))(a24:dT K "_law_ahead" (iI 46))(a25:dT K "_law_due" (iI 47))(a26:dT K "_law_whole" (iI 48))(a27:dT K "_law_paid" (iI 49))(a28:dT K "_law_tied" (iI 50))(a29:dT K "law" (iI 51))(z_len:zT K "len")(z_isinstance:zT K "isinstance")(z_all:zT K "all")(z_min:zT K "min")(z_list:zT K "list")(z_dict:zT K "dict")(z_int:zT K "int")(z_bool:zT K "bool")(z_str:zT K "str")(z_tuple:zT K "tuple")(z_range:zT K "range")(z_enumerate:zT K "enumerate")(z_zip:zT K "zip")(z_max:zT K "max")(z_any:zT K "any")(z_sum:zT K "sum")(z_sorted:zT K "sorted")(z_set:zT K "set")(n_MOST_PLACES:PySem.W.nsIn K mainGlobals "MOST_PLACES"=some (some (.int 40 c1)))(n_MOST_TIES:PySem.W.nsIn K mainGlobals "MOST_TIES"=some (some (.int 120 c2)))(n_LAST_PLACE:PySem.W.nsIn K mainGlobals "LAST_PLACE"=some (some (.int 999 c3)))(n_MOST_PRICE:PySem.W.nsIn K mainGlobals "MOST_PRICE"=some (some (.int 1000000000000 c4)))(aN:aT K "Net" C_Net)(pgN:PySem.W.plainGet K C_Net Str.empty=true)(hdN:PySem.W.hasDictIn K C_Net=true)(poN:PySem.W.plainOver K C_Net=true)(saN:PySem.W.findIn K (.ref C_Net) "__setattr__"=some (some (.builtin "object.__setattr__")))(mkN:PySem.W.makesIn K C_Net=true)(kcN:kT K C_Net)(n_ways_from:PySem.W.findIn K (.ref C_Net) "ways_from"=some none)(n_heads:PySem.W.findIn K (.ref C_Net) "heads"=some none)(n_rooms:PySem.W.findIn K (.ref C_Net) "rooms"=some none)(nn_SOURCE:PySem.W.nsIn K mainGlobals "SOURCE"=some (some (.int 0 ee1)))(nn_SINK:PySem.W.nsIn K mainGlobals "SINK"=some (some (.int 1 ee2)))(nn_FIRST:PySem.W.nsIn K mainGlobals "FIRST"=some (some (.int 2 ee3)))(m0:mT K C_Net "__init__" "Net.__init__" (jo 9 0))(m1:mT K C_Net "put_way" "Net.put_way" (jo 9 1))(m2:mT K C_Net "fill" "Net.fill" (jo 9 2))(m3:mT K C_Net "shortest" "Net.shortest" (jo 9 3))(m4:mT K C_Net "spread" "Net.spread" (jo 9 4))(m5:mT K C_Net "push" "Net.push" (jo 9 5))(m6:mT K C_Net "flows" "Net.flows" (jo 9 6))(m7:mT K C_Net "reached_from" "Net.reached_from" (jo 9 7))(m8:mT K C_Net "reaching" "Net.reaching" (jo 9 8))
 :∃fd:FuncData,(∀(s:Shared) (v:Value),BindsTo s fd ⟨[v],[]⟩ [("_law_script",v)])/\∀base:Heap,K.In base->base.Ns mainGlobals mg->FnOk l.prog w K mg base iQ 9 fa fd ["_law_script"] (qR K):=by
 have B:Blt mg:=⟨bA X G z_len,bA X G z_isinstance,bA X G z_all,bA X G z_min,bA X G z_list,bA X G z_dict,bA X G z_int,bA X G z_bool,bA X G z_str,bA X G z_tuple,bA X G z_range,bA X G z_enumerate,bA X G z_zip,bA X G z_max,bA X G z_any,bA X G z_sum,bA X G z_sorted,bA X G z_set⟩
 have C:Cst mg c1 c2 c3 c4:=⟨cT X G n_MOST_PLACES,cT X G n_MOST_TIES,cT X G n_LAST_PLACE,cT X G n_MOST_PRICE⟩
 obtain⟨f0,d0,Dqj,_⟩:=jG X G a0 ["thing"] b1
 obtain⟨f1,d1,Dqd,_⟩:=jG X G a1 ["thing","many"] b2
 obtain⟨f2,d2,Dqc,_⟩:=jG X G a2 ["thing"] b1
 obtain⟨f3,d3,Dqb,_⟩:=jG X G a3 ["thing","most"] b2
 obtain⟨f4,d4,Dqf,_⟩:=jG X G a4 ["places"] b1
 obtain⟨f5,d5,Dq4,_⟩:=jG X G a5 ["thing","last","spent"] b3
 obtain⟨f6,d6,Dq6,_⟩:=jG X G a6 ["thing","last","prices"] b3
 obtain⟨f7,d7,Dqx,_⟩:=jG X G a7 ["places"] b1
 obtain⟨f8,d8,Dqy,_⟩:=jG X G a8 ["ties","prices"] b2
 obtain⟨f9,d9,Dqz,_⟩:=jG X G a9 ["thing"] b1
 obtain⟨f10,d10,Dq0,_⟩:=jG X G a10 ["web"] b1
 obtain⟨f11,d11,Dqg,_⟩:=jG X G a11 ["nears","place"] b2
 obtain⟨f12,d12,Dqe,_⟩:=jG X G a12 ["above"] b1
 obtain⟨f13,d13,Dq2,_⟩:=jG X G a13 ["nears","place"] b2
 obtain⟨f14,d14,Dq5,_⟩:=jG X G a14 ["web"] b1
 obtain⟨f15,d15,Dq1,_⟩:=jG X G a15 ["web","first"] b2
 obtain⟨f16,d16,Dqh,_⟩:=jG X G a16 ["web"] b1
 obtain⟨f17,d17,Dql,_⟩:=jG X G a17 ["web","first","near_source"] b3
 obtain⟨f18,d18,Dqp,_⟩:=jG X G a18 ["web","flows"] b2
 obtain⟨f19,d19,Dq3,_⟩:=jG X G a19 ["web"] b1
 obtain⟨f20,d20,Dqs,_⟩:=jG X G a20 ["_law_web"] b1
 obtain⟨f21,d21,Dqq,_⟩:=jG X G a21 ["_law_script","_law_k"] b2
 obtain⟨f22,d22,Dqa,_⟩:=jG X G a22 ["_law_state","_law_many"] b2
 obtain⟨f23,d23,Dqu,_⟩:=jG X G a23 ["_law_state"] b1
 obtain⟨f24,d24,Dqk,_⟩:=jG X G a24 ["_law_string_here"] b1
 obtain⟨f25,d25,Dqr,_⟩:=jG X G a25 ["_law_string_here"] b1
 obtain⟨f26,d26,Dqw,_⟩:=jG X G a26 ["_law_thing"] b1
 obtain⟨f27,d27,Dqt,_⟩:=jG X G a27 ["_law_web","_law_dues"] b2
 obtain⟨f28,d28,Dqv,_⟩:=jG X G a28 ["_law_string_here"] b1
 obtain⟨f29,d29,Dzd,bl⟩:=jG X G a29 ["_law_script"] b1
 obtain⟨fm0,dm0,Dqo⟩:=l9 m0 ["self","many","arcs"] b3
 obtain⟨fm1,dm1,Dqm⟩:=l9 m1 ["self","tail","head","room"] b4
 obtain⟨fm2,dm2,Dq8⟩:=l9 m2 ["self","source","sink"] b3
 obtain⟨fm3,dm3,Dqn⟩:=l9 m3 ["self","source","sink"] b3
 obtain⟨fm4,dm4,Dqi⟩:=l9 m4 ["self","source"] b2
 obtain⟨fm5,dm5,Dza⟩:=l9 m5 ["self","trail"] b2
 obtain⟨fm6,dm6,Dq9⟩:=l9 m6 ["self"] b1
 obtain⟨fm7,dm7,Dzb⟩:=l9 m7 ["self","source"] b2
 obtain⟨fm8,dm8,Dzc⟩:=l9 m8 ["self","sink"] b2
 cases hfa.symm.trans Dzd.m
 refine⟨d29,fun s v=>bl s [v] rfl,fun base _ _=>?_⟩
 have C2:Cst2 mg ee1 ee2 ee3:=⟨cT X G nn_SOURCE,cT X G nn_SINK,cT X G nn_FIRST⟩
 have T:NetC K mg C_Net:=⟨⟨pgN,hdN,poN,saN⟩,n_ways_from,n_heads,n_rooms,cT X G aN⟩
 have MK:Mk K C_Net fm0:=⟨mkN,Dqo.m.at_,Dqo.m.fn,kcN⟩
 have Gqj:=Hy (P:=l.prog) (w:=w) (base:=base) B Dqj
 have Gqd:=IF (P:=l.prog) (w:=w) (base:=base) B Dqd
 have Gqc:=IT (P:=l.prog) (w:=w) (base:=base) B Dqc Dqd Gqd Dqj Gqj
 have Gqb:=IP (P:=l.prog) (w:=w) (base:=base) B Dqb
 have Gq4:=IK (P:=l.prog) (w:=w) (base:=base) B C Dq4 Dqc Gqc
 have Gq6:=Iy (P:=l.prog) (w:=w) (base:=base) B Dq6 Dqc Gqc
 have Gqx:=IS (P:=l.prog) (w:=w) (base:=base) B C Dqx Dqb Gqb Dq4 Gq4
 have Gqy:=IJ (P:=l.prog) (w:=w) (base:=base) B C Dqy Dqb Gqb Dq6 Gq6
 have Gqz:=IG (P:=l.prog) (w:=w) (base:=base) B Dqz Dqd Gqd Dqx Gqx Dqy Gqy
 have Gq0:=HM (P:=l.prog) (w:=w) (base:=base) B Dq0
 have Gqg:=HL (P:=l.prog) (w:=w) (base:=base) B Dqg
 have Gqe:=Im (P:=l.prog) (w:=w) (base:=base) B Dqe
 have Gq2:=IQ (P:=l.prog) (w:=w) (base:=base) B Dq2 Dqg Gqg Dqe Gqe
 have Gq5:=HQ (P:=l.prog) (w:=w) (base:=base) B Dq5 Dqz Gqz Dq0 Gq0 Dq2 Gq2 Dqe Gqe Dqg Gqg
 have Gqh:=HR (P:=l.prog) (w:=w) (base:=base) B Dqh C2
 have Gql:=Iw (P:=l.prog) (w:=w) (base:=base) B Dql
 have Gqp:=Ih (P:=l.prog) (w:=w) (base:=base) B Dqp
 have Gqs:=G8 (P:=l.prog) (w:=w) (base:=base) B Dqs
 have Gqq:=Ij (P:=l.prog) (w:=w) (base:=base) B Dqq
 have Gqk:=Ii (P:=l.prog) (w:=w) (base:=base) B Dqk
 have Gqr:=G7 (P:=l.prog) (w:=w) (base:=base) B Dqr Dqk Gqk
 have Gqw:=Il (P:=l.prog) (w:=w) (base:=base) B Dqw
 have Gqt:=Hz (P:=l.prog) (w:=w) (base:=base) B Dqt Dqw Gqw
 have Gqv:=HH (P:=l.prog) (w:=w) (base:=base) B Dqv
 have Gqa:=Ig (P:=l.prog) (w:=w) (base:=base) B Dqa
 have GI_marked:=G6 (P:=l.prog) (w:=w) (base:=base) B Dqf
 have Gqm:=G9 (P:=l.prog) (w:=w) (base:=base) B Dqm T
 have Gqi:=Gp (P:=l.prog) (w:=w) (base:=base) B Dqi T
 have Gza:=EB (P:=l.prog) (w:=w) (base:=base) B Dza T
 have Gq9:=Fz (P:=l.prog) (w:=w) (base:=base) B Dq9 T
 have Gzb:=IL (P:=l.prog) (w:=w) (base:=base) B Dzb Dqi Gqi T
 have Gzc:=HN (P:=l.prog) (w:=w) (base:=base) B Dzc T
 have Gqu:=Iq (P:=l.prog) (w:=w) (base:=base) B Dqu Dqa Gqa
 have Gqo:=EA (P:=l.prog) (w:=w) (base:=base) B Dqo Dqm Gqm T
 have Gqn:=HP (P:=l.prog) (w:=w) (base:=base) B Dqn Dqi Gqi T
 have Gq1:=Ir (P:=l.prog) (w:=w) (base:=base) B Dq1 Dqh Gqh Dqo Gqo T C2 MK
 have Gq8:=Ez (P:=l.prog) (w:=w) (base:=base) B Dq8 Dqn Gqn Dza Gza T
 have Gq3:=Iu (P:=l.prog) (w:=w) (base:=base) B Dq3 Dq5 Gq5 Dqf GI_marked Dqh Gqh Dq1 Gq1 Dq8 Gq8 Dzb Gzb Dzc Gzc Dql Gql Dq9 Gq9 Dqp Gqp T C2
 exact DC B Dzd Dqq Gqq Dqu Gqu Dqa Gqa Dqr Gqr Dqv Gqv Dqs Gqs Dq3 Gq3 Dqt Gqt
theorem Cc{l:PySem.W.OpenLaw}{q:Program}{loose:List Str}{XP:(Str->Option Value)->Heap->Prop}{YP:World->Heap->Prop}{d:DefRec}{K:Params->PySem.W.Frag}(hn:l.most=some 63)(hdf:d.params.defaults=[])
  (hY:∀(w:World) (h:Heap),YP w h->(K w.params).In h)
  (F:∀(w:World) (mg:Str->Option Value) (fa:Addr) (h:Heap),(K w.params).In h->h.Ns mainGlobals mg->mg d.name=some (.ref fa)->
   ∃fd:FuncData,(∀(s:Shared) (u:Value),BindsTo s fd ⟨[u],[]⟩ [("_law_script",u)])/\∀base:Heap,(K w.params).In base->base.Ns mainGlobals mg->FnOk l.prog w (K w.params) mg base iQ 9 fa fd ["_law_script"] (qR (K w.params))):
  PySem.W.WalkO q loose XP YP l.row.toRowW d [] (fun f vs=>PySem.call f vs):=
 L2.zy (n:=63) (k:=9) (x:="_law_script") (CX:=fun _=>iQ) (sp:=fun w=>qR (K w.params)) hn (by decide) hdf ⟨rfl,by decide,by decide,rfl⟩ hY F (fun _ _ a ns hl hO hS=>⟨a,ns,rfl,Scr.of hS hO,fun _=>rfl⟩) fun _ _ _ _ _ z=>z
end My
open PySem PySem.W PyProof.Rows
set_option maxRecDepth 100000 in
set_option maxHeartbeats 0 in
theorem PySem.Challenge.cw_touchall_k62_pairings_along_strings_holds : PySem.Challenge.rw_touchall_k62_pairings_along_strings.Holds := by
 refine MyHead ?_
 k_fill
 refine My.Cc (l:=PySem.Challenge.rw_touchall_k62_pairings_along_strings) rfl rfl (fun w h Y=>PySem.W.kIn_of Y) ?F
 case F =>
  intro w mg fa h KX G hmg
  refine' My.JG KX G hmg ?_ ?_ ?_ ?_ ?_ ?_ ?_ ?_ ?_ ?_ ?_ ?_ ?_ ?_ ?_ ?_ ?_ ?_ ?_ ?_ ?_ ?_ ?_ ?_ ?_ ?_ ?_ ?_ ?_ ?_ ?_ ?_ ?_ ?_ ?_ ?_ ?_ ?_ ?_ ?_ ?_ ?_ ?_ ?_ ?_ ?_ ?_ ?_ ?_ ?_ ?_ ?_ ?_ ?_ ?_ ?_ ?_ ?_ ?_ ?_ ?_ ?_ ?_ ?_ ?_ ?_ ?_ ?_ ?_ ?_ ?_ ?_ ?_ ?_
  any_goals first | k_is | ((first | refine' My.dI ?_ ?_ ?_ ?_ | refine' My.mI ?_ ?_ ?_ ?_ ?_) <;> first | k_is | (delta My.aT; k_is) | (delta My.kT; k_is) | skip) | (delta My.aT; k_is) | (delta My.kT; k_is) | (delta My.zT; k_is) | kernel_rfl | rfl
#print axioms PySem.Challenge.cw_touchall_k62_pairings_along_strings_holds
