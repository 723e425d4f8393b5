import PyProof.Rows.All
import Wide.All
import OpenK.AllK
import Wide.FinOn
import Lean
import PyProof.EqAt
import PyProof.EqKinds
import PyProof.TupleCall
import PyProof.NeKinds
import PyProof.NeData
import PySem.Challenge.RW_touchall_k60_pairings_pay
import PyProof.Rows.SortRuns
import PyProof.Rows.SortShell
import KE.KSortTup
import PyProof.Rows.SumAny
import PyProof.DictWalks
import PyProof.DictUpdate
import KE.KDictList
import PyProof.AutoSeq1
import PyProof.StationsW
import PyProof.ExcInit
import PyProof.InstStoreFacts
import PyProof.NsDelKeeps
import PyProof.RulesAs
import PyProof.ExcAttrAll.ValueError
import KE.KIsAll
import PyProof.Rows.SetFrom
import PyProof.SetRoads
import PyProof.SetKind
section
open PySem PySem.W PyProof.Rows
set_option Elab.async false
set_option maxRecDepth 100000
set_option maxHeartbeats 0
namespace PySem.W.Fast
theorem tw4895031271857355397:True:=⟨⟩
theorem tw2991791928307042539:True:=⟨⟩
theorem tw14781562103584300300:True:=⟨⟩
theorem tw15115611200341931661:True:=⟨⟩
theorem tw4936925503692193262:True:=⟨⟩
theorem tw9877442084512062927:True:=⟨⟩
theorem tw16599119404929089777:True:=⟨⟩
theorem tw280475905095942100:True:=⟨⟩
theorem tw9219120209645443157:True:=⟨⟩
theorem tw17883986908372840214:True:=⟨⟩
theorem tw9627907853633374296:True:=⟨⟩
theorem tw14682848563316377055:True:=⟨⟩
theorem tw16575610960934399384:True:=⟨⟩
theorem tw12508225044383264191:True:=⟨⟩
theorem tw4614079493074435273:True:=⟨⟩
theorem tw5729776457698541901:True:=⟨⟩
theorem tw7625523903720950802:True:=⟨⟩
theorem tw13527872405176336012:True:=⟨⟩
theorem tw5103485604028916769:True:=⟨⟩
theorem tw6362411546396139974:True:=⟨⟩
theorem tw13557064101490781197:True:=⟨⟩
theorem tw18320896753210491444:True:=⟨⟩
theorem tw13569509383360899128:True:=⟨⟩
theorem tw14508702681240927338:True:=⟨⟩
theorem tw17658068361143100475:True:=⟨⟩
theorem tw4279476487421269338:True:=⟨⟩
theorem tw17594760211624526283:True:=⟨⟩
theorem tw9857830821546525648:True:=⟨⟩
theorem tw18053077524576164845:True:=⟨⟩
theorem tw2882356951737927585:True:=⟨⟩
theorem tw17507916543043632276:True:=⟨⟩
theorem tw15500006721023040547:True:=⟨⟩
theorem tw4014273260406839204:True:=⟨⟩
theorem tw14172657290863477674:True:=⟨⟩
theorem tw8297966634746096414:True:=⟨⟩
theorem tw6670132038723899214:True:=⟨⟩
theorem tw9947724475003619674:True:=⟨⟩
theorem tw17135590481203170121:True:=⟨⟩
theorem tw7482920708577278718:True:=⟨⟩
theorem tw16621345285488354935:True:=⟨⟩
theorem tw600212407440205806:True:=⟨⟩
theorem tw12145190026016965121:True:=⟨⟩
theorem tw16134669214637943945:True:=⟨⟩
theorem tw7007092725283629287:True:=⟨⟩
theorem tw5875658566950336651:True:=⟨⟩
theorem tw530684274474814442:True:=⟨⟩
theorem tw14248016213943530440:True:=⟨⟩
theorem tw14566061343962206368:True:=⟨⟩
theorem tw14046072485561619853:True:=⟨⟩
theorem tw6049868058112198784:True:=⟨⟩
theorem tw9197129900319299892:True:=⟨⟩
theorem tw14079483211463739728:True:=⟨⟩
theorem tw13227656411800433115:True:=⟨⟩
theorem tw3202980715671287772:True:=⟨⟩
theorem tw11669262180485523366:True:=⟨⟩
theorem tw12964706684179383832:True:=⟨⟩
theorem tw15168232015531237972:True:=⟨⟩
theorem tw13189186031560189405:True:=⟨⟩
theorem tw14229602632353992099:True:=⟨⟩
theorem tw15227233571305852144:True:=⟨⟩
theorem tw11207535551202950041:True:=⟨⟩
theorem tw3804045619721632138:True:=⟨⟩
theorem tw3450192468778676572:True:=⟨⟩
theorem tw5300736341620111946:True:=⟨⟩
theorem tw6730875953044847916:True:=⟨⟩
theorem tw760989484626043395:True:=⟨⟩
theorem tw17164885772072472456:True:=⟨⟩
theorem tw7853399458379906777:True:=⟨⟩
theorem tw12855419698269193786:True:=⟨⟩
theorem tw1104488647094209902:True:=⟨⟩
theorem tw15690650966298527693:True:=⟨⟩
theorem tw13149991164589372472:True:=⟨⟩
theorem tw16556699998316864137:True:=⟨⟩
theorem tw4762995603375477503:True:=⟨⟩
theorem tw2363903611795592705:True:=⟨⟩
theorem tw9466367427336684335:True:=⟨⟩
theorem tw11647574858823915943:True:=⟨⟩
theorem tw8112447074107057508:True:=⟨⟩
theorem tw5954876327221452193:True:=⟨⟩
theorem tw6639290469552472542:True:=⟨⟩
theorem tw850951039455432525:True:=⟨⟩
theorem tw13651674943635200488:True:=⟨⟩
theorem tw9016929935483840578:True:=⟨⟩
theorem tw3902602399963370953:True:=⟨⟩
theorem tw14982153563136074336:True:=⟨⟩
theorem tw17748391171391791682:True:=⟨⟩
theorem tw7129484964119345133:True:=⟨⟩
theorem tw17784476363750532300:True:=⟨⟩
theorem tw12992367483169920845:True:=⟨⟩
theorem tw18384717997926329468:True:=⟨⟩
theorem tw14978731467003240592:True:=⟨⟩
theorem tw12933365590964484303:True:=⟨⟩
theorem tw15583159890976612112:True:=⟨⟩
theorem tw13777678184960627923:True:=⟨⟩
theorem tw10606784113705308633:True:=⟨⟩
theorem tw14640572693217546273:True:=⟨⟩
theorem tw3436040953348231904:True:=⟨⟩
theorem tw13151865297690540629:True:=⟨⟩
theorem tw15240104693518809320:True:=⟨⟩
theorem tw9748736633980905991:True:=⟨⟩
theorem tw7776265952824830946:True:=⟨⟩
theorem tw17899455434026235383:True:=⟨⟩
theorem tw16731634629222179199:True:=⟨⟩
theorem tw3768600909522892029:True:=⟨⟩
theorem tw1104458783644820503:True:=⟨⟩
theorem tw2299995472670780312:True:=⟨⟩
theorem tw3173564464523249195:True:=⟨⟩
theorem tw4475783039337762679:True:=⟨⟩
theorem tw6513457511325554244:True:=⟨⟩
theorem tw17953295521274581375:True:=⟨⟩
theorem tw5741868628440793479:True:=⟨⟩
theorem tw1092231837839737871:True:=⟨⟩
theorem tw1946033789281374818:True:=⟨⟩
theorem tw4069687752174603861:True:=⟨⟩
theorem tw9643090989392201812:True:=⟨⟩
theorem tw12653114381597422123:True:=⟨⟩
theorem tw17001195906241442773:True:=⟨⟩
theorem tw5099301408519554050:True:=⟨⟩
theorem tw3800639849958628416:True:=⟨⟩
theorem tw9000492280638625789:True:=⟨⟩
theorem tw11867328985658093342:True:=⟨⟩
theorem tw4040663737483218468:True:=⟨⟩
theorem tw1748003047606840153:True:=⟨⟩
theorem tw7232841066116858783:True:=⟨⟩
theorem tw577511202878901248:True:=⟨⟩
theorem tw2374692894874826008:True:=⟨⟩
theorem tw12306747795182409104:True:=⟨⟩
theorem tw12838189731587688999:True:=⟨⟩
theorem tw12084875070278405943:True:=⟨⟩
theorem tw17982551050898188252:True:=⟨⟩
theorem tw3778727204222080899:True:=⟨⟩
theorem tw14483856630567087015:True:=⟨⟩
theorem tw6014219777646665041:True:=⟨⟩
theorem tw11435906062788071858:True:=⟨⟩
theorem tw9578137325174995177:True:=⟨⟩
theorem tw787864133665795934:True:=⟨⟩
theorem tw18368650237389215793:True:=⟨⟩
theorem tw13990930123094078712:True:=⟨⟩
theorem tw7264120421309663093:True:=⟨⟩
theorem tw8706593751649875096:True:=⟨⟩
theorem tw7552589387619456655:True:=⟨⟩
theorem tw11674071771355242830:True:=⟨⟩
theorem tw2812415958408709537:True:=⟨⟩
theorem tw2602146445750235360:True:=⟨⟩
theorem tw3386007157573418628:True:=⟨⟩
theorem tw360715681367275602:True:=⟨⟩
theorem tw12010976375034376571:True:=⟨⟩
theorem tw14756317111538670632:True:=⟨⟩
theorem tw7492884703717757881:True:=⟨⟩
theorem tw11247763399507659385:True:=⟨⟩
theorem tw18074669270637765023:True:=⟨⟩
theorem tw16435145116260540403:True:=⟨⟩
theorem tw6654934050380821986:True:=⟨⟩
theorem tw15514634696500728796:True:=⟨⟩
theorem tw8802154206927592950:True:=⟨⟩
theorem tw11033941645859556090:True:=⟨⟩
theorem tw885371844316833120:True:=⟨⟩
theorem tw163361006696384501:True:=⟨⟩
theorem tw10340114976711878602:True:=⟨⟩
theorem tw5202776660221476824:True:=⟨⟩
theorem tw7514863291714595196:True:=⟨⟩
theorem tw1204304298147611602:True:=⟨⟩
theorem tw4463166748007049108:True:=⟨⟩
theorem tw13810174693335883931:True:=⟨⟩
theorem tw6080368645660506305:True:=⟨⟩
theorem tw17341298701788093120:True:=⟨⟩
theorem tw12274256780947587003:True:=⟨⟩
theorem tw15118457964073289629:True:=⟨⟩
theorem tw15377678365041130219:True:=⟨⟩
theorem tw14826031857019004941:True:=⟨⟩
theorem tw15871576022070521126:True:=⟨⟩
theorem tw1412105097100734851:True:=⟨⟩
theorem tw12328668147688059386:True:=⟨⟩
theorem tw1459643596898847606:True:=⟨⟩
theorem tw12262444746191023002:True:=⟨⟩
theorem tw5774174942400694725:True:=⟨⟩
theorem tw5576238831551449830:True:=⟨⟩
theorem tw6584695149455985699:True:=⟨⟩
theorem tw598913056240112703:True:=⟨⟩
theorem tw18281609995975707841:True:=⟨⟩
theorem tw1349069014647357223:True:=⟨⟩
theorem tw9990162211652564711:True:=⟨⟩
theorem tw9762787882097571856:True:=⟨⟩
theorem tw9622471659420483719:True:=⟨⟩
theorem tw895549414950198869:True:=⟨⟩
theorem tw8549602738571025238:True:=⟨⟩
theorem tw7851787535860571123:True:=⟨⟩
theorem tw7698447048043514017:True:=⟨⟩
theorem tw648145590827737737:True:=⟨⟩
theorem tw6099802976542961457:True:=⟨⟩
theorem tw4421343633076843811:True:=⟨⟩
theorem tw17948796234568494333:True:=⟨⟩
theorem tw17457086080872000736:True:=⟨⟩
theorem tw1726813977947389158:True:=⟨⟩
theorem tw10485983645851997345:True:=⟨⟩
theorem tw11550877504187698619:True:=⟨⟩
theorem tw9482120283554068594:True:=⟨⟩
theorem tw6542929942557814982:True:=⟨⟩
theorem tw6512370430324665260:True:=⟨⟩
theorem tw12308534206943208666:True:=⟨⟩
theorem tw3421753523302657214:True:=⟨⟩
end PySem.W.Fast
open_top MyHead for PySem.Challenge.rw_touchall_k60_pairings_pay
end
-- CHANGE: your row's module here, as the last of these rows
noncomputable section
def aa:=@PySem.wpAny_bind
def ae:=@List.length_map
def af:=@PySem.Heap.get?_push_of_some
def ag:=@List.mem_of_getElem?
def ah:=@List.getElem?_eq_some_iff
def ao:=@List.map_append
def aq:=@List.size_toArray
def au:=@Nat.le_refl
def av:=@PySem.wpAny_pure
def aw:=@List.map_cons
def ay:=@if_neg
def az:=@if_pos
def aA:=@List.getElem?_map
def aB:=@List.length_append
def aC:=@List.mem_singleton
def aD:=@decide_eq_true
def aE:=@List.mem_map
def aF:=@Nat.lt_of_succ_lt
def aG:=@Bool.false_eq_true
def aH:=@List.mem_cons_of_mem
def aI:=@PySem.Heap.lt_size
def aJ:=@PySem.Heap.get?_push_size
def aK:=@decide_eq_false
def aL:=@Option.some.inj
def aM:=@List.mem_append
def aO:=@PySem.Paired.length
def aP:=@List.mem_cons_self
def aQ:=@PySem.F.plainAttrs_list
def aR:=@List.take_length
def aS:=@List.length_take
def aU:=@List.mem_cons
def aV:=@List.mem_iff_getElem
def aW:=@List.mem_map_of_mem
def aX:=@Nat.ne_of_lt
def aY:=@Bool.false_ne_true
def aZ:=@PySem.PassesOwn.never
def bc:=@List.getD_eq_getElem?_getD
def bf:=@PySem.F.type_list_append
def bg:=@PySem.F.slot_list_append
def bh:=@List.mem_append_left
def bj:=@List.mem_append_right
def bo:=@Nat.le_trans
def bp:=@List.append_assoc
def bq:=@List.append_nil
def br:=@PySem.W.mg_none_of
def bt:=@Nat.lt_of_lt_of_le
def bu:=@List.length_filter_le
def bw:=@Nat.zero_le
def bx:=@PyProof.Rows.boot_isinstance
def bz:=@List.nodup_cons
def bA:=@List.getElem?_append_left
def bC:=@of_decide_eq_true
def bD:=@List.map_map
def bE:=@List.filter_cons
def bF:=@List.getElem?_eq_none
def bG:=@List.mem_filter
def bH:=@Int.le_refl
def bI:=@PySem.F.plain_min_loop
def bJ:=@List.pairwise_append
def bK:=@List.mem_range
def bL:=@PySem.Heap.get?_update_other
def bM:=@PyProof.Rows.wpS_bind
def bN:=@congrArg
def bO:=@beq_eq_false_iff_ne
def bP:=@PySem.wpAny_seqItems
def bQ:=@PySem.boot_len
def bR:=@List.getElem?_append_right
def bS:=@List.length_range
def bU:=@PyProof.Rows.boot_list
def bV:=@List.map_nil
def bX:=@PySem.wpAny_holding
def bY:=@PyProof.Rows.callWith_type1
def bZ:=@List.nodup_append
def cg:=@Option.map_eq_some_iff
def cq:=@Bool.and_eq_true
def cu:=@Classical.byContradiction
def cv:=@PySem.mem_of_lookup
def cw:=@List.pairwise_map
def cy:=@PySem.Heap.get?_update_self
def cz:=@Bool.not_true
def cA:=@decide_false
def cB:=@PySem.W.kia_one
def cC:=@PySem.wpAny_field
def cD:=@decide_true
def cE:=@Sum.inl.inj
def cG:=@PySem.Around.under_plainId
def cH:=@Nat.lt_irrefl
def cI:=@PySem.wpAny_newObj_type
def cJ:=@PyProof.Rows.wpS_pure
def cK:=@List.perm_append_comm
def cL:=@Array.getElem?_toList
def cM:=@PySem.wpAny_Call_Name_kw
def cN:=@PySem.wpAny_truthy_bool
def cO:=@Option.some.injEq
def cP:=@PySem.codeAny_builtin
def cQ:=@List.range_succ
def cR:=@Ne.symm
def cS:=@PySem.W.mg_of
def cT:=@PySem.wpAny_mono
def cU:=@List.filter_append
def cV:=@List.mem_iff_getElem?
def cW:=@decide_eq_true_eq
def cX:=@Nat.lt_succ_of_lt
def cY:=@PySem.plainId_quiet
def cZ:=@PySem.wpAny_call_entry
def c5:=@PySem.wpAny_callSpecial?_slot
def c6:=@PySem.wpAny_setField_rec
def c7:=@PySem.Calls.callWith_builtin
def c8:=@PySem.wpAny_passesOwn
def c9:=@Bool.eq_iff_iff
def da:=@PyProof.Rows.boot_int
def de:=@Nat.le_of_ble_eq_true
def df:=@PySem.wpAny_tryCatch
def dg:=@PySem.Heap.size_push
def dh:=@PySem.F.slot_tuple_iterator_next
def di:=@Bool.not_false
def dj:=@Nat.ne_of_gt
def dq:=@List.getElem_mem
def dt:=@PySem.F.called_set
def dw:=@List.pairwise_iff_getElem
def dy:=@List.length_erase_of_mem
def dA:=@List.filterMap_cons_some
def dC:=@PySem.F.slot_list_getattribute
def dD:=@List.sum_append
def dE:=@List.length_set
def dF:=@PySem.tupleKind_room_in1
def dG:=@Int.emod_lt_of_pos
def dH:=@PySem.Calls.spliced_cons
def dJ:=@PySem.wpAny_setState_of
def dM:=@PySem.wpAny_pyIter_list
def dO:=@PySem.F.entry_min_loop
def dP:=@PyProof.Rows.boot_dict
def dQ:=@List.take_of_length_le
def dU:=@List.length_pos_of_mem
def dW:=@List.ext_getElem?
def dX:=@PyProof.Rows.slot_tuple_getitem
def dY:=@PyProof.Rows.boot_sum
def dZ:=@List.Perm.append_left
def eA:=@PySem.wpAny_rule
def eC:=@List.length_drop
def eD:=@PySem.wpAny_letGo
def eF:=@Nat.le_succ
def eG:=@List.mem_erase_of_ne
def eI:=@Int.emod_nonneg
def eJ:=@List.getElem?_range
def eK:=@PySem.Heap.SameBut.update
def eL:=@PyProof.Rows.wpS_forRange
def eM:=@PySem.codeAny_mono
def eN:=@List.nodup_nil
def eO:=@List.filterMap_map
def eP:=@Bool.and_false
def eQ:=@Array.getElem?_eq_getElem
def eS:=@not_true_eq_false
def eT:=@Option.isSome_map
def eV:=@PySem.Calls.spliced_nil
def eX:=@PySem.wpAny_newList
def eY:=@PyProof.Rows.boot_sorted
def eZ:=@Option.isSome_iff_exists
def fb:=@Nat.lt_succ_iff_lt_or_eq
def fc:=@List.Pairwise.imp_of_mem
def ff:=@PySem.wpAny_forIn_list
def fg:=@PySem.wpAny_eqBool_int
def fh:=@beq_self_eq_true
def fi:=@PySem.F.plainAttrs_dict
def fj:=@PyProof.Rows.boot_tuple
def fk:=@Nat.le_add_right
def fm:=@List.getElem_inj
def fo:=@PyProof.Rows.F.plain_set_update_loop
def fq:=@PySem.wpAny_typeOf
def fv:=@PySem.wpAny_pyNext_list_item
def fw:=@PyProof.Rows.size_push'
def fA:=@PyProof.Rows.pairsOf_size
def fD:=@beq_iff_eq
def fE:=@Nat.zero_add
def fF:=@Nat.le_of_lt
def fG:=@Int.add_zero
def fH:=@PySem.wpAny_updateSeq
def fJ:=@PySem.wpAny_execs_nil
def fK:=@PySem.F.slot_zip_next
def fL:=@PySem.wpAny_pyNext_list_end
def fM:=@PySem.F.slot_dict_get
def fN:=@PyProof.Rows.boot_min
def fO:=@PySem.wpAny_updateSeq_pair
def fP:=@List.mem_of_mem_take
def fQ:=@PySem.Calls.evalArgs_plain
def fS:=@Array.size_map
def fT:=@Array.mem_toList_iff
def fU:=@PySem.putSet_of
def fV:=@PySem.W.plainGet_of
def fW:=@List.map_congr_left
def fX:=@PySem.wpAny_standAt
def fY:=@PySem.wpAny_onRaise
def fZ:=@PySem.wpAny_attempt
def gb:=@PySem.wpAny_pyIter_tuple
def gc:=@decide_eq_true_iff
def gf:=@PySem.W.callWith_K
def gg:=@Nat.lt_of_le_of_lt
def gh:=@Nat.add_right_comm
def gm:=@Int.natCast_nonneg
def gp:=@PySem.slot_list_getitem
def gq:=@PySem.call_meetsIn
def gu:=@bne_self_eq_false
def gv:=@Prod.ext
def gw:=@Nat.sub_self
def gx:=@Nat.lt_trichotomy
def gy:=@Nat.le_of_lt_succ
def gz:=@List.take_sublist
def gA:=@List.getElem_take
def gB:=@List.filter_congr
def gC:=@Int.zero_add
def gD:=@Int.le_trans
def gF:=@Int.le_of_lt
def gG:=@PySem.wpAny_isInstance
def gH:=@decide_eq_decide
def gI:=@PySem.W.kat_cons
def gJ:=@PyProof.Rows.callWith_builtin1
def gK:=@Nat.succ_ne_self
def gM:=@Nat.lt_succ_self
def gN:=@List.mem_flatMap
def gO:=@List.any_eq_true
def gP:=@List.all_eq_true
def gQ:=@Int.mul_le_mul_of_nonneg_right
def gR:=@PySem.wpAny_of_eq
def gS:=@PySem.sizeLine_eq
def gT:=@PySem.seqIndex_of
def gU:=@PyProof.Rows.mirror_perm
def gW:=@List.take_append_of_le_length
def gX:=@Int.mul_add
def gY:=@PySem.SeqAt.EqAt.same
def gZ:=@PySem.W.kat_yes
def g6:=@List.of_mem_zip
def g9:=@List.forIn_cons
def hG:=@PySem.F.args_tuple_iterator_next_1
def hJ:=@PySem.F.entry_tuple_iterator_next
def hU:=@Array.getD_eq_getD_getElem?
def hV:=@PyProof.Rows.Subscript_
def hX:=@PySem.W.kat_no
def hZ:=@List.Perm.refl
def h9:=@PySem.Calls.Name_function_global
def ic:=@Array.perm_iff_toList_perm
def ie:=@Array.getElem?_eq_some_iff
set_option Elab.async false
set_option linter.all false
set_option maxRecDepth 100000
theorem gE{α:Type}{l:List α}{i:Nat}(h:i<l.length):l[i]? =some l[i]:=List.getElem?_eq_getElem h
namespace L2
open PySem PySem.Spec PyProof.Rows
abbrev iq:=Sum Int Str
def mq:iq->Value->Bool
 | .inl k,v=>Value.isInt k v
 | .inr x,v=>Value.isStrOf x v
def C0(w:World):iq->Int
 | .inl k=>hashInt k
 | .inr x=>hashStr w x
theorem lz:∀{k:iq} {v:Value},mq k v=true->(∃i t,k=Sum.inl i/\v=Value.int i t)\/(∃x t,k=Sum.inr x/\v=Value.str x t)
 | .inl i,v,h=>by
  obtain⟨t,e⟩:=Value.isInt_shape (k:=i) (v:=v) h
  exact .inl ⟨i,t,rfl,e⟩
 | .inr x,v,h=>by
  obtain⟨t,e⟩:=Value.isStrOf_shape (x:=x) (v:=v) h
  exact .inr ⟨x,t,rfl,e⟩
theorem E7(i:Int)(t:Tok):mq (.inl i) (.int i t)=true:=by simp[mq,Value.isInt]
theorem E8(x:Str)(t:Tok):mq (.inr x) (.str x t)=true:=by simp[mq,Value.isStrOf]
theorem CZ(a b:Int):decide ((Sum.inl a:iq)=Sum.inl b)=(a==b):=by
 by_cases e:a=b
 ·subst e;simp
 ·have h:¬(Sum.inl a:iq)=Sum.inl b:=fun q=>e (cE q)
  rw[aK h]
  exact(bO.mpr e).symm
theorem CV(a b:Str):decide ((Sum.inr a:iq)=Sum.inr b)=decide (a=b):=by
 by_cases e:a=b
 ·subst e;simp
 ·have h:¬(Sum.inr a:iq)=Sum.inr b:=fun q=>e (Sum.inr.inj q)
  rw[aK h,aK e]
theorem CY(a:Int)(b:Str):decide ((Sum.inl a:iq)=Sum.inr b)=false:=aK (fun q=>nomatch q)
theorem CW(a:Str)(b:Int):decide ((Sum.inr a:iq)=Sum.inl b)=false:=aK (fun q=>nomatch q)
def jH(prog:Program)(w:World):PySem.KeyKind prog w iq where
 is:=mq
 hash:=C0 w
 inj:=fun v a b ha hb=>by
  rcases lz ha with⟨i,t,rfl,rfl⟩|⟨x,t,rfl,rfl⟩
  ·rcases lz hb with⟨j,u,rfl,e⟩|⟨y,u,rfl,e⟩
   ·injection e with e1 _;rw[e1]
   ·exact nomatch e
  ·rcases lz hb with⟨j,u,rfl,e⟩|⟨y,u,rfl,e⟩
   ·exact nomatch e
   ·injection e with e1 _;rw[e1]
 byValue:=fun k v h=>by
  rcases lz h with⟨i,t,rfl,rfl⟩|⟨x,t,rfl,rfl⟩<;>rfl
 pyHash:=fun hv h=>by
  rcases lz hv with⟨i,t,rfl,rfl⟩|⟨x,t,rfl,rfl⟩
  ·exact wpAny_pyHash_int h
  ·exact wpAny_pyHash_str h
 eqBool:=fun hu hv h=>by
  rcases lz hu with⟨i,t,rfl,rfl⟩|⟨x,t,rfl,rfl⟩
  ·rcases lz hv with⟨j,u,rfl,rfl⟩|⟨y,u,rfl,rfl⟩
   ·rw[CZ]at h;exact fg h
   ·rw[CY]at h;exact SeqAt.EqAt.int_str i t y u _ _ _ _ h
  ·rcases lz hv with⟨j,u,rfl,rfl⟩|⟨y,u,rfl,rfl⟩
   ·rw[CW]at h;exact SeqAt.EqAt.str_int x t j u _ _ _ _ h
   ·rw[CV]at h;exact wpAny_eqBool_str h
 «strs»:=fun k x t v h=>by
  rcases lz h with⟨i,u,rfl,e⟩|⟨y,u,rfl,e⟩
  ·exact nomatch e
  ·injection e with e1 _
   subst e1
   cases v<;>rfl
theorem F7(prog:Program)(w:World)(i:Int)(t:Tok):(jH prog w).is (.inl i) (.int i t)=true:=E7 i t
theorem F8(prog:Program)(w:World)(x:Str)(t:Tok):(jH prog w).is (.inr x) (.str x t)=true:=E8 x t
inductive V where
 |non|bl (b:Bool)|int (i:Int)|str (x:Str)|byt (b:Array UInt8)|flt (b:UInt64)|ref (a:Addr)|ty (n:String)
 deriving DecidableEq
def RelV:V->Value->Prop
 | .non,u=>u=Value.none
 | .bl b,u=>u=Value.bool b
 | .int i,u=>∃t,u=Value.int i t
 | .str x,u=>∃t,u=Value.str x t
 | .byt b,u=>∃t,u=Value.bytes b t
 | .flt b,u=>∃t,u=Value.float b t
 | .ref a,u=>u=Value.ref a
 | .ty n,u=>u=Value.type n
abbrev Vals:List V->List Value->Prop:=Paired RelV
theorem Vals.length{xs:List V}{us:List Value}(r:Vals xs us):xs.length=us.length:=aO r
theorem Vals.get:∀{xs:List V} {us:List Value} {i:Nat} {x:V},Vals xs us->xs[i]? =some x->∃u,us[i]? =some u/\RelV x u
 |_,_,_,_,.nil,e=>by simp at e
 |_,_,0,_,.cons r _,e=>by simp at e;subst e;exact⟨_,rfl,r⟩
 |_,_,i+1,x,.cons _ t,e=>by
  obtain⟨u,h1,h2⟩:=Vals.get (i:=i) (x:=x) t (by simpa using e)
  exact⟨u,by simpa using h1,h2⟩
theorem Vals.set{x:V}{u:Value}(r:RelV x u):∀{xs:List V} {us:List Value} (i:Nat),Vals xs us->Vals (xs.set i x) (us.set i u)
 |_,_,_,.nil=>.nil
 |_,_,0,.cons _ t=>.cons r t
 |_,_,i+1,.cons q t=>.cons q (Vals.set r i t)
theorem Vals.append:∀{xs ys:List V} {us ws:List Value},Vals xs us->Vals ys ws->Vals (xs++ys) (us++ws)
 |_,_,_,_,.nil,s=>s
 |_,_,_,_,.cons r t,s=>.cons r (Vals.append t s)
theorem Vals.take:∀{xs:List V} {us:List Value} (n:Nat),Vals xs us->Vals (xs.take n) (us.take n)
 |_,_,0,_=>.nil
 |_,_,_+1,.nil=>.nil
 |_,_,n+1,.cons r t=>.cons r (Vals.take n t)
theorem Vals.drop:∀{xs:List V} {us:List Value} (n:Nat),Vals xs us->Vals (xs.drop n) (us.drop n)
 |_,_,0,r=>r
 |_,_,_+1,.nil=>.nil
 |_,_,n+1,.cons _ t=>Vals.drop n t
def RelO:Option V->Option Value->Prop
 |some v,some u=>RelV v u
 |none,none=>True
 |_,_=>False
def KV{κ:Type}:List (κ×V)->List (κ×Value)->Prop:=Paired fun(p:κ×V) (q:κ×Value)=>p.1=q.1/\RelV p.2 q.2
def kV:iq->V
 | .inl i=>.int i
 | .inr x=>.str x
inductive HO where
 |lst (xs:List V)
 |tup (xs:List V)
 |dK (kvs:List (iq×V))|dT (kvs:List (List iq×V))
 |set (S:Int->Bool) (n:Nat)
 |ins (C dx:Addr) (fs:List (Str×V))
 |own (x:Addr)
 |xd (fs:List (Str×V))
 |met (f x:Addr)
 |rng (lo hi:Int)
 |frz (o:Obj) (u:HO)
 |tbl (ps:Array Value)
 |ext (φ:Heap->Prop)
abbrev Hp:=Addr->Option HO
def upd(H:Hp)(a:Addr)(o:HO):Hp:=fun b=>if b=a then some o else H b
theorem ij{H:Hp}{a:Addr}{o:HO}:upd H a o a=some o:=by unfold upd;rw[az rfl]
theorem ir{H:Hp}{a b:Addr}{o:HO}(h:b≠a):upd H a o b=H b:=by unfold upd;rw[ay h]
theorem qX{H:Hp}{a:Addr}{o u:HO}:upd (upd H a o) a u=upd H a u:=by
 funext b;unfold upd;split<;>rfl
theorem lD{H:Hp}{a b:Addr}{o u:HO}(h:H a=some o)(h':H b=some u)(d:o≠u):a≠b:=by
 intro e;subst e;rw[h]at h';exact d (aL h')
theorem iC{H:Hp}{a b:Addr}{o:HO}(h:H a=some o)(h':H b=none):a≠b:=by
 intro e;subst e;rw[h]at h';cases h'
section
variable(P:Program)(w:World)
def jbm(H:Hp)(h:Heap)(a:Addr):HO->Prop
 | .lst xs=>xs.length<=sizeLine/\∃(its:List Value) (n:Nat),Vals xs its/\h.get? a=some {cls:=.type "list",data:=.seq its.toArray n}
 | .tup xs=>xs.length<=sizeLine/\∃its:List Value,Vals xs its/\IsTup h a its.toArray
 | .dK kvs=>kvs.length<=sizeLine/\(a==sysModules)=false/\∃vs,KV kvs vs/\h.DictOf (jH P w) a vs
 | .dT kvs=>kvs.length<=sizeLine/\(a==sysModules)=false/\∃xs:List (List iq×Addr×Value),
   Paired (fun(p:List iq×V) (q:List iq×Addr×Value)=>p.1=q.1/\H q.2.1=some (.tup (p.1.map kV))/\RelV p.2 q.2.2) kvs xs/\
   ∃o es ep,h.get? a=some o/\o.ExactDict/\o.data= .dict es ep/\es.toList=xs.map (entryOfKey (tupleKind (jH P w)))/\(xs.map (·.1)).Nodup
 | .set S n=>h.SetOf (intKind P w) a S n
 | .ins C dx fs=>H dx=some (.own a)/\fs.length<=1000/\dx≠a/\h.get? a=some (PySem.W.instObj C dx)/\
   ∃mA,h.Ns1 dx mA/\(∀f,RelO (fs.lookup f) (mA f))/\PySem.Within mA (fs.map (·.1))
 | .own _=>∃o,h.get? a=some o
 | .xd fs=>∃mA,h.Ns1 a mA/\∀f,RelO (fs.lookup f) (mA f)
 | .rng lo hi=>∃t u v,h.get? a=some {cls:=.type "range",data:=.fields #[.int lo t,.int hi u,.int 1 v]}
 | .frz o u=>h.get? a=some o/\jbm H h a u
 | .tbl ps=>h.get? a=some {cls:=.none,data:=.fields ps}
 | .met f x=>h.get? a=some (PySem.W.methodObj (.ref f) (.ref x))
 | .ext φ=>φ h/\(∃o,h.get? a=some o)/\∀h1 h2:Heap,φ h1->(∀o,h1.get? a=some o->h2.get? a=some o)->φ h2
def HOk(H:Hp)(h:Heap):Prop:=∀a o,H a=some o->jbm P w H h a o
end
section
variable{P:Program}{w:World}{H H':Hp}{h h':Heap}{a:Addr}{o:HO}
theorem jbm.lt(x:jbm P w H h a o):a<h.objs.size:=by
 cases o with
 |lst xs=>obtain⟨_,_,_,_,e⟩:=x;exact aI e
 |tup xs=>obtain⟨_,_,_,p⟩:=x;exact p.lt
 |dK kvs=>obtain⟨_,_,_,_,o,_,_,e,_⟩:=x;exact aI e
 |dT kvs=>obtain⟨_,_,_,_,o,_,_,e,_⟩:=x;exact aI e
 |set S n=>obtain⟨o,_,_,_,e,_⟩:=x;exact aI e
 |ins C dx fs=>obtain⟨_,_,_,e,_⟩:=x;exact aI e
 |own y=>obtain⟨_,e⟩:=x;exact aI e
 |xd fs=>obtain⟨_,⟨_,_,_,e,_⟩,_⟩:=x;exact aI e
 |rng lo hi=>obtain⟨_,_,_,e⟩:=x;exact aI e
 |frz ob u=>obtain⟨e,_⟩:=x;exact aI e
 |tbl ps=>exact aI (show h.get? a=some _ from x)
 |met f y=>exact aI (show h.get? a=some _ from x)
 |ext φ=>obtain⟨_,⟨_,e⟩,_⟩:=x;exact aI e
theorem Paired.mapP{α β:Type}{F G:α->β->Prop}:∀{l₁:List α} {l₂:List β},Paired F l₁ l₂->(∀a b,F a b->G a b)->Paired G l₁ l₂
 |_,_,.nil,_=>.nil
 |_,_,.cons r t,f=>.cons (f _ _ r) (Paired.mapP t f)
theorem Paired.imp'{α β:Type}{F G:α->β->Prop}(f:∀a b,F a b->G a b){l₁:List α}{l₂:List β}(r:Paired F l₁ l₂):Paired G l₁ l₂:=Paired.mapP r f
theorem jbm.stay(x:jbm P w H h a o)(k:∀b u,(b=a\/H b=some (.own a))->h.get? b=some u->h'.get? b=some u)
  (ho:∀b,H b=some (.own a)->H' b=some (.own a)) (ht:∀b xs,H b=some (.tup xs)->H' b=some (.tup xs)):jbm P w H' h' a o:=by
 induction o with
 |lst xs=>obtain⟨z,its,n,r,e⟩:=x;exact⟨z,its,n,r,k _ _ (.inl rfl) e⟩
 |tup xs=>obtain⟨z,its,r,ob,e,c⟩:=x;exact⟨z,its,r,ob,k _ _ (.inl rfl) e,c⟩
 |dK kvs=>obtain⟨z,y,vs,r,ob,es,ep,e,c⟩:=x;exact⟨z,y,vs,r,ob,es,ep,k _ _ (.inl rfl) e,c⟩
 |dT kvs=>
  obtain⟨z,y,xs,r,ob,es,ep,e,c⟩:=x
  exact⟨z,y,xs,Paired.mapP r fun p q z=>⟨z.1,ht _ _ z.2.1,z.2.2⟩,ob,es,ep,k _ _ (.inl rfl) e,c⟩
 |set S n=>obtain⟨ob,es,ep,t,e,c⟩:=x;exact⟨ob,es,ep,t,k _ _ (.inl rfl) e,c⟩
 |ins C dx fs=>
  obtain⟨d,z,ne,e,mA,⟨od,es,ep,e2,c⟩,r⟩:=x
  exact⟨ho _ d,z,ne,k _ _ (.inl rfl) e,mA,⟨od,es,ep,k _ _ (.inr d) e2,c⟩,r⟩
 |own y=>obtain⟨ob,e⟩:=x;exact⟨ob,k _ _ (.inl rfl) e⟩
 |xd fs=>obtain⟨mA,⟨od,es,ep,e,c⟩,r⟩:=x;exact⟨mA,⟨od,es,ep,k _ _ (.inl rfl) e,c⟩,r⟩
 |rng lo hi=>obtain⟨t,u,v,e⟩:=x;exact⟨t,u,v,k _ _ (.inl rfl) e⟩
 |frz ob u ih=>obtain⟨e,q⟩:=x;exact⟨k _ _ (.inl rfl) e,ih q⟩
 |tbl ps=>
  have e:h.get? a=some {cls:=.none,data:=.fields ps}:=x
  show h'.get? a=some {cls:=.none,data:=.fields ps}
  exact k a _ (.inl rfl) e
 |met f y=>
  have e:h.get? a=some (PySem.W.methodObj (.ref f) (.ref y)):=x
  show h'.get? a=some (PySem.W.methodObj (.ref f) (.ref y))
  exact k a _ (.inl rfl) e
 |ext φ=>obtain⟨p,⟨o,e⟩,st⟩:=x;exact⟨st _ _ p fun o q=>k _ _ (.inl rfl) q,⟨o,k _ _ (.inl rfl) e⟩,st⟩
theorem HOk.lt(x:HOk P w H h)(e:H a=some o):a<h.objs.size:=(x a o e).lt
theorem HOk.fresh(x:HOk P w H h)(e:h.objs.size<=a):H a=none:=by
 cases q:H a with
 |none=>rfl
 |some u=>exact absurd (bt (x.lt q) e) (cH _)
theorem HOk.kept(x:HOk P w H h)(k:∀b u,h.get? b=some u->h'.get? b=some u):HOk P w H h':=fun a o e=>
 (x a o e).stay (fun b u _ q=>k b u q) (fun _ q=>q) fun _ _ q=>q
theorem HOk.laid(x:HOk P w H h)(k:∀b u,h.get? b=some u->h'.get? b=some u)(hp:h.objs.size<=a)(new:jbm P w (upd H a o) h' a o):HOk P w (upd H a o) h':=fun b u e=>by
 have hn:=x.fresh hp
 by_cases hb:b=a
 ·subst hb;rw[ij]at e;cases e;exact new
 ·rw[ir hb]at e
  exact(x b u e).stay (fun c v _ q=>k c v q) (fun c q=>by rw[ir (iC q hn)];exact q) fun c xs q=>by rw[ir (iC q hn)];exact q
end
def Rd(H:Hp)(a:Addr)(u:HO):Prop:=H a=some u\/∃o,H a=some (.frz o u)
theorem Rd.of{H:Hp}{a:Addr}{u:HO}(h:H a=some u):Rd H a u:=.inl h
theorem Rd.ok{P:Program}{w:World}{H:Hp}{h:Heap}{a:Addr}{u:HO}(r:Rd H a u)(x:HOk P w H h):jbm P w H h a u:=by
 rcases r with r|⟨o,r⟩
 ·exact x a u r
 ·obtain⟨_,q⟩:=x a _ r
  exact q
def pQ:Option HO->Prop
 |some (.lst _)=>True
 |some (.dK _)=>True
 |some (.dT _)=>True
 |some (.set _ _)=>True
 |some (.ins _ _ _)=>True
 |some (.ext _)=>True
 |_=>False
section
variable{P:Program}{w:World}{H:Hp}{h h':Heap}{x e:Addr}{o':HO}
theorem HOk.write(ok:HOk P w H h)(mu:pQ (H x))(he:e=x\/H e=some (.own x))(k:∀b u,b≠e->h.get? b=some u->h'.get? b=some u)(heo:∃u,h'.get? e=some u)
  (new:jbm P w (upd H x o') h' x o'):HOk P w (upd H x o') h':=fun b u q=>by
 have nown:∀c y,H c=some (.own y)->c≠x:=fun c y r z=>by subst z;rw[r]at mu;exact mu
 have ntup:∀c xs,H c=some (.tup xs)->c≠x:=fun c xs r z=>by subst z;rw[r]at mu;exact mu
 by_cases hb:b=x
 ·subst hb;rw[ij]at q;cases q;exact new
 ·rw[ir hb]at q
  by_cases hbe:b=e
  ·have q':H b=some (.own x):=by
    rcases he with z|z
    ·exact absurd (hbe.trans z) hb
    ·rw[hbe];exact z
   rw[q]at q';cases q'
   obtain⟨v,hv⟩:=heo
   exact⟨v,by rw[hbe];exact hv⟩
  ·refine(ok b u q).stay (fun c v hc r=>k c v ?_ r) (fun c r=>by rw[ir (nown c b r)];exact r) fun c xs r=>by rw[ir (ntup c xs r)];exact r
   rcases hc with rfl|hc
   ·exact hbe
   ·rintro rfl
    rcases he with z|z
    ·exact nown c b hc z
    ·rw[hc]at z;cases z;exact hb rfl
end
structure Un(fs ex:List Addr)(H H':Hp)(h h':Heap):Prop where
 keep:∀b o,h.get? b=some o->H b=none->b∉fs->b∉ex->h'.get? b=some o
 slot:∀b o,h.get? b=some o->H b=none->b∈fs->b∉ex->∃sl,h'.get? b=some {o with slots:=sl}
 free:∀b o,h.get? b=some o->H b=none->b∉ex->H' b=none
 there:∀b o,h.get? b=some o->b∉ex->∃o',h'.get? b=some o'
 tups:∀b xs,H b=some (.tup xs)->H' b=some (.tup xs)
 frzs:∀b o u,H b=some (.frz o u)->H' b=some (.frz o u)
 tbls:∀b ps,H b=some (.tbl ps)->∃more,H' b=some (.tbl (ps++more))
section
variable{fs fs' ex ex':List Addr}{H H1 H2:Hp}{h h1 h2 h':Heap}{a x e:Addr}{o:HO}
theorem Un.any(u:Un fs ex H H1 h h1){b:Addr}{ob:Obj}(q:h.get? b=some ob)(n:H b=none)(hx:b∉ex):∃sl,h1.get? b=some {ob with slots:=sl}:=by
 by_cases hb:b∈fs
 ·exact u.slot b ob q n hb hx
 ·exact⟨ob.slots,u.keep b ob q n hb hx⟩
theorem Un.trans(a:Un fs ex H H1 h h1)(b:Un fs ex H1 H2 h1 h2):Un fs ex H H2 h h2 where
 keep:=fun c ob q n hc hx=>b.keep c ob (a.keep c ob q n hc hx) (a.free c ob q n hx) hc hx
 slot:=fun c ob q n hc hx=>by
  obtain⟨sl,e1⟩:=a.slot c ob q n hc hx
  obtain⟨sl',e2⟩:=b.slot c _ e1 (a.free c ob q n hx) hc hx
  exact⟨sl',e2⟩
 free:=fun c ob q n hx=>by
  obtain⟨o',e1⟩:=a.there c ob q hx
  exact b.free c o' e1 (a.free c ob q n hx) hx
 there:=fun c ob q hx=>by
  obtain⟨o',e1⟩:=a.there c ob q hx
  exact b.there c o' e1 hx
 tups:=fun c xs q=>b.tups c xs (a.tups c xs q)
 frzs:=fun c ob xs q=>b.frzs c ob xs (a.frzs c ob xs q)
 tbls:=fun c ps q=>by
  obtain⟨m1,e1⟩:=a.tbls c ps q
  obtain⟨m2,e2⟩:=b.tbls c _ e1
  exact⟨m1++m2,by rw[e2,Array.append_assoc]⟩
theorem Un.kept(k:∀b u,h.get? b=some u->h'.get? b=some u):Un fs ex H H h h':=
 ⟨fun b ob q _ _ _=>k b ob q,fun b ob q _ _ _=>⟨ob.slots,k b ob q⟩,fun _ _ _ n _=>n,fun b ob q _=>⟨ob,k b ob q⟩,fun _ _ q=>q,fun _ _ _ q=>q,fun _ ps q=>⟨#[],by rw[q];simp⟩⟩
theorem Un.refl:Un fs ex H H h h:=Un.kept fun _ _ q=>q
theorem Un.laid(k:∀b u,h.get? b=some u->h'.get? b=some u)(hp:h.objs.size<=a)(hn:H a=none):Un fs ex H (upd H a o) h h' where
 keep:=fun b u q _ _ _=>k b u q
 slot:=fun b u q _ _ _=>⟨u.slots,k b u q⟩
 free:=fun b u q n _=>by rw[ir (aX (bt (aI q) hp))];exact n
 there:=fun b u q _=>⟨u,k b u q⟩
 tups:=fun b xs q=>by rw[ir (iC q hn)];exact q
 frzs:=fun b u xs q=>by rw[ir (iC q hn)];exact q
 tbls:=fun b ps q=>⟨#[],by rw[ir (iC q hn),q];simp⟩
theorem Un.write(mu:pQ (H x))(he:e=x\/H e=some (.own x))(k:∀b u,b≠e->h.get? b=some u->h'.get? b=some u)(heo:∃u,h'.get? e=some u):Un fs ex H (upd H x o) h h':=by
 have hx:∀b,H b=none->b≠x:=fun b n z=>by subst z;rw[n]at mu;exact mu
 have hb:∀b,H b=none->b≠e:=fun b n z=>by
  subst z
  rcases he with r|r
  ·exact hx b n r
  ·rw[n]at r;cases r
 have hm:∀b u,H b=some u->¬pQ (some u)->b≠x:=fun b u q nm z=>by subst z;rw[q]at mu;exact nm mu
 refine⟨fun b u q n _ _=>k b u (hb b n) q,fun b u q n _ _=>⟨u.slots,k b u (hb b n) q⟩,fun b u q n _=>by rw[ir (hx b n)];exact n,fun b u q _=>?_,
  fun b xs q=>by rw[ir (hm b _ q fun z=>z)];exact q,fun b u xs q=>by rw[ir (hm b _ q fun z=>z)];exact q,fun b ps q=>⟨#[],by rw[ir (hm b _ q fun z=>z),q];simp⟩⟩
 by_cases hbe:b=e
 ·subst hbe;exact heo
 ·exact⟨u,k b u hbe q⟩
theorem Un.mono(u:Un fs ex H H1 h h1)(hs:∀b∈fs,b∈fs')(hx:∀b∈ex,b∈ex'):Un fs' ex' H H1 h h1:=
 ⟨fun b ob q n hb he=>u.keep b ob q n (fun z=>hb (hs b z)) fun z=>he (hx b z),fun _ _ q n _ he=>u.any q n fun z=>he (hx _ z),fun b ob q n he=>u.free b ob q n fun z=>he (hx b z),fun b ob q he=>u.there b ob q fun z=>he (hx b z),u.tups,u.frzs,u.tbls⟩
end
def pW(h:Heap)(H:Hp):List Addr:=(List.range h.objs.size).filter fun a=>(H a).isSome
def me(h:Heap)(H:Hp):Heap:=PySem.W.hideAll h (pW h H)
theorem E3(h:Heap)(H:Hp):(me h H).objs.size=h.objs.size:=PySem.W.hideAll_size _ _
theorem Ec{h:Heap}{H:Hp}{b:Addr}{o:Obj}(e:h.get? b=some o)(n:H b=none):(me h H).get? b=some o:=
 PySem.W.hideAll_get _ e fun hm=>by
  have q:(H b).isSome=true:=(bG.mp hm).2
  rw[n]at q;simp at q
theorem Dw{h:Heap}{H:Hp}{b:Addr}{o:Obj}(e:(me h H).get? b=some o):h.get? b=some o/\H b=none:=by
 have e':h.get? b=some o:=PySem.W.of_hideAll (pW h H) e
 refine⟨e',?_⟩
 cases q:H b with
 |none=>rfl
 |some x=>
  have hm:b∈pW h H:=bG.mpr ⟨bK.mpr (aI e'),by simp[q]⟩
  have z:(me h H).get? b=none:=PySem.W.hideAll_none (pW h H) hm
  rw[z]at e;cases e
structure Mod(K:PySem.W.Frag)(mg:Str->Option Value)(base:Heap):Prop where
 kin:K.In base
 glob:base.Ns mainGlobals mg
 blt:∃mb,base.Ns builtinsNs mb/\∀x:Str,x≠"__name__"->mb x=bootBuiltins x
 nolimit:base.NoLimit
structure Cx where
 prog:Program
 w:World
 K:PySem.W.Frag
 mg:Str->Option Value
 base:Heap
 A:Around
 N:List Str
 s₀:Shared
 H₀:Hp
 env:Env
 outer:List Env
 stack:List Env
 ex:List Addr
 fn:Str->Bool
 calm:Bool
 pn:List (Addr×Obj)
 xe:Value->Shared->Prop
def ko(l:List Env):List Addr:=l.filterMap (·.frame)
abbrev Cx.fs(X:Cx):List Addr:=ko X.outer
def pO(sc:Scope)(x:Str):Prop:=sc.names.lookup x=some .local\/sc.names.lookup x=some .cell\/sc.names.lookup x=some .free
def Loc(sc:Scope)(x:Str):Prop:=sc.names.lookup x=some .local\/sc.names.lookup x=some .cell
def Look(env:Env)(h:Heap)(m:Str->Option Value)(x:Str)(u:Value):Prop:=
 (env.kindOf x=some .local/\m x=some u)\/((env.kindOf x=some .cell\/env.kindOf x=some .free)/\∃c,env.cells.lookup x=some c/\h.IsCell c (some u))
structure Cx.Ok(X:Cx):Prop where
 mod:Mod X.K X.mg X.base
 kind:X.env.scope.kind= .function
 glob:X.env.globals=mainGlobals
 blt:X.env.builtins=builtinsNs
 above:X.s₀.heap.objs.size<=X.env.locals
 inj:∀x y c,X.env.cells.lookup x=some c->X.env.cells.lookup y=some c->x=y
 has:∀x,(X.env.kindOf x=some .cell\/X.env.kindOf x=some .free)->∃c,X.env.cells.lookup x=some c
 cab:∀x c,X.fn x=true->X.env.cells.lookup x=some c->X.s₀.heap.objs.size<=c
 hd:X.calm=true->X.A.handled=none
 frames:X.A.frames=some X.stack
 stk:X.stack=X.outer\/(X.stack=X.env::X.outer/\X.env.frame=some X.env.locals)
 exf:∀b∈X.ex,b≠X.env.locals/\∀x c,X.env.cells.lookup x=some c->c≠b
 bs:∀b o,X.base.get? b=some o->X.s₀.heap.get? b=some o/\X.H₀ b=none
 bsz:X.base.objs.size<=X.s₀.heap.objs.size
 noex:∀b o,X.base.get? b=some o->b∉X.ex
 exfs:∀b∈X.ex,b∉X.fs
 funs:X.s₀.heap.FunFrames X.base X.outer
 frf:∀b∈X.fs,X.H₀ b=none
structure Inv(X:Cx)(pins:List (Addr×Obj))(σ:List (Option V))(H:Hp)(s:Shared):Prop where
 ok:X.Ok
 os:s.os=X.s₀.os
 bare:AllBare s.gens
 base:Un X.fs X.ex X.H₀ H X.s₀.heap s.heap
 loc:∃m,s.heap.Ns X.env.locals m/\∀(i:Nat) (x:Str) (v:V),X.N[i]? =some x->σ[i]? =some (some v)->pO X.env.scope x->∃u,RelV v u/\Look X.env s.heap m x u
 cell:∀x c,X.env.cells.lookup x=some c->∃v,s.heap.IsCell c v
 free:H X.env.locals=none
 freeC:∀x c,X.env.cells.lookup x=some c->H c=none
 pin:∀p∈X.pn++pins,s.heap.get? p.1=some p.2/\H p.1=none/\p.1≠X.env.locals/\p.1∉X.fs/\∀v,p.2.data≠ .cell v
 hok:HOk X.prog X.w H s.heap
 len:σ.length=X.N.length
section
variable{X:Cx}{pins:List (Addr×Obj)}{σ:List (Option V)}{H H':Hp}{s:Shared}{h':Heap}
theorem Cx.Ok.nofr(ok:X.Ok){b:Addr}{o:Obj}(e:X.base.get? b=some o):b∉X.fs:=fun hb=>by
 have:=(ok.funs.mem hb).1
 rw[e]at this;cases this
theorem Inv.bs(I:Inv X pins σ H s):∀b o,X.base.get? b=some o->s.heap.get? b=some o/\H b=none:=fun b o e=>
 ⟨I.base.keep b o (I.ok.bs b o e).1 (I.ok.bs b o e).2 (I.ok.nofr e) (I.ok.noex b o e),I.base.free b o (I.ok.bs b o e).1 (I.ok.bs b o e).2 (I.ok.noex b o e)⟩
theorem Inv.bk(I:Inv X pins σ H s):∀b o,X.base.get? b=some o->s.heap.get? b=some o:=fun b o e=>(I.bs b o e).1
theorem Inv.mod(I:Inv X pins σ H s):Mod X.K X.mg X.base:=I.ok.mod
theorem Inv.kIn(I:Inv X pins σ H s):X.K.In s.heap:=I.ok.mod.kin.keeps I.bk
theorem Inv.fr(I:Inv X pins σ H s):∃m,Fr X.base X.env.locals s.heap m:=
 let⟨m,hn,_⟩:=I.loc
 ⟨m,hn,I.bk,bo I.ok.bsz I.ok.above⟩
theorem Inv.lt(I:Inv X pins σ H s):X.env.locals<s.heap.objs.size:=let⟨_,hn,_⟩:=I.loc;hn.lt
theorem Inv.sz(I:Inv X pins σ H s):X.s₀.heap.objs.size<=s.heap.objs.size:=bo I.ok.above (fF I.lt)
theorem Inv.nofs(I:Inv X pins σ H s){a:Addr}(h:s.heap.objs.size<=a):a∉X.fs:=fun hb=>by
 obtain⟨_,o,ho,_⟩:=I.ok.funs.mem hb
 exact absurd (bt (aI ho) (bo I.sz h)) (cH _)
theorem Inv.cne(I:Inv X pins σ H s):∀x c,X.env.cells.lookup x=some c->c≠X.env.locals:=fun x c e z=>by
 obtain⟨v,o,ho,hd⟩:=I.cell x c e
 obtain⟨m,⟨o',es,ep,ho',hd',_⟩,_⟩:=I.loc
 rw[z,ho']at ho;cases ho;rw[hd']at hd;cases hd
theorem Inv.funs(I:Inv X pins σ H s):s.heap.FunFrames X.base X.outer:=by
 have all:∀(l:List Env),(∀b∈ko l,b∈X.fs)->X.s₀.heap.FunFrames X.base l->s.heap.FunFrames X.base l:=by
  intro l
  induction l with
  |nil=>intro _ _;trivial
  |cons env r ih=>
   intro hs hl
   obtain⟨hk,⟨L,o,hf,hn,ho,hd⟩,hr⟩:=hl
   have hL:L∈X.fs:=hs L (by unfold ko;rw[List.filterMap_cons,hf];exact aP)
   obtain⟨sl,e⟩:=I.base.slot L o ho (I.ok.frf L hL) hL fun z=>I.ok.exfs L z hL
   exact⟨hk,⟨L,_,hf,hn,e,hd⟩,ih (fun b hb=>hs b (by unfold ko;rw[List.filterMap_cons,hf];exact aH _ hb)) hr⟩
 exact all X.outer (fun _ hb=>hb) I.ok.funs
theorem Inv.stack(I:Inv X pins σ H s):s.heap.FunFrames X.base X.stack:=by
 rcases I.ok.stk with e|⟨e,hf⟩
 ·rw[e];exact I.funs
 ·rw[e]
  obtain⟨m,hn,_⟩:=I.loc
  refine .cons (by rw[I.ok.kind];decide) hf hn ?_ I.funs
  exact Heap.get?_none_of_le (bo I.ok.bsz I.ok.above)
theorem Inv.stkSub(I:Inv X pins σ H s):∀b∈ko X.stack,b∈X.env.locals::X.fs:=fun b hb=>by
 rcases I.ok.stk with e|⟨e,hf⟩
 ·rw[e]at hb;exact aH _ hb
 ·rw[e]at hb
  unfold ko at hb
  rw[List.filterMap_cons,hf]at hb
  exact hb
theorem Inv.stkFree(I:Inv X pins σ H s):∀b∈ko X.stack,H b=none:=fun b hb=>by
 rcases aU.mp (I.stkSub b hb)with e|hb
 ·rw[e];exact I.free
 ·obtain⟨_,o,ho,_⟩:=I.ok.funs.mem hb
  exact I.base.free b o ho (I.ok.frf b hb) fun z=>I.ok.exfs b z hb
theorem Inv.step{g':Array GenState}{t':Nat}{d':Drawn}{ch:List Addr}(I:Inv X pins σ H s)
  (hch:∀b∈ch,(b∈X.ex\/X.s₀.heap.objs.size<=b)/\b≠X.env.locals/\(∀x c,X.env.cells.lookup x=some c->c≠b)/\∀p∈X.pn++pins,p.1≠b)
  (keep:∀b o,b≠X.env.locals->b∉X.fs->b∉ch->s.heap.get? b=some o->H b=none->h'.get? b=some o)
  (slot:∀b o,b≠X.env.locals->b∈X.fs->b∉ch->s.heap.get? b=some o->H b=none->∃sl,h'.get? b=some {o with slots:=sl}) (free:∀b o,b∉ch->s.heap.get? b=some o->H b=none->H' b=none)
  (there:∀b o,b∉ch->s.heap.get? b=some o->∃o',h'.get? b=some o')
  (tups:∀b xs,H b=some (.tup xs)->H' b=some (.tup xs)) (frzs:∀b o u,H b=some (.frz o u)->H' b=some (.frz o u)) (tbls:∀b ps,H b=some (.tbl ps)->∃more,H' b=some (.tbl (ps++more)))
  (ns:∀m,s.heap.Ns X.env.locals m->h'.Ns X.env.locals m) (hok:HOk X.prog X.w H' h') (hg:AllBare g'):
  Inv X pins σ H' {s with heap:=h',gens:=g',drawn:=d',toks:=t'}:=by
 have neL:∀b o,X.s₀.heap.get? b=some o->b≠X.env.locals:=fun b o e=>aX (bt (aI e) I.ok.above)
 have neC:∀b o,X.s₀.heap.get? b=some o->b∉X.ex->b∉ch:=fun b o e hx hb=>by
  rcases(hch b hb).1 with z|z
  ·exact hx z
  ·exact absurd (bt (aI e) z) (cH _)
 have cellK:∀x c,X.env.cells.lookup x=some c->∀v,s.heap.IsCell c v->h'.IsCell c v:=fun x c e v ⟨o,ho,hd⟩=>by
  have nch:c∉ch:=fun z=>(hch c z).2.2.1 x c e rfl
  by_cases hc:c∈X.fs
  ·obtain⟨sl,q⟩:=slot c o (I.cne x c e) hc nch ho (I.freeC x c e)
   exact⟨_,q,hd⟩
  ·exact⟨o,keep c o (I.cne x c e) hc nch ho (I.freeC x c e),hd⟩
 refine⟨I.ok,I.os,hg,⟨fun b o e n hb hx=>?_,fun b o e n hb hx=>?_,fun b o e n hx=>?_,fun b o e hx=>?_,fun b xs e=>tups b xs (I.base.tups b xs e),fun b o xs e=>frzs b o xs (I.base.frzs b o xs e),fun b ps e=>?_⟩,?_,fun x c e=>?_,?_,fun x c e=>?_,fun p hp=>?_,hok,I.len⟩
 ·exact keep b o (neL b o e) hb (neC b o e hx) (I.base.keep b o e n hb hx) (I.base.free b o e n hx)
 ·obtain⟨sl,e1⟩:=I.base.slot b o e n hb hx
  obtain⟨sl',e2⟩:=slot b _ (neL b o e) hb (neC b o e hx) e1 (I.base.free b o e n hx)
  exact⟨sl',e2⟩
 ·obtain⟨o',e1⟩:=I.base.there b o e hx
  exact free b o' (neC b o e hx) e1 (I.base.free b o e n hx)
 ·obtain⟨o',e1⟩:=I.base.there b o e hx
  exact there b o' (neC b o e hx) e1
 ·obtain⟨m1,e1⟩:=I.base.tbls b ps e
  obtain⟨m2,e2⟩:=tbls b _ e1
  exact⟨m1++m2,by rw[e2,Array.append_assoc]⟩
 ·obtain⟨m,hn,hl⟩:=I.loc
  refine⟨m,ns m hn,fun i x v e1 e2 e3=>?_⟩
  obtain⟨u,r,l⟩:=hl i x v e1 e2 e3
  refine⟨u,r,?_⟩
  rcases l with l|⟨k,c,e,z⟩
  ·exact .inl l
  ·exact .inr ⟨k,c,e,cellK x c e _ z⟩
 ·obtain⟨v,z⟩:=I.cell x c e
  exact⟨v,cellK x c e v z⟩
 ·obtain⟨m,⟨o,_,_,ho,_⟩,_⟩:=I.loc
  exact free _ o (fun z=>(hch _ z).2.1 rfl) ho I.free
 ·obtain⟨v,o,ho,hd⟩:=I.cell x c e
  exact free c o (fun z=>(hch c z).2.2.1 x c e rfl) ho (I.freeC x c e)
 ·obtain⟨e,n,ne,nf,d⟩:=I.pin p hp
  have nch:p.1∉ch:=fun z=>(hch p.1 z).2.2.2 p hp rfl
  exact⟨keep p.1 p.2 ne nf nch e n,free p.1 p.2 nch e n,ne,nf,d⟩
theorem Inv.un{t':Nat}(I:Inv X pins σ H s)(u:Un X.fs [] H H' s.heap h')(hok:HOk X.prog X.w H' h'):Inv X pins σ H' {s with heap:=h',toks:=t'}:=by
 obtain⟨m,⟨o,es,ep,ho,r⟩,_⟩:=id I.loc
 obtain⟨sl,hL⟩:=u.any ho I.free (by simp)
 exact I.step (g':=s.gens) (d':=s.drawn) (ch:=[]) (fun _ z=>nomatch z) (fun b o _ hb _ e n=>u.keep b o e n hb (by simp)) (fun b o _ hb _ e n=>u.slot b o e n hb (by simp)) (fun b o _ e n=>u.free b o e n (by simp)) (fun b o _ e=>u.there b o e (by simp)) u.tups u.frzs u.tbls (fun m' hm=>by
  obtain⟨o',es',ep',ho',r'⟩:=hm
  rw[ho]at ho';cases ho'
  exact⟨_,es',ep',hL,r'⟩) hok I.bare
theorem Inv.call{g':Array GenState}{t':Nat}{d':Drawn}{ch:List Addr}(I:Inv X pins σ H s)(u:Un (ko X.stack) ch H H' s.heap h')(hok:HOk X.prog X.w H' h')(hg:AllBare g')
  (hch:∀b∈ch,(b∈X.ex\/X.s₀.heap.objs.size<=b)/\b≠X.env.locals/\(∀x c,X.env.cells.lookup x=some c->c≠b)/\∀p∈X.pn++pins,p.1≠b):
  Inv X pins σ H' {s with heap:=h',gens:=g',drawn:=d',toks:=t'}:=by
 obtain⟨m,⟨o,es,ep,ho,r⟩,_⟩:=id I.loc
 obtain⟨sl,hL⟩:=u.any ho I.free fun z=>(hch _ z).2.1 rfl
 exact I.step (ch:=ch) hch (fun b o hL hb hc e n=>u.keep b o e n (fun z=>(aU.mp (I.stkSub b z)).elim hL hb) hc) (fun b o _ _ hc e n=>u.any e n hc) (fun b o hc e n=>u.free b o e n hc) (fun b o hc e=>u.there b o e hc) u.tups u.frzs u.tbls (fun m' hm=>by
  obtain⟨o',es',ep',ho',r'⟩:=hm
  rw[ho]at ho';cases ho'
  exact⟨_,es',ep',hL,r'⟩) hok hg
theorem Inv.turned{t':Nat}{it:Addr}(I:Inv X pins σ H s)(k:∀b o,b≠it->s.heap.get? b=some o->h'.get? b=some o)(hn:H it=none)(hL:it≠X.env.locals)
  (h1:it∈X.ex\/X.s₀.heap.objs.size<=it) (h2:∀x c,X.env.cells.lookup x=some c->c≠it) (h3:∀p∈X.pn++pins,p.1≠it):Inv X pins σ H {s with heap:=h',toks:=t'}:=by
 have nit:∀b u,H b=some u->b≠it:=fun b u e z=>by rw[z,hn]at e;cases e
 refine I.step (g':=s.gens) (d':=s.drawn) (ch:=[it]) (fun b hb=>?_) (fun b o _ _ hc e _=>k b o (fun z=>hc (by simp[z])) e) (fun b o _ _ hc e _=>⟨o.slots,k b o (fun z=>hc (by simp[z])) e⟩) (fun _ _ _ _ n=>n)
  (fun b o hc e=>⟨o,k b o (fun z=>hc (by simp[z])) e⟩) (fun _ _ e=>e) (fun _ _ _ e=>e) (fun b ps e=>⟨#[],by rw[e];simp⟩) (fun m hm=>?_) (fun b u e=>?_) I.bare
 ·have e:b=it:=by simpa using hb
  subst e
  exact⟨h1,hL,h2,h3⟩
 ·obtain⟨o,es,ep,ho,r⟩:=hm
  exact⟨o,es,ep,k _ o (cR hL) ho,r⟩
 ·refine(I.hok b u e).stay (fun c v hc q=>k c v ?_ q) (fun _ q=>q) fun _ _ q=>q
  rcases hc with z|z
  ·rw[z];exact nit b u e
  ·exact nit c _ z
theorem Inv.tok(I:Inv X pins σ H s)(t:Nat):Inv X pins σ H {s with toks:=t}:=I.un (h':=s.heap) (t':=t) Un.refl I.hok
theorem Inv.kept{t':Nat}(I:Inv X pins σ H s)(k:∀b u,s.heap.get? b=some u->h'.get? b=some u):Inv X pins σ H {s with heap:=h',toks:=t'}:=I.un (Un.kept k) (I.hok.kept k)
theorem Inv.laid{a:Addr}{o:HO}{t':Nat}(I:Inv X pins σ H s)(k:∀b u,s.heap.get? b=some u->h'.get? b=some u)(hp:s.heap.objs.size<=a)(new:jbm X.prog X.w (upd H a o) h' a o):
  Inv X pins σ (upd H a o) {s with heap:=h',toks:=t'}:=I.un (Un.laid k hp (I.hok.fresh hp)) (I.hok.laid k hp new)
theorem Inv.write{x e:Addr}{o:HO}{t':Nat}(I:Inv X pins σ H s)(mu:pQ (H x))(he:e=x\/H e=some (.own x))(k:∀b u,b≠e->s.heap.get? b=some u->h'.get? b=some u)(heo:∃u,h'.get? e=some u)
  (new:jbm X.prog X.w (upd H x o) h' x o):Inv X pins σ (upd H x o) {s with heap:=h',toks:=t'}:=I.un (Un.write mu he k heo) (I.hok.write mu he k heo new)
theorem Inv.pins_of{pins':List (Addr×Obj)}(I:Inv X pins σ H s)(h:∀p∈pins',s.heap.get? p.1=some p.2/\H p.1=none/\p.1≠X.env.locals/\p.1∉X.fs/\∀v,p.2.data≠ .cell v):Inv X pins' σ H s:=
 ⟨I.ok,I.os,I.bare,I.base,I.loc,I.cell,I.free,I.freeC,fun p hp=>(aM.mp hp).elim (fun z=>I.pin p (bh _ z)) (h p),I.hok,I.len⟩
theorem zr{N:List Str}(hN:N.Nodup){i j:Nat}{x:Str}(a:N[i]? =some x)(b:N[j]? =some x):i=j:=by
 obtain⟨h1,e1⟩:=ah.mp a
 obtain⟨h2,e2⟩:=ah.mp b
 exact(fm hN).mp (e1.trans e2.symm)
theorem Ai{M:Model}{A:Around}{E:Value->Shared->Prop}{i:Nat}{x:Str}{v:V}{u:Value}{Q:Unit->Shared->Prop}(I:Inv X pins σ H s)(hN:X.N.Nodup)(hi:X.N[i]? =some x)(hx:Loc X.env.scope x)(r:RelV v u)
  (h:∀s',Inv X pins (σ.set i (some v)) H s'->(∃a,Heap.SameBut a s.heap s'.heap/\(a=X.env.locals\/X.env.cells.lookup x=some a))->Q () s') (hf:X.fn x=true\/X.env.scope.names.lookup x=some .local:=by first|exact .inl rfl|exact .inr rfl|assumption):wpAny M A (storeName X.env x u) Q E s:=by
 obtain⟨m,hn,hl⟩:=id I.loc
 have hcls:(X.env.scope.kind== .class||(X.env.scope.kind== .module&&X.env.locals !=X.env.globals))=false:=by rw[I.ok.kind];rfl
 have hiσ:i<σ.length:=by rw[I.len];exact(ah.mp hi).1
 have cne:=I.cne
 have tracked:∀{a:Addr} {h':Heap},(∃o,s.heap.get? a=some o/\H a=none)->Heap.SameBut a s.heap h'->HOk X.prog X.w H h':=fun{a h'} ha hs b ob e=>by
  obtain⟨_,_,hfree⟩:=ha
  refine(I.hok b ob e).stay (fun c w' hc q=>(hs.2 c ?_).trans q) (fun _ q=>q) fun _ _ q=>q
  rintro rfl
  rcases hc with rfl|hc
  ·rw[hfree]at e;cases e
  ·rw[hfree]at hc;cases hc
 rcases hx with hk|hk
 ·refine wpAny_storeName_local hk hn (fun h' hn' hs=>?_) hcls
  obtain⟨oL,_,_,hoL,_⟩:=id hn
  refine h _ ⟨I.ok,I.os,I.bare,⟨fun b o e n hb hx=>?_,fun b o e n hb hx=>?_,I.base.free,fun b o e hx=>?_,I.base.tups,I.base.frzs,I.base.tbls⟩,⟨_,hn',fun j y v' e1 e2 e3=>?_⟩,fun y c e=>?_,I.free,I.freeC,fun p hp=>?_,tracked ⟨oL,hoL,I.free⟩ hs,by simpa using I.len⟩ ⟨_,hs,.inl rfl⟩
  ·exact(hs.2 b (aX (bt (aI e) I.ok.above))).trans (I.base.keep b o e n hb hx)
  ·obtain⟨sl,e1⟩:=I.base.slot b o e n hb hx
   exact⟨sl,(hs.2 b (aX (bt (aI e) I.ok.above))).trans e1⟩
  ·obtain⟨o',e1⟩:=I.base.there b o e hx
   exact⟨o',(hs.2 b (aX (bt (aI e) I.ok.above))).trans e1⟩
  ·by_cases hj:j=i
   ·subst hj
    rw[hi]at e1;cases e1
    rw[List.getElem?_set_self hiσ]at e2
    cases e2
    exact⟨u,r,.inl ⟨hk,by simp⟩⟩
   ·rw[List.getElem?_set_ne (cR hj)]at e2
    obtain⟨u',r',q⟩:=hl j y v' e1 e2 e3
    refine⟨u',r',?_⟩
    rcases q with⟨k,e⟩|⟨k,c,e,z⟩
    ·refine .inl ⟨k,?_⟩
     have:y≠x:=fun e=>hj (zr hN e1 (e▸hi))
     simp[this,e]
    ·exact .inr ⟨k,c,e,z.sameBut hs (cne y c e)⟩
  ·obtain⟨w',z⟩:=I.cell y c e
   exact⟨w',z.sameBut hs (cne y c e)⟩
  ·obtain⟨e,n,ne,nf,d⟩:=I.pin p hp
   exact⟨(hs.2 p.1 ne).trans e,n,ne,nf,d⟩
 ·have hfn:X.fn x=true:=by
   rcases hf with z|z
   ·exact z
   ·rw[z]at hk;cases hk
  obtain⟨c,hc⟩:=I.ok.has x (.inl hk)
  obtain⟨w',z⟩:=I.cell x c hc
  refine wpAny_storeName_cell I.ok.kind hk hc z (fun h' hc' hs=>?_)
  obtain⟨oc,hoc,hocd⟩:=id z
  refine h {s with heap:=h'} ⟨I.ok,I.os,I.bare,⟨fun b o e n hb hx=>?_,fun b o e n hb hx=>?_,I.base.free,fun b o e hx=>?_,I.base.tups,I.base.frzs,I.base.tbls⟩,⟨m,hn.sameBut hs (cR (cne x c hc)),fun j y v' e1 e2 e3=>?_⟩,fun y c' e=>?_,I.free,I.freeC,fun p hp=>?_,tracked ⟨oc,hoc,I.freeC x c hc⟩ hs,by simpa using I.len⟩ ⟨c,hs,.inr hc⟩
  ·exact(hs.2 b (aX (bt (aI e) (I.ok.cab x c hfn hc)))).trans (I.base.keep b o e n hb hx)
  ·obtain⟨sl,e1⟩:=I.base.slot b o e n hb hx
   exact⟨sl,(hs.2 b (aX (bt (aI e) (I.ok.cab x c hfn hc)))).trans e1⟩
  ·obtain⟨o',e1⟩:=I.base.there b o e hx
   exact⟨o',(hs.2 b (aX (bt (aI e) (I.ok.cab x c hfn hc)))).trans e1⟩
  ·by_cases hj:j=i
   ·subst hj
    rw[hi]at e1;cases e1
    rw[List.getElem?_set_self hiσ]at e2
    cases e2
    exact⟨u,r,.inr ⟨.inl hk,c,hc,hc'⟩⟩
   ·rw[List.getElem?_set_ne (cR hj)]at e2
    obtain⟨u',r',q⟩:=hl j y v' e1 e2 e3
    refine⟨u',r',?_⟩
    rcases q with q|⟨k,c',e,z'⟩
    ·exact .inl q
    ·refine .inr ⟨k,c',e,z'.sameBut hs ?_⟩
     rintro rfl
     exact hj (zr hN e1 (I.ok.inj _ _ _ e hc▸hi))
  ·by_cases hcc:c'=c
   ·subst hcc;exact⟨_,hc'⟩
   ·obtain⟨w2,z2⟩:=I.cell y c' e
    exact⟨w2,z2.sameBut hs hcc⟩
  ·obtain⟨e,n,ne,nf,d⟩:=I.pin p hp
   refine⟨(hs.2 p.1 ?_).trans e,n,ne,nf,d⟩
   intro q
   rw[q,hoc]at e
   have q':oc=p.2:=aL e
   exact d w' (by rw [<- q']; exact hocd)
theorem uO{M:Model}{A:Around}{E:Value->Shared->Prop}{i:Nat}{x:Str}{v:V}{u:Value}{Q:Unit->Shared->Prop}(I:Inv X pins σ H s)(hN:X.N.Nodup)(hi:X.N[i]? =some x)(hx:Loc X.env.scope x)(r:RelV v u)
  (h:∀s',Inv X pins (σ.set i (some v)) H s'->Q () s') (hf:X.fn x=true\/X.env.scope.names.lookup x=some .local:=by first|exact .inl rfl|exact .inr rfl|assumption):wpAny M A (storeName X.env x u) Q E s:=
 Ai I hN hi hx r (fun s' I' _=>h s' I') hf
theorem Inv.call'{s':Shared}{ch:List Addr}(I:Inv X pins σ H s)(ho:s'.os=s.os)(u:Un (ko X.stack) ch H H' s.heap s'.heap)(hok:HOk X.prog X.w H' s'.heap)(hg:AllBare s'.gens)
  (hch:∀b∈ch,(b∈X.ex\/X.s₀.heap.objs.size<=b)/\b≠X.env.locals/\(∀x c,X.env.cells.lookup x=some c->c≠b)/\∀p∈X.pn++pins,p.1≠b):Inv X pins σ H' s':=by
 obtain⟨h',g',d',t',o'⟩:=s'
 have e:o'=s.os:=ho
 subst e
 exact I.call (g':=g') (t':=t') (d':=d') u hok hg hch
end
abbrev XK:=Value->Option Addr->Hp->Prop
abbrev St:=List (Option V)
abbrev VK:=V->Hp->Prop
abbrev TE:=St->Hp->VK->Prop
abbrev TT:=St->Hp->(Bool->Hp->Prop)->Prop
abbrev TA:=St->Hp->(List V->Hp->Prop)->Prop
structure Ends where
 nx:St->Hp->Prop
 rt:VK
 bk:St->Hp->Prop:=fun _ _=>False
 ct:St->Hp->Prop:=fun _ _=>False
abbrev TS:=Ends->St->Hp->Prop
def EP(X:Cx)(pins:List (Addr×Obj))(σ:St)(Q:VK)(u:Value)(s':Shared):Prop:=∃v H',Inv X pins σ H' s'/\RelV v u/\Q v H'
def TP(X:Cx)(pins:List (Addr×Obj))(σ:St)(Q:Bool->Hp->Prop)(b:Bool)(s':Shared):Prop:=∃H',Inv X pins σ H' s'/\Q b H'
def AP(X:Cx)(pins:List (Addr×Obj))(σ:St)(Q:List V->Hp->Prop)(us:List Value)(s':Shared):Prop:=∃vs H',Inv X pins σ H' s'/\Vals vs us/\Q vs H'
def SP(X:Cx)(pins:List (Addr×Obj))(D:Ends)(f:Flow)(s':Shared):Prop:=
 match f with
 | .next=>∃σ' H',Inv X pins σ' H' s'/\D.nx σ' H'
 | .brk=>∃σ' H',Inv X pins σ' H' s'/\D.bk σ' H'
 | .cont=>∃σ' H',Inv X pins σ' H' s'/\D.ct σ' H'
 | .ret u=>∃v σ' H',Inv X pins σ' H' s'/\RelV v u/\D.rt v H'
def PE(X:Cx)(e:Expr)(t:TE):Prop:=
 ∀(pins:List (Addr×Obj)) (s:Shared) (σ:St) (H:Hp) (Q:VK),Inv X pins σ H s->t σ H Q->wpAny (model X.prog X.w) X.A (eval e X.env) (EP X pins σ Q) X.xe s
def PT(X:Cx)(e:Expr)(t:TT):Prop:=
 ∀(pins:List (Addr×Obj)) (s:Shared) (σ:St) (H:Hp) (Q:Bool->Hp->Prop),Inv X pins σ H s->t σ H Q->wpAny (model X.prog X.w) X.A (isTrue e X.env (eval e X.env)) (TP X pins σ Q) X.xe s
def PW(X:Cx)(e:Expr)(t:TT):Prop:=
 ∀(whole:Sem Value) (pins:List (Addr×Obj)) (s:Shared) (σ:St) (H:Hp) (Q:Bool->Hp->Prop),Inv X pins σ H s->t σ H Q->wpAny (model X.prog X.w) X.A (isTrue e X.env whole) (TP X pins σ Q) X.xe s
theorem PW.pt{X:Cx}{e:Expr}{t:TT}(h:PW X e t):PT X e t:=h _
def PA(X:Cx)(es:List Expr)(t:TA):Prop:=
 ∀(pos:Pos) (pins:List (Addr×Obj)) (s:Shared) (σ:St) (H:Hp) (Q:List V->Hp->Prop),Inv X pins σ H s->t σ H Q->wpAny (model X.prog X.w) X.A (spliced (backTo pos (starEach es X.env))) (AP X pins σ Q) X.xe s
def PS(X:Cx)(st:Stmt)(t:TS):Prop:=
 ∀(pins:List (Addr×Obj)) (s:Shared) (σ:St) (H:Hp) (D:Ends),Inv X pins σ H s->t D σ H->wpAny (model X.prog X.w) X.A (exec st X.env) (SP X pins D) X.xe s
def PSs(X:Cx)(st:List Stmt)(t:TS):Prop:=
 ∀(pins:List (Addr×Obj)) (s:Shared) (σ:St) (H:Hp) (D:Ends),Inv X pins σ H s->t D σ H->wpAny (model X.prog X.w) X.A (execs st X.env) (SP X pins D) X.xe s
theorem ix{α:Type}{t:Sem α}{Q Q':α->Shared->Prop}{M:Model}{A:Around}{E:Value->Shared->Prop}{s:Shared}(h:wpAny M A t Q E s)(hQ:∀a s,Q a s->Q' a s):wpAny M A t Q' E s:=cT h hQ fun _ _ x=>x
section
variable{X:Cx}
def vR(i:Nat):TE:=fun σ H Q=>∃v,σ[i]? =some (some v)/\Q v H
def tC(v:V):TE:=fun _ H Q=>Q v H
theorem xJ{i:Nat}{x:Str}{pos:Pos}(hN:X.N[i]? =some x)(hv:pO X.env.scope x)(hd:(x==("__debug__":Str))=false:=by decide)(hcd:(x==("__classdict__":Str))=false:=by decide):PE X (.Name x pos) (vR i):=by
 intro pins s σ H Q I h
 obtain⟨v,e,h⟩:=h
 obtain⟨m,hn,hl⟩:=I.loc
 obtain⟨u,r,l⟩:=hl i x v hN e hv
 have fin:EP X pins σ Q u s:=⟨v,H,I,r,h⟩
 rcases l with⟨hk,hm⟩|⟨hk,c,hc,hcell⟩
 ·exact wpAny_Name (wpAny_loadName_local I.ok.kind hk hn hm fin) hd
 ·rcases hk with hk|hk
  ·exact wpAny_Name (wpAny_loadName_cell I.ok.kind hk hc hcell fin) hd
  ·exact wpAny_Name (wpAny_loadName_free I.ok.kind hk hc hcell fin hcd) hd
theorem ip{i j pos}:PE X (.Constant (.int i) j pos) (tC (.int i)):=fun _ _ _ H _ I h=>wpAny_Constant_int ⟨.int i,H,I.tok _,⟨_,rfl⟩,h⟩
theorem ku{b j pos}:PE X (.Constant (.bool b) j pos) (tC (.bl b)):=fun _ _ _ H _ I h=>Constant_bool ⟨.bl b,H,I,rfl,h⟩
theorem kN{j pos}:PE X (.Constant .none j pos) (tC .non):=fun _ _ _ H _ I h=>Constant_none ⟨.non,H,I,rfl,h⟩
theorem tP{x j pos}:PE X (.Constant (.str x) j pos) (tC (.str x)):=fun _ _ _ H _ I h=>Calls.Constant_str ⟨.str x,H,I.tok _,⟨_,rfl⟩,h⟩
def Gl(X:Cx)(x:Str):Prop:=X.env.kindOf x=some .globalImplicit
theorem ui{E:Value->Shared->Prop}{pins:List (Addr×Obj)}{s:Shared}{σ:St}{H:Hp}{x:Str}{u:Value}{pos:Pos}{Q:Value->Shared->Prop}(I:Inv X pins σ H s)(hg:Gl X x)(hm:X.mg x=some u)(h:Q u s)
  (hd:(x==("__debug__":Str))=false:=by decide):wpAny (model X.prog X.w) X.A (eval (.Name x pos) X.env) Q E s:=
 h9 I.ok.kind hg (Calls.loadGlobal_global (by rw[I.ok.glob];exact I.mod.glob.keeps I.bk) hm h) hd
theorem lu{E:Value->Shared->Prop}{pins:List (Addr×Obj)}{s:Shared}{σ:St}{H:Hp}{x:Str}{u:Value}{pos:Pos}{Q:Value->Shared->Prop}(I:Inv X pins σ H s)(hg:Gl X x)(hm:X.mg x=none)(hv:bootBuiltins x=some u)(h:Q u s)
  (hn:x≠"__name__":=by decide) (hd:(x==("__debug__":Str))=false:=by decide):wpAny (model X.prog X.w) X.A (eval (.Name x pos) X.env) Q E s:=by
 obtain⟨mb,h1,h2⟩:=I.mod.blt
 exact h9 I.ok.kind hg (Calls.loadGlobal_builtin (by rw[I.ok.glob];exact I.mod.glob.keeps I.bk) hm (by rw[I.ok.blt];exact h1.keeps I.bk) ((h2 x hn).trans hv) h) hd
theorem kX{x:Str}{v:V}{u:Value}{pos:Pos}(hg:Gl X x)(hm:X.mg x=some u)(r:RelV v u)(hd:(x==("__debug__":Str))=false:=by decide):PE X (.Name x pos) (tC v):=
 fun _ _ _ H _ I h=>ui I hg hm ⟨v,H,I,r,h⟩ hd
theorem lL{x:Str}{v:V}{u:Value}{pos:Pos}(hg:Gl X x)(hm:X.mg x=none)(hv:bootBuiltins x=some u)(r:RelV v u)(hn:x≠"__name__":=by decide)(hd:(x==("__debug__":Str))=false:=by decide):PE X (.Name x pos) (tC v):=
 fun _ _ _ H _ I h=>lu I hg hm hv ⟨v,H,I,r,h⟩ hn hd
variable{a b:Expr}{ta tb:TE}{pos:Pos}
def PC(X:Cx)(op:CmpOp)(a b:Expr)(t:TE):Prop:=
 ∀(pins:List (Addr×Obj)) (s:Shared) (σ:St) (H:Hp) (Q:VK),Inv X pins σ H s->t σ H Q->
  wpAny (model X.prog X.w) X.A (eval a X.env) (fun v s₁=>wpAny (model X.prog X.w) X.A (eval b X.env) (fun u s₂=>wpAny (model X.prog X.w) X.A (compareOp op v u) (EP X pins σ Q) X.xe s₂) X.xe s₁) X.xe s
theorem zq(b:Expr){op:CmpOp}(h:op≠ .In)(h2:op≠ .NotIn):behindInMarks op b=false:=by
 have e1:(op==CmpOp.In)=false:=by cases op<;>first|rfl|exact absurd rfl h
 have e2:(op==CmpOp.NotIn)=false:=by cases op<;>first|rfl|exact absurd rfl h2
 cases b<;>simp[behindInMarks,e1,e2]
theorem qE{op:CmpOp}{t:TE}(h:PC X op a b t)(h1:behindInMarks op b=false:=by first|exact zq _ (by decide) (by decide)|rfl):PE X (.Compare a [op] [b] pos) t:=fun pins s σ H Q I hw=>wpAny_Compare1 (h pins s σ H Q I hw) h1
variable{tA tB':TT}{rest:List Expr}
def wt(t u:TT):TT:=fun σ H Q=>t σ H fun c H1=>if c=true then u σ H1 Q else Q false H1
def vY(t u:TT):TT:=fun σ H Q=>t σ H fun c H1=>if c=true then Q true H1 else u σ H1 Q
def vZ(t:TT):TT:=fun σ H Q=>t σ H fun c H1=>Q (!c) H1
theorem nk(ha:PT X a tA):PW X (.BoolOp .And [a] pos) tA:=by
 intro wh pins s σ H Q I h
 refine isTrue_and (ix (ha pins s σ H Q I h) fun c s1 e=>?_)
 cases c with
 |true=>exact isTrue_and_nil e
 |false=>exact e
theorem mD(ha:PT X a tA):PW X (.BoolOp .Or [a] pos) tA:=by
 intro wh pins s σ H Q I h
 refine isTrue_or (ix (ha pins s σ H Q I h) fun c s1 e=>?_)
 cases c with
 |false=>exact isTrue_or_nil e
 |true=>exact e
theorem mC(ha:PT X a tA)(hb:PW X (.BoolOp .And (b::rest) pos) tB'):PW X (.BoolOp .And (a::b::rest) pos) (wt tA tB'):=by
 intro wh pins s σ H Q I h
 refine isTrue_and (ix (ha pins s σ H _ I h) fun c s1 ⟨H1,I1,q1⟩=>?_)
 cases c with
 |true=>exact hb wh pins s1 σ H1 Q I1 q1
 |false=>exact⟨H1,I1,q1⟩
theorem lq(ha:PT X a tA)(hb:PW X (.BoolOp .Or (b::rest) pos) tB'):PW X (.BoolOp .Or (a::b::rest) pos) (vY tA tB'):=by
 intro wh pins s σ H Q I h
 refine isTrue_or (ix (ha pins s σ H _ I h) fun c s1 ⟨H1,I1,q1⟩=>?_)
 cases c with
 |true=>exact⟨H1,I1,q1⟩
 |false=>exact hb wh pins s1 σ H1 Q I1 q1
theorem kl(ha:PT X a tA):PT X (.UnaryOp .Not a pos) (vZ tA):=by
 intro pins s σ H Q I h
 exact isTrue_not (ha pins s σ H (fun c H1=>Q (!c) H1) I h)
theorem ng{op}{t:TE}(h:PE X a t):PE X (.BoolOp op [a] pos) t:=fun pins s σ H Q I hw=>BoolOp_one (h pins s σ H Q I hw)
def wg(t:TT)(ta tb:TE):TE:=fun σ H Q=>t σ H fun c H1=>if c=true then ta σ H1 Q else tb σ H1 Q
theorem rg{c:Expr}(hc:PT X c tA)(ha:PE X a ta)(hb:PE X b tb):PE X (.IfExp c a b pos) (wg tA ta tb):=by
 intro pins s σ H Q I h
 refine wpAny_IfExp (ix (hc pins s σ H _ I h) fun d s1 ⟨H1,I1,q1⟩=>?_)
 cases d with
 |true=>exact ha pins s1 σ H1 Q I1 q1
 |false=>exact hb pins s1 σ H1 Q I1 q1
end
def SqL(K:PySem.W.Frag)(H:Hp)(a:Addr)(xs:List V):Prop:=
 Rd H a (.lst xs)\/
  ∃(o:Obj) (its:Array Value) (n:Nat),K.lookup a=some o/\o.cls= .type "list"/\o.dict=none/\o.data= .seq its n/\its.size<=sizeLine/\Vals xs its.toList
def SqT(K:PySem.W.Frag)(H:Hp)(a:Addr)(xs:List V):Prop:=
 Rd H a (.tup xs)\/
  ∃(o:Obj) (its:Array Value) (n:Nat),K.lookup a=some o/\o.cls= .type "tuple"/\o.data= .seq its n/\its.size<=sizeLine/\Vals xs its.toList
def HZ:Value->Option V
 | .none=>some .non
 | .bool b=>some (.bl b)
 | .int i _=>some (.int i)
 | .str x _=>some (.str x)
 | .bytes b _=>some (.byt b)
 | .float b _=>some (.flt b)
 | .ref a=>some (.ref a)
 | .type n=>some (.ty n)
 |_=>none
theorem RelV.abs{x:V}{u:Value}(r:RelV x u):HZ u=some x:=by
 cases x with
 |non=>cases r;rfl
 |bl _=>cases r;rfl
 |int _=>obtain⟨t,rfl⟩:=r;rfl
 |str _=>obtain⟨t,rfl⟩:=r;rfl
 |byt _=>obtain⟨t,rfl⟩:=r;rfl
 |flt _=>obtain⟨t,rfl⟩:=r;rfl
 |ref _=>cases r;rfl
 |ty _=>cases r;rfl
theorem RelV.inj{x y:V}{u:Value}(r:RelV x u)(q:RelV y u):x=y:=aL (r.abs.symm.trans q.abs)
theorem Vals.inj:∀{xs ys:List V} {us:List Value},Vals xs us->Vals ys us->xs=ys
 |_,_,_,.nil,.nil=>rfl
 |_,_,_,.cons r t,.cons r' t'=>by rw[r.inj r',Vals.inj t t']
section
variable{X:Cx}{pins:List (Addr×Obj)}{σ:St}{H:Hp}{s:Shared}{a:Addr}{xs ys:List V}
theorem SqL.of{K:PySem.W.Frag}(h:H a=some (.lst xs)):SqL K H a xs:=.inl (.inl h)
theorem SqT.of{K:PySem.W.Frag}(h:H a=some (.tup xs)):SqT K H a xs:=.inl (.inl h)
theorem Inv.list(I:Inv X pins σ H s)(h:SqL X.K H a xs):∃its:List Value,Vals xs its/\PlainL s.heap a its.toArray/\xs.length<=sizeLine:=by
 rcases h with h|⟨o,its,n,hk,hc,hd,hs,hz,r⟩
 ·obtain⟨z,its,n,r,e⟩:=h.ok I.hok
  exact⟨its,r,⟨_,n,e,rfl,rfl,rfl⟩,z⟩
 ·refine⟨its.toList,r,⟨o,n,I.kIn a o hk,hc,hd,by simpa using hs⟩,?_⟩
  have e:=r.length
  simp only[Array.length_toList]at e
  lia
theorem Inv.tuple(I:Inv X pins σ H s)(h:SqT X.K H a xs):∃its:List Value,Vals xs its/\IsTup s.heap a its.toArray/\xs.length<=sizeLine:=by
 rcases h with h|⟨o,its,n,hk,hc,hs,hz,r⟩
 ·obtain⟨z,its,r,p⟩:=h.ok I.hok
  exact⟨its,r,p,z⟩
 ·refine⟨its.toList,r,⟨o,I.kIn a o hk,hc,n,by simpa using hs⟩,?_⟩
  have e:=r.length
  simp only[Array.length_toList]at e
  lia
theorem Inv.list_inj(I:Inv X pins σ H s)(h:SqL X.K H a xs)(h':SqL X.K H a ys):xs=ys:=by
 obtain⟨its,r,⟨o,n,e,_,_,d⟩,_⟩:=I.list h
 obtain⟨its',r',⟨o',n',e',_,_,d'⟩,_⟩:=I.list h'
 rw[e]at e';cases e'
 rw[d]at d'
 injection d' with d1 _
 have:its=its':=by simpa using bN Array.toList d1
 subst this
 exact r.inj r'
theorem Inv.tuple_inj(I:Inv X pins σ H s)(h:SqT X.K H a xs)(h':SqT X.K H a ys):xs=ys:=by
 obtain⟨its,r,⟨o,e,_,n,d⟩,_⟩:=I.tuple h
 obtain⟨its',r',⟨o',e',_,n',d'⟩,_⟩:=I.tuple h'
 rw[e]at e';cases e'
 rw[d]at d'
 injection d' with d1 _
 have:its=its':=by simpa using bN Array.toList d1
 subst this
 exact r.inj r'
end
abbrev Cx.wish(X:Cx)(E:Value->Shared->Prop):Cx:={X with xe:=E}
abbrev Cx.nox(X:Cx):Cx:=X.wish fun _ _=>False
theorem Cx.Ok.wish{X:Cx}(ok:X.Ok)(E:Value->Shared->Prop):(X.wish E).Ok:=
 ⟨ok.mod,ok.kind,ok.glob,ok.blt,ok.above,ok.inj,ok.has,ok.cab,ok.hd,ok.frames,ok.stk,ok.exf,ok.bs,ok.bsz,ok.noex,ok.exfs,ok.funs,ok.frf⟩
theorem Cx.Ok.unwish{X:Cx}{E:Value->Shared->Prop}(ok:(X.wish E).Ok):X.Ok:=
 ⟨ok.mod,ok.kind,ok.glob,ok.blt,ok.above,ok.inj,ok.has,ok.cab,ok.hd,ok.frames,ok.stk,ok.exf,ok.bs,ok.bsz,ok.noex,ok.exfs,ok.funs,ok.frf⟩
section
variable{X:Cx}{pins:List (Addr×Obj)}{σ:St}{H:Hp}{s:Shared}{E:Value->Shared->Prop}
theorem Inv.wish(I:Inv X pins σ H s)(E:Value->Shared->Prop):Inv (X.wish E) pins σ H s:=⟨I.ok.wish E,I.os,I.bare,I.base,I.loc,I.cell,I.free,I.freeC,I.pin,I.hok,I.len⟩
theorem Inv.unwish(I:Inv (X.wish E) pins σ H s):Inv X pins σ H s:=⟨I.ok.unwish,I.os,I.bare,I.base,I.loc,I.cell,I.free,I.freeC,I.pin,I.hok,I.len⟩
theorem SP.unwish{D:Ends}{f:Flow}{s':Shared}(h:SP (X.wish E) pins D f s'):SP X pins D f s':=by
 cases f with
 |next=>obtain⟨σ',H',I,q⟩:=h;exact⟨σ',H',I.unwish,q⟩
 |brk=>obtain⟨σ',H',I,q⟩:=h;exact⟨σ',H',I.unwish,q⟩
 |cont=>obtain⟨σ',H',I,q⟩:=h;exact⟨σ',H',I.unwish,q⟩
 |ret u=>obtain⟨v,σ',H',I,r,q⟩:=h;exact⟨v,σ',H',I.unwish,r,q⟩
theorem PSs.nox{st:List Stmt}{t:TS}(h:PSs X.nox st t):PSs X st t:=fun pins s σ H D I hw=>
 cT (h pins s σ H D (I.wish _) hw) (fun _ _ q=>q.unwish) fun _ _ z=>False.elim z
end
section
variable{X:Cx}{st:Stmt}{rest:List Stmt}{t u:TS}{e:Expr}{te:TE}{pos:Pos}
def wb:TS:=fun D σ H=>D.nx σ H
def pX(t u:TS):TS:=fun D σ H=>t {D with nx:=u D} σ H
theorem jf:PSs X [] wb:=fun _ _ σ H _ I h=>fJ ⟨σ,H,I,h⟩
theorem iu(h1:PS X st t)(h2:PSs X rest u):PSs X (st::rest) (pX t u):=by
 intro pins s σ H D I h
 refine wpAny_execs_cons (ix (h1 pins s σ H {D with nx:=u D} I h) fun f s1 q=>?_)
 cases f with
 |next=>
  obtain⟨σ',H',I',q⟩:=q
  exact h2 pins s1 σ' H' D I' q
 |ret v=>exact q
 |brk=>exact q
 |cont=>exact q
theorem iB(h1:PS X st t):PSs X [st] t:=by
 intro pins s σ H D I h
 refine wpAny_execs_cons (ix (h1 pins s σ H D I h) fun f s1 q=>?_)
 cases f with
 |next=>exact fJ q
 |ret v=>exact q
 |brk=>exact q
 |cont=>exact q
theorem Inv.quiet{pins:List (Addr×Obj)}{σ:St}{H:Hp}{s:Shared}(I:Inv X pins σ H s):interactive X.env=false:=by simp[interactive,I.ok.kind]
def wj(te:TE):TS:=fun D σ H=>te σ H fun _ H1=>D.nx σ H1
theorem jK(he:PE X e te)(hs:swapsWith e none pos.line X.env=pure false:=by rfl):PS X (.Expr e pos) (wj te):=by
 intro pins s σ H D I h
 exact wpAny_Expr_any (ix (he pins s σ H _ I h) fun v s1 ⟨x,H1,I1,r1,q1⟩=>⟨σ,H1,I1,q1⟩) I.quiet hs
def vX(te:TE):TS:=fun D σ H=>te σ H D.rt
theorem iP(he:PE X e te):PS X (.Return (some e) pos) (vX te):=by
 intro pins s σ H D I h
 exact wpAny_Return_some (ix (he pins s σ H _ I h) fun v s1 ⟨x,H1,I1,r1,q1⟩=>⟨x,σ,H1,I1,r1,q1⟩)
def BG:TS:=fun D _ H=>D.rt .non H
def we(c:TT)(t u:TS):TS:=fun D σ H=>c σ H fun b H1=>if b=true then t D σ H1 else u D σ H1
theorem je{c:Expr}{a b:List Stmt}{tc:TT}(hc:PT X c tc)(ha:PSs X a t)(hb:PSs X b u):PS X (.If c a b pos) (we tc t u):=by
 intro pins s σ H D I h
 refine wpAny_If (ix (hc pins s σ H _ I h) fun d s1 ⟨H1,I1,q1⟩=>?_)
 cases d with
 |true=>exact ha pins s1 σ H1 D I1 q1
 |false=>exact hb pins s1 σ H1 D I1 q1
def xX:TS:=fun _ _ _=>False
theorem nY:PS X st xX:=fun _ _ _ _ _ _ h=>h.elim
theorem Fv{sts:List Stmt}:PSs X sts xX:=fun _ _ _ _ _ _ h=>h.elim
end
abbrev TG:=V->St->Hp->(St->Hp->Prop)->Prop
abbrev kC:=List V->St->Hp->(St->Hp->Prop)->Prop
def PG(X:Cx)(target:Expr)(t:TG):Prop:=
 ∀(pins:List (Addr×Obj)) (s:Shared) (σ:St) (H:Hp) (v:V) (u:Value) (Q:St->Hp->Prop),Inv X pins σ H s->RelV v u->t v σ H Q->
  wpAny (model X.prog X.w) X.A (assign target X.env u) (fun _ s'=>∃σ' H',Inv X pins σ' H' s'/\Q σ' H') X.xe s
def PGs(X:Cx)(ts:List Expr)(t:kC):Prop:=
 ∀(pins:List (Addr×Obj)) (s:Shared) (σ:St) (H:Hp) (vs:List V) (us:List Value) (Q:St->Hp->Prop),Inv X pins σ H s->Vals vs us->t vs σ H Q->
  wpAny (model X.prog X.w) X.A (assignInOrder ((assignEach ts X.env).map (·.2)) us) (fun _ s'=>∃σ' H',Inv X pins σ' H' s'/\Q σ' H') X.xe s
abbrev nB:=V->V->V->Hp->(Hp->Prop)->Prop
def PSet(X:Cx)(t:nB):Prop:=
 ∀(pins:List (Addr×Obj)) (s:Shared) (σ:St) (H:Hp) (o i v:V) (ov iv u:Value) (Q:Hp->Prop),Inv X pins σ H s->RelV o ov->RelV i iv->RelV v u->t o i v H Q->
  wpAny (model X.prog X.w) X.A (setItem ov iv u) (fun _ s'=>∃H',Inv X pins σ H' s'/\Q H') X.xe s
abbrev mi:=V->V->Hp->VK->Prop
def oi(X:Cx)(op:Operator)(t:mi):Prop:=
 ∀(pins:List (Addr×Obj)) (s:Shared) (σ:St) (H:Hp) (x y:V) (v u:Value) (Q:VK),Inv X pins σ H s->RelV x v->RelV y u->t x y H Q->
  wpAny (model X.prog X.w) X.A (inplaceOp op v u) (EP X pins σ Q) X.xe s
section
variable{X:Cx}{pos:Pos}
def kG(i:Nat):TG:=fun v σ H Q=>Q (σ.set i (some v)) H
theorem iJ{i:Nat}{x:Str}(hN:X.N.Nodup)(hi:X.N[i]? =some x)(hx:Loc X.env.scope x)(hf:X.fn x=true\/X.env.scope.names.lookup x=some .local:=by first|exact .inl rfl|exact .inr rfl|assumption):PG X (.Name x pos) (kG i):=by
 intro pins s σ H v u Q I r h
 exact wpAny_assign_Name (uO I hN hi hx r (fun s' I'=>⟨_,H,I',h⟩) hf)
def Hk:kC:=fun vs σ H Q=>vs=[]/\Q σ H
def Hl(t:TG)(u:kC):kC:=fun vs σ H Q=>∃v r,vs=v::r/\t v σ H fun σ' H'=>u r σ' H' Q
theorem DG:PGs X [] Hk:=by
 intro pins s σ H vs us Q I r h
 obtain⟨e,h⟩:=h
 subst e
 cases r
 exact assignInOrder_nil ⟨σ,H,I,h⟩
theorem Er{e:Expr}{es:List Expr}{t:TG}{u:kC}(h1:PG X e t)(h2:PGs X es u)
  (hs:(assignEach (e::es) X.env).map (·.2)=assign e X.env::(assignEach es X.env).map (·.2):=by rfl):PGs X (e::es) (Hl t u):=by
 intro pins s σ H vs us Q I r h
 obtain⟨v,vr,e1,h⟩:=h
 subst e1
 cases r with
 |cons r rr=>
  rw[hs]
  refine assignInOrder_cons (ix (h1 pins s σ H _ _ _ I r h) fun _ s1 ⟨σ1,H1,I1,q1⟩=>?_)
  exact h2 pins s1 σ1 H1 _ _ Q I1 rr q1
def Hj(K:PySem.W.Frag)(n:Nat)(t:kC):TG:=fun v σ H Q=>∃a xs,v= .ref a/\SqT K H a xs/\xs.length=n/\t xs σ H Q
theorem Cp{es:List Expr}{k:Nat}{t:kC}{n:Nat}(hc:X.calm=true)(h:PGs X es t)
  (hn:(assignEach es X.env).length=n:=by rfl) (hst:(assignEach es X.env).findIdx? (·.1)=none:=by rfl):PG X (.Tuple es k pos) (Hj X.K n t):=by
 intro pins s σ H v u Q I r hw
 obtain⟨a,xs,e1,hq,hl,hw⟩:=hw
 subst e1
 cases r
 obtain⟨its,rv,ht,hz⟩:=I.tuple hq
 refine assign_Tuple_tuple (I.ok.hd hc) ht (by simp [hn,<- hl,rv.length]) hst fun h' hx=>?_
 have I1:Inv X pins σ H {s with heap:=h'}:=I.kept (t':=s.toks) fun b o e=>hx b o (aX (aI e)) e
 exact h pins _ σ H xs _ Q I1 (by simpa using rv) hw
def A8(to ti:TE)(t:nB):TG:=fun v σ H Q=>to σ H fun o H1=>ti σ H1 fun i H2=>t o i v H2 fun H3=>Q σ H3
theorem qF{o i:Expr}{to ti:TE}{t:nB}(ho:PE X o to)(hi:PE X i ti)(hs:PSet X t)
  (ha:∀ v,assign (.Subscript o i pos) X.env v = (do
   let ov <- holding [v] (eval o X.env)
   let iv <- holding [v,ov] (eval i X.env)
   standAt pos
   holding [v,ov,iv] (setItem ov iv v)
   release [v,ov,iv] []):=by intro _;rfl):PG X (.Subscript o i pos) (A8 to ti t):=by
 intro pins s σ H v u Q I r h
 rw[ha]
 refine aa (bX (ix (ho pins s σ H _ I h) fun ov s1 ⟨x,H1,I1,r1,q1⟩=>?_))
 refine aa (bX (ix (hi pins s1 σ H1 _ I1 q1) fun iv s2 ⟨y,H2,I2,r2,q2⟩=>?_))
 refine aa (fX (aa (bX (ix (hs pins s2 σ H2 x y v ov iv u _ I2 r1 r2 r q2) fun _ s3 ⟨H3,I3,q3⟩=>?_))))
 exact wpAny_release ⟨σ,H3,I3,q3⟩
def p6(te:TE)(g:TG):TS:=fun D σ H=>te σ H fun x H1=>g x σ H1 D.nx
theorem qG{tg e:Expr}{te:TE}{g:TG}(he:PE X e te)(hg:PG X tg g)(hs:swapsWithSole [tg] e pos.line X.env=pure false:=by rfl)(hw:swappedStores [tg] e X.env=pure none:=by rfl)
  (h1:(assignEach [tg] X.env).map (·.2)=[assign tg X.env]:=by rfl):PS X (.Assign [tg] e pos) (p6 te g):=by
 intro pins s σ H D I h
 refine wpAny_Assign_stores (ix (he pins s σ H _ I h) fun v s1 ⟨x,H1,I1,r1,q1⟩=>?_) hs hw
 rw[h1]
 exact ix (hg pins s1 σ H1 x v _ I1 r1 q1) fun _ s2 q=>q
theorem iF{i:Nat}{x:Str}{e:Expr}{te:TE}{pos':Pos}(hN:X.N.Nodup)(hi:X.N[i]? =some x)(hx:Loc X.env.scope x)(he:PE X e te)(hs:swapsWith e (some (.Name x pos')) pos.line X.env=pure false:=by rfl)(hf:X.fn x=true\/X.env.scope.names.lookup x=some .local:=by first|exact .inl rfl|exact .inr rfl|assumption):
  PS X (.Assign [.Name x pos'] e pos) (p6 te (kG i)):=by
 intro pins s σ H D I h
 refine wpAny_Assign_Name (ix (he pins s σ H _ I h) fun v s1 ⟨y,H1,I1,r1,q1⟩=>?_) hs
 exact uO I1 hN hi hx r1 (fun s2 I2=>⟨_,H1,I2,q1⟩) hf
def BJ(i:Nat)(te:TE)(ti:mi):TS:=fun D σ H=>∃x,σ[i]? =some (some x)/\te σ H fun y H1=>ti x y H1 fun z H2=>D.nx (σ.set i (some z)) H2
theorem Ck{i:Nat}{x:Str}{e:Expr}{te:TE}{op:Operator}{ti:mi}{pos':Pos}(hN:X.N.Nodup)(hi:X.N[i]? =some x)(hx:Loc X.env.scope x)(he:PE X e te)(ho:oi X op ti)(hf:X.fn x=true\/X.env.scope.names.lookup x=some .local:=by first|exact .inl rfl|exact .inr rfl|assumption):
  PS X (.AugAssign (.Name x pos') op e pos) (BJ i te ti):=by
 intro pins s σ H D I h
 obtain⟨v,e1,h⟩:=h
 obtain⟨m,hn,hl⟩:=I.loc
 have vis:pO X.env.scope x:=by rcases hx with k|k;exact .inl k;exact .inr (.inl k)
 obtain⟨u,r,l⟩:=hl i x v hi e1 vis
 refine wpAny_AugAssign_Name ?_
 have go:wpAny (model X.prog X.w) X.A (eval e X.env) (fun w s₂=>wpAny (model X.prog X.w) X.A (inplaceOp op u w) (fun r s₃=>wpAny (model X.prog X.w) X.A (storeName X.env x r) (fun _=>SP X pins D .next) X.xe s₃) X.xe s₂) X.xe s:=by
  refine ix (he pins s σ H _ I h) fun w s1 ⟨y,H1,I1,r1,q1⟩=>?_
  refine ix (ho pins s1 σ H1 v y u w _ I1 r r1 q1) fun z s2 ⟨zv,H2,I2,r2,q2⟩=>?_
  exact uO I2 hN hi hx r2 (fun s3 I3=>⟨_,H2,I3,q2⟩) hf
 rcases l with⟨hk,hm⟩|⟨hk,c,hc,hcell⟩
 ·exact wpAny_loadName_local I.ok.kind hk hn hm go
 ·rcases hk with hk|hk
  ·exact wpAny_loadName_cell I.ok.kind hk hc hcell go
  ·rcases hx with k|k
   ·have:X.env.scope.names.lookup x=some .free:=hk
    rw[k]at this;cases this
   ·have:X.env.scope.names.lookup x=some .free:=hk
    rw[k]at this;cases this
def wq(to ti te:TE)(tget:V->V->Hp->VK->Prop)(tip:mi)(tset:nB):TS:=fun D σ H=>to σ H fun o H1=>ti σ H1 fun i H2=>tget o i H2 fun x H3=>te σ H3 fun y H4=>tip x y H4 fun z H5=>tset o i z H5 fun H6=>D.nx σ H6
def Bq(X:Cx)(t:V->V->Hp->VK->Prop):Prop:=
 ∀(pins:List (Addr×Obj)) (s:Shared) (σ:St) (H:Hp) (o i:V) (ov iv:Value) (Q:VK),Inv X pins σ H s->RelV o ov->RelV i iv->t o i H Q->
  wpAny (model X.prog X.w) X.A (getItem ov iv) (EP X pins σ Q) X.xe s
theorem yC{o i e:Expr}{to ti te:TE}{tget:V->V->Hp->VK->Prop}{tip:mi}{tset:nB}{op:Operator}{tpos:Pos}(ho:PE X o to)(hi:PE X i ti)(hg:Bq X tget)(he:PE X e te)(hp:oi X op tip)(hs:PSet X tset)
  (ha:∀ ov iv new,augStore i ov iv new = (do holding [new,ov,iv] (setItem ov iv new); release [new,ov,iv] []; pure .next):=by intros; rfl):PS X (.AugAssign (.Subscript o i tpos) op e pos) (wq to ti te tget tip tset):=by
 intro pins s σ H D I h
 refine wpAny_AugAssign_SubscriptAny (ix (ho pins s σ H _ I h) fun ov s1 ⟨x1,H1,I1,r1,q1⟩=>?_) ha
 refine ix (hi pins s1 σ H1 _ I1 q1) fun iv s2 ⟨x2,H2,I2,r2,q2⟩=>?_
 refine ix (hg pins s2 σ H2 x1 x2 ov iv _ I2 r1 r2 q2) fun old s3 ⟨x3,H3,I3,r3,q3⟩=>?_
 refine ix (he pins s3 σ H3 _ I3 q3) fun v s4 ⟨x4,H4,I4,r4,q4⟩=>?_
 refine ix (hp pins s4 σ H4 x3 x4 old v _ I4 r3 r4 q4) fun new s5 ⟨x5,H5,I5,r5,q5⟩=>?_
 exact ix (hs pins s5 σ H5 x1 x2 x5 ov iv new _ I5 r1 r2 r5 q5) fun _ s6 ⟨H6,I6,q6⟩=>⟨σ,H6,I6,q6⟩
end
section
variable{X:Cx}{pos:Pos}
def xY(c:TT)(tb:TS):TS:=fun D σ H=>∃W:Nat->St->Hp->Prop,(∃m,W m σ H)/\∀m σ H,W m σ H->
 c σ H fun b H1=>if b=true then ∃N:St->Hp->Prop,(∀σ' H',N σ' H'->∃m',m'<m/\W m' σ' H')/\tb {D with nx:=N,ct:=N,bk:=D.nx} σ H1 else D.nx σ H1
theorem nZ{c:Expr}{body:List Stmt}{tc:TT}{tb:TS}(hp:PassesOwn (model X.prog X.w) X.A X.env X.xe)(hc:PT X c tc)(hb:PSs X body tb):PS X (.While c body [] pos) (xY tc tb):=by
 intro pins s σ H D I h
 obtain⟨W,⟨m0,w0⟩,turn⟩:=h
 refine wpAny_While (codeAny_whileLoop (fun n s'=>∃σ' H',Inv X pins σ' H' s'/\W n σ' H') ?_ m0 ⟨σ,H,I,w0⟩)
 rintro n s1 ⟨σ1,H1,I1,w1⟩
 refine c8 hp (ix (hc pins s1 σ1 H1 _ I1 (turn n σ1 H1 w1)) fun b s2 ⟨H2,I2,q2⟩=>?_)
 cases b with
 | true=>
  obtain⟨N,hN,q2⟩:=q2
  rw[az rfl]
  refine c8 hp (ix (hb pins s2 σ1 H2 _ I2 q2) fun f s3 q3=>?_)
  cases f with
  |next=>
   obtain⟨σ3,H3,I3,n3⟩:=q3
   obtain⟨m',hm,w3⟩:=hN σ3 H3 n3
   exact⟨m',hm,σ3,H3,I3,w3⟩
  |cont=>
   obtain⟨σ3,H3,I3,n3⟩:=q3
   obtain⟨m',hm,w3⟩:=hN σ3 H3 n3
   exact⟨m',hm,σ3,H3,I3,w3⟩
  |brk=>exact q3
  |ret v=>exact q3
 |false=>
  rw[ay aY]
  exact fJ ⟨σ1,H2,I2,q2⟩
end
structure It where
 go:Nat->Hp->Prop
 yld:Nat->Hp->V->Hp->Prop
 stop:Nat->Hp->Prop
def kK(X:Cx)(pins:List (Addr×Obj))(H:Hp)(b:Addr):Prop:=
 H b=none/\b≠X.env.locals/\b∉X.fs/\(b∈X.ex\/X.s₀.heap.objs.size<=b)/\(∀x c,X.env.cells.lookup x=some c->c≠b)/\∀p∈X.pn++pins,p.1≠b
theorem Inv.fpOk{X:Cx}{pins:List (Addr×Obj)}{σ:St}{H H':Hp}{s:Shared}{b:Addr}(I:Inv X pins σ H s)(hb:s.heap.objs.size<=b)(hn:H' b=none):kK X pins H' b:=by
 refine⟨hn,dj (bt I.lt hb),I.nofs hb,.inr (bo I.sz hb),fun x c e z=>?_,fun p hp z=>?_⟩
 ·obtain⟨v,q⟩:=I.cell x c e
  exact absurd (bt q.lt (by rw[z];exact hb)) (cH _)
 ·exact absurd (bt (aI (I.pin p hp).1) (by rw[z];exact hb)) (cH _)
structure Turn(P:Program)(w:World)(K:PySem.W.Frag)(tg:Expr)(J:It)(fp:List Addr)(it:Addr)(tn:Nat->Heap->Prop):Prop where
 mem:it∈fp
 obj:∀i h,tn i h->∀b∈fp,∃o,h.get? b=some o/\∀v,o.data≠ .cell v
 keep:∀i h h',tn i h->(∀b∈fp,∀o,h.get? b=some o->h'.get? b=some o)->tn i h'
 item:∀(X:Cx),X.prog=P->X.w=w->X.K=K->X.calm=true->∀(i:Nat) (pins:List (Addr×Obj)) (s:Shared) (σ:St) (H:Hp) (E:Value->Shared->Prop),Inv X pins σ H s->(∀b∈fp,kK X pins H b)->tn i s.heap->J.go i H->
  wpAny (model P w) X.A (pyNext (.ref it)) (fun r s1=>∃u,r=some u/\
   wpAny (model P w) X.A (letOwnedTupleGo tg (.ref it) u) (fun _ s2=>∃x H',Inv X pins σ H' s2/\RelV x u/\J.yld i H x H'/\tn (i+1) s2.heap/\∀b∈fp,H' b=none) E s1) E s
 done:∀(X:Cx),X.prog=P->X.w=w->X.K=K->X.calm=true->∀(i:Nat) (pins:List (Addr×Obj)) (s:Shared) (σ:St) (H:Hp) (E:Value->Shared->Prop),Inv X pins σ H s->(∀b∈fp,kK X pins H b)->tn i s.heap->J.stop i H->
  wpAny (model P w) X.A (pyNext (.ref it)) (fun r s1=>r=none/\Inv X pins σ H s1) E s
 self:∀(A:Around) (i:Nat) (s:Shared) (Q:Value->Shared->Prop) (E:Value->Shared->Prop),tn i s.heap->Q (.ref it) s->wpAny (model P w) A (pyIter (.ref it)) Q E s
abbrev TI:=St->Hp->(It->Hp->Prop)->Prop
def vL(X:Cx)(pins:List (Addr×Obj))(σ:St)(tg:Expr)(R:It->Hp->Prop)(itv:Value)(s2:Shared):Prop:=
 ∃(it:Addr) (fp:List Addr) (tn:Nat->Heap->Prop) (J:It) (H':Hp),itv= .ref it/\Inv X pins σ H' s2/\Turn X.prog X.w X.K tg J fp it tn/\tn 0 s2.heap/\(∀b∈fp,kK X pins H' b)/\R J H'
def PI(X:Cx)(tg iter:Expr)(wi:TI):Prop:=
 ∀(pins:List (Addr×Obj)) (s:Shared) (σ:St) (H:Hp) (R:It->Hp->Prop),Inv X pins σ H s->wi σ H R->
  wpAny (model X.prog X.w) X.A (eval iter X.env) (fun v s1=>wpAny (model X.prog X.w) X.A (pyIter v) (vL X pins σ tg R) X.xe s1) X.xe s
theorem qk {M:Model}{A:Around}{E:Value->Shared->Prop}{s:Shared}{tg:Expr}{it:Addr}{u:Value}{o:Obj}{n:String}{vs:Array Value}{Q:Unit->Shared->Prop}(ho:s.heap.get? it=some o)(hc:o.cls= .type n)(hd:o.data= .fields vs)
    (hn:["enumerate","zip","dict_itemiterator","dict_reverseitemiterator","odict_iterator","itertools.zip_longest","itertools.pairwise"].contains n=false) (hQ:Q () s):wpAny M A (letOwnedTupleGo tg (.ref it) u) Q E s:=by
  unfold letOwnedTupleGo
  cases tg <;>first
    |exact av hQ
    | (cases u<;>first
        |exact av hQ
        | (refine aa (wpAny_load ho ?_)
           rw[hc,hd]
           show wpAny M A (if(["enumerate","zip","dict_itemiterator","dict_reverseitemiterator","odict_iterator","itertools.zip_longest","itertools.pairwise"].contains n&&vs[0]? ==some (rawInt _))=true then _ else _) Q E s
           rw[ay (by intro h;rw[hn,Bool.false_and]at h;cases h)]
           exact av hQ))
def ji(K:PySem.W.Frag)(a:Addr):It:=
 ⟨fun i H=>∃xs x,SqL K H a xs/\xs[i]? =some x,fun i H x H'=>H'=H/\∀xs,SqL K H a xs->xs[i]? =some x,fun i H=>∃xs,SqL K H a xs/\xs.length<=i⟩
def nC(K:PySem.W.Frag)(a:Addr):It:=
 ⟨fun i H=>∃xs x,SqT K H a xs/\xs[i]? =some x,fun i H x H'=>H'=H/\∀xs,SqT K H a xs->xs[i]? =some x,fun i H=>∃xs,SqT K H a xs/\xs.length<=i⟩
def kZ(lo:Int)(n:Nat):It:=⟨fun i _=>i<n,fun i H x H'=>H'=H/\x= .int (lo+i),fun i _=>n<=i⟩
theorem FC{P:Program}{w:World}{K:PySem.W.Frag}{tg:Expr}(a it:Addr):Turn P w K tg (ji K a) [it] it (fun i h=>h.IsListIter it a i)where
 mem:=by simp
 obj:=fun i h st b hb=>by
  have e:b=it:=by simpa using hb
  subst e
  obtain⟨o,e,c,d⟩:=st
  exact⟨o,e,fun v z=>by rw[d]at z;cases z⟩
 keep:=fun i h h' st k=>st.at fun o e=>k it (by simp) o e
 item:=by
  intro X hP hw hK hc i pins s σ H E I hf st hg
  subst hP hw hK
  obtain⟨xs,x,hq,hx⟩:=hg
  obtain⟨its,rv,p,hz⟩:=I.list hq
  obtain⟨u,hu,ru⟩:=rv.get hx
  obtain⟨f0,f1,f2,f3,f4,f5⟩:=hf it (by simp)
  refine fv st p.isList (x:=u) (by simpa using hu) fun h' st' sb=>?_
  have I1:Inv X pins σ H {s with heap:=h'}:=I.turned (t':=s.toks) (fun b o hb e=>(sb.2 b hb).trans e) f0 f1 f3 f4 f5
  obtain⟨o,e,c,d⟩:=id st'
  exact⟨u,rfl,qk (s:={s with heap:=h'}) e c d (by decide) ⟨x,H,I1,ru,⟨rfl,fun ys hy=>by rw[I.list_inj hy hq];exact hx⟩,st',fun b hb=>(hf b hb).1⟩⟩
 done:=by
  intro X hP hw hK hc i pins s σ H E I hf st hg
  subst hP hw hK
  obtain⟨xs,hq,hx⟩:=hg
  obtain⟨its,rv,p,hz⟩:=I.list hq
  obtain⟨f0,f1,f2,f3,f4,f5⟩:=hf it (by simp)
  have hl:=rv.length
  exact fL (I.ok.hd hc) st p.isList (by simp;lia) fun h' eb=>⟨rfl,I.turned (t':=s.toks) (fun b o hb e=>eb b o hb e) f0 f1 f3 f4 f5⟩
 self:=fun _ _ _ _ _ st h=>wpAny_pyIter_listiter st h
theorem F4{P:Program}{w:World}{K:PySem.W.Frag}{tg:Expr}(a it:Addr):Turn P w K tg (nC K a) [it] it (fun i h=>h.IsTupleIter it a i)where
 mem:=by simp
 obj:=fun i h st b hb=>by
  have e:b=it:=by simpa using hb
  subst e
  obtain⟨o,e,c,d⟩:=st
  exact⟨o,e,fun v z=>by rw[d]at z;cases z⟩
 keep:=fun i h h' st k=>st.at fun o e=>k it (by simp) o e
 item:=by
  intro X hP hw hK hc i pins s σ H E I hf st hg
  subst hP hw hK
  obtain⟨xs,x,hq,hx⟩:=hg
  obtain⟨its,rv,p,hz⟩:=I.tuple hq
  obtain⟨u,hu,ru⟩:=rv.get hx
  obtain⟨f0,f1,f2,f3,f4,f5⟩:=hf it (by simp)
  refine wpAny_pyNext_tuple_item st (show s.heap.IsTuple a its.toArray from p) (x:=u) (by simpa using hu) fun h' st' sb=>?_
  have I1:Inv X pins σ H {s with heap:=h'}:=I.turned (t':=s.toks) (fun b o hb e=>(sb.2 b hb).trans e) f0 f1 f3 f4 f5
  obtain⟨o,e,c,d⟩:=id st'
  exact⟨u,rfl,qk (s:={s with heap:=h'}) e c d (by decide) ⟨x,H,I1,ru,⟨rfl,fun ys hy=>by rw[I.tuple_inj hy hq];exact hx⟩,st',fun b hb=>(hf b hb).1⟩⟩
 done:=by
  intro X hP hw hK hc i pins s σ H E I hf st hg
  subst hP hw hK
  obtain⟨xs,hq,hx⟩:=hg
  obtain⟨its,rv,p,hz⟩:=I.tuple hq
  obtain⟨f0,f1,f2,f3,f4,f5⟩:=hf it (by simp)
  have hl:=rv.length
  exact wpAny_pyNext_tuple_end (I.ok.hd hc) st (show s.heap.IsTuple a its.toArray from p) (by simp;lia) fun h' eb=>⟨rfl,I.turned (t':=s.toks) (fun b o hb e=>eb b o hb e) f0 f1 f3 f4 f5⟩
 self:=fun _ _ _ _ _ st h=>wpAny_pyIter_tupleiter st h
theorem F3{P:Program}{w:World}{K:PySem.W.Frag}{tg:Expr}(it:Addr)(lo:Int)(n:Nat):Turn P w K tg (kZ lo n) [it] it (fun i h=>IsRangeIter h it (lo+(i:Nat)*1) ((n:Int)-(i:Nat)) 1)where
 mem:=by simp
 obj:=fun i h st b hb=>by
  have e:b=it:=by simpa using hb
  subst e
  exact⟨_,st,fun v z=>by
   have z':Data.fields _=Data.cell v:=z
   cases z'⟩
 keep:=fun i h h' st k=>k it (by simp) _ st
 item:=by
  intro X hP hw hK hc i pins s σ H E I hf st hg
  subst hP hw hK
  obtain⟨f0,f1,f2,f3,f4,f5⟩:=hf it (by simp)
  have W:=Walks.range (prog:=X.prog) (w:=X.w) (I.ok.hd hc) it lo 1 n
  refine W.item i s _ _ hg st fun v h' tk hv st' kk=>?_
  obtain⟨t,rfl⟩:=hv
  have I1:Inv X pins σ H {s with heap:=h',toks:=tk}:=I.turned (fun b o hb e=>kk b o (by simpa using hb) e) f0 f1 f3 f4 f5
  refine⟨_,rfl,qk (s:={s with heap:=h',toks:=tk}) (n:="range_iterator") st' rfl rfl (by decide) ⟨.int (lo+i),H,I1,⟨t,?_⟩,⟨rfl,rfl⟩,st',fun b hb=>(hf b hb).1⟩⟩
  rw[Int.mul_one]
 done:=by
  intro X hP hw hK hc i pins s σ H E I hf st hg
  subst hP hw hK
  obtain⟨f0,f1,f2,f3,f4,f5⟩:=hf it (by simp)
  exact wpAny_pyNext_range_end (I.ok.hd hc) st (by have:n<=i:=hg;lia) fun h' eb=>⟨rfl,I.turned (t':=s.toks) (fun b o hb e=>eb b o hb e) f0 f1 f3 f4 f5⟩
 self:=fun _ _ _ _ _ st h=>wpAny_pyIter_rangeiter st h
section
variable{X:Cx}{tg:Expr}
def jt(K:PySem.W.Frag)(tl:TE):TI:=fun σ H R=>tl σ H fun x H1=>∃a,x= .ref a/\(∃xs,SqL K H1 a xs)/\R (ji K a) H1
def vi(K:PySem.W.Frag)(tl:TE):TI:=fun σ H R=>tl σ H fun x H1=>∃a,x= .ref a/\(∃xs,SqT K H1 a xs)/\R (nC K a) H1
theorem jx{l:Expr}{tl:TE}(hl:PE X l tl):PI X tg l (jt X.K tl):=by
 intro pins s σ H R I h
 refine ix (hl pins s σ H _ I h) fun v s1 ⟨x,H1,I1,r1,q1⟩=>?_
 obtain⟨a,e,⟨xs,hq⟩,q⟩:=q1
 subst e
 cases r1
 obtain⟨its,rv,p,hz⟩:=I1.list hq
 refine dM p.isList ?_
 refine⟨s1.heap.objs.size,[s1.heap.objs.size],_,_,H1,rfl,I1.kept (t':=s1.toks) fun b o e=>af _ e,FC a _,⟨_,aJ _ rfl,rfl,rfl⟩,fun b hb=>?_,q⟩
 have e:b=s1.heap.objs.size:=by simpa using hb
 subst e
 exact I1.fpOk (au _) (I1.hok.fresh (au _))
theorem xK{l:Expr}{tl:TE}(hl:PE X l tl):PI X tg l (vi X.K tl):=by
 intro pins s σ H R I h
 refine ix (hl pins s σ H _ I h) fun v s1 ⟨x,H1,I1,r1,q1⟩=>?_
 obtain⟨a,e,⟨xs,hq⟩,q⟩:=q1
 subst e
 cases r1
 obtain⟨its,rv,p,hz⟩:=I1.tuple hq
 refine gb (show s1.heap.IsTuple a its.toArray from p) ?_
 refine⟨s1.heap.objs.size,[s1.heap.objs.size],_,_,H1,rfl,I1.kept (t':=s1.toks) fun b o e=>af _ e,F4 a _,⟨_,aJ _ rfl,rfl,rfl⟩,fun b hb=>?_,q⟩
 have e:b=s1.heap.objs.size:=by simpa using hb
 subst e
 exact I1.fpOk (au _) (I1.hok.fresh (au _))
theorem zD{pins:List (Addr×Obj)}{σ:St}{H:Hp}{s:Shared}{R:It->Hp->Prop}{E:Value->Shared->Prop}{lo hi:Int}{t u v:Tok}{tk:Nat}(I:Inv X pins σ H s)(h1:-(2^62)<=lo)(h2:lo<2^62)(h3:-(2^62)<=hi)(h4:hi<2^62)
  (q:R (kZ lo (hi-lo).toNat) H):wpAny (model X.prog X.w) X.A (pyIter (.ref s.heap.objs.size)) (vL X pins σ tg R) E {s with heap:=s.heap.push {cls:=.type "range",data:=.fields #[.int lo t,.int hi u,.int 1 v]},toks:=tk}:=by
 refine wpAny_pyIter_range (IsRange.new ..) (small_one h1 h2 h3 h4) ?_
 have I1:Inv X pins σ H {s with heap:=s.heap.push {cls:=.type "range",data:=.fields #[.int lo t,.int hi u,.int 1 v]},toks:=tk}:=I.kept fun b o e=>af _ e
 refine⟨(s.heap.push {cls:=.type "range",data:=.fields #[.int lo t,.int hi u,.int 1 v]}).objs.size,[(s.heap.push {cls:=.type "range",data:=.fields #[.int lo t,.int hi u,.int 1 v]}).objs.size],_,_,H,rfl,
  I1.kept (t':=tk) fun b o e=>af _ e,F3 _ lo (hi-lo).toNat,?_,fun b hb=>?_,q⟩
 ·have e1:lo+((0:Nat):Int)*1=lo:=by simp
  have e2:(((hi-lo).toNat:Nat):Int)-((0:Nat):Int)=Builtin.Range.rangeSize lo hi 1:=by rw[rangeSize_one];split<;>lia
  show IsRangeIter _ _ (lo+((0:Nat):Int)*1) ((((hi-lo).toNat:Nat):Int)-((0:Nat):Int)) 1
  rw[e1,e2]
  exact aJ _ rfl
 ·have e:b=(s.heap.push {cls:=.type "range",data:=.fields #[.int lo t,.int hi u,.int 1 v]}).objs.size:=by simpa using hb
  subst e
  exact I1.fpOk (au _) (I1.hok.fresh (au _))
def oJ(ta:TA):TI:=fun σ H R=>ta σ H fun vs H1=>∃j:Int,vs=[.int j]/\-(2^62)<=j/\j<2^62/\R (kZ 0 j.toNat) H1
def A5(ta:TA):TI:=fun σ H R=>ta σ H fun vs H1=>∃i j:Int,vs=[.int i,.int j]/\(-(2^62)<=i/\i<2^62/\-(2^62)<=j/\j<2^62)/\R (kZ i (j-i).toNat) H1
theorem rH{a:Expr}{ta:TA}{p pos:Pos}(hg:Gl X "range")(hm:X.mg "range"=none)(ha:PA X [a] ta)(hs:starEach [a] X.env=[(false,eval a X.env)]:=by rfl):PI X tg (.Call (.Name "range" p) [a] [] pos) (oJ ta):=by
 intro pins s σ H R I h
 refine Call_ (lu I hg hm boot_range (bY (ix (ha pos pins s σ H _ I h) fun us s1 ⟨vs,H1,I1,r1,q1⟩=>?_) hs rfl))
 obtain⟨j,e,q1,q2,q⟩:=q1
 subst e
 cases r1 with
 |cons r rr=>
  cases rr
  obtain⟨t,rfl⟩:=r
  exact call_range_1 (zD I1 (by lia) (by lia) q1 q2 (by simpa using q))
theorem Fp{a b:Expr}{ta:TA}{p pos:Pos}(hg:Gl X "range")(hm:X.mg "range"=none)(ha:PA X [a,b] ta)(hs:starEach [a,b] X.env=[(false,eval a X.env),(false,eval b X.env)]:=by rfl)(hs2:starEach [b] X.env=[(false,eval b X.env)]:=by rfl):
  PI X tg (.Call (.Name "range" p) [a,b] [] pos) (A5 ta):=by
 intro pins s σ H R I h
 refine Call_ (lu I hg hm boot_range (bY (ix (ha pos pins s σ H _ I h) fun us s1 ⟨vs,H1,I1,r1,q1⟩=>?_) (by rw[hs,hs2]) (by rw[hs2];rfl)))
 obtain⟨i,j,e,⟨q1,q2,q3,q4⟩,q⟩:=q1
 subst e
 cases r1 with
 | cons r rr=>
  cases rr with
  |cons r' rr=>
   cases rr
   obtain⟨t,rfl⟩:=r
   obtain⟨t',rfl⟩:=r'
   exact call_range_2 (zD I1 q1 q2 q3 q4 q)
def pY(wi:TI)(g:TG)(tb:TS):TS:=fun D σ H=>wi σ H fun J H1=>∃W:Nat->Nat->St->Hp->Prop,(∃m,W 0 m σ H1)/\∀i m σ H,W i m σ H->
 (J.stop i H/\D.nx σ H)\/(J.go i H/\∃N:St->Hp->Prop,(∀σ' H',N σ' H'->∃m',m'<m/\W (i+1) m' σ' H')/\∀x H',J.yld i H x H'->g x σ H' fun σ2 H2=>tb {D with nx:=N,ct:=N,bk:=D.nx} σ2 H2)
def oU(fp:List Addr)(h:Heap):List (Addr×Obj):=fp.filterMap fun b=>(h.get? b).map fun o=>(b,o)
theorem rK{fp:List Addr}{h:Heap}{b:Addr}{o:Obj}(hb:b∈fp)(e:h.get? b=some o):(b,o)∈oU fp h:=List.mem_filterMap.mpr ⟨b,hb,by rw[e];rfl⟩
theorem Fg{fp:List Addr}{h:Heap}{p:Addr×Obj}(hp:p∈oU fp h):p.1∈fp/\h.get? p.1=some p.2:=by
 obtain⟨b,hb,e⟩:=List.mem_filterMap.mp hp
 cases q:h.get? b with
 |none=>rw[q]at e;cases e
 |some o=>
  rw[q]at e
  have e':(b,o)=p:=aL e
  subst e'
  exact⟨hb,q⟩
theorem Inv.pinned{pins:List (Addr×Obj)}{σ:St}{H:Hp}{s:Shared}{fp:List Addr}(I:Inv X pins σ H s)(hf:∀b∈fp,kK X pins H b)(ho:∀b∈fp,∃o,s.heap.get? b=some o/\∀v,o.data≠ .cell v):Inv X (pins++oU fp s.heap) σ H s:=
 I.pins_of fun p hp=>(aM.mp hp).elim (fun z=>I.pin p (bj _ z)) fun z=>by
  obtain⟨hb,e⟩:=Fg z
  obtain⟨f0,f1,f2,_⟩:=hf p.1 hb
  obtain⟨o,e',d⟩:=ho p.1 hb
  rw[e]at e';cases e'
  exact⟨e,f0,f1,f2,d⟩
theorem Inv.unpinned{pins pl:List (Addr×Obj)}{σ:St}{H:Hp}{s:Shared}(I:Inv X (pins++pl) σ H s):Inv X pins σ H s:=I.pins_of fun p hp=>I.pin p (bj _ (bh _ hp))
theorem jR{iter:Expr}{body:List Stmt}{wi:TI}{g:TG}{tb:TS}{pos:Pos}(hp:PassesOwn (model X.prog X.w) X.A X.env X.xe)(hc:X.calm=true)(hi:PI X tg iter wi)(hg:PG X tg g)(hb:PSs X body tb)
  (hs:∀x,foldedSetIterable iter X.env x=pure x:=by intro _;rfl):PS X (.For tg iter body [] pos) (pY wi g tb):=by
 intro pins s σ H D I h
 refine wpAny_For (ix (hi pins s σ H _ I h) fun v s1 h1=>ix h1 fun itv s2 h2=>?_) hs
 obtain⟨it,fp,tn,J,H2,e,I2,T,st2,f2,W,⟨m0,w0⟩,turn⟩:=h2
 subst e
  -- what stays true of the iterator's objects through the loop
 have stat:∀{H':Hp},(∀b∈fp,H' b=none)->∀b∈fp,kK X pins H' b:=fun hn b hb=>⟨hn b hb,(f2 b hb).2⟩
 refine codeAny_forLoop_any (fun n s'=>∃i σ' H',Inv X pins σ' H' s'/\tn i s'.heap/\(∀b∈fp,H' b=none)/\W i n σ' H') ?_ m0 ⟨0,σ,H2,I2,st2,fun b hb=>(f2 b hb).1,w0⟩
 rintro n s3 ⟨i,σ3,H3,I3,st3,fr3,w3⟩
 rcases turn i n σ3 H3 w3 with⟨stop,qn⟩|⟨go,N,hN,step⟩
 ·refine c8 hp (ix (T.done X rfl rfl rfl hc i pins s3 σ3 H3 X.xe I3 (stat fr3) st3 stop) fun r s4 ⟨hr,I4⟩=>?_)
  subst hr
  exact fJ ⟨σ3,H3,I4,qn⟩
 ·refine c8 hp (ix (T.item X rfl rfl rfl hc i pins s3 σ3 H3 X.xe I3 (stat fr3) st3 go) fun r s4 ⟨u,hr,h4⟩=>?_)
  subst hr
  refine c8 hp (ix h4 fun _ s5 ⟨x,H5,I5,r5,y5,st5,fr5⟩=>?_)
  have I5':=I5.pinned (stat fr5) (T.obj _ _ st5)
  refine c8 hp (ix (hg _ s5 σ3 H5 x u _ I5' r5 (step x H5 y5)) fun _ s6 ⟨σ6,H6,I6,q6⟩=>?_)
  refine c8 hp (ix (hb _ s6 σ6 H6 _ I6 q6) fun f s7 q7=>?_)
  have again:∀{σ7:St} {H7:Hp},Inv X (pins++oU fp s5.heap) σ7 H7 s7->N σ7 H7->∃m,m<n/\∃i σ' H',Inv X pins σ' H' s7/\tn i s7.heap/\(∀b∈fp,H' b=none)/\W i m σ' H':=fun{σ7 H7} I7 n7=>by
   obtain⟨m',hm,w7⟩:=hN σ7 H7 n7
   refine⟨m',hm,i+1,σ7,H7,I7.unpinned,T.keep _ _ _ st5 fun b hb o e=>(I7.pin (b,o) (bj _ (bj _ (rK hb e)))).1,fun b hb=>?_,w7⟩
   obtain⟨o,e,d⟩:=T.obj _ _ st5 b hb
   exact(I7.pin (b,o) (bj _ (bj _ (rK hb e)))).2.1
  cases f with
  |next=>obtain⟨σ7,H7,I7,n7⟩:=q7;exact again I7 n7
  |cont=>obtain⟨σ7,H7,I7,n7⟩:=q7;exact again I7 n7
  |brk=>obtain⟨σ7,H7,I7,q7⟩:=q7;exact⟨σ7,H7,I7.unpinned,q7⟩
  |ret v=>obtain⟨x7,σ7,H7,I7,r7,q7⟩:=q7;exact⟨x7,σ7,H7,I7.unpinned,r7,q7⟩
end
theorem kO{K:PySem.W.Frag}{a:Addr}{xs:List V}{g:TG}{tb:TS}{D:Ends}{σ:St}{H:Hp}(Pv:Nat->St->Hp->Prop)(h0:Pv 0 σ H)(hl:∀i σ H,i<=xs.length->Pv i σ H->SqL K H a xs)
  (hs:∀i x σ H,xs[i]? =some x->Pv i σ H->g x σ H fun σ2 H2=>tb {D with nx:=Pv (i+1),ct:=Pv (i+1),bk:=D.nx} σ2 H2) (hd:∀σ H,Pv xs.length σ H->D.nx σ H):
  ∃W:Nat->Nat->St->Hp->Prop,(∃m,W 0 m σ H)/\∀i m σ H,W i m σ H->
   ((ji K a).stop i H/\D.nx σ H)\/((ji K a).go i H/\∃N:St->Hp->Prop,(∀σ' H',N σ' H'->∃m',m'<m/\W (i+1) m' σ' H')/\∀x H',(ji K a).yld i H x H'->g x σ H' fun σ2 H2=>tb {D with nx:=N,ct:=N,bk:=D.nx} σ2 H2):=by
 refine⟨fun i m σ H=>m=xs.length-i/\i<=xs.length/\Pv i σ H,⟨xs.length,by simp,bw _,h0⟩,?_⟩
 rintro i m σ H ⟨rfl,hi,p⟩
 have q:=hl i σ H hi p
 by_cases hlt:i<xs.length
 ·refine .inr ⟨⟨xs,xs[i],q,by simp[hlt]⟩,Pv (i+1),fun σ' H' p'=>⟨xs.length-(i+1),by lia,rfl,hlt,p'⟩,fun x H' y=>?_⟩
  obtain⟨e,y⟩:=y
  subst e
  exact hs i x σ _ (y xs q) p
 ·have e:i=xs.length:=by lia
  subst e
  exact .inl ⟨⟨xs,q,au _⟩,hd σ H p⟩
theorem Dg{K:PySem.W.Frag}{a:Addr}{xs:List V}{g:TG}{tb:TS}{D:Ends}{σ:St}{H:Hp}(Pv:Nat->St->Hp->Prop)(h0:Pv 0 σ H)(hl:∀i σ H,i<=xs.length->Pv i σ H->SqT K H a xs)
  (hs:∀i x σ H,xs[i]? =some x->Pv i σ H->g x σ H fun σ2 H2=>tb {D with nx:=Pv (i+1),ct:=Pv (i+1),bk:=D.nx} σ2 H2) (hd:∀σ H,Pv xs.length σ H->D.nx σ H):
  ∃W:Nat->Nat->St->Hp->Prop,(∃m,W 0 m σ H)/\∀i m σ H,W i m σ H->
   ((nC K a).stop i H/\D.nx σ H)\/((nC K a).go i H/\∃N:St->Hp->Prop,(∀σ' H',N σ' H'->∃m',m'<m/\W (i+1) m' σ' H')/\∀x H',(nC K a).yld i H x H'->g x σ H' fun σ2 H2=>tb {D with nx:=N,ct:=N,bk:=D.nx} σ2 H2):=by
 refine⟨fun i m σ H=>m=xs.length-i/\i<=xs.length/\Pv i σ H,⟨xs.length,by simp,bw _,h0⟩,?_⟩
 rintro i m σ H ⟨rfl,hi,p⟩
 have q:=hl i σ H hi p
 by_cases hlt:i<xs.length
 ·refine .inr ⟨⟨xs,xs[i],q,by simp[hlt]⟩,Pv (i+1),fun σ' H' p'=>⟨xs.length-(i+1),by lia,rfl,hlt,p'⟩,fun x H' y=>?_⟩
  obtain⟨e,y⟩:=y
  subst e
  exact hs i x σ _ (y xs q) p
 ·have e:i=xs.length:=by lia
  subst e
  exact .inl ⟨⟨xs,q,au _⟩,hd σ H p⟩
theorem rF{lo:Int}{n:Nat}{g:TG}{tb:TS}{D:Ends}{σ:St}{H:Hp}(Pv:Nat->St->Hp->Prop)(h0:Pv 0 σ H)
  (hs:∀i σ H,i<n->Pv i σ H->g (.int (lo+i)) σ H fun σ2 H2=>tb {D with nx:=Pv (i+1),ct:=Pv (i+1),bk:=D.nx} σ2 H2) (hd:∀σ H,Pv n σ H->D.nx σ H):
  ∃W:Nat->Nat->St->Hp->Prop,(∃m,W 0 m σ H)/\∀i m σ H,W i m σ H->
   ((kZ lo n).stop i H/\D.nx σ H)\/((kZ lo n).go i H/\∃N:St->Hp->Prop,(∀σ' H',N σ' H'->∃m',m'<m/\W (i+1) m' σ' H')/\∀x H',(kZ lo n).yld i H x H'->g x σ H' fun σ2 H2=>tb {D with nx:=N,ct:=N,bk:=D.nx} σ2 H2):=by
 refine⟨fun i m σ H=>m=n-i/\i<=n/\Pv i σ H,⟨n,by simp,bw _,h0⟩,?_⟩
 rintro i m σ H ⟨rfl,hi,p⟩
 by_cases hlt:i<n
 ·refine .inr ⟨hlt,Pv (i+1),fun σ' H' p'=>⟨n-(i+1),by lia,rfl,hlt,p'⟩,fun x H' y=>?_⟩
  obtain⟨e,y⟩:=y
  subst e y
  exact hs i σ _ hlt p
 ·have e:i=n:=by lia
  subst e
  exact .inl ⟨au _,hd σ H p⟩
theorem rD{c:TT}{tb:TS}{D:Ends}{σ:St}{H:Hp}(Pv:St->Hp->Prop)(μ:St->Hp->Nat)(h0:Pv σ H)
  (hs:∀σ H,Pv σ H->c σ H fun b H1=>if b=true then tb {D with nx:=fun σ' H'=>Pv σ' H'/\μ σ' H'<μ σ H,ct:=fun σ' H'=>Pv σ' H'/\μ σ' H'<μ σ H,bk:=D.nx} σ H1 else D.nx σ H1)
  (mono:∀σ H Q Q',(∀b H1,Q b H1->Q' b H1)->c σ H Q->c σ H Q'):xY c tb D σ H:=by
 refine⟨fun m σ H=>m=μ σ H/\Pv σ H,⟨_,rfl,h0⟩,?_⟩
 rintro m σ H ⟨rfl,p⟩
 refine mono σ H _ _ (fun b H1 q=>?_) (hs σ H p)
 cases b with
 |true=>exact⟨_,fun σ' H' ⟨p',l⟩=>⟨_,l,rfl,p'⟩,q⟩
 |false=>exact q
abbrev R2:=V->V->Hp->VK->Prop
def OpR(X:Cx)(f:Value->Value->Sem Value)(r:R2):Prop:=
 ∀(pins:List (Addr×Obj)) (s:Shared) (σ:St) (H:Hp) (x y:V) (v u:Value) (Q:VK),Inv X pins σ H s->RelV x v->RelV y u->r x y H Q->
  wpAny (model X.prog X.w) X.A (f v u) (EP X pins σ Q) X.xe s
def rS(X:Cx)(f:Value->Sem Value)(r:V->Hp->VK->Prop):Prop:=
 ∀(pins:List (Addr×Obj)) (s:Shared) (σ:St) (H:Hp) (x:V) (v:Value) (Q:VK),Inv X pins σ H s->RelV x v->r x H Q->
  wpAny (model X.prog X.w) X.A (f v) (EP X pins σ Q) X.xe s
def jc8(X:Cx)(f:Value)(r:List V->Hp->VK->Prop):Prop:=
 ∀(pins:List (Addr×Obj)) (s:Shared) (σ:St) (H:Hp) (xs:List V) (us:List Value) (Q:VK),Inv X pins σ H s->Vals xs us->r xs H Q->
  wpAny (model X.prog X.w) X.A (call f us) (EP X pins σ Q) X.xe s
def Ia(X:Cx)(r:V->Hp->(Bool->Hp->Prop)->Prop):Prop:=
 ∀(pins:List (Addr×Obj)) (s:Shared) (σ:St) (H:Hp) (x:V) (v:Value) (Q:Bool->Hp->Prop),Inv X pins σ H s->RelV x v->r x H Q->
  wpAny (model X.prog X.w) X.A (truthy v) (TP X pins σ Q) X.xe s
def mO(r:R2)(ta tb:TE):TE:=fun σ H Q=>ta σ H fun x H1=>tb σ H1 fun y H2=>r x y H2 Q
def vT(r:V->Hp->VK->Prop)(ta:TE):TE:=fun σ H Q=>ta σ H fun x H1=>r x H1 Q
def rI(C:Int->Int->Prop)(g:Int->Int->V):R2:=fun x y H Q=>∃i j,x= .int i/\y= .int j/\C i j/\Q (g i j) H
def lB(g:Int->Int->V):R2:=fun x y H Q=>∃i j,x= .int i/\y= .int j/\Q (g i j) H
def rU(g:Int->V):V->Hp->VK->Prop:=fun x H Q=>∃i,x= .int i/\Q (g i) H
section
variable{X:Cx}{a b c:Expr}{ta tb tc:TE}{pos:Pos}
theorem vI(ha:PE X a ta)(hb:PE X b tb){pins:List (Addr×Obj)}{s:Shared}{σ:St}{H:Hp}{R:V->V->Hp->Prop}(I:Inv X pins σ H s)
  (h:ta σ H fun x H1=>tb σ H1 fun y H2=>R x y H2) {Q:Value->Shared->Prop} {f:Value->Value->Sem Value}
  (hf:∀v u s2 x y H2,Inv X pins σ H2 s2->RelV x v->RelV y u->R x y H2->wpAny (model X.prog X.w) X.A (f v u) Q X.xe s2):
  wpAny (model X.prog X.w) X.A (eval a X.env) (fun v s₁=>wpAny (model X.prog X.w) X.A (eval b X.env) (fun u s₂=>wpAny (model X.prog X.w) X.A (f v u) Q X.xe s₂) X.xe s₁) X.xe s:=by
 refine ix (ha pins s σ H _ I h) fun v s1 ⟨x,H1,I1,r1,q1⟩=>?_
 refine ix (hb pins s1 σ H1 _ I1 q1) fun u s2 ⟨y,H2,I2,r2,q2⟩=>?_
 exact hf v u s2 x y H2 I2 r1 r2 q2
theorem iO{op:Operator}{r:R2}(ho:OpR X (binaryOp op) r)(ha:PE X a ta)(hb:PE X b tb):PE X (.BinOp a op b pos) (mO r ta tb):=by
 intro pins s σ H Q I h
 exact wpAny_BinOp (vI ha hb I h fun v u s2 x y H2 I2 rx ry q=>ho pins s2 σ H2 x y v u Q I2 rx ry q)
theorem ql{op:UnaryOp}{r:V->Hp->VK->Prop}(ho:rS X (unaryOp op) r)(ha:PE X a ta):PE X (.UnaryOp op a pos) (vT r ta):=by
 intro pins s σ H Q I h
 exact UnaryOp_ (ix (ha pins s σ H _ I h) fun v s1 ⟨x,H1,I1,r1,q1⟩=>ho pins s1 σ H1 x v Q I1 r1 q1)
theorem qf{f:Value->Value->Sem Value}{C:Int->Int->Prop}{g:Int->Int->Int}
  (rule:∀(i j:Int) (t u:Tok) (s:Shared) (Q:Value->Shared->Prop) (E:Value->Shared->Prop),C i j->Q (.int (g i j) s.toks) {s with toks:=s.toks+1}->wpAny (model X.prog X.w) X.A (f (.int i t) (.int j u)) Q E s):
  OpR X f (rI C fun i j=>.int (g i j)):=by
 intro pins s σ H x y v u Q I rx ry h
 obtain⟨i,j,rfl,rfl,hc,q⟩:=h
 obtain⟨t,rfl⟩:=rx
 obtain⟨t',rfl⟩:=ry
 exact rule i j t t' s _ _ hc ⟨.int (g i j),H,I.tok _,⟨_,rfl⟩,q⟩
theorem si{f:Value->Value->Sem Value}{g:Int->Int->Int}
  (rule:∀(i j:Int) (t u:Tok) (s:Shared) (Q:Value->Shared->Prop) (E:Value->Shared->Prop),Q (.int (g i j) s.toks) {s with toks:=s.toks+1}->wpAny (model X.prog X.w) X.A (f (.int i t) (.int j u)) Q E s):
  OpR X f (lB fun i j=>.int (g i j)):=by
 intro pins s σ H x y v u Q I rx ry h
 obtain⟨i,j,rfl,rfl,q⟩:=h
 obtain⟨t,rfl⟩:=rx
 obtain⟨t',rfl⟩:=ry
 exact rule i j t t' s _ _ ⟨.int (g i j),H,I.tok _,⟨_,rfl⟩,q⟩
theorem qg{f:Value->Value->Sem Value}{g:Int->Int->Bool}
  (rule:∀(i j:Int) (t u:Tok) (s:Shared) (Q:Value->Shared->Prop) (E:Value->Shared->Prop),Q (.bool (g i j)) s->wpAny (model X.prog X.w) X.A (f (.int i t) (.int j u)) Q E s):
  OpR X f (lB fun i j=>.bl (g i j)):=by
 intro pins s σ H x y v u Q I rx ry h
 obtain⟨i,j,rfl,rfl,q⟩:=h
 obtain⟨t,rfl⟩:=rx
 obtain⟨t',rfl⟩:=ry
 exact rule i j t t' s _ _ ⟨.bl (g i j),H,I,rfl,q⟩
def pS(i j:Int):Prop:=0<j/\j<1073741824
def rY(i j:Int):Prop:=0<=j/\j<=1000000/\i.natAbs<2^64
def CMul(i j:Int):Prop:=(-(2^64)<i/\i<2^64)\/(-(2^64)<j/\j<2^64)
theorem CMul.ok{i j:Int}(h:CMul i j):IntMulOk i j:=by
 rcases h with⟨h1,h2⟩|⟨h1,h2⟩
 ·exact .of_left (intBits_le_64 h1 h2)
 ·exact .of_right (intBits_le_64 h1 h2)
theorem CH:OpR X (binaryOp .Add) (lB fun i j=>.int (i+j)):=si fun _ _ _ _ _ _ _ q=>add_int q
theorem Cs:OpR X (binaryOp .Sub) (lB fun i j=>.int (i-j)):=si fun _ _ _ _ _ _ _ q=>sub_int q
theorem Cv:OpR X (binaryOp .Mult) (rI CMul fun i j=>.int (i*j)):=qf fun _ _ _ _ _ _ _ hc q=>mul_int q hc.ok
theorem DA:OpR X (binaryOp .FloorDiv) (rI pS fun i j=>.int (i/j)):=qf fun i j _ _ _ _ _ hc q=>by
 have h1:(0:Int)<j:=hc.1
 have h2:j<1073741824:=hc.2
 exact floordiv_int (by lia) (by rw[Int.fdiv_eq_ediv_of_nonneg i (by lia)];exact q) (.inl (PyProof.noPylong_small (by lia)))
theorem Cw:OpR X (binaryOp .Mod) (rI (fun _ j=>0<j) fun i j=>.int (i%j)):=qf fun i j _ _ _ _ _ hc q=>by
 have h1:(0:Int)<j:=hc
 exact mod_int' (by lia) (by rw[Int.fmod_eq_emod_of_nonneg i (by lia)];exact q)
theorem Ct:OpR X (binaryOp .Pow) (rI rY fun i j=>.int (i^j.toNat)):=qf fun _ _ _ _ _ _ _ hc q=>pow_int_small hc.1 hc.2.1 hc.2.2 q
theorem Dl:OpR X (inplaceOp .Add) (lB fun i j=>.int (i+j)):=si fun _ _ _ _ _ _ _ q=>iadd_int q
theorem unI{f:Value->Sem Value}{g:Int->Int}
  (rule:∀(i:Int) (t:Tok) (s:Shared) (Q:Value->Shared->Prop) (E:Value->Shared->Prop),Q (.int (g i) s.toks) {s with toks:=s.toks+1}->wpAny (model X.prog X.w) X.A (f (.int i t)) Q E s):
  rS X f (rU fun i=>.int (g i)):=by
 intro pins s σ H x v Q I rx h
 obtain⟨i,rfl,q⟩:=h
 obtain⟨t,rfl⟩:=rx
 exact rule i t s _ _ ⟨.int (g i),H,I.tok _,⟨_,rfl⟩,q⟩
theorem Bz:rS X (unaryOp .USub) (rU fun i=>.int (-i)):=unI fun _ _ _ _ _ q=>neg_int q
end
def wF:V->V->Bool
 | .non,.non=>true| .non,.int _=>true| .int _,.non=>true| .non,.bl _=>true| .bl _,.non=>true| .non,.str _=>true| .str _,.non=>true
 | .int _,.int _=>true| .bl _,.bl _=>true| .str _,.str _=>true| .byt _,.byt _=>true
 | .int _,.str _=>true| .str _,.int _=>true| .bl _,.str _=>true| .str _,.bl _=>true
 |_,_=>false
def Ca:R2:=fun x y H Q=>wF x y=true/\Q (.bl (decide (x=y))) H
def B3:R2:=fun x y H Q=>wF x y=true/\Q (.bl (!decide (x=y))) H
theorem yf{i j:Int}:decide (V.int i=V.int j)=(i==j):=by
 rw[c9]
 simp
theorem xg{i j:Bool}:decide (V.bl i=V.bl j)=(i==j):=by
 rw[c9]
 simp
theorem yg{i j:Str}:decide (V.str i=V.str j)=(i==j):=by
 rw[c9]
 simp
theorem ye{i j:Array UInt8}:decide (V.byt i=V.byt j)=(i.toList==j.toList):=by
 rw[c9]
 cases i
 cases j
 simp
section
variable{X:Cx}{a b c:Expr}{ta tb tc:TE}{pos:Pos}
theorem jm{pins:List (Addr×Obj)}{σ:St}{H:Hp}{s:Shared}{Q:VK}{k k':Bool}(I:Inv X pins σ H s)(q:Q (.bl k) H)(e:k=k'):EP X pins σ Q (.bool k') s:=by
 subst e
 exact⟨.bl k,H,I,rfl,q⟩
theorem CF:OpR X (compareOp .Eq) Ca:=by
 intro pins s σ H x y v u Q I rx ry h
 obtain⟨hs,q⟩:=h
 cases x with
 |non=>
  cases rx
  cases y with
  |non=>cases ry;exact PySem.EqNone.eq_none_none (jm I q (by simp))
  |bl j=>cases ry;exact PySem.EqNone.eq_none_bool (jm I q (by simp))
  |int j=>obtain⟨t',rfl⟩:=ry;exact PySem.EqNone.eq_none_int (jm I q (by simp))
  |str j=>obtain⟨t',rfl⟩:=ry;exact PySem.EqNone.eq_none_str (jm I q (by simp))
  |_=>exact absurd (show false=true from hs) aY
 |bl i=>
  cases rx
  cases y with
  |non=>cases ry;exact PySem.EqNone.eq_bool_none (jm I q (by simp))
  |bl j=>cases ry;exact eq_bool (jm I q xg)
  |str j=>obtain⟨t',rfl⟩:=ry;exact PySem.EqMixed.eq_bool_str (jm I q (by simp))
  |_=>exact absurd (show false=true from hs) aY
 |int i=>
  obtain⟨t,rfl⟩:=rx
  cases y with
  |non=>cases ry;exact PySem.EqNone.eq_int_none (jm I q (by simp))
  |int j=>obtain⟨t',rfl⟩:=ry;exact eq_int (jm I q yf)
  |str j=>obtain⟨t',rfl⟩:=ry;exact PySem.EqMixed.eq_int_str (jm I q (by simp))
  |_=>exact absurd (show false=true from hs) aY
 |str i=>
  obtain⟨t,rfl⟩:=rx
  cases y with
  |non=>cases ry;exact PySem.EqNone.eq_str_none (jm I q (by simp))
  |bl j=>cases ry;exact PySem.EqMixed.eq_str_bool (jm I q (by simp))
  |int j=>obtain⟨t',rfl⟩:=ry;exact PySem.EqMixed.eq_str_int (jm I q (by simp))
  |str j=>obtain⟨t',rfl⟩:=ry;exact eq_str (jm I q yg)
  |_=>exact absurd (show false=true from hs) aY
 |byt i=>
  obtain⟨t,rfl⟩:=rx
  cases y with
  |byt j=>obtain⟨t',rfl⟩:=ry;exact PySem.W.eq_bytes (jm I q ye)
  |_=>exact absurd (show false=true from hs) aY
 |_=>cases y<;>exact absurd (show false=true from hs) aY
theorem Cu:OpR X (compareOp .NotEq) B3:=by
 intro pins s σ H x y v u Q I rx ry h
 obtain⟨hs,q⟩:=h
 cases x with
 |non=>
  cases rx
  cases y with
  |non=>cases ry;exact PySem.EqNone.ne_none_none (jm I q (by simp))
  |bl j=>cases ry;exact PySem.EqNone.ne_none_bool (jm I q (by simp))
  |int j=>obtain⟨t',rfl⟩:=ry;exact PySem.EqNone.ne_none_int (jm I q (by simp))
  |str j=>obtain⟨t',rfl⟩:=ry;exact PySem.EqNone.ne_none_str (jm I q (by simp))
  |_=>exact absurd (show false=true from hs) aY
 |bl i=>
  cases rx
  cases y with
  |non=>cases ry;exact PySem.EqNone.ne_bool_none (jm I q (by simp))
  |bl j=>cases ry;exact ne_bool (jm I q (bN not xg))
  |str j=>obtain⟨t',rfl⟩:=ry;exact PySem.EqMixed.ne_bool_str (jm I q (by simp))
  |_=>exact absurd (show false=true from hs) aY
 |int i=>
  obtain⟨t,rfl⟩:=rx
  cases y with
  |non=>cases ry;exact PySem.EqNone.ne_int_none (jm I q (by simp))
  |int j=>obtain⟨t',rfl⟩:=ry;exact ne_int (jm I q (bN not yf))
  |str j=>obtain⟨t',rfl⟩:=ry;exact PySem.EqMixed.ne_int_str (jm I q (by simp))
  |_=>exact absurd (show false=true from hs) aY
 |str i=>
  obtain⟨t,rfl⟩:=rx
  cases y with
  |non=>cases ry;exact PySem.EqNone.ne_str_none (jm I q (by simp))
  |bl j=>cases ry;exact PySem.EqMixed.ne_str_bool (jm I q (by simp))
  |int j=>obtain⟨t',rfl⟩:=ry;exact PySem.EqMixed.ne_str_int (jm I q (by simp))
  |str j=>obtain⟨t',rfl⟩:=ry;exact ne_str (jm I q (bN not yg))
  |_=>exact absurd (show false=true from hs) aY
 |byt i=>
  obtain⟨t,rfl⟩:=rx
  cases y with
  |byt j=>obtain⟨t',rfl⟩:=ry;exact PySem.W.ne_bytes (jm I q (bN not ye))
  |_=>exact absurd (show false=true from hs) aY
 |_=>cases y<;>exact absurd (show false=true from hs) aY
theorem Cz:OpR X (compareOp .Lt) (lB fun i j=>.bl (decide (i<j))):=qg fun _ _ _ _ _ _ _ q=>lt_int q
theorem CA:OpR X (compareOp .LtE) (lB fun i j=>.bl (decide (i<=j))):=qg fun _ _ _ _ _ _ _ q=>le_int q
theorem CC:OpR X (compareOp .Gt) (lB fun i j=>.bl (decide (j<i))):=qg fun _ _ _ _ _ _ _ q=>gt_int q
theorem CD:OpR X (compareOp .GtE) (lB fun i j=>.bl (decide (j<=i))):=qg fun _ _ _ _ _ _ _ q=>ge_int q
theorem CB:OpR X (compareOp .Is) (fun x y H Q=>y= .non/\Q (.bl (decide (x= .non))) H):=by
 intro pins s σ H x y v u Q I rx ry h
 obtain⟨rfl,q⟩:=h
 cases ry
 refine is_none_gen (jm I q ?_)
 cases x<;>first
  |(cases rx;rfl)
  |(obtain⟨t,rfl⟩:=rx;rfl)
theorem DB:OpR X (compareOp .IsNot) (fun x y H Q=>y= .non/\Q (.bl (!decide (x= .non))) H):=by
 intro pins s σ H x y v u Q I rx ry h
 obtain⟨rfl,q⟩:=h
 cases ry
 refine isnot_none_gen (jm I q ?_)
 cases x<;>first
  |(cases rx;rfl)
  |(obtain⟨t,rfl⟩:=rx;rfl)
theorem iQ(b:Expr){op:CmpOp}(h:op≠ .In:=by decide)(h2:op≠ .NotIn:=by decide):behindInMarks op b=false:=by
 have e1:(op==CmpOp.In)=false:=by cases op<;>first|rfl|exact absurd rfl h
 have e2:(op==CmpOp.NotIn)=false:=by cases op<;>first|rfl|exact absurd rfl h2
 cases b<;>simp[behindInMarks,e1,e2]
theorem ly{op:CmpOp}{r:R2}(ho:OpR X (compareOp op) r)(ha:PE X a ta)(hb:PE X b tb)(hm:behindInMarks op b=false):PE X (.Compare a [op] [b] pos) (mO r ta tb):=by
 intro pins s σ H Q I h
 exact wpAny_Compare1 (vI ha hb I h fun v u s2 x y H2 I2 rx ry q=>ho pins s2 σ H2 x y v u Q I2 rx ry q) hm
def Bp(K:PySem.W.Frag)(x:V)(H:Hp)(k:Bool):Prop:=
 match x with
 | .non=>k=false
 | .bl b=>k=b
 | .int i=>k=(i !=0)
 | .str y=>y.length<=sizeLine/\k=((y.length:Int) !=0)
 | .byt y=>y.size<=sizeLine/\k=((y.size:Int) !=0)
 | .ref p=>(∃xs,SqL K H p xs/\k= !xs.isEmpty)\/(∃xs,SqT K H p xs/\k= !xs.isEmpty)\/∃kvs,H p=some (.dK kvs)/\k= !kvs.isEmpty
 |_=>False
theorem FL{κ:Type}{kvs:List (κ×V)}{vs:List (κ×Value)}(r:KV kvs vs):(!vs.isEmpty)= !kvs.isEmpty:=by
 cases r<;>rfl
theorem Au{xs:List V}{its:List Value}(r:Vals xs its):(!its.toArray.isEmpty)= !xs.isEmpty:=by
 cases r<;>simp
theorem nM:(sizeLine:Nat)<2^63:=by rw[gS];decide
theorem BB:Ia X (fun x H Q=>∃k,Bp X.K x H k/\Q k H):=by
 intro pins s σ H x v Q I rx h
 obtain⟨k,e,q⟩:=h
 have hl:=nM
 have hs:sizeLine=16777216:=gS
 cases x with
 |non=>
  cases rx
  have e':k=false:=e
  subst e'
  exact truthy_none ⟨H,I,q⟩
 |bl b=>
  cases rx
  have e':k=b:=e
  subst e'
  exact cN ⟨H,I,q⟩
 |int i=>
  obtain⟨t,rfl⟩:=rx
  have e':k=(i !=0):=e
  subst e'
  exact PySem.P.truthy_int ⟨H,I,q⟩
 |str y=>
  obtain⟨t,rfl⟩:=rx
  obtain⟨hy,e'⟩:y.length<=sizeLine/\k=((y.length:Int) !=0):=e
  subst e'
  exact PySem.P.truthy_str (by lia) ⟨H,I.tok _,q⟩
 |byt y=>
  obtain⟨t,rfl⟩:=rx
  obtain⟨hy,e'⟩:y.size<=sizeLine/\k=((y.size:Int) !=0):=e
  subst e'
  exact PySem.W.truthy_bytes (by lia) ⟨H,I.tok _,q⟩
 | ref p=>
  cases rx
  have e':(∃xs,SqL X.K H p xs/\k= !xs.isEmpty)\/(∃xs,SqT X.K H p xs/\k= !xs.isEmpty)\/∃kvs,H p=some (.dK kvs)/\k= !kvs.isEmpty:=e
  rcases e' with⟨xs,hx,e'⟩|⟨xs,hx,e'⟩|⟨kvs,hx,e'⟩
  ·subst e'
   obtain⟨its,r,pl,hz⟩:=I.list hx
   have hlen:=r.length
   exact wpAny_truthy_list pl.isList (by simp only[aq];lia) ⟨H,I.tok _,by rw[Au r];exact q⟩
  ·subst e'
   obtain⟨its,r,pl,hz⟩:=I.tuple hx
   have hlen:=r.length
   exact truthy_tuple pl (by simp only[aq];lia) ⟨H,I.tok _,by rw[Au r];exact q⟩
  ·subst e'
   obtain⟨hz,hS,vs,r,m⟩:kvs.length<=sizeLine/\(p==sysModules)=false/\∃vs,KV kvs vs/\s.heap.DictOf (jH X.prog X.w) p vs:=I.hok p _ hx
   have hlen:kvs.length=vs.length:=aO r
   exact wpAny_truthy_dict hS m (by lia) ⟨H,I.tok _,by rw[FL r];exact q⟩
 |_=>exact(show False from e).elim
theorem Eu (ha:PE X a ta) (he:∀ whole,isTrue a X.env whole = (do let v <- whole; standAt a.pos; holding [v] (truthy v))) :
  PT X a (fun σ H Q=>ta σ H fun x H'=>∃k,Bp X.K x H' k/\Q k H'):=by
 intro pins s σ H Q I h
 exact isTrue_plain (ix (ha pins s σ H _ I h) fun v s1 ⟨x,H1,I1,r1,q1⟩=>BB pins s1 σ H1 x v Q I1 r1 q1) (he _)
theorem lI{x:V}{us:List Value}(r:Vals [x] us):∃u,us=[u]/\RelV x u:=by
 cases r with
 |cons r1 r2=>cases r2;exact⟨_,rfl,r1⟩
theorem vals2{x y:V}{us:List Value}(r:Vals [x,y] us):∃u w',us=[u,w']/\RelV x u/\RelV y w':=by
 cases r with
 |cons r1 r2=>
  cases r2 with
  |cons r3 r4=>cases r4;exact⟨_,_,rfl,r1,r3⟩
theorem EL(hc:X.calm=true):jc8 X (.builtin "max") (fun xs H Q=>∃i j,xs=[.int i,.int j]/\Q (.int (if j>i then j else i)) H):=by
 intro pins s σ H xs us Q I r h
 obtain⟨i,j,rfl,q⟩:=h
 obtain⟨u,w',rfl,⟨t,rfl⟩,⟨t',rfl⟩⟩:=vals2 r
 refine max_two_ints (I.ok.hd hc) fun h' tk k=>⟨_,H,I.kept k,?_,q⟩
 by_cases hj:j>i
 ·rw[az hj,az hj];exact⟨_,rfl⟩
 ·rw[ay hj,ay hj];exact⟨_,rfl⟩
theorem EM(hc:X.calm=true):jc8 X (.builtin "min") (fun xs H Q=>∃i j,xs=[.int i,.int j]/\Q (.int (if j<i then j else i)) H):=by
 intro pins s σ H xs us Q I r h
 obtain⟨i,j,rfl,q⟩:=h
 obtain⟨u,w',rfl,⟨t,rfl⟩,⟨t',rfl⟩⟩:=vals2 r
 refine min_two_ints (I.ok.hd hc) fun h' tk k=>⟨_,H,I.kept k,?_,q⟩
 by_cases hj:j<i
 ·rw[az hj,az hj];exact⟨_,rfl⟩
 ·rw[ay hj,ay hj];exact⟨_,rfl⟩
theorem EK:jc8 X (.type "int") (fun xs H Q=>(∃i,xs=[.int i]/\Q (.int i) H)\/∃k,xs=[.bl k]/\Q (.int (if k then 1 else 0)) H):=by
 intro pins s σ H xs us Q I r h
 rcases h with⟨i,rfl,q⟩|⟨k,rfl,q⟩
 ·obtain⟨u,rfl,t,rfl⟩:=lI r
  exact call_int_int ⟨.int i,H,I,⟨_,rfl⟩,q⟩
 ·obtain⟨u,rfl,r1⟩:=lI r
  cases r1
  exact call_int_bool ⟨.int (if k then 1 else 0),H,I.tok _,⟨_,rfl⟩,q⟩
end
structure ObjM(h:Heap)(x dx C:Addr)(mA:Str->Option Value):Prop where
 obj:h.get? x=some (PySem.W.instObj C dx)
 ns:h.Ns1 dx mA
 ne:dx≠x
theorem Fb{h:Heap}{dx:Addr}{mA:Str->Option Value}(n:h.Ns1 dx mA):∃od,h.get? dx=some od/\∀name,PySem.W.lookIn name od=some (mA name):=by
 obtain⟨o,es,ep,ho,hd,hk,_,hm⟩:=n
 refine⟨o,ho,fun name=>?_⟩
 have e:=hm name
 unfold nsFind findBy at e
 rw [<- Array.find?_toList] at e
 unfold PySem.W.lookIn
 rw[hd]
 dsimp only
 split
 ·rename_i y q
  rw[q]at e
  exact bN some e
 ·rename_i q
  rw[q]at e
  have a:es.toList.any (·.refKey)=false:=by
   rw[List.any_eq_false]
   intro y hy
   obtain⟨z,t,hkey⟩:=hk y (fT.mp hy)
   simp[DictEntry.refKey,hkey]
  have a':¬es.toList.any (·.refKey)=true:=by rw[a];exact aY
  rw[ay a']
  exact bN some e
theorem ObjM.look{h:Heap}{x dx C:Addr}{mA:Str->Option Value}(I:ObjM h x dx C mA):∃od,PySem.W.InstAt h x (PySem.W.instObj C dx) C (some od)/\∀name,PySem.W.lookIn name od=some (mA name):=
 let⟨od,ho,hl⟩:=Fb I.ns
 ⟨od,⟨I.obj,rfl,rfl,ho⟩,hl⟩
section
variable{prog:Program}{w:World}{A:Around}{E:Value->Shared->Prop}{s:Shared}{K:PySem.W.Frag}{x dx C f:Addr}{mA:Str->Option Value}{name:Str}{v:Value}
theorem Dh{expr:Bool}{Q:Value->Shared->Prop}(X:K.In s.heap)(I:ObjM s.heap x dx C mA)(hg:PySem.W.plainGet K C name=true)(hh:PySem.W.hasDictIn K C=true)
  (ha:PySem.W.findIn K (.ref C) name=some none) (hv:mA name=some v) (hv':PySem.W.handedIn v=true) (h:Q v {s with toks:=s.toks+1}):
  wpAny (model prog w) A (getAttr (.ref x) name expr) Q E s:=by
 obtain⟨od,J,hl⟩:=I.look
 exact PySem.W.get_value X J (fV hg).1 (PySem.W.findObj_own hh ha rfl (by rw[hl,hv])) hv' h
theorem Ea{pl:Sem Bool}{Q:Value×List Value->Shared->Prop}(X:K.In s.heap)(I:ObjM s.heap x dx C mA)(hg:PySem.W.plainGet K C name=true)
  (hf:PySem.W.findIn K (.ref C) name=some (some (.ref f))) (ht:PySem.W.isFn K (.ref f)=true) (hv:mA name=none) (h:Q (.ref f,[.ref x]) s):
  wpAny (model prog w) A (getMethod (.ref x) name pl) Q E s:=by
 obtain⟨od,J,hl⟩:=I.look
 exact PySem.W.method_fn X J (fV hg).1 (fV hg).2 hf (fD.mp ht) (by show(PySem.W.lookIn name od).map (·.isSome)=some false;rw[hl,hv];rfl) h
theorem DO{ns:List Str}{Q:Unit->Shared->Prop}(X:K.In s.heap)(I:ObjM s.heap x dx C mA)
  (hs:PySem.W.findIn K (.ref C) "__setattr__"=some (some (.builtin "object.__setattr__"))) (hp:PySem.W.plainOver K C=true) (ht:PySem.W.takerIn K C name=some none) (hh:PySem.W.hasDictIn K C=true)
  (hw:PySem.Within mA ns) (hsz:ns.length<=sizeLine)
  (h:∀h',ObjM h' x dx C (fun y=>if y=name then some v else mA y)->Heap.SameBut dx s.heap h'->Q () {s with heap:=h',toks:=s.toks+2}):
  wpAny (model prog w) A (setAttr (.ref x) name v) Q E s:=by
 obtain⟨od,J,hl⟩:=I.look
 refine PySem.W.set_plain X J hs (PySem.W.osa_open (s:={s with toks:=s.toks+1}) (r:=none) X J hp ht fun b=>?_)
 obtain⟨cd,hc,hd'⟩:=PySem.W.any_some hh
 have hx:s.heap.get? x=some ⟨.ref C,some dx,.plain,#[]⟩:=I.obj
 refine aa (av (aa (aa (wpAny_loadPart hx (aa (PySem.W.Looks.here (s:={s with toks:=s.toks+1}) (PySem.W.looks_clsIn X hc) ?_))))))
 rw[hd']
 refine av (a:=some dx) (aa (av (aa ?_)))
 refine wpAny_nsSet1 (s:={s with toks:=s.toks+1}) I.ns fun h' hn2 hs2=>?_
 obtain⟨oD,esD,epD,hoD,hdD,hcD⟩:=hn2.count (PySem.Within.cons name v hw)
 refine aa (wpAny_lookBehind hoD (by rw[hdD];exact pastItsLine_dict (bo hcD (by rw[List.length_cons];lia))) ?_)
 exact av (h _ ⟨(hs2.2 _ (cR I.ne)).trans I.obj,hn2,I.ne⟩ hs2)
theorem Ef{R:Result->Shared->Prop}{vs:List Value}{kw:List (Str×Value)}(X:K.In s.heap)(hm:PySem.W.makesIn K C=true)
  (hi:PySem.W.findIn K (.ref C) "__init__"=some (some (.ref f))) (hf:PySem.W.typeIn K (.ref f)=some (.type "function"))
  (h:codeAny (model prog w) (A.under (.builtin "type.__call__" ⟨.ref C::vs,kw⟩)) (.call (.ref f) ⟨.ref (s.heap.objs.size+1)::vs,kw⟩) (PySem.W.InitBack (s.heap.objs.size+1) R)
   {s with heap:=(s.heap.push PySem.W.emptyDict).push (PySem.W.instObj C s.heap.objs.size)}):
  codeAny (model prog w) A (.call (.ref C) ⟨vs,kw⟩) R s:=by
 obtain⟨hh,g,d,t,os⟩:=s
 exact PySem.W.make_core (PySem.W.makes_of X hm) (PySem.W.looks_findIn X hi) (fun self=>PySem.W.bind_fn X self hf) (.inl rfl) h
end
def i5(f:Str)(v:V):List (Str×V)->List (Str×V)
 |[]=>[(f,v)]
 |(g,x)::r=>if g=f then(g,v)::r else(g,x)::i5 f v r
theorem AJ(f g:Str)(v:V):∀fs:List (Str×V),(i5 f v fs).lookup g=if g=f then some v else fs.lookup g
 | []=>by
  show List.lookup g [(f,v)]=_
  by_cases h:g=f
  ·have hb:(g==f)=true:=fD.mpr h
   simp only[List.lookup,hb,az h]
  ·have hb:(g==f)=false:=bO.mpr h
   simp only[List.lookup,hb,ay h]
 | (k,x)::r=>by
  have ih:=AJ f g v r
  rw[show i5 f v ((k,x)::r)=(if k=f then(k,v)::r else(k,x)::i5 f v r)from rfl]
  by_cases hk:k=f
  ·rw[az hk]
   by_cases h:g=k
   ·have hb:(g==k)=true:=fD.mpr h
    simp only[List.lookup,hb,az (h.trans hk)]
   ·have hb:(g==k)=false:=bO.mpr h
    simp only[List.lookup,hb,ay (fun e:g=f=>h (e.trans hk.symm))]
  ·rw[ay hk]
   by_cases h:g=k
   ·have hb:(g==k)=true:=fD.mpr h
    simp only[List.lookup,hb,ay (fun e:g=f=>hk (h.symm.trans e))]
   ·have hb:(g==k)=false:=bO.mpr h
    simp only[List.lookup,hb]
    exact ih
theorem uT(f:Str)(v:V):∀fs:List (Str×V),f∈(i5 f v fs).map (·.1)/\∀g,g∈fs.map (·.1)->g∈(i5 f v fs).map (·.1)
 |[]=>⟨by simp[i5],fun g h=>by simp at h⟩
 | (k,x)::r=>by
  obtain⟨i1,i2⟩:=uT f v r
  rw[show i5 f v ((k,x)::r)=(if k=f then(k,v)::r else(k,x)::i5 f v r)from rfl]
  by_cases hk:k=f
  ·rw[az hk]
   subst hk
   exact⟨by simp,fun g h=>by simpa using h⟩
  ·rw[ay hk]
   refine⟨?_,fun g h=>?_⟩
   ·rw[aw]
    exact aH _ i1
   ·rw[aw]at h ⊢
    rcases aU.mp h with e|e
    ·exact aU.mpr (.inl e)
    ·exact aH _ (i2 g e)
theorem AI(f:Str)(v:V):∀fs:List (Str×V),(i5 f v fs).length<=fs.length+1
 |[]=>by simp[i5]
 |(k,x)::r=>by
  have ih:=AI f v r
  rw[show i5 f v ((k,x)::r)=(if k=f then(k,v)::r else(k,x)::i5 f v r)from rfl]
  by_cases hk:k=f
  ·rw[az hk,List.length_cons,List.length_cons];lia
  ·rw[ay hk,List.length_cons,List.length_cons];lia
theorem RelO.some_of{v:V}{o:Option Value}(r:RelO (some v) o):∃u,o=some u/\RelV v u:=by
 cases o with
 |none=>exact(show False from r).elim
 |some u=>exact⟨u,rfl,r⟩
theorem RelO.none_of{o:Option Value}(r:RelO none o):o=none:=by
 cases o with
 |none=>rfl
 |some u=>exact(show False from r).elim
theorem EY{v:V}{u:Value}(r:RelV v u):PySem.W.handedIn u=true:=by
 cases v with
 |non=>cases(show u=Value.none from r);rfl
 |bl b=>cases(show u=Value.bool b from r);rfl
 |int i=>obtain⟨t,e⟩:=(show ∃t,u=Value.int i t from r);cases e;rfl
 |str x=>obtain⟨t,e⟩:=(show ∃t,u=Value.str x t from r);cases e;rfl
 |byt b=>obtain⟨t,e⟩:=(show ∃t,u=Value.bytes b t from r);cases e;rfl
 |flt b=>obtain⟨t,e⟩:=(show ∃t,u=Value.float b t from r);cases e;rfl
 |ref a=>cases(show u=Value.ref a from r);rfl
 |ty n=>cases(show u=Value.type n from r);rfl
section
variable{P:Program}{w:World}{H H':Hp}{h h':Heap}{a C dx:Addr}{fs fs':List (Str×V)}
theorem qO(hok:HOk P w H h)(e:H a=some (.ins C dx fs)):∃mA,ObjM h a dx C mA/\(∀f,RelO (fs.lookup f) (mA f))/\PySem.Within mA (fs.map (·.1))/\fs.length<=1000/\H dx=some (.own a):=by
 obtain⟨d,z,ne,ob,mA,n,r,q⟩:=(show jbm P w H h a (.ins C dx fs)from hok a _ e)
 exact⟨mA,⟨ob,n,ne⟩,r,q,z,d⟩
end
structure Cls(K:PySem.W.Frag)(C:Addr):Prop where
 pg:PySem.W.plainGet K C Str.empty=true
 hd:PySem.W.hasDictIn K C=true
 po:PySem.W.plainOver K C=true
 sa:PySem.W.findIn K (.ref C) "__setattr__"=some (some (.builtin "object.__setattr__"))
theorem Cls.get{K:PySem.W.Frag}{C:Addr}(c:Cls K C)(f:Str):PySem.W.plainGet K C f=true:=c.pg
def jdu(K:PySem.W.Frag)(C:Addr)(f:Str):Prop:=PySem.W.findIn K (.ref C) f=some none
theorem jdu.taker{K:PySem.W.Frag}{C:Addr}{f:Str}(n:jdu K C f):PySem.W.takerIn K C f=some none:=by
 unfold PySem.W.takerIn
 rw[show PySem.W.findIn K (.ref C) f=some none from n]
 rfl
structure Meth(K:PySem.W.Frag)(C:Addr)(m:Str)(f:Addr):Prop where
 at_:PySem.W.findIn K (.ref C) m=some (some (.ref f))
 fn:PySem.W.isFn K (.ref f)=true
 kp:PySem.W.keepIn K (.ref f)=true
section
variable{X:Cx}{pins:List (Addr×Obj)}{σ:St}{H:Hp}{s:Shared}{a C dx:Addr}{fs:List (Str×V)}{f:Str}{v:V}{A:Around}{E:Value->Shared->Prop}
theorem FK{b:Bool}{Q:Value->Shared->Prop}(I:Inv X pins σ H s)(e:H a=some (.ins C dx fs))(c:Cls X.K C)(n:jdu X.K C f)(l:fs.lookup f=some v)
  (h:∀u s',Inv X pins σ H s'->RelV v u->Q u s'):wpAny (model X.prog X.w) A (getAttr (.ref a) f b) Q E s:=by
 obtain⟨mA,O,r,_,_,_⟩:=qO I.hok e
 obtain ⟨u,hu,ru⟩:=RelO.some_of (v:=v) (o:=mA f) (by rw [<- l]; exact r f)
 exact Dh I.kIn O (c.get f) c.hd n hu (EY ru) (h u _ (I.tok _) ru)
theorem As{m:Str}{g:Addr}{pl:Sem Bool}{Q:Value×List Value->Shared->Prop}(I:Inv X pins σ H s)(e:H a=some (.ins C dx fs))(c:Cls X.K C)(k:Meth X.K C m g)(l:fs.lookup m=none)
  (h:Q (.ref g,[.ref a]) s):wpAny (model X.prog X.w) A (getMethod (.ref a) m pl) Q E s:=by
 obtain⟨mA,O,r,_,_,_⟩:=qO I.hok e
 have hn:mA m = none:=RelO.none_of (by rw [<- l]; exact r m)
 exact Ea I.kIn O (c.get m) k.at_ k.fn hn h
theorem FY{y:V}{u:Value}{Q:Unit->Shared->Prop}(I:Inv X pins σ H s)(e:H a=some (.ins C dx fs))(c:Cls X.K C)(n:jdu X.K C f)(hl:fs.length<1000)(ry:RelV y u)
  (h:∀s',Inv X pins σ (upd H a (.ins C dx (i5 f y fs))) s'->Q () s'):wpAny (model X.prog X.w) A (setAttr (.ref a) f u) Q E s:=by
 obtain⟨mA,O,r,wi,_,ho⟩:=qO I.hok e
 have hz:(fs.map (·.1)).length<=sizeLine:=by rw[ae,gS];lia
 refine DO I.kIn O c.sa c.po n.taker c.hd wi hz fun h' O' sb=>h _ ?_
 have hd:∃o,h'.get? dx=some o:=let⟨o,_,_,e',_⟩:=O'.ns;⟨o,e'⟩
 refine I.write (x:=a) (e:=dx) (by rw[e];exact True.intro) (.inr ho) (fun b q hb z=>(sb.2 b hb).trans z) hd ?_
 refine⟨by rw[ir O.ne];exact ho,?_,O.ne,O'.obj,_,O'.ns,fun g=>?_,fun g hg=>?_⟩
 ·have:=AI f y fs;lia
 ·show RelO ((i5 f y fs).lookup g) (if g=f then some u else mA g)
  rw[AJ]
  by_cases q:g=f
  ·rw[az q,az q];exact ry
  ·rw[ay q,ay q];exact r g
 ·by_cases q:g=f
  ·rw[q];exact(uT f y fs).1
  ·refine(uT f y fs).2 g (wi g fun z=>hg ?_)
   show(if g=f then some u else mA g)=none
   rw[ay q];exact z
theorem Inv.made(I:Inv X pins σ H s):Inv X pins σ (upd (upd H s.heap.objs.size (.own (s.heap.objs.size+1))) (s.heap.objs.size+1) (.ins C s.heap.objs.size []))
  {s with heap:=(s.heap.push PySem.W.emptyDict).push (PySem.W.instObj C s.heap.objs.size)}:=by
 have e1:(s.heap.push PySem.W.emptyDict).get? s.heap.objs.size=some PySem.W.emptyDict:=aJ s.heap rfl
 have e2:((s.heap.push PySem.W.emptyDict).push (PySem.W.instObj C s.heap.objs.size)).get? (s.heap.objs.size+1)=some (PySem.W.instObj C s.heap.objs.size):=by
  have:=aJ (s.heap.push PySem.W.emptyDict) (o:=PySem.W.instObj C s.heap.objs.size) rfl
  rwa[dg]at this
 have e3:(s.heap.push PySem.W.emptyDict).Ns s.heap.objs.size (fun _=>none):=⟨PySem.W.emptyDict,#[],_,e1,rfl,(fun e he=>absurd he (by simp)),fun _=>rfl⟩
 have I1:=I.laid (a:=s.heap.objs.size) (o:=.own (s.heap.objs.size+1)) (h':=s.heap.push PySem.W.emptyDict) (t':=s.toks) (fun b u q=>af _ q) (au _) ⟨_,e1⟩
 refine I1.laid (a:=s.heap.objs.size+1) (o:=.ins C s.heap.objs.size []) (t':=s.toks) (fun b u q=>af _ q) (Nat.le_of_eq (dg _ _)) ?_
 have ne:s.heap.objs.size≠s.heap.objs.size+1:=aX (gM _)
 refine⟨by rw[ir ne,ij],bw _,ne,e2,fun _=>none,(Heap.Ns1.of_empty e3).at fun o q=>af _ q,fun _=>True.intro,fun y hy=>absurd rfl hy⟩
theorem C5{prog:Program}{w:World}{env:Env}{e:Expr}{f:Str}{pos:Pos}{s:Shared}{Q:Value->Shared->Prop}(hb:attributeBase e f env (eval e env)=eval e env)
  (h:wpAny (model prog w) A (eval e env) (fun o s₁=>wpAny (model prog w) A (getAttr o f true) Q E s₁) E s):wpAny (model prog w) A (eval (.Attribute e f pos) env) Q E s:=
 Attribute_any_ h (by rw[arm_eval_Attribute,hb])
end
section
variable{X:Cx}{o e value:Expr}{f:Str}{pos pos' tpos:Pos}{ta tv:TE}
end
section
variable{X:Cx}{pins:List (Addr×Obj)}{σ:St}{H:Hp}{s:Shared}{A:Around}{E:Value->Shared->Prop}{Q:Value->Shared->Prop}{c:Value}{b:Bool}
inductive TyOf(K:PySem.W.Frag)(H:Hp):V->Value->Prop where
 |non:TyOf K H .non (.type "NoneType")
 |bl (x:Bool):TyOf K H (.bl x) (.type "bool")
 |int (i:Int):TyOf K H (.int i) (.type "int")
 |str (x:Str):TyOf K H (.str x) (.type "str")
 |flt (x:UInt64):TyOf K H (.flt x) (.type "float")
 |lst {a:Addr} {xs:List V} (e:H a=some (.lst xs)):TyOf K H (.ref a) (.type "list")
 |frz {a:Addr} {o:Obj} {xs:List V} (e:H a=some (.frz o (.lst xs))):TyOf K H (.ref a) (.type "list")
 |tup {a:Addr} {xs:List V} (e:H a=some (.tup xs)):TyOf K H (.ref a) (.type "tuple")
 |dK {a:Addr} {kvs:List (iq×V)} (e:H a=some (.dK kvs)):TyOf K H (.ref a) (.type "dict")
 |dT {a:Addr} {kvs:List (List iq×V)} (e:H a=some (.dT kvs)):TyOf K H (.ref a) (.type "dict")
 | ins {a C dx:Addr} {fs:List (Str×V)} (e:H a=some (.ins C dx fs)) (cl:Cls K C) (ha:PySem.W.findIn K (.ref C) "__class__"=some (some (.builtin "object.__class__")))
   (hn:PySem.W.specialIn K (.builtin "object.__class__") "__get__"=some (some (.builtin "getset_descriptor.__get__"))) (htk:PySem.W.takesIn K (.builtin "object.__class__")=some true)
   (hm:PySem.W.mroIn K C (.type "object")=some true):TyOf K H (.ref a) (.ref C)
theorem E5{x:V}{u t:Value}(I:Inv X pins σ H s)(rx:RelV x u)(ty:TyOf X.K H x t)(e:PySem.W.kitOne X.K t c=some b)(h:∀tk,Q (.bool b) {s with toks:=tk}):
  wpAny (model X.prog X.w) A (call (.builtin "isinstance") [u,c]) Q E s:=by
 cases ty with
 |non=>cases(show u=Value.none from rx);exact cB PySem.W.kitx_none I.kIn True.intro e (fun z=>nomatch z) h
 |bl y=>cases(show u=Value.bool y from rx);exact cB PySem.W.kitx_bool I.kIn True.intro e (fun z=>nomatch z) h
 |int i=>obtain⟨t,q⟩:=(show ∃t,u=Value.int i t from rx);cases q;exact cB PySem.W.kitx_int I.kIn True.intro e (fun z=>nomatch z) h
 |str y=>obtain⟨t,q⟩:=(show ∃t,u=Value.str y t from rx);cases q;exact cB PySem.W.kitx_str I.kIn True.intro e (fun z=>nomatch z) h
 |flt y=>obtain⟨t,q⟩:=(show ∃t,u=Value.float y t from rx);cases q;exact cB PySem.W.kitx_float I.kIn True.intro e (fun z=>nomatch z) h
 | @lst a xs ea=>
  cases(show u=Value.ref a from rx)
  obtain⟨_,_,n,_,h1⟩:=(show jbm X.prog X.w H s.heap a (.lst xs)from I.hok a _ ea)
  exact cB PySem.W.kitx_list I.kIn ⟨_,h1,rfl⟩ e (fun z=>nomatch z) h
 | @frz a ob xs ea=>
  cases(show u=Value.ref a from rx)
  obtain⟨_,_,_,n,_,h1⟩:=(show jbm X.prog X.w H s.heap a (.frz ob (.lst xs))from I.hok a _ ea)
  exact cB PySem.W.kitx_list I.kIn ⟨_,h1,rfl⟩ e (fun z=>nomatch z) h
 | @tup a xs ea=>
  cases(show u=Value.ref a from rx)
  obtain⟨_,_,_,p⟩:=(show jbm X.prog X.w H s.heap a (.tup xs)from I.hok a _ ea)
  obtain⟨o,h1,h2,_⟩:=p
  exact cB PySem.W.kitx_tuple I.kIn ⟨o,h1,h2⟩ e (fun z=>nomatch z) h
 | @dK a kvs ea=>
  cases(show u=Value.ref a from rx)
  obtain⟨_,_,vs,_,p⟩:=(show jbm X.prog X.w H s.heap a (.dK kvs)from I.hok a _ ea)
  obtain⟨o,es,ep,h1,h2,_⟩:=p
  exact cB PySem.W.kitx_dict I.kIn ⟨o,h1,h2.1⟩ e (fun z=>nomatch z) h
 | @dT a kvs ea=>
  cases(show u=Value.ref a from rx)
  obtain⟨_,_,xs,_,o,es,ep,h1,h2,_⟩:=(show jbm X.prog X.w H s.heap a (.dT kvs)from I.hok a _ ea)
  exact cB PySem.W.kitx_dict I.kIn ⟨o,h1,h2.1⟩ e (fun z=>nomatch z) h
 | @ins a C dx fs ea cl ha hn htk hm=>
  cases(show u=Value.ref a from rx)
  obtain⟨mA,O,_⟩:=qO I.hok ea
  obtain⟨od,J,_⟩:=O.look
  exact cB (PySem.W.kitx_own (cl.get _) cl.hd ha hn htk hm) I.kIn J e (fun z=>nomatch z) h
end
structure Room(k:Nat)(A:Around):Prop where
 hd:A.handled=none
 dp:A.depth+3*k+5<recursionLimit
 un:A.units+16*k+200<cLine
 gd:A.guards=some []
theorem Room.mono{j k:Nat}{A:Around}(r:Room k A)(h:j<=k):Room j A:=⟨r.hd,by have:=r.dp;lia,by have:=r.un;lia,by first|exact r.gd|(simp only[Around.deeper,Around.in1,Around.under];exact r.gd)⟩
theorem Room.deeper{k:Nat}{A:Around}(r:Room (k+1) A)(env:Env):Room k (A.deeper env):=
 ⟨r.hd,by have:=r.dp;show A.depth+1+3*k+5<_;lia,by have:=r.un;show A.units+3+16*k+200<_;lia,by first|exact r.gd|(simp only[Around.deeper,Around.in1,Around.under];exact r.gd)⟩
theorem FM{A:Around}{C:Addr}{us:List Value}{kw:List (Str×Value)}:(A.under (.builtin "type.__call__" ⟨.ref C::us,kw⟩)).depth=A.depth+1:=by
 first|rfl|simp[Around.under,Code.weight,Code.isCreation,Code.isGuard,Code.isCaller,Code.frames,Code.isFrame,guardIds]
theorem FN{A:Around}{C:Addr}{us:List Value}{kw:List (Str×Value)}:(A.under (.builtin "type.__call__" ⟨.ref C::us,kw⟩)).units=A.units+1:=by
 first|rfl|simp[Around.under,Code.cUnits,Code.frames,Code.isFrame]
theorem Room.make{k:Nat}{A:Around}(r:Room (k+1) A)(C:Addr)(us:List Value)(kw:List (Str×Value)):Room k (A.under (.builtin "type.__call__" ⟨.ref C::us,kw⟩)):=
 ⟨r.hd,by have:=r.dp;rw[FM];lia,by have:=r.un;rw[FN];lia,by first|exact r.gd|(simp only[Around.deeper,Around.in1,Around.under];exact r.gd)⟩
theorem Room.depth{k:Nat}{A:Around}(r:Room k A):A.depth<recursionLimit:=by have:=r.dp;lia
theorem Room.units{k:Nat}{A:Around}(r:Room k A):A.units+64<cLine:=by have:=r.un;lia
def nF:TA:=fun _ H Q=>Q [] H
def qx(ta:TE)(tr:TA):TA:=fun σ H Q=>ta σ H fun x H1=>tr σ H1 fun xs H2=>Q (x::xs) H2
section
variable{X:Cx}{e:Expr}{es:List Expr}{te:TE}{t:TA}{pos:Pos}
theorem ik:PA X [] nF:=fun _ _ _ _ H Q I h=>eV ⟨[],H,I,.nil,h⟩
theorem ig(ha:PE X e te)(hr:PA X es t)(hs:starEach (e::es) X.env=(false,eval e X.env)::starEach es X.env:=by rfl):PA X (e::es) (qx te t):=by
 intro pos pins s σ H Q I h
 rw[hs]
 show wpAny _ _ (spliced ((false,eval e X.env)::backTo pos (starEach es X.env))) _ _ s
 refine dH (ix (ha pins s σ H _ I h) fun u s1 ⟨x,H1,I1,r1,q1⟩=>?_)
 exact ix (hr pos pins s1 σ H1 _ I1 q1) fun us s2 ⟨xs,H2,I2,r2,q2⟩=>⟨x::xs,H2,I2,.cons r1 r2,q2⟩
def vU(t:TA):TE:=fun σ H Q=>t σ H fun xs H1=>xs.length<=sizeLine/\∀p,H1 p=none->Q (.ref p) (upd H1 p (.tup xs))
def wd(t:TA):TE:=fun σ H Q=>t σ H fun xs H1=>xs.length<=sizeLine/\∀p,H1 p=none->Q (.ref p) (upd H1 p (.lst xs))
theorem j0{x1}(h:PA X es t):PE X (.Tuple es x1 pos) (vU t):=by
 intro pins s σ H Q I hq
 refine wpAny_Tuple_spliced (ix (h pos pins s σ H _ I hq) fun us s1 ⟨xs,H1,I1,r,z,q⟩=>⟨by rw [<- r.length]; exact z,?_⟩)
 have hf:H1 s1.heap.objs.size=none:=I1.hok.fresh (au _)
 refine⟨.ref s1.heap.objs.size,upd H1 s1.heap.objs.size (.tup xs),I1.laid (t':=s1.toks) (fun b u e=>af _ e) (au _) ?_,rfl,q _ hf⟩
 exact⟨z,us,r,⟨_,aJ _ rfl,rfl,_,rfl⟩⟩
theorem jJ(h:PA X es t):PE X (.List es pos) (wd t):=by
 intro pins s σ H Q I hq
 refine wpAny_List_spliced (ix (h pos pins s σ H _ I hq) fun us s1 ⟨xs,H1,I1,r,z,q⟩=>⟨by rw [<- r.length]; exact z,?_⟩)
 have hf:H1 s1.heap.objs.size=none:=I1.hok.fresh (au _)
 refine⟨.ref s1.heap.objs.size,upd H1 s1.heap.objs.size (.lst xs),I1.laid (t':=s1.toks) (fun b u e=>af _ e) (au _) ?_,rfl,q _ hf⟩
 exact⟨z,us,0,r,aJ _ rfl⟩
end
abbrev Sp:=List V->Hp->VK->XK->Prop
abbrev kD:=List Env->Hp->Shared->XK->Value->Shared->Prop
structure Env0(P:Program)(w:World)(K:PySem.W.Frag)(mg:Str->Option Value)(base:Heap)(A:Around)(outer:List Env)(s:Shared)(H:Hp):Prop where
 frames:A.frames=some outer
 mod:Mod K mg base
 bs:∀b o,base.get? b=some o->s.heap.get? b=some o/\H b=none
 bsz:base.objs.size<=s.heap.objs.size
 funs:s.heap.FunFrames base outer
 frf:∀b∈ko outer,H b=none
 hok:HOk P w H s.heap
 bare:AllBare s.gens
def CE(outer:List Env)(P:Program)(w:World)(H:Hp)(s:Shared)(Q:VK)(u:Value)(s':Shared):Prop:=
 ∃v H',s'.os=s.os/\AllBare s'.gens/\Un (ko outer) [] H H' s.heap s'.heap/\HOk P w H' s'.heap/\RelV v u/\Q v H'
def CR(CX:kD)(outer:List Env)(P:Program)(w:World)(H:Hp)(s:Shared)(Q:VK)(E:XK)(r:Result)(s':Shared):Prop:=
 match r with
 | .ok (.ret u)=>CE outer P w H s Q u s'
 | .ok _=>False
 | .error e=>CX outer H s E e s'
structure FnOk(P:Program)(w:World)(K:PySem.W.Frag)(mg:Str->Option Value)(base:Heap)(CX:kD)(k:Nat)(f:Addr)(fd:FuncData)(ps:List Str)(sp:Sp):Prop where
 len:∀vs H Q E,sp vs H Q E->vs.length=ps.length
 run:∀(A:Around) (outer:List Env) (s:Shared) (H:Hp) (args:Args) (us:List Value) (vs:List V) (Q:VK) (E:XK),Room k A->Env0 P w K mg base A outer s H->BindsTo s fd args (ps.zip us)->Vals vs us->sp vs H Q E->
  codeAny (model P w) A (.call (.ref f) args) (CR CX outer P w H s Q E) s
theorem FnOk.mono{P:Program}{w:World}{K:PySem.W.Frag}{mg:Str->Option Value}{base:Heap}{CX:kD}{j k:Nat}{f:Addr}{fd:FuncData}{ps:List Str}{sp:Sp}(F:FnOk P w K mg base CX j f fd ps sp)(h:j<=k):
  FnOk P w K mg base CX k f fd ps sp:=⟨F.len,fun A outer s H args us vs Q E hr=>F.run A outer s H args us vs Q E (hr.mono h)⟩
theorem Env0.make{P:Program}{w:World}{K:PySem.W.Frag}{mg:Str->Option Value}{base:Heap}{A:Around}{outer:List Env}{s:Shared}{H:Hp}(e:Env0 P w K mg base A outer s H)(C:Addr)(us:List Value)(kw:List (Str×Value)):
  Env0 P w K mg base (A.under (.builtin "type.__call__" ⟨.ref C::us,kw⟩)) outer s H:=⟨by first|exact e.frames|(simpa[Around.under,Code.envs,Code.isFrame,pushEnvs]using e.frames),e.mod,e.bs,e.bsz,e.funs,e.frf,e.hok,e.bare⟩
section
variable{X:Cx}{pins:List (Addr×Obj)}{σ:St}{H:Hp}{s s':Shared}
theorem Inv.env0(I:Inv X pins σ H s):Env0 X.prog X.w X.K X.mg X.base X.A X.stack s H:=
 ⟨I.ok.frames,I.ok.mod,I.bs,bo I.ok.bsz I.sz,I.stack,I.stkFree,I.hok,I.bare⟩
theorem Inv.after{Q:VK}{u:Value}(I:Inv X pins σ H s)(h:CE X.stack X.prog X.w H s Q u s'):EP X pins σ Q u s':=by
 obtain⟨v,H',os,bare,un,hok,r,q⟩:=h
 obtain⟨hh,g,d,t,os'⟩:=s'
 obtain rfl:os'=s.os:=os
 exact⟨v,H',I.call (h':=hh) (g':=g) (d':=d) (t':=t) (ch:=[]) un hok bare (fun b z=>absurd z (by simp)),r,q⟩
end
def wm(sp:Sp)(dvs:List V)(E:XK)(t:TA):TE:=fun σ H Q=>t σ H fun vs H1=>sp (vs++dvs) H1 Q E
def tE(C:Addr)(m:Str)(sp:Sp)(dvs:List V)(E:XK)(ta:TE)(t:TA):TE:=fun σ H Q=>ta σ H fun x H1=>∃a dx fs,x= .ref a/\H1 a=some (.ins C dx fs)/\fs.lookup m=none/\
 t σ H1 fun vs H2=>sp (x::(vs++dvs)) H2 Q E
def wc(C:Addr)(sp:Sp)(dvs:List V)(E:XK)(t:TA):TE:=fun σ H Q=>t σ H fun vs H1=>∀x dx,H1 x=none->H1 dx=none->dx≠x->
 sp (.ref x::(vs++dvs)) (upd (upd H1 dx (.own x)) x (.ins C dx [])) (fun v H2=>v= .non/\Q (.ref x) H2) E
def jek(K:PySem.W.Frag)(fd:FuncData)(ps:List Str)(ds:List Value):Prop:=
 ∀(s:Shared) (us:List Value),K.In s.heap->(us++ds).length=ps.length->BindsTo s fd ⟨us,[]⟩ (ps.zip (us++ds))
theorem jek.all{K:PySem.W.Frag}{fd:FuncData}{ps:List Str}(h:∀us:List Value,us.length=ps.length->bindArgs fd ⟨us,[]⟩=pure (ps.zip us)):jek K fd ps []:=fun s us _ hl=>by
 rw[bq]at hl ⊢
 exact .of_eq (h us hl)
def l6(CX:kD)(X:Cx)(E:XK):Prop:=∀(pins:List (Addr×Obj)) (σ:St) (H:Hp) (s:Shared) (e:Value) (s':Shared),Inv X pins σ H s->CX X.stack H s E e s'->X.xe e s'
section
variable{X:Cx}{CX:kD}{k:Nat}{f C:Addr}{fd:FuncData}{ps:List Str}{sp:Sp}{dvs:List V}{ds:List Value}{E:XK}{x m:Str}{p pos apos:Pos}{e o:Expr}{es:List Expr}{ta:TE}{t:TA}
theorem tU{pins:List (Addr×Obj)}{σ:St}{H:Hp}{s:Shared}{Q:VK}{us:List Value}{vs:List V}(F:FnOk X.prog X.w X.K X.mg X.base CX k f fd ps sp)(hr:Room k X.A)(hb:jek X.K fd ps ds)(hd:Vals dvs ds)(hx:l6 CX X E)
  (I:Inv X pins σ H s) (r:Vals vs us) (h:sp (vs++dvs) H Q E):wpAny (model X.prog X.w) X.A (call (.ref f) us) (EP X pins σ Q) X.xe s:=by
 have r2:Vals (vs++dvs) (us++ds):=r.append hd
 have hl:(us ++ ds).length = ps.length:=by rw [<- r2.length]; exact F.len _ _ _ _ h
 refine wpAny_call (eM (F.run X.A X.stack s H ⟨us,[]⟩ (us++ds) (vs++dvs) Q E hr I.env0 (hb s us I.kIn hl) r2 h) fun r s' hq=>?_)
 cases r with
 |error e=>exact hx pins σ H s e s' I hq
 |ok fl=>
  cases fl with
  |ret u=>exact I.after hq
  |next=>exact False.elim hq
  |brk=>exact False.elim hq
  |cont=>exact False.elim hq
theorem iN(F:FnOk X.prog X.w X.K X.mg X.base CX k f fd ps sp)(hr:Room k X.A)(hg:Gl X x)(hm:X.mg x=some (.ref f))(hk:PySem.W.keepIn X.K (.ref f)=true)(hb:jek X.K fd ps ds)(hd:Vals dvs ds)(hx:l6 CX X E)
  (ha:PA X (e::es) t) (hdb:(x==("__debug__":Str))=false:=by decide) (he:starEach (e::es) X.env=(false,eval e X.env)::starEach es X.env:=by rfl) (hpl:(backTo pos (starEach es X.env)).any (·.1)=false:=by rfl):
  PE X (.Call (.Name x p) (e::es) [] pos) (wm sp dvs E t):=by
 intro pins s σ H Q I h
 refine cM (ui I hg hm ?_ hdb)
 refine gf (h₀:=X.base) I.ok.mod.kin hk (ix (ha pos pins s σ H _ I h) fun us s1 ⟨vs,H1,I1,r,q⟩=>⟨I1.kIn,?_⟩) he hpl
 exact tU F hr hb hd hx I1 r q
theorem DF{pl:Sem Bool}(he:PE X o ta)(c:Cls X.K C)(hm:Meth X.K C m f)(F:FnOk X.prog X.w X.K X.mg X.base CX k f fd ps sp)(hr:Room k X.A)(hb:jek X.K fd ps ds)(hd:Vals dvs ds)(hx:l6 CX X E)(ha:PA X (e::es) t)
  (hst:starEach (e::es) X.env=(false,eval e X.env)::starEach es X.env:=by rfl) (hpl:(backTo pos (starEach es X.env)).any (·.1)=false:=by rfl)
  (ht:eval (.Call (.Attribute o m apos) (e :: es) [] pos) X.env = (do
   let ov <- eval o X.env
   standAt apos.atName
   let (f,first) <- holding [ov] (getMethod ov m pl)
   callWith pos f first (backTo pos (starEach (e::es) X.env)) (backToKw pos (keywordEach [] X.env))):=by rfl):
  PE X (.Call (.Attribute o m apos) (e::es) [] pos) (tE C m sp dvs E ta t):=by
 intro pins s σ H Q I h
 refine PySem.W.methodCall_KW (pl:=pl) (ix (he pins s σ H _ I h) fun u s1 ⟨x,H1,I1,rx,a,dx,fs,ex,ea,l,q⟩=>?_) ht
 subst ex
 obtain rfl:u=Value.ref a:=rx
 refine As I1 ea c hm l ?_
 refine gf (first:=[.ref a]) (h₀:=X.base) I.ok.mod.kin hm.kp (ix (ha pos pins s1 σ H1 _ I1 q) fun us s2 ⟨vs,H2,I2,r,q2⟩=>⟨I2.kIn,?_⟩) hst hpl
 exact tU (us:=.ref a::us) (vs:=.ref a::vs) F hr hb hd hx I2 (.cons rfl r) q2
theorem Ep{pl:Sem Bool}(he:PE X o ta)(c:Cls X.K C)(hm:Meth X.K C m f)(F:FnOk X.prog X.w X.K X.mg X.base CX k f fd ps sp)(hr:Room k X.A)(hb:jek X.K fd ps ds)(hd:Vals dvs ds)(hx:l6 CX X E)
  (ht:eval (.Call (.Attribute o m apos) [] [] pos) X.env = (do
   let ov <- eval o X.env
   standAt apos.atName
   let (f,first) <- holding [ov] (getMethod ov m pl)
   callWith pos f first (backTo pos (starEach [] X.env)) (backToKw pos (keywordEach [] X.env))):=by rfl):
  PE X (.Call (.Attribute o m apos) [] [] pos) (tE C m sp dvs E ta nF):=by
 intro pins s σ H Q I h
 refine PySem.W.methodCall_KW (pl:=pl) (ix (he pins s σ H _ I h) fun u s1 ⟨x,H1,I1,rx,a,dx,fs,ex,ea,l,q⟩=>?_) ht
 subst ex
 obtain rfl:u=Value.ref a:=rx
 refine As I1 ea c hm l ?_
 exact PySem.W.callWith_K0 (first:=[.ref a]) I1.kIn hm.kp (tU (us:=[.ref a]) (vs:=[.ref a]) F hr hb hd hx I1 (.cons rfl .nil) q)
structure Mk(K:PySem.W.Frag)(C f:Addr):Prop where
 makes:PySem.W.makesIn K C=true
 init:PySem.W.findIn K (.ref C) "__init__"=some (some (.ref f))
 fn:PySem.W.isFn K (.ref f)=true
 kp:PySem.W.keepIn K (.ref C)=true
theorem Ey{pins:List (Addr×Obj)}{σ:St}{H:Hp}{s:Shared}{Q:VK}{us:List Value}{vs:List V}(M:Mk X.K C f)(F:FnOk X.prog X.w X.K X.mg X.base CX k f fd ps sp)(hr:Room (k+1) X.A)(hb:jek X.K fd ps ds)(hd:Vals dvs ds)
  (hx:l6 CX X E) (I:Inv X pins σ H s) (r:Vals vs us)
  (h:∀x dx,H x=none->H dx=none->dx≠x->sp (.ref x::(vs++dvs)) (upd (upd H dx (.own x)) x (.ins C dx [])) (fun v H2=>v= .non/\Q (.ref x) H2) E):
  wpAny (model X.prog X.w) X.A (call (.ref C) us) (EP X pins σ Q) X.xe s:=by
 have hq:=h (s.heap.objs.size+1) s.heap.objs.size (I.hok.fresh (eF _)) (I.hok.fresh (au _)) (aX (gM _))
 have I2:=Inv.made (C:=C) I
 have r2:Vals (V.ref (s.heap.objs.size+1)::(vs++dvs)) (Value.ref (s.heap.objs.size+1)::(us++ds)):=.cons rfl (r.append hd)
 have hl:(Value.ref (s.heap.objs.size+1)::us++ds).length=ps.length:=by
  have e:=r2.length
  rw[F.len _ _ _ _ hq]at e
  exact e.symm
 refine wpAny_call (Ef (f:=f) I.kIn M.makes M.init (fD.mp M.fn) (eM (F.run _ X.stack _ _ ⟨Value.ref (s.heap.objs.size+1)::us,[]⟩ (Value.ref (s.heap.objs.size+1)::(us++ds)) _ _ E (hr.make C us [])
  (I2.env0.make C us []) (hb _ (Value.ref (s.heap.objs.size+1)::us) I2.kIn hl) r2 hq) fun r s' hq'=>?_))
 cases r with
 |error e=>exact hx pins σ _ _ e s' I2 hq'
 | ok fl=>
  cases fl with
  |ret u=>
   obtain⟨v,H',I3,rv,ev,q3⟩:=I2.after hq'
   subst ev
   exact⟨rv,⟨V.ref (s.heap.objs.size+1),H',I3,rfl,q3⟩⟩
  |next=>exact False.elim hq'
  |brk=>exact False.elim hq'
  |cont=>exact False.elim hq'
theorem DE(M:Mk X.K C f)(F:FnOk X.prog X.w X.K X.mg X.base CX k f fd ps sp)(hr:Room (k+1) X.A)(hg:Gl X x)(hm:X.mg x=some (.ref C))(hb:jek X.K fd ps ds)(hd:Vals dvs ds)(hx:l6 CX X E)
  (ha:PA X (e::es) t) (hdb:(x==("__debug__":Str))=false:=by decide) (he:starEach (e::es) X.env=(false,eval e X.env)::starEach es X.env:=by rfl) (hpl:(backTo pos (starEach es X.env)).any (·.1)=false:=by rfl):
  PE X (.Call (.Name x p) (e::es) [] pos) (wc C sp dvs E t):=by
 intro pins s σ H Q I h
 refine cM (ui I hg hm ?_ hdb)
 refine gf (h₀:=X.base) I.ok.mod.kin M.kp (ix (ha pos pins s σ H _ I h) fun us s1 ⟨vs,H1,I1,r,q⟩=>⟨I1.kIn,?_⟩) he hpl
 exact Ey M F hr hb hd hx I1 r q
end
def PK(X:Cx)(kws:List Keyword)(t:TA):Prop:=
 ∀(pos:Pos) (pins:List (Addr×Obj)) (s:Shared) (σ:St) (H:Hp) (Q:List V->Hp->Prop),Inv X pins σ H s->t σ H Q->wpAny (model X.prog X.w) X.A (evalAll ((backToKw pos (keywordEach kws X.env)).map (·.2))) (AP X pins σ Q) X.xe s
section
variable{X:Cx}{CX:kD}{k:Nat}{f C:Addr}{fd:FuncData}{ps ks:List Str}{sp:Sp}{E:XK}{x m:Str}{p pos apos kpos:Pos}{e o:Expr}{es:List Expr}{kws:List Keyword}{te ta:TE}{t tk:TA}{nm:Option Str}
theorem Cn:PK X [] nF:=fun _ _ _ _ H Q I h=>wpAny_evalAll_nil ⟨[],H,I,.nil,h⟩
theorem DI(ha:PE X e te)(hr:PK X kws t):PK X (⟨nm,e,kpos⟩::kws) (qx te t):=by
 intro pos pins s σ H Q I h
 show wpAny _ _ (evalAll ((do let v <- eval e X.env; standAt pos; pure v) :: (backToKw pos (keywordEach kws X.env)).map (·.2))) _ _ s
 refine wpAny_evalAll_cons (aa (ix (ha pins s σ H _ I h) fun u s1 ⟨x,H1,I1,r1,q1⟩=>aa (fX (av ?_))))
 exact ix (hr pos pins s1 σ H1 _ I1 q1) fun us s2 ⟨xs,H2,I2,r2,q2⟩=>⟨x::xs,H2,I2,.cons r1 r2,q2⟩
variable{g:List Value->List Value->List Value}{gV:List V->List V->List V}
end
structure FnScope(N P:List Str)(sc:Scope):Prop where
 kind:sc.kind= .function
 co:sc.isCoroutine=false
 gen:sc.isGenerator=false
 nd:N.Nodup
 pre:N.take P.length=P
 par:∀x∈P,sc.names.lookup x=some .local\/sc.names.lookup x=some .cell
 nofree:∀y∈sc.names,y.2≠ .free
theorem zU{kindOf:Str->Option NameKind}{x:Str}:∀{binds:List (Str×Value)} {m:Str->Option Value},(∀v,(x,v)∉binds)->bindL kindOf binds m x=m x
 |[],_,_=>rfl
 | (n,v)::r,m,h=>by
  unfold bindL
  rw[zU fun w hw=>h w (aH _ hw)]
  split
  ·have:x≠n:=by rintro rfl;exact h v aP
   simp[this]
  ·rfl
theorem zQ{kindOf:Str->Option NameKind}{x:Str}:∀{binds:List (Str×Value)} {m:Str->Option Value},(∀v,(x,v)∉binds)->bindC kindOf binds m x=m x
 |[],_,_=>rfl
 | (n,v)::r,m,h=>by
  unfold bindC
  rw[zQ fun w hw=>h w (aH _ hw)]
  split
  ·rfl
  ·have:x≠n:=by rintro rfl;exact h v aP
   simp[this]
theorem zS{kindOf:Str->Option NameKind}{x:Str}{v:Value}:∀{P:List Str} {vs:List Value} {i:Nat} {m:Str->Option Value},P.Nodup->P[i]? =some x->vs[i]? =some v->kindOf x=some .local->
  bindL kindOf (P.zip vs) m x=some v
 |[],_,_,_,_,h,_,_=>by simp at h
 |_::_,[],_,_,_,_,h,_=>by simp at h
 |p::P,w::vs,0,m,nd,h1,h2,hk=>by
  simp at h1 h2;subst h1;subst h2
  show bindL kindOf ((p,w)::P.zip vs) m p=_
  unfold bindL
  rw[zU fun v hv=>(bz.mp nd).1 (g6 hv).1,az hk]
  simp
 |p::P,w::vs,i+1,m,nd,h1,h2,hk=>by
  show bindL kindOf ((p,w)::P.zip vs) m x=_
  unfold bindL
  exact zS (i:=i) (bz.mp nd).2 (by simpa using h1) (by simpa using h2) hk
theorem zP{kindOf:Str->Option NameKind}{x:Str}{v:Value}:∀{P:List Str} {vs:List Value} {i:Nat} {m:Str->Option Value},P.Nodup->P[i]? =some x->vs[i]? =some v->kindOf x≠some .local->
  bindC kindOf (P.zip vs) m x=some v
 |[],_,_,_,_,h,_,_=>by simp at h
 |_::_,[],_,_,_,_,h,_=>by simp at h
 |p::P,w::vs,0,m,nd,h1,h2,hk=>by
  simp at h1 h2;subst h1;subst h2
  show bindC kindOf ((p,w)::P.zip vs) m p=_
  unfold bindC
  rw[zQ fun v hv=>(bz.mp nd).1 (g6 hv).1,ay hk]
  simp
 |p::P,w::vs,i+1,m,nd,h1,h2,hk=>by
  show bindC kindOf ((p,w)::P.zip vs) m x=_
  unfold bindC
  exact zP (i:=i) (bz.mp nd).2 (by simpa using h1) (by simpa using h2) hk
def lZ(N:List Str)(vs:List V):St:=vs.map some++List.replicate (N.length-vs.length) none
def oh(CX:kD)(P:Program)(w:World)(K:PySem.W.Frag)(mg:Str->Option Value)(base:Heap)(N:List Str)(qual:Str)(scope:Scope)(f:Addr)(cd:Value)(A:Around)(outer:List Env)(s:Shared)(H:Hp)(E:XK):Cx where
 prog:=P
 w:=w
 K:=K
 mg:=mg
 base:=base
 A:=A.deeper (envOfC qual scope s.heap.objs.size f cd)
 N:=N
 s₀:=s
 H₀:=H
 env:=envOfC qual scope s.heap.objs.size f cd
 outer:=outer
 stack:=envOfC qual scope s.heap.objs.size f cd::outer
 ex:=[]
 calm:=true
 fn:=fun _=>true
 pn:=[]
 xe:=fun e s'=>wpAny (model P w) (A.deeper (envOfC qual scope s.heap.objs.size f cd)) (leaving (envOfC qual scope s.heap.objs.size f cd) e) (fun _ s''=>CX outer H s E e s'') (fun e' s''=>CX outer H s E e' s'') s'
theorem y4{sc:Scope}{n:Nat}{x:Str}(h:sc.names.lookup x=some .cell):∃c,(cellsFrom n sc.names []).lookup x=some c:=by
 have q:=PySem.W.cellsFrom_some sc.names n [] (.inl h)
 exact eZ.mp q
theorem E4{CX:kD}{P:Program}{w:World}{K:PySem.W.Frag}{mg:Str->Option Value}{base:Heap}{N ps:List Str}{qual:Str}{scope:Scope}{f:Addr}{cd:Value}{A:Around}{outer:List Env}{s s1:Shared}{H:Hp}{E:XK}{us:List Value}{vs:List V}
  (S:FnScope N ps scope) (hd:A.handled=none) (e0:Env0 P w K mg base A outer s H) (hl:vs.length=ps.length) (r:Vals vs us)
  (x:InCallC s s.heap.objs.size (bindL (envOfC qual scope s.heap.objs.size f cd).kindOf (ps.zip us) fun _=>none) (cellsFrom (s.heap.objs.size+1) scope.names []) (bindC (envOfC qual scope s.heap.objs.size f cd).kindOf (ps.zip us) fun _=>none) s1):
  Inv (oh CX P w K mg base N qual scope f cd A outer s H E) [] (lZ N vs) H s1:=by
 have hpl:ps.length<=N.length:=by have:=bN List.length S.pre;rw[aS]at this;lia
 obtain⟨h1,tk,rfl,hk⟩:=x.done
 have noA:∀b:Addr,b∉(oh CX P w K mg base N qual scope f cd A outer s H E).ex:=fun b z=>absurd (show b∈([]:List Addr)from z) (by simp)
 refine⟨⟨e0.mod,S.kind,rfl,rfl,au _,fun y z c h1 h2=>?_,fun y hy=>?_,fun y c _ h=>?_,fun _=>hd,Around.frames_deeper e0.frames,.inr ⟨rfl,rfl⟩,fun b z=>absurd z (noA b),e0.bs,e0.bsz,fun b _ _=>noA b,fun b z=>absurd z (noA b),e0.funs,e0.frf⟩,
  rfl,e0.bare,Un.kept hk,⟨_,x.toInCall.ns,fun i y v h1 h2 h3=>?_⟩,fun y c h=>⟨_,x.cell y c h⟩,e0.hok.fresh (au _),fun y c h=>?_,fun p hp=>absurd (show p∈([]:List (Addr×Obj))from hp) (by simp),e0.hok.kept hk,?_⟩
 ·exact name_of_addr x.apart (cv h1) (cv h2)
 ·have hy:scope.names.lookup y=some .cell\/scope.names.lookup y=some .free:=hy
  rcases hy with hy|hy
  ·exact y4 hy
  ·exact absurd rfl (S.nofree _ (cv hy))
 ·exact fF (x.above y c (cv h))
 ·have hi:i<vs.length:=by
   unfold lZ at h2
   by_cases hi:i<vs.length
   ·exact hi
   ·rw[bR (by simpa using hi)]at h2
    rw[List.getElem?_replicate]at h2
    split at h2<;>cases h2
  have ha:vs[i]? =some v:=by
   unfold lZ at h2
   rw[bA (by simpa using hi),aA]at h2
   cases e:vs[i]? with
   |none=>rw[e]at h2;cases h2
   |some a=>rw[e]at h2;cases h2;rfl
  obtain⟨u,hu,rv⟩:=r.get ha
  have hp:ps[i]? =some y:=by
   rw [<- S.pre,List.getElem?_take_of_lt (by lia)]; exact h1
  have ndP:ps.Nodup:=by rw [<- S.pre]; exact S.nd.sublist (gz _ _)
  refine⟨u,rv,?_⟩
  rcases S.par y (ag hp)with k|k
  ·exact .inl ⟨k,zS ndP hp hu k⟩
  ·obtain⟨c,e⟩:=y4 (n:=s.heap.objs.size+1) k
   refine .inr ⟨.inl k,c,e,?_⟩
   have q:=x.cell y c e
   rw[zP ndP hp hu (by show scope.names.lookup y≠_;rw[k];decide)]at q
   exact q
 ·exact e0.hok.fresh (fF (x.above y c (cv h)))
 ·unfold lZ
  show _=N.length
  rw[aB,ae,List.length_replicate]
  lia
theorem Hm{CX:kD}{P:Program}{w:World}{K:PySem.W.Frag}{mg:Str->Option Value}{base:Heap}{k:Nat}{f:Addr}{name qual:Str}{params:Arguments}{body:List Stmt}{scope:Scope}{dV kV doc pm cdv ct oc:Value}{an od:Option Addr}
  {osl:Array (Option Value)} {N ps:List Str} {sp:Sp} (lk:K.lookup f=some ⟨oc,od,.func (PySem.W.fnOf name qual params body scope dV kV doc pm an cdv ct),osl⟩) (hcd:PySem.W.codeIn K cdv qual=true) (S:FnScope N ps scope)
  (len:∀vs H Q E,sp vs H Q E->vs.length=ps.length)
  (hbody:∀(A:Around) (outer:List Env) (s:Shared) (H:Hp) (vs:List V) (Q:VK) (E:XK),Room k (A.deeper (envOfC qual scope s.heap.objs.size f cdv))->sp vs H Q E->
   ∃t,PSs (oh CX P w K mg base N qual scope f cdv A outer s H E) body t/\t {nx:=fun _ H'=>Q .non H',rt:=Q} (lZ N vs) H):
  FnOk P w K mg base CX (k+1) f (PySem.W.fnOf name qual params body scope dV kV doc pm an cdv ct) ps sp:=by
 refine⟨len,fun A outer s H args us vs Q E hr e0 hb r hsp=>?_⟩
 have hl:=len _ _ _ _ hsp
 have KX:K.In s.heap:=e0.mod.kin.keeps fun b o e=>(e0.bs b o e).1
 have lim:s.heap.NoLimit:=e0.mod.nolimit.keeps fun b o e=>(e0.bs b o e).1
 have hkind:∀y∈ps.zip us,scope.names.lookup y.1=some .local\/(scope.names.lookup y.1=some .cell/\((cellsFrom (s.heap.objs.size+1) scope.names []).lookup y.1).isSome=true):=fun⟨n,v⟩ hy=>by
  rcases S.par n (g6 hy).1 with q|q
  ·exact .inl q
  ·exact .inr ⟨q,PySem.W.cellsFrom_some _ _ _ (.inl q)⟩
 refine codeAny_call_function hr.depth (KX _ _ lk) rfl S.co S.gen rfl (PySem.W.codeRec_of KX hcd) (hb _ _ _ _ ?_)
 refine wpAny_newFunctionEnv_cells S.kind hkind fun env he s1 x=>?_
 subst he
 refine⟨lim.keeps x.toInCall.keep,codeAny_func ?_⟩
 obtain⟨t,ht,hq⟩:=hbody A outer s H vs Q E (hr.deeper _) hsp
 have I:Inv (oh CX P w K mg base N qual scope f cdv A outer s H E) [] (lZ N vs) H s1:=E4 S hr.hd e0 hl r x
 refine cT (ht [] s1 (lZ N vs) H _ I hq) (fun fl s' hs=>?_) fun e s' hs=>hs
 have fin:∀{σ':St} {H':Hp} {v:V} {u:Value},Inv (oh CX P w K mg base N qual scope f cdv A outer s H E) [] σ' H' s'->RelV v u->Q v H'->CE outer P w H s Q u s':=
  fun{σ' H' v u} J rv q=>⟨v,H',J.os,J.bare,J.base,J.hok,rv,q⟩
 cases fl with
 |ret u=>
  obtain⟨v,σ',H',J,rv,q⟩:=hs
  exact fin J rv q
 |next=>
  obtain⟨σ',H',J,q⟩:=hs
  exact fin (v:=V.non) (u:=Value.none) J rfl q
 |brk=>
  obtain⟨_,_,_,q⟩:=hs
  exact False.elim q
 |cont=>
  obtain⟨_,_,_,q⟩:=hs
  exact False.elim q
section
variable{X:Cx}{x:Str}{p pos:Pos}{e:Expr}{es:List Expr}{t:TA}{id T:String}{r:List V->Hp->VK->Prop}
def pZ(r:List V->Hp->VK->Prop)(t:TA):TE:=fun σ H Q=>t σ H fun vs H1=>r vs H1 Q
theorem jg(hc:jc8 X (.builtin id) r)(hg:Gl X x)(hm:X.mg x=none)(hv:bootBuiltins x=some (.builtin id))(ha:PA X (e::es) t)(hn:x≠"__name__":=by decide)(hdb:(x==("__debug__":Str))=false:=by decide)
  (he:starEach (e::es) X.env=(false,eval e X.env)::starEach es X.env:=by rfl) (hpl:(backTo pos (starEach es X.env)).any (·.1)=false:=by rfl):PE X (.Call (.Name x p) (e::es) [] pos) (pZ r t):=by
 intro pins s σ H Q I h
 refine cM (lu I hg hm hv ?_ hn hdb)
 exact gJ (ix (ha pos pins s σ H _ I h) fun us s1 ⟨vs,H1,I1,r1,q1⟩=>hc pins s1 σ H1 vs us Q I1 r1 q1) he hpl
theorem kY(hc:jc8 X (.type T) r)(hg:Gl X x)(hm:X.mg x=none)(hv:bootBuiltins x=some (.type T))(ha:PA X (e::es) t)(hn:x≠"__name__":=by decide)(hdb:(x==("__debug__":Str))=false:=by decide)
  (he:starEach (e::es) X.env=(false,eval e X.env)::starEach es X.env:=by rfl) (hpl:(backTo pos (starEach es X.env)).any (·.1)=false:=by rfl):PE X (.Call (.Name x p) (e::es) [] pos) (pZ r t):=by
 intro pins s σ H Q I h
 refine cM (lu I hg hm hv ?_ hn hdb)
 exact bY (ix (ha pos pins s σ H _ I h) fun us s1 ⟨vs,H1,I1,r1,q1⟩=>hc pins s1 σ H1 vs us Q I1 r1 q1) he hpl
end
end L2
namespace HT
open PySem PyProof.Rows
def lexLt:List Int->List Int->Bool
 |[],[]=>false
 |[],_::_=>true
 |_::_,[]=>false
 |x::xs,y::ys=>if x=y then lexLt xs ys else decide (x<y)
theorem ml(x y:Int)(xs ys:List Int):lexLt (x::xs) (y::ys)=if x=y then lexLt xs ys else decide (x<y):=rfl
theorem GD:lexLt [] []=false:=rfl
theorem GO(y:Int)(ys:List Int):lexLt [] (y::ys)=true:=rfl
theorem GN(x:Int)(xs:List Int):lexLt (x::xs) []=false:=rfl
theorem D7(A:Around)(s:Shared)(a:Int)(t:Tok)(c:Int)(u:Tok):∃e,SeqAt.EqAt A s (.int a t) (.int c u) e/\(e=true↔a=c):=
 ⟨(a==c),SeqAt.EqAt.int_int a t c u,by simp⟩
theorem Ew(A:Around)(s:Shared)(a:Int)(t:Tok)(c:Int)(u:Tok)(prog:Program)(w:World)(E:Value->Shared->Prop)(Q:Value->Shared->Prop)(h:Q (.bool (decide (a<c))) s):
  wpAny (model prog w) A (richCompare .Lt (.int a t) (.int c u)) Q E s:=
 (PyProof.Rows.lt_int h:wpAny (model prog w) A (compareOp .Lt (.int a t) (.int c u)) Q E s)
section
open PySem.SeqAt
open PySem.AutoSeq1 (wpAny_loadPart')
open PySem.MeetsSeq PySem.MeetsSeq2 PySem.MeetsSeq3
theorem GL(l b:Addr)(items items2:Array Value)(n n2:Nat)(dd dd2:Option Addr)(sl oo:Array (Option Value))(ns ms:List Int)(hi:IntsAre items.toList ns)(hj:IntsAre items2.toList ms):
  Meets (Builtin.«tuple.__lt__» ⟨[.ref l,.ref b],[]⟩)
   (fun _ R s=>s.heap.get? l=some {cls:=.type "tuple",dict:=dd,data:=.seq items n,slots:=sl}/\s.heap.get? b=some {cls:=.type "tuple",dict:=dd2,data:=.seq items2 n2,slots:=oo}/\
    R (.ok (.ret (.bool (lexLt ns ms)))) s):=
 .of_wp fun prog w A R s h=>by
  obtain⟨hp,g,d,tk,os⟩:=s;obtain⟨hl,hb,h⟩:=h
  have f2:=AutoSeq1.sub_tuple_tuple
  have z1:items.size = ns.length:=by rw [<- hi.length]; simp
  have z2:items2.size = ms.length:=by rw [<- hj.length]; simp
  wp_walk using wpAny_loadPart' hl,wpAny_loadPart' hb,ff _ (fun rest b s'=>b.1=none/\s'=⟨hp,g,d,tk,os⟩/\∃(vs ws:List Value) (ns' ms':List Int),rest=vs.zip ws/\
   IntsAre vs ns'/\IntsAre ws ms'/\ns'.length+items2.size=ms'.length+items.size/\R (.ok (.ret (.bool (lexLt ns' ms')))) ⟨hp,g,d,tk,os⟩) _
  case turn=>
   rintro⟨y,x⟩ rest b s' ⟨hb',rfl,vs,ws,ns',ms',hz,hvi,hwi,hlen,hR⟩
   cases hvi with
   |nil=>rw[List.zip_nil_left]at hz;cases hz
   | cons a t hvi'=>
    cases hwi with
    |nil=>rw[List.zip_nil_right]at hz;cases hz
    | cons c u hwi'=>
     rw[List.zip_cons_cons]at hz
     injection hz with hyx hrest
     injection hyx with hy hx
     subst hy hx
     rw[ml]at hR
     simp only[List.length_cons]at hlen
     obtain⟨e,he,hiff⟩:=D7 A.in1 ⟨hp,g,d,tk,os⟩ a t c u
     refine aa (he prog w _ _ ?_)
     cases e with
     |true=>
      rw[az (hiff.mp rfl)]at hR
      wp_walk
      exact⟨rfl,rfl,_,_,_,_,hrest,hvi',hwi',by lia,hR⟩
     |false=>
      rw[ay (fun q=>absurd (hiff.mpr q) aY)]at hR
      have hri:=Ew A.in1 ⟨hp,g,d,tk,os⟩ a t c u prog w
      wp_walk using hri
      exact⟨_,rfl,by simpa using hR⟩
  case fin=>
   rintro⟨b1,b2⟩ s' ⟨hb',rfl,vs,ws,ns',ms',hz,hvi,hwi,hlen,hR⟩
   simp only at hb'
   subst hb'
   have hv:lexLt ns' ms'=decide (items.size<items2.size):=by
    cases hvi with
    | nil=>
     cases hwi with
     |nil=>
      simp only[List.length_nil]at hlen
      rw[GD]
      exact(aK (by lia)).symm
     |cons c u hw=>
      simp only[List.length_nil,List.length_cons]at hlen
      rw[GO]
      exact(aD (by lia)).symm
    | cons a t hv=>
     cases hwi with
     |nil=>
      simp only[List.length_nil,List.length_cons]at hlen
      rw[GN]
      exact(aK (by lia)).symm
     |cons c u hw=>
      rw[List.zip_cons_cons]at hz
      cases hz
   rw[hv]at hR
   wp_walk
   exact⟨_,rfl,by simpa[Builtin.Tuple.tupleCompareSizes]using hR⟩
  case h=>
   exact⟨rfl,rfl,items.toList,items2.toList,ns,ms,rfl,hi,hj,by lia,h⟩
end
section
variable{prog:Program}{w:World}{A:Around}{E:Value->Shared->Prop}{s:Shared}
theorem CQ{l b:Addr}{items items2:Array Value}{ns ms:List Int}{Q:Value->Shared->Prop}(hl:IsTup s.heap l items)(hb:IsTup s.heap b items2)(hi:IntsAre items.toList ns)(hj:IntsAre items2.toList ms)
  (hu:A.units<cLine) (h:Q (.bool (lexLt ns ms)) s):wpAny (model prog w) A (compareOp .Lt (.ref l) (.ref b)) Q E s:=by
 obtain⟨⟨cls,dd,data,sl⟩,ho,hc,n,hd⟩:=id hl
 obtain⟨⟨cls2,dd2,data2,oo⟩,ho2,hc2,n2,hd2⟩:=id hb
 simp only at hc hd hc2 hd2
 subst hc hd hc2 hd2
 exact richCompare_meets_room (op:=.Lt) ⟨_,ho,rfl⟩ ⟨_,ho2,rfl⟩ PySem.F.slot_tuple_lt PySem.F.entry_tuple_lt (PySem.F.args_tuple_lt_2 _ _) (GL l b items items2 n n2 dd dd2 sl oo ns ms hi hj)
  ⟨ho,ho2,show Value.bool (lexLt ns ms)≠Value.notImplemented/\Q (.bool (lexLt ns ms)) s from⟨(fun x=>nomatch x),h⟩⟩ hu
def iL(n d:Nat):Option Int->Nat
 |none=>d
 |some v=>if v<0 then(v+(n:Int)).toNat else min v.toNat n
theorem BS(n d:Nat)(hd:d<=n)(o:Option Int):iL n d o<=n:=by
 cases o with
 |none=>exact hd
 |some v=>
  show(if v<0 then(v+(n:Int)).toNat else min v.toNat n)<=n
  by_cases hv:v<0
  ·rw[az hv];lia
  ·rw[ay hv];exact Nat.min_le_right _ _
theorem yd(v:Int)(n d:Nat):(if v<0 then max (v+(n:Int)) 0 else min v (n:Int))=((iL n d (some v):Nat):Int):=by
 show(if v<0 then max (v+(n:Int)) 0 else min v (n:Int))=(((if v<0 then(v+(n:Int)).toNat else min v.toNat n):Nat):Int)
 by_cases hv:v<0
 ·simp only[az hv];lia
 ·simp only[ay hv];lia
theorem FE(lo hi:Option Int)(n:Nat):Builtin.Slice.sliceAdjust lo hi 1 (n:Int)=(((iL n 0 lo:Nat):Int),((iL n n hi:Nat):Int)):=by
 have h1:¬((1:Int)<0):=by lia
 unfold Builtin.Slice.sliceAdjust
 simp only[h1,if_false]
 refine gv ?_ ?_
 ·cases lo with
  |none=>rfl
  |some v=>exact yd v n 0
 ·cases hi with
  |none=>rfl
  |some v=>exact yd v n n
theorem FW(i j:Nat):Builtin.Slice.slicePlaces (i:Int) (j:Int) 1=j-i:=by
 unfold Builtin.Slice.slicePlaces
 have h1:(1:Int)>0:=by lia
 simp only[h1,if_true,Int.ediv_one]
 split<;>lia
theorem AB{v:Value}{o:Option Int}{Q:Option Int->Shared->Prop}(p:IsPart v o)(h:Q o s):wpAny (model prog w) A (Builtin.Slice.slicePartIndex v) Q E s:=by
 cases p with
 |none=>exact slicePart_none h
 |int i t=>exact slicePart_int h
theorem G6{sl:Addr}{vl vu:Value}{lo hi:Option Int}{n:Nat}{Q:Int×Int×Nat->Shared->Prop}(hs:s.heap.IsSliceOf sl vl vu .none)(pl:IsPart vl lo)(pu:IsPart vu hi)
  (h:Q (((iL n 0 lo:Nat):Int),1,iL n n hi-iL n 0 lo) s):wpAny (model prog w) A (Builtin.Slice.sliceApplied (.ref sl) (pure (n:Int))) Q E s:=by
 obtain⟨os,hos,hcs,hds⟩:=id hs
 unfold Builtin.Slice.sliceApplied Builtin.Slice.sliceFields
 refine aa (aa (cC hos hds (x:=vl) rfl (aa (cC hos hds (x:=vu) rfl (aa (cC hos hds (x:=.none) rfl (av ?_)))))))
 refine aa (slicePart_none ?_)
 show wpAny _ _ (if((1:Int)==0)=true then _ else _) _ _ s
 rw[ay (by decide)]
 refine aa (AB pl (aa (AB pu (aa (av ?_)))))
 show wpAny _ _ (match Builtin.Slice.sliceAdjust lo hi 1 (n:Int)with |(lo,hi)=>pure (lo,(1:Int),Builtin.Slice.slicePlaces lo hi 1)) _ _ s
 rw[FE lo hi n]
 show wpAny _ _ (pure (((iL n 0 lo:Nat):Int),(1:Int),Builtin.Slice.slicePlaces ((iL n 0 lo:Nat):Int) ((iL n n hi:Nat):Int) 1)) _ _ s
 rw[FW]
 exact av h
theorem Et(xs:Array Value)(i k:Nat):((List.range k).filterMap fun(m:Nat)=>xs[((i:Int)+(m:Int)*1).toNat]?).toArray=((xs.toList.drop i).take k).toArray:=by
 have e:(fun(m:Nat)=>xs[((i:Int)+(m:Int)*1).toNat]?)=fun m=>xs[i+m]?:=by
  funext m
  have:((i:Int)+(m:Int)*1).toNat=i+m:=by lia
  rw[this]
 rw[e]
 have:=pick_run xs i k
 rw[eO]at this
 have e2:((fun x=>xs[x]?)∘fun x=>i+x)=fun m=>xs[i+m]?:=rfl
 rw[e2]at this
 rw[this]
theorem Hi{t sl:Addr}{items:Array Value}{vl vu:Value}{lo hi:Option Int}{Q:Value->Shared->Prop}(ht:IsTup s.heap t items)(hs:s.heap.IsSliceOf sl vl vu .none)(pl:IsPart vl lo)(pu:IsPart vu hi)
  (hw:¬(iL items.size 0 lo=0/\iL items.size items.size hi=items.size))
  (h:Q (.ref s.heap.objs.size) {s with heap:=s.heap.push {cls:=.type "tuple",data:=.seq ((items.toList.drop (iL items.size 0 lo)).take (iL items.size items.size hi-iL items.size 0 lo)).toArray}})
  (hsz:items.size<=sizeLine):wpAny (model prog w) A (getItem (.ref t) (.ref sl)) Q E s:=by
 have htake:sizeOk (.seq ((items.toList.drop (iL items.size 0 lo)).take (iL items.size items.size hi-iL items.size 0 lo)).toArray):=by
  show((items.toList.drop (iL items.size 0 lo)).take (iL items.size items.size hi-iL items.size 0 lo)).toArray.size<=sizeLine
  rw[aq,aS,eC,Array.length_toList]
  lia
 have hj:iL items.size items.size hi<=items.size:=BS _ _ (au _) hi
 obtain⟨os,hos,hcs,hds⟩:=id hs
 have hTs:s.TypeIs (.ref sl) "slice":=⟨os,hos,hcs⟩
 unfold getItem
 try with_reducible refine bX ?_
 first|refine aa (av ?_)|skip
 refine aa (wpAny_sequenceKey ht.typeIs (by decide) ?_)
 refine aa (c5 (name:=Str.ofString "__getitem__") ht.typeIs dX
  (cZ dX ht.typeIs entry_tuple_getitem ?_ (args_tuple_getitem _ _)))
 show wpAny _ _ (Builtin.Tuple.tupleItemsOf (.ref t)>>=_) _ _ s
 refine aa (tupleItemsOf_ ht ?_)
 refine aa (fq hTs ?_)
 rw[az (by decide)]
 refine aa (G6 hs pl pu ?_)
 have hno:¬((((iL items.size 0 lo:Nat):Int)==0&&(1:Int)==1&&(iL items.size items.size hi-iL items.size 0 lo)==items.size)=true):=by
  intro q
  rw[cq,cq]at q
  have q1:((iL items.size 0 lo:Nat):Int)=0:=eq_of_beq q.1.1
  have q2:iL items.size items.size hi-iL items.size 0 lo=items.size:=eq_of_beq q.2
  exact hw ⟨by lia,by lia⟩
 show wpAny _ _ (if(((iL items.size 0 lo:Nat):Int)==0&&(1:Int)==1&&(iL items.size items.size hi-iL items.size 0 lo)==items.size)=true then _ else _) _ _ s
 rw[ay hno,Et]
 first
  |exact aa (m:=Builtin.Tuple.tupleExact _) (cI (av ⟨_,rfl,av h⟩) htake)
  |exact aa (m:=Builtin.Tuple.tupleExact _) (cI (aa (av (av ⟨_,rfl,av h⟩))) htake)
  |exact aa (aa (m:=Builtin.Tuple.tupleExact _) (cI (av (av ⟨_,rfl,av h⟩)) htake))
  |exact aa (aa (m:=Builtin.Tuple.tupleExact _) (cI (av ⟨_,rfl,av h⟩) htake))
end
end HT
namespace L2
open PySem PySem.Spec PyProof.Rows
abbrev TO:=St->Hp->(Option Int->Hp->Prop)->Prop
def PO(X:Cx)(e:Option Expr)(t:TO):Prop:=
 ∀(pins:List (Addr×Obj)) (s:Shared) (σ:St) (H:Hp) (Q:Option Int->Hp->Prop),Inv X pins σ H s->t σ H Q->
  wpAny (model X.prog X.w) X.A (evalPart e X.env) (fun u s'=>∃o H',Inv X pins σ H' s'/\IsPart u o/\Q o H') X.xe s
def yV:TO:=fun _ H Q=>Q none H
theorem pJ{ns:List Int}:∀{us:List Value},Vals (ns.map V.int) us->IntsAre us ns:=by
 induction ns with
 |nil=>intro us r;rw[bV]at r;cases r;exact .nil
 | cons n ns ih=>
  intro us r
  rw[aw]at r
  cases r with
  |cons r1 r2=>
   obtain⟨t,e⟩:=r1
   subst e
   exact .cons n t (ih r2)
section
variable{X:Cx}{e:Expr}{te:TE}{lo hi:Option Expr}{tl th:TO}{pos p2:Pos}
theorem nR:PO X none yV:=by
 intro pins s σ H Q I h
 rw[evalPart_none]
 exact av ⟨none,H,I,.none,h⟩
def SlR(X:Cx)(r:V->Option Int->Option Int->Hp->VK->Prop):Prop:=
 ∀(pins:List (Addr×Obj)) (s:Shared) (σ:St) (H:Hp) (x:V) (v vl vu:Value) (lo hi:Option Int) (sl:Addr) (Q:VK),Inv X pins σ H s->RelV x v->s.heap.IsSliceOf sl vl vu .none->IsPart vl lo->IsPart vu hi->r x lo hi H Q->
  ∃T id,typeLookup (.type T) "__getitem__"=pure (some (.builtin id))/\s.TypeIs v T/\wpAny (model X.prog X.w) X.A (getItem v (.ref sl)) (EP X pins σ Q) X.xe s
def vW(r:V->Option Int->Option Int->Hp->VK->Prop)(te:TE)(tl th:TO):TE:=fun σ H Q=>te σ H fun x H1=>tl σ H1 fun l H2=>th σ H2 fun u H3=>r x l u H3 Q
theorem nX{r:V->Option Int->Option Int->Hp->VK->Prop}(hr:SlR X r)(he:PE X e te)(hl:PO X lo tl)(hu:PO X hi th):PE X (.Subscript e (.Slice lo hi none p2) pos) (vW r te tl th):=by
 intro pins s σ H Q I h
 refine hV (ix (he pins s σ H _ I h) fun v s1 ⟨x,H1,I1,r1,q1⟩=>?_)
 refine wpAny_Slice (ix (hl pins s1 σ H1 _ I1 q1) fun vl s2 ⟨l,H2,I2,pl,q2⟩=>ix (hu pins s2 σ H2 _ I2 q2) fun vu s3 ⟨u,H3,I3,pu,q3⟩=>?_)
 rw[evalPart_none]
 refine av ?_
 have I4:Inv X pins σ H3 {s3 with heap:=s3.heap.push {cls:=.type "slice",data:=.fields #[vl,vu,.none]}}:=I3.kept (t':=s3.toks) fun b ob q=>af _ q
 obtain⟨T,id,hT,ht,hg⟩:=hr pins {s3 with heap:=s3.heap.push {cls:=.type "slice",data:=.fields #[vl,vu,.none]}} σ H3 x v vl vu l u s3.heap.objs.size Q I4 r1 (Heap.IsSliceOf.new ..) pl pu q3
 show wpAny (model X.prog X.w) X.A (subscriptTail e (.Slice lo hi none p2) v (.ref s3.heap.objs.size)) (EP X pins σ Q) X.xe {s3 with heap:=s3.heap.push {cls:=.type "slice",data:=.fields #[vl,vu,.none]}}
 exact tail_any (ops:=[.ref s3.heap.objs.size,v]) ht hT hg (by with_unfolding_all rfl)
def kQ(xs:List V)(lo hi:Option Int):List V:=(xs.drop (HT.iL xs.length 0 lo)).take (HT.iL xs.length xs.length hi-HT.iL xs.length 0 lo)
theorem AG(xs:List V)(lo hi:Option Int):(kQ xs lo hi).length<=xs.length:=by
 unfold kQ
 rw[aS,eC]
 lia
def B0(K:PySem.W.Frag):V->Option Int->Option Int->Hp->VK->Prop:=fun x lo hi H Q=>∃a xs,x= .ref a/\SqT K H a xs/\
 ¬(HT.iL xs.length 0 lo=0/\HT.iL xs.length xs.length hi=xs.length)/\∀p,H p=none->Q (.ref p) (upd H p (.tup (kQ xs lo hi)))
theorem BL:SlR X (B0 X.K):=by
 intro pins s σ H x v vl vu lo hi sl Q I rx hs pl pu h
 obtain⟨a,xs,rfl,hx,hw,q⟩:=h
 cases rx
 obtain⟨its,r,ht,hz⟩:=I.tuple hx
 have hlen:its.toArray.size=xs.length:=by rw[aq];exact r.length.symm
 refine⟨"tuple",_,dX.lookup,ht.typeIs,?_⟩
 refine HT.Hi ht hs pl pu (by rw[hlen];exact hw) ?_ (by rw[hlen];exact hz)
 rw[hlen]
 refine⟨.ref s.heap.objs.size,_,I.laid (t':=s.toks) (o:=.tup (kQ xs lo hi)) (fun b ob q=>af _ q) (au _) ?_,rfl,q _ (I.hok.fresh (au _))⟩
 exact⟨bo (AG xs lo hi) hz,_,(r.drop (HT.iL xs.length 0 lo)).take (HT.iL xs.length xs.length hi-HT.iL xs.length 0 lo),IsTup.new _ _⟩
def B6(K:PySem.W.Frag):R2:=fun x y H Q=>∃a b ns ms,x= .ref a/\y= .ref b/\SqT K H a (ns.map V.int)/\SqT K H b (ms.map V.int)/\Q (.bl (HT.lexLt ns ms)) H
theorem Cy(hu:X.A.units<cLine):OpR X (compareOp .Lt) (B6 X.K):=by
 intro pins s σ H x y v u Q I rx ry h
 obtain⟨a,b,ns,ms,rfl,rfl,ha,hb,q⟩:=h
 cases rx
 cases ry
 obtain⟨its,r1,p1,_⟩:=I.tuple ha
 obtain⟨its2,r2,p2,_⟩:=I.tuple hb
 have i1:IntsAre its.toArray.toList ns:=pJ r1
 have i2:IntsAre its2.toArray.toList ms:=pJ r2
 exact HT.CQ p1 p2 i1 i2 hu ⟨.bl (HT.lexLt ns ms),H,I,rfl,q⟩
end
def ky(n:Nat)(i:Int):Option Nat:=if 0<=i then(if i<n then some i.toNat else none)else if -(n:Int)<=i then some (i+n).toNat else none
def i7{α:Type}(xs:List α)(i:Int):Option α:=(ky xs.length i).bind fun j=>xs[j]?
theorem yn{n:Nat}{i:Int}{j:Nat}(h:ky n i=some j):seqIndex? i n=some j/\j<n/\-(n:Int)<=i/\i<n:=by
 unfold ky at h
 by_cases h0:0<=i
 ·rw[az h0]at h
  by_cases h1:i<n
  ·rw[az h1]at h
   have e:i.toNat=j:=aL h
   exact⟨by rw[gT h0 h1,e],by lia,by lia,h1⟩
  ·rw[ay h1]at h;cases h
 ·rw[ay h0]at h
  by_cases h1:-(n:Int)<=i
  ·rw[az h1]at h
   have e:(i+n).toNat=j:=aL h
   exact⟨by rw[seqIndex_neg (by lia) h1,e],by lia,h1,by lia⟩
  ·rw[ay h1]at h;cases h
theorem ub{α:Type}{xs:List α}{i:Int}{v:α}(h:i7 xs i=some v):∃j,seqIndex? i xs.length=some j/\xs[j]? =some v/\j<xs.length/\-(xs.length:Int)<=i/\i<xs.length:=by
 unfold i7 at h
 cases e:ky xs.length i with
 |none=>rw[e]at h;cases h
 |some j=>
  rw[e]at h
  obtain⟨h1,h2,h3,h4⟩:=yn e
  exact⟨j,h1,h,h2,h3,h4⟩
theorem kH{α:Type}{xs:List α}{j:Nat}{v:α}(h:xs[j]? =some v):i7 xs (j:Int)=some v:=by
 have hj:j<xs.length:=(ah.mp h).1
 have e:ky xs.length (j:Int)=some j:=by
  unfold ky
  rw[az (by lia),az (by lia)];simp
 unfold i7;rw[e];exact h
def C3(b:Expr):Prop:=∀o i,subscripted b false o i=operate [o,i] (getItem o i)
def IxR(X:Cx)(r:R2):Prop:=
 ∀(value slice:Expr) (pins:List (Addr×Obj)) (s:Shared) (σ:St) (H:Hp) (x y:V) (v u:Value) (Q:VK),Inv X pins σ H s->RelV x v->RelV y u->r x y H Q->
  subscripted slice false v u=operate [v,u] (getItem v u)->wpAny (model X.prog X.w) X.A (subscriptTail value slice v u) (EP X pins σ Q) X.xe s
def MtR(X:Cx)(id:String)(r:V->List V->Hp->VK->Prop):Prop:=
 ∀(pins:List (Addr×Obj)) (s:Shared) (σ:St) (H:Hp) (x:V) (xs:List V) (v:Value) (us:List Value) (Q:VK),Inv X pins σ H s->RelV x v->Vals xs us->r x xs H Q->
  wpAny (model X.prog X.w) X.A (call (.builtin id) (v::us)) (EP X pins σ Q) X.xe s
section
variable{X:Cx}{a b:Expr}{ta tb:TE}{pos:Pos}
theorem IxR.or{r r':R2}(h:IxR X r)(h':IxR X r'):IxR X (fun x y H Q=>r x y H Q\/r' x y H Q):=by
 intro value slice pins s σ H x y v u Q I rx ry q hs
 rcases q with q|q
 ·exact h value slice pins s σ H x y v u Q I rx ry q hs
 ·exact h' value slice pins s σ H x y v u Q I rx ry q hs
theorem iz{r:R2}(hr:IxR X r)(ha:PE X a ta)(hb:PE X b tb)(hs:C3 b):PE X (.Subscript a b pos) (mO r ta tb):=by
 intro pins s σ H Q I h
 exact hV (vI ha hb I h fun v u s2 x y H2 I2 rx ry q=>hr a b pins s2 σ H2 x y v u Q I2 rx ry q (hs _ _))
def wK(K:PySem.W.Frag):R2:=fun x y H Q=>∃p xs i v,x= .ref p/\y= .int i/\SqL K H p xs/\i7 xs i=some v/\Q v H
def B7(K:PySem.W.Frag):R2:=fun x y H Q=>∃p xs i v,x= .ref p/\y= .int i/\SqT K H p xs/\i7 xs i=some v/\Q v H
theorem yo:IxR X (wK X.K):=by
 intro value slice pins s σ H x y v u Q I rx ry h hs
 obtain⟨p,xs,i,z,rfl,rfl,hq,he,q⟩:=h
 cases rx
 obtain⟨t,rfl⟩:=ry
 obtain⟨its,r,pl,hz⟩:=I.list hq
 obtain⟨j,h1,h2,h3,h4,h5⟩:=ub he
 obtain⟨w,ew,rw'⟩:=r.get h2
 have hl:=r.length
 have hn:=nM
 have fin:EP X pins σ Q w s:=⟨z,H,I,rw',q⟩
 by_cases h0:0<=i
 ·have hj:i.toNat=j:=by
   rw[gT h0 h5]at h1
   exact aL h1
  exact item_listR pl.isList h0 (by lia) (by rw[hj];simpa using ew) fin hs
 ·have hj:(i+(its.toArray.size:Int)).toNat=j:=by
   rw[seqIndex_neg (by lia) h4]at h1
   rw [aq,<- hl]
   exact aL h1
  exact subscriptTail_builtinR (x:=w) pl.isList.typeIs gp.lookup
   (wpAny_getItem_list_neg (Q:=fun r s'=>r=w/\EP X pins σ Q r s') pl.isList (by lia) (by rw[aq]<;>lia) (by lia) (by rw[hj];simpa using ew) ⟨rfl,fin⟩) hs
theorem G9:IxR X (B7 X.K):=by
 intro value slice pins s σ H x y v u Q I rx ry h hs
 obtain⟨p,xs,i,z,rfl,rfl,hq,he,q⟩:=h
 cases rx
 obtain⟨t,rfl⟩:=ry
 obtain⟨its,r,pl,hz⟩:=I.tuple hq
 obtain⟨j,h1,h2,h3,h4,h5⟩:=ub he
 obtain⟨w,ew,rw'⟩:=r.get h2
 have hl:=r.length
 have hn:=nM
 have fin:EP X pins σ Q w s:=⟨z,H,I,rw',q⟩
 exact subscriptTail_builtinR (x:=w) pl.typeIs slot_tuple_getitem.lookup
  (getItem_tuple (j:=j) (Q:=fun r s'=>r = w/\EP X pins σ Q r s') pl (by lia) (by lia) (by rw [aq,<- hl]; exact h1) (by simpa using ew) ⟨rfl,fin⟩) hs
theorem FO(its:List Value)(n j:Nat)(u:Value):Obj.mapSeq (·.setIfInBounds j u) {cls:=.type "list",data:=.seq its.toArray n}={cls:=.type "list",data:=.seq (its.set j u).toArray n}:=by
 simp[Obj.mapSeq]
theorem Inv.lst{pins:List (Addr×Obj)}{σ:St}{H:Hp}{s:Shared}{p:Addr}{xs:List V}(I:Inv X pins σ H s)(h:H p=some (.lst xs)):
  ∃(its:List Value) (n:Nat),Vals xs its/\s.heap.get? p=some {cls:=.type "list",data:=.seq its.toArray n}/\xs.length<=sizeLine:=by
 obtain⟨z,its,n,r,e⟩:=I.hok p _ h
 exact⟨its,n,r,e,z⟩
theorem Inv.lstUpd{pins:List (Addr×Obj)}{σ:St}{H:Hp}{s:Shared}{p:Addr}{xs ys:List V}{its its':List Value}{n n':Nat}{f:Obj->Obj}(I:Inv X pins σ H s)(h:H p=some (.lst xs))
  (ho:s.heap.get? p=some {cls:=.type "list",data:=.seq its.toArray n}) (hf:f {cls:=.type "list",data:=.seq its.toArray n}={cls:=.type "list",data:=.seq its'.toArray n'}) (r:Vals ys its') (hz:ys.length<=sizeLine) (t:Nat):
  Inv X pins σ (upd H p (.lst ys)) {s with heap:=s.heap.update p f,toks:=t}:=by
 have e:(s.heap.update p f).get? p=some {cls:=.type "list",data:=.seq its'.toArray n'}:=by
  rw[cy f ho (by rw[hf]<;>rfl),hf]
 refine I.write (x:=p) (e:=p) (by rw[h];trivial) (.inl rfl) (fun b u hb q=>(bL _ _ (cR hb)).trans q) ⟨_,e⟩ ?_
 exact⟨hz,its',n',r,e⟩
def B2:V->V->V->Hp->(Hp->Prop)->Prop:=fun o i v H Q=>∃p xs k j,o= .ref p/\i= .int k/\H p=some (.lst xs)/\ky xs.length k=some j/\Q (upd H p (.lst (xs.set j v)))
theorem EA:PSet X B2:=by
 intro pins s σ H o i v ov iv u Q I ro ri rv h
 obtain⟨p,xs,k,j,rfl,rfl,hp,hj,q⟩:=h
 cases ro
 obtain⟨t,rfl⟩:=ri
 obtain⟨its,n,r,ho,hz⟩:=I.lst hp
 obtain⟨h1,h2,h3,h4⟩:=yn hj
 have hl:=r.length
 have hn:=nM
 have I':Inv X pins σ (upd H p (.lst (xs.set j v))) {s with heap:=s.heap.update p (Obj.mapSeq (·.setIfInBounds j u))}:=
  I.lstUpd hp ho (FO its n j u) (r.set rv j) (by rw[dE];exact hz) s.toks
 by_cases h0:0<=k
 ·have hk:k.toNat=j:=by
   rw[gT h0 h4]at h1
   exact aL h1
  exact PySem.W.ki_setAt ho h0 (by lia) (by rw [aq,<- hl]; exact h4) (by rw [hk]; exact ⟨_,I',q⟩)
 ·have hk:(k+(its.toArray.size:Int)).toNat=j:=by
   rw[seqIndex_neg (by lia) h3]at h1
   rw [aq,<- hl]
   exact aL h1
  exact PySem.W.ki_setBack ho (by lia) (by rw [aq,<- hl]; exact h3) (by lia) (by rw [hk]; exact ⟨_,I',q⟩)
theorem GB(lo hi:Option Int)(n:Nat):(sliceBounds lo hi none n).1=((HT.iL n 0 lo:Nat):Int)/\(sliceBounds lo hi none n).2.1=((HT.iL n n hi:Nat):Int)/\(sliceBounds lo hi none n).2.2=1:=by
 refine⟨?_,?_,rfl⟩
 ·cases lo with
  |none=>simp[sliceBounds,HT.iL]
  |some i=>
   simp only[sliceBounds,HT.iL,Option.getD_none,show(1:Int)>0 by decide,if_true]
   by_cases h:i<0
   ·simp only[h,if_true]<;>lia
   ·simp only[h,if_false]<;>lia
 ·cases hi with
  |none=>simp[sliceBounds,HT.iL]
  |some i=>
   simp only[sliceBounds,HT.iL,Option.getD_none,show(1:Int)>0 by decide,if_true]
   by_cases h:i<0
   ·simp only[h,if_true]<;>lia
   ·simp only[h,if_false]<;>lia
theorem GK(its:List Value)(lo hi:Option Int):slicePick its.toArray lo hi none=((its.drop (HT.iL its.length 0 lo)).take (HT.iL its.length its.length hi-HT.iL its.length 0 lo)).toArray:=by
 obtain⟨h1,h2,h3⟩:=GB lo hi its.toArray.size
 unfold slicePick
 rw[h1,h2,h3]
 simp only[sliceRange_one,pick_run,aq]<;>rfl
def B1(K:PySem.W.Frag):V->Option Int->Option Int->Hp->VK->Prop:=fun x lo hi H Q=>∃a xs,x= .ref a/\SqL K H a xs/\∀p,H p=none->Q (.ref p) (upd H p (.lst (kQ xs lo hi)))
theorem DP:SlR X (B1 X.K):=by
 intro pins s σ H x v vl vu lo hi sl Q I rx hs pl pu h
 obtain⟨a,xs,rfl,hx,q⟩:=h
 cases rx
 obtain⟨its,r,ht,hz⟩:=I.list hx
 have hlen:=r.length
 refine⟨"list",_,gp.lookup,ht.isList.typeIs,?_⟩
 refine wpAny_getItem_list_slice ht.isList hs pl pu .none (by simp) ?_ (by rw[aq]<;>lia)
 rw [GK,<- hlen]
 refine⟨.ref s.heap.objs.size,_,I.laid (t':=s.toks) (o:=.lst (kQ xs lo hi)) (fun b ob q=>af _ q) (au _) ?_,rfl,q _ (I.hok.fresh (au _))⟩
 exact⟨bo (AG xs lo hi) hz,_,0,(r.drop (HT.iL xs.length 0 lo)).take (HT.iL xs.length xs.length hi-HT.iL xs.length 0 lo),aJ _ rfl⟩
def j3:V->Bool
 | .non=>true
 | .bl _=>true
 | .int _=>true
 | .str _=>true
 |_=>false
def kJ:V->V->Bool
 | .non,.non=>true
 | .bl a,.bl b=>a==b
 | .bl a,.int b=>(if a then 1 else 0)==b
 | .int a,.bl b=>a==(if b then 1 else 0)
 | .int a,.int b=>a==b
 | .str a,.str b=>a==b
 |_,_=>false
theorem xo{A:Around}{s:Shared}{y x:V}{u v:Value}(ry:RelV y u)(rx:RelV x v)(fy:j3 y=true)(fx:j3 x=true):SeqAt.EqAt A s u v (kJ y x):=by
 cases y with
 |non=>
  cases ry
  cases x with
  |non=>cases rx;exact gY _
  |bl b=>cases rx;exact SeqAt.EqAt.none_bool b
  |int b=>obtain⟨t,rfl⟩:=rx;exact SeqAt.EqAt.none_int b t
  |str b=>obtain⟨t,rfl⟩:=rx;exact SeqAt.EqAt.none_str b t
  |_=>exact absurd (show false=true from fx) aY
 |bl a=>
  cases ry
  cases x with
  |non=>cases rx;exact SeqAt.EqAt.bool_none a
  |bl b=>cases rx;exact SeqAt.EqAt.bool_bool a b
  |int b=>obtain⟨t,rfl⟩:=rx;exact SeqAt.EqAt.bool_int a b t
  |str b=>obtain⟨t,rfl⟩:=rx;exact SeqAt.EqAt.bool_str a b t
  |_=>exact absurd (show false=true from fx) aY
 |int a=>
  obtain⟨t',rfl⟩:=ry
  cases x with
  |non=>cases rx;exact SeqAt.EqAt.int_none a t'
  |bl b=>cases rx;exact SeqAt.EqAt.int_bool a t' b
  |int b=>obtain⟨t,rfl⟩:=rx;exact SeqAt.EqAt.int_int a t' b t
  |str b=>obtain⟨t,rfl⟩:=rx;exact SeqAt.EqAt.int_str a t' b t
  |_=>exact absurd (show false=true from fx) aY
 |str a=>
  obtain⟨t',rfl⟩:=ry
  cases x with
  |non=>cases rx;exact SeqAt.EqAt.str_none a t'
  |bl b=>cases rx;exact SeqAt.EqAt.str_bool a t' b
  |int b=>obtain⟨t,rfl⟩:=rx;exact SeqAt.EqAt.str_int a t' b t
  |str b=>obtain⟨t,rfl⟩:=rx;exact SeqAt.EqAt.str_str a t' b t
  |_=>exact absurd (show false=true from fx) aY
 |_=>exact absurd (show false=true from fy) aY
def kA(x:V)(u:Value):Bool:=match u with
 | .none=>kJ .non x
 | .bool b=>kJ (.bl b) x
 | .int i _=>kJ (.int i) x
 | .str z _=>kJ (.str z) x
 |_=>false
theorem xp{x y:V}{u:Value}(r:RelV y u)(f:j3 y=true):kA x u=kJ y x:=by
 cases y with
 |non=>cases r;rfl
 |bl b=>cases r;rfl
 |int i=>obtain⟨t,rfl⟩:=r;rfl
 |str z=>obtain⟨t,rfl⟩:=r;rfl
 |_=>exact absurd (show false=true from f) aY
theorem oZ{x:V}:∀{xs:List V} {us:List Value},Vals xs us->xs.all j3=true->us.any (kA x)=xs.any fun y=>kJ y x
 |_,_,.nil,_=>rfl
 |y::xs,u::us,.cons r t,f=>by
  rw[List.all_cons,cq]at f
  rw[List.any_cons,List.any_cons,xp r f.1,oZ t f.2]
theorem pD{A:Around}{s:Shared}{x:V}{v:Value}(rx:RelV x v)(fx:j3 x=true):∀{xs:List V} {us:List Value},Vals xs us->xs.all j3=true->∀u∈us,SeqAt.EqAt A s u v (kA x u)
 |_,_,.nil,_=>fun u hu=>by cases hu
 |y::xs,u::us,.cons r t,f=>fun u' hu=>by
  rw[List.all_cons,cq]at f
  rcases aU.mp hu with rfl|hu
  ·rw[xp r f.1];exact xo r rx f.1 fx
  ·exact pD rx fx t f.2 u' hu
def lP(x:V)(xs:List V):Bool:=xs.any fun y=>kJ y x
def sg(K:PySem.W.Frag)(neg:Bool):R2:=fun x y H Q=>∃p xs,y= .ref p/\(SqL K H p xs\/SqT K H p xs)/\j3 x=true/\xs.all j3=true/\Q (.bl (if neg then !lP x xs else lP x xs)) H
theorem Fj:OpR X (compareOp .In) (sg X.K false):=by
 intro pins s σ H x y v u Q I rx ry h
 obtain⟨p,xs,rfl,hq,fx,fs,q⟩:=h
 cases ry
 rcases hq with hq|hq
 ·obtain⟨its,r,pl,hz⟩:=I.list hq
  refine SeqAt.in_listAt (kA x) pl.isList (fun w hw=>pD rx fx r fs w (by simpa using hw)) ⟨.bl _,H,I,rfl,?_⟩
  rw[show its.toArray.any (kA x)=its.any (kA x) by simp,oZ r fs]
  exact q
 ·obtain⟨its,r,pl,hz⟩:=I.tuple hq
  refine SeqAt.in_tupleAt (kA x) pl (fun w hw=>pD rx fx r fs w (by simpa using hw)) ⟨.bl _,H,I,rfl,?_⟩
  rw[show its.toArray.any (kA x)=its.any (kA x) by simp,oZ r fs]
  exact q
theorem GA:OpR X (compareOp .NotIn) (sg X.K true):=by
 intro pins s σ H x y v u Q I rx ry h
 obtain⟨p,xs,rfl,hq,fx,fs,q⟩:=h
 cases ry
 rcases hq with hq|hq
 ·obtain⟨its,r,pl,hz⟩:=I.list hq
  refine SeqAt.notIn_listAt (kA x) pl.isList (fun w hw=>pD rx fx r fs w (by simpa using hw)) ⟨.bl _,H,I,rfl,?_⟩
  rw[show its.toArray.any (kA x)=its.any (kA x) by simp,oZ r fs]
  exact q
 ·obtain⟨its,r,pl,hz⟩:=I.tuple hq
  refine SeqAt.notIn_tupleAt (kA x) pl (fun w hw=>pD rx fx r fs w (by simpa using hw)) ⟨.bl _,H,I,rfl,?_⟩
  rw[show its.toArray.any (kA x)=its.any (kA x) by simp,oZ r fs]
  exact q
theorem vc:jc8 X (.builtin "len") (fun xs H Q=>∃p ys,xs=[.ref p]/\(SqL X.K H p ys\/SqT X.K H p ys)/\Q (.int ys.length) H):=by
 intro pins s σ H xs us Q I r h
 obtain⟨p,ys,rfl,hq,q⟩:=h
 obtain⟨u,rfl,rx⟩:=lI r
 cases rx
 have hn:=nM
 rcases hq with hq|hq
 ·obtain⟨its,r',pl,hz⟩:=I.list hq
  have hlen:=r'.length
  exact Calls.call_len_list pl.isList (by simp only[aq]<;>lia) ⟨.int ys.length,H,I.tok _,⟨s.toks+1,by rw[aq,hlen]⟩,q⟩
 ·obtain⟨its,r',pl,hz⟩:=I.tuple hq
  have hlen:=r'.length
  exact len_tuple pl (by simp only[aq]<;>lia) ⟨.int ys.length,H,I.tok _,⟨s.toks+1,by rw[aq,hlen]⟩,q⟩
theorem Gp:jc8 X (.type "list") (fun xs H Q=>∃p ys,xs=[.ref p]/\(SqL X.K H p ys\/SqT X.K H p ys)/\∀l,H l=none->Q (.ref l) (upd H l (.lst ys))):=by
 intro pins s σ H xs us Q I r h
 obtain⟨p,ys,rfl,hq,q⟩:=h
 obtain⟨u,rfl,rx⟩:=lI r
 cases rx
 have fin:∀(its:List Value),Vals ys its->ys.length<=sizeLine->∀(h':Heap) (c':Nat),(∀b o',s.heap.get? b=some o'->h'.get? b=some o')->
   h'.get? s.heap.objs.size=some {cls:=.type "list",dict:=none,data:=.seq its.toArray c',slots:=#[]}->EP X pins σ Q (.ref s.heap.objs.size) {s with heap:=h'}:=fun its r' hz h' c' kp e=>
  ⟨.ref s.heap.objs.size,_,I.laid (t':=s.toks) kp (au _) (show jbm X.prog X.w _ h' _ (.lst ys)from⟨hz,its,c',r',e⟩),rfl,q _ (I.hok.fresh (au _))⟩
 rcases hq with hq|hq
 ·obtain⟨its,r',pl,hz⟩:=I.list hq
  have hlen:=r'.length
  obtain⟨o,ho,hc,n,hd⟩:=pl.isList
  exact call_list_seq p (.inl rfl) ho hc hd (fun h' c' kp e=>fin its r' hz h' c' kp e) (by simp only[aq]<;>lia)
 ·obtain⟨its,r',pl,hz⟩:=I.tuple hq
  have hlen:=r'.length
  obtain⟨o,ho,hc,n,hd⟩:=pl
  exact call_list_seq p (.inr rfl) ho hc hd (fun h' c' kp e=>fin its r' hz h' c' kp e) (by simp only[aq]<;>lia)
def BA(K:PySem.W.Frag)(T:String)(x:V)(H:Hp):Prop:=match x with
 | .str _=>T="str"
 | .int _=>T="int"
 | .ref p=>(T="list"/\∃xs,SqL K H p xs)\/(T="tuple"/\∃o,K.lookup p=some o/\o.cls= .type "tuple"/\o.dict=none)\/
   (T="dict"/\((∃kvs,H p=some (.dK kvs))\/∃kvs,H p=some (.dT kvs)))\/(T="set"/\∃S n,H p=some (.set S n))
 |_=>False
theorem x6{pins:List (Addr×Obj)}{σ:St}{H:Hp}{s:Shared}{T:String}{x:V}{v:Value}(I:Inv X pins σ H s)(r:RelV x v)(ty:BA X.K T x H):
  s.TypeIs v T/\∀a,v= .ref a->∃ob,s.heap.get? a=some ob/\ob.dict=none:=by
 cases x with
 |str z=>
  obtain⟨t,rfl⟩:=r
  cases(show T="str" from ty)
  exact⟨typeIs_str s z t,fun _ e=>nomatch e⟩
 |int i=>
  obtain⟨t,rfl⟩:=r
  cases(show T="int" from ty)
  exact⟨typeIs_int s i t,fun _ e=>nomatch e⟩
 | ref p=>
  cases r
  rcases ty with⟨rfl,xs,hq⟩|⟨rfl,o,hk,hc,hd⟩|⟨rfl,hk⟩|⟨rfl,S,n,hk⟩
  ·obtain⟨its,_,pl,_⟩:=I.list hq
   refine⟨pl.isList.typeIs,fun a e=>?_⟩
   cases e
   obtain⟨o,n,e,c,hd,_⟩:=pl
   exact⟨o,e,hd⟩
  ·refine⟨⟨o,I.kIn p o hk,hc⟩,fun a e=>?_⟩
   cases e
   exact⟨o,I.kIn _ o hk,hd⟩
  ·have z:∃o,s.heap.get? p=some o/\o.ExactDict:=by
    rcases hk with⟨kvs,hk⟩|⟨kvs,hk⟩
    ·obtain⟨_,_,_,_,o,_,_,e,ex,_⟩:=I.hok p _ hk
     exact⟨o,e,ex⟩
    ·obtain⟨_,_,_,_,o,_,_,e,ex,_⟩:=I.hok p _ hk
     exact⟨o,e,ex⟩
   obtain⟨o,e,ex⟩:=z
   refine⟨⟨o,e,ex.1⟩,fun a e2=>?_⟩
   cases e2
   exact⟨o,e,ex.2.1⟩
  ·obtain⟨o,_,_,_,e,ex,_⟩:=I.hok p _ hk
   refine⟨⟨o,e,ex.1⟩,fun a e2=>?_⟩
   cases e2
   exact⟨o,e,ex.2.1⟩
 |_=>exact False.elim ty
variable{o e:Expr}{es:List Expr}{to:TE}{t:TA}{name:Str}{apos cpos:Pos}{T id:String}{r:V->List V->Hp->VK->Prop}
/- xs.append(e),list.index on a module's tuple .. are MtR facts of 06m -/
end
def vN(X:Cx)(id:String)(r:V->List V->Hp->VK->Prop):Prop:=
 ∀(pins:List (Addr×Obj)) (s:Shared) (σ:St) (H:Hp) (x:V) (xs:List V) (v:Value) (us:List Value) (Q:VK),Inv X pins σ H s->RelV x v->Vals xs us->r x xs H Q->
  wpAny (model X.prog X.w) X.A (call (.builtin id) (v::us)) (EP X pins σ Q) X.xe s
theorem Vals.one:∀{x:V} {us:List Value},Vals [x] us->∃u,us=[u]/\RelV x u
 |_,_,.cons r .nil=>⟨_,rfl,r⟩
theorem Vals.two:∀{x y:V} {us:List Value},Vals [x,y] us->∃u v,us=[u,v]/\RelV x u/\RelV y v
 |_,_,_,.cons r (.cons q .nil)=>⟨_,_,rfl,r,q⟩
theorem Vals.zero:∀{us:List Value},Vals [] us->us=[]
 |_,.nil=>rfl
theorem Vals.dropLast{xs:List V}{us:List Value}(h:Vals xs us):Vals xs.dropLast us.dropLast:=by
 induction h with
 |nil=>exact .nil
 |cons r t ih=>
  cases t with
  |nil=>exact .nil
  |cons q t'=>exact .cons r ih
theorem FI{α:Type}(l:List α):l.eraseIdx (l.length-1)=l.dropLast:=by
 induction l with
 |nil=>rfl
 | cons a r ih=>
  cases r with
  |nil=>rfl
  | cons b r=>
   have e:(a::b::r).length-1=((b::r).length-1)+1:=by
    have h1:(a::b::r).length=r.length+2:=rfl
    have h2:(b::r).length=r.length+1:=rfl
    lia
   rw[e,List.eraseIdx_cons_succ,ih]
   all_goals rfl
section
variable{X:Cx}{pins:List (Addr×Obj)}{σ:St}{H:Hp}{s:Shared}{l b:Addr}{xs ys zs:List V}
theorem Inv.lset{its its':List Value}{n:Nat}{f:Array Value->Array Value}{t':Nat}(I:Inv X pins σ H s)(hH:H l=some (.lst xs))
  (e:s.heap.get? l=some {cls:=.type "list",data:=.seq its.toArray n}) (hf:f its.toArray=its'.toArray) (hv:Vals ys its') (hz:ys.length<=sizeLine):
  Inv X pins σ (upd H l (.lst ys)) {s with heap:=s.heap.update l (Obj.mapSeq f),toks:=t'}:=by
 have q:=PySem.IsL.update e f
 rw[hf]at q
 refine I.write (x:=l) (e:=l) (by rw[hH];exact trivial) (.inl rfl) (fun b' u hb hu=>(bL s.heap (Obj.mapSeq f) (cR hb)).trans hu) ⟨_,q⟩ ?_
 exact⟨hz,its',_,hv,q⟩
theorem Inv.lnew{its:List Value}{t':Nat}(I:Inv X pins σ H s)(hv:Vals ys its)(hz:ys.length<=sizeLine):
  Inv X pins σ (upd H s.heap.objs.size (.lst ys)) {s with heap:=s.heap.push {cls:=.type "list",data:=.seq its.toArray},toks:=t'}:=
 I.laid (fun _ _ q=>af _ q) (au _) ⟨hz,its,0,hv,aJ _ rfl⟩
theorem Inv.fresh(I:Inv X pins σ H s):H s.heap.objs.size=none:=I.hok.fresh (au _)
theorem Inv.lstM(I:Inv X pins σ H s)(hH:H l=some (.lst xs)):xs.length<=sizeLine/\∃(its:List Value) (n:Nat),Vals xs its/\xs.length=its.length/\s.heap.get? l=some {cls:=.type "list",data:=.seq its.toArray n}:=by
 obtain⟨z,its,n,r,e⟩:=I.hok l _ hH
 exact⟨z,its,n,r,r.length,e⟩
end
section
variable{X:Cx}
def yG:V->List V->Hp->VK->Prop:=fun x vs H Q=>∃l xs y,x= .ref l/\vs=[y]/\H l=some (.lst xs)/\xs.length<sizeLine/\Q .non (upd H l (.lst (xs++[y])))
theorem Ac:vN X "list.append" yG:=by
 intro pins s σ H x vs v us Q I rx rv h
 obtain⟨l,xs,y,rfl,rfl,hH,hz,q⟩:=h
 cases rx
 obtain⟨u,rfl,ru⟩:=rv.one
 obtain⟨z,its,n,r,hl,e⟩:=I.lstM hH
 refine call_meets F.slot_list_append ⟨_,e,rfl⟩ F.entry_list_append (F.args_list_append_2 _ _) (PySem.list_append l its.toArray n u (by rw[aq];lia)) ⟨e,?_⟩
 refine⟨.non,_,I.lset (its':=its++[u]) hH e (by simp) (r.append (.cons ru .nil)) ?_,rfl,q⟩
 rw[aB,List.length_singleton]
 lia
def wJ:V->List V->Hp->VK->Prop:=fun x vs H Q=>∃l xs y,x= .ref l/\vs=[]/\H l=some (.lst xs)/\xs[xs.length-1]? =some y/\Q y (upd H l (.lst xs.dropLast))
theorem CN:vN X "list.pop" wJ:=by
 intro pins s σ H x vs v us Q I rx rv h
 obtain⟨l,xs,y,rfl,rfl,hH,hy,q⟩:=h
 cases rx
 have hus:=rv.zero
 subst hus
 obtain⟨z,its,n,r,hl,e⟩:=I.lstM hH
 obtain⟨u,hu,ru⟩:=r.get hy
 have hy':its.toArray[its.toArray.size-1]? =some u:=by
  show its.toArray[its.length-1]? =some u
  rw [<- cL,<- hl]
  exact hu
 refine call_meets F.slot_list_pop ⟨_,e,rfl⟩ F.entry_list_pop (F.args_list_pop_1 _) (MeetsSeq.list_pop_last l its.toArray n u hy' (by rw[aq];lia)) ⟨e,?_⟩
 refine⟨y,_,I.lset (its':=its.dropLast) hH e ?_ r.dropLast ?_,ru,q⟩
 ·show its.toArray.eraseIdxIfInBounds (its.toArray.size-1)=its.dropLast.toArray
  rw[aq,List.eraseIdxIfInBounds_toArray,FI]
 ·rw[List.length_dropLast]
  lia
def xN:V->List V->Hp->VK->Prop:=fun x vs H Q=>∃l xs,x= .ref l/\vs=[]/\H l=some (.lst xs)/\Q .non (upd H l (.lst []))
theorem Eg:vN X "list.clear" xN:=by
 intro pins s σ H x vs v us Q I rx rv h
 obtain⟨l,xs,rfl,rfl,hH,q⟩:=h
 cases rx
 have hus:=rv.zero
 subst hus
 obtain⟨z,its,n,r,hl,e⟩:=I.lstM hH
 refine call_meets F.slot_list_clear ⟨_,e,rfl⟩ F.entry_list_clear (F.args_list_clear_1 _) (AutoSeq1.list_clear_list_0 l its.toArray n (by rw[aq];lia)) ⟨e,?_⟩
 exact⟨.non,_,I.lset (its':=[]) (ys:=[]) hH e rfl .nil (bw _),rfl,q⟩
def Cd:R2:=fun x y H Q=>∃l b xs zs,x= .ref l/\y= .ref b/\H l=some (.lst xs)/\H b=some (.lst zs)/\xs.length+zs.length<=sizeLine/\∀p,H p=none->Q (.ref p) (upd H p (.lst (xs++zs)))
theorem CG:OpR X (binaryOp .Add) Cd:=by
 intro pins s σ H x y v u Q I rx ry h
 obtain⟨l,b,xs,zs,rfl,rfl,hH,hB,hz,q⟩:=h
 cases rx
 cases ry
 obtain⟨z,its,n,r,hl,e⟩:=I.lstM hH
 obtain⟨z2,its2,n2,r2,hl2,e2⟩:=I.lstM hB
 refine PySem.P.add_list e e2 ?_ (by rw[aq,aq];lia)
 have ea:its.toArray++its2.toArray=(its++its2).toArray:=by simp
 rw[ea]
 exact⟨.ref _,_,I.lnew (t':=s.toks) (r.append r2) (by rw[aB];lia),rfl,q _ I.fresh⟩
end
section
variable{prog:Program}{w:World}{A:Around}{E:Value->Shared->Prop}{s:Shared}
end
section
variable{X:Cx}
end
end L2
namespace Att
open PySem PySem.W PySem.Calls PyProof.Rows
theorem GV{P:Params}{h:Heap}:∀(ns:List Int) (vs:List Value),WellAll P h vs (ns.map WData.int)->IntsAre vs ns:=by
 intro ns
 induction ns with
 |nil=>
  intro vs w
  rw[bV]at w
  cases w
  exact .nil
 | cons n ns ih=>
  intro vs w
  rw[aw]at w
  cases w with
  |cons a b=>
   cases a
   exact .cons _ _ (ih _ b)
theorem Fy{l:OpenLaw}{n:Nat}(hn:l.most=some n){P:Params}{h:Heap}{args:List WData}{vals:List Value}
  (hpre:l.row.toRowW.claim.pre args=true) (hwl:WellAll P h vals args):
  ∃a vs ns,vals=[Value.ref a]/\args=[WData.list (ns.map WData.int)]/\h.get? a=some {cls:=.type "list",data:=.seq vs.toArray}/\IntsAre vs ns/\ns.length<=n:=by
 have hsh:WShape.hasAll [] args [.list .int]=true:=(pre_splitW hpre).1
 have hc:l.pre.holds [] {args:=args}=true:=(pre_splitW hpre).2
 obtain⟨d,r,rfl,h1,h2⟩:=hasAllW_cons hsh
 obtain rfl:=hasAllW_nil h2
 obtain⟨xs,rfl,h3⟩:=hasW_list h1
 obtain⟨ns,rfl⟩:=items_int h3
 have hlen:ns.length<=n:=by
  unfold OpenLaw.pre at hc
  have h4:(WTm.not (.lt (.lit (.int (n:Int))) (.len (.arg 0)))).holds [] {args:=[.list (ns.map .int)]}=true:=by
   have h4:=(holds_andW hc).1
   rw[hn]at h4
   exact h4
  have h5:=condW_of h4 (w_not (w_lt w_lit (w_len_list (w_arg rfl))))
  rw[ae]at h5
  refine Nat.le_of_not_lt fun q=>?_
  have q':(n:Int)<((ns.length:Nat):Int):=by lia
  first
   |(rw[aD q']at h5;exact absurd h5 (by decide))
   |(simp at h5;lia)
 cases hwl with
 |cons w1 w2=>
  cases w2
  cases w1 with
  |list ho hall=>exact⟨_,_,ns,rfl,rfl,ho,GV ns _ hall,hlen⟩
theorem Ft(l:OpenLaw)(args:List WData):l.row.toRowW.claim.post args (.bool true) args=true:=
 postW_of (r:=l.row.toRowW) (X:=(true==true))
  (show WShape.has [] (.bool true) .bool=true by first|rfl|decide|simp[WShape.has,WShape.arms,WShape.armsAll])
  (show(WTm.eq .res (.lit (.bool true))).value [] {args:=args,res:=some (.bool true),after:=args}=some (.bool (true==true))from w_eq_bool (w_res rfl) w_lit) rfl
theorem HU{l:OpenLaw}{n:Nat}{q:Program}{loose:List Str}{XP:(Str->Option Value)->Heap->Prop}{YP:World->Heap->Prop}{d:DefRec}
  (hn:l.most=some n) (hdf:d.params.defaults=[])
  (call:∀(w:World) (s₀ s₁:Shared) (mg mb:Str->Option Value) (fa:Addr) (o:Obj) (pm cd doc:Value) (a:Addr) (vs:List Value) (ns:List Int),
   Ground q loose [] XP w s₀ mg mb s₁.heap->YP w s₁.heap->
   s₁.heap.get? fa=some o->o.data= .func (docDef d.name d.params d.body d.scope pm cd doc)->s₁.heap.CodeRec cd d.name->mg d.name=some (.ref fa)->
   s₁.heap.get? a=some {cls:=.type "list",data:=.seq vs.toArray}->IntsAre vs ns->ns.length<=n->s₁.gens= #[]->
   codeAny (model l.prog w) callerA (.call (.ref fa) ⟨[.ref a],[]⟩) (fun r s'=>r= .ok (.ret (.bool true))/\OldK s₁.heap s'.heap/\s'.os=s₁.os/\AllBare s'.gens) s₁):
  WalkO q loose XP YP l.row.toRowW d [] (fun f vs=>PySem.call f vs):=by
 intro w s₀ s₁ mg mb G Y fa o pm cd doc dV kV ho hd hcd hD hmg hg args vals as hpre hlay hrd hwl hlo
 obtain rfl:dV= .none:=Dflts.none hD hdf
 obtain rfl:kV= .none:=Dflts.noKw hD
 obtain⟨a,vs,ns,rfl,rfl,hobj,hints,hlen⟩:=Fy hn hpre hwl
 refine enter_call (eM (call w s₀ s₁ mg mb fa o pm cd doc a vs ns G Y ho (fd_plain hd) hcd hmg hobj hints hlen hg) fun r s' hq=>?_)
 obtain⟨rfl,h2,h3,h4⟩:=hq
 exact⟨.inl ⟨.bool true,.bool true,[],rfl,fun _=>rfl,.bool true,Ft l _,fun _=>⟨List.Pairwise.nil,fun _ hm=>(nomatch hm)⟩⟩,h2,h3,h4⟩
section
variable{prog:Program}{w:World}{A:Around}{E:Value->Shared->Prop}{s:Shared}{K:Frag}
end
end Att
namespace L2
open PySem PySem.Spec PyProof.Rows
theorem uX:∀{vs:List Value} {ns:List Int},IntsAre vs ns->Vals (ns.map V.int) vs
 |_,_,.nil=>.nil
 |_,_,.cons n t h=>.cons ⟨t,rfl⟩ (uX h)
def rW(H:Hp):Prop:=∀b,H b=none\/∃o xs,H b=some (.frz o (.lst xs))
theorem Ee{P:Program}{w:World}{K:PySem.W.Frag}{mg mb:Str->Option Value}{CX:kD}{k:Nat}{fa a:Addr}{fd:FuncData}{x:Str}{sp:Sp}{s₁:Shared}{vs:List Value}{ns:List Int}
  (KX:K.In s₁.heap) (hns:s₁.heap.Ns mainGlobals mg) (hb:s₁.heap.Ns builtinsNs mb) (hbb:∀x:Str,x≠"__name__"->mb x=bootBuiltins x) (hlim:s₁.heap.NoLimit) (hg:s₁.gens= #[])
  (ha:s₁.heap.get? a=some {cls:=.type "list",data:=.seq vs.toArray}) (hi:IntsAre vs ns) (hl:ns.length<=sizeLine) (hr:Room k callerA)
  (F:∀base:Heap,K.In base->base.Ns mainGlobals mg->FnOk P w K mg base CX k fa fd [x] sp) (hbind:∀(s:Shared) (u:Value),BindsTo s fd ⟨[u],[]⟩ [(x,u)])
  (hsp:∀H:Hp,rW H->SqL K H a (ns.map V.int)->sp [.ref a] H (fun v _=>v= .bl true) fun _ _ _=>False)
  (hCX:∀H e s',CX [] H s₁ (fun _ _ _=>False) e s'->False):
  codeAny (model P w) callerA (.call (.ref fa) ⟨[.ref a],[]⟩) (fun r s'=>r= .ok (.ret (.bool true))/\OldK s₁.heap s'.heap/\s'.os=s₁.os/\AllBare s'.gens) s₁:=by
 have rv:=uX hi
 have lenV:=hi.length
  -- from an abstract heap in which nothing but the script may be tracked
 have core:∀H:Hp,rW H->SqL K H a (ns.map V.int)->HOk P w H s₁.heap->(∀b,H b≠none->b=a)->(H a≠none->K.lookup a=none)->
   codeAny (model P w) callerA (.call (.ref fa) ⟨[.ref a],[]⟩) (fun r s'=>r= .ok (.ret (.bool true))/\OldK s₁.heap s'.heap/\s'.os=s₁.os/\AllBare s'.gens) s₁:=by
  intro H hO hS hok hA hK
  have base_of:∀{b:Addr} {o:Obj},s₁.heap.get? b=some o->H b=none->(me s₁.heap H).get? b=some o:=fun e n=>Ec e n
  have noA:∀{b:Addr} {o:Obj} {es:Array DictEntry} {ep:Nat},s₁.heap.get? b=some o->o.data= .dict es ep->H b=none:=fun{b o es ep} e d=>by
   cases q:H b with
   |none=>rfl
   |some u=>
    have e':b=a:=hA b (by rw[q];simp)
    subst e'
    rw[ha]at e;cases e
    have d':Data.seq vs.toArray _=Data.dict es ep:=d
    cases d'
  have nsK:∀{b:Addr} {m:Str->Option Value},s₁.heap.Ns b m->(me s₁.heap H).Ns b m:=fun{b m} ⟨o,es,ep,e,d,r⟩=>⟨o,es,ep,base_of e (noA e d),d,r⟩
  have hKb:K.In (me s₁.heap H):=fun b o e=>base_of (KX b o e) (by
   cases q:H b with
   |none=>rfl
   |some u=>
    have e':b=a:=hA b (by rw[q];simp)
    subst e'
    rw[hK (by rw[q];simp)]at e;cases e)
  have hM:Mod K mg (me s₁.heap H):=⟨hKb,nsK hns,⟨mb,nsK hb,hbb⟩,let⟨mc,h1,h2⟩:=hlim;⟨mc,nsK h1,h2⟩⟩
  have e0:Env0 P w K mg (me s₁.heap H) callerA [] s₁ H:=⟨rfl,hM,fun b o e=>Dw e,Nat.le_of_eq (E3 _ _),trivial,fun b hb=>absurd (show b∈([]:List Addr)from hb) (by simp),hok,.of_eq hg⟩
  refine eM ((F _ hKb (nsK hns)).run callerA [] s₁ H ⟨[.ref a],[]⟩ [.ref a] [.ref a] _ _ hr e0 (hbind s₁ (.ref a)) (.cons rfl .nil) (hsp H hO hS)) fun r s' h=>?_
  cases r with
  |error e=>exact(hCX H e s' h).elim
  | ok fl=>
   cases fl with
   |next=>exact False.elim h
   |brk=>exact False.elim h
   |cont=>exact False.elim h
   | ret u=>
    obtain⟨v,H',os,bare,un,hok',r',q⟩:=h
    have q':v= .bl true:=q
    subst q'
    obtain rfl:u=Value.bool true:=r'
    refine⟨rfl,OldK.of_keep fun b o e=>?_,os,bare⟩
    cases q:H b with
    |none=>exact un.keep b o e q (by intro z;exact absurd (show b∈([]:List Addr)from z) (by simp)) (by simp)
    | some u=>
     rcases hO b with z|⟨ob,xs,z⟩
     ·rw[q]at z;cases z
     ·have z2:=un.frzs b ob _ z
      obtain⟨e1,_⟩:=hok b _ z
      obtain⟨e2,_⟩:=hok' b _ z2
      rw[e]at e1;cases e1
      exact e2
 cases hk:K.lookup a with
 | some o=>
    -- the script is one of the module's own objects
  have e:=KX a o hk
  rw[ha]at e
  cases e
  refine core (fun _=>none) (fun _=>.inl rfl) (.inr ⟨_,vs.toArray,_,hk,rfl,rfl,rfl,by rw[aq,lenV];exact hl,by simpa using rv⟩) (fun b u z=>by have z':(none:Option HO)=some u:=z;cases z') (fun b z=>absurd rfl z) fun z=>absurd rfl z
 | none=>
  refine core (fun b=>if b=a then some (.frz {cls:=.type "list",data:=.seq vs.toArray} (.lst (ns.map V.int)))else none) (fun b=>?_) (.inl (.inr ⟨{cls:=.type "list",data:=.seq vs.toArray},az rfl⟩)) (fun b u z=>?_) (fun b z=>?_) fun _=>hk
  ·by_cases hb:b=a
   ·exact .inr ⟨_,_,az hb⟩
   ·exact .inl (ay hb)
  ·by_cases hb:b=a
   ·have z':=(az hb).symm.trans z
    cases z'
    subst hb
    exact⟨ha,by rw[ae];exact hl,vs,_,rv,ha⟩
   ·have z':=(ay hb).symm.trans z
    cases z'
  ·by_cases hb:b=a
   ·exact hb
   ·exact absurd (ay hb) z
abbrev Br{K:PySem.W.Frag}{h:Heap}(_:K.In h):PySem.W.Frag:=K
theorem yZ{l:PySem.W.OpenLaw}{n k:Nat}{q:Program}{loose:List Str}{XP:(Str->Option Value)->Heap->Prop}{YP:World->Heap->Prop}{d:DefRec}{K:Params->PySem.W.Frag}{CX:World->kD}{sp:World->Sp}{x:Str}
    (hn:l.most=some n) (hn2:n<=sizeLine) (hdf:d.params.defaults=[]) (hr:Room k callerA)
    (hY:∀(w:World) (h:Heap),YP w h->(K w.params).In h)
    (F:∀(w:World) (mg:Str->Option Value) (fa:Addr) (h:Heap),(K w.params).In h->h.Ns mainGlobals mg->mg d.name=some (.ref fa)->
      ∃fd:FuncData,(∀(s:Shared) (u:Value),BindsTo s fd ⟨[u],[]⟩ [(x,u)])/\
        ∀base:Heap,(K w.params).In base->base.Ns mainGlobals mg->FnOk l.prog w (K w.params) mg base (CX w) k fa fd [x] (sp w))
    (hsp:∀(w:World) (H:Hp) (a:Addr) (ns:List Int),ns.length<=n->rW H->SqL (K w.params) H a (ns.map V.int)->sp w [.ref a] H (fun v _=>v= .bl true) fun _ _ _=>False)
    (hCX:∀(w:World) (H:Hp) (s:Shared) (e:Value) (s':Shared),CX w [] H s (fun _ _ _=>False) e s'->False):
    PySem.W.WalkO q loose XP YP l.row.toRowW d [] (fun f vs=>PySem.call f vs):=by
  refine Att.HU hn hdf fun w s₀ s₁ mg mb fa o pm cd doc a vs ns G Y ho hd hcd hmg hobj hints hlen hg=>?_
  have KX:=hY w _ Y
  obtain⟨fd,hb,hF⟩:=F w mg fa _ KX G.T.g hmg
  exact Ee KX G.T.g G.T.b G.T.builtins G.T.nolimit hg hobj hints (bo hlen hn2) hr hF hb (fun H hO hS=>hsp w H a ns hlen hO hS) fun H e s'=>hCX w H s₁ e s'
end L2
/- THE LAST THEOREM (shape;LID,My.*are yours):
   My.Adr:a structure of the addresses that your layer names (classes,functions);My.Txt K t:a structure (Prop) of the equations over K;
   My.txt_mk:{K} {implicit addresses ..} (e1:nsIn K mainGlobals "law"=some (some (.ref f))) (e2:K.lookup f=some ⟨oc,od,.func (fnOf "law" "law" params body scope dV kV doc pm an cdv ct),sl⟩) (e3:codeIn K cdv "law"=true) ..:∃t,My.Txt K t
set_option maxRecDepth 100000 in
set_option maxHeartbeats 0 in
theorem PySem.Challenge.cw_LID_holds:PySem.Challenge.rw_LID.Holds:=by
 w_on;o_law;k_head;(case hw=>w_witness2)
 k_fill
 refine L2.yZ (l:=PySem.Challenge.rw_LID) (n:=63) (k:=40) (x:="script") (CX:=fun w=>..) (sp:=fun _=>My.sp_law) rfl (by decide) rfl ⟨rfl,by decide,by decide⟩ (fun w h Y=>PySem.W.kIn_of Y) ?F ?S ?C
 case F=>
  intro w mg fa h KX G hmg
  have T:∃t,My.Txt (L2.Br KX) t:=by
   dsimp only[L2.Br]                          -- K must stand as «<heap const>w.params» for k_is
   refine' My.txt_mk ?e1 ?e2 ?e3 ..
   (case e1=>PySem.W.k_is)                    -- in the order:a name->its address->its object->its parts
   (case e2=>PySem.W.k_is)
   ..
  obtain⟨t,T⟩:=T
  have e0:=hmg.symm.trans (cS KX G T.law)
  cases e0                                       -- fa is the law's own address
  exact⟨_,fun s u=>.of_eq rfl,fun base kb nb=>My.law_fn T kb nb⟩     -- if «.of_eq rfl» comes too early:refine' ⟨_,?b,fun base kb nb=>My.law_fn T kb nb⟩;exact fun s u=>.of_eq rfl
 case S=>exact fun w H a ns hl hO hS=>..
 case C=>exact ..
(the tactic k_is has no namespace:write k_is) -/
namespace L2
open PySem PySem.Spec PyProof.Rows
def ni(s:Stmt):Arguments:=match s with
 | .FunctionDef _ a _ _ _ _ _ _ _ _=>a
 |_=>{posonlyargs:=[],args:=[],vararg:=none,kwonlyargs:=[],kw_defaults:=[],kwarg:=none,defaults:=[]}
def mE(s:Stmt):List Stmt:=match s with
 | .FunctionDef _ _ b _ _ _ _ _ _ _=>b
 |_=>[]
def iU(s:Stmt):Scope:=match s with
 | .FunctionDef _ _ _ _ _ _ sc _ _ _=>sc
 |_=>{kind:=.function,names:=[],isGenerator:=false,isCoroutine:=false}
abbrev iE:kD:=fun _ _ _ _ _ _=>False
abbrev E0:XK:=fun _ _ _=>False
theorem iI{X:Cx}:l6 iE X E0:=fun _ _ _ _ _ _ _ h=>h.elim
structure Fun(K:PySem.W.Frag)(x qual:Str)(st:Stmt)(f:Addr)(fd:FuncData):Prop where
 ex:∃(oc:Value) (od:Option Addr) (kV doc pm:Value) (an:Option Addr) (cdv ct:Value) (osl:Array (Option Value)),
  fd=PySem.W.fnOf x qual (ni st) (mE st) (iU st) .none kV doc pm an cdv ct/\K.lookup f=some ⟨oc,od,.func fd,osl⟩/\PySem.W.codeIn K cdv qual=true
 kp:PySem.W.keepIn K (.ref f)=true
section
variable{P:Program}{w:World}{K:PySem.W.Frag}{mg:Str->Option Value}{base:Heap}
theorem Fun.ok{x qual:Str}{st:Stmt}{f:Addr}{fd:FuncData}{N ps:List Str}{k:Nat}{sp:Sp}(F:Fun K x qual st f fd)(S:FnScope N ps (iU st))(len:∀vs H Q E,sp vs H Q E->vs.length=ps.length)
  (hbody:∀(cdv:Value) (A:Around) (outer:List Env) (s:Shared) (H:Hp) (vs:List V) (Q:VK) (E:XK),Room k (A.deeper (envOfC qual (iU st) s.heap.objs.size f cdv))->sp vs H Q E->
   ∃t,PSs (oh iE P w K mg base N qual (iU st) f cdv A outer s H E).nox (mE st) t/\t {nx:=fun _ H'=>Q .non H',rt:=Q} (lZ N vs) H):FnOk P w K mg base iE (k+1) f fd ps sp:=by
 obtain⟨oc,od,kV,doc,pm,an,cdv,ct,osl,rfl,lk,hcd⟩:=F.ex
 refine Hm lk hcd S len fun A outer s H vs Q E hr hsp=>?_
 obtain⟨t,h,q⟩:=hbody cdv A outer s H vs Q E hr hsp
 exact⟨t,h.nox,q⟩
theorem xw{x qual:Str}{st:Stmt}{f:Addr}{oc:Value}{od an:Option Addr}{osl:Array (Option Value)}{kV doc pm cdv ct:Value}(l:K.lookup f=some ⟨oc,od,.func (PySem.W.fnOf x qual (ni st) (mE st) (iU st) .none kV doc pm an cdv ct),osl⟩)
  (c:PySem.W.codeIn K cdv qual=true) (k:PySem.W.keepIn K (.ref f)=true):Fun K x qual st f (PySem.W.fnOf x qual (ni st) (mE st) (iU st) .none kV doc pm an cdv ct):=⟨⟨oc,od,kV,doc,pm,an,cdv,ct,osl,rfl,l,c⟩,k⟩
end
theorem i8{A:Around}{k:Nat}(hr:Room k A):A.units+1<cLine:=gg (Nat.add_le_add_left (by decide:1<=64) _) hr.units
section
variable{X:Cx}
theorem pv(i:Nat){x:Str}{pos:Pos}(hN:X.N[i]? =some x:=by rfl)(hv:pO X.env.scope x:=by first|exact Or.inl rfl|exact Or.inr (Or.inl rfl)|exact Or.inr (Or.inr rfl))(hd:(x==("__debug__":Str))=false:=by decide)
  (hcd:(x==("__classdict__":Str))=false:=by decide):PE X (.Name x pos) (vR i):=xJ hN hv hd hcd
end
theorem kg{c A B:Prop}[Decidable c](h1:c->A)(h2:¬c->B):if c then A else B:=by
 by_cases h:c
 ·rw[az h]
  exact h1 h
 ·rw[ay h]
  exact h2 h
def Same(H H':Hp):Prop:=∀b o,H b=some o->H' b=some o
theorem Same.refl(H:Hp):Same H H:=fun _ _ h=>h
theorem Same.trans{H H1 H2:Hp}(a:Same H H1)(b:Same H1 H2):Same H H2:=fun c o h=>b c o (a c o h)
theorem Same.free{H H':Hp}(e:Same H H'){l:Addr}(h:H' l=Option.none):H l=Option.none:=by
 cases q:H l with
 |none=>rfl
 |some o=>
  rw[e l o q]at h
  cases h
end L2
set_option maxHeartbeats 8000000
namespace L2
open PySem PySem.Spec PyProof.Rows
section
variable{κ:Type}[DecidableEq κ]
def iT(kvs:List (κ×V))(k:κ):Option V:=(kvs.find? fun kv=>decide (kv.1=k)).map (·.2)
def jr(kvs:List (κ×V))(k:κ)(v:V):List (κ×V):=
 if(kvs.any fun kv=>decide (kv.1=k))=true then kvs.map (fun kv=>if kv.1=k then(kv.1,v)else kv)else kvs++[(k,v)]
def Bl(kvs:List (κ×V))(k:κ):List (κ×V):=kvs.filter fun kv=>decide (kv.1≠k)
theorem rC{p:κ×V}{r:List (κ×V)}{k:κ}(e:p.1=k):iT (p::r) k=some p.2:=by simp[iT,List.find?_cons,e]
theorem rB{p:κ×V}{r:List (κ×V)}{k:κ}(e:¬p.1=k):iT (p::r) k=iT r k:=by simp[iT,List.find?_cons,e]
theorem pH(k:κ):∀kvs:List (κ×V),(kvs.any fun kv=>decide (kv.1=k))=(iT kvs k).isSome
 |[]=>rfl
 |p::r=>by
  rw[List.any_cons]
  by_cases e:p.1=k
  ·simp only[rC e,aD e,Bool.true_or,Option.isSome_some]
  ·rw[rB e,aK e,Bool.false_or];exact pH k r
theorem va(kvs:List (κ×V))(k:κ)(v:V):(jr kvs k v).length<=kvs.length+1:=by
 unfold jr
 split
 ·rw[ae];lia
 ·rw[aB,List.length_cons,List.length_nil];lia
theorem uJ{kvs:List (κ×V)}{k:κ}(v:V)(h:iT kvs k=none):jr kvs k v=kvs++[(k,v)]:=by
 unfold jr
 rw[pH,h]
 exact ay (by decide)
theorem RelO.isSome_eq{o:Option V}{u:Option Value}(r:RelO o u):o.isSome=u.isSome:=by
 cases o with
 |none=>cases u with
  |none=>rfl
  |some _=>exact(show False from r).elim
 |some _=>cases u with
  |none=>exact(show False from r).elim
  |some _=>rfl
theorem RelO.getD{o:Option V}{u:Option Value}{d:V}{d':Value}(r:RelO o u)(rd:RelV d d'):RelV (o.getD d) (u.getD d'):=by
 cases o with
 |none=>cases u with
  |none=>exact rd
  |some _=>exact(show False from r).elim
 |some _=>cases u with
  |none=>exact(show False from r).elim
  |some _=>exact r
theorem KV.val{kvs:List (κ×V)}{vs:List (κ×Value)}(r:KV kvs vs)(k:κ):RelO (iT kvs k) (valueAt vs k):=by
 unfold KV at r
 induction r with
 |nil=>exact True.intro
 | @cons p q ps qs h t ih=>
  obtain⟨h1,h2⟩:=h
  by_cases e:p.1=k
  ·have e':q.1=k:=h1.symm.trans e
   have b:valueAt (q::qs) k=some q.2:=by simp[valueAt,List.find?_cons,e']
   rw[rC e,b];exact h2
  ·have e':¬q.1=k:=fun z=>e (h1.trans z)
   have b:valueAt (q::qs) k=valueAt qs k:=by simp[valueAt,List.find?_cons,e']
   rw[rB e,b];exact ih
theorem KV.any{kvs:List (κ×V)}{vs:List (κ×Value)}(r:KV kvs vs)(k:κ):(kvs.any fun kv=>decide (kv.1=k))=vs.any fun kv=>decide (kv.1=k):=by
 unfold KV at r
 induction r with
 |nil=>rfl
 |cons h t ih=>rw[List.any_cons,List.any_cons,ih,h.1]
theorem KV.repl{kvs:List (κ×V)}{vs:List (κ×Value)}(r:KV kvs vs)(k:κ){y:V}{u:Value}(ry:RelV y u):
  KV (kvs.map fun kv=>if kv.1=k then(kv.1,y)else kv) (vs.map fun kv=>if kv.1=k then(kv.1,u)else kv):=by
 unfold KV at r ⊢
 induction r with
 |nil=>exact .nil
 | @cons p q ps qs h t ih=>
  rw[aw,aw]
  refine .cons ?_ ih
  obtain⟨h1,h2⟩:=h
  by_cases e:p.1=k
  ·rw[az e,az (h1.symm.trans e)];exact⟨h1,ry⟩
  ·rw[ay e,ay (fun z=>e (h1.trans z))];exact⟨h1,h2⟩
theorem KV.put{kvs:List (κ×V)}{vs:List (κ×Value)}(r:KV kvs vs)(k:κ){y:V}{u:Value}(ry:RelV y u):KV (jr kvs k y) (stored vs k u):=by
 unfold jr stored
 rw[r.any k]
 by_cases e:(vs.any fun kv=>decide (kv.1=k))=true
 ·rw[az e,az e];exact r.repl k ry
 ·rw[ay e,ay e];exact Paired.snoc r ⟨rfl,ry⟩
theorem KV.drop{kvs:List (κ×V)}{vs:List (κ×Value)}(r:KV kvs vs)(k:κ):KV (Bl kvs k) (without vs k):=by
 unfold KV at r ⊢
 unfold Bl without
 induction r with
 |nil=>exact .nil
 | @cons p q ps qs h t ih=>
  obtain⟨h1,h2⟩:=h
  rw[bE,bE]
  by_cases e:p.1=k
  ·have a:¬decide (p.1≠k)=true:=by simp[e]
   have b:¬decide (q.1≠k)=true:=by simp[h1.symm.trans e]
   rw[ay a,ay b];exact ih
  ·have e':¬q.1=k:=fun z=>e (h1.trans z)
   have a:decide (p.1≠k)=true:=by simp[e]
   have b:decide (q.1≠k)=true:=by simp[e']
   rw[az a,az b];exact .cons ⟨h1,h2⟩ ih
theorem KV.keys{kvs:List (κ×V)}{vs:List (κ×Value)}(r:KV kvs vs):kvs.map (·.1)=vs.map (·.1):=by
 unfold KV at r
 induction r with
 |nil=>rfl
 |cons h t ih=>rw[aw,aw,ih,h.1]
theorem KV.length{kvs:List (κ×V)}{vs:List (κ×Value)}(r:KV kvs vs):kvs.length=vs.length:=aO r
end
theorem mn{P:Program}{w:World}{k:iq}{u:Value}(r:RelV (kV k) u):(jH P w).is k u=true:=by
 cases k with
 |inl i=>obtain⟨t,e⟩:=(show ∃t,u=Value.int i t from r);subst e;exact F7 P w i t
 |inr x=>obtain⟨t,e⟩:=(show ∃t,u=Value.str x t from r);subst e;exact F8 P w x t
theorem z7{P:Program}{w:World}:∀{ks:List iq} {us:List Value},Vals (ks.map kV) us->ItemsAre (jH P w) ks us
 |[],_,r=>by rw[bV]at r;cases r;exact .nil
 |k::ks,_,r=>by
  rw[aw]at r
  cases r with
  |cons h t=>exact .cons (mn h) (z7 t)
abbrev KT(H:Hp):List (List iq×V)->List (List iq×Addr×Value)->Prop:=Paired fun p q=>p.1=q.1/\H q.2.1=some (.tup (p.1.map kV))/\RelV p.2 q.2.2
theorem KT.val{H:Hp}{kvs:List (List iq×V)}{xs:List (List iq×Addr×Value)}(r:KT H kvs xs)(k:List iq):RelO (iT kvs k) ((atKey xs k).map (·.2)):=by
 induction r with
 |nil=>exact True.intro
 | @cons p q ps qs h t ih=>
  obtain⟨h1,_,h2⟩:=h
  by_cases e:p.1=k
  ·have e':q.1=k:=h1.symm.trans e
   have b:atKey (q::qs) k=some q.2:=by simp[atKey,List.find?_cons,e']
   rw[rC e,b];exact h2
  ·have e':¬q.1=k:=fun z=>e (h1.trans z)
   have b:atKey (q::qs) k=atKey qs k:=by simp[atKey,List.find?_cons,e']
   rw[rB e,b];exact ih
theorem KT.repl{H:Hp}{kvs:List (List iq×V)}{xs:List (List iq×Addr×Value)}(r:KT H kvs xs)(k:List iq){y:V}{u:Value}(ry:RelV y u):
  KT H (kvs.map fun kv=>if kv.1=k then(kv.1,y)else kv) (xs.map (putAt k u)):=by
 induction r with
 |nil=>exact .nil
 | @cons p q ps qs h t ih=>
  rw[aw,aw]
  refine .cons ?_ ih
  obtain⟨h1,h2,h3⟩:=h
  unfold putAt
  by_cases e:p.1=k
  ·rw[az e,az (h1.symm.trans e)];exact⟨h1,h2,ry⟩
  ·rw[ay e,ay (fun z=>e (h1.trans z))];exact⟨h1,h2,h3⟩
theorem KT.put{H:Hp}{kvs:List (List iq×V)}{xs:List (List iq×Addr×Value)}(r:KT H kvs xs)(k:List iq){b:Addr}{y:V}{u:Value}(hb:H b=some (.tup (k.map kV)))(ry:RelV y u):
  KT H (jr kvs k y) (storedH xs k b u):=by
 have e:(kvs.any fun kv=>decide (kv.1=k))=(atKey xs k).isSome:=by
  rw[pH,(r.val k).isSome_eq,eT]
 unfold jr storedH
 rw[e]
 by_cases q:(atKey xs k).isSome=true
 ·rw[az q,az q];exact r.repl k ry
 ·rw[ay q,ay q];exact Paired.snoc r ⟨rfl,hb,ry⟩
theorem KT.keeps{H H':Hp}{kvs:List (List iq×V)}{xs:List (List iq×Addr×Value)}(r:KT H kvs xs)(ht:∀b ys,H b=some (.tup ys)->H' b=some (.tup ys)):KT H' kvs xs:=
 Paired.mapP r fun _ _ z=>⟨z.1,ht _ _ z.2.1,z.2.2⟩
section
variable{P:Program}{w:World}{H:Hp}{h:Heap}{a:Addr}
theorem wI{u:HO}(ok:HOk P w H h)(e:Rd H a u):jbm P w H h a u:=e.ok ok
theorem mU{kvs:List (iq×V)}(ok:HOk P w H h)(e:Rd H a (.dK kvs)):kvs.length<=sizeLine/\(a==sysModules)=false/\∃vs,KV kvs vs/\h.DictOf (jH P w) a vs:=
 show jbm P w H h a (.dK kvs)from wI ok e
theorem mS{kvs:List (iq×V)}(ok:HOk P w H h)(e:H a=some (.dK kvs)):kvs.length<=sizeLine/\(a==sysModules)=false/\∃vs,KV kvs vs/\h.DictOf (jH P w) a vs:=mU ok (.inl e)
theorem m9{ks:List iq}(ok:HOk P w H h)(e:H a=some (.tup (ks.map kV))):(tupleKind (jH P w)).is h ks a:=by
 obtain⟨_,its,r,o,h1,h2,n,h3⟩:=(show jbm P w H h a (.tup (ks.map kV))from ok a _ e)
 exact⟨o,its.toArray,n,h1,h2,h3,by simpa using z7 r⟩
theorem mV{kvs:List (List iq×V)}(ok:HOk P w H h)(e:Rd H a (.dT kvs)):kvs.length<=sizeLine/\(a==sysModules)=false/\
  ∃xs,KT H kvs xs/\h.DictOfH (tupleKind (jH P w)) a xs:=by
 obtain⟨z,y,xs,r,o,es,ep,h1,h2,h3,h4,h5⟩:=(show jbm P w H h a (.dT kvs)from wI ok e)
 refine⟨z,y,xs,r,o,es,ep,h1,h2,h3,h4,fun x hx=>?_,h5⟩
 have all:∀{l:List (List iq×V)} {m:List (List iq×Addr×Value)},KT H l m->∀x∈m,(tupleKind (jH P w)).is h x.1 x.2.1:=by
  intro l m q
  induction q with
  |nil=>intro x hx;exact nomatch hx
  | @cons p q ps qs hq t ih=>
   intro x hx
   rcases aU.mp hx with e|hx
   ·subst e
    exact m9 ok (by rw [<- hq.1]; exact hq.2.1)
   ·exact ih x hx
 exact all r x hx
theorem Hy{kvs:List (List iq×V)}(ok:HOk P w H h)(e:H a=some (.dT kvs)):kvs.length<=sizeLine/\(a==sysModules)=false/\
  ∃xs,KT H kvs xs/\h.DictOfH (tupleKind (jH P w)) a xs:=mV ok (.inl e)
end
def DGet(H:Hp)(a:Addr)(y:V)(r:Option V):Prop:=
 (∃kvs k,Rd H a (.dK kvs)/\y=kV k/\r=iT kvs k)\/∃kvs k b,Rd H a (.dT kvs)/\y= .ref b/\H b=some (.tup (k.map kV))/\r=iT kvs k
def DPut(H:Hp)(a:Addr)(y v:V)(H':Hp):Prop:=
 (∃kvs k,H a=some (.dK kvs)/\y=kV k/\kvs.length<sizeLine/\H'=upd H a (.dK (jr kvs k v)))\/
 ∃kvs k b,H a=some (.dT kvs)/\y= .ref b/\H b=some (.tup (k.map kV))/\kvs.length<sizeLine/\H'=upd H a (.dT (jr kvs k v))
theorem DGet.k{H:Hp}{a:Addr}{kvs:List (iq×V)}{k:iq}(e:H a=some (.dK kvs)):DGet H a (kV k) (iT kvs k):=.inl ⟨kvs,k,.inl e,rfl,rfl⟩
theorem DGet.t{H:Hp}{a b:Addr}{kvs:List (List iq×V)}{k:List iq}(e:H a=some (.dT kvs))(eb:H b=some (.tup (k.map kV))):DGet H a (.ref b) (iT kvs k):=.inr ⟨kvs,k,b,.inl e,rfl,eb,rfl⟩
theorem DPut.k{H:Hp}{a:Addr}{kvs:List (iq×V)}{k:iq}{v:V}(e:H a=some (.dK kvs))(hl:kvs.length<sizeLine):DPut H a (kV k) v (upd H a (.dK (jr kvs k v))):=.inl ⟨kvs,k,e,rfl,hl,rfl⟩
theorem DPut.t{H:Hp}{a b:Addr}{kvs:List (List iq×V)}{k:List iq}{v:V}(e:H a=some (.dT kvs))(eb:H b=some (.tup (k.map kV)))(hl:kvs.length<sizeLine):
  DPut H a (.ref b) v (upd H a (.dT (jr kvs k v))):=.inr ⟨kvs,k,b,e,rfl,eb,hl,rfl⟩
section
variable{X:Cx}{pins:List (Addr×Obj)}{σ:St}{H:Hp}{s:Shared}{a:Addr}{y v:V}{u r:Value}{o:Option V}{A:Around}{E:Value->Shared->Prop}
theorem Inv.big(I:Inv X pins σ H s):sysModules<s.heap.objs.size:=by
 have h:mainGlobals<s.heap.objs.size:=(I.mod.glob.keeps I.bk).lt
 exact Nat.lt_trans (by decide) h
theorem zX{Q:Value->Shared->Prop}(hu:A.units+1<cLine)(I:Inv X pins σ H s)(g:DGet H a y (some v))(ry:RelV y u)(h:∀w' s',Inv X pins σ H s'->RelV v w'->Q w' s'):
  wpAny (model X.prog X.w) A (getItem (.ref a) u) Q E s:=by
 rcases g with⟨kvs,k,e,ey,l⟩|⟨kvs,k,b,e,ey,eb,l⟩
 ·subst ey
  obtain⟨z,hd,vs,rel,dd⟩:=mU I.hok e
  obtain⟨w',hw,rw'⟩:=RelO.some_of (v:=v) (o:=valueAt vs k) (by rw[l];exact rel.val k)
  exact wpAny_getItem_of (mn ry) dd.mapOf hw (h w' _ (I.tok _) rw')
 ·subst ey
  cases(show u=Value.ref b from ry)
  obtain⟨z,hd,xs,rel,dd⟩:=mV I.hok e
  obtain⟨w',hw,rw'⟩:=RelO.some_of (v:=v) (o:=(atKey xs k).map (·.2)) (by rw[l];exact rel.val k)
  obtain⟨p,hp,hp2⟩:=cg.mp hw
  refine wpAny_getItem_heap (dF hu) (m9 I.hok eb) dd hp ?_
  rw[hp2]
  exact h w' _ (I.tok _) rw'
theorem Hv{Q:Value->Shared->Prop}(hu:A.units+1<cLine)(I:Inv X pins σ H s)(g:DGet H a y o)(ry:RelV y u)(h:∀s',Inv X pins σ H s'->Q (.bool o.isSome) s'):
  wpAny (model X.prog X.w) A (compareOp .In u (.ref a)) Q E s:=by
 rcases g with⟨kvs,k,e,ey,l⟩|⟨kvs,k,b,e,ey,eb,l⟩
 ·subst ey
  obtain⟨z,hd,vs,rel,dd⟩:=mU I.hok e
  refine wpAny_in_of (mn ry) hd dd.mapOf ?_
  rw [<- (rel.val k).isSome_eq,<- l]
  exact h _ (I.tok _)
 ·subst ey
  cases(show u=Value.ref b from ry)
  obtain⟨z,hd,xs,rel,dd⟩:=mV I.hok e
  refine wpAny_in_heap (dF hu) (m9 I.hok eb) hd dd ?_
  have q:=(rel.val k).isSome_eq
  rw[eT]at q
  rw [<- q,<- l]
  exact h _ (I.tok _)
theorem Dc{Q:Value->Shared->Prop}(hu:A.units+1<cLine)(I:Inv X pins σ H s)(g:DGet H a y o)(ry:RelV y u)(h:∀s',Inv X pins σ H s'->Q (.bool (!o.isSome)) s'):
  wpAny (model X.prog X.w) A (compareOp .NotIn u (.ref a)) Q E s:=by
 rcases g with⟨kvs,k,e,ey,l⟩|⟨kvs,k,b,e,ey,eb,l⟩
 ·subst ey
  obtain⟨z,hd,vs,rel,dd⟩:=mU I.hok e
  refine wpAny_notIn_of (mn ry) hd dd.mapOf ?_
  rw [<- (rel.val k).isSome_eq,<- l]
  exact h _ (I.tok _)
 ·subst ey
  cases(show u=Value.ref b from ry)
  obtain⟨z,hd,xs,rel,dd⟩:=mV I.hok e
  refine wpAny_notIn_heap (dF hu) (m9 I.hok eb) hd dd ?_
  have q:=(rel.val k).isSome_eq
  rw[eT]at q
  rw [<- q,<- l]
  exact h _ (I.tok _)
theorem qN{h':Heap}{t':Nat}{ob:HO}(I:Inv X pins σ H s)(mu:pQ (H a))(hs:Heap.SameBut a s.heap h')(he:∃q,h'.get? a=some q)(new:jbm X.prog X.w (upd H a ob) h' a ob):
  Inv X pins σ (upd H a ob) {s with heap:=h',toks:=t'}:=
 I.write (x:=a) (e:=a) mu (.inl rfl) (fun b q hb z=>(hs.2 b hb).trans z) he new
theorem qy{P:Program}{w:World}{H':Hp}{h':Heap}{kvs:List (iq×V)}{vs:List (iq×Value)}(z:kvs.length<=sizeLine)(hd:(a==sysModules)=false)(rel:KV kvs vs)(dd:h'.DictOf (jH P w) a vs):
  jbm P w H' h' a (.dK kvs):=⟨z,hd,vs,rel,dd⟩
theorem ET{H':Hp}{Q:Unit->Shared->Prop}(hu:A.units+1<cLine)(I:Inv X pins σ H s)(g:DPut H a y v H')(ry:RelV y u)(rv:RelV v r)(h:∀s',Inv X pins σ H' s'->Q () s'):
  wpAny (model X.prog X.w) A (setItem (.ref a) u r) Q E s:=by
 rcases g with⟨kvs,k,e,ey,l,eH⟩|⟨kvs,k,b,e,ey,eb,l,eH⟩
 ·subst ey eH
  obtain⟨z,hd,vs,rel,dd⟩:=mS I.hok e
  have hz:vs.length <= sizeLine:=by rw [<- rel.length]; exact z
  have hl:(jr kvs k v).length<=sizeLine:=by have:=va kvs k v;lia
  refine wpAny_setItem_pairs (hsz:=hz) (mn ry) dd fun h' dd' hs=>h _ ?_
  have he:∃q,h'.get? a=some q:=let⟨q,_,_,hq,_⟩:=dd';⟨q,hq⟩
  exact qN I (by rw[e];exact True.intro) hs he (qy hl hd (rel.put k rv) dd')
 ·subst ey eH
  cases(show u=Value.ref b from ry)
  obtain⟨z,hd,xs,rel,dd⟩:=Hy I.hok e
  have hz:xs.length <= sizeLine:=by rw [<- aO rel]; exact z
  have hl:(jr kvs k v).length<=sizeLine:=by have:=va kvs k v;lia
  refine wpAny_setItem_heap (hsz:=hz) (dF hu) (m9 I.hok eb) dd fun h' dd' hs=>h _ ?_
  obtain⟨q,es,ep,hq,h2,h3,h4,_,h5⟩:=dd'
  refine qN I (by rw[e];exact True.intro) hs ⟨q,hq⟩ ⟨hl,hd,_,(rel.put k eb rv).keeps fun c ys ec=>?_,q,es,ep,hq,h2,h3,h4,h5⟩
  rw[ir (lD ec e (fun z=>nomatch z))]
  exact ec
end
section
variable{X:Cx}{pins:List (Addr×Obj)}{σ:St}{H:Hp}{s:Shared}{a:Addr}{kvs:List (iq×V)}{k:iq}{u:Value}{A:Around}{E:Value->Shared->Prop}
end
def vM(i:Expr):Prop:=∀ov iv,subscripted i false ov iv=operate [ov,iv] (getItem ov iv)
theorem yU{prog:Program}{w:World}{A:Around}{E:Value->Shared->Prop}{s:Shared}{env:Env}{value slice:Expr}{pos:Pos}{T id:String}{Q:Value->Shared->Prop}
  (hl:typeLookup (.type T) "__getitem__"=pure (some (.builtin id))) (hs:vM slice)
  (h:wpAny (model prog w) A (eval value env) (fun o s₁=>wpAny (model prog w) A (eval slice env) (fun i s₂=>s₂.TypeIs o T/\wpAny (model prog w) A (getItem o i) Q E s₂) E s₁) E s):
  wpAny (model prog w) A (eval (.Subscript value slice pos) env) Q E s:=by
 refine hV (cT h (fun o s₁ h₁=>cT h₁ (fun i s₂ h₂=>?_) fun _ _ x=>x) fun _ _ x=>x)
 obtain⟨hT,h₂⟩:=h₂
 unfold subscriptTail
 refine aa ?_
 rw[getitemInPython_of_ne hT.not_modules]
 refine aa (wpAny_specialOf hT hl ?_)
 have fin:wpAny (model prog w) A (subscripted slice false o i) (fun r s₃=>wpAny (model prog w) A (letTemporaryGo value o r>>=fun _=>pure r) Q E s₃) E s₂:=by
  rw[hs o i]
  exact wpAny_operating (cT h₂ (fun r s₃ h₃=>aa (wpAny_letTemporaryGo (av h₃))) fun _ _ x=>x)
 first
  |exact av (aa fin)
  |exact aa (av (aa fin))
  |exact aa fin
theorem AH{X:Cx}{pins:List (Addr×Obj)}{σ:St}{H:Hp}{s:Shared}{a:Addr}{y:V}{o:Option V}(I:Inv X pins σ H s)(g:DGet H a y o):s.TypeIs (.ref a) "dict":=by
 rcases g with⟨kvs,k,e,_,_⟩|⟨kvs,k,b,e,_,_,_⟩
 ·obtain⟨_,_,vs,_,dd⟩:=mU I.hok e
  exact dd.typeIs
 ·obtain⟨_,_,xs,_,dd⟩:=mV I.hok e
  exact dd.typeIs
def tD(td ty:TE):TE:=fun σ H Q=>td σ H fun x H1=>ty σ H1 fun y H2=>∃a v,x= .ref a/\DGet H2 a y (some v)/\Q v H2
section
variable{X:Cx}{o i e value:Expr}{pos pos' tpos:Pos}{td ty tv:TE}
theorem nQ(hu:X.A.units+1<cLine)(ho:PE X o td)(hi:PE X i ty)(hs:vM i):PE X (.Subscript o i pos) (tD td ty):=by
 intro pins s σ H Q I h
 refine yU PySem.F.slot_dict_getitem.lookup hs (ix (ho pins s σ H _ I h) fun u s1 ⟨x,H1,I1,rx,q1⟩=>ix (hi pins s1 σ H1 _ I1 q1) fun iv s2 ⟨y,H2,I2,ry,a,v,ex,g,q2⟩=>?_)
 subst ex
 obtain rfl:u=Value.ref a:=rx
 exact⟨AH I2 g,zX hu I2 g ry fun w' s3 I3 rw'=>⟨v,H2,I3,rw',q2⟩⟩
end
theorem zd{P:Program}{w:World}{H:Hp}(h:Heap)(hb:sysModules<h.objs.size):jbm P w H (h.push {cls:=.type "dict",data:=.dict #[]}) h.objs.size (.dK []):=
 ⟨bw _,bO.mpr (cR (aX hb)),[],.nil,Heap.DictOf.new h⟩
def xW:TE:=fun _ H Q=>∀p,H p=none->Q (.ref p) (upd H p (.dK []))
section
variable{X:Cx}{pos:Pos}
theorem rf:PE X (.Dict [] [] pos) xW:=fun pins s σ H Q I h=>
 wpAny_Dict_empty ⟨.ref s.heap.objs.size,_,I.laid (a:=s.heap.objs.size) (o:=.dK []) (t':=s.toks) (fun _ _ q=>af _ q) (au _) (zd s.heap I.big),rfl,h _ (I.hok.fresh (au _))⟩
end
def tY:List (TE×TE)->St->Hp->(List (V×V)->Hp->Prop)->Prop
 |[],_,H,Q=>Q [] H
 |(tk,tv)::r,σ,H,Q=>tk σ H fun x H1=>tv σ H1 fun y H2=>tY r σ H2 fun ps H3=>Q ((x,y)::ps) H3
abbrev VV:List (V×V)->List (Value×Value)->Prop:=Paired fun p q=>RelV p.1 q.1/\RelV p.2 q.2
def rV(X:Cx)(pos:Pos)(keys:List (Option Expr))(values:List Expr)(trs:List (TE×TE)):Prop:=
 ∀(pins:List (Addr×Obj)) (s:Shared) (σ:St) (H:Hp) (Q:List (V×V)->Hp->Prop),Inv X pins σ H s->tY trs σ H Q->
  wpAny (model X.prog X.w) X.A (evalPairs (pairTrees keys values X.env pos)) (fun vs s'=>∃ps H',Inv X pins σ H' s'/\VV ps vs/\Q ps H') X.xe s
theorem uu{X:Cx}{pos:Pos}:rV X pos [] [] []:=fun pins s σ H Q I h=>pairTrees_nil_walk ⟨[],H,I,.nil,h⟩
theorem uI{X:Cx}{pos:Pos}{k v:Expr}{ks:List (Option Expr)}{vs:List Expr}{tk tv:TE}{trs:List (TE×TE)}(hk:PE X k tk)(hv:PE X v tv)(hr:rV X pos ks vs trs):
  rV X pos (some k::ks) (v::vs) ((tk,tv)::trs):=fun pins s σ H Q I h=>
 pairTrees_cons_walk (ix (hk pins s σ H _ I h) fun u s1 ⟨x,H1,I1,rx,q1⟩=>ix (hv pins s1 σ H1 _ I1 q1) fun w2 s2 ⟨y,H2,I2,ry,q2⟩=>
  ix (hr pins s2 σ H2 _ I2 q2) fun ws s3 ⟨ps,H3,I3,rel,q3⟩=>⟨(x,y)::ps,H3,I3,.cons ⟨rx,ry⟩ rel,q3⟩)
def lJ(kvs more:List (iq×V)):List (iq×V):=more.foldl (fun acc kv=>jr acc kv.1 kv.2) kvs
theorem KV.merge:∀{more:List (iq×V)} {rs:List (iq×Value)} {kvs:List (iq×V)} {vs:List (iq×Value)},KV more rs->KV kvs vs->KV (lJ kvs more) (merged vs rs):=by
 intro more rs kvs vs r
 unfold KV at r
 induction r generalizing kvs vs with
 |nil=>intro q;exact q
 | @cons p q ps qs h t ih=>
  intro r0
  have e:KV (jr kvs p.1 p.2) (stored vs q.1 q.2):=by
   have:=r0.put p.1 h.2
   rw [<- h.1]; exact this
  exact ih e
theorem ve:∀(more kvs:List (iq×V)),(lJ kvs more).length<=kvs.length+more.length
 |[],kvs=>by show kvs.length<=kvs.length+0;lia
 |p::r,kvs=>by
  have h1:=ve r (jr kvs p.1 p.2)
  have h2:=va kvs p.1 p.2
  show(lJ (jr kvs p.1 p.2) r).length<=_
  rw[List.length_cons];lia
theorem Ap{P:Program}{w:World}:∀{kvs:List (iq×V)} {ws:List (Value×Value)},VV (kvs.map fun kv=>(kV kv.1,kv.2)) ws->∃rs,Carries (jH P w) ws rs/\KV kvs rs
 |[],_,r=>by rw[bV]at r;cases r;exact⟨[],True.intro,.nil⟩
 | p::kvs,_,r=>by
  rw[aw]at r
  cases r with
  | @cons a b as bs h t=>
   obtain⟨rs,c,q⟩:=Ap (P:=P) (w:=w) t
   obtain⟨b1,b2⟩:=b
   exact⟨(p.1,b2)::rs,⟨mn h.1,rfl,c⟩,.cons ⟨rfl,h.2⟩ q⟩
def BH(trs:List (TE×TE)):TE:=fun σ H Q=>∀p,H p=none->tY trs σ (upd H p (.dK [])) fun ps H2=>H2 p=some (.dK [])/\∃kvs:List (iq×V),ps=kvs.map (fun kv=>(kV kv.1,kv.2))/\kvs.length<=15/\Q (.ref p) (upd H2 p (.dK (lJ [] kvs)))
theorem uo{X:Cx}{pos:Pos}{keys:List (Option Expr)}{values:List Expr}{trs:List (TE×TE)}(h:rV X pos keys values trs)(hall:keys.all (·.isSome)=true)(hl:keys.length=values.length)(h0:keys≠[])
  (h15:keys.length<=15):PE X (.Dict keys values pos) (BH trs):=by
 intro pins s σ H Q I q
 have hn:=I.hok.fresh (au s.heap.objs.size)
 have I1:=I.laid (a:=s.heap.objs.size) (o:=.dK []) (h':=s.heap.push {cls:=.type "dict",data:=.dict #[]}) (t':=s.toks) (fun _ _ q=>af _ q) (au _) (zd s.heap I.big)
 refine wpAny_Dict_walk (knd:=jH X.prog X.w) hall hl h0 h15 (ix (h pins _ σ _ _ I1 (q _ hn)) fun ws s2 ⟨ps,H2,I2,rel,e,kvs,ep,lk,q2⟩=>?_)
 subst ep
 obtain⟨rs,c,rk⟩:=Ap (P:=X.prog) (w:=X.w) rel
 obtain⟨z,hd,vs0,r0,dd⟩:=mS I2.hok e
 cases r0
 refine⟨rs,c,dd,fun h' dd' hs=>⟨.ref s.heap.objs.size,_,?_,rfl,q2⟩⟩
 have hz:(lJ [] kvs).length<=sizeLine:=by
  have h1:=ve kvs []
  rw[List.length_nil]at h1
  rw[gS];lia
 have he:∃q,h'.get? s.heap.objs.size=some q:=let⟨q,_,_,hq,_⟩:=dd';⟨q,hq⟩
 exact qN I2 (by rw[e];exact True.intro) hs he (qy hz hd (rk.merge .nil) dd')
structure M1(X:Cx)(o:Expr)(m:Str)(apos:Pos)(e:Expr)(cpos:Pos):Prop where
 base:attributeBase o m X.env (eval o X.env)=eval o X.env
 few:((backTo cpos (starEach [e] X.env)).all (fun x=>!x.1)&&(backToKw cpos (keywordEach [] X.env)).all (fun x=>x.1.isSome)
  &&decide (([e]:List Expr).length+([]:List Keyword).length+(if([]:List Keyword).isEmpty then 0 else 1)<30))=true
 line:(apos.endLine==cpos.line)=true
 trees:backTo cpos (starEach [e] X.env)=[(false,eval e X.env)]
structure M2(X:Cx)(o:Expr)(m:Str)(apos:Pos)(e f:Expr)(cpos:Pos):Prop where
 base:attributeBase o m X.env (eval o X.env)=eval o X.env
 few:((backTo cpos (starEach [e,f] X.env)).all (fun x=>!x.1)&&(backToKw cpos (keywordEach [] X.env)).all (fun x=>x.1.isSome)
  &&decide (([e,f]:List Expr).length+([]:List Keyword).length+(if([]:List Keyword).isEmpty then 0 else 1)<30))=true
 line:(apos.endLine==cpos.line)=true
 trees:backTo cpos (starEach [e,f] X.env)=[(false,eval e X.env),(false,eval f X.env)]
def Bt(H:Hp)(a:Addr):Prop:=(∃kvs,Rd H a (.dK kvs))\/∃kvs,Rd H a (.dT kvs)
theorem tN{X:Cx}{pins:List (Addr×Obj)}{σ:St}{H:Hp}{s:Shared}{a:Addr}(I:Inv X pins σ H s)(d:Bt H a):
  s.TypeIs (.ref a) "dict"/\(∀b,Value.ref a= .ref b->∃ob,s.heap.get? b=some ob/\ob.dict=none)/\(a==sysModules)=false:=by
 rcases d with⟨kvs,e⟩|⟨kvs,e⟩
 ·obtain⟨_,hd,vs,_,dd⟩:=mU I.hok e
  refine⟨dd.typeIs,fun b q=>?_,hd⟩
  cases q
  obtain⟨ob,_,_,h1,h2,_⟩:=dd
  exact⟨ob,h1,h2.2.1⟩
 ·obtain⟨_,hd,xs,_,dd⟩:=mV I.hok e
  refine⟨dd.typeIs,fun b q=>?_,hd⟩
  cases q
  obtain⟨ob,_,_,h1,h2,_⟩:=dd
  exact⟨ob,h1,h2.2.1⟩
section
variable{X:Cx}{pins:List (Addr×Obj)}{σ:St}{H:Hp}{s:Shared}{a:Addr}{y d:V}{u r:Value}{o:Option V}{A:Around}{E:Value->Shared->Prop}
theorem Hw{Q:Value->Shared->Prop}(hu:A.units+1<cLine)(I:Inv X pins σ H s)(g:DGet H a y o)(ry:RelV y u)(h:∀w' s',Inv X pins σ H s'->RelV (o.getD .non) w'->Q w' s'):
  wpAny (model X.prog X.w) A (call (.builtin "dict.get") [.ref a,u]) Q E s:=by
 rcases g with⟨kvs,k,e,ey,l⟩|⟨kvs,k,b,e,ey,eb,l⟩
 ·subst ey
  obtain⟨z,hd,vs,rel,dd⟩:=mU I.hok e
  refine gq fM dd.typeIs PySem.F.entry_dict_get (PySem.F.args_dict_get_2 _ _) (meets_dict_get (jH X.prog X.w) a (mn ry) hd) ⟨_,dd.mapOf,h _ _ (I.tok _) ?_⟩
  rw[l]
  exact(rel.val k).getD rfl
 ·subst ey
  cases(show u=Value.ref b from ry)
  obtain⟨z,hd,xs,rel,dd⟩:=mV I.hok e
  refine gq fM dd.typeIs PySem.F.entry_dict_get (PySem.F.args_dict_get_2 _ _) (meetsH_dict_get (tupleKind (jH X.prog X.w)) a b hd) ⟨dF hu,k,xs,m9 I.hok eb,dd,h _ _ (I.tok _) ?_⟩
  rw[l]
  exact(rel.val k).getD rfl
end
section
variable{X:Cx}{o e f:Expr}{apos cpos:Pos}{td ty tx:TE}
end
section
variable{X:Cx}{pins:List (Addr×Obj)}{σ:St}{H:Hp}{s:Shared}{a:Addr}{kvs:List (iq×V)}{A:Around}{E:Value->Shared->Prop}
end
section
variable{X:Cx}{pins:List (Addr×Obj)}{σ:St}{H:Hp}{s:Shared}{a:Addr}{y:V}{u:Value}{A:Around}{E:Value->Shared->Prop}
end
section
variable{κ:Type}[DecidableEq κ]
end
def jZ(env:Env):List (Str×NameKind)->List (Str×Addr)->List (Str×Addr)
 |[],acc=>acc
 |(n,k)::r,acc=>jZ env r (if k== .free then(n,(env.cells.lookup n).getD 0)::acc else acc)
theorem AZ{scope:Scope}{env:Env}(h:∀y∈scope.names,y.2= .free->∃c,env.cells.lookup y.1=some c):
    closureFor scope env=pure (jZ env scope.names []):=by
  have key:∀(l:List (Str×NameKind)) (acc:List (Str×Addr)),(∀y∈l,y.2= .free->∃c,env.cells.lookup y.1=some c)->
      (forIn l acc fun(x:Str×NameKind) (r:List (Str×Addr))=>
        (if x.2 == NameKind.free then do
          let c <- cellOf env x.1
          pure (ForInStep.yield ((x.1,c)::r))
        else pure (ForInStep.yield r):Sem (ForInStep (List (Str×Addr)))))=pure (jZ env l acc):=by
    intro l
    induction l with
    |nil=>intro acc _;rfl
    | cons y r ih=>
      intro acc hy
      obtain⟨n,k⟩:=y
      rw[g9]
      by_cases hk:k= .free
      · subst hk
        obtain⟨c,hc⟩:=hy (n,.free) aP rfl
        have e1:cellOf env n=pure c:=by unfold cellOf;rw[hc]
        simp only[fh,if_true]
        rw[e1]
        show(pure c>>=fun c=>pure (ForInStep.yield ((n,c)::acc)))>>=_=_
        have e2:jZ env ((n,NameKind.free)::r) acc=jZ env r ((n,c)::acc):=by
          have hc':env.cells.lookup n=some c:=hc
          show jZ env r (if(NameKind.free==NameKind.free)=true then(n,(env.cells.lookup n).getD 0)::acc else acc)=_
          rw[hc']
          rfl
        rw[e2]
        exact ih _ fun z hz=>hy z (aH _ hz)
      · have hb:(k==NameKind.free)=false:=by simpa using hk
        simp only[hb,aG,if_false]
        have e2:jZ env ((n,k)::r) acc=jZ env r acc:=by
          show jZ env r (if(k==NameKind.free)=true then _ else acc)=_
          rw[hb];rfl
        rw[e2]
        exact ih _ fun z hz=>hy z (aH _ hz)
  unfold closureFor
  have e:=key scope.names [] h
  have e3:∀ (f:Str × NameKind->List (Str × Addr)->Sem (ForInStep (List (Str × Addr)))),(f = fun x r=>(if x.2 == NameKind.free then do
          let c <- cellOf env x.1
          pure (ForInStep.yield ((x.1,c)::r))
        else pure (ForInStep.yield r)))->(forIn scope.names [] f>>=fun r=>pure r)=(pure (jZ env scope.names []):Sem (List (Str×Addr))):=by
    intro f hf
    rw[hf,e]
    rfl
  exact e3 _ rfl
theorem AW{env:Env}{x:Str}:∀(l:List (Str×NameKind)) (acc:List (Str×Addr)) (c:Addr),(jZ env l acc).lookup x=some c->
  ((∃y∈l,y.1=x/\y.2= .free)/\(env.cells.lookup x).getD 0=c)\/acc.lookup x=some c
 |[],acc,c,h=>.inr h
 | (n,k)::r,acc,c,h=>by
  rcases AW r _ c h with⟨⟨y,hy,e⟩,q⟩|q
  ·exact .inl ⟨⟨y,aH _ hy,e⟩,q⟩
  ·by_cases hk:k= .free
   ·subst hk
    have q':List.lookup x ((n,(env.cells.lookup n).getD 0)::acc)=some c:=q
    rw[List.lookup_cons]at q'
    cases hx:x==n with
    |true=>
     rw[hx]at q'
     have hx':x=n:=by simpa using hx
     subst hx'
     exact .inl ⟨⟨_,aP,rfl,rfl⟩,aL q'⟩
    |false=>rw[hx]at q';exact .inr q'
   ·have hb:(k==NameKind.free)=false:=by simpa using hk
    rw[hb]at q
    exact .inr q
theorem u5{env:Env}{x:Str}:∀(l:List (Str×NameKind)) (acc:List (Str×Addr)),((∃y∈l,y.1=x/\y.2= .free)\/(acc.lookup x).isSome)->((jZ env l acc).lookup x).isSome
 |[],acc,h=>by
  rcases h with⟨y,hy,_⟩|h
  ·cases hy
  ·exact h
 | (n,k)::r,acc,h=>by
  show((jZ env r (if(k==NameKind.free)=true then _ else acc)).lookup x).isSome
  refine u5 r _ ?_
  rcases h with⟨y,hy,e1,e2⟩|h
  ·rcases aU.mp hy with rfl|hy
   ·have e2':k= .free:=e2
    have e1':n=x:=e1
    subst e2' e1'
    refine .inr ?_
    simp[List.lookup_cons]
   ·exact .inl ⟨y,hy,e1,e2⟩
  ·refine .inr ?_
   split
   ·rw[List.lookup_cons]
    split
    ·rfl
    ·exact h
   ·exact h
structure CpScope(X:Cx)(scope:Scope)(N:List Str)(src:List (Option Nat)):Prop where
 kind:scope.kind= .function
 nocell:∀y∈scope.names,y.2≠ .cell
 locs:∀y∈scope.names,y.2= .local->scope.names.lookup y.1=some .local
 frees:∀y∈scope.names,y.2= .free->scope.names.lookup y.1=some .free/\X.env.scope.names.lookup y.1=some .cell
 nd:N.Nodup
 len:src.length=N.length
 cap:∀(i j:Nat),src[i]? =some (some j)->X.N[j]? =N[i]?/\(N[i]?).elim False (fun x=>scope.names.lookup x=some .free)
def rR(src:List (Option Nat))(σ:St):St:=src.map fun o=>o.bind fun j=>(σ[j]?).join
theorem A0{env:Env}(hk:env.scope.kind= .function):∀{names:List (Str×NameKind)} {x:Str},names.lookup x=some .free->env.kindOf x=some .cell->
  (names.map fun(n,k)=>if(k==NameKind.free&&env.scope.kind== .function&&env.kindOf n==some .cell)then(n,NameKind.cell)else(n,k)).lookup x=some .cell
 |[],_,h,_=>by simp at h
 | (n,k)::r,x,h,hc=>by
  have ih:=@A0 env hk r x
  show List.lookup x ((if(k==NameKind.free&&env.scope.kind== .function&&env.kindOf n==some .cell)=true then(n,NameKind.cell)else(n,k))::_)=_
  cases hx:x==n with
  |true=>
   simp only[List.lookup_cons,hx]at h
   cases h
   have hx':x=n:=by simpa using hx
   subst hx'
   rw[az (by rw[hk,hc];rfl)]
   simp[List.lookup_cons]
  |false=>
   simp only[List.lookup_cons,hx]at h
   by_cases hq:(k==NameKind.free&&env.scope.kind== .function&&env.kindOf n==some .cell)=true
   ·rw[az hq];simp only[List.lookup_cons,hx];exact ih h hc
   ·rw[ay hq];simp only[List.lookup_cons,hx];exact ih h hc
theorem vg{env:Env}:∀{names:List (Str×NameKind)} {x:Str} {k':NameKind},
  (names.map fun(n,k)=>if(k==NameKind.free&&env.scope.kind== .function&&env.kindOf n==some .cell)then(n,NameKind.cell)else(n,k)).lookup x=some k'->
   names.lookup x=some k'\/(names.lookup x=some .free/\k'= .cell)
 |[],_,_,h=>by simp at h
 | (n,k)::r,x,k',h=>by
  have ih:=@vg env r x k'
  have h:List.lookup x ((if(k==NameKind.free&&env.scope.kind== .function&&env.kindOf n==some .cell)=true then(n,NameKind.cell)else(n,k))::_)=_:=h
  cases hx:x==n with
  | true=>
   by_cases hq:(k==NameKind.free&&env.scope.kind== .function&&env.kindOf n==some .cell)=true
   ·rw[az hq]at h
    have h1:=h
    simp only[List.lookup_cons,hx]
    have:k= .free:=by
     have:=(cq _ _▸(cq _ _▸hq).1).1
     simpa using this
    subst this
    refine .inr ⟨rfl,?_⟩
    have h2:List.lookup x ((n,NameKind.cell)::(r.map fun(n,k)=>if(k==NameKind.free&&env.scope.kind== .function&&env.kindOf n==some .cell)then(n,NameKind.cell)else(n,k)))=some k':=h1
    simp only[List.lookup_cons,hx]at h2
    exact(aL h2).symm
   ·rw[ay hq]at h
    simp only[List.lookup_cons,hx]at h ⊢
    exact .inl h
  | false=>
   have h':List.lookup x (r.map fun(n,k)=>if(k==NameKind.free&&env.scope.kind== .function&&env.kindOf n==some .cell)then(n,NameKind.cell)else(n,k))=some k':=by
    by_cases hq:(k==NameKind.free&&env.scope.kind== .function&&env.kindOf n==some .cell)=true
    ·rw[az hq]at h
     simpa only[List.lookup_cons,hx]using h
    ·rw[ay hq]at h
     simpa only[List.lookup_cons,hx]using h
   simp only[List.lookup_cons,hx]
   exact ih h'
def Cx.block(X:Cx)(scope:Scope)(N:List Str)(fp:List Addr)(s₀:Shared)(H₀:Hp)(C:Addr):Cx where
 prog:=X.prog
 w:=X.w
 K:=X.K
 mg:=X.mg
 base:=X.base
 A:=X.A
 N:=N
 s₀:=s₀
 H₀:=H₀
 env:=compEnvC scope (jZ X.env scope.names []) C X.env
 outer:=X.stack
 stack:=X.stack
 ex:=fp
 calm:=X.calm
 fn:=fun _=>false
 pn:=[]
 xe:=fun _ _=>False
theorem E6{o:Option (Option V)}{v:V}(h:o.join=some v):o=some (some v):=by
 cases o with
 |none=>cases h
 |some z=>cases z with
  |none=>cases h
  |some z=>rw[show z=v from aL h]
theorem Inv.enter{X:Cx}{scope:Scope}{N:List Str}{src:List (Option Nat)}{pins:List (Addr×Obj)}{σ:St}{H:Hp}{s s4:Shared}{fp:List Addr}(S:CpScope X scope N src)(I:Inv X pins σ H s)
  (f2:∀b∈fp,kK X pins H b) (lt:∀b∈fp,b<s.heap.objs.size) (hns:s4.heap.Ns s.heap.objs.size fun _=>none) (hk:∀b o,s.heap.get? b=some o->s4.heap.get? b=some o) (hos:s4.os=s.os) (hg:s4.gens=s.gens):
  Inv (X.block scope N fp s H s.heap.objs.size) [] (rR src σ) H s4:=by
 have cells:∀x c,(jZ X.env scope.names []).lookup x=some c->X.env.cells.lookup x=some c:=fun x c e=>by
  rcases AW _ _ _ e with⟨⟨y,hy,e1,e2⟩,q⟩|q
  ·obtain⟨c',hc'⟩:=I.ok.has y.1 (.inl (S.frees y hy e2).2)
   rw[e1]at hc'
   rw[hc']at q ⊢
   exact bN some q
  ·cases q
 refine⟨⟨I.mod,S.kind,I.ok.glob,I.ok.blt,au _,fun x y c h1 h2=>I.ok.inj x y c (cells x c h1) (cells y c h2),fun x hx=>?_,fun x c h=>absurd (show false=true from h) aY,I.ok.hd,I.ok.frames,.inl rfl,fun b hb=>?_,I.bs,
   bo I.ok.bsz I.sz,fun b o e hb=>?_,fun b hb z=>?_,I.stack,I.stkFree⟩,hos,?_,Un.kept hk,⟨fun _=>none,hns,fun i x v h1 h2 h3=>?_⟩,fun x c e=>?_,I.fresh,fun x c e=>I.freeC x c (cells x c e),fun p hp=>?_,I.hok.kept hk,?_⟩
 ·have hx':(scope.names.map fun(n,k)=>if(k==NameKind.free&&X.env.scope.kind== .function&&X.env.kindOf n==some .cell)then(n,NameKind.cell)else(n,k)).lookup x=some .cell\/(scope.names.map fun(n,k)=>if(k==NameKind.free&&X.env.scope.kind== .function&&X.env.kindOf n==some .cell)then(n,NameKind.cell)else(n,k)).lookup x=some .free:=hx
  have hf:scope.names.lookup x=some .free:=by
   rcases hx' with h|h
   ·rcases vg h with h|h
    ·exact absurd rfl (S.nocell _ (cv h))
    ·exact h.1
   ·rcases vg h with h|h
    ·exact h
    ·cases h.2
  have hsome:=u5 (env:=X.env) (x:=x) scope.names [] (.inl ⟨_,cv hf,rfl,rfl⟩)
  exact eZ.mp hsome
 ·exact⟨aX (lt b hb),fun x c e=>(f2 b hb).2.2.2.2.1 x c (cells x c e)⟩
 ·have hb':b∈fp:=hb
  rcases(f2 b hb').2.2.2.1 with z|z
  ·exact I.ok.noex b o e z
  ·exact absurd (bt (aI e) (bo I.ok.bsz z)) (cH _)
 ·have hb':b∈fp:=hb
  have z':b∈ko X.stack:=z
  rcases aU.mp (I.stkSub b z')with e|e
  ·exact(f2 b hb').2.1 e
  ·exact(f2 b hb').2.2.1 e
 ·rw[hg];exact I.bare
 ·have h2':(src.map fun o=>o.bind fun j=>(σ[j]?).join)[i]? =some (some v):=h2
  rw[aA]at h2'
  cases e:src[i]? with
  |none=>rw[e]at h2';cases h2'
  | some o=>
   rw[e]at h2'
   cases o with
   |none=>cases h2'
   | some j=>
    have h4:(σ[j]?).join=some v:=aL h2'
    have h5:=E6 h4
    obtain⟨c1,c2⟩:=S.cap i j e
    have h1':N[i]? =some x:=h1
    rw[h1']at c1 c2
    have c2':scope.names.lookup x=some .free:=c2
    have c3:=(S.frees _ (cv c2') rfl).2
    obtain⟨m,hn,hl⟩:=I.loc
    obtain⟨u,r,l⟩:=hl j x v c1 h5 (.inr (.inl c3))
    refine⟨u,r,?_⟩
    have c3':X.env.kindOf x=some .cell:=c3
    rcases l with⟨k,_⟩|⟨_,c,e1,z⟩
    ·rw[c3']at k;cases k
    ·refine .inr ⟨.inl (A0 I.ok.kind c2' c3'),c,?_,?_⟩
     ·have hs:=u5 (env:=X.env) (x:=x) scope.names [] (.inl ⟨_,cv c2',rfl,rfl⟩)
      obtain⟨c',hc'⟩:=eZ.mp hs
      have:=cells x c' hc'
      rw[e1]at this
      cases this
      exact hc'
     ·obtain⟨o,ho,hd⟩:=z
      exact⟨o,hk c o ho,hd⟩
 ·obtain⟨v,o,ho,hd⟩:=I.cell x c (cells x c e)
  exact⟨v,o,hk c o ho,hd⟩
 ·exact absurd (show p∈([]:List (Addr×Obj))from hp) (by simp)
 ·show(src.map _).length=N.length
  rw[ae]
  exact S.len
def pP(X:Cx)(ifs:List Expr)(t:TT):Prop:=
 ∀(pins:List (Addr×Obj)) (s:Shared) (σ:St) (H:Hp) (Q:Bool->Hp->Prop),Inv X pins σ H s->t σ H Q->
  wpAny (model X.prog X.w) X.A (forIn ifs true fun c r=>if r = true then do let ok <- isTrue c X.env (eval c X.env); pure (ForInStep.yield ok) else pure (ForInStep.yield r)) (TP X pins σ Q) X.xe s
def vV:TT:=fun _ H Q=>Q true H
theorem mF{X:Cx}:pP X [] vV:=fun pins s σ H Q I h=>wpAny_tests_nil ⟨H,I,h⟩
theorem km{X:Cx}{c:Expr}{t:TT}(h:PT X c t):pP X [c] t:=fun pins s σ H Q I hq=>wpAny_tests_one (h pins s σ H Q I hq)
def oz(J:It)(src:List (Option Nat))(g:TG)(tc:TT)(te:TE)(Q:VK)(σ:St)(H:Hp)(l:Addr):Prop:=
 ∃W:Nat->Nat->St->Hp->Prop,(∃m,W 0 m (rR src σ) (upd H l (.lst [])))/\∀i m σ' H,W i m σ' H->
  (J.stop i H/\Q (.ref l) H)\/(J.go i H/\∃N:St->Hp->Prop,(∀σ' H',N σ' H'->∃m',m'<m/\W (i+1) m' σ' H')/\∀x H',J.yld i H x H'->g x σ' H' fun σ2 H2=>tc σ2 H2 fun b H3=>
   if b=true then te σ2 H3 fun v H4=>∃xs,H4 l=some (.lst xs)/\xs.length<sizeLine/\N σ2 (upd H4 l (.lst (xs++[v])))else N σ2 H3)
theorem jP{J:It}{src:List (Option Nat)}{g:TG}{tc:TT}{te:TE}{Q:VK}{σ:St}{H:Hp}{l:Addr}(n:Nat)(Iv:Nat->St->Hp->Prop)(h0:Iv 0 (rR src σ) (upd H l (.lst [])))
  (hs:∀i σ' Hc,i<n->Iv i σ' Hc->J.go i Hc/\∀x H',J.yld i Hc x H'->g x σ' H' fun σ2 H2=>tc σ2 H2 fun b H3=>
   if b=true then te σ2 H3 fun v H4=>∃xs,H4 l=some (.lst xs)/\xs.length<sizeLine/\Iv (i+1) σ2 (upd H4 l (.lst (xs++[v])))else Iv (i+1) σ2 H3)
  (hd:∀σ' Hc,Iv n σ' Hc->J.stop n Hc/\Q (.ref l) Hc):oz J src g tc te Q σ H l:=by
 refine⟨fun i m σ' Hc=>m=n-i/\i<=n/\Iv i σ' Hc,⟨n,by simp,bw _,h0⟩,?_⟩
 rintro i m σ' Hc ⟨rfl,hi,p⟩
 by_cases hlt:i<n
 ·obtain⟨go,step⟩:=hs i σ' Hc hlt p
  exact .inr ⟨go,Iv (i+1),fun σ2 H2 p'=>⟨n-(i+1),by lia,rfl,hlt,p'⟩,step⟩
 ·have e:i=n:=by lia
  subst e
  exact .inl (hd σ' Hc p)
theorem zV{X:Cx}{elt tg iter:Expr}{ifs:List Expr}{scope:Scope}{pos:Pos}{N:List Str}{src:List (Option Nat)}{g:TG}{tc:TT}{te:TE}{pins:List (Addr×Obj)}{σ:St}{H2:Hp}{s2:Shared}
  {fp:List Addr} {it:Addr} {tn:Nat->Heap->Prop} {J:It} {Q:VK} {E:Value->Shared->Prop} {RR:Value->Addr->Result->Shared->Prop} (S:CpScope X scope N src) (hc:X.calm=true)
  (hg:∀fp s₀ H₀ C,PG (X.block scope N fp s₀ H₀ C) tg g) (ht:∀fp s₀ H₀ C,pP (X.block scope N fp s₀ H₀ C) ifs tc) (he:∀fp s₀ H₀ C,PE (X.block scope N fp s₀ H₀ C) elt te)
  (I2:Inv X pins σ H2 s2) (T:Turn X.prog X.w X.K tg J fp it tn) (st2:tn 0 s2.heap) (f2:∀b∈fp,kK X pins H2 b) (hw:∀l,H2 l=none->oz J src g tc te Q σ H2 l)
  (hRR:∀l C H' s',Inv X pins σ H' s'->(∃m,s'.heap.Ns C m)->kK X pins H' C->Q (.ref l) H'->RR (.ref l) C (.ok .next) s'):
  wpAny (model X.prog X.w) X.A (newList []) (fun acc s₃=>wpAny (model X.prog X.w) X.A (newFunctionEnv scope X.env.globals (jZ X.env scope.names []) [] X.env.qual none .none (some X.env)) (fun cenv s₄=>
   codeAny (model X.prog X.w) X.A (.compStart (.ListComp elt [⟨tg,iter,ifs,0⟩] scope pos) 0 (.ref it) acc {cenv with scope:=relabel scope X.env}) (RR acc cenv.locals) s₄) E s₃) E s2:=by
 have hl0:H2 s2.heap.objs.size=none:=I2.fresh
 have I3:Inv X pins σ (upd H2 s2.heap.objs.size (.lst [])) {s2 with heap:=s2.heap.push {cls:=.type "list",data:=.seq ([]:List Value).toArray}}:=I2.lnew (ys:=[]) (its:=[]) (t':=s2.toks) .nil (bw _)
 have ltf:∀b∈fp,b<s2.heap.objs.size:=fun b hb=>by
  obtain⟨o,e,_⟩:=T.obj _ _ st2 b hb
  exact aI e
 have f3:∀b∈fp,kK X pins (upd H2 s2.heap.objs.size (.lst [])) b:=fun b hb=>⟨by rw[ir (aX (ltf b hb))];exact(f2 b hb).1,(f2 b hb).2⟩
 obtain⟨W,⟨m0,w0⟩,turn⟩:=hw _ hl0
 refine cI (wpAny_newFunctionEnv S.nocell (by intro y hy;simp at hy) (fun h₁ hns₁ hsb₁=>?_) S.kind)
 dsimp only at hns₁ hsb₁ ⊢
 revert I3 f3
 intro I3 f3
 have st1:tn 0 (s2.heap.push {cls:=.type "list",data:=.seq ([]:List Value).toArray}):=T.keep _ _ _ st2 fun b hb o e=>af _ e
 have lt3:∀b∈fp,b<(s2.heap.push {cls:=.type "list",data:=.seq ([]:List Value).toArray}).objs.size:=fun b hb=>by rw[dg];exact cX (ltf b hb)
 generalize hH:s2.heap.push {cls:=.type "list",data:=.seq ([]:List Value).toArray}=h3 at I3 st1 lt3 hns₁ hsb₁ ⊢
 have hk:∀b o,h3.get? b=some o->h₁.get? b=some o:=fun b o e=>hsb₁.extBut b o (aX (aI e)) (af _ e)
 have Ib:Inv (X.block scope N fp {s2 with heap:=h3} (upd H2 s2.heap.objs.size (.lst [])) h3.objs.size) [] (rR src σ) (upd H2 s2.heap.objs.size (.lst [])) {s2 with heap:=h₁,toks:=s2.toks+([]:List (Str×Value)).length}:=
  Inv.enter (s:={s2 with heap:=h3}) S I3 f3 lt3 hns₁ hk rfl rfl
 have fpB:∀{H':Hp},(∀b∈fp,H' b=none)->∀b∈fp,kK (X.block scope N fp {s2 with heap:=h3} (upd H2 s2.heap.objs.size (.lst [])) h3.objs.size) [] H' b:=fun hn b hb=>
  ⟨hn b hb,(Ib.ok.exf b hb).1,Ib.ok.exfs b hb,.inl hb,(Ib.ok.exf b hb).2,fun p hp=>absurd (show p∈([]:List (Addr×Obj))from hp) (by simp)⟩
 have tn1:tn 0 h₁:=T.keep _ _ _ st1 fun b _ o e=>hk b o e
 have loop:∀s₃:Shared,s₃={s2 with heap:=h₁,toks:=s2.toks+([]:List (Str×Value)).length}->
   codeAny (model X.prog X.w) X.A (.compLoop (.ListComp elt [⟨tg,iter,ifs,0⟩] scope pos) 0 (.ref it) (.ref s2.heap.objs.size) (compEnvC scope (jZ X.env scope.names []) h3.objs.size X.env))
    (RR (.ref s2.heap.objs.size) h3.objs.size) s₃:=by
  rintro s₃ rfl
  refine codeAny_loop rfl (fun n s'=>∃i σ' H',Inv (X.block scope N fp {s2 with heap:=h3} (upd H2 s2.heap.objs.size (.lst [])) h3.objs.size) [] σ' H' s'/\tn i s'.heap/\(∀b∈fp,H' b=none)/\W i n σ' H') ?_ m0
   ⟨0,_,_,Ib,tn1,fun b hb=>(f3 b hb).1,w0⟩
  rintro n s5 ⟨i,σ5,H5,I5,st5,fr5,w5⟩
  show wpAny _ X.A ((compTurn (.ListComp elt [⟨tg,iter,ifs,0⟩] scope pos) 0 (.ref it) (.ref s2.heap.objs.size) (compEnvC scope (jZ X.env scope.names []) h3.objs.size X.env)).onRaise (fun x=>do noteFrame x (compEnvC scope (jZ X.env scope.names []) h3.objs.size X.env); theTreesLotGoes x)) _ _ s5
  refine wpAny_noted ?_
  rw[compTurn_list]
  refine aa (fX (aa ?_))
  rcases turn i n σ5 H5 w5 with⟨stop,qn⟩|⟨go,N',hN',step⟩
  ·refine ix (T.done (X.block scope N fp {s2 with heap:=h3} (upd H2 s2.heap.objs.size (.lst [])) h3.objs.size) rfl rfl rfl hc i [] s5 σ5 H5 _ I5 (fpB fr5) st5 stop) fun r s6 ⟨hr,I6⟩=>?_
   subst hr
   refine av ?_
   have u6:Un (ko X.stack) fp (upd H2 s2.heap.objs.size (.lst [])) H5 h3 s6.heap:=I6.base
   have hf6:H5 h3.objs.size=none:=I6.free
   have I7:Inv X pins σ H5 s6:=I3.call' (ch:=fp) I6.os u6 I6.hok I6.bare fun b hb=>⟨(f3 b hb).2.2.2.1,(f3 b hb).2.1,(f3 b hb).2.2.2.2.1,(f3 b hb).2.2.2.2.2⟩
   obtain⟨m,hm,_⟩:=I6.loc
   exact hRR _ _ H5 s6 I7 ⟨m,hm⟩ (I3.fpOk (au _) hf6) qn
  ·refine ix (T.item (X.block scope N fp {s2 with heap:=h3} (upd H2 s2.heap.objs.size (.lst [])) h3.objs.size) rfl rfl rfl hc i [] s5 σ5 H5 _ I5 (fpB fr5) st5 go) fun r s6 ⟨u,hr,h6⟩=>?_
   subst hr
   refine aa (ix h6 fun _ s7 ⟨x,H7,I7,r7,y7,st7,fr7⟩=>?_)
   have I7':=I7.pinned (fpB fr7) (T.obj _ _ st7)
   have fin:∀{σ9:St} {H9:Hp} {s9:Shared},Inv (X.block scope N fp {s2 with heap:=h3} (upd H2 s2.heap.objs.size (.lst [])) h3.objs.size) ([]++oU fp s7.heap) σ9 H9 s9->N' σ9 H9->
     ∃m,m<n/\∃i σ' H',Inv (X.block scope N fp {s2 with heap:=h3} (upd H2 s2.heap.objs.size (.lst [])) h3.objs.size) [] σ' H' s9/\tn i s9.heap/\(∀b∈fp,H' b=none)/\W i m σ' H':=fun{σ9 H9 s9} I9 n9=>by
    obtain⟨m',hm,w9⟩:=hN' σ9 H9 n9
    refine⟨m',hm,i+1,σ9,H9,I9.unpinned,T.keep _ _ _ st7 fun b hb o e=>(I9.pin (b,o) (bj _ (bj _ (rK hb e)))).1,fun b hb=>?_,w9⟩
    obtain⟨o,e,d⟩:=T.obj _ _ st7 b hb
    exact(I9.pin (b,o) (bj _ (bj _ (rK hb e)))).2.1
   refine aa (cT (hg fp _ _ _ _ s7 σ5 H7 x u _ I7' r7 (step x H7 y7)) (fun _ s8 ⟨σ8,H8,I8,q8⟩=>?_) fun _ _ z=>False.elim z)
   refine aa (cT (ht fp _ _ _ _ s8 σ8 H8 _ I8 q8) (fun ok s9 ⟨H9,I9,q9⟩=>?_) fun _ _ z=>False.elim z)
   cases ok with
   |false=>exact av ⟨rfl,fin I9 q9⟩
   | true=>
    refine aa (aa (cT (he fp _ _ _ _ s9 σ8 H9 _ I9 q9) (fun v s10 ⟨y,H10,I10,r10,xs,hx,hz,q10⟩=>?_) fun _ _ z=>False.elim z))
    refine aa (cT (Ac (X:=X.block scope N fp {s2 with heap:=h3} (upd H2 s2.heap.objs.size (.lst [])) h3.objs.size) _ s10 σ8 H10 (.ref s2.heap.objs.size) [y] _ [v] (fun _ H11=>N' σ8 H11) I10 rfl (.cons r10 .nil) ⟨_,xs,y,rfl,rfl,hx,hz,q10⟩)
     (fun _ s11 ⟨_,H11,I11,_,q11⟩=>av (av ⟨rfl,fin I11 q11⟩)) fun _ _ z=>False.elim z)
 exact codeAny_compStart_list (loop _ rfl) (T.self _ 0 _ _ _ tn1 (loop _ rfl))
def qw(src:List (Option Nat))(wi:TI)(g:TG)(tc:TT)(te:TE):TE:=fun σ H Q=>wi σ H fun J H1=>∀l,H1 l=none->oz J src g tc te Q σ H1 l
theorem jW{X:Cx}{elt tg iter:Expr}{ifs:List Expr}{scope:Scope}{pos:Pos}{N:List Str}{src:List (Option Nat)}{wi:TI}{g:TG}{tc:TT}{te:TE}(S:CpScope X scope N src)(hc:X.calm=true)
  (hi:PI X tg iter wi) (hg:∀fp s₀ H₀ C,PG (X.block scope N fp s₀ H₀ C) tg g) (ht:∀fp s₀ H₀ C,pP (X.block scope N fp s₀ H₀ C) ifs tc) (he:∀fp s₀ H₀ C,PE (X.block scope N fp s₀ H₀ C) elt te)
  (hs:∀x,foldedSetIterable iter X.env x=pure x:=by intro _;rfl):PE X (.ListComp elt [⟨tg,iter,ifs,0⟩] scope pos) (qw src wi g tc te):=by
 intro pins s σ H Q I h
 rw[eval_ListComp]
 refine wpAny_comprehension_free (use:=none) rfl hs (AZ fun y hy e=>I.ok.has y.1 (.inl (S.frees y hy e).2)) S.kind S.locs ?_
 refine ix (hi pins s σ H _ I h) fun v s1 h1=>ix h1 fun itv s2 h2=>?_
 obtain⟨it,fp,tn,J,H2,e,I2,T,st2,f2,hw⟩:=h2
 subst e
 refine zV (RR:=fun acc C=>compPost (model X.prog X.w) X.A X.xe none (EP X pins σ Q) acc C) S hc hg ht he I2 T st2 f2 hw ?_
 intro l C H' s' I' hm fC q
 obtain⟨m,hm⟩:=hm
 refine⟨m,hm,fun h' hs'=>?_⟩
 exact⟨.ref l,H',I'.turned (t':=s'.toks) (fun b o hb e=>hs'.extBut b o hb e) fC.1 fC.2.1 fC.2.2.2.1 fC.2.2.2.2.1 fC.2.2.2.2.2,rfl,q⟩
theorem uw{X:Cx}{i:Nat}{x:Str}{pos' spos:Pos}{elt tg iter:Expr}{ifs:List Expr}{scope:Scope}{pos:Pos}{N:List Str}{src:List (Option Nat)}{wi:TI}{g:TG}{tc:TT}{te:TE}(hN:X.N.Nodup)(hix:X.N[i]? =some x)(hx:Loc X.env.scope x)
  (S:CpScope X scope N src) (hc:X.calm=true)
  (hi:PI X tg iter wi) (hg:∀fp s₀ H₀ C,PG (X.block scope N fp s₀ H₀ C) tg g) (ht:∀fp s₀ H₀ C,pP (X.block scope N fp s₀ H₀ C) ifs tc) (he:∀fp s₀ H₀ C,PE (X.block scope N fp s₀ H₀ C) elt te)
  (hsw:swapsWith (.ListComp elt [⟨tg,iter,ifs,0⟩] scope pos) (some (.Name x pos')) spos.line X.env=pure true:=by rfl)
  (hs:∀x,foldedSetIterable iter X.env x=pure x:=by intro _;rfl) (hf:X.fn x=true\/X.env.scope.names.lookup x=some .local:=by first|exact .inl rfl|exact .inr rfl|assumption):
  PS X (.Assign [.Name x pos'] (.ListComp elt [⟨tg,iter,ifs,0⟩] scope pos) spos) (p6 (qw src wi g tc te) (kG i)):=by
 intro pins s σ H D I h
 rw[exec_Assign_Name_used _ _ _ _ hsw]
 refine aa (fX (aa ?_))
 show wpAny _ X.A (do let _ <- comprehension (.ListComp elt [⟨tg,iter,ifs,0⟩] scope pos) scope X.env _ (newList []) false (eval iter X.env) (some (assign (.Name x pos') X.env))) _ _ s
 refine aa (cT (wpAny_comprehension_free (use:=some (assign (.Name x pos') X.env)) (Q:=fun _ s'=>SP X pins D .next s') rfl hs (AZ fun y hy e=>I.ok.has y.1 (.inl (S.frees y hy e).2)) S.kind S.locs
  (ix (hi pins s σ H _ I h) fun v s1 h1=>ix h1 fun itv s2 h2=>?_)) (fun _ s' hq=>av (av hq)) fun _ _ e=>e)
 obtain⟨it,fp,tn,J,H2,e,I2,T,st2,f2,hw⟩:=h2
 subst e
 refine zV (Q:=fun v H'=>D.nx (σ.set i (some v)) H') (RR:=fun acc C=>compPost (model X.prog X.w) X.A X.xe (some (assign (.Name x pos') X.env)) (fun _ s'=>SP X pins D .next s') acc C) S hc hg ht he I2 T st2 f2 hw ?_
 intro l C H' s' I' hm fC q
 obtain⟨m,hm⟩:=hm
 show wpAny _ X.A (assign (.Name x pos') X.env (.ref l)) _ _ _
 refine wpAny_assign_Name (Ai I' hN hix hx (v:=.ref l) rfl (fun s'' I'' ⟨a,sb,ha⟩=>?_) hf)
 have hCa:C≠a:=by
  rcases ha with rfl|ha
  ·exact fC.2.1
  ·exact fun z=>fC.2.2.2.2.1 x a ha z.symm
 refine⟨m,hm.sameBut sb hCa,fun h' hs'=>?_⟩
 exact⟨_,H',I''.turned (t':=s''.toks) (fun b o hb e=>hs'.extBut b o hb e) fC.1 fC.2.1 fC.2.2.2.1 fC.2.2.2.2.1 fC.2.2.2.2.2,q⟩
theorem Inv.turnedNew{X:Cx}{pins:List (Addr×Obj)}{σ:St}{H:Hp}{s:Shared}{h':Heap}{ch:List Addr}{t:Addr}{o:HO}{t':Nat}(I:Inv X pins σ H s)(hsz:s.heap.objs.size<=t)
  (k:∀b ob,b∉ch->s.heap.get? b=some ob->h'.get? b=some ob) (hch:∀b∈ch,kK X pins H b) (new:jbm X.prog X.w (upd H t o) h' t o):
  Inv X pins σ (upd H t o) {s with heap:=h',toks:=t'}:=by
 have hn:H t=none:=I.hok.fresh hsz
 have nt:∀{b ob},s.heap.get? b=some ob->b≠t:=fun q=>aX (bt (aI q) hsz)
 have u:Un (ko X.stack) ch H (upd H t o) s.heap h':=
  ⟨fun b ob q _ _ hx=>k b ob hx q,fun b ob q _ _ hx=>⟨ob.slots,k b ob hx q⟩,fun b ob q n _=>by rw[ir (nt q)];exact n,fun b ob q hx=>⟨ob,k b ob hx q⟩,
   fun b xs q=>by rw[ir (iC q hn)];exact q,fun b ob xs q=>by rw[ir (iC q hn)];exact q,fun b ps q=>⟨#[],by rw[ir (iC q hn),q];simp⟩⟩
 refine I.call (g':=s.gens) (t':=t') (d':=s.drawn) u (fun b ob e=>?_) I.bare fun b hb=>⟨(hch b hb).2.2.2.1,(hch b hb).2.1,(hch b hb).2.2.2.2.1,(hch b hb).2.2.2.2.2⟩
 by_cases hb:b=t
 ·subst hb;rw[ij]at e;cases e;exact new
 ·rw[ir hb]at e
  have ntr:∀{c u},H c=some u->c∉ch:=fun q z=>by rw[(hch _ z).1]at q;cases q
  refine(I.hok b ob e).stay (fun c v hc q=>k c v ?_ q) (fun c q=>by rw[ir (iC q hn)];exact q) fun c xs q=>by rw[ir (iC q hn)];exact q
  rcases hc with z|z
  ·rw[z];exact ntr e
  ·exact ntr z
theorem Inv.turnedAll{X:Cx}{pins:List (Addr×Obj)}{σ:St}{H:Hp}{s:Shared}{h':Heap}{ch:List Addr}{t':Nat}(I:Inv X pins σ H s)
  (k:∀b ob,b∉ch->s.heap.get? b=some ob->h'.get? b=some ob) (hch:∀b∈ch,kK X pins H b):Inv X pins σ H {s with heap:=h',toks:=t'}:=by
 have u:Un (ko X.stack) ch H H s.heap h':=
  ⟨fun b ob q _ _ hx=>k b ob hx q,fun b ob q _ _ hx=>⟨ob.slots,k b ob hx q⟩,fun b ob q n _=>n,fun b ob q hx=>⟨ob,k b ob hx q⟩,fun b xs q=>q,fun b ob xs q=>q,fun b ps q=>⟨#[],by rw[q];simp⟩⟩
 refine I.call (g':=s.gens) (t':=t') (d':=s.drawn) u (fun b ob e=>?_) I.bare fun b hb=>⟨(hch b hb).2.2.2.1,(hch b hb).2.1,(hch b hb).2.2.2.2.1,(hch b hb).2.2.2.2.2⟩
 have ntr:∀{c u},H c=some u->c∉ch:=fun q z=>by rw[(hch _ z).1]at q;cases q
 refine(I.hok b ob e).stay (fun c v hc q=>k c v ?_ q) (fun c q=>q) fun c xs q=>q
 rcases hc with z|z
 ·rw[z];exact ntr e
 ·exact ntr z
def oj(K:PySem.W.Frag)(a:Addr):It:=
 ⟨fun i H=>∃xs x,SqL K H a xs/\xs[i]? =some x,fun i H x H'=>∃t y,H t=none/\x= .ref t/\H'=upd H t (.tup [.int i,y])/\∀xs,SqL K H a xs->xs[i]? =some y,fun i H=>∃xs,SqL K H a xs/\xs.length<=i⟩
theorem FB{P:Program}{w:World}{K:PySem.W.Frag}{elts:List Expr}{x1:Nat}{pos:Pos}(a e it:Addr)(hne:e≠it):
  Turn P w K (.Tuple elts x1 pos) (oj K a) [e,it] e (fun i h=>(∃old,IsEnum h e it i old)/\h.IsListIter it a i)where
 mem:=by simp
 obj:=fun i h st b hb=>by
  obtain⟨⟨old,he⟩,hit⟩:=st
  have q:b=e\/b=it:=by simpa using hb
  rcases q with rfl|rfl
  ·exact⟨_,he,fun v z=>by
    have z':Data.fields _=Data.cell v:=z
    cases z'⟩
  ·obtain⟨o,e1,c,d⟩:=hit
   exact⟨o,e1,fun v z=>by rw[d]at z;cases z⟩
 keep:=fun i h h' st k=>by
  obtain⟨⟨old,he⟩,hit⟩:=st
  exact⟨⟨old,k e (by simp) _ he⟩,hit.at fun o z=>k it (by simp) o z⟩
 item:=by
  intro X hP hw hK hc i pins s σ H E I hf st hg
  subst hP hw hK
  obtain⟨⟨old,he⟩,hit⟩:=st
  obtain⟨xs,x,hq,hx⟩:=hg
  obtain⟨its,rv,p,hz⟩:=I.list hq
  obtain⟨u,hu,ru⟩:=rv.get hx
  have elt:e<s.heap.objs.size:=aI he
  have ilt:it<s.heap.objs.size:=by obtain⟨_,z,_⟩:=hit;exact aI z
  refine wpAny_pyNext_enum_item he hit p.isList (x:=u) (by simpa using hu) hne fun h1 ho hit1 hT hsz1 hk1=>?_
  refine⟨_,rfl,wpAny_letOwnedTupleGo_enum ho fun h2 he2 hs2=>?_⟩
  replace hs2:Heap.SameBut e h1 h2:=hs2
  have kk:∀b ob,b∉[e,it]->s.heap.get? b=some ob->h2.get? b=some ob:=fun b ob hb q=>by
   have hb':b≠e/\b≠it:=by simpa using hb
   exact hs2.extBut b ob hb'.1 (hk1 b ob hb'.1 hb'.2 q)
  have hT2:h2.get? s.heap.objs.size=some {cls:=.type "tuple",data:=.seq #[.int i s.toks,u]}:=(hs2.2 _ (dj elt)).trans hT
  refine⟨.ref s.heap.objs.size,upd H s.heap.objs.size (.tup [.int i,x]),I.turnedNew (ch:=[e,it]) (au _) kk hf ?_,rfl,⟨_,x,I.fresh,rfl,rfl,fun ys hy=>by rw[I.list_inj hy hq];exact hx⟩,⟨⟨u,by simpa using he2⟩,hit1.at fun o z=>(hs2.2 it hne.symm).trans z⟩,fun b hb=>?_⟩
  ·exact⟨by show 2<=sizeLine;decide,[.int i s.toks,u],.cons ⟨_,rfl⟩ (.cons ru .nil),⟨_,hT2,rfl,_,rfl⟩⟩
  ·have hb':b=e\/b=it:=by simpa using hb
   have:b≠s.heap.objs.size:=by
    rcases hb' with rfl|rfl
    ·exact aX elt
    ·exact aX ilt
   rw[ir this]
   exact(hf b hb).1
 done:=by
  intro X hP hw hK hc i pins s σ H E I hf st hg
  subst hP hw hK
  obtain⟨⟨old,he⟩,hit⟩:=st
  obtain⟨xs,hq,hx⟩:=hg
  obtain⟨its,rv,p,hz⟩:=I.list hq
  have hl:=rv.length
  refine wpAny_pyNext_enum_end (I.ok.hd hc) he hit p.isList (by simp;lia) fun h' eb=>⟨rfl,I.turnedAll (ch:=[e,it]) (t':=s.toks) (fun b o hb q=>eb b o (fun z=>hb (by simp[z])) q) hf⟩
 self:=fun _ _ _ _ _ st h=>by
  obtain⟨⟨old,he⟩,_⟩:=st
  exact wpAny_pyIter_enum he h
def A6(K:PySem.W.Frag)(ta:TA):TI:=fun σ H R=>ta σ H fun vs H1=>∃a,vs=[.ref a]/\(∃xs,SqL K H1 a xs)/\R (oj K a) H1
theorem ur{X:Cx}{elts:List Expr}{x1:Nat}{tpos:Pos}{a:Expr}{ta:TA}{p pos:Pos}(hg:Gl X "enumerate")(hm:X.mg "enumerate"=none)(ha:PA X [a] ta)(hs:starEach [a] X.env=[(false,eval a X.env)]:=by rfl):
  PI X (.Tuple elts x1 tpos) (.Call (.Name "enumerate" p) [a] [] pos) (A6 X.K ta):=by
 intro pins s σ H R I h
 refine Call_ (lu I hg hm boot_enumerate (bY (ix (ha pos pins s σ H _ I h) fun us s1 ⟨vs,H1,I1,r1,q1⟩=>?_) hs rfl))
 obtain⟨a,e,⟨xs,hq⟩,q⟩:=q1
 subst e
 cases r1 with
 |cons r rr=>
  cases rr
  cases r
  obtain⟨its,rv,pl,hz⟩:=I1.list hq
  refine call_enumerate_list pl.isList fun h' he hit hsz hk=>?_
  refine wpAny_pyIter_enum he ?_
  have I2:Inv X pins σ H1 {s1 with heap:=h'}:=I1.kept (t':=s1.toks) fun b o q=>hk b o q
  refine⟨_,[s1.heap.objs.size+1,s1.heap.objs.size],_,_,H1,rfl,I2,FB a _ _ (gK _),⟨⟨_,he⟩,hit⟩,fun b hb=>?_,q⟩
  have hb':b=s1.heap.objs.size+1\/b=s1.heap.objs.size:=by simpa using hb
  rcases hb' with rfl|rfl
  ·exact I1.fpOk (eF _) (I1.hok.fresh (eF _))
  ·exact I1.fpOk (au _) (I1.hok.fresh (au _))
section
variable{prog:Program}{w:World}{A:Around}{E:Value->Shared->Prop}{s:Shared}
theorem FQ{j t:Addr}{k:Nat}{ar:Array Value}{x:Value}{Q:Value->Shared->Prop}(hj:s.heap.IsTupleIter j t k)(ht:s.heap.IsTuple t ar)(hx:ar[k]? =some x)
  (hQ:∀h',h'.IsTupleIter j t (k+1)->Heap.SameBut j s.heap h'->Q x {s with heap:=h'}):wpAny (model prog w) A (Builtin.SmallTypes.nextOf (.ref j)) Q E s:=by
 obtain⟨ob,e0,hcl,hdt⟩:=id hj
 obtain⟨ot,e1,_,nt,hdl⟩:=ht
 unfold Builtin.SmallTypes.nextOf
 refine aa (c5 (name:=Str.ofString "__next__") hj.typeIs dh (cZ dh hj.typeIs hJ ?_ (hG _)))
 show wpAny _ _ (field (.ref j) 0>>=_) _ _ s
 refine aa (cC e0 hdt (x:=.ref t) rfl ?_)
 show wpAny _ _ (if(Value.ref t==Value.none)=true then _ else _) _ _ s
 rw[ay (show ¬((Value.ref t==Value.none)=true)from aY)]
 show wpAny _ _ (field (.ref j) 1>>=_) _ _ s
 refine aa (cC e0 hdt (x:=.int k 0) rfl ?_)
 show wpAny _ _ (seqItems? (.ref t)>>=_) _ _ s
 refine aa (bP e1 hdl ?_)
 simp only[Int.toNat_natCast,hx]
 refine aa (wpAny_setField e0 hdt (by simp) (av ⟨x,rfl,av (hQ _ ?_ (eK ..))⟩))
 exact⟨_,cy _ e0 (Obj.isFreed_of_fields (Obj.data_mapFields hdt _)),(Obj.cls_mapFields ..).trans hcl,by rw[Obj.data_mapFields hdt];simp[rawInt]⟩
theorem GP{j t:Addr}{k:Nat}{ar:Array Value}{Q:Value->Shared->Prop}(hh:A.handled=none)(hj:s.heap.IsTupleIter j t k)(ht:s.heap.IsTuple t ar)(hx:ar[k]? =none)
  (hE:∀h' e,Heap.ExtBut j s.heap h'->(∃o,h'.get? e=some o/\o.cls= .type "StopIteration")->E (.ref e) {s with heap:=h'}):wpAny (model prog w) A (Builtin.SmallTypes.nextOf (.ref j)) Q E s:=by
 obtain⟨ob,e0,hcl,hdt⟩:=id hj
 obtain⟨ot,e1,_,nt,hdl⟩:=ht
 unfold Builtin.SmallTypes.nextOf
 refine aa (c5 (name:=Str.ofString "__next__") hj.typeIs dh (cZ dh hj.typeIs hJ ?_ (hG _)))
 show wpAny _ _ (field (.ref j) 0>>=_) _ _ s
 refine aa (cC e0 hdt (x:=.ref t) rfl ?_)
 show wpAny _ _ (if(Value.ref t==Value.none)=true then _ else _) _ _ s
 rw[ay (show ¬((Value.ref t==Value.none)=true)from aY)]
 show wpAny _ _ (field (.ref j) 1>>=_) _ _ s
 refine aa (cC e0 hdt (x:=.int k 0) rfl ?_)
 show wpAny _ _ (seqItems? (.ref t)>>=_) _ _ s
 refine aa (bP e1 hdl ?_)
 simp only[Int.toNat_natCast,hx]
 refine aa (eA (aa (wpAny_setField e0 hdt (by simp) ?_)))
 show wpAny _ _ (newExc (.type "StopIteration") []>>=_) _ _ _
 refine aa ?_
 simp only[newExc,newTuple]
 refine aa (cI ?_ (by size_fits))
 refine aa (m:=firstArgMember _ _) (gR (a:=Value.none) (by first|rfl|(simp only[firstArgMember];rfl)) ?_)
 refine cI ?_ (by size_fits)
 simp only[raiseNew]
 refine aa (wpAny_handled ?_)
 first|rw[show A.in1.handled=none from hh]|rw[hh]
 refine aa (av (wpAny_throw ?_))
 exact hE _ _ (((eK ..).extBut.push _).push _) ⟨_,aJ _ rfl,rfl⟩
def IsSq(b:Bool)(h:Heap)(l:Addr)(ar:Array Value):Prop:=if b=true then h.IsList l ar else h.IsTuple l ar
def jbn(b:Bool)(h:Heap)(j l:Addr)(k:Nat):Prop:=if b=true then h.IsListIter j l k else h.IsTupleIter j l k
theorem IsSq.at'{b:Bool}{h h':Heap}{l:Addr}{ar:Array Value}(x:IsSq b h l ar)(k:∀o,h.get? l=some o->h'.get? l=some o):IsSq b h' l ar:=by
 cases b with
 |true=>obtain⟨o,e,r⟩:=(show h.IsList l ar from x);exact(show h'.IsList l ar from⟨o,k o e,r⟩)
 |false=>obtain⟨o,e,r⟩:=(show h.IsTuple l ar from x);exact(show h'.IsTuple l ar from⟨o,k o e,r⟩)
theorem jbn.at'{b:Bool}{h h':Heap}{j l:Addr}{i:Nat}(x:jbn b h j l i)(k:∀o,h.get? j=some o->h'.get? j=some o):jbn b h' j l i:=by
 cases b with
 |true=>obtain⟨o,e,r⟩:=(show h.IsListIter j l i from x);exact(show h'.IsListIter j l i from⟨o,k o e,r⟩)
 |false=>obtain⟨o,e,r⟩:=(show h.IsTupleIter j l i from x);exact(show h'.IsTupleIter j l i from⟨o,k o e,r⟩)
theorem jbn.obj{b:Bool}{h:Heap}{j l:Addr}{i:Nat}(x:jbn b h j l i):∃o,h.get? j=some o/\∀v,o.data≠ .cell v:=by
 cases b with
 |true=>obtain⟨o,e,_,d⟩:=(show h.IsListIter j l i from x);exact⟨o,e,fun v z=>by rw[d]at z;cases z⟩
 |false=>obtain⟨o,e,_,d⟩:=(show h.IsTupleIter j l i from x);exact⟨o,e,fun v z=>by rw[d]at z;cases z⟩
theorem uU{b:Bool}{j l:Addr}{k:Nat}{ar:Array Value}{x:Value}{Q:Value->Shared->Prop}(hj:jbn b s.heap j l k)(hl:IsSq b s.heap l ar)(hx:ar[k]? =some x)
  (hQ:∀h',jbn b h' j l (k+1)->Heap.SameBut j s.heap h'->Q x {s with heap:=h'}):wpAny (model prog w) A (Builtin.SmallTypes.nextOf (.ref j)) Q E s:=by
 cases b with
 |true=>exact wpAny_nextOf_list_item (show s.heap.IsListIter j l k from hj) (show s.heap.IsList l ar from hl) hx fun h' a b=>hQ h' a b
 |false=>exact FQ (show s.heap.IsTupleIter j l k from hj) (show s.heap.IsTuple l ar from hl) hx fun h' a b=>hQ h' a b
theorem AX{b:Bool}{j l:Addr}{k:Nat}{ar:Array Value}{Q:Value->Shared->Prop}(hh:A.handled=none)(hj:jbn b s.heap j l k)(hl:IsSq b s.heap l ar)(hx:ar[k]? =none)
  (hE:∀h' e,Heap.ExtBut j s.heap h'->(∃o,h'.get? e=some o/\o.cls= .type "StopIteration")->E (.ref e) {s with heap:=h'}):wpAny (model prog w) A (Builtin.SmallTypes.nextOf (.ref j)) Q E s:=by
 cases b with
 |true=>exact wpAny_nextOf_list_end hh (show s.heap.IsListIter j l k from hj) (show s.heap.IsList l ar from hl) hx hE
 |false=>exact GP hh (show s.heap.IsTupleIter j l k from hj) (show s.heap.IsTuple l ar from hl) hx hE
theorem GC{b:Bool}{z TI TO i1 i2 l1 l2:Addr}{k1 k2:Nat}{xs ys:Array Value}{x y v0 v1:Value}{Q:Value->Shared->Prop}(D:ZipApart z TI TO i1 i2 l1 l2)
  (hz:IsZip s.heap z TI TO .none) (hTI:IsPair s.heap TI (.ref i1) (.ref i2)) (hTO:IsPair s.heap TO v0 v1)
  (h1:jbn b s.heap i1 l1 k1) (h2:jbn b s.heap i2 l2 k2) (hl1:IsSq b s.heap l1 xs) (hl2:IsSq b s.heap l2 ys) (hx:xs[k1]? =some x) (hy:ys[k2]? =some y)
  (hQ:∀h',IsZip h' z TI TO (rawInt s.heap.objs.size)->IsPair h' TO x y->jbn b h' i1 l1 (k1+1)->jbn b h' i2 l2 (k2+1)->IsPair h' s.heap.objs.size x y->
   (∀c o,c≠z->c≠TO->c≠i1->c≠i2->s.heap.get? c=some o->h'.get? c=some o)->Q (.ref s.heap.objs.size) {s with heap:=h'}):
  wpAny (model prog w) A (Builtin.«zip.__next__» ⟨[.ref z],[]⟩) (fun fin s'=>∃v,fin= .done (.ret v)/\Q v s') E s:=by
 show wpAny _ _ (field (.ref z) 2>>=_) _ _ _
 refine aa (cC hz rfl (x:=.bool false) rfl ?_)
 show wpAny _ _ (field (.ref z) 3>>=_) _ _ _
 refine aa (cC hz rfl (x:=.ref TI) rfl ?_)
 refine aa (bP hTI rfl ?_)
 show wpAny _ _ (Builtin.SmallTypes.ownedTupleIsFree (.ref z)>>=_) _ _ _
 refine aa ?_
 unfold Builtin.SmallTypes.ownedTupleIsFree
 refine aa (cC hz rfl (x:=.none) rfl (av ?_))
 simp only[if_true]
 refine aa (eA ?_)
 refine aa (cC hz rfl (x:=.ref TO) rfl ?_)
 refine aa (c6 hz (by simp) fun g1 hzA sA=>?_)
 replace hzA:IsZip g1 z TI TO .ellipsis:=hzA
 refine aa ?_
 simp only[List.zipIdx_cons,List.zipIdx_nil,g9,List.forIn_nil]
 refine aa (aa (fY ?_))
 show wpAny _ _ (Builtin.SmallTypes.nextOf (.ref i1)>>=_) _ _ _
 refine aa (uU (b:=b) (h1.at' fun o e=>sA.extBut _ o D.i1z e) (hl1.at' fun o e=>sA.extBut _ o D.l1z e) hx fun g2 h1B sB=>av ?_)
 have TOB:IsPair g2 TO v0 v1:=sB.extBut _ _ D.TOi1 (sA.extBut _ _ D.TOz hTO)
 refine aa (bP TOB rfl ?_)
 refine aa (fO TOB fun g3 TOC sC=>?_)
 replace TOC:IsPair g3 TO x v1:=TOC
 refine aa (eD (av ?_))
 refine aa (aa (fY ?_))
 show wpAny _ _ (Builtin.SmallTypes.nextOf (.ref i2)>>=_) _ _ _
 refine aa (uU (b:=b) (h2.at' fun o e=>sC.extBut _ o D.TOi2.symm (sB.extBut _ o D.i12.symm (sA.extBut _ o D.i2z e))) (hl2.at' fun o e=>sC.extBut _ o D.l2TO (sB.extBut _ o D.l2i1 (sA.extBut _ o D.l2z e))) hy fun g4 h2D sD=>av ?_)
 have TOD:IsPair g4 TO x v1:=sD.extBut _ _ D.TOi2 TOC
 refine aa (bP TOD rfl ?_)
 refine aa (fO TOD fun g5 TOE sE=>?_)
 replace TOE:IsPair g5 TO x y:=TOE
 refine aa (eD (av (av ?_)))
 refine aa (bP TOE rfl ?_)
 refine aa (wpAny_newTuple ?_)
 have hsz:g5.objs.size=s.heap.objs.size:=by rw[sE.1,sD.1,sC.1,sB.1,sA.1]
 have hzE:IsZip g5 z TI TO .ellipsis:=sE.extBut _ _ D.TOz.symm (sD.extBut _ _ D.i2z.symm (sC.extBut _ _ D.TOz.symm (sB.extBut _ _ D.i1z.symm hzA)))
 have hkE:∀c o,c≠z->c≠TO->c≠i1->c≠i2->s.heap.get? c=some o->g5.get? c=some o:=fun c o c1 c2 c3 c4 e=>sE.extBut _ _ c2 (sD.extBut _ _ c4 (sC.extBut _ _ c2 (sB.extBut _ _ c3 (sA.extBut _ _ c1 e))))
 have h1E:jbn b g5 i1 l1 (k1+1):=h1B.at' fun o e=>sE.extBut _ o D.TOi1.symm (sD.extBut _ o D.i12 (sC.extBut _ o D.TOi1.symm e))
 have h2E:jbn b g5 i2 l2 (k2+1):=h2D.at' fun o e=>sE.extBut _ o D.TOi2.symm e
 have zlt:z<g5.objs.size:=aI hzE
 show wpAny _ _ (Builtin.SmallTypes.ownedTupleHandOut (.ref z) (.ref g5.objs.size)>>=_) _ _ _
 refine aa ?_
 unfold Builtin.SmallTypes.ownedTupleHandOut
 have hzF:IsZip (g5.push {cls:=.type "tuple",data:=.seq #[x,y]}) z TI TO .ellipsis:=af _ hzE
 refine aa (c6 hzF (by simp) fun g7 hzG sG=>?_)
 replace hzG:IsZip g7 z TI TO (rawInt g5.objs.size):=hzG
 refine c6 hzG (by simp) fun g8 hzI sI=>?_
 replace hzI:IsZip g8 z TI TO (rawInt g5.objs.size):=hzI
 have up:∀c o,c≠z->g5.get? c=some o->g8.get? c=some o:=fun c o c1 e=>sI.extBut _ _ c1 (sG.extBut _ _ c1 (af _ e))
 have hTI8:IsPair g8 g5.objs.size x y:=sI.extBut _ _ (dj zlt) (sG.extBut _ _ (dj zlt) (aJ _ rfl))
 rw[hsz]at hzI hTI8
 refine av ⟨_,rfl,?_⟩
 show Q (.ref g5.objs.size) _
 rw[hsz]
 exact hQ g8 hzI (up _ _ D.TOz TOE) (h1E.at' fun o e=>up _ o D.i1z e) (h2E.at' fun o e=>up _ o D.i2z e) hTI8 fun c o c1 c2 c3 c4 e=>up c o c1 (hkE c o c1 c2 c3 c4 e)
theorem Gm{b:Bool}{z TI TO i1 i2 l1 l2:Addr}{k1 k2:Nat}{xs ys:Array Value}{v0 v1:Value}{Q:Fin->Shared->Prop}(hh:A.handled=none)(D:ZipApart z TI TO i1 i2 l1 l2)
  (hz:IsZip s.heap z TI TO .none) (hTI:IsPair s.heap TI (.ref i1) (.ref i2)) (hTO:IsPair s.heap TO v0 v1)
  (h1:jbn b s.heap i1 l1 k1) (h2:jbn b s.heap i2 l2 k2) (hl1:IsSq b s.heap l1 xs) (hl2:IsSq b s.heap l2 ys) (hend:xs[k1]? =none\/ys[k2]? =none)
  (hE:∀h' e,(∀c o,c≠z->c≠TO->c≠i1->c≠i2->s.heap.get? c=some o->h'.get? c=some o)->(∃o,h'.get? e=some o/\o.cls= .type "StopIteration")->E (.ref e) {s with heap:=h'}):
  wpAny (model prog w) A (Builtin.«zip.__next__» ⟨[.ref z],[]⟩) Q E s:=by
 show wpAny _ _ (field (.ref z) 2>>=_) _ _ _
 refine aa (cC hz rfl (x:=.bool false) rfl ?_)
 show wpAny _ _ (field (.ref z) 3>>=_) _ _ _
 refine aa (cC hz rfl (x:=.ref TI) rfl ?_)
 refine aa (bP hTI rfl ?_)
 show wpAny _ _ (Builtin.SmallTypes.ownedTupleIsFree (.ref z)>>=_) _ _ _
 refine aa ?_
 unfold Builtin.SmallTypes.ownedTupleIsFree
 refine aa (cC hz rfl (x:=.none) rfl (av ?_))
 simp only[if_true]
 refine aa (eA ?_)
 refine aa (cC hz rfl (x:=.ref TO) rfl ?_)
 refine aa (c6 hz (by simp) fun g1 hzA sA=>?_)
 replace hzA:IsZip g1 z TI TO .ellipsis:=hzA
 refine aa ?_
 simp only[List.zipIdx_cons,List.zipIdx_nil,g9,List.forIn_nil]
 refine aa (aa (fY ?_))
 show wpAny _ _ (Builtin.SmallTypes.nextOf (.ref i1)>>=_) _ _ _
 cases hx:xs[k1]? with
 |none=>
  refine aa (AX (b:=b) hh (h1.at' fun o e=>sA.extBut _ o D.i1z e) (hl1.at' fun o e=>sA.extBut _ o D.l1z e) hx fun g2 ex sB he=>?_)
  obtain⟨oe,hoe,hce⟩:=he
  have hzB:IsZip g2 z TI TO .ellipsis:=sB _ _ D.i1z.symm hzA
  have hez:ex≠z:=fun q=>by subst q;rw[hzB]at hoe;cases hoe;simp at hce
  refine c6 hzB (by simp) fun g3 _ sC=>hE g3 ex (fun c o c1 _ c3 _ q=>sC.extBut _ _ c1 (sB _ _ c3 (sA.extBut _ _ c1 q))) ⟨oe,sC.extBut _ _ hez hoe,hce⟩
 |some x=>
  have hy:ys[k2]? =none:=by rcases hend with h|h;rw[hx]at h;cases h;exact h
  refine aa (uU (b:=b) (h1.at' fun o e=>sA.extBut _ o D.i1z e) (hl1.at' fun o e=>sA.extBut _ o D.l1z e) hx fun g2 h1B sB=>av ?_)
  have TOB:IsPair g2 TO v0 v1:=sB.extBut _ _ D.TOi1 (sA.extBut _ _ D.TOz hTO)
  refine aa (bP TOB rfl ?_)
  refine aa (fO TOB fun g3 TOC sC=>?_)
  refine aa (eD (av ?_))
  refine aa (aa (fY ?_))
  show wpAny _ _ (Builtin.SmallTypes.nextOf (.ref i2)>>=_) _ _ _
  refine aa (AX (b:=b) hh (h2.at' fun o e=>sC.extBut _ o D.TOi2.symm (sB.extBut _ o D.i12.symm (sA.extBut _ o D.i2z e))) (hl2.at' fun o e=>sC.extBut _ o D.l2TO (sB.extBut _ o D.l2i1 (sA.extBut _ o D.l2z e))) hy fun g4 ex sD he=>?_)
  obtain⟨oe,hoe,hce⟩:=he
  have hzD:IsZip g4 z TI TO .ellipsis:=sD _ _ D.i2z.symm (sC.extBut _ _ D.TOz.symm (sB.extBut _ _ D.i1z.symm hzA))
  have hez:ex≠z:=fun q=>by subst q;rw[hzD]at hoe;cases hoe;simp at hce
  refine c6 hzD (by simp) fun g5 _ sE=>hE g5 ex (fun c o c1 c2 c3 c4 q=>sE.extBut _ _ c1 (sD _ _ c4 (sC.extBut _ _ c2 (sB.extBut _ _ c3 (sA.extBut _ _ c1 q))))) ⟨oe,sE.extBut _ _ hez hoe,hce⟩
end
abbrev om(b:Bool)(l:Addr):Obj:={cls:=.type (if b=true then "list_iterator" else "tuple_iterator"),data:=.fields #[.ref l,.int 0 0]}
abbrev pV(b:Bool)(h:Heap)(l1 l2:Addr):Heap:=(h.push (om b l1)).push (om b l2)
abbrev pU(b:Bool)(h:Heap)(l1 l2:Addr):Heap:=(pV b h l1 l2).push {cls:=.type "tuple",data:=.seq #[.ref h.objs.size,.ref (h.push (om b l1)).objs.size]}
abbrev pT(b:Bool)(h:Heap)(l1 l2:Addr):Heap:=(pU b h l1 l2).push {cls:=.type "tuple",data:=.seq #[.none,.none]}
abbrev nD(b:Bool)(h:Heap)(l1 l2:Addr):Heap:=(pT b h l1 l2).push {cls:=.type "zip",data:=.fields #[.none,.bool false,.bool false,.ref (pV b h l1 l2).objs.size,.ref (pU b h l1 l2).objs.size]}
theorem FD(l1 l2:Addr)(xs ys:Array Value):
  Meets (Builtin.«zip.__new__» ⟨[.type "zip",.ref l1,.ref l2],[]⟩) (fun _ R s=>s.heap.IsTuple l1 xs/\s.heap.IsTuple l2 ys/\R (.ok (.ret (.ref (pT false s.heap l1 l2).objs.size))) {s with heap:=nD false s.heap l1 l2}):=
 .of_wp fun prog w A R s h=>by
  obtain⟨hp,g,d,tk,os⟩:=s;obtain⟨hl1,hl2,h⟩:=h
  have hsub:=sub_zip
  have hL1:Heap.IsTuple (Shared.heap ⟨hp,g,d,tk,os⟩) l1 xs:=hl1
  have hL2:Heap.IsTuple (Shared.heap ⟨hp.push {cls:=.type "tuple_iterator",data:=.fields #[.ref l1,.int 0 0]},g,d,tk,os⟩) l2 ys:=Heap.IsTuple.push hl2 _
  wp_walk using gb hL1,gb hL2
  exact⟨_,rfl,h⟩
section
variable{prog:Program}{w:World}{A:Around}{E:Value->Shared->Prop}{s:Shared}
theorem C6{b:Bool}{l1 l2:Addr}{xs ys:Array Value}{Q:Value->Shared->Prop}(hl1:IsSq b s.heap l1 xs)(hl2:IsSq b s.heap l2 ys)
  (h:∀h',IsZip h' (s.heap.objs.size+4) (s.heap.objs.size+2) (s.heap.objs.size+3) .none->IsPair h' (s.heap.objs.size+2) (.ref s.heap.objs.size) (.ref (s.heap.objs.size+1))->
   IsPair h' (s.heap.objs.size+3) .none .none->jbn b h' s.heap.objs.size l1 0->jbn b h' (s.heap.objs.size+1) l2 0->(∀c o,s.heap.get? c=some o->h'.get? c=some o)->Q (.ref (s.heap.objs.size+4)) {s with heap:=h'}):
  wpAny (model prog w) A (call (.type "zip") [.ref l1,.ref l2]) Q E s:=by
 cases b with
 |true=>exact call_zip_2 (show s.heap.IsList l1 xs from hl1) (show s.heap.IsList l2 ys from hl2) fun h' a1 a2 a3 a4 a5 _ a7=>h h' a1 a2 a3 a4 a5 a7
 | false=>
  refine callType_new F.called_zip (by decide) (F.typeCall_zip_2 _ _) (F.newCall_zip_2 _ _) (fun obj=>F.args_object_init_3 obj _ _) F.entry_zip_new (FD l1 l2 xs ys) ⟨hl1,hl2,?_⟩
  have q1:(s.heap.push (om false l1)).objs.size=s.heap.objs.size+1:=dg ..
  have q2:(pV false s.heap l1 l2).objs.size=s.heap.objs.size+2:=by rw[dg,q1]
  have q3:(pU false s.heap l1 l2).objs.size=s.heap.objs.size+3:=by rw[dg,q2]
  have q4:(pT false s.heap l1 l2).objs.size=s.heap.objs.size+4:=by rw[dg,q3]
  have p5:(nD false s.heap l1 l2).get? (pT false s.heap l1 l2).objs.size=some _:=aJ _ rfl
  have p4:(nD false s.heap l1 l2).get? (pU false s.heap l1 l2).objs.size=some _:=af _ (aJ _ rfl)
  have p3:(nD false s.heap l1 l2).get? (pV false s.heap l1 l2).objs.size=some _:=af _ (af _ (aJ _ rfl))
  have p2:(nD false s.heap l1 l2).get? (s.heap.push (om false l1)).objs.size=some _:=af _ (af _ (af _ (aJ _ rfl)))
  have p1:(nD false s.heap l1 l2).get? s.heap.objs.size=some _:=af _ (af _ (af _ (af _ (aJ _ rfl))))
  show _/\_
  rw[q2,q3,q4]at p5
  rw[q1,q2]at p3
  rw[q3]at p4
  rw[q1]at p2
  rw[q4]
  exact⟨⟨_,p5,rfl⟩,h _ p5 p3 p4 (show Heap.IsTupleIter _ _ _ _ from⟨_,p1,rfl,rfl⟩) (show Heap.IsTupleIter _ _ _ _ from⟨_,p2,rfl,rfl⟩) fun c o x=>
   af _ (af _ (af _ (af _ (af _ x))))⟩
end
def kq(b:Bool)(K:PySem.W.Frag)(H:Hp)(a:Addr)(xs:List V):Prop:=if b=true then SqL K H a xs else SqT K H a xs
theorem Inv.sqB{X:Cx}{pins:List (Addr×Obj)}{σ:St}{H:Hp}{s:Shared}{b:Bool}{a:Addr}{xs:List V}(I:Inv X pins σ H s)(h:kq b X.K H a xs):∃its:List Value,Vals xs its/\IsSq b s.heap a its.toArray/\xs.length<=sizeLine:=by
 cases b with
 |true=>
  obtain⟨its,r,p,z⟩:=I.list (show SqL X.K H a xs from h)
  exact⟨its,r,p.isList,z⟩
 |false=>
  obtain⟨its,r,p,z⟩:=I.tuple (show SqT X.K H a xs from h)
  exact⟨its,r,(show s.heap.IsTuple a its.toArray from p),z⟩
theorem Inv.sqB_inj{X:Cx}{pins:List (Addr×Obj)}{σ:St}{H:Hp}{s:Shared}{b:Bool}{a:Addr}{xs ys:List V}(I:Inv X pins σ H s)(h:kq b X.K H a xs)(h':kq b X.K H a ys):xs=ys:=by
 cases b with
 |true=>exact I.list_inj (show SqL X.K H a xs from h) (show SqL X.K H a ys from h')
 |false=>exact I.tuple_inj (show SqT X.K H a xs from h) (show SqT X.K H a ys from h')
def rX(b:Bool)(K:PySem.W.Frag)(a c:Addr):It:=
  ⟨fun i H=>∃xs ys x y,kq b K H a xs/\kq b K H c ys/\xs[i]? =some x/\ys[i]? =some y,
   fun i H v H'=>∃t x y,H t=none/\v= .ref t/\H'=upd H t (.tup [x,y])/\(∀xs,kq b K H a xs->xs[i]? =some x)/\∀ys,kq b K H c ys->ys[i]? =some y,
   fun i H=>∃xs ys,kq b K H a xs/\kq b K H c ys/\(xs.length<=i\/ys.length<=i)⟩
theorem kj{X:Cx}{pins:List (Addr×Obj)}{σ:St}{H:Hp}{s:Shared}{b:Bool}{a j:Addr}{xs:List V}(I:Inv X pins σ H s)(h:kq b X.K H a xs)(f:kK X pins H j):a≠j:=by
 intro e
 subst e
 have key:∀{o},X.K.lookup a=some o->False:=fun{o} q=>by
  have q1:=I.mod.kin a o q
  rcases f.2.2.2.1 with z|z
  ·exact I.ok.noex a o q1 z
  ·exact absurd (bt (aI q1) (bo I.ok.bsz z)) (cH _)
 cases b with
 |true=>
  rcases(show SqL X.K H a xs from h)with(h|⟨o,h⟩)|⟨o,its,n,hk,_⟩
  ·rw[f.1]at h;cases h
  ·rw[f.1]at h;cases h
  ·exact key hk
 |false=>
  rcases(show SqT X.K H a xs from h)with(h|⟨o,h⟩)|⟨o,its,n,hk,_⟩
  ·rw[f.1]at h;cases h
  ·rw[f.1]at h;cases h
  ·exact key hk
structure ZpA(z TI TO i1 i2:Addr):Prop where
 TIz:TI≠z
 TOz:TO≠z
 i1z:i1≠z
 i2z:i2≠z
 TITO:TI≠TO
 TIi1:TI≠i1
 TIi2:TI≠i2
 TOi1:TO≠i1
 TOi2:TO≠i2
 i12:i1≠i2
theorem EE{P:Program}{w:World}{K:PySem.W.Frag}{elts:List Expr}{x1:Nat}{pos:Pos}(b:Bool)(a c z TI TO i1 i2:Addr)(D0:ZpA z TI TO i1 i2):
  Turn P w K (.Tuple elts x1 pos) (rX b K a c) [z,TI,TO,i1,i2] z (fun i h=>IsZip h z TI TO .none/\IsPair h TI (.ref i1) (.ref i2)/\(∃u v,IsPair h TO u v)/\jbn b h i1 a i/\jbn b h i2 c i)where
 mem:=by simp
 obj:=fun i h st d hd=>by
  obtain⟨hz,hTI,⟨u,v,hTO⟩,h1,h2⟩:=st
  have q:d=z\/d=TI\/d=TO\/d=i1\/d=i2:=by simpa using hd
  rcases q with rfl|rfl|rfl|rfl|rfl
  ·exact⟨_,hz,fun v z=>by
    have z':Data.fields _=Data.cell v:=z
    cases z'⟩
  ·exact⟨_,hTI,fun v z=>by
    have z':Data.seq _ _=Data.cell v:=z
    cases z'⟩
  ·exact⟨_,hTO,fun v z=>by
    have z':Data.seq _ _=Data.cell v:=z
    cases z'⟩
  ·exact h1.obj
  ·exact h2.obj
 keep:=fun i h h' st k=>by
  obtain⟨hz,hTI,⟨u,v,hTO⟩,h1,h2⟩:=st
  exact⟨k z (by simp) _ hz,k TI (by simp) _ hTI,⟨u,v,k TO (by simp) _ hTO⟩,h1.at' fun o e=>k i1 (by simp) o e,h2.at' fun o e=>k i2 (by simp) o e⟩
 item:=by
  intro X hP hw hK hc i pins s σ H E I hf st hg
  subst hP hw hK
  obtain⟨hz,hTI,⟨u0,v0,hTO⟩,h1,h2⟩:=st
  obtain⟨xs,ys,x,y,hq1,hq2,hx,hy⟩:=hg
  obtain⟨its1,rv1,p1,hz1⟩:=I.sqB hq1
  obtain⟨its2,rv2,p2,hz2⟩:=I.sqB hq2
  obtain⟨u1,hu1,ru1⟩:=rv1.get hx
  obtain⟨u2,hu2,ru2⟩:=rv2.get hy
  have D:ZipApart z TI TO i1 i2 a c:=⟨D0.TIz,D0.TOz,D0.i1z,D0.i2z,D0.TITO,D0.TIi1,D0.TIi2,D0.TOi1,D0.TOi2,D0.i12,
   kj I hq1 (hf z (by simp)),kj I hq1 (hf TO (by simp)),kj I hq1 (hf i1 (by simp)),kj I hq1 (hf i2 (by simp)),kj I hq2 (hf z (by simp)),kj I hq2 (hf TO (by simp)),kj I hq2 (hf i1 (by simp)),kj I hq2 (hf i2 (by simp))⟩
  have zlt:z<s.heap.objs.size:=aI hz
  have hT:s.TypeIs (.ref z) "zip":=⟨_,hz,rfl⟩
  unfold pyNext
  refine aa (fZ (c5 (name:=Str.ofString "__next__") hT fK (cZ fK hT F.entry_zip_next
   (GC (b:=b) D hz hTI hTO h1 h2 p1 p2 (x:=u1) (y:=u2) (by simpa using hu1) (by simpa using hu2) fun h' a1 a2 a3 a4 a5 a7=>av ?_) (F.args_zip_next_1 _))))
  refine⟨_,rfl,wpAny_letOwnedTupleGo_zip a1 fun g hz' hs'=>?_⟩
  replace hs':Heap.SameBut z h' g:=hs'
  have kk:∀d ob,d∉[z,TI,TO,i1,i2]->s.heap.get? d=some ob->g.get? d=some ob:=fun d ob hd q=>by
   have hd':d≠z/\d≠TI/\d≠TO/\d≠i1/\d≠i2:=by simpa using hd
   exact hs'.extBut _ _ hd'.1 (a7 d ob hd'.1 hd'.2.2.1 hd'.2.2.2.1 hd'.2.2.2.2 q)
  have hT2:g.get? s.heap.objs.size=some {cls:=.type "tuple",data:=.seq #[u1,u2]}:=hs'.extBut _ _ (dj zlt) a5
  refine⟨.ref s.heap.objs.size,upd H s.heap.objs.size (.tup [x,y]),I.turnedNew (ch:=[z,TI,TO,i1,i2]) (t':=s.toks) (au _) kk hf ?_,rfl,
   ⟨_,x,y,I.fresh,rfl,rfl,fun zs hq=>by rw[I.sqB_inj hq hq1];exact hx,fun zs hq=>by rw[I.sqB_inj hq hq2];exact hy⟩,
   ⟨hz',hs'.extBut _ _ D.TIz (a7 _ _ D.TIz D.TITO D.TIi1 D.TIi2 hTI),⟨_,_,hs'.extBut _ _ D.TOz a2⟩,a3.at' fun o e=>hs'.extBut _ _ D.i1z e,a4.at' fun o e=>hs'.extBut _ _ D.i2z e⟩,fun d hd=>?_⟩
  ·exact⟨by show 2<=sizeLine;decide,[u1,u2],.cons ru1 (.cons ru2 .nil),⟨_,hT2,rfl,_,rfl⟩⟩
  ·have dlt:d<s.heap.objs.size:=by
    have q:d=z\/d=TI\/d=TO\/d=i1\/d=i2:=by simpa using hd
    rcases q with rfl|rfl|rfl|rfl|rfl
    ·exact zlt
    ·exact aI hTI
    ·exact aI hTO
    ·obtain⟨o,e,_⟩:=h1.obj;exact aI e
    ·obtain⟨o,e,_⟩:=h2.obj;exact aI e
   rw[ir (aX dlt)]
   exact(hf d hd).1
 done:=by
  intro X hP hw hK hc i pins s σ H E I hf st hg
  subst hP hw hK
  obtain⟨hz,hTI,⟨u0,v0,hTO⟩,h1,h2⟩:=st
  obtain⟨xs,ys,hq1,hq2,hlen⟩:=hg
  obtain⟨its1,rv1,p1,hz1⟩:=I.sqB hq1
  obtain⟨its2,rv2,p2,hz2⟩:=I.sqB hq2
  have e1:=rv1.length
  have e2:=rv2.length
  have D:ZipApart z TI TO i1 i2 a c:=⟨D0.TIz,D0.TOz,D0.i1z,D0.i2z,D0.TITO,D0.TIi1,D0.TIi2,D0.TOi1,D0.TOi2,D0.i12,
   kj I hq1 (hf z (by simp)),kj I hq1 (hf TO (by simp)),kj I hq1 (hf i1 (by simp)),kj I hq1 (hf i2 (by simp)),kj I hq2 (hf z (by simp)),kj I hq2 (hf TO (by simp)),kj I hq2 (hf i1 (by simp)),kj I hq2 (hf i2 (by simp))⟩
  have hT:s.TypeIs (.ref z) "zip":=⟨_,hz,rfl⟩
  unfold pyNext
  refine aa (fZ (c5 (name:=Str.ofString "__next__") hT fK (cZ fK hT F.entry_zip_next
   (Gm (b:=b) (I.ok.hd hc) D hz hTI hTO h1 h2 p1 p2 (by rcases hlen with h|h;exact .inl (by simp;lia);exact .inr (by simp;lia)) fun h' e hk he=>?_) (F.args_zip_next_1 _))))
  obtain⟨o,ho,hcl⟩:=he
  refine aa (gG (T:="StopIteration") (b:=true) ⟨o,ho,hcl⟩ isSubtype_stop ?_)
  exact av ⟨rfl,I.turnedAll (ch:=[z,TI,TO,i1,i2]) (t':=s.toks) (fun d ob hd q=>by
   have hd':d≠z/\d≠TI/\d≠TO/\d≠i1/\d≠i2:=by simpa using hd
   exact hk d ob hd'.1 hd'.2.2.1 hd'.2.2.2.1 hd'.2.2.2.2 q) hf⟩
 self:=fun _ _ _ _ _ st h=>wpAny_pyIter_zip st.1 h
theorem Gn{X:Cx}{b:Bool}{elts:List Expr}{x1:Nat}{tpos:Pos}{pins:List (Addr×Obj)}{σ:St}{H1:Hp}{s1:Shared}{R:It->Hp->Prop}{a c:Addr}{xs ys:List V}(I1:Inv X pins σ H1 s1)(hq1:kq b X.K H1 a xs)(hq2:kq b X.K H1 c ys)(q:R (rX b X.K a c) H1):
  wpAny (model X.prog X.w) X.A (call (.type "zip") [.ref a,.ref c]) (fun v s2=>wpAny (model X.prog X.w) X.A (pyIter v) (vL X pins σ (.Tuple elts x1 tpos) R) X.xe s2) X.xe s1:=by
 obtain⟨its1,rv1,p1,hz1⟩:=I1.sqB hq1
 obtain⟨its2,rv2,p2,hz2⟩:=I1.sqB hq2
 refine C6 p1 p2 fun h' a1 a2 a3 a4 a5 hk=>?_
 refine wpAny_pyIter_zip a1 ?_
 have I2:Inv X pins σ H1 {s1 with heap:=h'}:=I1.kept (t':=s1.toks) fun b o q=>hk b o q
 have ne:∀i j:Nat,i≠j->s1.heap.objs.size+i≠s1.heap.objs.size+j:=fun i j h e=>h (Nat.add_left_cancel e)
 refine⟨_,[s1.heap.objs.size+4,s1.heap.objs.size+2,s1.heap.objs.size+3,s1.heap.objs.size,s1.heap.objs.size+1],_,_,H1,rfl,I2,EE b a c _ _ _ _ _ ⟨ne 2 4 (by decide),ne 3 4 (by decide),ne 0 4 (by decide),ne 1 4 (by decide),ne 2 3 (by decide),ne 2 0 (by decide),ne 2 1 (by decide),ne 3 0 (by decide),ne 3 1 (by decide),ne 0 1 (by decide)⟩,
  ⟨a1,a2,⟨_,_,a3⟩,a4,a5⟩,fun d hd=>?_,q⟩
 have hd':d=s1.heap.objs.size+4\/d=s1.heap.objs.size+2\/d=s1.heap.objs.size+3\/d=s1.heap.objs.size\/d=s1.heap.objs.size+1:=by simpa using hd
 have hle:s1.heap.objs.size<=d:=by
  rcases hd' with e|e|e|e|e<;>rw[e]
  ·exact fk _ _
  ·exact fk _ _
  ·exact fk _ _
  ·exact au _
  ·exact fk _ _
 exact I1.fpOk hle (I1.hok.fresh hle)
def A4(K:PySem.W.Frag)(ta:TA):TI:=fun σ H R=>ta σ H fun vs H1=>∃(b:Bool) (a c:Addr),vs=[.ref a,.ref c]/\(∃xs,kq b K H1 a xs)/\(∃ys,kq b K H1 c ys)/\R (rX b K a c) H1
theorem DH{X:Cx}{elts:List Expr}{x1:Nat}{tpos:Pos}{a c:Expr}{ta:TA}{p pos:Pos}(hg:Gl X "zip")(hm:X.mg "zip"=none)(ha:PA X [a,c] ta)(hs:starEach [a,c] X.env=[(false,eval a X.env),(false,eval c X.env)]:=by rfl)(hs2:starEach [c] X.env=[(false,eval c X.env)]:=by rfl):
  PI X (.Tuple elts x1 tpos) (.Call (.Name "zip" p) [a,c] [] pos) (A4 X.K ta):=by
 intro pins s σ H R I h
 refine Call_ (lu I hg hm boot_zip (bY (ix (ha pos pins s σ H _ I h) fun us s1 ⟨vs,H1,I1,r1,q1⟩=>?_) (by rw[hs,hs2]) (by rw[hs2];rfl)))
 obtain⟨b,a,c,e,⟨xs,hq1⟩,⟨ys,hq2⟩,q⟩:=q1
 subst e
 cases r1 with
 | cons r rr=>
  cases rr with
  |cons r' rr=>
   cases rr
   cases r
   cases r'
   exact Gn I1 hq1 hq2 q
theorem Gq:typeLookup (.type "list") "keys"=pure none:=by rw[typeLookup_type,builtinLookup_eq_fast];kernel_rfl
theorem GW:typeLookup (.type "list") "__getattr__"=pure none:=by rw[typeLookup_type,builtinLookup_eq_fast];kernel_rfl
theorem uP:isSubtype (.type "AttributeError") (.type "AttributeError")=pure true:=by rw[isSubtype_type];kernel_rfl
section
variable{prog:Program}{w:World}{A:Around}{E:Value->Shared->Prop}{h:Heap}{g:Array GenState}{d:Drawn}{t:Nat}{os:OsState}{a:Addr}{o:Obj}
theorem FX{α:Type}{Q:α->Shared->Prop}{u:Value}{x msg:Str}(hh:A.handled=none)(hm:msg.length<=sizeLine)
  (hE:∀h' e tk,(∀b o,h.get? b=some o->h'.get? b=some o)->(∃o,h'.get? e=some o/\o.cls= .type "AttributeError")->E (.ref e) ⟨h',g,d,tk,os⟩):
  wpAny (model prog w) A (raiseAttrError u x msg:Sem α) Q E ⟨h,g,d,t,os⟩:=by
 unfold raiseAttrError
 refine aa (wpAny_mkStr ?_ hm)
 simp only[newExc,newTuple]
 refine aa (aa (cI ?_ (by size_fits)))
 refine aa (m:=firstArgMember _ _) (gR (a:=Value.none) (by first|rfl|(simp only[firstArgMember];rfl)) ?_)
 refine cI ?_ (by size_fits)
 refine aa (wpAny_mkText ?_)
 dsimp only
 refine aa ?_
 unfold noteAttr
 generalize hh1:h.push {cls:=.type "tuple",data:=.seq #[.str msg t]}=h1
 have k1:∀ b o,h.get? b = some o->h1.get? b = some o:=fun b o q=>by rw [<- hh1]; exact af _ q
 have hg:(h1.push {cls:=.type "AttributeError",data:=.fields #[.ref h.objs.size,.none,.none,.none,.bool false,.none,unsetMember,unsetMember]}).get? h1.objs.size=some _:=aJ _ rfl
 have k2:∀b o,h.get? b=some o->(h1.push {cls:=.type "AttributeError",data:=.fields #[.ref h.objs.size,.none,.none,.none,.bool false,.none,unsetMember,unsetMember]}).get? b=some o:=fun b o q=>af _ (k1 b o q)
 have nb:∀b o,h.get? b=some o->b≠h1.objs.size:=fun b o q=>aX (aI (k1 b o q))
 show wpAny _ _ (lacksNameAndObj (.ref h1.objs.size)>>=_) _ _ ⟨h1.push {cls:=.type "AttributeError",data:=.fields #[.ref h.objs.size,.none,.none,.none,.bool false,.none,unsetMember,unsetMember]},g,d,t+1+1,os⟩
 generalize hh2:h1.push {cls:=.type "AttributeError",data:=.fields #[.ref h.objs.size,.none,.none,.none,.bool false,.none,unsetMember,unsetMember]}=h2 at hg k2
 generalize h1.objs.size=e at hg nb
 clear hh2 k1 hh1
 have hT:(⟨h2,g,d,t+1+1,os⟩:Shared).TypeIs (.ref e) "AttributeError":=⟨_,hg,rfl⟩
 refine aa ?_
 unfold lacksNameAndObj
 refine aa (gG hT uP ?_)
 simp only[cz,aG,if_false]
 refine aa (wpAny_load hg ?_)
 show wpAny _ _ (pure true) _ _ _
 refine av ?_
 simp only[if_true]
 refine aa (eA (aa (fq hT ?_)))
 show wpAny _ _ (layMembers e 6 #[_,u]) _ _ _
 unfold layMembers
 refine aa (wpAny_load hg ?_)
 show wpAny _ _ (update e _) _ _ _
 refine wpAny_update hg ?_
 refine wpAny_raiseNew_none hh (hE _ _ _ (fun b o q=>?_) ⟨_,cy _ hg rfl,rfl⟩)
 exact(bL _ _ (nb b o q).symm).trans (k2 b o q)
theorem Gu{tk:Tok}{Q:PySem.Fin->Shared->Prop}{its:Array Value}{n:Nat}(hx:h.get? a=some {cls:=.type "list",dict:=none,data:=.seq its n,slots:=#[]})(hh:A.handled=none)
  (hE:∀h' e tk,(∀b o,h.get? b=some o->h'.get? b=some o)->(∃o,h'.get? e=some o/\o.cls= .type "AttributeError")->E (.ref e) ⟨h',g,d,tk,os⟩):
  wpAny (model prog w) A (Builtin.«object.__getattribute__» ⟨[.ref a,.str "keys" tk],[]⟩) Q E ⟨h,g,d,t,os⟩:=by
 have hT:(⟨h,g,d,t,os⟩:Shared).TypeIs (.ref a) "list":=⟨_,hx,rfl⟩
 have f4:=Gq
 repeat(any_goals (first|assumption|wp_step))
 refine FX hh (by decide+kernel) hE
theorem Ff{tk:Tok}{Q:Value->Shared->Prop}{its:Array Value}{n:Nat}(hx:h.get? a=some {cls:=.type "list",dict:=none,data:=.seq its n,slots:=#[]})(hh:A.handled=none)
  (hE:∀h' e tk,(∀b o,h.get? b=some o->h'.get? b=some o)->(∃o,h'.get? e=some o/\o.cls= .type "AttributeError")->E (.ref e) ⟨h',g,d,tk,os⟩):
  wpAny (model prog w) A (getAttrBy (.ref a) (.str "keys" tk) false) Q E ⟨h,g,d,t,os⟩:=by
 have hT:(⟨h,g,d,t,os⟩:Shared).TypeIs (.ref a) "list":=⟨_,hx,rfl⟩
 have f2:=dC.lookup
 have f3:=dC.bind (.ref a)
 repeat(any_goals (first|assumption|wp_step))
 refine codeAny_call_builtin dC.plain F.entry_list_ga (dC.check _ _ _ _ _ _ _ _ (show(⟨h,g,d,t,os⟩:Shared).TypeIs (.ref a) "list" from⟨_,hx,rfl⟩) (F.args_list_getattribute_2 _ _) (Gu hx ?_ ?_))
 ·exact hh
 ·intro h' e tk k q
  obtain⟨oe,he,hc⟩:=q
  have hT2:(⟨h',g,d,tk,os⟩:Shared).TypeIs (.ref e) "AttributeError":=⟨_,he,hc⟩
  have f5:=uP
  have f6:=GW
  show wpAny _ A (getattributeRaised (Value.ref a) _ (Value.type "list") (.ref e) none false false) _ _ _
  have done:=hE h' e tk k ⟨oe,he,hc⟩
  unfold getattributeRaised
  repeat(any_goals (first|assumption|wp_step))
theorem CL{Q:Option Value->Shared->Prop}{its:Array Value}{n:Nat}(hx:h.get? a=some {cls:=.type "list",dict:=none,data:=.seq its n,slots:=#[]})(hh:A.handled=none)
  (hq:∀h' tk,(∀b o,h.get? b=some o->h'.get? b=some o)->Q none ⟨h',g,d,tk,os⟩):wpAny (model prog w) A (getAttr? (.ref a) "keys") Q E ⟨h,g,d,t,os⟩:=by
 unfold getAttr? getAttrBy?
 refine aa (wpAny_mkText (aa (fZ (Ff hx hh fun h' e tk k q=>?_))))
 obtain⟨oe,he,hc⟩:=q
 refine aa (gG (T:="AttributeError") (b:=true) ⟨_,he,hc⟩ uP ?_)
 exact av (hq h' tk k)
end
theorem A3:entryFor table "dict.update.loop"=some Builtin.«dict.update.loop»:=entryFor_of_fast (by kernel_rfl)
theorem rM:plainId "dict.update.loop"=true:=by decide+kernel
theorem F0{K:Type}[DecidableEq K](kvs:List (K×Value))(k:K)(v:Value):(stored kvs k v).length<=kvs.length+1:=by
 unfold stored
 split
 ·rw[ae];lia
 ·rw[aB];exact au _
section
variable{prog:Program}{w:World}{A:Around}{E:Value->Shared->Prop}{K:Type}[DecidableEq K]{knd:KeyKind prog w K}{R:Result->Shared->Prop}
theorem EU{d it l:Addr}{its:Array Value}{more:List (K×Value)}(hh:A.handled=none)(hlen:more.length=its.size)(hsz:its.size<=1000)(hdl:l≠d)(hdi:it≠d)(hil:l≠it):
  ∀(k i:Nat) (tk0:Tok) (s:Shared) (kvs:List (K×Value)),its.size-i=k->i<=its.size->kvs.length<=i->s.heap.IsListIter it l i->s.heap.IsList l its->s.heap.DictOf knd d kvs->
   (∀(j:Nat) (q:K×Value),more[j]? =some q->∃t kv,its[j]? =some (.ref t)/\s.heap.IsTuple t #[kv,q.2]/\knd.is q.1 kv=true)->
   (∀h' tk,h'.DictOf knd d (merged kvs (more.drop i))->(∀b o,b≠d->b≠it->s.heap.get? b=some o->h'.get? b=some o)->R (.ok (.ret .none)) {s with heap:=h',toks:=tk})->
   codeAny (model prog w) A (.builtin "dict.update.loop" ⟨[.ref d,.ref it,.int i tk0,.none],[]⟩) R s:=by
 intro k
 induction k with
 |zero=>
  intro i tk0 s kvs hk hi hkl hit hl hd hp hR
  have e:i=its.size:=by lia
  subst e
  refine cP A3 ?_
  rw[cG rM _]
  show wpAny _ A.in1 (pyNext (.ref it)>>=_) _ _ s
  refine aa (fL hh hit hl (by simp) fun h' eb=>?_)
  show wpAny _ A.in1 (Builtin.Dict.addKeywords d []>>=_) _ _ _
  refine aa (av (av ?_))
  refine hR h' s.toks ?_ fun b o _ hb q=>eb b o hb q
  rw[List.drop_eq_nil_of_le (by lia)]
  exact hd.extBut eb hdi.symm
 | succ k ih=>
  intro i tk0 s kvs hk hi hkl hit hl hd hp hR
  have hlt:i<its.size:=by lia
  have hlm:i<more.length:=by lia
  obtain⟨t,kv,hu,ht,hkey⟩:=hp i more[i] (by simp[hlm])
  refine cP A3 ?_
  rw[cG rM _]
  show wpAny _ A.in1 (pyNext (.ref it)>>=_) _ _ s
  refine aa (fv hit hl hu fun h1 hit1 sb1=>?_)
  have nti:t≠it:=fun z=>by
   subst z
   obtain⟨o,e1,c1,_⟩:=ht
   obtain⟨o',e2,c2,_⟩:=hit
   rw[e1]at e2;cases e2;rw[c1]at c2;exact absurd c2 (by decide)
  have ntd:t≠d:=fun z=>by
   subst z
   obtain⟨o,e1,c1,_⟩:=ht
   obtain⟨o',_,_,e2,c2,_⟩:=hd
   rw[e1]at e2;cases e2;rw[c2.1]at c1;exact absurd c1 (by decide)
  have ht1:h1.IsTuple t #[kv,more[i].2]:=ht.extBut sb1.extBut nti
  have hd1:h1.DictOf knd d kvs:=hd.extBut sb1.extBut hdi.symm
  show wpAny _ A.in1 (holding [.ref t] _>>=_) _ _ _
  refine aa (bX ?_)
  refine aa (m:=(Builtin.Dict.pairItems (.ref t)).tryCatch _) ?_
  refine df ?_
  unfold Builtin.Dict.pairItems
  refine aa (fq ht1.typeIs ?_)
  obtain⟨ot,e1,c1,n1,d1⟩:=id ht1
  rw[az (by decide)]
  refine aa (bP e1 d1 ?_)
  refine av ?_
  show wpAny _ A.in1 (holding [kv,more[i].2] (dictSet d kv more[i].2)) _ _ _
  refine bX (wpAny_dictSet_pairs hkey hd1 (fun h2 hd2 sb2=>?_) (by have:=(by decide:1000<=sizeLine);lia))
  replace sb2:Heap.SameBut d h1 h2:=sb2
  have kk:∀b o,b≠d->b≠it->s.heap.get? b=some o->h2.get? b=some o:=fun b o b1 b2 q=>sb2.extBut b o b1 (sb1.extBut b o b2 q)
  refine av ⟨cY rM _,?_⟩
  have hik:((i:Int)+1)=((i+1:Nat):Int):=by lia
  show codeAny _ _ (.builtin "dict.update.loop" ⟨[.ref d,.ref it,rawInt ((i:Int)+1),.none],[]⟩) _ _
  rw[hik]
  refine ih (i+1) 0 _ (stored kvs more[i].1 more[i].2) (by lia) (by lia) ?_ (hit1.extBut sb2.extBut hdi) ((hl.extBut sb1.extBut hil).extBut sb2.extBut hdl) hd2 ?_ ?_
  ·have:=F0 kvs more[i].1 more[i].2
   lia
  ·intro j q hq
   obtain⟨t',kv',a1,a2,a3⟩:=hp j q hq
   have n1:t'≠it:=fun z=>by
    subst z
    obtain⟨o,e1,c1,_⟩:=a2
    obtain⟨o',e2,c2,_⟩:=hit
    rw[e1]at e2;cases e2;rw[c1]at c2;exact absurd c2 (by decide)
   have n2:t'≠d:=fun z=>by
    subst z
    obtain⟨o,e1,c1,_⟩:=a2
    obtain⟨o',_,_,e2,c2,_⟩:=hd
    rw[e1]at e2;cases e2;rw[c2.1]at c1;exact absurd c1 (by decide)
   exact⟨t',kv',a1,(a2.extBut sb1.extBut n1).extBut sb2.extBut n2,a3⟩
  ·intro h' tk hd' k'
   refine hR h' tk ?_ fun b o b1 b2 q=>k' b o b1 b2 (kk b o b1 b2 q)
   rw[List.drop_eq_getElem_cons hlm]
   exact hd'
theorem GM{l:Addr}{its:Array Value}{c:Nat}{more:List (K×Value)}{s:Shared}{Q:Value->Shared->Prop}(hh:A.handled=none)(hl:s.heap.get? l=some {cls:=.type "list",dict:=none,data:=.seq its c,slots:=#[]})(hlen:more.length=its.size)(hsz:its.size<=1000)
  (hp:∀(j:Nat) (q:K×Value),more[j]? =some q->∃t kv,its[j]? =some (.ref t)/\s.heap.IsTuple t #[kv,q.2]/\knd.is q.1 kv=true)
  (h:∀h' tk,h'.DictOf knd s.heap.objs.size (merged [] more)->(∀b o,s.heap.get? b=some o->h'.get? b=some o)->Q (.ref s.heap.objs.size) {s with heap:=h',toks:=tk}):
  wpAny (model prog w) A (call (.type "dict") [.ref l]) Q E s:=by
 refine callType_codes (Q₁:=fun obj s₁=>obj= .ref s.heap.objs.size/\s₁={s with heap:=s.heap.push {cls:=.type "dict",data:=.dict #[]}}) F.kt_called_dict (F.kt_typeCall_dict_1 _) F.entry_dict_init (kt_code_dict_new _ ⟨rfl,rfl⟩) ?_
 rintro obj s₁ ⟨rfl,rfl⟩
 have hnew:(s.heap.push {cls:=.type "dict",data:=.dict #[]}).DictOf knd s.heap.objs.size []:=Heap.DictOf.new s.heap
 have hl1:(s.heap.push {cls:=.type "dict",data:=.dict #[]}).get? l=some {cls:=.type "list",dict:=none,data:=.seq its c,slots:=#[]}:=af _ hl
 have k1:∀b o,s.heap.get? b=some o->(s.heap.push {cls:=.type "dict",data:=.dict #[]}).get? b=some o:=fun b o q=>af _ q
 have llt:l<s.heap.objs.size:=aI hl
 generalize s.heap.push {cls:=.type "dict",data:=.dict #[]}=h1 at hnew hl1 k1
 refine⟨hnew.typeIs,F.args_dict_init_2 _ _,?_⟩
 unfold Builtin.«dict.__init__»
 refine aa ?_
 unfold Builtin.Dict.selfAndRest
 refine aa (wpAny_notOrdered_dict hnew.typeIs ?_)
 show wpAny _ _ (pure (s.heap.objs.size,[Value.ref l])) _ _ _
 refine av ?_
 show wpAny _ _ (Builtin.Dict.updateFrom "dict.__init__" s.heap.objs.size (.ref l) [] .none) _ _ _
 unfold Builtin.Dict.updateFrom
 refine aa (fq (T:="list") ⟨_,hl1,rfl⟩ ?_)
 rw[az (by decide)]
 refine aa (CL hl1 hh fun h2 tk2 k2=>?_)
 have hl2:=k2 _ _ hl1
 have hd2:h2.DictOf knd s.heap.objs.size []:=let⟨o,es,ep,ho,r⟩:=hnew;⟨o,es,ep,k2 _ _ ho,r⟩
 have dlt:s.heap.objs.size<h2.objs.size:=by obtain⟨_,_,_,ho,_⟩:=hd2;exact aI ho
 simp only[Option.isNone_none,if_true]
 refine aa (eA ?_)
 have hL:Heap.IsList h2 l its:=⟨_,hl2,rfl,_,rfl⟩
 refine aa (dM (s:={s with heap:=h2,toks:=tk2}) hL ?_)
 refine av ⟨cY rM _,?_⟩
 have hit:(h2.push {cls:=.type "list_iterator",data:=.fields #[.ref l,.int 0 0]}).IsListIter h2.objs.size l 0:=⟨_,aJ _ rfl,rfl,rfl⟩
 refine EU (A:=A.in1) (knd:=knd) (more:=more) hh hlen hsz (aX llt) (dj dlt) (aX (Nat.lt_trans llt dlt)) its.size 0 0 {s with heap:=h2.push {cls:=.type "list_iterator",data:=.fields #[.ref l,.int 0 0]},toks:=tk2} [] rfl (bw _) (au _) hit (hL.push _) (hd2.push _) ?_ ?_
 ·intro j q hq
  obtain⟨t,kv,a1,a2,a3⟩:=hp j q hq
  obtain⟨o,e,r⟩:=a2
  exact⟨t,kv,a1,⟨o,af _ (k2 _ _ (k1 _ _ e)),r⟩,a3⟩
 ·intro h' tk hd' k'
  rw[List.drop_zero]at hd'
  refine⟨rfl,h h' tk hd' fun b o q=>k' b o (aX (aI q)) (aX (aI (k2 _ _ (k1 _ _ q)))) (af _ (k2 _ _ (k1 _ _ q)))⟩
end
def PairAt(H:Hp)(v:V)(p:iq×V):Prop:=∃t,v= .ref t/\H t=some (.tup [kV p.1,p.2])
def Cc(K:PySem.W.Frag):List V->Hp->VK->Prop:=fun vs H Q=>∃l xs kvs,vs=[.ref l]/\H l=some (.lst xs)/\Paired (PairAt H) xs kvs/\xs.length<=1000/\(kvs.map (·.1)).Nodup/\∀d,H d=none->Q (.ref d) (upd H d (.dK kvs))
theorem Az{X:Cx}{pins:List (Addr×Obj)}{σ:St}{H:Hp}{s:Shared}(I:Inv X pins σ H s):∀{xs:List V} {kvs:List (iq×V)} {its:List Value},Paired (PairAt H) xs kvs->Vals xs its->
  ∃more:List (iq×Value),KV kvs more/\∀(j:Nat) (q:iq×Value),more[j]? =some q->∃t kv,its[j]? =some (.ref t)/\s.heap.IsTuple t #[kv,q.2]/\(jH X.prog X.w).is q.1 kv=true
 |_,_,_,.nil,.nil=>⟨[],.nil,fun j q h=>by simp at h⟩
 | _,_,_,.cons hp tp,.cons rv tr=>by
  obtain⟨more,hk,hm⟩:=Az I tp tr
  obtain⟨t,rfl,ht⟩:=hp
  cases rv
  obtain⟨_,its',rt,hi⟩:=I.hok t _ ht
  obtain⟨u1,u2,rfl,r1,r2⟩:=rt.two
  refine⟨(_,u2)::more,.cons ⟨rfl,r2⟩ hk,fun j q h=>?_⟩
  cases j with
  |zero=>
   simp at h
   subst h
   exact⟨t,u1,rfl,hi,mn r1⟩
  |succ j=>
   obtain⟨t',kv,a1,a2,a3⟩:=hm j q (by simpa using h)
   exact⟨t',kv,by simpa using a1,a2,a3⟩
theorem FG{X:Cx}(hc:X.calm=true):jc8 X (.type "dict") (Cc X.K):=by
 intro pins s σ H vs us Q I rv h
 obtain⟨l,xs,kvs,rfl,hl,hp,hz,hn,q⟩:=h
 obtain⟨u,rfl,ru⟩:=rv.one
 cases ru
 obtain⟨z,its,n,r,hlen,e⟩:=I.lstM hl
 obtain⟨more,hkv,hm⟩:=Az I hp r
 have hlm:kvs.length=more.length:=aO hkv
 have hlx:xs.length=kvs.length:=aO hp
 refine GM (knd:=jH X.prog X.w) (more:=more) (I.ok.hd hc) e (by rw[aq];lia) (by rw[aq];lia) (fun j q hj=>?_) fun h' tk dd k=>?_
 ·obtain⟨t,kv,a1,a2,a3⟩:=hm j q hj
  exact⟨t,kv,by simpa using a1,a2,a3⟩
 ·refine⟨.ref s.heap.objs.size,upd H s.heap.objs.size (.dK kvs),I.laid k (au _) ?_,rfl,q _ I.fresh⟩
  rw [merged_nil_of_nodup more (by rw [<- hkv.keys]; exact hn)] at dd
  exact qy (by have:=(by decide:1000<=sizeLine);lia) (by have:=I.big;exact beq_false_of_ne (dj this)) hkv dd
inductive Knd(H:Hp):V->String->Prop where
 |non:Knd H .non "NoneType"
 |bl {x:Bool}:Knd H (.bl x) "bool"
 |int {i:Int}:Knd H (.int i) "int"
 |str {x:Str}:Knd H (.str x) "str"
 |lst {a:Addr} {xs:List V} (e:H a=some (.lst xs)):Knd H (.ref a) "list"
 |tup {a:Addr} {xs:List V} (e:H a=some (.tup xs)):Knd H (.ref a) "tuple"
 |dK {a:Addr} {kvs:List (iq×V)} (e:H a=some (.dK kvs)):Knd H (.ref a) "dict"
theorem Knd.ty{K:PySem.W.Frag}{H:Hp}{v:V}{n:String}(h:Knd H v n):TyOf K H v (.type n):=by
 cases h with
 |non=>exact .non
 |bl=>exact .bl _
 |int=>exact .int _
 |str=>exact .str _
 |lst e=>exact .lst e
 |tup e=>exact .tup e
 |dK e=>exact .dK e
def vh(a b:String):Bool:=a==b||(a=="bool"&&b=="int")
def lX:List String:=["NoneType","bool","int","str","list","tuple","dict"]
theorem Dq{K:PySem.W.Frag}:∀a∈lX,∀b∈lX,PySem.W.kitOne K (.type a) (.type b)=some (vh a b):=by
 intro a ha b hb
 have ha':a="NoneType"\/a="bool"\/a="int"\/a="str"\/a="list"\/a="tuple"\/a="dict":=by simpa[lX]using ha
 have hb':b="NoneType"\/b="bool"\/b="int"\/b="str"\/b="list"\/b="tuple"\/b="dict":=by simpa[lX]using hb
 rcases ha' with rfl|rfl|rfl|rfl|rfl|rfl|rfl<;>rcases hb' with rfl|rfl|rfl|rfl|rfl|rfl|rfl<;>rfl
def B8:List V->Hp->VK->Prop:=fun vs H Q=>∃x n T,vs=[x,.ty T]/\Knd H x n/\T∈lX/\Q (.bl (vh n T)) H
theorem Knd.mem{H:Hp}{v:V}{n:String}(h:Knd H v n):n∈lX:=by cases h<;>simp[lX]
theorem DZ{X:Cx}:jc8 X (.builtin "isinstance") B8:=by
 intro pins s σ H vs us Q I rv h
 obtain⟨x,n,T,rfl,hk,hT,q⟩:=h
 obtain⟨u1,u2,rfl,r1,r2⟩:=rv.two
 cases(show u2=Value.type T from r2)
 exact E5 I r1 hk.ty (Dq n hk.mem T hT) fun tk=>⟨.bl _,H,I.tok tk,rfl,q⟩
section
variable{X:Cx}{e a b c o i:Expr}{es:List Expr}{t t' ta tb tc td te:TE}{pos p p2:Pos}
theorem PE.imp(h:PE X e t)(hi:∀σ H Q,t' σ H Q->t σ H Q):PE X e t':=fun pins s σ H Q I q=>h pins s σ H Q I (hi σ H Q q)
theorem PG.imp{t t':TG}(h:PG X e t)(hi:∀v σ H Q,t' v σ H Q->t v σ H Q):PG X e t':=fun pins s σ H v u Q I r q=>h pins s σ H v u Q I r (hi v σ H Q q)
theorem PGs.imp{t t':kC}(h:PGs X es t)(hi:∀v σ H Q,t' v σ H Q->t v σ H Q):PGs X es t':=fun pins s σ H v u Q I r q=>h pins s σ H v u Q I r (hi v σ H Q q)
theorem OpR.imp{f:Value->Value->Sem Value}{r r':R2}(h:OpR X f r)(hi:∀x y H Q,r' x y H Q->r x y H Q):OpR X f r':=fun pins s σ H x y v u Q I rx ry q=>h pins s σ H x y v u Q I rx ry (hi x y H Q q)
theorem jc8.imp{f:Value}{r r':List V->Hp->VK->Prop}(h:jc8 X f r)(hi:∀vs H Q,r' vs H Q->r vs H Q):jc8 X f r':=fun pins s σ H xs us Q I rv q=>h pins s σ H xs us Q I rv (hi xs H Q q)
theorem IxR.imp{r r':R2}(h:IxR X r)(hi:∀x y H Q,r' x y H Q->r x y H Q):IxR X r':=fun value slice pins s σ H x y v u Q I rx ry q hs=>h value slice pins s σ H x y v u Q I rx ry (hi x y H Q q) hs
theorem MtR.imp{id:String}{r r':V->List V->Hp->VK->Prop}(h:MtR X id r)(hi:∀x vs H Q,r' x vs H Q->r x vs H Q):MtR X id r':=fun pins s σ H x xs v us Q I rx rv q=>h pins s σ H x xs v us Q I rx rv (hi x xs H Q q)
theorem PSet.imp{t t':nB}(h:PSet X t)(hi:∀o i v H Q,t' o i v H Q->t o i v H Q):PSet X t':=fun pins s σ H o i v ov iv u Q I r1 r2 r3 q=>h pins s σ H o i v ov iv u Q I r1 r2 r3 (hi o i v H Q q)
theorem SlR.imp{r r':V->Option Int->Option Int->Hp->VK->Prop}(h:SlR X r)(hi:∀x l u H Q,r' x l u H Q->r x l u H Q):SlR X r':=fun pins s σ H x v vl vu lo hi' sl Q I rx hs pl pu q=>h pins s σ H x v vl vu lo hi' sl Q I rx hs pl pu (hi x lo hi' H Q q)
def jU(i:Nat):TE:=fun σ H Q=>match σ[i]? with
 |some (some v)=>Q v H
 |_=>False
theorem qv(i:Nat){x:Str}{pos:Pos}(hN:X.N[i]? =some x:=by rfl)(hv:pO X.env.scope x:=by first|exact Or.inl rfl|exact Or.inr (Or.inl rfl)|exact Or.inr (Or.inr rfl))(hd:(x==("__debug__":Str))=false:=by decide)
  (hcd:(x==("__classdict__":Str))=false:=by decide):PE X (.Name x pos) (jU i):=(xJ hN hv hd hcd).imp fun σ H Q q=>by
 unfold jU at q
 split at q
 ·rename_i v e;exact⟨v,e,q⟩
 ·exact q.elim
def fI(g:Int->Int->V):R2:=fun x y H Q=>match x,y with
 | .int i,.int j=>Q (g i j) H
 |_,_=>False
def fIC(C:Int->Int->Prop)(g:Int->Int->V):R2:=fun x y H Q=>match x,y with
 | .int i,.int j=>C i j/\Q (g i j) H
 |_,_=>False
theorem fI.r{g:Int->Int->V}{x y:V}{H:Hp}{Q:VK}(h:fI g x y H Q):lB g x y H Q:=by
 unfold fI at h
 split at h
 ·exact⟨_,_,rfl,rfl,h⟩
 ·exact h.elim
theorem fIC.r{C:Int->Int->Prop}{g:Int->Int->V}{x y:V}{H:Hp}{Q:VK}(h:fIC C g x y H Q):rI C g x y H Q:=by
 unfold fIC at h
 split at h
 ·exact⟨_,_,rfl,rfl,h.1,h.2⟩
 ·exact h.elim
theorem kc:OpR X (binaryOp .Add) (fI fun i j=>.int (i+j)):=CH.imp fun _ _ _ _=>fI.r
theorem oN:OpR X (binaryOp .Sub) (fI fun i j=>.int (i-j)):=Cs.imp fun _ _ _ _=>fI.r
theorem lY:OpR X (binaryOp .Mult) (fIC CMul fun i j=>.int (i*j)):=Cv.imp fun _ _ _ _=>fIC.r
theorem lG:OpR X (binaryOp .Mod) (fIC (fun _ j=>0<j) fun i j=>.int (i%j)):=Cw.imp fun _ _ _ _=>fIC.r
theorem tQ:OpR X (binaryOp .FloorDiv) (fIC pS fun i j=>.int (i/j)):=DA.imp fun _ _ _ _=>fIC.r
theorem sY:OpR X (binaryOp .Pow) (fIC rY fun i j=>.int (i^j.toNat)):=Ct.imp fun _ _ _ _=>fIC.r
theorem lU:OpR X (compareOp .Lt) (fI fun i j=>.bl (decide (i<j))):=Cz.imp fun _ _ _ _=>fI.r
theorem qc:OpR X (compareOp .LtE) (fI fun i j=>.bl (decide (i<=j))):=CA.imp fun _ _ _ _=>fI.r
theorem oq:OpR X (compareOp .Gt) (fI fun i j=>.bl (decide (i>j))):=CC.imp fun _ _ _ _=>fI.r
theorem Ci:OpR X (compareOp .GtE) (fI fun i j=>.bl (decide (i ≥ j))):=CD.imp fun _ _ _ _=>fI.r
theorem qH:oi X .Add (fI fun i j=>.int (i+j)):=fun pins s σ H x y v u Q I rx ry q=>Dl pins s σ H x y v u Q I rx ry q.r
def Bb:V->Hp->VK->Prop:=fun x H Q=>match x with
 | .int i=>Q (.int (-i)) H
 |_=>False
theorem qr:rS X (unaryOp .USub) Bb:=fun pins s σ H x v Q I rx q=>by
 cases x<;>first
  |exact False.elim q
  |exact Bz pins s σ H _ v Q I rx ⟨_,rfl,q⟩
def vB:R2:=fun x y H Q=>match x,y with
 | .int i,.int j=>Q (.bl (decide (i=j))) H
 | .bl i,.bl j=>Q (.bl (decide (i=j))) H
 | .str i,.str j=>Q (.bl (decide (i=j))) H
 |_,_=>False
def vt:R2:=fun x y H Q=>match x,y with
 | .int i,.int j=>Q (.bl (!decide (i=j))) H
 | .bl i,.bl j=>Q (.bl (!decide (i=j))) H
 | .str i,.str j=>Q (.bl (!decide (i=j))) H
 |_,_=>False
theorem dI(i j:Int):decide (V.int i=V.int j)=decide (i=j):=by simp
theorem dB(i j:Bool):decide (V.bl i=V.bl j)=decide (i=j):=by simp
theorem dS(i j:Str):decide (V.str i=V.str j)=decide (i=j):=by simp
theorem kF:OpR X (compareOp .Eq) vB:=CF.imp fun x y H Q h=>by
 unfold vB at h
 split at h
 ·exact⟨rfl,by rw[dI];exact h⟩
 ·exact⟨rfl,by rw[dB];exact h⟩
 ·exact⟨rfl,by rw[dS];exact h⟩
 ·exact h.elim
theorem nH:OpR X (compareOp .NotEq) vt:=Cu.imp fun x y H Q h=>by
 unfold vt at h
 split at h
 ·exact⟨rfl,by rw[dI];exact h⟩
 ·exact⟨rfl,by rw[dB];exact h⟩
 ·exact⟨rfl,by rw[dS];exact h⟩
 ·exact h.elim
def oK:V->Bool
 | .non=>true
 |_=>false
def oa(f:Bool->Bool):R2:=fun x y H Q=>match y with
 | .non=>Q (.bl (f (oK x))) H
 |_=>False
theorem dN(x:V):decide (x=V.non)=oK x:=by cases x<;>simp[oK]
theorem Cg:OpR X (compareOp .Is) (oa id):=CB.imp fun x y H Q h=>by
 unfold oa at h
 split at h
 ·exact⟨rfl,by rw[dN];exact h⟩
 ·exact h.elim
theorem xM:OpR X (compareOp .IsNot) (oa not):=DB.imp fun x y H Q h=>by
 unfold oa at h
 split at h
 ·exact⟨rfl,by rw[dN];exact h⟩
 ·exact h.elim
def Bi(ta tb:TE):TE:=fun σ H Q=>ta σ H fun x H1=>match x with
 | .bl c=>if c=true then tb σ H1 Q else Q (.bl false) H1
 |_=>False
def Hn(ta tb:TE):TE:=fun σ H Q=>ta σ H fun x H1=>match x with
 | .bl c=>if c=true then Q (.bl true) H1 else tb σ H1 Q
 |_=>False
def Ba(ta:TE):TE:=fun σ H Q=>ta σ H fun x H1=>match x with
 | .bl c=>Q (.bl (!c)) H1
 |_=>False
def fB(t:TE):TT:=fun σ H Q=>t σ H fun x H1=>match x with
 | .bl c=>Q c H1
 |_=>False
variable{rest:List Expr}
theorem lE(ha:PE X a ta)(hb:PE X (.BoolOp .And (b::rest) pos) tb):PE X (.BoolOp .And (a::b::rest) pos) (Bi ta tb):=by
  intro pins s σ H Q I h
  refine BoolOp_and (ix (ha pins s σ H _ I h) fun v s1 ⟨x,H1,I1,r1,q1⟩=>?_)
  cases x<;>first
    |exact False.elim q1
    | (rename_i c
       cases r1
       refine cN ?_
       cases c with
       |true=>exact hb pins s1 σ H1 Q I1 q1
       |false=>exact⟨.bl false,H1,I1,rfl,q1⟩)
theorem wN(ha:PE X a ta):PE X (.UnaryOp .Not a pos) (Ba ta):=by
  intro pins s σ H Q I h
  refine UnaryOp_ (ix (ha pins s σ H _ I h) fun v s1 ⟨x,H1,I1,r1,q1⟩=>?_)
  cases x<;>first
    |exact False.elim q1
    | (rename_i c
       cases r1
       exact not_of (cN ⟨.bl (!c),H1,I1,rfl,q1⟩))
theorem ke {t:TE} (h:PE X e t) (he:∀ whole,isTrue e X.env whole = (do let v <- whole; standAt e.pos; holding [v] (truthy v)):=by intro _; rfl):PT X e (fB t):=by
  intro pins s σ H Q I hw
  refine isTrue_plain (ix (h pins s σ H _ I hw) fun v s1 ⟨x,H1,I1,r1,q1⟩=>?_) (he _)
  cases x<;>first
    |exact False.elim q1
    | (cases r1
       exact cN ⟨H1,I1,q1⟩)
theorem iS{op:CmpOp}{r:R2}(ho:OpR X (compareOp op) r)(ha:PE X a ta)(hb:PE X b tb)(hm:behindInMarks op b=false):PT X (.Compare a [op] [b] pos) (fB (mO r ta tb)):=by
  intro pins s σ H Q I h
  refine wpAny_isTrue_Compare1 (ix (ha pins s σ H _ I h) fun v s1 ⟨x,H1,I1,r1,q1⟩=>ix (hb pins s1 σ H1 _ I1 q1) fun u s2 ⟨y,H2,I2,r2,q2⟩=>
    ix (ho pins s2 σ H2 x y v u _ I2 r1 r2 q2) fun c s3 ⟨z,H3,I3,r3,q3⟩=>?_) hm
  cases z<;>first
    |exact False.elim q3
    | (cases r3
       exact cN ⟨H3,I3,q3⟩)
theorem lr{op:CmpOp}{t:TE}(h:PC X op a b t)(h1:behindInMarks op b=false:=by first|exact zq _ (by decide) (by decide)|rfl):PT X (.Compare a [op] [b] pos) (fB t):=by
  intro pins s σ H Q I hw
  refine wpAny_isTrue_Compare1 (ix (h pins s σ H _ I hw) fun v s1 h1=>ix h1 fun u s2 h2=>ix h2 fun c s3 ⟨x,H1,I1,r1,q1⟩=>?_) h1
  cases x<;>first
    |exact False.elim q1
    | (cases r1
       exact cN ⟨H1,I1,q1⟩)
def xr(r r':R2)(ta tb tc:TE):TE:=fun σ H Q=>ta σ H fun x H1=>tb σ H1 fun y H2=>r x y H2 fun z H3=>match z with
 | .bl k=>(if k=true then tc σ H3 fun w' H4=>r' y w' H4 Q else Q (.bl false) H3)
 |_=>False
theorem yE{op op':CmpOp}{g:Int->Int->Bool}{r':R2}(ho:OpR X (compareOp op) (fI fun i j=>.bl (g i j)))(ho':OpR X (compareOp op') r')(ha:PE X a ta)(hb:PE X b tb)(hc:PE X c tc)
  (hm:lastMarks [op,op'] [b,c]=false:=by with_unfolding_all rfl):PE X (.Compare a [op,op'] [b,c] pos) (xr (fI fun i j=>.bl (g i j)) r' ta tb tc):=by
 intro pins s σ H Q I h
 refine Compare_chain (ix (ha pins s σ H _ I h) fun v s1 ⟨x,H1,I1,r1,q1⟩=>chain_link (ix (hb pins s1 σ H1 _ I1 q1) fun u s2 ⟨y,H2,I2,r2,q2⟩=>
  ix (ho pins s2 σ H2 x y v u (fun z H3=>∃k,z= .bl k/\(if k=true then tc σ H3 fun w' H4=>r' y w' H4 Q else Q (.bl false) H3)) I2 r1 r2 ?_) fun d s3 ⟨z,H3,I3,r3,k,e,q3⟩=>?_)) hm
 ·dsimp only at q2
  unfold fI at q2 ⊢
  cases x<;>cases y<;>first
   |exact q2.elim
   |exact⟨_,rfl,q2⟩
 ·subst e
  cases r3
  refine cN ?_
  cases k with
  |false=>exact ite_ff ⟨.bl false,H3,I3,rfl,q3⟩
  |true=>exact ite_tt (chain_last (ix (hc pins s3 σ H3 _ I3 q3) fun w' s4 ⟨z',H4,I4,r4,q4⟩=>ho' pins s4 σ H4 y z' u w' Q I4 r2 r4 q4))
def iD(H:Hp)(p:Addr):Option (List V):=match H p with
 |some (.lst xs)=>some xs
 |some (.tup xs)=>some xs
 |some (.frz _ (.lst xs))=>some xs
 |_=>none
theorem rp{K:PySem.W.Frag}{H:Hp}{p:Addr}{xs:List V}(h:iD H p=some xs):SqL K H p xs\/SqT K H p xs:=by
 unfold iD at h
 split at h
 ·rename_i ys e;cases h;exact .inl (.inl (.inl e))
 ·rename_i ys e;cases h;exact .inr (SqT.of e)
 ·rename_i o ys e;cases h;exact .inl (.inl (.inr ⟨_,e⟩))
 ·cases h
def vz:R2:=fun x y H Q=>match x,y with
 | .ref p,.int i=>match iD H p with
  |some xs=>match i7 xs i with
   |some v=>Q v H
   |none=>False
  |none=>False
 |_,_=>False
theorem iA:IxR X vz:=(yo.or G9).imp fun x y H Q h=>by
 unfold vz at h
 split at h
 ·split at h
  ·rename_i xs e
   split at h
   ·rename_i v ev
    rcases rp (K:=X.K) e with z|z
    ·exact .inl ⟨_,_,_,_,rfl,rfl,z,ev,h⟩
    ·exact .inr ⟨_,_,_,_,rfl,rfl,z,ev,h⟩
   ·exact h.elim
  ·exact h.elim
 ·exact h.elim
def rQ:List V->Hp->VK->Prop:=fun vs H Q=>match vs with
 |[.ref p]=>match iD H p with
  |some xs=>Q (.int xs.length) H
  |none=>False
 |_=>False
theorem kW:jc8 X (.builtin "len") rQ:=vc.imp fun vs H Q h=>by
 unfold rQ at h
 split at h
 ·split at h
  ·rename_i xs e;exact⟨_,xs,rfl,rp e,h⟩
  ·exact h.elim
 ·exact h.elim
def uf:List V->Hp->VK->Prop:=fun vs H Q=>match vs with
 |[.ref p]=>match iD H p with
  |some xs=>∀l,H l=none->Q (.ref l) (upd H l (.lst xs))
  |none=>False
 |_=>False
theorem pG:jc8 X (.type "list") uf:=Gp.imp fun vs H Q h=>by
 unfold uf at h
 split at h
 ·split at h
  ·rename_i xs e;exact⟨_,xs,rfl,rp e,h⟩
  ·exact h.elim
 ·exact h.elim
def vv:List V->Hp->VK->Prop:=fun vs H Q=>match vs with
 |[.int i,.int j]=>Q (.int (if j<i then j else i)) H
 |_=>False
theorem Ce(hc:X.calm=true):jc8 X (.builtin "min") vv:=(EM hc).imp fun vs H Q h=>by
 unfold vv at h
 split at h
 ·exact⟨_,_,rfl,h⟩
 ·exact h.elim
def vo:V->Option Int->Option Int->Hp->VK->Prop:=fun x lo hi H Q=>match x with
 | .ref a=>match H a with
  |some (.lst xs)=>∀p,H p=none->Q (.ref p) (upd H p (.lst (kQ xs lo hi)))
  |_=>False
 |_=>False
theorem tf:SlR X vo:=DP.imp fun x l u H Q h=>by
 unfold vo at h
 split at h
 ·split at h
  ·rename_i xs e;exact⟨_,xs,rfl,SqL.of e,h⟩
  ·exact h.elim
 ·exact h.elim
def ue:V->List V->Hp->VK->Prop:=fun x vs H Q=>match x,vs with
 | .ref l,[y]=>match H l with
  |some (.lst xs)=>xs.length<sizeLine/\Q .non (upd H l (.lst (xs++[y])))
  |_=>False
 |_,_=>False
theorem kf:MtR X "list.append" ue:=MtR.imp (r:=yG) (fun pins s σ H x xs v us Q I rx rv q=>Ac pins s σ H x xs v us Q I rx rv q) fun x vs H Q h=>by
 unfold ue at h
 split at h
 ·split at h
  ·rename_i xs e;exact⟨_,xs,_,rfl,rfl,e,h.1,h.2⟩
  ·exact h.elim
 ·exact h.elim
def Bh(r:V->List V->Hp->VK->Prop)(to:TE)(t:TA):TE:=fun σ H Q=>to σ H fun x H1=>(∃a xs,x= .ref a/\H1 a=some (.lst xs))/\t σ H1 fun xs H2=>r x xs H2 Q
def sP:nB:=fun o i v H Q=>match o,i with
 | .ref p,.int k=>match H p with
  |some (.lst xs)=>match ky xs.length k with
   |some j=>Q (upd H p (.lst (xs.set j v)))
   |none=>False
  |_=>False
 |_,_=>False
theorem nN:PSet X sP:=EA.imp fun o i v H Q h=>by
 unfold sP at h
 split at h
 ·split at h
  ·rename_i xs e
   split at h
   ·rename_i j ej;exact⟨_,xs,_,j,rfl,rfl,e,ej,h⟩
   ·exact h.elim
  ·exact h.elim
 ·exact h.elim
def sy:kC:=fun vs σ H Q=>match vs with
 |[]=>Q σ H
 |_=>False
def tM(t:TG)(u:kC):kC:=fun vs σ H Q=>match vs with
 |v::r=>t v σ H fun σ' H'=>u r σ' H' Q
 |[]=>False
theorem j6:PGs X [] sy:=DG.imp fun v σ H Q h=>by
 unfold sy at h
 split at h
 ·exact⟨rfl,h⟩
 ·exact h.elim
theorem jb{t:TG}{u:kC}(h1:PG X e t)(h2:PGs X es u)(hs:(assignEach (e::es) X.env).map (·.2)=assign e X.env::(assignEach es X.env).map (·.2):=by rfl):PGs X (e::es) (tM t u):=(Er h1 h2 hs).imp fun v σ H Q h=>by
 unfold tM at h
 split at h
 ·exact⟨_,_,rfl,h⟩
 ·exact h.elim
def sH(n:Nat)(t:kC):TG:=fun v σ H Q=>match v with
 | .ref a=>match H a with
  |some (.tup xs)=>xs.length=n/\t xs σ H Q
  |_=>False
 |_=>False
theorem j5{k:Nat}{t:kC}{n:Nat}(hc:X.calm=true)(h:PGs X es t)(hn:(assignEach es X.env).length=n:=by rfl)(hst:(assignEach es X.env).findIdx? (·.1)=none:=by rfl):PG X (.Tuple es k pos) (sH n t):=
 (Cp hc h hn hst).imp fun v σ H Q q=>by
  unfold sH at q
  split at q
  ·split at q
   ·rename_i xs e;exact⟨_,xs,rfl,SqT.of e,q.1,q.2⟩
   ·exact q.elim
  ·exact q.elim
def vC(f:Bool->Bool)(ty td:TE):TE:=fun σ H Q=>ty σ H fun y H1=>td σ H1 fun x H2=>match y,x with
 | .int n,.ref a=>match H2 a with
  |some (.dK kvs)=>Q (.bl (f (iT kvs (Sum.inl n:iq)).isSome)) H2
  |_=>False
 |_,_=>False
def Be(td ty:TE):TE:=fun σ H Q=>td σ H fun x H1=>ty σ H1 fun y H2=>match x,y with
 | .ref a,.int n=>match H2 a with
  |some (.dK kvs)=>match iT kvs (Sum.inl n:iq)with
   |some v=>Q v H2
   |none=>False
  |_=>False
 |_,_=>False
end
section
variable{X:Cx}{o i:Expr}{td ty:TE}{pos:Pos}
theorem xt{f:Bool->Bool}{H2:Hp}{Q:VK}{y x:V}(h:(match y,x with
  | .int n,.ref a=>match H2 a with
    |some (.dK kvs)=>Q (.bl (f (iT kvs (Sum.inl n:iq)).isSome)) H2
    |_=>False
  |_,_=>False)):∃a ov,x= .ref a/\DGet H2 a y ov/\Q (.bl (f ov.isSome)) H2:=by
  cases y<;>cases x<;>first
    |exact h.elim
    | (rename_i n a
       dsimp only at h
       split at h
       · rename_i kvs e;exact⟨a,_,rfl,DGet.k (k:=Sum.inl n) e,h⟩
       · exact h.elim)
theorem my(hu:X.A.units+1<cLine)(hi:PE X i ty)(ho:PE X o td):PC X .In i o (vC id ty td):=by
 intro pins s σ H Q I h
 refine ix (hi pins s σ H _ I h) fun iv s1 ⟨y,H1,I1,ry,q1⟩=>ix (ho pins s1 σ H1 _ I1 q1) fun u s2 ⟨x,H2,I2,rx,q2⟩=>?_
 obtain⟨a,ov,ex,g,q3⟩:=xt q2
 subst ex
 obtain rfl:u=Value.ref a:=rx
 exact Hv hu I2 g ry fun s' I3=>⟨.bl ov.isSome,H2,I3,rfl,q3⟩
theorem nz(hu:X.A.units+1<cLine)(hi:PE X i ty)(ho:PE X o td):PC X .NotIn i o (vC not ty td):=by
 intro pins s σ H Q I h
 refine ix (hi pins s σ H _ I h) fun iv s1 ⟨y,H1,I1,ry,q1⟩=>ix (ho pins s1 σ H1 _ I1 q1) fun u s2 ⟨x,H2,I2,rx,q2⟩=>?_
 obtain⟨a,ov,ex,g,q3⟩:=xt q2
 subst ex
 obtain rfl:u=Value.ref a:=rx
 exact Dc hu I2 g ry fun s' I3=>⟨.bl (!ov.isSome),H2,I3,rfl,q3⟩
theorem j4 (hu:X.A.units+1<cLine)(ho:PE X o td)(hi:PE X i ty)(hs:vM i):PE X (.Subscript o i pos) (Be td ty):=by
  intro pins s σ H Q I h
  refine yU PySem.F.slot_dict_getitem.lookup hs (ix (ho pins s σ H _ I h) fun u s1 ⟨x,H1,I1,rx,q1⟩=>ix (hi pins s1 σ H1 _ I1 q1) fun iv s2 ⟨y,H2,I2,ry,q2⟩=>?_)
  cases x <;>cases y<;>first
    |exact False.elim q2
    | (dsimp only at q2
       split at q2
       · rename_i kvs e
         split at q2
         · rename_i v ev
           cases rx
           have g:∀{a:Addr} {n:Int},H2 a=some (.dK kvs)->iT kvs (Sum.inl n:iq)=some v->DGet H2 a (.int n) (some v):=fun e1 e2=>e2▸DGet.k (k:=Sum.inl _) e1
           have g:=g e ev
           exact⟨AH I2 g,zX hu I2 g ry fun w' s3 I3 rw'=>⟨v,H2,I3,rw',q2⟩⟩
         · exact q2.elim
       · exact q2.elim)
theorem ka{e:Expr}{es:List Expr}{to:TE}{t:TA}{name:Str}{apos cpos:Pos}{id:String}{r:V->List V->Hp->VK->Prop}(pa:PlainAttrs "list")(slot:Slot "list" name id)(hty:typeOf (.builtin id)=pure (.type "method_descriptor"))(hm:MtR X id r)(ho:PE X o to)(ha:PA X (e::es) t)
  (hbase:attributeBase o name X.env (eval o X.env)=eval o X.env:=by rfl)
  (hfew:((backTo cpos (starEach (e::es) X.env)).all (fun x=>!x.1)&&(backToKw cpos (keywordEach [] X.env)).all (fun x=>x.1.isSome)
   &&decide ((e::es).length+([]:List Keyword).length+(if([]:List Keyword).isEmpty then 0 else 1)<30))=true:=by rfl)
  (hline:(apos.endLine==cpos.line)=true:=by rfl) (hs:starEach (e::es) X.env=(false,eval e X.env)::starEach es X.env:=by rfl) (hplain:(backTo cpos (starEach es X.env)).any (·.1)=false:=by rfl):
  PE X (.Call (.Attribute o name apos) (e::es) [] cpos) (Bh r to t):=by
 intro pins s σ H Q I h
 refine wpAny_Call_method_late hbase hfew hline rfl (ix (ho pins s σ H _ I h) fun v s1 ⟨x,H1,I1,r1,⟨a,xs,ex,ea⟩,q1⟩=>?_)
 subst ex
 obtain⟨h1,h2⟩:=x6 (T:="list") I1 r1 (.inl ⟨rfl,_,SqL.of ea⟩)
 refine⟨"list",id,pa,slot,hty,h1,h2,?_⟩
 have hA:=ha cpos pins s1 σ H1 _ I1 q1
 rw[hs]at hA ⊢
 refine c7 (by show(false||(backTo cpos (starEach es X.env)).any (·.1))=false;rw[hplain]<;>rfl) (fQ ?_)
 exact ix hA fun us s2 ⟨vs,H2,I2,r2,q2⟩=>hm pins s2 σ H2 _ vs v us Q I2 r1 r2 q2
end
inductive Kd where
 |non|bl|int|str|lst|tup|dct
 deriving DecidableEq
def Kd.nm:Kd->String
 | .non=>"NoneType"
 | .bl=>"bool"
 | .int=>"int"
 | .str=>"str"
 | .lst=>"list"
 | .tup=>"tuple"
 | .dct=>"dict"
def kd(H:Hp)(v:V):Option Kd:=match v with
 | .non=>some .non
 | .bl _=>some .bl
 | .int _=>some .int
 | .str _=>some .str
 | .ref a=>match H a with
  |some (.lst _)=>some .lst
  |some (.tup _)=>some .tup
  |some (.dK _)=>some .dct
  |_=>none
 |_=>none
def lO(a b:Kd):Bool:=match a,b with
 | .bl,.int=>true
 | .non,.non=>true
 | .bl,.bl=>true
 | .int,.int=>true
 | .str,.str=>true
 | .lst,.lst=>true
 | .tup,.tup=>true
 | .dct,.dct=>true
 |_,_=>false
theorem C1{H:Hp}{v:V}{k:Kd}(h:kd H v=some k):Knd H v k.nm:=by
 unfold kd at h
 split at h
 ·cases h;exact .non
 ·cases h;exact .bl
 ·cases h;exact .int
 ·cases h;exact .str
 ·split at h
  ·rename_i e;cases h;exact .lst e
  ·rename_i e;cases h;exact .tup e
  ·rename_i e;cases h;exact .dK e
  ·cases h
 ·cases h
theorem Hg(a b:Kd):vh a.nm b.nm=lO a b:=by cases a<;>cases b<;>rfl
theorem Kd.mem(b:Kd):b.nm∈lX:=by cases b<;>simp[lX,Kd.nm]
def vA(T:Kd):List V->Hp->VK->Prop:=fun vs H Q=>match vs with
 |[x,y]=>y= .ty T.nm/\match kd H x with
  |some k=>Q (.bl (lO k T)) H
  |none=>False
 |_=>False
theorem lF{X:Cx}(T:Kd):jc8 X (.builtin "isinstance") (vA T):=DZ.imp fun vs H Q h=>by
 unfold vA at h
 split at h
 ·obtain⟨rfl,h⟩:=h
  split at h
  ·rename_i k e
   exact⟨_,_,_,rfl,C1 e,Kd.mem T,by rw[Hg];exact h⟩
  ·exact h.elim
 ·exact h.elim
def vE(i:Nat)(te:TE)(ti:mi):TS:=fun D σ H=>match σ[i]? with
 |some (some x)=>te σ H fun y H1=>ti x y H1 fun z H2=>D.nx (σ.set i (some z)) H2
 |_=>False
theorem qI{X:Cx}{pos:Pos}{i:Nat}{x:Str}{e:Expr}{te:TE}{op:Operator}{ti:mi}{pos':Pos}(hN:X.N.Nodup)(hi:X.N[i]? =some x)(hx:Loc X.env.scope x)(he:PE X e te)(ho:oi X op ti)(hf:X.fn x=true\/X.env.scope.names.lookup x=some .local:=by first|exact .inl rfl|exact .inr rfl|assumption):
  PS X (.AugAssign (.Name x pos') op e pos) (vE i te ti):=fun pins s σ H D I h=>Ck hN hi hx he ho hf pins s σ H D I (by
 unfold vE at h
 split at h
 ·rename_i x e;exact⟨x,e,h⟩
 ·exact h.elim)
def A9(t:TE):TO:=fun σ H Q=>t σ H fun x H1=>match x with
 | .int i=>Q (some i) H1
 |_=>False
theorem nT{X:Cx}{e:Expr}{te:TE}(h:PE X e te):PO X (some e) (A9 te):=by
  intro pins s σ H Q I hw
  rw[evalPart_some]
  refine ix (h pins s σ H _ I hw) fun u s1 ⟨x,H1,I1,r1,q1⟩=>?_
  cases x<;>first
    |exact False.elim q1
    | (obtain⟨t,rfl⟩:=r1
       exact⟨some _,H1,I1,.int _ t,q1⟩)
def Hs(f:List Bool->Bool):List V->Hp->VK->Prop:=fun vs H Q=>match vs with
 |[.ref l]=>match H l with
  |some (.lst xs)=>∃bs:List Bool,xs=bs.map V.bl/\Q (.bl (f bs)) H
  |_=>False
 |_=>False
def tK:List V->Hp->VK->Prop:=fun vs H Q=>match vs with
 |[.ref l]=>match H l with
  |some (.lst xs)=>∃kvs:List (iq×V),Paired (PairAt H) xs kvs/\xs.length<=1000/\(kvs.map (·.1)).Nodup/\∀d,H d=none->Q (.ref d) (upd H d (.dK kvs))
  |_=>False
 |_=>False
theorem qS{X:Cx}(hc:X.calm=true):jc8 X (.type "dict") tK:=(FG hc).imp fun vs H Q h=>by
 unfold tK at h
 split at h
 ·split at h
  ·rename_i xs e
   obtain⟨kvs,h1,h2,h3,h4⟩:=h
   exact⟨_,xs,kvs,rfl,e,h1,h2,h3,h4⟩
  ·exact h.elim
 ·exact h.elim
def vy:R2:=fun x y H Q=>match x,y with
 | .ref a,.ref b=>match H a,H b with
  |some (.tup [.int i,.int j]),some (.tup [.int k,.int l])=>Q (.bl (HT.lexLt [i,j] [k,l])) H
  |_,_=>False
 |_,_=>False
theorem Cf{X:Cx}(hu:X.A.units<cLine):OpR X (compareOp .Lt) vy:=(Cy hu).imp fun x y H Q h=>by
 unfold vy at h
 split at h
 ·split at h
  ·rename_i a b _ _ i j k l e1 e2
   exact⟨a,b,[i,j],[k,l],rfl,rfl,SqT.of e1,SqT.of e2,h⟩
  ·exact h.elim
 ·exact h.elim
def pM(XN:List Str)(names:List (Str×NameKind)):List Str->List (Option Nat)->Bool
 |[],[]=>true
 |x::N,none::r=>pM XN names N r
 |x::N,some j::r=>(XN[j]? ==some x)&&(names.lookup x==some .free)&&pM XN names N r
 |_,_=>false
theorem ud{XN:List Str}{names:List (Str×NameKind)}:∀{N:List Str} {src:List (Option Nat)},pM XN names N src=true->src.length=N.length/\∀(i j:Nat),src[i]? =some (some j)->XN[j]? =N[i]?/\(N[i]?).elim False (fun x=>names.lookup x=some .free)
 |[],[],_=>⟨rfl,fun i j e=>by simp at e⟩
 |x::N,none::r,h=>by
  obtain⟨h1,h2⟩:=ud (N:=N) (src:=r) h
  refine⟨by simp[h1],fun i j e=>?_⟩
  cases i with
  |zero=>simp at e
  |succ i=>exact h2 i j (by simpa using e)
 | x::N,some k::r,h=>by
  have h':((XN[k]? ==some x)&&(names.lookup x==some .free)&&pM XN names N r)=true:=h
  rw[cq,cq]at h'
  obtain⟨h1,h2⟩:=ud (N:=N) (src:=r) h'.2
  refine⟨by simp[h1],fun i j e=>?_⟩
  cases i with
  |zero=>
   have e':k=j:=by simpa using e
   subst e'
   exact⟨by simpa using h'.1.1,by simpa using h'.1.2⟩
  |succ i=>exact h2 i j (by simpa using e)
def qD:List Str->Bool
 |[]=>true
 |x::r=>!(r.contains x)&&qD r
theorem jc:∀{l:List Str},qD l=true->l.Nodup
 |[],_=>eN
 |x::r,h=>by
  have h':(!(r.contains x)&&qD r)=true:=h
  rw[cq]at h'
  exact bz.mpr ⟨by simpa using h'.1,jc h'.2⟩
def Bo(XN:List Str)(outer:List (Str×NameKind))(scope:Scope)(N:List Str)(src:List (Option Nat)):Bool:=
 (scope.kind== .function)&&scope.names.all (fun y=>y.2 != .cell)&&scope.names.all (fun y=>y.2 != .local||scope.names.lookup y.1==some .local)&&
  scope.names.all (fun y=>y.2 != .free||(scope.names.lookup y.1==some .free&&outer.lookup y.1==some .cell))&&qD N&&pM XN scope.names N src
theorem CpScope.of{X:Cx}{scope:Scope}{N:List Str}{src:List (Option Nat)}(h:Bo X.N X.env.scope.names scope N src=true):CpScope X scope N src:=by
 unfold Bo at h
 simp only[cq]at h
 obtain⟨⟨⟨⟨⟨h1,h2⟩,h3⟩,h4⟩,h5⟩,h6⟩:=h
 rw[gP]at h2 h3 h4
 obtain⟨l,c⟩:=ud h6
 refine⟨by simpa using h1,fun y hy=>by simpa using h2 y hy,fun y hy e=>?_,fun y hy e=>?_,jc h5,l,c⟩
 ·have:=h3 y hy
  rw[e]at this
  simpa using this
 ·have:=h4 y hy
  rw[e]at this
  simpa using this
theorem zf{K:PySem.W.Frag}{a:Addr}{xs:List V}{g:TG}{tb:TS}{D:Ends}{σ:St}{H:Hp}(Pv:Nat->St->Hp->Prop)(h0:Pv 0 σ H)(hl:∀i σ H,i<=xs.length->Pv i σ H->SqL K H a xs)
  (hs:∀i x σ H t,xs[i]? =some x->Pv i σ H->H t=none->g (.ref t) σ (upd H t (.tup [.int i,x])) fun σ2 H2=>tb {D with nx:=Pv (i+1),ct:=Pv (i+1),bk:=D.nx} σ2 H2) (hd:∀σ H,Pv xs.length σ H->D.nx σ H):
  ∃W:Nat->Nat->St->Hp->Prop,(∃m,W 0 m σ H)/\∀i m σ H,W i m σ H->
   ((oj K a).stop i H/\D.nx σ H)\/((oj K a).go i H/\∃N:St->Hp->Prop,(∀σ' H',N σ' H'->∃m',m'<m/\W (i+1) m' σ' H')/\∀x H',(oj K a).yld i H x H'->g x σ H' fun σ2 H2=>tb {D with nx:=N,ct:=N,bk:=D.nx} σ2 H2):=by
 refine⟨fun i m σ H=>m=xs.length-i/\i<=xs.length/\Pv i σ H,⟨xs.length,by simp,bw _,h0⟩,?_⟩
 rintro i m σ H ⟨rfl,hi,p⟩
 have q:=hl i σ H hi p
 by_cases hlt:i<xs.length
 ·refine .inr ⟨⟨xs,xs[i],q,by simp[hlt]⟩,Pv (i+1),fun σ' H' p'=>⟨xs.length-(i+1),by lia,rfl,hlt,p'⟩,fun x H' y=>?_⟩
  obtain⟨t,z,ht,e1,e2,y⟩:=y
  subst e1 e2
  exact hs i z σ _ t (y xs q) p ht
 ·have e:i=xs.length:=by lia
  subst e
  exact .inl ⟨⟨xs,q,au _⟩,hd σ H p⟩
theorem j7{wi:TI}{g:TG}{tb:TS}{D:Ends}{σ:St}{H:Hp}(J:It)(H1:Hp)(h1:∀R:It->Hp->Prop,R J H1->wi σ H R)
  (h2:∃W:Nat->Nat->St->Hp->Prop,(∃m,W 0 m σ H1)/\∀i m σ H,W i m σ H->(J.stop i H/\D.nx σ H)\/(J.go i H/\∃N:St->Hp->Prop,(∀σ' H',N σ' H'->∃m',m'<m/\W (i+1) m' σ' H')/\∀x H',J.yld i H x H'->g x σ H' fun σ2 H2=>tb {D with nx:=N,ct:=N,bk:=D.nx} σ2 H2)):
  pY wi g tb D σ H:=h1 _ h2
theorem jS{src:List (Option Nat)}{wi:TI}{g:TG}{tc:TT}{te:TE}{Q:VK}{σ:St}{H:Hp}(J:It)(H1:Hp)(h1:∀R:It->Hp->Prop,R J H1->wi σ H R)(h2:∀l,H1 l=none->oz J src g tc te Q σ H1 l):qw src wi g tc te σ H Q:=h1 _ h2
theorem iy{H:Hp}{p:Addr}(h:H p=none)(o:HO):Same H (upd H p o):=fun b u q=>by rw[ir (iC q h)];exact q
theorem i4{H H':Hp}{p:Addr}{o:HO}(s:Same H H')(h:H p=none):Same H (upd H' p o):=fun b u q=>by rw[ir (iC q h)];exact s b u q
def Pr(H:Hp)(v:V)(p:Int×Int):Prop:=∃t,v= .ref t/\H t=some (.tup [.int p.1,.int p.2])
theorem Pr.same{H H':Hp}{v:V}{p:Int×Int}(h:Pr H v p)(s:Same H H'):Pr H' v p:=let⟨t,e,q⟩:=h;⟨t,e,s _ _ q⟩
def sV:HO->Bool
 | .tup _=>true
 | .frz _ _=>true
 |_=>false
def TupS(H H':Hp):Prop:=∀b o,sV o=true->H b=some o->H' b=some o
theorem Same.tups{H H':Hp}(s:Same H H'):TupS H H':=fun b o _ q=>s b _ q
theorem TupS.trans{H H1 H2:Hp}(a:TupS H H1)(b:TupS H1 H2):TupS H H2:=fun c o i q=>b c o i (a c o i q)
theorem kI{H:Hp}{l:Addr}{xs ys:List V}(h:H l=some (.lst xs)):TupS H (upd H l (.lst ys)):=fun b o i q=>by
 have:b≠l:=fun z=>by rw[z,h]at q;cases q;cases i
 rw[ir this]
 exact q
theorem rA{H:Hp}{l:Addr}{o:HO}(h:H l=none):TupS H (upd H l o):=(iy h o).tups
theorem Pr.tups{H H':Hp}{v:V}{p:Int×Int}(h:Pr H v p)(s:TupS H H'):Pr H' v p:=let⟨t,e,q⟩:=h;⟨t,e,s _ _ rfl q⟩
def Scr(K:PySem.W.Frag)(H:Hp)(a:Addr)(ns:List Int):Prop:=
 (∃o,H a=some (.frz o (.lst (ns.map V.int))))\/∃(o:Obj) (its:Array Value) (n:Nat),K.lookup a=some o/\o.cls= .type "list"/\o.dict=none/\o.data= .seq its n/\its.size<=sizeLine/\Vals (ns.map V.int) its.toList
theorem Scr.sq{K:PySem.W.Frag}{H:Hp}{a:Addr}{ns:List Int}(h:Scr K H a ns):SqL K H a (ns.map V.int):=h.elim (fun⟨o,q⟩=>.inl (.inr ⟨o,q⟩)) .inr
theorem Scr.of{K:PySem.W.Frag}{H:Hp}{a:Addr}{ns:List Int}(h:SqL K H a (ns.map V.int))(o:rW H):Scr K H a ns:=by
 rcases h with(h|⟨ob,h⟩)|h
 ·rcases o a with z|⟨ob,xs,z⟩
  ·rw[h]at z;cases z
  ·rw[h]at z;cases z
 ·exact .inl ⟨ob,h⟩
 ·exact .inr h
theorem Scr.tups{K:PySem.W.Frag}{H H':Hp}{a:Addr}{ns:List Int}(h:Scr K H a ns)(s:TupS H H'):Scr K H' a ns:=h.elim (fun⟨o,q⟩=>.inl ⟨o,s _ _ rfl q⟩) .inr
abbrev Prs(H:Hp):List V->List (Int×Int)->Prop:=Paired (Pr H)
theorem Prs.tups{H H':Hp}(s:TupS H H'){xs:List V}{ps:List (Int×Int)}(h:Prs H xs ps):Prs H' xs ps:=Paired.mapP h fun _ _ q=>q.tups s
theorem Prs.same{H H':Hp}(s:Same H H'){xs:List V}{ps:List (Int×Int)}(h:Prs H xs ps):Prs H' xs ps:=Prs.tups s.tups h
theorem j1{α β:Type}{F:α->β->Prop}:∀{xs:List α} {ys:List β} {i:Nat} {x:α},Paired F xs ys->xs[i]? =some x->∃y,ys[i]? =some y/\F x y
 |_,_,_,_,.nil,e=>by simp at e
 |_,_,0,_,.cons r _,e=>by simp at e;subst e;exact⟨_,rfl,r⟩
 |_,_,i+1,y,.cons _ t,e=>by
  obtain⟨u,h1,h2⟩:=j1 (i:=i) t (by simpa using e)
  exact⟨u,by simpa using h1,h2⟩
theorem lN{α β:Type}{F:α->β->Prop}:∀{xs:List α} {ys:List β} {i:Nat} {y:β},Paired F xs ys->ys[i]? =some y->∃x,xs[i]? =some x/\F x y
 |_,_,_,_,.nil,e=>by simp at e
 |_,_,0,_,.cons r _,e=>by simp at e;subst e;exact⟨_,rfl,r⟩
 |_,_,i+1,y,.cons _ t,e=>by
  obtain⟨u,h1,h2⟩:=lN (i:=i) t (by simpa using e)
  exact⟨u,by simpa using h1,h2⟩
theorem ma{α β:Type}{F:α->β->Prop}{a:α}{b:β}{l₁:List α}{l₂:List β}(h:Paired F l₁ l₂)(r:F a b):Paired F (l₁++[a]) (l₂++[b]):=Paired.snoc h r
theorem ze{α:Type}{l:List α}{i:Nat}{x:α}(h:l[i]? =some x):l.drop i=x::l.drop (i+1):=by
 obtain⟨h1,h2⟩:=ah.mp h
 rw[List.drop_eq_getElem_cons h1,h2]
theorem jy{α:Type}{l:List α}{i:Nat}{x:α}(h:l[i]? =some x):l.take (i+1)=l.take i++[x]:=by
 obtain⟨h1,h2⟩:=ah.mp h
 rw[List.take_succ,h]
 rfl
inductive Dt where
 |non
 |bl (b:Bool)
 |int (i:Int)
 |str (x:Str)
 |tup (ds:List Dt)
 |lst (ds:List Dt)
mutual
def Rep(H:Hp):Dt->V->Prop
 | .non,v=>v= .non
 | .bl b,v=>v= .bl b
 | .int i,v=>v= .int i
 | .str x,v=>v= .str x
 | .tup ds,v=>∃a vs,v= .ref a/\H a=some (.tup vs)/\Reps H ds vs
 | .lst ds,v=>∃a vs,v= .ref a/\H a=some (.lst vs)/\Reps H ds vs
def Reps(H:Hp):List Dt->List V->Prop
 |[],vs=>vs=[]
 |d::ds,vs=>∃v r,vs=v::r/\Rep H d v/\Reps H ds r
end
mutual
theorem Rep.same{H H':Hp}(s:Same H H'):∀(d:Dt) {v:V},Rep H d v->Rep H' d v
 | .non,_,h=>by rw[Rep]at*;exact h
 | .bl _,_,h=>by rw[Rep]at*;exact h
 | .int _,_,h=>by rw[Rep]at*;exact h
 | .str _,_,h=>by rw[Rep]at*;exact h
 | .tup ds,_,h=>by
  rw[Rep]at*
  obtain⟨a,vs,e,q,r⟩:=h
  exact⟨a,vs,e,s _ _ q,Reps.same s ds r⟩
 | .lst ds,_,h=>by
  rw[Rep]at*
  obtain⟨a,vs,e,q,r⟩:=h
  exact⟨a,vs,e,s _ _ q,Reps.same s ds r⟩
theorem Reps.same{H H':Hp}(s:Same H H'):∀(ds:List Dt) {vs:List V},Reps H ds vs->Reps H' ds vs
 |[],_,h=>by rw[Reps]at*;exact h
 |d::ds,_,h=>by
  rw[Reps]at*
  obtain⟨v,r,e,h1,h2⟩:=h
  exact⟨v,r,e,Rep.same s d h1,Reps.same s ds h2⟩
end
theorem Reps.len{H:Hp}:∀{ds:List Dt} {vs:List V},Reps H ds vs->vs.length=ds.length
 |[],_,h=>by rw[Reps]at h;subst h;rfl
 |d::ds,_,h=>by
  rw[Reps]at h
  obtain⟨v,r,e,h1,h2⟩:=h
  rw[e,List.length_cons,List.length_cons,Reps.len h2]
theorem Reps.at{H:Hp}:∀{ds:List Dt} {vs:List V} {i:Nat} {v:V},Reps H ds vs->vs[i]? =some v->∃d,ds[i]? =some d/\Rep H d v
 |[],_,i,v,h,e=>by rw[Reps]at h;rw[h]at e;simp at e
 | d::ds,_,i,v,h,e=>by
  rw[Reps]at h
  obtain⟨w,r,e1,h1,h2⟩:=h
  subst e1
  cases i with
  |zero=>simp at e;subst e;exact⟨d,rfl,h1⟩
  |succ i=>
   obtain⟨d',q1,q2⟩:=Reps.at h2 (i:=i) (by simpa using e)
   exact⟨d',by simpa using q1,q2⟩
def jY(p:Int×Int):Dt:=.tup [.int p.1,.int p.2]
theorem Pr.rep{H:Hp}{v:V}{p:Int×Int}(h:Pr H v p):Rep H (jY p) v:=by
 obtain⟨t,e,q⟩:=h
 rw[jY,Rep]
 refine⟨t,_,e,q,?_⟩
 rw[Reps]
 refine⟨_,_,rfl,(by rw[Rep]),?_⟩
 rw[Reps]
 exact⟨_,_,rfl,(by rw[Rep]),(by rw[Reps])⟩
theorem Prs.reps{H:Hp}:∀{xs:List V} {ps:List (Int×Int)},Prs H xs ps->Reps H (ps.map jY) xs
 |_,_,.nil=>by rw[bV,Reps]
 |_,_,.cons r t=>by rw[aw,Reps];exact⟨_,_,rfl,r.rep,Prs.reps t⟩
theorem mG{H:Hp}:∀(ns:List Int),Reps H (ns.map Dt.int) (ns.map V.int)
 |[]=>by rw[bV,Reps,bV]
 |n::r=>by rw[aw,Reps,aw];exact⟨_,_,rfl,(by rw[Rep]),mG r⟩
def vw:List V->Hp->VK->Prop:=fun vs H Q=>match vs with
 |[.int i,.int j]=>Q (.int (if i<j then j else i)) H
 |_=>False
theorem wO{X:Cx}(hc:X.calm=true):jc8 X (.builtin "max") vw:=(EL hc).imp fun vs H Q h=>by
 unfold vw at h
 split at h
 ·refine⟨_,_,rfl,?_⟩
  first|exact h|(rename_i i j;by_cases c:i<j<;>simp_all)
 ·exact h.elim
def pL(neg:Bool):R2:=fun x y H Q=>match y with
 | .ref p=>match iD H p with
  |some xs=>j3 x=true/\xs.all j3=true/\Q (.bl (if neg=true then !lP x xs else lP x xs)) H
  |none=>False
 |_=>False
theorem xu{K:PySem.W.Frag}{neg:Bool}{x y:V}{H:Hp}{Q:VK}(h:pL neg x y H Q):sg K neg x y H Q:=by
 unfold pL at h
 split at h
 ·split at h
  ·rename_i xs e
   obtain⟨h1,h2,h3⟩:=h
   exact⟨_,xs,rfl,rp e,h1,h2,h3⟩
  ·exact h.elim
 ·exact h.elim
theorem qp{X:Cx}:OpR X (compareOp .In) (pL false):=Fj.imp fun _ _ _ _=>xu
theorem rj{X:Cx}:OpR X (compareOp .NotIn) (pL true):=GA.imp fun _ _ _ _=>xu
theorem n5(ns:List Int):(ns.map V.int).all j3=true:=by
 rw[gP]
 intro v hv
 obtain⟨n,_,e⟩:=aE.mp hv
 rw [<- e]
 rfl
theorem nV(n:Int)(ns:List Int):lP (.int n) (ns.map V.int)=decide (n∈ns):=by
 rw[c9,lP,gO,gc]
 constructor
 ·rintro⟨v,hv,e⟩
  obtain⟨m,hm,e2⟩:=aE.mp hv
  subst e2
  have:m=n:=by simpa[kJ]using e
  rw [<- this]
  exact hm
 ·intro h
  exact⟨.int n,aW h,by simp[kJ]⟩
theorem z8{P:Program}{w:World}:∀{kvs:List (iq×V)} {vs:List (iq×Value)} {ns:List Int},KV kvs vs->kvs.map (·.1)=ns.map Sum.inl->∀{us:List Value},us.length=vs.length->(∀(j:Nat) (v:Value),us[j]? =some v->∃k x,vs[j]? =some (k,x)/\(jH P w).is k v=true)->IntsAre us ns
 | [],_,ns,.nil,hk,us,hl,_=>by
  cases ns with
  |nil=>cases us with
   |nil=>exact .nil
   |cons _ _=>simp at hl
  |cons _ _=>simp at hk
 | kv::kvs,_,ns,.cons (b:=b) r t,hk,us,hl,hv=>by
  cases ns with
  |nil=>simp at hk
  | cons n ns=>
   cases us with
   |nil=>simp at hl
   | cons u us=>
    rw[aw,aw]at hk
    injection hk with hk1 hk2
    obtain⟨k,x,e1,e2⟩:=hv 0 u rfl
    simp only[List.getElem?_cons_zero,cO]at e1
    have hkn:k = Sum.inl n:=by rw [<- hk1,r.1,e1]
    rw[hkn]at e2
    rcases lz (show mq (Sum.inl n) u=true from e2)with⟨i,t',ei,ev⟩|⟨y,t',ei,ev⟩
    ·cases ei
     rw[ev]
     refine .cons n t' (z8 (P:=P) (w:=w) t hk2 (by simpa using hl) fun j v hj=>?_)
     obtain⟨k',x',z1,z2⟩:=hv (j+1) v (by simpa using hj)
     exact⟨k',x',by simpa using z1,z2⟩
    ·cases ei
def BZ:List V->Hp->VK->Prop:=fun vs H Q=>∃(p:Addr) (kvs:List (iq×V)) (ns:List Int),vs=[.ref p]/\H p=some (.dK kvs)/\kvs.map (·.1)=ns.map Sum.inl/\ns.length<64/\
 ∀(l:Addr) (ms:List Int),H l=none->ms.Perm ns->ms.Pairwise (·<=·)->Q (.ref l) (upd H l (.lst (ms.map V.int)))
theorem Ao{X:Cx}(hc:X.calm=true):jc8 X (.builtin "sorted") BZ:=by
 intro pins s σ H xs us Q I r h
 obtain⟨p,kvs,ns,rfl,e,hk,h64,q⟩:=h
 obtain⟨u,rfl,rx⟩:=lI r
 cases rx
 obtain⟨z,lo,vs',rel,dd⟩:=mS I.hok e
 obtain⟨ep,hat⟩:=dd.dictAt
 have hkl:=rel.length
 refine Calls.call_function_entry kind_sorted plain_sorted entry_sorted (args_sorted1 _) ?_
 unfold Builtin.«sorted»
 refine aa (m:=checkCount "sorted" 1 1 _) (av ?_)
 refine aa (PySem.W.kdu_collect (PySem.W.kdl_dict (knd:=jH X.prog X.w) (kvs:=vs') (ep:=ep) lo) (I.ok.hd hc) hat (by lia) fun h' tk acc hkp hacc=>?_)
 have hl:acc.toList.length=vs'.length:=by rw[Array.length_toList];exact hacc.1
 have hI:IntsAre acc.toList ns:=z8 rel hk hl fun j v ej=>hacc.2 j v (by rw [<- cL]; exact ej)
 have hnl:ns.length=kvs.length:=by
  have:=bN List.length hk
  simpa using this.symm
 refine aa (eX ?_ (by lia))
 have hoL:(h'.push (seqObj "list" acc.toList.toArray 0)).get? h'.objs.size=some (seqObj "list" acc.toList.toArray 0):=aJ _ rfl
 show wpAny _ _ _ _ _ {s with heap:=h'.push (seqObj "list" acc.toList.toArray 0),toks:=tk}
 refine aa (bX (cZ slot_list_sort ⟨_,hoL,rfl⟩ entry_list_sort (list_sort_tree hoL hI (by lia) fun out ms a1 a2 a3=>⟨_,rfl,?_⟩) (args_list_sort _)))
 refine av ⟨_,rfl,?_⟩
 have hlt:∀b o,h'.get? b=some o->b<h'.objs.size:=fun b o eb=>aI eb
 have kp:∀b o,h'.get? b=some o->(sortedHeap (h'.push (seqObj "list" acc.toList.toArray 0)) h'.objs.size acc.toList out).get? b=some o:=fun b o eb=>by
  rw[sortedHeap_old (aX (hlt b o eb)) (by rw[fw];exact cX (hlt b o eb)),Heap.get?_push_ne _ _ _ (aX (hlt b o eb))]
  exact eb
 obtain⟨c,hcc⟩:=sortedHeap_at (out:=out) hoL
 have hml:=a2.length_eq
 have I1:Inv X pins σ H {s with heap:=h',toks:=tk}:=I.kept hkp
 refine⟨.ref h'.objs.size,_,I1.laid (t':=tk) kp (au _) (show jbm X.prog X.w _ _ _ (.lst (ms.map V.int))from⟨?_,out.toList,c,uX a1,?_⟩),rfl,q _ ms (I1.hok.fresh (au _)) a2 a3⟩
 ·rw[ae,hml];exact bo (fF h64) (by decide)
 ·rw[hcc]
mutual
def iX:Dt->Dt->Bool
 | .non,.non=>true
 | .bl a,.bl b=>a==b
 | .bl a,.int b=>(if a then 1 else 0)==b
 | .int a,.bl b=>a==(if b then 1 else 0)
 | .int a,.int b=>a==b
 | .str a,.str b=>a==b
 | .tup a,.tup b=>kB a b
 | .lst a,.lst b=>kB a b
 |_,_=>false
def kB:List Dt->List Dt->Bool
 |[],[]=>true
 |a::r,b::t=>iX a b&&kB r t
 |_,_=>false
end
mutual
def jn:Dt->Nat
 | .tup a=>jd a+1
 | .lst a=>jd a+1
 |_=>0
def jd:List Dt->Nat
 |[]=>0
 |a::r=>max (jn a) (jd r)
end
def kL(a b:List Dt)(j:Nat):Bool:=match a[j]?,b[j]? with
 |some x,some y=>iX x y
 |_,_=>false
theorem ny:∀{a b:List Dt},a.length≠b.length->kB a b=false
 |[],[],h=>absurd rfl h
 |[],_::_,_=>by simp[kB]
 |_::_,[],_=>by simp[kB]
 |x::a,y::b,h=>by
  rw[kB,ny (by simpa using h),eP]
theorem Fw:∀(n:Nat) (f:Nat->Bool),(List.range (n+1)).all f=(f 0&&(List.range n).all fun j=>f (j+1)):=fun n f=>by
 rw[List.range_succ_eq_map,List.all_cons,List.all_map]
 rfl
theorem n8:∀{a b:List Dt},a.length=b.length->kB a b=(List.range a.length).all (kL a b)
 |[],[],_=>by rw[kB];rfl
 |[],_::_,h=>by simp at h
 |_::_,[],h=>by simp at h
 |x::a,y::b,h=>by
  rw[kB,n8 (a:=a) (b:=b) (by simpa using h),List.length_cons,Fw]
  rfl
theorem ra:∀{a:List Dt} {j:Nat} {d:Dt},a[j]? =some d->jn d<=jd a
 |[],_,_,h=>by simp at h
 |x::a,0,d,h=>by
  simp at h;subst h
  rw[jd];lia
 |x::a,j+1,d,h=>by
  have:=ra (a:=a) (j:=j) (by simpa using h)
  rw[jd];lia
def jT:Dt->Option V
 | .non=>some .non
 | .bl b=>some (.bl b)
 | .int i=>some (.int i)
 | .str x=>some (.str x)
 |_=>none
theorem D8{d e:Dt}{x y:V}(hd:jT d=some x)(he:jT e=some y):iX d e=kJ x y:=by
 cases d<;>cases e<;>simp only[jT,cO,reduceCtorEq]at hd he<;>subst hd<;>subst he<;>simp[iX,kJ]
theorem uK{H:Hp}{d:Dt}{x v:V}(hd:jT d=some x)(h:Rep H d v):v=x/\j3 x=true:=by
 cases d<;>simp only[jT,cO,reduceCtorEq]at hd<;>subst hd<;>rw[Rep]at h<;>exact⟨h,rfl⟩
section
variable{X:Cx}{pins:List (Addr×Obj)}{σ:St}{H:Hp}{s:Shared}
theorem Inv.tupE(I:Inv X pins σ H s){a:Addr}{vs:List V}(e:H a=some (.tup vs)):∃its:List Value,Vals vs its/\s.heap.IsTuple a its.toArray:=by
 obtain⟨its,r,p,_⟩:=I.tuple (SqT.of e)
 exact⟨its,r,p⟩
theorem Inv.lstE(I:Inv X pins σ H s){a:Addr}{vs:List V}(e:H a=some (.lst vs)):∃its:List Value,Vals vs its/\s.heap.IsList a its.toArray:=by
 obtain⟨its,r,p,_⟩:=I.list (SqL.of e)
 exact⟨its,r,p.isList⟩
mutual
theorem kn:∀d:Dt,iX d d=true
 | .non=>by simp[iX]
 | .bl _=>by simp[iX]
 | .int _=>by simp[iX]
 | .str _=>by simp[iX]
 | .tup a=>by rw[iX];exact uS a
 | .lst a=>by rw[iX];exact uS a
theorem uS:∀a:List Dt,kB a a=true
 |[]=>by rw[kB]
 |d::r=>by rw[kB,kn d,uS r];rfl
end
mutual
theorem Rep.inj{H:Hp}:∀{d e:Dt} {v:V},Rep H d v->Rep H e v->d=e
 | .non,e,v,h1,h2=>by rw[Rep]at h1;subst h1;cases e<;>simp[Rep]at h2 ⊢
 | .bl _,e,v,h1,h2=>by rw[Rep]at h1;subst h1;cases e<;>simp[Rep]at h2 ⊢;exact h2
 | .int _,e,v,h1,h2=>by rw[Rep]at h1;subst h1;cases e<;>simp[Rep]at h2 ⊢;exact h2
 | .str _,e,v,h1,h2=>by rw[Rep]at h1;subst h1;cases e<;>simp[Rep]at h2 ⊢;exact h2
 | .tup ds,e,v,h1,h2=>by
  rw[Rep]at h1
  obtain⟨a,vs,rfl,q,r⟩:=h1
  cases e with
  |tup es=>
   rw[Rep]at h2
   obtain⟨a',vs',e',q',r'⟩:=h2
   cases e'
   rw[q]at q';cases q'
   rw[Reps.inj r r']
  |lst es=>
   rw[Rep]at h2
   obtain⟨a',vs',e',q',r'⟩:=h2
   cases e'
   rw[q]at q';cases q'
  |non=>rw[Rep]at h2;cases h2
  |bl _=>rw[Rep]at h2;cases h2
  |int _=>rw[Rep]at h2;cases h2
  |str _=>rw[Rep]at h2;cases h2
 | .lst ds,e,v,h1,h2=>by
  rw[Rep]at h1
  obtain⟨a,vs,rfl,q,r⟩:=h1
  cases e with
  |lst es=>
   rw[Rep]at h2
   obtain⟨a',vs',e',q',r'⟩:=h2
   cases e'
   rw[q]at q';cases q'
   rw[Reps.inj r r']
  |tup es=>
   rw[Rep]at h2
   obtain⟨a',vs',e',q',r'⟩:=h2
   cases e'
   rw[q]at q';cases q'
  |non=>rw[Rep]at h2;cases h2
  |bl _=>rw[Rep]at h2;cases h2
  |int _=>rw[Rep]at h2;cases h2
  |str _=>rw[Rep]at h2;cases h2
theorem Reps.inj{H:Hp}:∀{ds es:List Dt} {vs:List V},Reps H ds vs->Reps H es vs->ds=es
 |[],es,vs,h1,h2=>by
  rw[Reps]at h1;subst h1
  cases es with
  |nil=>rfl
  |cons e es=>rw[Reps]at h2;obtain⟨_,_,z,_⟩:=h2;cases z
 | d::ds,es,vs,h1,h2=>by
  rw[Reps]at h1
  obtain⟨v,r,rfl,q1,q2⟩:=h1
  cases es with
  |nil=>rw[Reps]at h2;cases h2
  |cons e es=>
   rw[Reps]at h2
   obtain⟨v',r',z,p1,p2⟩:=h2
   cases z
   rw[Rep.inj q1 p1,Reps.inj q2 p2]
end
theorem AQ{d e:Dt}(hd:jT d=none){y:V}(he:jT e=some y):iX d e=false/\iX e d=false:=by
 cases d<;>cases e<;>simp only[jT,cO,reduceCtorEq]at hd he<;>simp[iX]
theorem xm:∀(n:Nat) {A:Around} (I:Inv X pins σ H s) {d e:Dt} {x y:V} {u v:Value},jn d<=n->A.units+n<cLine->Rep H d x->Rep H e y->RelV x u->RelV y v->SeqAt.EqAt A s u v (iX d e):=by
 intro n
 induction n with
 | zero=>
  intro A I d e x y u v hn hu rd re rx ry
  have hf:∃z,jT d=some z:=by
   cases d<;>simp only[jn,jT]at hn ⊢ <;>first|exact⟨_,rfl⟩|lia
  obtain⟨z,hz⟩:=hf
  obtain⟨rfl,fz⟩:=uK hz rd
  cases he:jT e with
  |some y'=>
   obtain⟨rfl,fy⟩:=uK he re
   rw[D8 hz he]
   exact xo rx ry fz fy
  | none=>
   rw[(AQ he hz).2]
   have hu0:A.units<cLine:=by lia
   cases e<;>simp only[jT,reduceCtorEq]at he
   ·rw[Rep]at re
    obtain⟨a,vs,rfl,q,_⟩:=re
    cases ry
    obtain⟨its,_,p⟩:=I.tupE q
    cases d<;>simp only[jT,cO,reduceCtorEq]at hz<;>subst hz
    ·cases rx;exact SeqAt.EqAt.none_tuple p hu0
    ·cases rx;exact SeqAt.EqAt.bool_tuple _ p hu0
    ·obtain⟨t,rfl⟩:=rx;exact SeqAt.EqAt.int_tuple _ _ p hu0
    ·obtain⟨t,rfl⟩:=rx;exact SeqAt.EqAt.str_tuple _ _ p hu0
   ·rw[Rep]at re
    obtain⟨a,vs,rfl,q,_⟩:=re
    cases ry
    obtain⟨its,_,p⟩:=I.lstE q
    cases d<;>simp only[jT,cO,reduceCtorEq]at hz<;>subst hz
    ·cases rx;exact SeqAt.EqAt.none_list p hu0
    ·cases rx;exact SeqAt.EqAt.bool_list _ p hu0
    ·obtain⟨t,rfl⟩:=rx;exact SeqAt.EqAt.int_list _ _ p hu0
    ·obtain⟨t,rfl⟩:=rx;exact SeqAt.EqAt.str_list _ _ p hu0
 | succ n ih=>
  intro A I d e x y u v hn hu rd re rx ry
  have hu0:A.units<cLine:=by lia
  have items:∀{ds es:List Dt} {vs ws:List V} {its its2:List Value},jd ds<=n->Reps H ds vs->Reps H es ws->Vals vs its->Vals ws its2->
    ∀j (h1:j<its.toArray.size) (h2:j<its2.toArray.size),SeqAt.EqAt A.in1 s its.toArray[j] its2.toArray[j] (kL ds es j):=by
   intro ds es vs ws its its2 hdp r1 r2 w1 w2 j h1 h2
   rw[aq]at h1 h2
   have l1:=w1.length
   have l2:=w2.length
   obtain⟨u',e1,q1⟩:=w1.get (i:=j) (x:=vs[j]'(by lia)) (gE _)
   obtain⟨v',e2,q2⟩:=w2.get (i:=j) (x:=ws[j]'(by lia)) (gE _)
   obtain⟨d',f1,g1⟩:=r1.at (i:=j) (gE (by lia))
   obtain⟨e',f2,g2⟩:=r2.at (i:=j) (gE (by lia))
   rw[gE h1]at e1
   rw[gE h2]at e2
   cases e1;cases e2
   have hj:kL ds es j=iX d' e':=by unfold kL;rw[f1,f2]
   rw[hj]
   have:=ra f1
   exact ih (A:=A.in1) I (by lia) (by show A.units+1+n<cLine;lia) g1 g2 q1 q2
  cases hf:jT d with
  |some z=>
   refine ih I ?_ (by lia) rd re rx ry
   cases d<;>simp only[jT,reduceCtorEq]at hf<;>simp[jn]
  | none =>
   cases he:jT e with
   | some y'=>
    rw[(AQ hf he).1]
    obtain⟨rfl,fy⟩:=uK he re
    cases d<;>simp only[jT,reduceCtorEq]at hf
    ·rw[Rep]at rd
     obtain⟨a,vs,rfl,q,_⟩:=rd
     cases rx
     obtain⟨its,_,p⟩:=I.tupE q
     cases e<;>simp only[jT,cO,reduceCtorEq]at he<;>subst he
     ·cases ry;exact SeqAt.EqAt.tuple_none p hu0
     ·cases ry;exact SeqAt.EqAt.tuple_bool _ p hu0
     ·obtain⟨t,rfl⟩:=ry;exact SeqAt.EqAt.tuple_int _ _ p hu0
     ·obtain⟨t,rfl⟩:=ry;exact SeqAt.EqAt.tuple_str _ _ p hu0
    ·rw[Rep]at rd
     obtain⟨a,vs,rfl,q,_⟩:=rd
     cases rx
     obtain⟨its,_,p⟩:=I.lstE q
     cases e<;>simp only[jT,cO,reduceCtorEq]at he<;>subst he
     ·cases ry;exact SeqAt.EqAt.list_none p hu0
     ·cases ry;exact SeqAt.EqAt.list_bool _ p hu0
     ·obtain⟨t,rfl⟩:=ry;exact SeqAt.EqAt.list_int _ _ p hu0
     ·obtain⟨t,rfl⟩:=ry;exact SeqAt.EqAt.list_str _ _ p hu0
   | none=>
    cases d<;>simp only[jT,reduceCtorEq]at hf<;>cases e<;>simp only[jT,reduceCtorEq]at he
    ·rename_i ds es
     have hn':jd ds<=n:=by rw[jn]at hn;lia
     have rd0:=rd
     have re0:=re
     rw[Rep]at rd
     rw[Rep]at re
     obtain⟨a,vs,rfl,q,r1⟩:=rd
     obtain⟨b,ws,rfl,q2,r2⟩:=re
     cases rx;cases ry
     by_cases hab:a=b
     ·subst hab
      rw[Rep.inj rd0 re0,kn]
      exact gY _
     ·obtain⟨its,w1,p1⟩:=I.tupE q
      obtain⟨its2,w2,p2⟩:=I.tupE q2
      have k:=SeqAt.RcAt.tuples p1 p2 hu0 (items hn' r1 r2 w1 w2)
      have e0:((List.range (min its.toArray.size its2.toArray.size)).all (kL ds es)&&its.toArray.size==its2.toArray.size)=iX (.tup ds) (.tup es):=by
       have l1:=w1.length
       have l2:=w2.length
       have l3:=r1.len
       have l4:=r2.len
       rw[iX,aq,aq]
       by_cases hl:ds.length=es.length
       ·rw [n8 hl,<- l1,<- l2,l3,l4,hl,Nat.min_self]
        simp
       ·rw[ny hl]
        have:(its.length==its2.length)=false:=by
         rw[bO];lia
        rw[this,eP]
      rw[e0]at k
      exact .of_refs hab k
    ·rename_i ds es
     rw[Rep]at rd
     rw[Rep]at re
     obtain⟨a,vs,rfl,q,r1⟩:=rd
     obtain⟨b,ws,rfl,q2,r2⟩:=re
     cases rx;cases ry
     obtain⟨its,w1,p1⟩:=I.tupE q
     obtain⟨its2,w2,p2⟩:=I.lstE q2
     have:iX (.tup ds) (.lst es)=false:=by simp[iX]
     rw[this]
     exact SeqAt.EqAt.tuple_list p1 p2 hu0
    ·rename_i ds es
     rw[Rep]at rd
     rw[Rep]at re
     obtain⟨a,vs,rfl,q,r1⟩:=rd
     obtain⟨b,ws,rfl,q2,r2⟩:=re
     cases rx;cases ry
     obtain⟨its,w1,p1⟩:=I.lstE q
     obtain⟨its2,w2,p2⟩:=I.tupE q2
     have:iX (.lst ds) (.tup es)=false:=by simp[iX]
     rw[this]
     exact SeqAt.EqAt.list_tuple p1 p2 hu0
    ·rename_i ds es
     have hn':jd ds<=n:=by rw[jn]at hn;lia
     have rd0:=rd
     have re0:=re
     rw[Rep]at rd
     rw[Rep]at re
     obtain⟨a,vs,rfl,q,r1⟩:=rd
     obtain⟨b,ws,rfl,q2,r2⟩:=re
     cases rx;cases ry
     by_cases hab:a=b
     ·subst hab
      rw[Rep.inj rd0 re0,kn]
      exact gY _
     ·obtain⟨its,w1,p1⟩:=I.lstE q
      obtain⟨its2,w2,p2⟩:=I.lstE q2
      have l1:=w1.length
      have l2:=w2.length
      have l3:=r1.len
      have l4:=r2.len
      refine .of_refs hab ?_
      rw[iX]
      by_cases hl:ds.length=es.length
      ·rw[n8 hl]
       have k:=SeqAt.RcAt.lists p1 p2 (by rw[aq,aq];lia) hu0 (items hn' r1 r2 w1 w2)
       rw [aq,<- l1,l3] at k
       exact k
      ·rw[ny hl]
       exact SeqAt.RcAt.lists_lengths p1 p2 (by rw[aq,aq];simp;lia) hu0
end
section
variable{prog:Program}{w:World}{A:Around}{R:Result->Shared->Prop}{I:Addr}{fp wr:List Addr}{n:Nat}{P:Nat->Value->Prop}{St:Nat->Heap->Prop}
def Best(val:Nat->Int)(n:Nat)(m:Int):Prop:=(∃i,i<n/\m=val i)/\∀i,i<n->val i<=m
theorem Best.keep{val:Nat->Int}{j:Nat}{m:Int}(h:Best val j m)(hb:¬val j>m):Best val (j+1) m:=
 ⟨let⟨i,hi,e⟩:=h.1;⟨i,cX hi,e⟩,fun i hi=>by
  rcases fb.mp hi with z|z
  ·exact h.2 i z
  ·rw[z];lia⟩
end
section
variable{X:Cx}
def wo(r:List V->List V->Hp->VK->Prop)(t tk:TA):TE:=fun σ H Q=>t σ H fun vs H1=>tk σ H1 fun zs H2=>r vs zs H2 Q
theorem Fn{x k:Str}{p kp pos:Pos}{e g:Expr}{t tk:TA}{id:String}{r:List V->List V->Hp->VK->Prop}
  (hcall:∀(pins:List (Addr×Obj)) (s:Shared) (σ:St) (H:Hp) (xs zs:List V) (us ws:List Value) (Q:VK),Inv X pins σ H s->Vals xs us->Vals zs ws->r xs zs H Q->
   wpAny (model X.prog X.w) X.A (call (.builtin id) us ([k].zip ws)) (EP X pins σ Q) X.xe s)
  (hg:Gl X x) (hm:X.mg x=none) (hv:bootBuiltins x=some (.builtin id)) (ha:PA X [e] t) (hk:PK X [⟨some k,g,kp⟩] tk) (hn:x≠"__name__":=by decide) (hdb:(x==("__debug__":Str))=false:=by decide)
  (he:backTo pos (starEach [e] X.env)=(false,eval e X.env)::backTo pos (starEach [] X.env):=by rfl) (hpl:(backTo pos (starEach [e] X.env)).any (·.1)=false:=by rfl):PE X (.Call (.Name x p) [e] [⟨some k,g,kp⟩] pos) (wo r t tk):=by
 intro pins s σ H Q I h
 refine cM (lu I hg hm hv ?_ hn hdb)
 refine callWith_kw (ix (ha pos pins s σ H _ I h) fun us s1 ⟨vs,H1,I1,r1,q1⟩=>ix (hk pos pins s1 σ H1 _ I1 q1) fun ws s2 ⟨zs,H2,I2,r2,q2⟩=>?_) he hpl
 exact hcall pins s2 σ H2 vs zs us ws Q I2 r1 r2 q2
end
section
variable{X:Cx}{pins:List (Addr×Obj)}{σ:St}{H:Hp}{s:Shared}
theorem qP(n:Nat){A:Around}(I:Inv X pins σ H s){ds es:List Dt}{vs ws:List V}{its its2:List Value}(hdp:jd ds<=n)(hu:A.units+n<cLine)(r1:Reps H ds vs)(r2:Reps H es ws)(w1:Vals vs its)(w2:Vals ws its2):
  ∀j (h1:j<its.toArray.size) (h2:j<its2.toArray.size),SeqAt.EqAt A s its.toArray[j] its2.toArray[j] (kL ds es j):=by
 intro j h1 h2
 rw[aq]at h1 h2
 have l1:=w1.length
 have l2:=w2.length
 obtain⟨u',e1,q1⟩:=w1.get (i:=j) (x:=vs[j]'(by lia)) (gE _)
 obtain⟨v',e2,q2⟩:=w2.get (i:=j) (x:=ws[j]'(by lia)) (gE _)
 obtain⟨d',f1,g1⟩:=r1.at (i:=j) (gE (by lia))
 obtain⟨e',f2,g2⟩:=r2.at (i:=j) (gE (by lia))
 rw[gE h1]at e1
 rw[gE h2]at e2
 cases e1;cases e2
 have hj:kL ds es j=iX d' e':=by unfold kL;rw[f1,f2]
 rw[hj]
 have:=ra f1
 exact xm n I (by lia) hu g1 g2 q1 q2
theorem AF{ds es:List Dt}{vs ws:List V}{its its2:List Value}(r1:Reps H ds vs)(r2:Reps H es ws)(w1:Vals vs its)(w2:Vals ws its2):
  ((List.range (min its.toArray.size its2.toArray.size)).all (kL ds es)&&its.toArray.size==its2.toArray.size)=kB ds es:=by
 have l1:=w1.length
 have l2:=w2.length
 have l3:=r1.len
 have l4:=r2.len
 rw[aq,aq]
 by_cases hl:ds.length=es.length
 ·rw [n8 hl,<- l1,<- l2,l3,l4,hl,Nat.min_self]
  simp
 ·rw[ny hl]
  have:(its.length==its2.length)=false:=by
   rw[bO];lia
  rw[this,eP]
def wL(neg:Bool):R2:=fun x y H Q=>∃d e,Rep H d x/\Rep H e y/\jn d<=20/\((∃ds es,d= .lst ds/\e= .lst es)\/∃ds es,d= .tup ds/\e= .tup es)/\Q (.bl (if neg=true then !iX d e else iX d e)) H
theorem tO(hu:X.A.units+64<cLine):OpR X (compareOp .Eq) (wL false):=by
 intro pins s σ H x y v u Q I rx ry h
 obtain⟨d,e,rd,re,hd,hk,q⟩:=h
 have hu0:X.A.units<cLine:=by lia
 rcases hk with⟨ds,es,rfl,rfl⟩|⟨ds,es,rfl,rfl⟩
 ·have hn':jd ds<=20:=by rw[jn]at hd;lia
  rw[Rep]at rd re
  obtain⟨a,vs,rfl,q1,r1⟩:=rd
  obtain⟨b,ws,rfl,q2,r2⟩:=re
  cases rx;cases ry
  obtain⟨its,w1,p1⟩:=I.lstE q1
  obtain⟨its2,w2,p2⟩:=I.lstE q2
  have l1:=w1.length
  have l2:=w2.length
  have l3:=r1.len
  have l4:=r2.len
  by_cases hl:ds.length=es.length
  ·refine SeqAt.RcAt.lists (e:=kL ds es) p1 p2 (by rw[aq,aq];lia) hu0 (qP 20 I hn' (by show X.A.units+1+20<cLine;lia) r1 r2 w1 w2) _ _ _ _ ⟨.bl _,H,I,rfl,?_⟩
   rw [aq,<- l1,l3,<- n8 hl]
   rw[iX]at q
   exact q
  ·refine SeqAt.RcAt.lists_lengths p1 p2 (by rw[aq,aq];simp;lia) hu0 _ _ _ _ ⟨.bl _,H,I,rfl,?_⟩
   rw[iX,ny hl]at q
   exact q
 ·have hn':jd ds<=20:=by rw[jn]at hd;lia
  rw[Rep]at rd re
  obtain⟨a,vs,rfl,q1,r1⟩:=rd
  obtain⟨b,ws,rfl,q2,r2⟩:=re
  cases rx;cases ry
  obtain⟨its,w1,p1⟩:=I.tupE q1
  obtain⟨its2,w2,p2⟩:=I.tupE q2
  refine SeqAt.RcAt.tuples (e:=kL ds es) p1 p2 hu0 (qP 20 I hn' (by show X.A.units+1+20<cLine;lia) r1 r2 w1 w2) _ _ _ _ ⟨.bl _,H,I,rfl,?_⟩
  rw[AF r1 r2 w1 w2]
  rw[iX]at q
  exact q
theorem lK(hu:X.A.units+64<cLine):OpR X (compareOp .NotEq) (wL true):=by
 intro pins s σ H x y v u Q I rx ry h
 obtain⟨d,e,rd,re,hd,hk,q⟩:=h
 have hu0:X.A.units<cLine:=by lia
 rcases hk with⟨ds,es,rfl,rfl⟩|⟨ds,es,rfl,rfl⟩
 ·have hn':jd ds<=20:=by rw[jn]at hd;lia
  rw[Rep]at rd re
  obtain⟨a,vs,rfl,q1,r1⟩:=rd
  obtain⟨b,ws,rfl,q2,r2⟩:=re
  cases rx;cases ry
  obtain⟨its,w1,p1⟩:=I.lstE q1
  obtain⟨its2,w2,p2⟩:=I.lstE q2
  have l1:=w1.length
  have l2:=w2.length
  have l3:=r1.len
  have l4:=r2.len
  by_cases hl:ds.length=es.length
  ·refine SeqAt.RcNeAt.lists (e:=kL ds es) p1 p2 (by rw[aq,aq];lia) hu0 (qP 20 I hn' (by show X.A.units+1+20<cLine;lia) r1 r2 w1 w2) _ _ _ _ ⟨.bl _,H,I,rfl,?_⟩
   rw [aq,<- l1,l3,<- n8 hl]
   rw[iX]at q
   exact q
  ·refine SeqAt.RcNeAt.lists_lengths p1 p2 (by rw[aq,aq];simp;lia) hu0 _ _ _ _ ⟨.bl _,H,I,rfl,?_⟩
   rw[iX,ny hl]at q
   exact q
 ·have hn':jd ds<=20:=by rw[jn]at hd;lia
  rw[Rep]at rd re
  obtain⟨a,vs,rfl,q1,r1⟩:=rd
  obtain⟨b,ws,rfl,q2,r2⟩:=re
  cases rx;cases ry
  obtain⟨its,w1,p1⟩:=I.tupE q1
  obtain⟨its2,w2,p2⟩:=I.tupE q2
  refine SeqAt.RcNeAt.tuples (e:=kL ds es) p1 p2 hu0 (qP 20 I hn' (by show X.A.units+1+20<cLine;lia) r1 r2 w1 w2) _ _ _ _ ⟨.bl _,H,I,rfl,?_⟩
  rw[AF r1 r2 w1 w2]
  rw[iX]at q
  exact q
theorem RelV.inj'{x y:V}{u:Value}(h1:RelV x u)(h2:RelV y u):x=y:=aL (h1.abs.symm.trans h2.abs)
open Classical in
def nA(H:Hp)(d:Dt)(u:Value):Bool:=if h:∃c,∃x,RelV x u/\Rep H c x then iX h.choose d else false
theorem xq{H:Hp}{d c:Dt}{x:V}{u:Value}(r:RelV x u)(p:Rep H c x):nA H d u=iX c d:=by
 unfold nA
 have h:∃c,∃x,RelV x u/\Rep H c x:=⟨c,x,r,p⟩
 rw[dif_pos h]
 obtain⟨y,r2,p2⟩:=h.choose_spec
 have:=RelV.inj' r r2
 subst this
 rw[Rep.inj p2 p]
theorem ya{H:Hp}{d:Dt}:∀{cs:List Dt} {xs:List V} {us:List Value},Reps H cs xs->Vals xs us->us.any (nA H d)=cs.any fun c=>iX c d
 |[],_,_,h,r=>by
  rw[Reps]at h;subst h
  cases r
  rfl
 |c::cs,_,_,h,r=>by
  rw[Reps]at h
  obtain⟨v,t,rfl,h1,h2⟩:=h
  cases r with
  |cons r1 r2=>rw[List.any_cons,List.any_cons,xq r1 h1,ya h2 r2]
def B9(neg:Bool):R2:=fun x y H Q=>∃(d:Dt) (p:Addr) (xs:List V) (cs:List Dt),Rep H d x/\y= .ref p/\H p=some (.lst xs)/\Reps H cs xs/\jd cs<=20/\Q (.bl (if neg=true then !cs.any (fun c=>iX c d)else cs.any fun c=>iX c d)) H
theorem Ed(hu:X.A.units+64<cLine)(I:Inv X pins σ H s){d:Dt}{x:V}{v:Value}{cs:List Dt}{xs:List V}{its:List Value}(rd:Rep H d x)(rx:RelV x v)(rc:Reps H cs xs)(r:Vals xs its)(hd:jd cs<=20):
  ∀y,y∈its.toArray->SeqAt.EqAt X.A.in1 s y v (nA H d y):=by
 intro y hy
 have hy':y∈its:=by simpa using hy
 obtain⟨j,hj,e⟩:=aV.mp hy'
 have l1:=r.length
 obtain⟨u',e1,q1⟩:=r.get (i:=j) (x:=xs[j]'(by lia)) (gE _)
 obtain⟨c,f1,g1⟩:=rc.at (i:=j) (gE (by lia))
 rw[gE hj]at e1
 cases e1
 rw [<- e,xq q1 g1]
 have:=ra f1
 exact xm 20 I (by lia) (by show X.A.units+1+20<cLine;lia) g1 rd q1 rx
theorem Fk(hu:X.A.units+64<cLine):OpR X (compareOp .NotIn) (B9 true):=by
 intro pins s σ H x y v u Q I rx ry h
 obtain⟨d,p,xs,cs,rd,rfl,e,rc,hd,q⟩:=h
 cases ry
 obtain⟨its,r,pl⟩:=I.lstE e
 refine SeqAt.notIn_listAt (nA H d) pl (Ed hu I rd rx rc r hd) ⟨.bl _,H,I,rfl,?_⟩
 rw[show its.toArray.any (nA H d)=its.any (nA H d) by simp,ya rc r]
 exact q
end
section
variable{X:Cx}{o i e f value:Expr}{td ty tv tx:TE}{pos pos' apos cpos:Pos}
def xP(td ty tv:TE):TS:=fun D σ H=>tv σ H fun v H1=>td σ H1 fun x H2=>ty σ H2 fun y H3=>match x,y with
 | .ref a,.int n=>match H3 a with
  |some (.dK kvs)=>kvs.length<sizeLine/\D.nx σ (upd H3 a (.dK (jr kvs (Sum.inl n:iq) v)))
  |_=>False
 |_,_=>False
theorem Hz{x y:V}{H3:Hp}{R:List (iq×V)->Addr->Int->Prop}(h:match x,y with
 | .ref a,.int n=>match H3 a with
  |some (.dK kvs)=>R kvs a n
  |_=>False
 |_,_=>False):∃a n kvs,x= .ref a/\y= .int n/\H3 a=some (.dK kvs)/\R kvs a n:=by
 split at h
 ·split at h
  ·rename_i e;exact⟨_,_,_,rfl,rfl,e,h⟩
  ·exact h.elim
 ·exact h.elim
theorem l7(hu:X.A.units+1<cLine)(ho:PE X o td)(hi:PE X i ty)(hv:PE X value tv)(hs:swapsWith value (some (.Subscript o i pos')) pos.line X.env=pure false:=by rfl):
  PS X (.Assign [.Subscript o i pos'] value pos) (xP td ty tv):=by
 intro pins s σ H D I h
 refine wpAny_Assign_Subscript (ix (hv pins s σ H _ I h) fun r s1 ⟨v,H1,I1,rv,q1⟩=>ix (ho pins s1 σ H1 _ I1 q1) fun u s2 ⟨x,H2,I2,rx,q2⟩=>ix (hi pins s2 σ H2 _ I2 q2) fun iv s3 ⟨y,H3,I3,ry,q3⟩=>?_) hs
 obtain⟨a,n,kvs,rfl,rfl,ea,q4,q5⟩:=Hz (R:=fun kvs a n=>kvs.length<sizeLine/\D.nx σ (upd H3 a (.dK (jr kvs (Sum.inl n:iq) v)))) q3
 obtain rfl:u=Value.ref a:=rx
 exact ET hu I3 (DPut.k (k:=Sum.inl n) ea q4) ry rv fun s4 I4=>⟨σ,_,I4,q5⟩
def Hr(td ty tx:TE):TE:=fun σ H Q=>td σ H fun x H1=>match x with
 | .ref a=>(∃kvs,H1 a=some (.dK kvs))/\ty σ H1 fun y H2=>tx σ H2 fun z H3=>match y with
  | .int n=>match H3 a with
   |some (.dK kvs)=>Q ((iT kvs (Sum.inl n:iq)).getD z) H3
   |_=>False
  |_=>False
 |_=>False
def vD:R2:=fun x y H Q=>match x,y with
 | .ref l,.ref b=>match H l,H b with
  |some (.lst xs),some (.lst zs)=>xs.length+zs.length<=sizeLine/\∀p,H p=none->Q (.ref p) (upd H p (.lst (xs++zs)))
  |_,_=>False
 |_,_=>False
theorem qo:OpR X (binaryOp .Add) vD:=CG.imp fun x y H Q h=>by
 unfold vD at h
 split at h
 ·split at h
  ·rename_i e1 e2;exact⟨_,_,_,_,rfl,rfl,e1,e2,h.1,h.2⟩
  ·exact h.elim
 ·exact h.elim
def tI:V->List V->Hp->VK->Prop:=fun x vs H Q=>match x,vs with
 | .ref l,[]=>match H l with
  |some (.lst _)=>Q .non (upd H l (.lst []))
  |_=>False
 |_,_=>False
theorem yF:MtR X "list.clear" tI:=MtR.imp (r:=xN) (fun pins s σ H x xs v us Q I rx rv q=>Eg pins s σ H x xs v us Q I rx rv q) fun x vs H Q h=>by
 unfold tI at h
 split at h
 ·split at h
  ·rename_i xs e;exact⟨_,xs,rfl,rfl,e,h⟩
  ·exact h.elim
 ·exact h.elim
def Bg(r:V->List V->Hp->VK->Prop)(to:TE):TE:=fun σ H Q=>to σ H fun x H1=>(∃a xs,x= .ref a/\H1 a=some (.lst xs))/\r x [] H1 Q
theorem qm{to:TE}{name:Str}{id:String}{r:V->List V->Hp->VK->Prop}(pa:PlainAttrs "list")(slot:Slot "list" name id)(hty:typeOf (.builtin id)=pure (.type "method_descriptor"))(hm:MtR X id r)(ho:PE X o to)
  (hbase:attributeBase o name X.env (eval o X.env)=eval o X.env:=by rfl) (hline:(apos.endLine==cpos.line)=true:=by rfl):PE X (.Call (.Attribute o name apos) [] [] cpos) (Bg r to):=by
 intro pins s σ H Q I h
 refine wpAny_Call_method0_late hbase hline (ix (ho pins s σ H _ I h) fun v s1 ⟨x,H1,I1,r1,⟨a,xs,ex,ea⟩,q1⟩=>?_)
 subst ex
 obtain⟨h1,h2⟩:=x6 (T:="list") I1 r1 (.inl ⟨rfl,_,SqL.of ea⟩)
 exact⟨"list",id,pa,slot,hty,h1,h2,c7 rfl (PySem.evalArgs_none (hm pins s1 σ H1 _ [] v [] Q I1 r1 .nil q1))⟩
def vn:V->Option Int->Option Int->Hp->VK->Prop:=fun x lo hi H Q=>match x with
 | .ref a=>match H a with
  |some (.tup xs)=>¬(HT.iL xs.length 0 lo=0/\HT.iL xs.length xs.length hi=xs.length)/\∀p,H p=none->Q (.ref p) (upd H p (.tup (kQ xs lo hi)))
  |_=>False
 |_=>False
theorem tm:SlR X vn:=BL.imp fun x l u H Q h=>by
 unfold vn at h
 split at h
 ·split at h
  ·rename_i xs e;exact⟨_,xs,rfl,SqT.of e,h.1,h.2⟩
  ·exact h.elim
 ·exact h.elim
def sO:List V->Hp->VK->Prop:=fun vs H Q=>match vs with
 |[.bl k]=>Q (.int (if k=true then 1 else 0)) H
 |[.int i]=>Q (.int i) H
 |_=>False
theorem tT:jc8 X (.type "int") sO:=EK.imp fun vs H Q h=>by
 unfold sO at h
 split at h
 ·exact .inr ⟨_,rfl,h⟩
 ·exact .inl ⟨_,rfl,h⟩
 ·exact h.elim
end
section
variable{prog:Program}{w:World}{A:Around}{E:Value->Shared->Prop}
end
section
variable{X:Cx}{es:List Expr}{pos:Pos}
def Hq(n:Nat)(t:kC):TG:=fun v σ H Q=>match v with
 | .ref a=>match H a with
  |some (.lst xs)=>xs.length=n/\t xs σ H Q
  |_=>False
 |_=>False
end
end L2
namespace So
open PySem PyProof.Rows
def kv(R:Keyed->Int)(xs:Array Keyed)(i:Nat):Int:=(xs[i]?.map R).getD 0
theorem mY{R:Keyed->Int}{xs ys:Array Keyed}{i j:Nat}(h:xs[i]? =ys[j]?):kv R xs i=kv R ys j:=by unfold kv;rw[h]
theorem kv_at{R:Keyed->Int}{xs:Array Keyed}{i:Nat}{x:Keyed}(h:xs[i]? =some x):kv R xs i=R x:=by unfold kv;rw[h];rfl
def Up(R:Keyed->Int)(xs:Array Keyed)(a b:Nat):Prop:=∀i j,a<=i->i<=j->j<b->kv R xs i<=kv R xs j
def Dn(R:Keyed->Int)(xs:Array Keyed)(a b:Nat):Prop:=∀i j,a<=i->i<=j->j<b->kv R xs j<=kv R xs i
def Fore(lo:Nat)(xs ys:Array Keyed):Prop:=∀i,i<lo->ys[i]? =xs[i]?
theorem Fore.rfl'{lo:Nat}{xs:Array Keyed}:Fore lo xs xs:=fun _ _=>rfl
theorem Fore.tr{lo:Nat}{xs ys zs:Array Keyed}(a:Fore lo xs ys)(b:Fore lo ys zs):Fore lo xs zs:=fun i h=>(b i h).trans (a i h)
theorem Up.one{R:Keyed->Int}{xs:Array Keyed}{a b:Nat}(h:b<=a+1):Up R xs a b:=fun i j h1 h2 h3=>by
 have e:i=j:=by lia
 rw[e];exact bH _
theorem Up.grow{R:Keyed->Int}{xs:Array Keyed}{a b:Nat}(h:Up R xs a b)(h2:a<b)(hl:kv R xs (b-1)<=kv R xs b):Up R xs a (b+1):=fun i j h3 h4 h5=>by
 by_cases hj:j<b
 ·exact h i j h3 h4 hj
 ·have e:j=b:=by lia
  rw[e]at h4 ⊢
  by_cases hi:i=b
  ·rw[hi];exact bH _
  ·exact gD (h i (b-1) h3 (by lia) (by lia)) hl
theorem Dn.grow{R:Keyed->Int}{xs:Array Keyed}{a b:Nat}(h:Dn R xs a b)(h2:a<b)(hl:kv R xs b<=kv R xs (b-1)):Dn R xs a (b+1):=fun i j h3 h4 h5=>by
 by_cases hj:j<b
 ·exact h i j h3 h4 hj
 ·have e:j=b:=by lia
  rw[e]at h4 ⊢
  by_cases hi:i=b
  ·rw[hi];exact bH _
  ·exact gD hl (h i (b-1) h3 (by lia) (by lia))
theorem Dn.like{R:Keyed->Int}{xs ys:Array Keyed}{a b:Nat}(h:Dn R xs a b)(e:∀k,kv R ys k=kv R xs k):Dn R ys a b:=fun i j h1 h2 h3=>by rw[e,e];exact h i j h1 h2 h3
theorem uh{R:Keyed->Int}{xs:Array Keyed}{i j:Nat}(hj:j<=xs.size)(k:Nat):
  kv R (mirror xs i j ((j-i)/2)) k=if i<=k/\k<j then kv R xs (i+j-1-k)else kv R xs k:=by
 have e:=getElem?_mirror_all (i:=i) hj k
 by_cases c:i<=k/\k<j
 ·rw[az c]at e ⊢;exact mY e
 ·rw[ay c]at e ⊢;exact mY e
theorem vd{R:Keyed->Int}{xs:Array Keyed}{i j:Nat}(hj:j<=xs.size)(q:∀k,i<=k->k<j->kv R xs k=kv R xs (j-1))(k:Nat):
  kv R (mirror xs i j ((j-i)/2)) k=kv R xs k:=by
 rw[uh hj]
 split
 ·rename_i c;rw[q _ (by lia) (by lia),q k c.1 c.2]
 ·rfl
theorem rG{lo:Nat}{xs:Array Keyed}{i j:Nat}(hj:j<=xs.size)(hi:lo<=i):Fore lo xs (mirror xs i j ((j-i)/2)):=fun k hk=>by
 rw[getElem?_mirror_all hj,ay (by lia)]
theorem yp{R:Keyed->Int}{xs:Array Keyed}{src d:Nat}(hs:src<xs.size)(hd:d<=src)(k:Nat):
  kv R (bubble xs src d) k=if k=src-d then kv R xs src else if src-d<k/\k<=src then kv R xs (k-1)else kv R xs k:=by
 have e:=getElem?_bubble hs d hd k
 by_cases c:k=src-d
 ·rw[az c]at e ⊢;exact mY e
 ·rw[ay c]at e ⊢
  by_cases c2:src-d<k/\k<=src
  ·rw[az c2]at e ⊢;exact mY e
  ·rw[ay c2]at e ⊢;exact mY e
theorem EW{lo:Nat}{xs:Array Keyed}{src d:Nat}(hs:src<xs.size)(hd:lo+d<=src):Fore lo xs (bubble xs src d):=fun k hk=>by
 rw[getElem?_bubble hs d (by lia),ay (by lia),ay (by lia)]
structure Bs(κ:SortKind)(a₀:Array Keyed)(pd:Array (Nat×Nat×Nat))(st:SortSt):Prop where
 perm:(arrOf st).Perm a₀
 kind:kindOf st=κ
 ok:failedOf st=none
 pend:pendingOf st=pd
section
variable{prog:Program}{w:World}{A:Around}{E:Value->Shared->Prop}{s:Shared}{R:Keyed->Int}{κ:SortKind}{a₀:Array Keyed}{pd:Array (Nat×Nat×Nat)}
theorem Bs.size{st:SortSt}(b:Bs κ a₀ pd st):(arrOf st).size=a₀.size:=b.perm.size_eq
theorem Bs.put{st:SortSt}(b:Bs κ a₀ pd st){xs:Array Keyed}(p:xs.Perm (arrOf st)):Bs κ a₀ pd (setArr st xs):=⟨p.trans b.perm,b.kind,b.ok,b.pend⟩
theorem Bs.get{st:SortSt}(b:Bs κ a₀ pd st){i:Nat}(hi:i<a₀.size):∃x,(arrOf st)[i]? =some x/\x∈a₀.toList:=by
 have h1:i<(arrOf st).size:=by rw[b.size];exact hi
 exact⟨(arrOf st)[i],getElem?_pos _ i h1,(ic.mp b.perm).mem_iff.mp (by simp)⟩
def Cm(prog:Program)(w:World)(A:Around)(s:Shared)(R:Keyed->Int)(κ:SortKind)(a₀:Array Keyed):Prop:=
 ∀x y,x∈a₀.toList->y∈a₀.toList->∀(Q:Bool->Shared->Prop) (E:Value->Shared->Prop),Q (decide (R x<R y)) s->wpAny (model prog w) A (keyLt' κ x.1 y.1) Q E s
theorem w_lt(C:Cm prog w A s R κ a₀){st:SortSt}{x y:Keyed}(hk:kindOf st=κ)(hx:x∈a₀.toList)(hy:y∈a₀.toList){Q:Option Bool->SortSt->Prop}(h:Q (some (decide (R x<R y))) st):
  wpS (model prog w) A E s (lt' x y) Q st:=by
 rw[lt'_eq]
 refine bM (wpS_get ?_)
 rw[hk]
 refine bM (wpS_lift (fZ (C x y hx hy _ _ ⟨rfl,?_⟩)))
 exact cJ h
theorem x8{st:SortSt}{xs:Array Keyed}{i:Nat}{x:Keyed}(e:xs[i]? =some x){Q:Keyed->SortSt->Prop}(h:Q x st):wpS (model prog w) A E s (elem' xs i) Q st:=by
 rw[elem'_eq,e];exact cJ h
theorem oY(C:Cm prog w A s R κ a₀){st:SortSt}(b:Bs κ a₀ pd st){i j:Nat}(hi:i<a₀.size)(hj:j<a₀.size){Q:Option Bool->SortSt->Prop}
  (h:Q (some (decide (kv R (arrOf st) i<kv R (arrOf st) j))) st):wpS (model prog w) A E s (ltAt' i j) Q st:=by
 obtain⟨x,e1,m1⟩:=b.get hi
 obtain⟨y,e2,m2⟩:=b.get hj
 rw[ltAt'_eq]
 refine bM (wpS_get (bM (x8 e1 (bM (x8 e2 (w_lt C b.kind m1 m2 ?_))))))
 rw[kv_at e1,kv_at e2]at h
 exact h
abbrev vK:=Option (Option Nat)×Nat
abbrev vO:=Option (Option Nat)×Nat×Nat
def pK(lo a nrem:Nat):StateT SortSt Sem vK:=
 forIn [a:nrem] ((none,a):vK) fun _ c=>do
  let z <- ltAt' (lo + c.snd) (lo + c.snd - 1)
  match z with
  |some less=>if less=true then pure (.done (none,c.snd))else pure (.yield (none,c.snd+1))
  |_=>pure (.done (some none,c.snd))
def oS (lo n nrem:Nat):StateT SortSt Sem (Option Nat):=do
 reverseSlice' lo (lo+n)
 let c <- pK lo n nrem
 match c.fst with
 |some r=>pure r
 |none=>pure (some c.snd)
def rP(lo n nrem:Nat):StateT SortSt Sem vO:=
 forIn [n:nrem] ((none,n,0):vO) fun _ c=>do
  let z <- ltAt' (lo + c.snd.fst) (lo + c.snd.fst - 1)
  match z with
  | some less=>
   if less=true then
    if c.snd.snd > 0 then do
     reverseSlice' (lo+c.snd.fst-(c.snd.snd+1)) (lo+c.snd.fst)
     pure (.yield (none,c.snd.fst+1,0))
    else pure (.yield (none,c.snd.fst+1,0))
   else do
    let y <- ltAt' (lo + c.snd.fst - 1) (lo + c.snd.fst)
    match y with
    |some more=>if more=true then pure (.done (none,c.snd.fst,c.snd.snd))else pure (.yield (none,c.snd.fst+1,c.snd.snd+1))
    |_=>pure (.done (some none,c.snd.fst,c.snd.snd))
  |_=>pure (.done (some none,c.snd.fst,c.snd.snd))
def oC (lo n nrem:Nat):StateT SortSt Sem (Option Nat):=do
 liftM (rule "list.sort.descending-run")
 let c <- rP lo (n + 1) nrem
 match c.fst with
 |some r=>pure r
 | none=>
  if c.snd.snd > 0 then do
   reverseSlice' (lo+c.snd.fst-(c.snd.snd+1)) (lo+c.snd.fst)
   oS lo c.snd.fst nrem
  else oS lo c.snd.fst nrem
theorem D2 (lo nrem:Nat):countRun' lo nrem = (do
    let c <- pK lo 1 nrem
    match c.fst with
    |some r=>pure r
    | none =>
      if(c.snd==nrem)=true then pure (some c.snd)
      else if c.snd > 1 then do
        let z <- ltAt' lo (lo + c.snd - 1)
        match z with
        | some rose=>if rose = true then pure (some c.snd) else do
            reverseSlice' lo (lo+c.snd)
            oC lo c.snd nrem
        |_=>pure none
      else oC lo c.snd nrem):=by
  rw[countRun'_eq]
  unfold oC oS rP pK
  dsimp only
  congr 1
  funext c
  obtain⟨r,n⟩:=c
  cases r with
  |some r=>rfl
  | none =>
    dsimp only
    split
    · rfl
    · split
      · congr 1
        funext z
        cases z with
        |none=>rfl
        | some rose=>
          dsimp only
          split
          · rfl
          · congr 1
            funext _r
            (congr 1;funext _u;congr 1;congr 1;funext c2;obtain⟨r2,n2,q2⟩:=c2;cases r2 with
            |some r2=>rfl
            | none=>
              dsimp only
              split
              · congr 1;funext _t;congr 1;funext _v;congr 1;funext c3;obtain⟨r3,n3⟩:=c3;cases r3<;>rfl
              · congr 1;funext _v;congr 1;funext c3;obtain⟨r3,n3⟩:=c3;cases r3<;>rfl)
      · (congr 1;funext _u;congr 1;congr 1;funext c2;obtain⟨r2,n2,q2⟩:=c2;cases r2 with
            |some r2=>rfl
            | none=>
              dsimp only
              split
              · congr 1;funext _t;congr 1;funext _v;congr 1;funext c3;obtain⟨r3,n3⟩:=c3;cases r3<;>rfl
              · congr 1;funext _v;congr 1;funext c3;obtain⟨r3,n3⟩:=c3;cases r3<;>rfl)
theorem qK{st:SortSt}{i j:Nat}{Q:Unit->SortSt->Prop}(h:Q () (setArr st (mirror (arrOf st) i j ((j-i)/2)))):
  wpS (model prog w) A E s (reverseSlice' i j) Q st:=by
 rw[reverseSlice'_eq];exact wpS_modify h
theorem x9(C:Cm prog w A s R κ a₀){st:SortSt}{lo a nrem:Nat}{Q:vK->SortSt->Prop}(hn:lo+nrem<=a₀.size)(ha:1<=a)(han:a<=nrem)(b:Bs κ a₀ pd st)(u:Up R (arrOf st) lo (lo+a))
  (h:∀n,a<=n->n<=nrem->Up R (arrOf st) lo (lo+n)->(n=nrem\/kv R (arrOf st) (lo+n)<kv R (arrOf st) (lo+n-1))->Q (none,n) st):
  wpS (model prog w) A E s (pK lo a nrem) Q st:=by
 unfold pK
 refine eL (I:=fun x c st'=>st'=st/\c=(none,x)/\Up R (arrOf st) lo (lo+x)) ?step ?fin ⟨rfl,rfl,u⟩
 case fin=>
  rintro c st' ⟨rfl,rfl,u'⟩
  rw[show max a nrem=nrem by lia]at u' ⊢
  exact h nrem han (au _) u' (.inl rfl)
 case step=>
  rintro x c st' hax hxn ⟨rfl,rfl,u'⟩
  dsimp only
  refine bM (oY C b (by lia) (by lia) ?_)
  by_cases c:kv R (arrOf st') (lo+x)<kv R (arrOf st') (lo+x-1)
  ·simp only[c,cD,if_true]
   exact cJ (h x hax (by lia) u' (.inr c))
  ·simp only[c,cA,aG,if_false]
   exact cJ ⟨rfl,rfl,u'.grow (by lia) (by lia)⟩
theorem zM(C:Cm prog w A s R κ a₀){st:SortSt}{lo n nrem:Nat}{Q:Option Nat->SortSt->Prop}(hn:lo+nrem<=a₀.size)(h1:1<=n)(hnn:n<=nrem)(b:Bs κ a₀ pd st)(d:Dn R (arrOf st) lo (lo+n))
  (h:∀m st',Bs κ a₀ pd st'->Fore lo (arrOf st) (arrOf st')->1<=m->m<=nrem->Up R (arrOf st') lo (lo+m)->Q (some m) st'):
  wpS (model prog w) A E s (oS lo n nrem) Q st:=by
 unfold oS
 have hsz:lo+n<=(arrOf st).size:=by rw[b.size];lia
 refine bM (qK ?_)
 have b':=b.put (gU (arrOf st) lo (lo+n) ((lo+n-lo)/2))
 refine bM (x9 C hn h1 hnn b' ?_ fun m hm1 hm2 u _=>cJ (h m _ b' (rG hsz (au _)) (by lia) hm2 u))
 intro i j h3 h4 h5
 show kv R (mirror (arrOf st) lo (lo+n) _) i<=kv R (mirror (arrOf st) lo (lo+n) _) j
 rw[uh hsz,uh hsz,az (by lia),az (by lia)]
 exact d _ _ (by lia) (by lia) (by lia)
theorem By(C:Cm prog w A s R κ a₀){st:SortSt}{lo n nrem:Nat}{Q:vO->SortSt->Prop}(hn:lo+nrem<=a₀.size)(h1:1<=n)(hnn:n<=nrem)(b:Bs κ a₀ pd st)(d:Dn R (arrOf st) lo (lo+n))
  (h:∀m q st',Bs κ a₀ pd st'->Fore lo (arrOf st) (arrOf st')->n<=m->m<=nrem->Dn R (arrOf st') lo (lo+m)->q+1<=m->(∀i,lo+m-(q+1)<=i->i<lo+m->kv R (arrOf st') i=kv R (arrOf st') (lo+m-1))->Q (none,m,q) st'):
  wpS (model prog w) A E s (rP lo n nrem) Q st:=by
 unfold rP
 refine eL (I:=fun x c st'=>∃q,c=(none,x,q)/\Bs κ a₀ pd st'/\Fore lo (arrOf st) (arrOf st')/\Dn R (arrOf st') lo (lo+x)/\q+1<=x/\
   (∀i,lo+x-(q+1)<=i->i<lo+x->kv R (arrOf st') i=kv R (arrOf st') (lo+x-1))) ?step ?fin ⟨0,rfl,b,Fore.rfl',d,by lia,fun i h1 h2=>by congr 1;lia⟩
 case fin=>
  rintro c st' ⟨q,rfl,b',f,d',hq,he⟩
  rw[show max n nrem=nrem by lia]at d' hq he ⊢
  exact h nrem q st' b' f hnn (au _) d' hq he
 case step=>
  rintro x c st' hax hxn ⟨q,rfl,b',f,d',hq,he⟩
  dsimp only
  have hsz:lo+x<=(arrOf st').size:=by rw[b'.size];lia
  refine bM (oY C b' (by lia) (by lia) ?_)
  by_cases c:kv R (arrOf st') (lo+x)<kv R (arrOf st') (lo+x-1)
  ·simp only[c,cD,if_true]
   have g:=d'.grow (by lia) (gF c)
   by_cases hq0:q>0
   ·rw[az hq0]
    exact bM (qK (cJ ⟨0,rfl,b'.put (gU _ _ _ _),f.tr (rG hsz (by lia)),g.like (vd hsz he),by lia,fun i h1 h2=>by congr 1;lia⟩))
   ·rw[ay hq0]
    exact cJ ⟨0,rfl,b',f,g,by lia,fun i h1 h2=>by congr 1;lia⟩
  ·simp only[c,cA,aG,if_false]
   refine bM (oY C b' (by lia) (by lia) ?_)
   by_cases c2:kv R (arrOf st') (lo+x-1)<kv R (arrOf st') (lo+x)
   ·simp only[c2,cD,if_true]
    exact cJ (h x q st' b' f hax (by lia) d' hq he)
   ·simp only[c2,cA,aG,if_false]
    have e2:kv R (arrOf st') (lo+x)=kv R (arrOf st') (lo+x-1):=by lia
    refine cJ ⟨q+1,rfl,b',f,d'.grow (by lia) (by lia),by lia,fun i h1 h2=>?_⟩
    rw[show lo+(x+1)-1=lo+x by lia]
    by_cases hix:i=lo+x
    ·rw[hix]
    ·rw[e2];exact he i (by lia) (by lia)
theorem yY(C:Cm prog w A s R κ a₀){st:SortSt}{lo n nrem:Nat}{Q:Option Nat->SortSt->Prop}(hn:lo+nrem<=a₀.size)(hnn:n+1<=nrem)(b:Bs κ a₀ pd st)(d:Dn R (arrOf st) lo (lo+(n+1)))
  (h:∀m st',Bs κ a₀ pd st'->Fore lo (arrOf st) (arrOf st')->1<=m->m<=nrem->Up R (arrOf st') lo (lo+m)->Q (some m) st'):
  wpS (model prog w) A E s (oC lo n nrem) Q st:=by
 unfold oC
 refine bM (wpS_lift (eA ⟨rfl,?_⟩))
 refine bM (By C hn (by lia) hnn b d fun m q st' b' f hm1 hm2 d' hq he=>?_)
 dsimp only
 have hsz:lo+m<=(arrOf st').size:=by rw[b'.size];lia
 by_cases hq0:q>0
 ·rw[az hq0]
  exact bM (qK (zM C hn (by lia) hm2 (b'.put (gU _ _ _ _)) (d'.like (vd hsz he)) fun m2 st2 a1 a2=>h m2 st2 a1 ((f.tr (rG hsz (by lia))).tr a2)))
 ·rw[ay hq0]
  exact zM C hn (by lia) hm2 b' d' fun m2 st2 a1 a2=>h m2 st2 a1 (f.tr a2)
theorem DT(C:Cm prog w A s R κ a₀){st:SortSt}{lo nrem:Nat}{Q:Option Nat->SortSt->Prop}(hn:lo+nrem<=a₀.size)(h1:1<=nrem)(b:Bs κ a₀ pd st)
  (h:∀m st',Bs κ a₀ pd st'->Fore lo (arrOf st) (arrOf st')->1<=m->m<=nrem->Up R (arrOf st') lo (lo+m)->Q (some m) st'):
  wpS (model prog w) A E s (countRun' lo nrem) Q st:=by
 rw[D2]
 refine bM (x9 C hn (au 1) h1 b (Up.one (au _)) fun n hn1 hn2 u hor=>?_)
 dsimp only
 by_cases c:n=nrem
 ·rw[az (by simpa using c)]
  exact cJ (h n st b Fore.rfl' hn1 hn2 u)
 ·rw [ay (by simpa using c)]
  have hlt:=hor.resolve_left c
  by_cases hgt:n>1
  ·rw[az hgt]
   refine bM (oY C b (by lia) (by lia) ?_)
   by_cases c2:kv R (arrOf st) lo<kv R (arrOf st) (lo+n-1)
   ·simp only[c2,cD,if_true]
    exact cJ (h n st b Fore.rfl' hn1 hn2 u)
   ·simp only[c2,cA,aG,if_false]
    have hsz:lo+n<=(arrOf st).size:=by rw[b.size];lia
    have hall:∀k,lo<=k->k<lo+n->kv R (arrOf st) k=kv R (arrOf st) (lo+n-1):=by
     intro k h2 h3
     have a1:=u lo k (au _) h2 h3
     have a2:=u k (lo+n-1) h2 (by lia) (by lia)
     lia
    have d:Dn R (arrOf st) lo (lo+n):=fun i j h3 h4 h5=>by rw[hall i h3 (by lia),hall j (by lia) h5];exact bH _
    have g:Dn R (arrOf st) lo (lo+(n+1)):=d.grow (by lia) (gF hlt)
    exact bM (qK (yY C hn (by lia) (b.put (gU _ _ _ _)) (g.like (vd hsz hall)) fun m st' a1 a2=>h m st' a1 ((rG hsz (au _)).tr a2)))
  ·rw[ay hgt]
   have e:n=1:=by lia
   subst e
   have d:Dn R (arrOf st) lo (lo+1):=fun i j h3 h4 h5=>by
    have e:i=j:=by lia
    rw[e];exact bH _
   exact yY C hn (by lia) b (d.grow (by lia) (gF hlt)) h
theorem Bx(C:Cm prog w A s R κ a₀){st:SortSt}{lo n ok:Nat}{Q:Bool->SortSt->Prop}(hn:lo+n<=a₀.size)(hok:ok<=n)(b:Bs κ a₀ pd st)(u:Up R (arrOf st) lo (lo+ok))
  (h:∀st',Bs κ a₀ pd st'->Fore lo (arrOf st) (arrOf st')->Up R (arrOf st') lo (lo+n)->Q true st'):wpS (model prog w) A E s (binarySort' lo n ok) Q st:=by
 rw[binarySort'_eq]
 refine bM (wpS_mono (eL (I:=fun k c st'=>c=(none,())/\Bs κ a₀ pd st'/\Fore lo (arrOf st) (arrOf st')/\Up R (arrOf st') lo (lo+min k n))
  (Q:=fun c st'=>c=(none,())/\Bs κ a₀ pd st'/\Fore lo (arrOf st) (arrOf st')/\Up R (arrOf st') lo (lo+n)) ?step ?fin ?init) ?post)
 case post=>
  rintro c st' ⟨rfl,b',f,u'⟩
  exact cJ (h st' b' f u')
 case init=>
  refine⟨rfl,b,Fore.rfl',fun i j h1 h2 h3=>?_⟩
  by_cases c:ok=0
  ·have e:i=j:=by lia
   rw[e];exact bH _
  ·exact u i j h1 h2 (by lia)
 case fin=>
  rintro c st' ⟨hc,b',f,u'⟩
  rw[show min (max (max ok 1) n) n=n by lia]at u'
  exact⟨hc,b',f,u'⟩
 case step=>
  rintro k c st' hak hkn ⟨rfl,b',f,u'⟩
  rw[show min k n=k by lia]at u'
  refine bM (wpS_mono (eL (I:=fun x c st2=>st2=st'/\∃l r,c=(none,l,r)/\l<=r/\r<=k/\r-l<=k-x/\
    (∀i,i<l->kv R (arrOf st') (lo+i)<=kv R (arrOf st') (lo+k))/\(∀i,r<=i->i<k->kv R (arrOf st') (lo+k)<kv R (arrOf st') (lo+i)))
   (Q:=fun c st2=>st2=st'/\∃l r,c=(none,l,r)/\l<=k/\
    (∀i,i<l->kv R (arrOf st') (lo+i)<=kv R (arrOf st') (lo+k))/\(∀i,l<=i->i<k->kv R (arrOf st') (lo+k)<kv R (arrOf st') (lo+i))) ?istep ?ifin ?iinit) ?ipost)
  case iinit=>exact⟨rfl,0,k,rfl,by lia,by lia,by lia,fun i hi=>by lia,fun i h1 h2=>by lia⟩
  case ifin=>
   rintro c st2 ⟨rfl,l,r,rfl,hlr,hrk,hm,hlo,hhi⟩
   have e:l=r:=by lia
   subst e
   exact⟨rfl,l,l,rfl,hrk,hlo,hhi⟩
  case istep=>
   rintro x c st2 _ hxk ⟨rfl,l,r,rfl,hlr,hrk,hm,hlo,hhi⟩
   dsimp only
   by_cases hge:l ≥ r
   ·rw[az hge]
    have e:l=r:=by lia
    subst e
    exact cJ ⟨rfl,l,l,rfl,hrk,hlo,hhi⟩
   ·rw[ay hge]
    refine bM (oY C b' (by lia) (by lia) ?_)
    by_cases c:kv R (arrOf st2) (lo+k)<kv R (arrOf st2) (lo+(l+r)/2)
    ·simp only[c,cD,if_true]
     exact cJ ⟨rfl,l,(l+r)/2,rfl,by lia,by lia,by lia,hlo,fun i h1 h2=>Int.lt_of_lt_of_le c (u' _ _ (by lia) (by lia) (by lia))⟩
    ·simp only[c,cA,aG,if_false]
     exact cJ ⟨rfl,(l+r)/2+1,r,rfl,by lia,by lia,by lia,fun i h1=>gD (u' (lo+i) (lo+(l+r)/2) (by lia) (by lia) (by lia)) (Int.not_lt.mp c),hhi⟩
  case ipost=>
   rintro c st2 ⟨rfl,l,r,rfl,hlk,hlo,hhi⟩
   show wpS _ _ _ _ (do moveDown' (lo + k) (lo + l); pure (ForInStep.yield (none,()))) _ _
   rw[moveDown'_eq]
   have hks:lo+k<(arrOf st2).size:=by rw[b'.size];lia
   refine bM (wpS_modify (cJ ⟨rfl,b'.put (bubble_perm _ _ _),f.tr (EW hks (by lia)),?_⟩))
   rw[show min (k+1) n=k+1 by lia]
   intro i j h1 h2 h3
   show kv R (bubble (arrOf st2) (lo+k) (lo+k-(lo+l))) i<=kv R (bubble (arrOf st2) (lo+k) (lo+k-(lo+l))) j
   rw[yp hks (by lia),yp hks (by lia),show lo+k-(lo+k-(lo+l))=lo+l by lia]
   have lowof:∀i,lo<=i->i<lo+l->kv R (arrOf st2) i<=kv R (arrOf st2) (lo+k):=fun i a1 a2=>by
    have z:=hlo (i-lo) (by lia)
    rwa[show lo+(i-lo)=i by lia]at z
   have highof:∀i,lo+l<=i->i<lo+k->kv R (arrOf st2) (lo+k)<kv R (arrOf st2) i:=fun i a1 a2=>by
    have z:=hhi (i-lo) (by lia) (by lia)
    rwa[show lo+(i-lo)=i by lia]at z
   repeat' split
   all_goals first
    |(exfalso;lia)
    |exact bH _
    |exact lowof _ (by lia) (by lia)
    |exact gF (highof _ (by lia) (by lia))
    |exact u' _ _ (by lia) (by lia) (by lia)
end
end So
namespace So
open PySem PyProof.Rows
section
variable{prog:Program}{w:World}{A:Around}{E:Value->Shared->Prop}{s:Shared}{R:Keyed->Int}{κ:SortKind}{a₀:Array Keyed}{pd:Array (Nat×Nat×Nat)}
end
end So
namespace So
open PySem PyProof.Rows
def Le(R:Keyed->Int):Keyed->Keyed->Prop:=fun x y=>R x<=R y
def MS(R:Keyed->Int)(o la lb tot:List Keyed):Prop:=(o++la).Pairwise (Le R)/\(o++lb).Pairwise (Le R)/\(o++(la++lb)).Perm tot
def Fi(R:Keyed->Int)(l tot:List Keyed):Prop:=l.Pairwise (Le R)/\l.Perm tot
section
variable{R:Keyed->Int}{o la lb tot xs:List Keyed}
theorem MS.a(h:MS R o (xs++la) lb tot)(hx:∀x∈xs,∀y∈lb,R x<=R y):MS R (o++xs) la lb tot:=by
 obtain⟨h1,h2,h3⟩:=h
 refine ⟨by rw [bp]; exact h1,?_,by rw [bp,<- bp xs]; exact h3⟩
 rw[bp,bJ]
 rw[bJ]at h1 h2
 obtain⟨o1,o2,o3⟩:=h1
 obtain⟨p1,p2,p3⟩:=h2
 rw[bJ]at o2
 refine⟨o1,bJ.mpr ⟨o2.1,p2,hx⟩,fun x m y n=>?_⟩
 rcases aM.mp n with n|n
 ·exact o3 x m y (bh _ n)
 ·exact p3 x m y n
theorem MS.b(h:MS R o la (xs++lb) tot)(hx:∀x∈xs,∀y∈la,R x<=R y):MS R (o++xs) la lb tot:=by
 have z:MS R o (xs++lb) la tot:=⟨h.2.1,h.1,(dZ _ cK).trans h.2.2⟩
 have q:=z.a hx
 exact⟨q.2.1,q.1,(dZ _ cK).trans q.2.2⟩
theorem MS.last(h:MS R o la lb tot)(hx:∀y∈lb,∀x∈la,R y<=R x):Fi R (o++lb++la) tot:=by
 obtain⟨h1,h2,h3⟩:=h
 refine⟨?_,?_⟩
 ·rw[bp,bJ]
  rw[bJ]at h1 h2
  refine⟨h1.1,bJ.mpr ⟨h2.2.1,h1.2.1,hx⟩,fun x m y n=>?_⟩
  rcases aM.mp n with n|n
  ·exact h2.2.2 x m y n
  ·exact h1.2.2 x m y n
 ·rw[bp];exact(dZ _ cK).trans h3
end
section
variable{a:Array Keyed}{R:Keyed->Int}{i k:Nat}
theorem Up.le(u:Up R a 0 a.size){j:Nat}{x y:Keyed}(hx:a[i]? =some x)(hy:a[j]? =some y)(h:i<=j):R x<=R y:=by
 have z:=u i j (bw _) h (ie.mp hy).1
 rwa[kv_at hx,kv_at hy]at z
end
section
variable{M:Model}{A:Around}{E:Value->Shared->Prop}{s:Shared}{σ α:Type}
theorem oO{c:Prop}[Decidable c]{m n:StateT σ Sem α}{Q:α->σ->Prop}{st:σ}(h1:c->wpS M A E s m Q st)(h2:¬c->wpS M A E s n Q st):wpS M A E s (if c then m else n) Q st:=by
 by_cases h:c
 ·rw[az h];exact h1 h
 ·rw[ay h];exact h2 h
end
section
variable{R:Keyed->Int}{a b out:Array Keyed}{ia ib k:Nat}{tot:List Keyed}
end
section
variable{prog:Program}{w:World}{A:Around}{E:Value->Shared->Prop}{s:Shared}{R:Keyed->Int}{κ:SortKind}{a₀:Array Keyed}{pd:Array (Nat×Nat×Nat)}
end
end So
namespace So
open PySem PyProof.Rows
def MH(R:Keyed->Int)(la lb o tot:List Keyed):Prop:=(la++o).Pairwise (Le R)/\(lb++o).Pairwise (Le R)/\(la++(lb++o)).Perm tot
section
variable{R:Keyed->Int}{o la lb tot xs:List Keyed}
theorem MH.a(h:MH R (la++xs) lb o tot)(hx:∀x∈xs,∀y∈lb,R y<=R x):MH R la lb (xs++o) tot:=by
 obtain⟨h1,h2,h3⟩:=h
 refine ⟨by rw [<- bp]; exact h1,?_,?_⟩
 ·rw[bp,bJ]at h1
  rw[bJ]at h2 ⊢
  refine⟨h2.1,h1.2.1,fun y hy x hx2=>?_⟩
  rcases aM.mp hx2 with n|n
  ·exact hx x n y hy
  ·exact h2.2.2 y hy x n
 ·refine List.Perm.trans ?_ h3
  rw[bp]
  refine dZ _ ?_
  rw [<- bp,<- bp]
  exact List.Perm.append_right _ cK
theorem MH.swap(h:MH R la lb o tot):MH R lb la o tot:=by
 refine⟨h.2.1,h.1,List.Perm.trans ?_ h.2.2⟩
 rw [<- bp,<- bp]
 exact List.Perm.append_right _ cK
theorem MH.b(h:MH R la (lb++xs) o tot)(hx:∀x∈xs,∀y∈la,R y<=R x):MH R la lb (xs++o) tot:=(h.swap.a hx).swap
theorem MH.first(h:MH R la lb o tot)(hx:∀y∈lb,∀x∈la,R y<=R x):Fi R (lb++la++o) tot:=by
 obtain⟨h1,h2,h3⟩:=h.swap
 refine⟨?_,by rw[bp];exact h3⟩
 rw[bp]
 rw[bJ]at h1 h2 ⊢
 refine⟨h1.1,bJ.mpr h2,fun y hy x hx2=>?_⟩
 rcases aM.mp hx2 with n|n
 ·exact hx y hy x n
 ·exact h1.2.2 y hy x n
end
section
variable{a:Array Keyed}{R:Keyed->Int}{i k n:Nat}
end
section
variable{R:Keyed->Int}{a b out:Array Keyed}{na nb k:Nat}{tot:List Keyed}
end
section
variable{prog:Program}{w:World}{A:Around}{E:Value->Shared->Prop}{s:Shared}{R:Keyed->Int}{κ:SortKind}{a₀:Array Keyed}{pd:Array (Nat×Nat×Nat)}
end
end So
namespace So
open PySem PyProof.Rows
section
variable{prog:Program}{w:World}{A:Around}{E:Value->Shared->Prop}{s:Shared}{R:Keyed->Int}{κ:SortKind}{a₀:Array Keyed}{pd:Array (Nat×Nat×Nat)}
theorem Up.ext{xs:Array Keyed}{lo hi:Nat}(u:Up R xs lo hi)(h:hi<=xs.size):Up R (xs.extract lo hi) 0 (xs.extract lo hi).size:=fun i j _ h2 h3=>by
 rw[Array.size_extract]at h3
 have e:∀k,k<hi-lo->(xs.extract lo hi)[k]? =xs[lo+k]?:=fun k hk=>by
  rw[Array.getElem?_extract]
  rw[az (by lia)]
 rw[mY (e i (by lia)),mY (e j (by lia))]
 exact u _ _ (by lia) (by lia) (by lia)
end
end So
namespace So
open PySem PyProof.Rows
def two(pd:Array (Nat×Nat×Nat)):List (Nat×Nat):=pd.toList.map fun t=>(t.1,t.2.1)
section
variable{R:Keyed->Int}{xs ys:Array Keyed}
end
section
variable{prog:Program}{w:World}{A:Around}{E:Value->Shared->Prop}{s:Shared}{R:Keyed->Int}{κ:SortKind}{a₀:Array Keyed}{pd:Array (Nat×Nat×Nat)}
end
end So
namespace So
open PySem PyProof.Rows
section
variable{prog:Program}{w:World}{A:Around}{E:Value->Shared->Prop}{s:Shared}
theorem zN(vs:List Value):vs.zip vs=vs.map fun v=>(v,v):=by
 induction vs with
 |nil=>rfl
 |cons v vs ih=>rw[List.zip_cons_cons,ih,aw]
theorem Up.all{R:Keyed->Int}{xs:Array Keyed}(u:Up R xs 0 xs.size):xs.toList.Pairwise (Le R):=by
 rw[dw]
 intro i j hi hj hij
 rw[Array.length_toList]at hi hj
 exact u.le (getElem?_pos xs i hi) (getElem?_pos xs j hj) (fF hij)
theorem Cr{R:Keyed->Int}{vs:List Value}{xs:Array Keyed}(p:xs.Perm (pairsOf vs))(u:Up R xs 0 xs.size):(xs.map (·.2)).toList.Perm vs/\(xs.map (·.2)).toList.Pairwise fun a b=>R (a,a)<=R (b,b):=by
 have hp:xs.toList.Perm (vs.map fun v=>(v,v)):=by rw [<- zN,<- pairsOf_toList]; exact ic.mp p
 rw[Array.toList_map]
 refine⟨?_,?_⟩
 ·have z:=hp.map (·.2)
  rw[bD]at z
  have e:vs.map ((fun x:Keyed=>x.2)∘fun v=>(v,v))=vs:=by
   rw[show((fun x:Keyed=>x.2)∘fun v=>(v,v))=id from rfl,List.map_id]
  rwa[e]at z
 ·rw[cw]
  refine fc ?_ u.all
  intro a b ha hb hab
  obtain⟨v,_,rfl⟩:=aE.mp (hp.mem_iff.mp ha)
  obtain⟨u',_,rfl⟩:=aE.mp (hp.mem_iff.mp hb)
  exact hab
def vP(prog:Program)(w:World)(s:Shared)(vs:List Value)(R:Keyed->Int)(κ:SortKind):Prop:=
 ∀(A:Around) (h':Heap),(∀b o,s.heap.get? b=some o->h'.get? b=some o)->
  (∀(Q:SortKind->Shared->Prop) (E:Value->Shared->Prop),Q κ {s with heap:=h'}->wpAny (model prog w) A (keyKind' vs.toArray) Q E {s with heap:=h'})/\Cm prog w A {s with heap:=h'} R κ (pairsOf vs)
def PairAt(h:Heap)(v:Value)(x y:Int):Prop:=∃a o t u n,v= .ref a/\h.get? a=some o/\o.cls= .type "tuple"/\o.data= .seq #[.int x t,.int y u] n
theorem um{B x y x' y':Int}(h1:0<=y)(h2:y<B)(h3:0<=y')(h4:y'<B):x*B+y<x'*B+y'↔x<x'\/(x=x'/\y<y'):=by
 constructor
 ·intro h
  rcases Int.lt_trichotomy x x' with c|c|c
  ·exact .inl c
  ·subst c;exact .inr ⟨rfl,by lia⟩
  ·exfalso
   have q:(x'+1)*B<=x*B:=gQ (by lia) (by lia)
   rw[Int.add_mul,Int.one_mul]at q
   lia
 ·rintro(c|⟨rfl,c⟩)
  ·have q:(x+1)*B<=x'*B:=gQ (by lia) (by lia)
   rw[Int.add_mul,Int.one_mul]at q
   lia
  ·lia
end
end So
namespace L2
open PySem PySem.Spec PyProof.Rows
def mN:Value->V
 | .ref a=>.ref a
 |_=>.non
def BX:List V->Hp->VK->Prop:=fun vs H Q=>∃(p:Addr) (ns:List Int),vs=[.ref p]/\H p=some (.lst (ns.map V.int))/\Q (.int ns.sum) H
theorem qt{X:Cx}(hc:X.calm=true):jc8 X (.builtin "sum") BX:=by
 intro pins s σ H xs us Q I r h
 obtain⟨p,ns,rfl,e,q⟩:=h
 obtain⟨u,rfl,rx⟩:=lI r
 cases rx
 obtain⟨its,r',pl,_⟩:=I.list (SqL.of e)
 have hI:=pJ r'
 obtain⟨zs,hz⟩:=hI.allInts.items
 have hn:=hI.numsOf
 have hl:=pl.isList
 rw[hz]at hl
 refine sum_intListG (I.ok.hd hc) hl fun h' tk t' hk=>?_
 have e2:preSum (numAt zs) zs.size=ns.sum:=by
  rw [preSum_eq,dQ (by simp),<- hn,<- nums_intItems,<- hz]
 rw[e2]
 exact⟨.int ns.sum,H,I.kept hk,⟨t',rfl⟩,q⟩
def Ho(f:Bool->Bool):R2:=fun x y H Q=>match x,y with
 | .bl a,.bl b=>Q (.bl (f (a==b))) H
 |_,_=>False
def kU(d:Addr)(o:Obj)(kvs:List (iq×V)):It:=
 ⟨fun i H=>H d=some (.frz o (.dK kvs))/\i<kvs.length,fun i H x H'=>H'=H/\∃kv,kvs[i]? =some kv/\x=kV kv.1,fun i H=>H d=some (.frz o (.dK kvs))/\kvs.length<=i⟩
theorem Ex{k:iq}{v:Value}(h:mq k v=true):RelV (kV k) v:=by
 rcases lz h with⟨i,t,rfl,rfl⟩|⟨x,t,rfl,rfl⟩
 ·exact⟨t,rfl⟩
 ·exact⟨t,rfl⟩
theorem kv_at{kvs:List (iq×V)}{vs:List (iq×Value)}(r:KV kvs vs){i:Nat}{k:iq}{x:Value}(e:vs[i]? =some (k,x)):∃kv,kvs[i]? =some kv/\kv.1=k:=by
 obtain⟨kv,e1,e2⟩:=lN r e
 exact⟨kv,e1,e2.1⟩
theorem Al{P:Program}{w:World}{K:PySem.W.Frag}{tg:Expr}(d it:Addr)(o:Obj)(kvs:List (iq×V))(vs:List (iq×Value))(ep:Nat)(hne:d≠it)(rk:KV kvs vs)
  (hD:∀h:Heap,h.get? d=some o->h.DictAt (jH P w) d vs ep):Turn P w K tg (kU d o kvs) [it] it (fun i h=>h.IsKeyIter it d i vs.length ep)where
 mem:=by simp
 obj:=fun i h st b hb=>by
  have e:b=it:=by simpa using hb
  subst e
  obtain⟨o,e,c,d⟩:=st
  exact⟨o,e,fun v z=>by rw[d]at z;cases z⟩
 keep:=fun i h h' st k=>st.at fun o e=>k it (by simp) o e
 item:=by
  intro X hP hw hK hc i pins s σ H E I hf st hg
  subst hP hw hK
  obtain⟨hq,hx⟩:=hg
  obtain⟨eo,_⟩:=(show s.heap.get? d=some o/\_ from I.hok _ _ hq)
  have hl:=rk.length
  obtain⟨⟨k,x⟩,hx'⟩:∃p,vs[i]? =some p:=⟨vs[i]'(by lia),gE _⟩
  obtain⟨f0,f1,f2,f3,f4,f5⟩:=hf it (by simp)
  refine wpAny_pyNext_dict_item st (hD _ eo) hx' fun key h' hkey st' sb=>?_
  have I1:Inv X pins σ H {s with heap:=h'}:=I.turned (t':=s.toks) (fun b o hb e=>(sb.2 b hb).trans e) f0 f1 f3 f4 f5
  obtain⟨kv,e1,e2⟩:=kv_at rk hx'
  obtain⟨o',e,c,dd⟩:=id st'
  exact⟨key,rfl,qk (s:={s with heap:=h'}) e c dd (by decide) ⟨kV k,H,I1,Ex hkey,⟨rfl,kv,e1,by rw[e2]⟩,st',fun b hb=>(hf b hb).1⟩⟩
 done:=by
  intro X hP hw hK hc i pins s σ H E I hf st hg
  subst hP hw hK
  obtain⟨hq,hx⟩:=hg
  obtain⟨eo,_⟩:=(show s.heap.get? d=some o/\_ from I.hok _ _ hq)
  have hl:=rk.length
  obtain⟨f0,f1,f2,f3,f4,f5⟩:=hf it (by simp)
  exact wpAny_pyNext_dict_end (I.ok.hd hc) st (hD _ eo) (List.getElem?_eq_none_iff.mpr (by lia)) fun h' eb=>⟨rfl,I.turned (t':=s.toks) (fun b o hb e=>eb b o hb e) f0 f1 f3 f4 f5⟩
 self:=fun _ _ _ _ _ st h=>wpAny_pyIter_keyiter st h
def rN(tl:TE):TI:=fun σ H R=>tl σ H fun v H1=>∃d kvs,v= .ref d/\H1 d=some (.dK kvs)/\∀o,R (kU d o kvs) (upd H1 d (.frz o (.dK kvs)))
theorem uq{X:Cx}{tg l:Expr}{tl:TE}(hl:PE X l tl):PI X tg l (rN tl):=by
 intro pins s σ H R I h
 refine ix (hl pins s σ H _ I h) fun v s1 ⟨x,H1,I1,r1,q1⟩=>?_
 obtain⟨d,kvs,e,hd,q⟩:=q1
 subst e
 cases r1
 obtain⟨z,lo,vs,rel,dd⟩:=mS I1.hok hd
 obtain⟨ep,hat⟩:=dd.dictAt
 obtain⟨o,es,eo,rest⟩:=id hat
 have I2:Inv X pins σ (upd H1 d (.frz o (.dK kvs))) {s1 with heap:=s1.heap,toks:=s1.toks}:=
  I1.write (x:=d) (e:=d) (by rw[hd];exact True.intro) (.inl rfl) (fun b u _ q=>q) ⟨o,eo⟩ (show jbm X.prog X.w _ s1.heap d (.frz o (.dK kvs))from⟨eo,z,lo,vs,rel,dd⟩)
 have I2:Inv X pins σ (upd H1 d (.frz o (.dK kvs))) s1:=I2
 have hdl:d<s1.heap.objs.size:=aI eo
 refine wpAny_pyIter_dict lo hat ?_
 refine⟨s1.heap.objs.size,[s1.heap.objs.size],_,_,_,rfl,I2.kept (t':=s1.toks) fun b o e=>af _ e,Al d _ o kvs vs ep (aX hdl) rel fun h e=>⟨o,es,e,rest⟩,⟨_,aJ _ rfl,rfl,rfl⟩,fun b hb=>?_,q o⟩
 have e:b=s1.heap.objs.size:=by simpa using hb
 subst e
 exact I2.fpOk (au _) (I2.hok.fresh (au _))
theorem uE{d:Addr}{o:Obj}{kvs:List (iq×V)}{g:TG}{tb:TS}{D:Ends}{σ:St}{H:Hp}(Pv:Nat->St->Hp->Prop)(h0:Pv 0 σ H)(hl:∀i σ H,i<=kvs.length->Pv i σ H->H d=some (.frz o (.dK kvs)))
  (hs:∀i kv σ H,kvs[i]? =some kv->Pv i σ H->g (kV kv.1) σ H fun σ2 H2=>tb {D with nx:=Pv (i+1),ct:=Pv (i+1),bk:=D.nx} σ2 H2) (hd:∀σ H,Pv kvs.length σ H->D.nx σ H):
  ∃W:Nat->Nat->St->Hp->Prop,(∃m,W 0 m σ H)/\∀i m σ H,W i m σ H->
   ((kU d o kvs).stop i H/\D.nx σ H)\/((kU d o kvs).go i H/\∃N:St->Hp->Prop,(∀σ' H',N σ' H'->∃m',m'<m/\W (i+1) m' σ' H')/\∀x H',(kU d o kvs).yld i H x H'->g x σ H' fun σ2 H2=>tb {D with nx:=N,ct:=N,bk:=D.nx} σ2 H2):=by
 refine⟨fun i m σ H=>m=kvs.length-i/\i<=kvs.length/\Pv i σ H,⟨kvs.length,by simp,bw _,h0⟩,?_⟩
 rintro i m σ H ⟨rfl,hi,p⟩
 have q:=hl i σ H hi p
 by_cases hlt:i<kvs.length
 ·refine .inr ⟨⟨q,hlt⟩,Pv (i+1),fun σ' H' p'=>⟨kvs.length-(i+1),by lia,rfl,hlt,p'⟩,fun x H' y=>?_⟩
  obtain⟨e,kv,e1,e2⟩:=y
  subst e e2
  exact hs i kv σ H' e1 p
 ·have e:i=kvs.length:=by lia
  subst e
  exact .inl ⟨⟨q,au _⟩,hd σ H p⟩
def BI(td ty:TE):TE:=fun σ H Q=>td σ H fun x H1=>∃a,x= .ref a/\Bt H1 a/\ty σ H1 fun y H2=>∃b kvs more,y= .ref b/\a≠b/\H2 a=some (.dK kvs)/\H2 b=some (.dK more)/\kvs.length+more.length<=1000/\Q .non (upd H2 a (.dK (lJ kvs more)))
theorem DD{X:Cx}{o e:Expr}{apos cpos:Pos}{td ty:TE}(ho:PE X o td)(he:PE X e ty)(m:M1 X o "update" apos e cpos:=by exact⟨rfl,rfl,rfl,rfl⟩):PE X (.Call (.Attribute o "update" apos) [e] [] cpos) (BI td ty):=by
 intro pins s σ H Q I h
 refine wpAny_Call_method m.base m.few m.line fi PySem.F.slot_dict_update PySem.F.type_dict_update (ix (ho pins s σ H _ I h) fun u s1 ⟨x,H1,I1,rx,a,ex,d,q1⟩=>?_)
 subst ex
 obtain rfl:u=Value.ref a:=rx
 obtain⟨t1,t2,_⟩:=tN I1 d
 refine⟨t1,t2,?_⟩
 rw[m.trees]
 refine c7 rfl (fQ (dH (ix (he pins s1 σ H1 _ I1 q1) fun iv s2 ⟨y,H2,I2,ry,b,kvs,more,ey,hab,ea,eb,hl,q2⟩=>eV ?_)))
 subst ey
 obtain rfl:iv=Value.ref b:=ry
 obtain⟨z1,lo1,vs1,rel1,dd1⟩:=mS I2.hok ea
 obtain⟨z2,lo2,vs2,rel2,dd2⟩:=mS I2.hok eb
 have h1000:(1000:Nat)<=sizeLine:=by decide
 refine gq PySem.F.slot_dict_update dd1.typeIs PySem.F.entry_dict_update (PySem.F.args_dict_update_2 _ _) (meets_dict_update (jH X.prog X.w) a b hab lo2)
  ⟨vs1,vs2,dd1,dd2,by rw [<- rel1.length,<- rel2.length]; lia,fun h' dd' _ hs=>?_⟩
 have hm:=ve more kvs
 have he:∃q,h'.get? a=some q:=let⟨q,_,_,hq,_⟩:=dd';⟨q,hq⟩
 exact⟨.non,_,qN I2 (by rw[ea];exact True.intro) hs he (qy (by lia) lo1 (rel2.merge rel1) dd'),rfl,q2⟩
theorem wM{X:Cx}:MtR X "list.pop" wJ:=fun pins s σ H x xs v us Q I rx rv q=>CN pins s σ H x xs v us Q I rx rv q
section
variable{X:Cx}
def Bc:V->List V->Hp->VK->Prop:=fun x vs H Q=>match x,vs with
 | .ref l,[.int k,y]=>match H l with
  |some (.lst xs)=>(0<=k/\k<=xs.length/\xs.length<1000)/\Q .non (upd H l (.lst (xs.take k.toNat++y::xs.drop k.toNat)))
  |_=>False
 |_,_=>False
def oH(tl:TE):TI:=fun σ H R=>tl σ H fun v H1=>∃d kvs o,v= .ref d/\H1 d=some (.frz o (.dK kvs))/\R (kU d o kvs) H1
theorem rh{tg l:Expr}{tl:TE}(hl:PE X l tl):PI X tg l (oH tl):=by
 intro pins s σ H R I h
 refine ix (hl pins s σ H _ I h) fun v s1 ⟨x,H1,I1,r1,q1⟩=>?_
 obtain⟨d,kvs,o,e,hd,q⟩:=q1
 subst e
 cases r1
 obtain⟨eo,hk⟩:=(show s1.heap.get? d=some o/\_ from I1.hok _ _ hd)
 obtain⟨z,lo,vs,rel,dd⟩:=hk
 obtain⟨ep,hat⟩:=dd.dictAt
 obtain⟨o',es,eo',rest⟩:=id hat
 obtain rfl:o=o':=aL (eo.symm.trans eo')
 have hdl:d<s1.heap.objs.size:=aI eo
 refine wpAny_pyIter_dict lo hat ?_
 refine⟨s1.heap.objs.size,[s1.heap.objs.size],_,_,_,rfl,I1.kept (t':=s1.toks) fun b o e=>af _ e,Al d _ o kvs vs ep (aX hdl) rel fun h e=>⟨o,es,e,rest⟩,⟨_,aJ _ rfl,rfl,rfl⟩,fun b hb=>?_,q⟩
 have e:b=s1.heap.objs.size:=by simpa using hb
 subst e
 exact I1.fpOk (au _) (I1.hok.fresh (au _))
end
def lW(C:Addr)(o:Option HO)(f:Str):Option V:=match o with
 |some (.ins C' _ fs)=>if C'=C then fs.lookup f else none
 |_=>none
def kM(C:Addr)(o:Option HO)(m:Str):Bool:=match o with
 |some (.ins C' _ fs)=>decide (C'=C)&&(fs.lookup m).isNone
 |_=>false
def Bd(C:Addr)(f:Str)(ta:TE):TE:=fun σ H Q=>ta σ H fun x H1=>match x with
 | .ref a=>match lW C (H1 a) f with
  |some v=>Q v H1
  |none=>False
 |_=>False
def wG(C:Addr)(f:Str)(ta tv:TE):TS:=fun D σ H=>tv σ H fun y H1=>ta σ H1 fun x H2=>match x with
 | .ref a=>match H2 a with
  |some (.ins C' dx fs)=>C'=C/\fs.length<1000/\D.nx σ (upd H2 a (.ins C dx (i5 f y fs)))
  |_=>False
 |_=>False
def qj(C:Addr)(m:Str)(sp:Sp)(dvs:List V)(E:XK)(ta:TE)(t:TA):TE:=fun σ H Q=>ta σ H fun x H1=>match x with
 | .ref a=>kM C (H1 a) m=true/\t σ H1 fun vs H2=>sp (.ref a::(vs++dvs)) H2 Q E
 |_=>False
section
variable{X:Cx}{C:Addr}
theorem D9{o:Option HO}{f:Str}{v:V}(h:lW C o f=some v):∃dx fs,o=some (.ins C dx fs)/\fs.lookup f=some v:=by
 unfold lW at h
 split at h
 ·split at h
  ·rename_i c;subst c;exact⟨_,_,rfl,h⟩
  ·cases h
 ·cases h
theorem Ej{o:Option HO}{m:Str}(h:kM C o m=true):∃dx fs,o=some (.ins C dx fs)/\fs.lookup m=none:=by
 unfold kM at h
 split at h
 ·rw[cq]at h
  have c:=bC h.1
  subst c
  exact⟨_,_,rfl,Option.isNone_iff_eq_none.mp h.2⟩
 ·cases h
theorem kx{e:Expr}{f:Str}{pos:Pos}{ta:TE}(c:Cls X.K C)(n:jdu X.K C f)(he:PE X e ta)(hb:attributeBase e f X.env (eval e X.env)=eval e X.env):PE X (.Attribute e f pos) (Bd C f ta):=by
 intro pins s σ H Q I h
 refine C5 hb (ix (he pins s σ H _ I h) fun u s1 ⟨x,H1,I1,rx,q⟩=>?_)
 dsimp only at q
 split at q
 ·rename_i a
  split at q
  ·rename_i v hv
   obtain⟨dx,fs,ea,l⟩:=D9 hv
   obtain rfl:u=Value.ref a:=rx
   exact FK I1 ea c n l fun u' s2 I2 ru=>⟨v,H1,I2,ru,q⟩
  ·exact q.elim
 ·exact q.elim
theorem uv{o value:Expr}{f:Str}{pos pos':Pos}{ta tv:TE}(c:Cls X.K C)(n:jdu X.K C f)(ha:PE X o ta)(hv:PE X value tv)(hs:swapsWith value (some (.Attribute o f pos')) pos.line X.env=pure false):PS X (.Assign [.Attribute o f pos'] value pos) (wG C f ta tv):=by
 intro pins s σ H D I h
 refine plainObj_wpAny_Assign_Attribute (ix (hv pins s σ H _ I h) fun u s1 ⟨y,H1,I1,ry,q⟩=>ix (ha pins s1 σ H1 _ I1 q) fun ov s2 ⟨x,H2,I2,rx,q2⟩=>?_) hs
 dsimp only at q2
 split at q2
 ·rename_i a
  split at q2
  ·rename_i C' dx fs ea
   obtain⟨rfl,l,q2⟩:=q2
   obtain rfl:ov=Value.ref a:=rx
   exact FY I2 ea c n l ry fun s3 I3=>⟨σ,_,I3,q2⟩
  ·exact q2.elim
 ·exact q2.elim
theorem zm{m:Str}{sp:Sp}{dvs:List V}{E:XK}{ta:TE}{t:TA}{ex:Expr}(h:PE X ex (tE C m sp dvs E ta t))(hmono:∀pins s σ H Q Q',Inv X pins σ H s->(∀x H1,Q x H1->Q' x H1)->ta σ H Q->ta σ H Q'):PE X ex (qj C m sp dvs E ta t):=by
 intro pins s σ H Q I q
 refine h pins s σ H Q I (hmono pins s σ H _ _ I (fun x H1 q=>?_) q)
 split at q
 ·rename_i a
  obtain⟨dx,fs,e,l⟩:=Ej q.1
  exact⟨a,dx,fs,rfl,e,l,q.2⟩
 ·exact q.elim
theorem uG{i:Nat}:∀(pins:List (Addr×Obj)) s σ H Q Q',Inv X pins σ H s->(∀x H1,Q x H1->Q' x H1)->jU i σ H Q->jU i σ H Q':=by
 intro pins s σ H Q Q' _ h q
 unfold jU at q ⊢
 split
 ·rename_i v e
  rw[e]at q
  exact h _ _ q
 ·rename_i hne
  split at q
  ·rename_i v e;exact absurd e (hne v)
  ·exact q
theorem lM{CX:kD}{k:Nat}{f:Addr}{fd:FuncData}{ps:List Str}{sp:Sp}{dvs:List V}{ds:List Value}{E:XK}{m:Str}{pos apos:Pos}{e o:Expr}{es:List Expr}{i:Nat}{t:TA}{pl:Sem Bool}
  (he:PE X o (jU i)) (c:Cls X.K C) (hm:Meth X.K C m f) (F:FnOk X.prog X.w X.K X.mg X.base CX k f fd ps sp) (hr:Room k X.A) (hb:jek X.K fd ps ds) (hd:Vals dvs ds) (hx:l6 CX X E) (ha:PA X (e::es) t)
  (hst:starEach (e::es) X.env=(false,eval e X.env)::starEach es X.env:=by rfl) (hpl:(backTo pos (starEach es X.env)).any (·.1)=false:=by rfl)
  (ht:eval (.Call (.Attribute o m apos) (e :: es) [] pos) X.env = (do
   let ov <- eval o X.env
   standAt apos.atName
   let (f,first) <- holding [ov] (getMethod ov m pl)
   callWith pos f first (backTo pos (starEach (e::es) X.env)) (backToKw pos (keywordEach [] X.env))):=by rfl):
  PE X (.Call (.Attribute o m apos) (e::es) [] pos) (qj C m sp dvs E (jU i) t):=
 zm (DF (pl:=pl) he c hm F hr hb hd hx ha hst hpl ht) uG
theorem Fo{CX:kD}{k:Nat}{f:Addr}{fd:FuncData}{ps:List Str}{sp:Sp}{dvs:List V}{ds:List Value}{E:XK}{m:Str}{pos apos:Pos}{o:Expr}{i:Nat}{pl:Sem Bool}
  (he:PE X o (jU i)) (c:Cls X.K C) (hm:Meth X.K C m f) (F:FnOk X.prog X.w X.K X.mg X.base CX k f fd ps sp) (hr:Room k X.A) (hb:jek X.K fd ps ds) (hd:Vals dvs ds) (hx:l6 CX X E)
  (ht:eval (.Call (.Attribute o m apos) [] [] pos) X.env = (do
   let ov <- eval o X.env
   standAt apos.atName
   let (f,first) <- holding [ov] (getMethod ov m pl)
   callWith pos f first (backTo pos (starEach [] X.env)) (backToKw pos (keywordEach [] X.env))):=by rfl):
  PE X (.Call (.Attribute o m apos) [] [] pos) (qj C m sp dvs E (jU i) nF):=
 zm (Ep (pl:=pl) he c hm F hr hb hd hx ht) uG
end
section
variable{X:Cx}
def tJ(td ty:TE):TE:=fun σ H Q=>td σ H fun x H1=>match x with
 | .ref a=>(∃kvs,H1 a=some (.dK kvs))/\ty σ H1 fun y H2=>match y with
  | .int n=>match H2 a with
   |some (.dK kvs)=>Q ((iT kvs (Sum.inl n:iq)).getD .non) H2
   |_=>False
  |_=>False
 |_=>False
theorem DL{o e:Expr}{apos cpos:Pos}{td ty:TE}(hu:X.A.units+1<cLine)(ho:PE X o td)(he:PE X e ty)(m:M1 X o "get" apos e cpos:=by exact⟨rfl,rfl,rfl,rfl⟩):PE X (.Call (.Attribute o "get" apos) [e] [] cpos) (tJ td ty):=by
 intro pins s σ H Q I h
 refine wpAny_Call_method m.base m.few m.line fi fM PySem.F.type_dict_get (ix (ho pins s σ H _ I h) fun u s1 ⟨x,H1,I1,rx,q1⟩=>?_)
 dsimp only at q1
 split at q1
 ·rename_i a
  obtain⟨⟨kvs0,e0⟩,q1⟩:=q1
  obtain rfl:u=Value.ref a:=rx
  obtain⟨t1,t2,_⟩:=tN I1 (.inl ⟨kvs0,.inl e0⟩)
  refine⟨t1,t2,?_⟩
  rw[m.trees]
  refine c7 rfl (fQ (dH (ix (he pins s1 σ H1 _ I1 q1) fun iv s2 ⟨y,H2,I2,ry,q2⟩=>eV ?_)))
  dsimp only at q2
  split at q2
  ·rename_i n
   split at q2
   ·rename_i kvs ea
    exact Hw hu I2 (DGet.k (k:=Sum.inl n) ea) ry fun w' s3 I3 rw'=>⟨_,H2,I3,rw',q2⟩
   ·exact q2.elim
  ·exact q2.elim
 ·exact q1.elim
def tL(i:Nat):TE:=fun σ H Q=>match σ[i]? with
 |some (some (.int n))=>∀p,H p=none->Q (.ref p) (upd H p (.dK [(Sum.inl n,.non)]))
 |_=>False
theorem DR{H:Hp}{p:Addr}{a b:HO}:upd (upd H p a) p b=upd H p b:=by
 funext x
 by_cases c:x=p
 ·rw[c,ij,ij]
 ·rw[ir c,ir c,ir c]
theorem Eo{pos:Pos}{k v:Expr}{i:Nat}(hk:PE X k (jU i))(hv:PE X v (tC .non)):PE X (.Dict [some k] [v] pos) (tL i):=by
 intro pins s σ H Q I q
 refine uo (uI hk hv uu) rfl rfl (fun z=>nomatch z) (de rfl) pins s σ H Q I ?_
 intro p hp
 unfold tL at q
 split at q
 ·rename_i n e
  show jU i σ (upd H p (.dK [])) _
  unfold jU
  rw[e]
  show tC V.non σ _ _
  refine⟨ij,[(Sum.inl n,.non)],rfl,de rfl,?_⟩
  rw[DR]
  exact q p hp
 ·exact q.elim
def sU:V->V->Hp->VK->Prop:=fun o i H Q=>match o,i with
 | .ref p,.int k=>match H p with
  |some (.lst xs)=>0<=k/\match i7 xs k with
   |some v=>Q v H
   |none=>False
  |_=>False
 |_,_=>False
theorem zZ:Bq X sU:=by
 intro pins s σ H o i ov iv Q I ro ri h
 unfold sU at h
 split at h
 ·rename_i p k
  split at h
  ·rename_i xs hp
   obtain⟨k0,h⟩:=h
   split at h
   ·rename_i v hv
    cases ro
    obtain⟨t,rfl⟩:=ri
    obtain⟨its,r,pl,hz⟩:=I.list (SqL.of hp)
    obtain⟨j,h1,h2,h3,h4,h5⟩:=ub hv
    obtain⟨w,ew,rw'⟩:=r.get h2
    have hn:=nM
    have hj:k.toNat=j:=by
     rw[gT k0 h5]at h1
     exact aL h1
    exact wpAny_getItem_list pl.isList k0 (by lia) (by rw[hj];simpa using ew) ⟨v,H,I,rw',h⟩
   ·exact h.elim
  ·exact h.elim
 ·exact h.elim
def sM:mi:=fun x y H Q=>match x,y with
 | .int i,.int j=>Q (.int (i-j)) H
 |_,_=>False
def sL:mi:=fun x y H Q=>match x,y with
 | .int i,.int j=>Q (.int (i+j)) H
 |_,_=>False
theorem Do:oi X .Sub sM:=by
 intro pins s σ H x y v u Q I r1 r2 h
 unfold sM at h
 split at h
 ·rename_i i j
  obtain⟨t,rfl⟩:=(show ∃t,v=Value.int i t from r1)
  obtain⟨t',rfl⟩:=(show ∃t,u=Value.int j t from r2)
  exact PyProof.Rows.isub_int ⟨.int (i-j),H,I.tok _,⟨_,rfl⟩,h⟩
 ·exact h.elim
theorem Dm:oi X .Add sL:=by
 intro pins s σ H x y v u Q I r1 r2 h
 unfold sL at h
 split at h
 ·rename_i i j
  obtain⟨t,rfl⟩:=(show ∃t,v=Value.int i t from r1)
  obtain⟨t',rfl⟩:=(show ∃t,u=Value.int j t from r2)
  exact PyProof.Rows.iadd_int ⟨.int (i+j),H,I.tok _,⟨_,rfl⟩,h⟩
 ·exact h.elim
def vm:R2:=fun x y H Q=>match x,y with
 | .int i,.int j=>Q (.int (Builtin.bitXor i j)) H
 |_,_=>False
theorem tq:OpR X (binaryOp .BitXor) vm:=by
 intro pins s σ H x y v u Q I r1 r2 h
 unfold vm at h
 split at h
 ·rename_i i j
  obtain⟨t,rfl⟩:=(show ∃t,v=Value.int i t from r1)
  obtain⟨t',rfl⟩:=(show ∃t,u=Value.int j t from r2)
  exact PyProof.Rows.xor_int ⟨.int (Builtin.bitXor i j),H,I.tok _,⟨_,rfl⟩,h⟩
 ·exact h.elim
theorem DX(w:Nat):Builtin.bitXor (w:Int) 1=((if w%2=0 then w+1 else w-1:Nat):Int):=by
 have h1:(w|||1:Nat)=2*(w/2)+1:=by
  have a:=Nat.or_div_two (a:=w) (b:=1)
  have b:(w|||1)%2=1:=by rw[Nat.or_mod_two_eq_one];right;rfl
  rw[show 1/2=0 from rfl,Nat.or_zero]at a
  lia
 have h2:(w&&& 1:Nat)=w%2:=Nat.and_one_is_mod w
 have n1:¬(0:Int)<= -(w:Int)-1:=by lia
 have e:Builtin.bitXor (w:Int) 1=((w|||1:Nat):Int)-((w&&& 1:Nat):Int):=by
  unfold Builtin.bitXor Builtin.bitOr Builtin.bitAnd Builtin.bitNot
  simp only[aK n1,show decide ((0:Int)<= -(1:Int)-1)=false from rfl,show decide ((0:Int)<=(w:Int))=true from aD (by lia),show decide ((0:Int)<=1)=true from rfl]
  simp only[show(-(-(w:Int)-1)-1).toNat=w by lia,show(-(-(1:Int)-1)-1).toNat=1 from rfl,show((w:Int)).toNat=w from rfl,show((1:Int)).toNat=1 from rfl]
  lia
 rw[e,h1,h2]
 split<;>lia
def jq{α:Type}:Bool->List α->List α
 |_,[]=>[]
 |true,x::xs=>x::jq false xs
 |false,_::xs=>jq true xs
def Bj(b:Bool)(te:TE):TE:=fun σ H Q=>te σ H fun x H1=>match x with
 | .ref a=>match H1 a with
  |some (.lst xs)=>∀p,H1 p=none->Q (.ref p) (upd H1 p (.lst (jq b xs)))
  |_=>False
 |_=>False
theorem uQ:∀(b:Bool) {vs:List V} {us:List Value},Vals vs us->Vals (jq b vs) (jq b us)
 |_,_,_,.nil=>by cases ‹Bool›<;>exact .nil
 |true,_,_,.cons r t=>.cons r (uQ false t)
 |false,_,_,.cons _ t=>uQ true t
theorem tZ{α:Type}:∀(b:Bool) (xs:List α),(jq b xs).length<=xs.length
 |true,[]=>au _
 |false,[]=>au _
 |true,x::xs=>by have:=tZ false xs;show(jq false xs).length+1<=xs.length+1;lia
 |false,x::xs=>by have:=tZ true xs;show(jq true xs).length<=xs.length+1;lia
theorem oP{α:Type}:∀(b:Bool) (xs:List α) (i:Nat),(jq b xs)[i]? =xs[2*i+(if b then 0 else 1)]?
 |true,[],i=>by simp[jq]
 |false,[],i=>by simp[jq]
 |true,x::xs,0=>rfl
 |true,x::xs,i+1=>by
  show(jq false xs)[i]? =_
  rw[oP false xs i,az rfl,ay (by decide),show 2*(i+1)+0=(2*i+1)+1 by lia,List.getElem?_cons_succ]
 |false,x::xs,i=>by
  show(jq true xs)[i]? =_
  rw[oP true xs i,az rfl,ay (by decide),List.getElem?_cons_succ]
  rfl
theorem Es(its:List Value)(b:Bool)(hb:b=false->0<its.length):slicePick its.toArray (some (if b then 0 else 1)) none (some 2)=(jq b its).toArray:=by
 unfold slicePick
 congr 1
 have h1:sliceBounds (some (if b then 0 else 1)) none (some 2) its.toArray.size=(((if b then 0 else 1:Nat):Int),(its.length:Int),2):=by
  cases b
  ·have:=hb rfl
   simp[sliceBounds]
   lia
  ·simp[sliceBounds]
   lia
 rw[h1]
 dsimp only
 have h2:∀c:Nat,sliceRange ((c:Nat):Int) (its.length:Int) 2=(List.range ((its.length+1-c)/2)).map fun k=>c+2*k:=fun c=>by
  unfold sliceRange
  dsimp only
  rw[az (by decide)]
  have e:(if(c:Int)<(its.length:Int)then((its.length:Int)-c+2-1)/2 else 0).toNat=(its.length+1-c)/2:=by
   split<;>lia
  rw[e]
  exact fW fun k _=>by lia
 rw[h2,eO]
 have h3:∀(l:List Nat),(∀k∈l,(if b then 0 else 1)+2*k<its.length)->l.filterMap ((fun x=>its.toArray[x]?)∘fun k=>(if b then 0 else 1)+2*k)=l.map fun k=>its.getD ((if b then 0 else 1)+2*k) .none:=fun l=>by
  induction l with
  |nil=>intro _;rfl
  | cons k r ih=>
   intro hk
   have hk0:=hk k (.head _)
   rw[List.filterMap_cons]
   have e:((fun x=>its.toArray[x]?)∘fun k=>(if b then 0 else 1)+2*k) k=some (its.getD ((if b then 0 else 1)+2*k) .none):=by
    show its.toArray[(if b then 0 else 1)+2*k]? =_
    rw[List.getElem?_toArray,bc,gE hk0]
    rfl
   rw[e]
   dsimp only
   rw[aw,ih fun j hj=>hk j (.tail _ hj)]
 rw[h3 _ fun k hk=>by have:=bK.mp hk;cases b<;>simp only[if_true,if_false,aG]at this ⊢ <;>lia]
 apply dW
 intro i
 rw[oP,aA]
 by_cases c:2*i+(if b then 0 else 1)<its.length
 ·rw[eJ (by cases b<;>simp only[if_true,if_false,aG]at c ⊢ <;>lia)]
  show some (its.getD _ .none)=_
  rw[bc,Nat.add_comm,gE c]
  rfl
 ·rw[bF (by rw[bS];cases b<;>simp only[if_true,if_false,aG]at c ⊢ <;>lia),bF (by lia)]
  rfl
theorem Cq{b:Bool}{c:Int}(hc:c=if b then 0 else 1){e:Expr}{te:TE}{k k2:Nat}{z1 z2 p2 pos:Pos}(he:PE X e te):PE X (.Subscript e (.Slice (some (.Constant (.int c) k2 z2)) none (some (.Constant (.int 2) k z1)) p2) pos) (Bj b te):=by
 intro pins s σ H Q I h
 refine hV (ix (he pins s σ H _ I h) fun v s1 ⟨x,H1,I1,r1,q1⟩=>?_)
 refine wpAny_Slice ?_
 simp only[evalPart_none]
 rw[evalPart_some]
 refine ix ((ip (i:=c) (j:=k2) (pos:=z2):PE X _ _) pins s1 σ H1 (fun y H2=>y= .int c/\H2=H1) I1 ⟨rfl,rfl⟩) fun st s2 ⟨y,H2,I2,r2,ey,eh⟩=>?_
 subst ey eh
 obtain⟨t1,rfl⟩:=r2
 refine av ?_
 rw[evalPart_some]
 refine ix ((ip (i:=2) (j:=k) (pos:=z1):PE X _ _) pins s2 σ H2 (fun y H3=>y= .int 2/\H3=H2) I2 ⟨rfl,rfl⟩) fun st s3 ⟨y,H3,I3,r3,ey,eh⟩=>?_
 subst ey eh
 obtain⟨t2,rfl⟩:=r3
 split at q1
 ·rename_i a
  split at q1
  ·rename_i xs ea
   cases r1
   have I4:Inv X pins σ H3 {s3 with heap:=s3.heap.push {cls:=.type "slice",data:=.fields #[.int c t1,.none,.int 2 t2]}}:=I3.kept (t':=s3.toks) fun b ob q=>af _ q
   obtain⟨its,r,ht,hz⟩:=I4.list (SqL.of ea)
   have hlen:=r.length
   show wpAny (model X.prog X.w) X.A (subscriptTail e (.Slice (some (.Constant (.int c) k2 z2)) none (some (.Constant (.int 2) k z1)) p2) (.ref a) (.ref s3.heap.objs.size)) (EP X pins σ Q) X.xe {s3 with heap:=s3.heap.push {cls:=.type "slice",data:=.fields #[.int c t1,.none,.int 2 t2]}}
   refine tail_any (ops:=[.ref a,.ref s3.heap.objs.size]) ht.isList.typeIs gp.lookup ?_ (by with_unfolding_all rfl)
   refine wpAny_getItem_list_slice ht.isList (Heap.IsSliceOf.new ..) (.int _ t1) .none (.int 2 t2) (by decide) ?_ (by rw[aq]<;>lia)
   by_cases hb:b=false->0<its.length
   ·rw[show slicePick its.toArray (some c) none (some 2)=(jq b its).toArray from by rw[hc];exact Es _ _ hb]
    refine⟨.ref _,_,I4.laid (t':=s3.toks) (o:=.lst (jq b xs)) (fun b ob q=>af _ q) (au _) ?_,rfl,q1 _ (I4.hok.fresh (au _))⟩
    exact⟨by have:=tZ b xs;lia,_,0,uQ b r,aJ _ rfl⟩
   ·have hi:its=[]:=cu fun z=>hb fun _=>List.length_pos_iff.mpr z
    have hx:xs=[]:=List.length_eq_zero_iff.mp (by rw[hi]at hlen;exact hlen)
    subst hi hx
    have e2:jq b ([]:List V)=[]:=by cases b<;>rfl
    rw[e2]at q1
    have e3:slicePick ([]:List Value).toArray (some c) none (some 2)=([]:List Value).toArray:=by rw[hc];cases b<;>rfl
    rw[e3]
    refine⟨.ref _,_,I4.laid (t':=s3.toks) (o:=.lst []) (fun b ob q=>af _ q) (au _) ?_,rfl,q1 _ (I4.hok.fresh (au _))⟩
    exact⟨bw _,_,0,.nil,aJ _ rfl⟩
  ·exact q1.elim
 ·exact q1.elim
def oF(ta:TE):TT:=fun σ H Q=>ta σ H fun x H1=>match x with
 | .ref a=>match H1 a with
  |some (.lst xs)=>Q (!xs.isEmpty) H1
  |_=>False
 |_=>False
theorem yD {a:Expr} {i:Nat} (ha:PE X a (jU i)) (he:∀ whole,isTrue a X.env whole = (do let v <- whole; standAt a.pos; holding [v] (truthy v)):=by exact fun _=>rfl):PT X a (oF (jU i)):=by
 intro pins s σ H Q I h
 refine Eu ha he pins s σ H Q I ?_
 show jU i σ H _
 have h:jU i σ H _:=h
 refine uG pins s σ H _ _ I (fun x H1 q=>?_) h
 split at q
 ·rename_i a
  split at q
  ·rename_i xs e
   exact⟨_,.inl ⟨xs,SqL.of e,rfl⟩,q⟩
  ·exact q.elim
 ·exact q.elim
end
end L2
namespace My
open PySem L2
theorem BP:(0<=sizeLine)=True:=eq_true (by decide)
theorem BO:(1<=sizeLine)=True:=eq_true (by decide)
theorem oo:(2<=sizeLine)=True:=eq_true (by decide)
theorem BN:(3<=sizeLine)=True:=eq_true (by decide)
theorem BM:(4<=sizeLine)=True:=eq_true (by decide)
end My
local macro_rules | `(tactic| walk_at "SC") => `(tactic| exact ⟨rfl,rfl,rfl,by decide +kernel,rfl,by decide +kernel,by decide +kernel⟩)
local macro_rules | `(tactic| simp_arith [$args,*]) => do
 let l<-("L2.Bc L2.Ho L2.pX L2.wb L2.wj L2.vX L2.BG L2.we L2.p6 L2.kG L2.vE L2.mO L2.vT L2.tC L2.jU L2.fI L2.fIC L2.Bb L2.vB L2.vt L2.oa L2.oK L2.Bi L2.Hn L2.Ba L2.fB L2.vZ L2.wt L2.vY L2.xr L2.vz L2.rQ L2.uf L2.vv L2.vw L2.pL L2.vo L2.vW L2.A9 L2.yV L2.ue L2.Bh L2.sP L2.A8 L2.sy L2.tM L2.sH L2.Hq L2.Hr L2.xP L2.xW L2.vD L2.tI L2.Bg L2.vn L2.sO L2.wo L2.vC L2.Be L2.vA L2.Hs L2.tK L2.vy L2.wm L2.pZ L2.qx L2.nF L2.vU L2.wd L2.wg L2.vV L2.Kd.nm L2.lZ aw bV List.length_cons List.length_nil Nat.reduceAdd Nat.reduceSub List.replicate_succ List.replicate_zero List.getElem?_cons_zero List.getElem?_cons_succ List.set_cons_zero List.set_cons_succ bq List.nil_append List.cons_append eq_self true_and and_true if_true aG if_false cz di id_eq My.BP My.BO My.oo My.BN My.BM L2.wc L2.wq L2.Bd L2.qj L2.sL L2.oF L2.tL L2.vm L2.tJ L2.wG L2.sU L2.sM L2.Bj".splitOn " ").toArray.mapM fun s=>`(Lean.Parser.Tactic.simpLemma| $(Lean.mkIdent s.toName):ident)
 `(tactic| try simp only [$l,*,$args,*])
local macro_rules | `(tactic| walk_at "D") => `(tactic| simp_arith [L2.Bc])
namespace My
open PySem L2
theorem sd{n:Nat}(h:n<=1000):n<=sizeLine:=bo h (by decide)
theorem iW{n:Nat}(h:n<=1000):n<sizeLine:=gg h (by decide)
def iw(i:Nat):Stmt:=PySem.Challenge.pw_touchall_k60_pairings_pay.main.body.getD i (.Pass ⟨0,0,0,0⟩)
structure DefAt(K:PySem.W.Frag)(mg:Str->Option Value)(x:Str)(st:Stmt)(ps:List Str)(f:Addr)(fd:FuncData):Prop where
 F:Fun K x x st f fd
 b:jek K fd ps []
 m:mg x=some (.ref f)
structure Blt(mg:Str->Option Value):Prop where
 len:mg "len"=none
 isinstance:mg "isinstance"=none
 all:mg "all"=none
 min:mg "min"=none
 list:mg "list"=none
 dict:mg "dict"=none
 int:mg "int"=none
 bool:mg "bool"=none
 str:mg "str"=none
 tuple:mg "tuple"=none
 range:mg "range"=none
 enumerate:mg "enumerate"=none
 zip:mg "zip"=none
 max:mg "max"=none
 any:mg "any"=none
 sum:mg "sum"=none
 sorted:mg "sorted"=none
 set:mg "set"=none
structure Cst(mg:Str->Option Value)(t1 t2 t3 t4:Tok):Prop where
 MOST_PLACES:mg "MOST_PLACES"=some (.int 40 t1)
 MOST_TIES:mg "MOST_TIES"=some (.int 120 t2)
 LAST_PLACE:mg "LAST_PLACE"=some (.int 999 t3)
 MOST_PRICE:mg "MOST_PRICE"=some (.int 1000000000000 t4)
section
variable{P:Program}{w:World}{K:PySem.W.Frag}{mg:Str->Option Value}{base:Heap}{c1 c2 c3 c4:Tok}
theorem i3{α:Type}{x:α}{r:List α}:i7 (x::r) 0=some x:=by
 have e:i7 (x::r) ((0:Nat):Int)=some x:=kH rfl
 exact e
theorem jh{α:Type}{x y:α}{r:List α}:i7 (x::y::r) 1=some y:=by
 have e:i7 (x::y::r) ((1:Nat):Int)=some y:=kH rfl
 exact e
theorem kR{α:Type}{x y z:α}{r:List α}:i7 (x::y::z::r) 2=some z:=by
 have e:i7 (x::y::z::r) ((2:Nat):Int)=some z:=kH rfl
 exact e
def nO:Kd->Bool
 | .int=>true
 |_=>false
def pe:Sp:=fun vs H Q _=>∃x k,vs=[x]/\kd H x=some k/\Q (.bl (nO k)) H
def uW:Sp:=fun vs H Q _=>∃a xs m,vs=[.ref a,.int m]/\H a=some (.tup xs)/\Q (.bl (decide ((xs.length:Int)=m))) H
def u9:Sp:=fun vs H Q _=>∃a xs m,vs=[.ref a,.int m]/\H a=some (.lst xs)/\Q (.bl (decide ((xs.length:Int)<=m))) H
def tW:Sp:=fun vs H Q _=>∃x p,vs=[x]/\Pr H x p/\Q (.bl true) H
def AY:Sp:=fun vs H Q _=>∃x p l s,vs=[x,.int l,.int s]/\Pr H x p/\(l<p.1/\p.1<=999/\1<=p.2/\p.2<=1000000000000-s)/\Q (.bl true) H
def jA(kvs:List (iq×V))(n:Int):Bool:=(iT kvs (Sum.inl n:iq)).isSome
def AO:Sp:=fun vs H Q _=>∃x p y q d kvs,vs=[x,y,.ref d]/\Pr H x p/\Pr H y q/\H d=some (.dK kvs)/\(HT.lexLt [q.1,q.2] [p.1,p.2]=true/\p.1<p.2/\jA kvs p.1=true/\jA kvs p.2=true)/\Q (.bl true) H
theorem Ga(B:Blt mg)(D:DefAt K mg "is_whole" (iw 11) ["thing"] f fd):FnOk P w K mg base iE 1 f fd ["thing"] pe:=by
 have sc:FnScope ["thing"] ["thing"] (iU (iw 11)):=by walk_at "SC"
 refine D.F.ok sc (fun vs H Q E h=>?_) (fun cdv A outer s H vs Q E hr h=>?_)
 ·obtain⟨x,k,rfl,_⟩:=h
  rfl
 obtain⟨x,k,rfl,ek,h⟩:=h
 have hu:=i8 hr
 have hu0:_<PySem.cLine:=aF hu
 refine⟨_,(iB (iP (lE (jg (lF .int) rfl B.isinstance bx (ig (qv 0) (ig (lL (v:=.ty "int") rfl B.int da rfl) ik))) (ng (wN (jg (lF .bl) rfl B.isinstance bx (ig (qv 0) (ig (lL (v:=.ty "bool") rfl B.bool PyProof.Rows.boot_bool rfl) ik)))))))),?_⟩
 simp_arith[ek]
 cases k<;>simpa only[lO,nO,if_true,if_false,aG,cz,di]using h
theorem GQ(B:Blt mg)(D:DefAt K mg "is_tuple_of" (iw 12) ["thing","many"] f fd):FnOk P w K mg base iE 1 f fd ["thing","many"] uW:=by
 have sc:FnScope ["thing","many"] ["thing","many"] (iU (iw 12)):=by walk_at "SC"
 refine D.F.ok sc (fun vs H Q E h=>?_) (fun cdv A outer s H vs Q E hr h=>?_)
 ·obtain⟨a,xs,m,rfl,_⟩:=h
  rfl
 obtain⟨a,xs,m,rfl,ea,h⟩:=h
 have hu:=i8 hr
 have hu0:_<PySem.cLine:=aF hu
 refine⟨_,(iB (iP (lE (jg (lF .tup) rfl B.isinstance bx (ig (qv 0) (ig (lL (v:=.ty "tuple") rfl B.tuple fj rfl) ik))) (ng (ly kF (jg kW rfl B.len bQ (ig (qv 0) ik)) (qv 1) (iQ _)))))),?_⟩
 simp_arith[kd,ea,iD,lO]
 exact h
theorem G4(B:Blt mg)(D:DefAt K mg "is_list_up_to" (iw 14) ["thing","most"] f fd):FnOk P w K mg base iE 1 f fd ["thing","most"] u9:=by
 have sc:FnScope ["thing","most"] ["thing","most"] (iU (iw 14)):=by walk_at "SC"
 refine D.F.ok sc (fun vs H Q E h=>?_) (fun cdv A outer s H vs Q E hr h=>?_)
 ·obtain⟨a,xs,m,rfl,_⟩:=h
  rfl
 obtain⟨a,xs,m,rfl,ea,h⟩:=h
 have hu:=i8 hr
 have hu0:_<PySem.cLine:=aF hu
 refine⟨_,(iB (iP (lE (jg (lF .lst) rfl B.isinstance bx (ig (qv 0) (ig (lL (v:=.ty "list") rfl B.list bU rfl) ik))) (ng (ly qc (jg kW rfl B.len bQ (ig (qv 0) ik)) (qv 1) (iQ _)))))),?_⟩
 simp_arith[kd,ea,iD,lO]
 exact h
theorem G8(B:Blt mg)(D:DefAt K mg "is_pair_of_wholes" (iw 13) ["thing"] f fd)(Dqd:DefAt K mg "is_tuple_of" (iw 12) ["thing","many"] fqd dqd)(Gqd:FnOk P w K mg base iE 1 fqd dqd ["thing","many"] uW)(Dql:DefAt K mg "is_whole" (iw 11) ["thing"] fql dql)(Gql:FnOk P w K mg base iE 1 fql dql ["thing"] pe):FnOk P w K mg base iE 2 f fd ["thing"] tW:=by
 have sc:FnScope ["thing"] ["thing"] (iU (iw 13)):=by walk_at "SC"
 refine D.F.ok sc (fun vs H Q E h=>?_) (fun cdv A outer s H vs Q E hr h=>?_)
 ·obtain⟨x,p,rfl,_⟩:=h
  rfl
 obtain⟨x,p,rfl,⟨a,rfl,ea⟩,h⟩:=h
 have hu:=i8 hr
 have hu0:_<PySem.cLine:=aF hu
 refine⟨_,(iB (iP (lE (iN Gqd (hr.mono (by decide)) rfl Dqd.m Dqd.F.kp Dqd.b .nil iI (ig (qv 0) (ig ip ik))) (lE (iN Gql (hr.mono (by decide)) rfl Dql.m Dql.F.kp Dql.b .nil iI (ig (iz iA (qv 0) ip (fun _ _=>rfl)) ik)) (ng (iN Gql (hr.mono (by decide)) rfl Dql.m Dql.F.kp Dql.b .nil iI (ig (iz iA (qv 0) ip (fun _ _=>rfl)) ik))))))),?_⟩
 simp_arith[iD,ea,i3,jh]
 refine⟨a,_,2,rfl,ea,?_⟩
 simp_arith[iD,ea,i3,jh,Int.cast_ofNat_Int,cD]
 refine⟨_,.int,rfl,rfl,?_⟩
 simp_arith[nO,iD,ea,i3,jh]
 exact⟨_,.int,rfl,rfl,h⟩
theorem GY(B:Blt mg)(C:Cst mg c1 c2 c3 c4)(D:DefAt K mg "place_stands" (iw 21) ["thing","last","spent"] f fd)(Dqc:DefAt K mg "is_pair_of_wholes" (iw 13) ["thing"] fqc dqc)(Gqc:FnOk P w K mg base iE 2 fqc dqc ["thing"] tW):FnOk P w K mg base iE 3 f fd ["thing","last","spent"] AY:=by
 have sc:FnScope ["thing","last","spent"] ["thing","last","spent"] (iU (iw 21)):=by walk_at "SC"
 refine D.F.ok sc (fun vs H Q E h=>?_) (fun cdv A outer s H vs Q E hr h=>?_)
 ·obtain⟨x,p,l,s,rfl,_⟩:=h
  rfl
 obtain⟨x,p,l,sp,rfl,hp,⟨b1,b2,b3,b4⟩,h⟩:=h
 obtain⟨a,rfl,ea⟩:=id hp
 have hu:=i8 hr
 have hu0:_<PySem.cLine:=aF hu
 refine⟨_,(iu (je (kl (ke (iN Gqc (hr.mono (by decide)) rfl Dqc.m Dqc.F.kp Dqc.b .nil iI (ig (qv 0) ik)))) (iB (iP ku)) jf) (iB (iP (lE (yE lU qc (qv 1) (iz iA (qv 0) ip (fun _ _=>rfl)) (kX (v:=.int 999) rfl C.LAST_PLACE ⟨_,rfl⟩)) (ng (yE qc qc ip (iz iA (qv 0) ip (fun _ _=>rfl)) (iO oN (kX (v:=.int 1000000000000) rfl C.MOST_PRICE ⟨_,rfl⟩) (qv 2)))))))),?_⟩
 walk_at "D"
 refine⟨_,p,rfl,hp,?_⟩
 simp_arith[iD,ea,i3,jh,aD b1,aD b2,aD b3,aD b4]
 exact h
theorem GJ(B:Blt mg)(D:DefAt K mg "tie_stands" (iw 22) ["thing","last","prices"] f fd)(Dqc:DefAt K mg "is_pair_of_wholes" (iw 13) ["thing"] fqc dqc)(Gqc:FnOk P w K mg base iE 2 fqc dqc ["thing"] tW):FnOk P w K mg base iE 3 f fd ["thing","last","prices"] AO:=by
 have sc:FnScope ["thing","last","prices"] ["thing","last","prices"] (iU (iw 22)):=by walk_at "SC"
 refine D.F.ok sc (fun vs H Q E h=>?_) (fun cdv A outer s H vs Q E hr h=>?_)
 ·obtain⟨x,p,y,q,d,kvs,rfl,_⟩:=h
  rfl
 obtain⟨x,p,y,q,d,kvs,rfl,hp,hq,hd,⟨b1,b2,b3,b4⟩,h⟩:=h
 obtain⟨a,rfl,ea⟩:=id hp
 obtain⟨b,rfl,eb⟩:=id hq
 unfold jA at b3 b4
 have hu:=i8 hr
 have hu0:_<PySem.cLine:=aF hu
 refine⟨_,(iu (je (kl (ke (iN Gqc (hr.mono (by decide)) rfl Dqc.m Dqc.F.kp Dqc.b .nil iI (ig (qv 0) ik)))) (iB (iP ku)) jf) (iB (iP (lE (ly (Cf hu0) (qv 1) (qv 0) (iQ _)) (lE (ly lU (iz iA (qv 0) ip (fun _ _=>rfl)) (iz iA (qv 0) ip (fun _ _=>rfl)) (iQ _)) (lE (qE (my hu (iz iA (qv 0) ip (fun _ _=>rfl)) (qv 2))) (ng (qE (my hu (iz iA (qv 0) ip (fun _ _=>rfl)) (qv 2)))))))))),?_⟩
 walk_at "D"
 refine⟨_,p,rfl,hp,?_⟩
 simp_arith[iD,ea,eb,hd,i3,jh,b1,aD b2,b3,b4]
 exact h
def PlOk:Int->Int->List (Int×Int)->Prop
 |_,_,[]=>True
 |l,s,p::r=>(l<p.1/\p.1<=999/\1<=p.2/\p.2<=1000000000000-s)/\PlOk p.1 (s+p.2) r
def iR(ps:List (Int×Int)):List (iq×V):=ps.map fun p=>(Sum.inl p.1,V.int p.2)
def TiOk(kvs:List (iq×V)):Int×Int->List (Int×Int)->Prop
 |_,[]=>True
 |q,p::r=>(HT.lexLt [q.1,q.2] [p.1,p.2]=true/\p.1<p.2/\jA kvs p.1=true/\jA kvs p.2=true)/\TiOk kvs p r
structure WebOk(ps ts:List (Int×Int)):Prop where
 pl:ps.length<=40
 p:PlOk (-1) 0 ps
 tl:ts.length<=120
 t:TiOk (iR ps) (-1,-1) ts
def jc3(H:Hp)(v:V)(ps ts:List (Int×Int)):Prop:=
 ∃u pa ta xs ys,v= .ref u/\H u=some (.tup [.ref pa,.ref ta])/\H pa=some (.lst xs)/\H ta=some (.lst ys)/\Prs H xs ps/\Prs H ys ts
theorem jc3.same{H H':Hp}{v:V}{ps ts:List (Int×Int)}(h:jc3 H v ps ts)(s:Same H H'):jc3 H' v ps ts:=by
 obtain⟨u,pa,ta,xs,ys,e,h1,h2,h3,h4,h5⟩:=h
 exact⟨u,pa,ta,xs,ys,e,s _ _ h1,s _ _ h2,s _ _ h3,Prs.same s h4,Prs.same s h5⟩
theorem PlOk.gt:∀{ps:List (Int×Int)} {l s:Int},PlOk l s ps->∀p∈ps,l<p.1
 |[],_,_,_,_,h=>by cases h
 | q::r,l,s,h,p,hp=>by
  rcases aU.mp hp with e|hp
  ·rw[e];exact h.1.1
  ·have:=PlOk.gt h.2 p hp
   have:=h.1.1
   lia
theorem PlOk.nodup:∀{ps:List (Int×Int)} {l s:Int},PlOk l s ps->(ps.map (·.1)).Nodup
 |[],_,_,_=>eN
 |q::r,l,s,h=>by
  rw[aw]
  refine bz.mpr ⟨fun hm=>?_,PlOk.nodup h.2⟩
  obtain⟨p,hp,e⟩:=aE.mp hm
  have:=PlOk.gt h.2 p hp
  lia
theorem Av{ps:List (Int×Int)}(h:(ps.map (·.1)).Nodup):((iR ps).map (·.1)).Nodup:=by
 unfold iR
 rw[bD]
 have e:((fun(x:iq×V)=>x.1)∘fun(p:Int×Int)=>((Sum.inl p.1:iq),V.int p.2))=(fun(n:Int)=>(Sum.inl n:iq))∘fun(p:Int×Int)=>p.1:=rfl
 rw [e,<- bD]
 unfold List.Nodup at h ⊢
 rw[cw]
 exact h.imp fun q z=>q (cE z)
theorem uH{H:Hp}:∀{xs:List V} {ps:List (Int×Int)},Prs H xs ps->Paired (PairAt H) xs (iR ps)
 |_,_,.nil=>.nil
 |_,_,.cons r t=>by
  obtain⟨a,e,q⟩:=r
  exact .cons ⟨a,e,q⟩ (uH t)
theorem pA:∀{ps:List (Int×Int)} {p:Int×Int},(ps.map (·.1)).Nodup->p∈ps->iT (iR ps) (Sum.inl p.1:iq)=some (.int p.2)
 |[],_,_,h=>by cases h
 | q::r,p,hn,h=>by
  rw[aw]at hn
  unfold iR iT
  rw[aw,List.find?_cons]
  rcases aU.mp h with e|h
  ·rw[e]
   simp
  ·have hne:q.1≠p.1:=fun z=>(bz.mp hn).1 (by rw[z];exact aW h)
   have hd:decide ((Sum.inl q.1:iq)=Sum.inl p.1)=false:=aK fun z=>hne (cE z)
   dsimp only
   rw[hd]
   exact pA (bz.mp hn).2 h
theorem yk{ps:List (Int×Int)}{p:Int×Int}(hn:(ps.map (·.1)).Nodup)(h:p∈ps):jA (iR ps) p.1=true:=by
 unfold jA
 rw[pA hn h]
 rfl
def AV:Sp:=fun vs H Q _=>∃a xs ps,vs=[.ref a]/\H a=some (.lst xs)/\Prs H xs ps/\ps.length<=40/\PlOk (-1) 0 ps/\∀H',Same H H'->Q .non H'
def AD:Sp:=fun vs H Q _=>∃a d xs ts kvs,vs=[.ref a,.ref d]/\H a=some (.lst xs)/\H d=some (.dK kvs)/\Prs H xs ts/\ts.length<=120/\TiOk kvs (-1,-1) ts/\∀H',Same H H'->Q .non H'
def Ag:Sp:=fun vs H Q _=>∃v ps ts,vs=[v]/\jc3 H v ps ts/\WebOk ps ts/\∀H',Same H H'->Q .non H'
theorem G7(B:Blt mg)(C:Cst mg c1 c2 c3 c4)(D:DefAt K mg "look_at_places" (iw 23) ["places"] f fd)(Dqb:DefAt K mg "is_list_up_to" (iw 14) ["thing","most"] fqb dqb)(Gqb:FnOk P w K mg base iE 1 fqb dqb ["thing","most"] u9)(Dq4:DefAt K mg "place_stands" (iw 21) ["thing","last","spent"] fq4 dq4)(Gq4:FnOk P w K mg base iE 3 fq4 dq4 ["thing","last","spent"] AY):FnOk P w K mg base iE 4 f fd ["places"] AV:=by
 have sc:FnScope ["places","last","spent","number","thing"] ["places"] (iU (iw 23)):=by walk_at "SC"
 refine D.F.ok sc (fun vs H Q E h=>?_) (fun cdv A outer s H vs Q E hr h=>?_)
 ·obtain⟨a,xs,ps,rfl,_⟩:=h
  rfl
 obtain⟨a,xs,ps,rfl,ea,hp,hl,ok,h⟩:=h
 have hlx:xs.length=ps.length:=aO hp
 have hu:=i8 hr
 have hu0:_<PySem.cLine:=aF hu
 refine⟨_,(iu (je (kl (ke (iN Gqb (hr.mono (by decide)) rfl Dqb.m Dqb.F.kp Dqb.b .nil iI (ig (qv 0) (ig (kX (v:=.int 40) rfl C.MOST_PLACES ⟨_,rfl⟩) ik))))) (iB nY) jf) (iu (iF (i:=1) sc.nd rfl (Or.inl rfl) (ql qr ip)) (iu (iF (i:=2) sc.nd rfl (Or.inl rfl) ip) (iB (jR aZ rfl (ur rfl B.enumerate (ig (qv 0) ik)) (j5 (n:=2) rfl (jb (iJ (i:=3) sc.nd rfl (Or.inl rfl)) (jb (iJ (i:=4) sc.nd rfl (Or.inl rfl)) j6))) (iu (je (kl (ke (iN Gq4 (hr.mono (by decide)) rfl Dq4.m Dq4.F.kp Dq4.b .nil iI (ig (qv 4) (ig (qv 1) (ig (qv 2) ik)))))) (iB nY) jf) (iu (iF (i:=1) sc.nd rfl (Or.inl rfl) (iz iA (qv 4) ip (fun _ _=>rfl))) (iB (qI (i:=2) sc.nd rfl (Or.inl rfl) (iz iA (qv 4) ip (fun _ _=>rfl)) qH))))))))),?_⟩
 walk_at "D"
 refine⟨a,xs,40,rfl,ea,?_⟩
 rw[aD (show(xs.length:Int)<=40 by lia)]
 walk_at "D"
 refine⟨a,rfl,⟨xs,SqL.of ea⟩,zf (K:=K) (a:=a) (xs:=xs) (fun i σ H1=>∃l sp nb th,σ=[some (.ref a),some (.int l),some (.int sp),nb,th]/\Same H H1/\PlOk l sp (ps.drop i)) ⟨-1,0,none,none,rfl,Same.refl _,ok⟩ (fun i σ H1 _ ⟨_,_,_,_,_,s1,_⟩=>SqL.of (s1 _ _ ea)) ?_ ?_⟩
 ·rintro i x σ H1 t hi ⟨l,sp,nb,th,rfl,s1,ok1⟩ ht
  obtain⟨p,hpi,px⟩:=j1 hp hi
  rw[ze hpi]at ok1
  have s2:Same H (upd H1 t (.tup [.int i,x])):=s1.trans (iy ht _)
  have px2:=px.same s2
  obtain⟨u,rfl,eu⟩:=id px2
  simp_arith[ij]
  refine⟨_,p,l,sp,rfl,px2,ok1.1,?_⟩
  simp_arith[iD,eu,i3,jh]
  exact⟨_,_,_,_,rfl,s2,ok1.2⟩
 ·rintro σ H1 ⟨l,sp,nb,th,rfl,s1,_⟩
  exact h H1 s1
theorem GX(B:Blt mg)(C:Cst mg c1 c2 c3 c4)(D:DefAt K mg "look_at_ties" (iw 24) ["ties","prices"] f fd)(Dqb:DefAt K mg "is_list_up_to" (iw 14) ["thing","most"] fqb dqb)(Gqb:FnOk P w K mg base iE 1 fqb dqb ["thing","most"] u9)(Dq6:DefAt K mg "tie_stands" (iw 22) ["thing","last","prices"] fq6 dq6)(Gq6:FnOk P w K mg base iE 3 fq6 dq6 ["thing","last","prices"] AO):FnOk P w K mg base iE 4 f fd ["ties","prices"] AD:=by
 have sc:FnScope ["ties","prices","last","number","thing"] ["ties","prices"] (iU (iw 24)):=by walk_at "SC"
 refine D.F.ok sc (fun vs H Q E h=>?_) (fun cdv A outer s H vs Q E hr h=>?_)
 ·obtain⟨a,d,xs,ts,kvs,rfl,_⟩:=h
  rfl
 obtain⟨a,d,xs,ts,kvs,rfl,ea,ed,hp,hl,ok,h⟩:=h
 have hlx:xs.length=ts.length:=aO hp
 have hu:=i8 hr
 have hu0:_<PySem.cLine:=aF hu
 refine⟨_,(iu (je (kl (ke (iN Gqb (hr.mono (by decide)) rfl Dqb.m Dqb.F.kp Dqb.b .nil iI (ig (qv 0) (ig (kX (v:=.int 120) rfl C.MOST_TIES ⟨_,rfl⟩) ik))))) (iB nY) jf) (iu (iF (i:=2) sc.nd rfl (Or.inl rfl) (j0 (ig (ql qr ip) (ig (ql qr ip) ik)))) (iB (jR aZ rfl (ur rfl B.enumerate (ig (qv 0) ik)) (j5 (n:=2) rfl (jb (iJ (i:=3) sc.nd rfl (Or.inl rfl)) (jb (iJ (i:=4) sc.nd rfl (Or.inl rfl)) j6))) (iu (je (kl (ke (iN Gq6 (hr.mono (by decide)) rfl Dq6.m Dq6.F.kp Dq6.b .nil iI (ig (qv 4) (ig (qv 2) (ig (qv 1) ik)))))) (iB nY) jf) (iB (iF (i:=2) sc.nd rfl (Or.inl rfl) (qv 4)))))))),?_⟩
 walk_at "D"
 refine⟨a,xs,120,rfl,ea,?_⟩
 rw[aD (show(xs.length:Int)<=120 by lia)]
 walk_at "D"
 intro t0 ht0
 refine⟨a,rfl,⟨xs,SqL.of (iy ht0 _ _ _ ea)⟩,zf (K:=K) (a:=a) (xs:=xs) (fun i σ H1=>∃lv q nb th,σ=[some (.ref a),some (.ref d),some lv,nb,th]/\Same H H1/\Pr H1 lv q/\TiOk kvs q (ts.drop i)) ⟨_,(-1,-1),none,none,rfl,iy ht0 _,⟨t0,rfl,ij⟩,ok⟩ (fun i σ H1 _ ⟨_,_,_,_,_,s1,_⟩=>SqL.of (s1 _ _ ea)) ?_ ?_⟩
 ·rintro i x σ H1 t hi ⟨lv,q,nb,th,rfl,s1,pq,ok1⟩ ht
  obtain⟨p,hpi,px⟩:=j1 hp hi
  rw[ze hpi]at ok1
  have s2:Same H (upd H1 t (.tup [.int i,x])):=s1.trans (iy ht _)
  have px2:=px.same s2
  simp_arith[ij]
  refine⟨_,p,_,q,d,kvs,rfl,px2,pq.same (iy ht _),s2 _ _ ed,ok1.1,?_⟩
  walk_at "D"
  exact⟨_,_,_,_,rfl,s2,px2,ok1.2⟩
 ·rintro σ H1 ⟨lv,q,nb,th,rfl,s1,_⟩
  exact h H1 s1
theorem GU(B:Blt mg)(D:DefAt K mg "look_at_web" (iw 25) ["thing"] f fd)(Dqd:DefAt K mg "is_tuple_of" (iw 12) ["thing","many"] fqd dqd)(Gqd:FnOk P w K mg base iE 1 fqd dqd ["thing","many"] uW)(Dqy:DefAt K mg "look_at_places" (iw 23) ["places"] fqy dqy)(Gqy:FnOk P w K mg base iE 4 fqy dqy ["places"] AV)(Dqz:DefAt K mg "look_at_ties" (iw 24) ["ties","prices"] fqz dqz)(Gqz:FnOk P w K mg base iE 4 fqz dqz ["ties","prices"] AD):FnOk P w K mg base iE 5 f fd ["thing"] Ag:=by
 have sc:FnScope ["thing"] ["thing"] (iU (iw 25)):=by walk_at "SC"
 refine D.F.ok sc (fun vs H Q E h=>?_) (fun cdv A outer s H vs Q E hr h=>?_)
 ·obtain⟨v,ps,ts,rfl,_⟩:=h
  rfl
 obtain⟨v,ps,ts,rfl,hw,ok,h⟩:=h
 obtain⟨u,pa,ta,xs,ys,rfl,eu,ep,et,pp,pt⟩:=hw
 have hlx:xs.length=ps.length:=aO pp
 have okl:=ok.pl
 have hu:=i8 hr
 have hu0:_<PySem.cLine:=aF hu
 refine⟨_,(iu (je (kl (ke (iN Gqd (hr.mono (by decide)) rfl Dqd.m Dqd.F.kp Dqd.b .nil iI (ig (qv 0) (ig ip ik))))) (iB nY) jf) (iu (jK (iN Gqy (hr.mono (by decide)) rfl Dqy.m Dqy.F.kp Dqy.b .nil iI (ig (iz iA (qv 0) ip (fun _ _=>rfl)) ik))) (iB (jK (iN Gqz (hr.mono (by decide)) rfl Dqz.m Dqz.F.kp Dqz.b .nil iI (ig (iz iA (qv 0) ip (fun _ _=>rfl)) (ig (kY (qS rfl) rfl B.dict dP (ig (iz iA (qv 0) ip (fun _ _=>rfl)) ik)) ik))))))),?_⟩
 walk_at "D"
 refine⟨u,_,2,rfl,eu,?_⟩
 simp_arith[iD,eu,i3,jh,Int.cast_ofNat_Int,cD]
 refine⟨pa,xs,ps,rfl,ep,pp,ok.pl,ok.p,fun H1 s1=>?_⟩
 simp_arith[iD,s1 _ _ eu,s1 _ _ ep,i3,jh]
 refine⟨iR ps,uH (Prs.same s1 pp),by lia,Av ok.p.nodup,fun d hd=>?_⟩
 have s2:Same H (upd H1 d (.dK (iR ps))):=s1.trans (iy hd _)
 exact⟨ta,d,ys,ts,_,rfl,s2 _ _ et,ij,Prs.same s2 pt,ok.tl,ok.t,fun H3 s3=>h H3 (s2.trans s3)⟩
theorem Hf:ky 3 0=some 0:=rfl
theorem Hb:ky 3 1=some 1:=rfl
theorem Ha:ky 3 2=some 2:=rfl
def StO(o:HO):Prop:=∃c st fl,o= .lst [.int c,.int st,.bl fl]/\0<=st/\st<4294967296
theorem StO.imm{o:HO}(h:StO o):sV o=false:=by obtain⟨_,_,_,rfl,_⟩:=h;rfl
def yK(K:PySem.W.Frag):Sp:=fun vs H Q _=>∃a k ns,vs=[.ref a,.int k]/\Scr K H a ns/\0<=k/\k<=1000/\∀s o,H s=none->StO o->Q (.ref s) (upd H s o)
def tX:Sp:=fun vs H Q _=>∃s o m,vs=[.ref s,.int m]/\H s=some o/\StO o/\1<=m/\m<1073741824/\∀d o,0<=d->d<m->StO o->Q (.int d) (upd H s o)
theorem vG{i j:Int}(h1:-(2^64)<j)(h2:j<2^64):CMul i j:=.inr ⟨h1,h2⟩
theorem mL{i j:Int}(h1:-(2^64)<i)(h2:i<2^64):CMul i j:=.inl ⟨h1,h2⟩
def Dr:Int->List (Int×Int)->Prop
 |_,[]=>True
 |l,p::r=>(l<p.1/\p.1<=l+23/\1<=p.2/\p.2<=1000000000)/\Dr p.1 r
def oM(l:Int):List (Int×Int)->Int
 |[]=>l
 |p::r=>oM p.1 r
theorem Dr.snoc:∀{ps:List (Int×Int)} {l:Int} {p:Int×Int},Dr l ps->(oM l ps<p.1/\p.1<=oM l ps+23/\1<=p.2/\p.2<=1000000000)->Dr l (ps++[p])
 |[],_,_,_,h=>⟨h,trivial⟩
 |q::r,_,_,h,h2=>⟨h.1,Dr.snoc h.2 h2⟩
theorem Aw:∀{ps:List (Int×Int)} {l:Int} {p:Int×Int},oM l (ps++[p])=p.1
 |[],_,_=>rfl
 |q::r,_,_=>Aw (ps:=r)
def But(s:Addr)(H H':Hp):Prop:=∀b o,b≠s->H b=some o->H' b=some o
theorem But.trans{s:Addr}{H H1 H2:Hp}(a:But s H H1)(b:But s H1 H2):But s H H2:=fun c o n q=>b c o n (a c o n q)
theorem But.at (s:Addr)(H:Hp)(o:HO):But s H (upd H s o):=fun b u n q=>by rw[ir n];exact q
theorem But.new{s t:Addr}{H:Hp}{o:HO}(h:H t=none):But s H (upd H t o):=fun b u n q=>by rw[ir (iC q h)];exact q
theorem But.tups{s:Addr}{H H':Hp}(h:But s H H'){o:HO}(e:H s=some o)(i:sV o=false):TupS H H':=fun b u z q=>h b u (fun x=>by rw[x,e]at q;cases q;rw[i]at z;cases z) q
theorem HW{α:Type}{x y z u:α}{r:List α}:i7 (x::y::z::u::r) 3=some u:=by
 have e:i7 (x::y::z::u::r) ((3:Nat):Int)=some u:=kH rfl
 exact e
theorem CO{a b c e d:Int}(h0:0<=d)(h1:d<4):∃v,i7 [V.int a,.int b,.int c,.int e] d=some (.int v)/\(v=a\/v=b\/v=c\/v=e):=by
 have hd:d=0\/d=1\/d=2\/d=3:=by lia
 rcases hd with rfl|rfl|rfl|rfl
 ·exact⟨a,i3,.inl rfl⟩
 ·exact⟨b,jh,.inr (.inl rfl)⟩
 ·exact⟨c,kR,.inr (.inr (.inl rfl))⟩
 ·exact⟨e,HW,.inr (.inr (.inr rfl))⟩
theorem p9:(10:Int)^Int.toNat 9=1000000000:=by decide
theorem Gc(B:Blt mg)(D:DefAt K mg "_law_take" (iw 43) ["_law_state","_law_many"] f fd):FnOk P w K mg base iE 1 f fd ["_law_state","_law_many"] tX:=by
 have sc:FnScope ["_law_state","_law_many","_law_digit","_law_number"] ["_law_state","_law_many"] (iU (iw 43)):=by walk_at "SC"
 refine D.F.ok sc (fun vs H Q E h=>?_) (fun cdv A outer s H vs Q E hr h=>?_)
 ·obtain⟨s,o,m,rfl,_⟩:=h
  rfl
 obtain⟨st,o,m,rfl,es,⟨c,x,fl,rfl,x0,x1⟩,m0,m1,h⟩:=h
 have hu:=i8 hr
 have hu0:_<PySem.cLine:=aF hu
 refine⟨_,(iu (je (ke (iz iA (qv 0) ip (fun _ _=>rfl))) (iu (iF (i:=2) sc.nd rfl (Or.inl rfl) (iO lG (iz iA (qv 0) ip (fun _ _=>rfl)) (qv 1))) (iu (qG (iO tQ (iz iA (qv 0) ip (fun _ _=>rfl)) (qv 1)) (qF (qv 0) ip nN)) (iu (qG (ly oq (iz iA (qv 0) ip (fun _ _=>rfl)) ip (iQ _)) (qF (qv 0) ip nN)) (iB (iP (qv 2)))))) jf) (iu (qG (iO lG (iO kc (iO lY (iz iA (qv 0) ip (fun _ _=>rfl)) ip) ip) ip) (qF (qv 0) ip nN)) (iu (iF (i:=3) sc.nd rfl (Or.inl rfl) (iO tQ (iO lG (iO lY (iz iA (qv 0) ip (fun _ _=>rfl)) (iz iA (qv 0) ip (fun _ _=>rfl))) ip) ip)) (iu (je (iS oq (qv 1) (iO sY ip ip) (iQ _)) (iu (qG (iO lG (iO kc (iO lY (iz iA (qv 0) ip (fun _ _=>rfl)) ip) ip) ip) (qF (qv 0) ip nN)) (iB (iF (i:=3) sc.nd rfl (Or.inl rfl) (iO kc (iO lY (qv 3) ip) (iz iA (qv 0) ip (fun _ _=>rfl)))))) jf) (iB (iP (iO lG (qv 3) (qv 1)))))))),?_⟩
 simp_arith[iD,es,i3,jh,kR,Hf,Hb,Ha,ij,qX]
 have lo:∀n:Int,0<=n%m:=fun n=>eI _ (by lia)
 have hi:∀n:Int,n%m<m:=fun n=>dG _ (by lia)
 have y0:0<=(x*48271+39373)%2147483647:=eI _ (by decide)
 have y1:(x*48271+39373)%2147483647<2147483647:=dG _ (by decide)
 generalize (x*48271+39373)%2147483647=y at y0 y1
 have z0:0<=(y*48271+39373)%2147483647:=eI _ (by decide)
 have z1:(y*48271+39373)%2147483647<2147483647:=dG _ (by decide)
 generalize (y*48271+39373)%2147483647=z at z0 z1
 have cd:pS c m:=⟨by lia,by lia⟩
 have cd2:∀n:Int,pS n 16:=fun n=>⟨by decide,by decide⟩
 have cp:rY 10 6:=⟨by decide,by decide,by decide⟩
 refine kg (fun _=>⟨by lia,cd,h _ _ (lo _) (hi _) ⟨_,_,_,rfl,x0,x1⟩⟩) (fun _=>⟨vG (by decide) (by decide),by decide,mL (by lia) (by lia),by decide,cd2 _,cp,?_⟩)
 refine kg (fun _=>⟨vG (by decide) (by decide),by decide,vG (by decide) (by decide),by lia,h _ _ (lo _) (hi _) ⟨_,_,_,rfl,z0,by lia⟩⟩) (fun _=>⟨by lia,h _ _ (lo _) (hi _) ⟨_,_,_,rfl,y0,by lia⟩⟩)
theorem Gw(B:Blt mg)(D:DefAt K mg "_law_begun" (iw 42) ["_law_script","_law_k"] f fd):FnOk P w K mg base iE 1 f fd ["_law_script","_law_k"] (yK K):=by
 have sc:FnScope ["_law_script","_law_k","_law_cell","_law_mixed"] ["_law_script","_law_k"] (iU (iw 42)):=by walk_at "SC"
 refine D.F.ok sc (fun vs H Q E h=>?_) (fun cdv A outer s H vs Q E hr h=>?_)
 ·obtain⟨a,k,ns,rfl,_⟩:=h
  rfl
 obtain⟨a,k,ns,rfl,hs,k0,k1,h⟩:=h
 have hu:=i8 hr
 have hu0:_<PySem.cLine:=aF hu
 refine⟨_,(iu (iF (i:=2) sc.nd rfl (Or.inl rfl) ip) (iu (je (iS lU (qv 1) (jg vc rfl B.len bQ (ig (qv 0) ik)) (iQ _)) (iB (iF (i:=2) sc.nd rfl (Or.inl rfl) (iz yo (qv 0) (qv 1) (fun _ _=>rfl)))) jf) (iu (iF (i:=3) sc.nd rfl (Or.inl rfl) (iO kc (iO kc (iO lG (qv 2) ip) (iO lY ip (qv 1))) (iO lY ip (iO tQ (qv 1) ip)))) (iB (iP (jJ (ig (qv 2) (ig (iO lG (qv 3) ip) (ig (ly Ci (qv 2) (iO sY ip ip) (iQ _)) ik))))))))),?_⟩
 walk_at "D"
 refine⟨a,_,rfl,.inl hs.sq,?_⟩
 simp_arith[ae,wK]
 have q0:∀n:Int,0<=n%2147483629:=fun n=>eI _ (by decide)
 have q1:∀n:Int,n%2147483629<2147483629:=fun n=>dG _ (by decide)
 have cp:rY 10 18:=⟨by decide,by decide,by decide⟩
 have cd:pS k 7:=⟨by decide,by decide⟩
 refine kg (fun c=>?_) (fun c=>?_)
 ·have c':k<(ns.length:Int):=bC c
  have hk:k.toNat<ns.length:=by lia
  have e1:i7 (ns.map V.int) ((k.toNat:Nat):Int)=some (.int ns[k.toNat]):=kH (by rw[aA,gE hk];rfl)
  rw[show((k.toNat:Nat):Int)=k by lia]at e1
  refine⟨a,_,k,_,rfl,rfl,hs.sq,e1,?_⟩
  walk_at "D"
  exact⟨by decide,mL (by decide) (by decide),cd,mL (by decide) (by decide),by decide,cp,fun p hp=>h p _ hp ⟨_,_,_,rfl,q0 _,by have:=q1 (ns[k.toNat]%2147483629+104729*k+7919*(k/7));lia⟩⟩
 ·exact⟨by decide,mL (by decide) (by decide),cd,mL (by decide) (by decide),by decide,cp,fun p hp=>h p _ hp ⟨_,_,_,rfl,q0 _,by have:=q1 (0%2147483629+104729*k+7919*(k/7));lia⟩⟩
end
end My
namespace My
open PySem L2
section
variable{P:Program}{w:World}{K:PySem.W.Frag}{mg:Str->Option Value}{base:Heap}{c1 c2 c3 c4:Tok}
def SeOk(kvs:List (iq×V)):Int->List Int->Prop
 |_,[]=>True
 |l,n::r=>(jA kvs n=true/\l<n)/\SeOk kvs n r
theorem SeOk.gt{kvs:List (iq×V)}:∀{ss:List Int} {l:Int},SeOk kvs l ss->∀n∈ss,l<n
 |[],_,_,_,h=>by cases h
 | q::r,l,h,n,hn=>by
  rcases aU.mp hn with e|hn
  ·rw[e];exact h.1.2
  ·have:=SeOk.gt h.2 n hn
   have:=h.1.2
   lia
def mk(ss:List Int):List (iq×V):=ss.map fun n=>(Sum.inl n,V.bl true)
theorem rL{α:Type}{f:α->Bool}{l:List α}{i:Nat}{x:α}(h:l[i]? =some x):(l.take (i+1)).filter f=(l.take i).filter f++(if f x=true then[x]else[]):=by
 rw[jy h,cU,bE]
 rfl
def nr(n:Int)(t:Int×Int):List Int:=if t.1=n then[t.2]else if t.2=n then[t.1]else[]
def iV(ts:List (Int×Int))(n:Int):List Int:=ts.flatMap (nr n)
theorem FP{ts:List (Int×Int)}{j:Nat}{t:Int×Int}(h:ts[j]? =some t)(n:Int):iV (ts.take (j+1)) n=iV (ts.take j) n++nr n t:=by
 unfold iV
 rw[jy h,List.flatMap_append]
 simp
theorem Ae:∀(ts:List (Int×Int)) (n:Int),(iV ts n).length<=ts.length
 |[],n=>by simp[iV]
 | t::r,n=>by
  have ih:=Ae r n
  have e:iV (t::r) n=nr n t++iV r n:=by simp[iV]
  have e2:(nr n t).length<=1:=by
   unfold nr
   split
   ·simp
   ·split<;>simp
  rw[e,aB,List.length_cons]
  lia
def kz:List (Int×Int)->List Addr->List (iq×V)
 |p::r,a::s=>(Sum.inl p.1,V.ref a)::kz r s
 |_,_=>[]
theorem yr:∀{ps:List (Int×Int)} {as:List Addr} {p:Int×Int} {a:Addr},ps.length=as.length->kz (ps++[p]) (as++[a])=kz ps as++[(Sum.inl p.1,V.ref a)]
 |[],[],_,_,_=>rfl
 |[],_::_,_,_,h=>by simp at h
 |_::_,[],_,_,h=>by simp at h
 |q::r,b::s,p,a,h=>by
  have ih:=yr (ps:=r) (as:=s) (p:=p) (a:=a) (by simpa using h)
  show(Sum.inl q.1,V.ref b)::kz (r++[p]) (s++[a])=_
  rw[ih]
  rfl
theorem nP:∀{ps:List (Int×Int)} {as:List Addr},ps.length=as.length->(kz ps as).map (·.1)=ps.map fun p=>(Sum.inl p.1:iq)
 |[],[],_=>rfl
 |[],_::_,h=>by simp at h
 |_::_,[],h=>by simp at h
 |q::r,b::s,h=>by
  show(Sum.inl q.1:iq)::(kz r s).map (·.1)=_
  rw[nP (by simpa using h)]
  rfl
theorem oR:∀{ps:List (Int×Int)} {as:List Addr} {i:Nat} {p:Int×Int} {a:Addr},(ps.map (·.1)).Nodup->ps[i]? =some p->as[i]? =some a->iT (kz ps as) (Sum.inl p.1:iq)=some (.ref a)
 |[],_,i,_,_,_,h,_=>by simp at h
 |_::_,[],i,_,_,_,_,h=>by simp at h
 | q::r,b::s,i,p,a,hn,h1,h2=>by
  rw[aw]at hn
  unfold iT
  show Option.map _ (List.find? _ ((Sum.inl q.1,V.ref b)::kz r s))=_
  rw[List.find?_cons]
  cases i with
  |zero=>
   simp at h1 h2
   subst h1 h2
   simp
  |succ i=>
   have hp:p∈r:=ag (by simpa using h1)
   have hne:q.1≠p.1:=fun z=>(bz.mp hn).1 (by rw[z];exact aW hp)
   have hd:decide ((Sum.inl q.1:iq)=Sum.inl p.1)=false:=aK fun z=>hne (cE z)
   dsimp only
   rw[hd]
   exact oR (bz.mp hn).2 (i:=i) (by simpa using h1) (by simpa using h2)
theorem rb{ps:List (Int×Int)}{n:Int}(h:jA (iR ps) n=true):∃(i:Nat) (p:Int×Int),ps[i]? =some p/\p.1=n:=by
 unfold jA iT iR at h
 rw[eT,List.find?_isSome]at h
 obtain⟨kv,hm,he⟩:=h
 obtain⟨p,hp,e⟩:=aE.mp hm
 subst e
 obtain⟨i,hi,e2⟩:=aV.mp hp
 refine⟨i,p,by rw[gE hi,e2],?_⟩
 exact cE (bC he)
theorem TiOk.at{kvs:List (iq×V)}:∀{ts:List (Int×Int)} {q:Int×Int},TiOk kvs q ts->∀t∈ts,t.1<t.2/\jA kvs t.1=true/\jA kvs t.2=true
 |[],_,_,_,h=>by cases h
 |p::r,q,h,t,ht=>by
  rcases aU.mp ht with e|ht
  ·rw[e];exact⟨h.1.2.1,h.1.2.2.1,h.1.2.2.2⟩
  ·exact TiOk.at h.2 t ht
def mR(H:Hp)(ps ts:List (Int×Int))(as:List Addr):Prop:=∀(i:Nat) (p:Int×Int) (a:Addr),ps[i]? =some p->as[i]? =some a->H a=some (.lst ((iV ts p.1).map V.int))
def Ah:Sp:=fun vs H Q _=>∃v ps ts,vs=[v]/\jc3 H v ps ts/\WebOk ps ts/\∀d as H',H d=none->Same H H'->H' d=some (.dK (kz ps as))->as.length=ps.length->mR H' ps ts as->Q (.ref d) H'
theorem pF{α:Type}{l:List α}(h:l.Nodup){i j:Nat}{a b:α}(h1:l[i]? =some a)(h2:l[j]? =some b)(hij:i≠j):a≠b:=by
 intro e
 subst e
 obtain⟨p1,q1⟩:=ah.mp h1
 obtain⟨p2,q2⟩:=ah.mp h2
 exact hij ((fm h).mp (q1.trans q2.symm))
theorem Eb{α:Type}{l:List α}{x y:α}{i:Nat}(h:(l++[x])[i]? =some y):l[i]? =some y\/(i=l.length/\y=x):=by
 by_cases hi:i<l.length
 ·left
  rw[bA hi]at h
  exact h
 ·right
  rw[bR (by lia)]at h
  by_cases h0:i-l.length=0
  ·rw[h0]at h
   simp at h
   exact⟨by lia,h.symm⟩
  ·have:i-l.length=(i-l.length-1)+1:=by lia
   rw[this]at h
   simp at h
theorem SeOk.has{kvs:List (iq×V)}:∀{ss:List Int} {l:Int},SeOk kvs l ss->∀n∈ss,jA kvs n=true
 |[],_,_,_,h=>by cases h
 |q::r,l,h,n,hn=>by
  rcases aU.mp hn with e|hn
  ·rw[e];exact h.1.1
  ·exact SeOk.has h.2 n hn
theorem Ge(B:Blt mg)(D:DefAt K mg "nears_in" (iw 26) ["web"] f fd):FnOk P w K mg base iE 1 f fd ["web"] Ah:=by
 have sc:FnScope ["web","nears","one","other"] ["web"] (iU (iw 26)):=by walk_at "SC"
 refine D.F.ok sc (fun vs H Q E h=>?_) (fun cdv A outer s H vs Q E hr h=>?_)
 ·obtain⟨v,ps,ts,rfl,_⟩:=h
  rfl
 obtain⟨v,ps,ts,rfl,hw,wok,h⟩:=h
 obtain⟨x,pa,ta,xs,ys,rfl,ex,ep,et,pp,pt⟩:=id hw
 have hlx:xs.length=ps.length:=aO pp
 have hly:ys.length=ts.length:=aO pt
 have okl:=wok.pl
 have okt:=wok.tl
 have hnd:=wok.p.nodup
 have hu:=i8 hr
 have hu0:_<PySem.cLine:=aF hu
 refine⟨_,(iu (iF (i:=1) sc.nd rfl (Or.inl rfl) (kY (qS rfl) rfl B.dict dP (ig (jW (CpScope.of (N:=["place","price"]) (src:=[none,none]) (by rfl)) rfl (jx (iz iA (qv 0) ip (fun _ _=>rfl))) (fun _ _ _ _=>(j5 (n:=2) rfl (jb (iJ (i:=0) (jc (l:=["place","price"]) (by rfl)) rfl (Or.inl rfl)) (jb (iJ (i:=1) (jc (l:=["place","price"]) (by rfl)) rfl (Or.inl rfl)) j6)))) (fun _ _ _ _=>mF) (fun _ _ _ _=>(j0 (ig (qv 0) (ig (jJ ik) ik))))) ik))) (iu (jR aZ rfl (jx (iz iA (qv 0) ip (fun _ _=>rfl))) (j5 (n:=2) rfl (jb (iJ (i:=2) sc.nd rfl (Or.inl rfl)) (jb (iJ (i:=3) sc.nd rfl (Or.inl rfl)) j6))) (iu (jK (ka aQ bg bf kf (j4 hu (qv 1) (qv 2) (fun _ _=>rfl)) (ig (qv 3) ik))) (iB (jK (ka aQ bg bf kf (j4 hu (qv 1) (qv 3) (fun _ _=>rfl)) (ig (qv 2) ik)))))) (iB (iP (qv 1))))),?_⟩
 walk_at "D"
 refine jS (ji K pa) H (fun R hR=>?_) (fun l hl0=>jP ps.length (fun i σ' Hc=>∃w1 w2 zs as,σ'=[w1,w2]/\Same H Hc/\Hc l=some (.lst zs)/\as.length=i/\as.Nodup/\(∀a∈as,H a=none/\a≠l/\Hc a=some (.lst []))/\Paired (PairAt Hc) zs (kz (ps.take i) as)) ⟨none,none,[],[],rfl,iy hl0 _,ij,rfl,eN,(fun _ h=>by cases h),.nil⟩ ?_ ?_)
 ·unfold jt
  simp_arith[iD,ex,i3]
  exact⟨pa,rfl,⟨_,SqL.of ep⟩,hR⟩
 ·rintro i σ' Hc hi ⟨w1,w2,zs,as,rfl,s2,ez,hla,nda,ha,pz⟩
  have x1:xs[i]? =some (xs[i]'(by lia)):=gE _
  have z1:SqL K Hc pa xs:=SqL.of (s2 _ _ ep)
  have hlt:(ps.take i).length=as.length:=by rw[aS];lia
  have hlz:zs.length=(kz (ps.take i) as).length:=aO pz
  have hlz2:zs.length<=i:=by
   have e:=bN List.length (nP hlt)
   rw[ae,ae]at e
   lia
  refine⟨⟨_,_,z1,x1⟩,?_⟩
  rintro y H' ⟨rfl,hy⟩
  obtain⟨q,hq,pq⟩:=j1 pp (hy _ z1)
  obtain⟨t,rfl,ht⟩:=pq.same s2
  simp_arith[ht]
  intro a1 ha1 t2 ht2
  have na1:a1≠l:=fun z=>by rw[z,ez]at ha1;cases ha1
  have nt2:t2≠a1:=fun z=>by rw[z,ij]at ht2;cases ht2
  have s3:=iy ha1 (.lst [])
  have s4:=iy ht2 (.tup [.int q.1,.ref a1])
  have ez2:=s4 _ _ (s3 _ _ ez)
  have t6:=kI (ys:=zs++[.ref t2]) ez2
  refine⟨zs,ez2,iW (by lia),_,_,zs++[.ref t2],as++[a1],rfl,i4 (s2.trans (s3.trans s4)) hl0,(by first|rfl|exact ij),(by rw[aB,hla];rfl),?_,?_,?_⟩
  ·rw[bZ]
   refine⟨nda,(by simp),fun a hm b hb=>?_⟩
   have hb':b=a1:=by simpa using hb
   intro z
   rw[hb']at z
   have:=(ha a hm).2.2
   rw[z,ha1]at this
   cases this
  ·intro a hm
   rcases aM.mp hm with hm|hm
   ·obtain⟨q1,q2,q3⟩:=ha a hm
    refine⟨q1,q2,?_⟩
    rw[ir q2]
    exact s4 _ _ (s3 _ _ q3)
   ·have e:a=a1:=by simpa using hm
    subst e
    refine⟨s2.free ha1,na1,?_⟩
    rw[ir na1]
    exact s4 _ _ ij
  ·rw[jy hq,yr hlt]
   refine ma (Paired.mapP pz fun v p q=>?_) ⟨t2,rfl,t6 _ _ rfl ij⟩
   obtain⟨b,e,q⟩:=q
   exact⟨b,e,t6 _ _ rfl (s4 _ _ (s3 _ _ q))⟩
 rintro σ' Hc ⟨w1,w2,zs,as,rfl,s2,ez,hla,nda,ha,pz⟩
 refine⟨⟨_,SqL.of (s2 _ _ ep),by lia⟩,?_⟩
 rw[aR]at pz
 have hlz:zs.length=(kz ps as).length:=aO pz
 have hkk:=nP (ps:=ps) (as:=as) hla.symm
 have hlz2:zs.length=ps.length:=by
  have e:=bN List.length hkk
  rw[ae,ae]at e
  lia
 simp_arith[ez]
 refine⟨kz ps as,pz,by lia,?_,fun d hd=>?_⟩
 ·rw[hkk]
  have hnd2:=hnd
  unfold List.Nodup at hnd2 ⊢
  rw[cw]at hnd2 ⊢
  exact hnd2.imp fun q z=>q (cE z)
 have s3:=iy hd (.dK (kz ps as))
 have ed:upd Hc d (.dK (kz ps as)) d=some (.dK (kz ps as)):=ij
 have hd0:=s2.free hd
 have ha3:∀a∈as,H a=none/\a≠d/\upd Hc d (.dK (kz ps as)) a=some (.lst []):=fun a hm=>by
  obtain⟨q1,q2,q3⟩:=ha a hm
  exact⟨q1,iC q3 hd,s3 _ _ q3⟩
 have s23:=s2.trans s3
 generalize upd Hc d (.dK (kz ps as))=H2 at s23 ed ha3
 clear s3 s2 ez pz ha hlz hd
 refine j7 (ji K ta) H2 (fun R hR=>?_) (kO (K:=K) (a:=ta) (xs:=ys) (fun j σ H3=>∃v1 v2,σ=[some (.ref x),some (.ref d),v1,v2]/\Same H H3/\H3 d=some (.dK (kz ps as))/\mR H3 ps (ts.take j) as) ⟨none,none,rfl,s23,ed,fun i p a _ h2=>(ha3 a (ag h2)).2.2⟩ (fun i σ H3 _ ⟨_,_,_,s3,_⟩=>SqL.of (s3 _ _ et)) ?_ ?_)
 ·unfold jt
  simp_arith[iD,s23 _ _ ex,jh]
  exact⟨ta,rfl,⟨_,SqL.of (s23 _ _ et)⟩,hR⟩
 ·rintro j y σ H3 hj ⟨v1,v2,rfl,s3,ed3,hN⟩
  obtain⟨q,hq,pq⟩:=j1 pt hj
  obtain⟨t,rfl,ht⟩:=pq.same s3
  obtain⟨b1,b2,b3⟩:=wok.t.at q (ag hq)
  obtain⟨i1,p1,g1,e1⟩:=rb b2
  obtain⟨i2,p2,g2,e2⟩:=rb b3
  have hi1:i1<as.length:=by have:=(ah.mp g1).1;lia
  have hi2:i2<as.length:=by have:=(ah.mp g2).1;lia
  have A1:as[i1]? =some as[i1]:=gE hi1
  have A2:as[i2]? =some as[i2]:=gE hi2
  generalize as[i1]=a1 at A1
  generalize as[i2]=a2 at A2
  have V1:=oR hnd g1 A1
  have V2:=oR hnd g2 A2
  have n12:i1≠i2:=fun z=>by rw[z,g2]at g1;cases g1;lia
  have na:a1≠a2:=pF nda A1 A2 n12
  rw[e1]at V1
  rw[e2]at V2
  have M1:=hN i1 p1 a1 g1 A1
  have M2:=hN i2 p2 a2 g2 A2
  have hlj:∀n,(iV (ts.take j) n).length<=120:=fun n=>bo (Ae _ _) (by rw[aS];lia)
  have nd1:d≠a1:=((ha3 a1 (ag A1)).2.1).symm
  have nd2:d≠a2:=((ha3 a2 (ag A2)).2.1).symm
  simp_arith[ht,ed3,V1]
  refine⟨⟨a1,_,rfl,M1⟩,?_⟩
  simp_arith[M1]
  refine⟨iW (by rw[ae];have:=hlj p1.1;lia),?_⟩
  simp_arith[ir nd1,ed3,V2]
  refine⟨⟨a2,_,rfl,(by rw[ir na.symm];exact M2)⟩,?_⟩
  simp_arith[ir na.symm,M2]
  refine⟨iW (by rw[ae];have:=hlj p2.1;lia),_,_,rfl,?_,?_,?_⟩
  ·intro b o hb
   rw[ir (iC hb (ha3 a2 (ag A2)).1),ir (iC hb (ha3 a1 (ag A1)).1)]
   exact s3 b o hb
  ·rw[ir nd2,ir nd1]
   exact ed3
  ·intro i p a hp ha'
   rw[FP hq,ao]
   have hpe:∀{k:Nat} {r:Int×Int},ps[k]? =some r->r.1=p.1->k=i:=fun{k r} hr he=>by
    have h1:(ps.map (·.1))[k]? =some r.1:=by rw[aA,hr];rfl
    have h2:(ps.map (·.1))[i]? =some p.1:=by rw[aA,hp];rfl
    by_cases z:k=i
    ·exact z
    ·exact absurd he (pF hnd h1 h2 z)
   by_cases c2:i=i2
   ·subst c2
    rw[g2]at hp
    cases hp
    rw[A2]at ha'
    cases ha'
    have e3:nr p2.1 q=[q.1]:=by
     unfold nr
     rw[ay (by lia),az e2.symm]
    rw[ij,e3]
    rfl
   by_cases c1:i=i1
   ·subst c1
    rw[g1]at hp
    cases hp
    rw[A1]at ha'
    cases ha'
    have e3:nr p1.1 q=[q.2]:=by
     unfold nr
     rw[az e1.symm]
    rw[ir na,ij,e3]
    rfl
   have n1:a≠a1:=pF nda ha' A1 c1
   have n2:a≠a2:=pF nda ha' A2 c2
   have e3:nr p.1 q=[]:=by
    unfold nr
    rw[ay (fun z=>c1 (hpe g1 (e1.trans z)).symm),ay (fun z=>c2 (hpe g2 (e2.trans z)).symm)]
   rw[ir n2,ir n1,e3,bV,bq]
   exact hN i p a hp ha'
 ·rintro σ H3 ⟨v1,v2,rfl,s3,ed3,hN⟩
  rw[hly,aR]at hN
  walk_at "D"
  exact h d as H3 hd0 s3 ed3 hla hN
theorem Dr.pl:∀{ps:List (Int×Int)} {l s:Int},Dr l ps->l+23*ps.length<=999->s+1000000000*ps.length<=1000000000000->PlOk l s ps
 |[],_,_,_,_,_=>trivial
 |p::r,l,s,h,h1,h2=>by
  have e:((p::r).length:Int)=r.length+1:=by simp
  rw[e]at h1 h2
  obtain⟨⟨a1,a2,a3,a4⟩,h3⟩:=h
  exact⟨⟨a1,by lia,a3,by lia⟩,Dr.pl h3 (by lia) (by lia)⟩
theorem Dr.gt:∀{ps:List (Int×Int)} {l:Int},Dr l ps->∀p∈ps,l<p.1
 |[],_,_,_,h=>by cases h
 | q::r,l,h,p,hp=>by
  rcases aU.mp hp with e|hp
  ·rw[e];exact h.1.1
  ·have:=Dr.gt h.2 p hp
   have:=h.1.1
   lia
theorem Dr.rise:∀{ps:List (Int×Int)} {l:Int},Dr l ps->∀(i j:Nat) (p q:Int×Int),i<j->ps[i]? =some p->ps[j]? =some q->p.1<q.1
 |[],_,_,i,j,p,q,_,h,_=>by simp at h
 | r::rs,l,h,i,j,p,q,hij,hi,hj=>by
  cases j with
  |zero=>lia
  | succ j=>
   have hj':rs[j]? =some q:=by simpa using hj
   cases i with
   |zero=>
    have e:r=p:=by simpa using hi
    subst e
    exact Dr.gt h.2 q (ag hj')
   |succ i=>exact Dr.rise h.2 i j p q (by lia) (by simpa using hi) hj'
theorem xE{a b c d:Int}(h:a<c):HT.lexLt [a,b] [c,d]=true:=by
 rw[HT.ml,ay (by lia)]
 exact aD h
theorem xD{a b d:Int}(h:b<d):HT.lexLt [a,b] [a,d]=true:=by
 rw[HT.ml,az rfl,HT.ml,ay (by lia)]
 exact aD h
def lp(q:Int×Int):List (Int×Int)->Int×Int
 |[]=>q
 |p::r=>lp p r
theorem Ax:∀{ts:List (Int×Int)} {q p:Int×Int},lp q (ts++[p])=p
 |[],_,_=>rfl
 |t::r,_,_=>Ax (ts:=r)
theorem TiOk.snoc{kvs:List (iq×V)}:∀{ts:List (Int×Int)} {q p:Int×Int},TiOk kvs q ts->(HT.lexLt [(lp q ts).1,(lp q ts).2] [p.1,p.2]=true/\p.1<p.2/\jA kvs p.1=true/\jA kvs p.2=true)->TiOk kvs q (ts++[p])
 |[],_,_,_,h=>⟨h,trivial⟩
 |t::r,_,_,h,h2=>⟨h.1,TiOk.snoc h.2 h2⟩
theorem PlOk.rise:∀{ps:List (Int×Int)} {l s:Int},PlOk l s ps->∀(i j:Nat) (p q:Int×Int),i<j->ps[i]? =some p->ps[j]? =some q->p.1<q.1
 |[],_,_,_,i,j,p,q,_,h,_=>by simp at h
 | r::rs,l,s,h,i,j,p,q,hij,hi,hj=>by
  cases j with
  |zero=>lia
  | succ j=>
   have hj':rs[j]? =some q:=by simpa using hj
   cases i with
   |zero=>
    have e:r=p:=by simpa using hi
    subst e
    exact PlOk.gt h.2 q (ag hj')
   |succ i=>exact PlOk.rise h.2 i j p q (by lia) (by simpa using hi) hj'
theorem wV{H:Hp}{a st:Addr}{xs:List V}{ps:List (Int×Int)}{o:HO}(ha:H a=some (.lst xs))(pp:Prs H xs ps)(hs:H st=some o)(so:StO o):a≠st:=by
 intro z
 obtain⟨c,s,f,e,_⟩:=so
 rw[z,hs,e]at ha
 cases ha
 cases pp with
 |cons r _=>obtain⟨t,e,_⟩:=r;cases e
theorem jc3.but{H H':Hp}{st:Addr}{o:HO}{v:V}{ps ts:List (Int×Int)}(h:jc3 H v ps ts)(hs:H st=some o)(so:StO o)(b:But st H H'):jc3 H' v ps ts:=by
 obtain⟨u,pa,ta,xs,ys,e,h1,h2,h3,h4,h5⟩:=h
 have t:=b.tups hs so.imm
 exact⟨u,pa,ta,xs,ys,e,t _ _ rfl h1,b _ _ (wV h2 h4 hs so) h2,b _ _ (wV h3 h5 hs so) h3,Prs.tups t h4,Prs.tups t h5⟩
theorem xx{ps:List (Int×Int)}(hn:(ps.map (·.1)).Nodup){i:Nat}{p:Int×Int}(h:ps[i]? =some p):jA (iR ps) p.1=true:=yk hn (ag h)
end
end My
namespace My
open PySem L2
inductive Rch(ts:List (Int×Int))(a:Int):Int->Prop
 |refl:Rch ts a a
 |step {m n:Int}:Rch ts a m->n∈iV ts m->Rch ts a n
section
variable{ts:List (Int×Int)}{m n a b:Int}
theorem pE(ho:∀t∈ts,t.1<t.2):n∈iV ts m↔(m,n)∈ts\/(n,m)∈ts:=by
 unfold iV
 rw[gN]
 constructor
 ·rintro⟨t,ht,hn⟩
  unfold nr at hn
  split at hn
  ·rename_i c
   have e:n=t.2:=by simpa using hn
   exact .inl (by rw [e,<- c]; exact ht)
  ·split at hn
   ·rename_i c
    have e:n=t.1:=by simpa using hn
    exact .inr (by rw [e,<- c]; exact ht)
   ·cases hn
 ·rintro(h|h)
  ·refine⟨_,h,?_⟩
   unfold nr
   rw[az rfl]
   exact aC.mpr rfl
  ·refine⟨_,h,?_⟩
   have:=ho _ h
   dsimp only at this
   unfold nr
   rw[if_neg (by dsimp only;lia),if_pos rfl]
   exact aC.mpr rfl
theorem Fe(ho:∀t∈ts,t.1<t.2)(h:n∈iV ts m):m∈iV ts n:=by
 rw[pE ho]at h ⊢
 exact h.symm
theorem Rch.trans{c:Int}(h1:Rch ts a b)(h2:Rch ts b c):Rch ts a c:=by
 induction h2 with
 |refl=>exact h1
 |step _ hn ih=>exact .step ih hn
theorem Rch.symm(ho:∀t∈ts,t.1<t.2)(h:Rch ts a b):Rch ts b a:=by
 induction h with
 |refl=>exact .refl
 |step _ hn ih=>exact(Rch.step .refl (Fe ho hn)).trans ih
theorem Rch.mono{ts':List (Int×Int)}(hs:∀m n,n∈iV ts m->n∈iV ts' m)(h:Rch ts a b):Rch ts' a b:=by
 induction h with
 |refl=>exact .refl
 |step _ hn ih=>exact .step ih (hs _ _ hn)
end
theorem u7(ts:List (Int×Int))(t:Int×Int)(m:Int):iV (ts++[t]) m=iV ts m++nr m t:=by
 unfold iV
 rw[List.flatMap_append]
 simp
def Ends(ps ts:List (Int×Int)):Prop:=∀t∈ts,t.1<t.2/\t.1∈ps.map (·.1)/\t.2∈ps.map (·.1)
theorem Ends.near{ps ts:List (Int×Int)}(h:Ends ps ts){m n:Int}(hn:n∈iV ts m):n∈ps.map (·.1):=by
 rcases(pE fun t ht=>(h t ht).1).mp hn with z|z
 ·exact(h _ z).2.2
 ·exact(h _ z).2.1
theorem Rch.pl{ps ts:List (Int×Int)}(h:Ends ps ts){a b:Int}(ha:a∈ps.map (·.1))(r:Rch ts a b):b∈ps.map (·.1):=by
 induction r with
 |refl=>exact ha
 |step _ hn _=>exact h.near hn
structure LabOk(ps ts:List (Int×Int))(f:Int->Int):Prop where
 cls:∀m n,m∈ps.map (·.1)->n∈ps.map (·.1)->(f m=f n↔Rch ts m n)
 le:∀m,m∈ps.map (·.1)->f m<=m
 fix:∀m,m∈ps.map (·.1)->f (f m)=f m
 pl:∀m,m∈ps.map (·.1)->f m∈ps.map (·.1)
theorem LabOk.none{ps:List (Int×Int)}:LabOk ps [] fun n=>n:=by
 refine⟨fun m n _ _=>⟨fun h=>h▸ .refl,fun h=>?_⟩,fun _ _=>bH _,fun _ _=>rfl,fun _ h=>h⟩
 induction h with
 |refl=>rfl
 |step _ hn _=>simp[iV]at hn
theorem LabOk.put{ps ts:List (Int×Int)}{f:Int->Int}(h:LabOk ps ts f)(he:Ends ps ts){a b u v:Int}(ha:a∈ps.map (·.1))(hb:b∈ps.map (·.1))(hab:a<b)(huv:u<=v)(hor:(u=f a/\v=f b)\/(u=f b/\v=f a)):
  LabOk ps (ts++[(a,b)]) fun n=>if f n=v then u else f n:=by
 have he':Ends ps (ts++[(a,b)]):=fun t ht=>by
  rcases aM.mp ht with ht|ht
  ·exact he t ht
  ·rw[aC.mp ht];exact⟨hab,ha,hb⟩
 have ho:∀t∈ts++[(a,b)],t.1<t.2:=fun t ht=>(he' t ht).1
 have more:∀m n,n∈iV ts m->n∈iV (ts++[(a,b)]) m:=fun m n hn=>by rw[u7];exact bh _ hn
 have ab:Rch (ts++[(a,b)]) a b:=.step .refl ((pE ho).mpr (.inl (bj _ (aC.mpr rfl))))
 have ba:=ab.symm ho
 have fu:f u=u:=by rcases hor with⟨e,_⟩|⟨e,_⟩<;>rw[e];exact h.fix _ ha;exact h.fix _ hb
 have pu:u∈ps.map (·.1):=by rcases hor with⟨e,_⟩|⟨e,_⟩<;>rw[e];exact h.pl _ ha;exact h.pl _ hb
 have ea:(if f a=v then u else f a)=u:=by rcases hor with⟨e1,e2⟩|⟨e1,e2⟩<;>split<;>lia
 have eb:(if f b=v then u else f b)=u:=by rcases hor with⟨e1,e2⟩|⟨e1,e2⟩<;>split<;>lia
 have toA:∀m,m∈ps.map (·.1)->(f m=v\/f m=u)->Rch (ts++[(a,b)]) m a:=fun m hm q=>by
  have hc:f m=f a\/f m=f b:=by rcases hor with⟨e1,e2⟩|⟨e1,e2⟩<;>lia
  rcases hc with c|c
  ·exact((h.cls m a hm ha).mp c).mono more
  ·exact(((h.cls m b hm hb).mp c).mono more).trans ba
 refine⟨fun m n hm hn=>⟨fun q=>?_,fun r=>?_⟩,fun m hm=>?_,fun m hm=>?_,fun m hm=>?_⟩
 ·by_cases c1:f m=v
  ·have c2:f n=v\/f n=u:=by
    try dsimp only at q
    rw[az c1]at q
    by_cases c2:f n=v
    ·exact .inl c2
    ·rw[ay c2]at q;exact .inr q.symm
   exact(toA m hm (.inl c1)).trans ((toA n hn c2).symm ho)
  ·try dsimp only at q
   rw[ay c1]at q
   by_cases c2:f n=v
   ·rw[az c2]at q
    exact(toA m hm (.inr q)).trans ((toA n hn (.inl c2)).symm ho)
   ·rw[ay c2]at q
    exact((h.cls m n hm hn).mp q).mono more
 ·clear hn
  induction r with
  |refl=>rfl
  | @step k n r' hn' ih=>
   rw[ih]
   have hk:=r'.pl he' hm
   have hn2:=he'.near hn'
   rw[u7]at hn'
   rcases aM.mp hn' with z|z
   ·have e:=(h.cls k n hk hn2).mpr (.step .refl z)
    try dsimp only
    rw[e]
   ·unfold nr at z
    split at z
    ·rename_i c
     have e:n=b:=by simpa using z
     have c':a=k:=c
     try dsimp only
     rw [e,<- c',ea,eb]
    ·split at z
     ·rename_i c
      have e:n=a:=by simpa using z
      have c':b=k:=c
      try dsimp only
      rw [e,<- c',ea,eb]
     ·cases z
 ·have:=h.le m hm
  try dsimp only
  split<;>lia
 ·try dsimp only
  by_cases c:f m=v
  ·rw[az c,fu]
   split<;>rfl
  ·rw[ay c,h.fix m hm,ay c]
 ·try dsimp only
  split
  ·exact pu
  ·exact h.pl m hm
end My
namespace My
open PySem L2
section
variable{P:Program}{w:World}{K:PySem.W.Frag}{mg:Str->Option Value}{base:Heap}{c1 c2 c3 c4:Tok}
theorem n6:∀{ks L:List Int},ks.Nodup->(∀n∈ks,n∈L)->ks.length<=L.length
 |[],_,_,_=>bw _
 |k::r,L,h,hs=>by
  rw[bz]at h
  have hk:=hs k (.head _)
  have ih:=n6 (ks:=r) (L:=L.erase k) h.2 fun n hn=>(eG (fun z=>h.1 (by rw [<- z]; exact hn))).mpr (hs n (.tail _ hn))
  have e:=dy hk
  have hp:0<L.length:=dU hk
  rw[List.length_cons]
  lia
theorem Rd.same{H H':Hp}{a:Addr}{u:HO}(h:Rd H a u)(s:Same H H'):Rd H' a u:=by
 rcases h with e|⟨o,e⟩
 ·exact .inl (s _ _ e)
 ·exact .inr ⟨o,s _ _ e⟩
theorem tFor_hideI{ι:Type}{wi:TI}{g:TG}{tb:TS}{D:L2.Ends}{σ:St}{H:Hp}(J:ι->It)(H1:ι->Hp)(ok:ι->Prop)(h1:∀R:It->Hp->Prop,(∀i,ok i->R (J i) (H1 i))->wi σ H R)
  (h2:∀i0,ok i0->∃W:Nat->Nat->St->Hp->Prop,(∃m,W 0 m σ (H1 i0))/\∀i m σ H,W i m σ H->((J i0).stop i H/\D.nx σ H)\/((J i0).go i H/\∃N:St->Hp->Prop,(∀σ' H',N σ' H'->∃m',m'<m/\W (i+1) m' σ' H')/\∀x H',(J i0).yld i H x H'->g x σ H' fun σ2 H2=>tb {D with nx:=N,ct:=N,bk:=D.nx} σ2 H2)):
  pY wi g tb D σ H:=h1 _ h2
theorem sW{ps:List (Int×Int)}{as:List Addr}(hl:as.length=ps.length){j:Nat}{kv:iq×V}(h:(kz ps as)[j]? =some kv):∃p,ps[j]? =some p/\kv.1=Sum.inl p.1:=by
 have z:=bN (fun l=>l[j]?) (nP (ps:=ps) (as:=as) hl.symm)
 rw[aA,h,aA]at z
 cases e:ps[j]? with
 |none=>rw[e]at z;cases z
 |some p=>rw[e]at z;exact⟨p,rfl,aL z⟩
theorem CU{ps:List (Int×Int)}{as:List Addr}(hl:as.length=ps.length):(kz ps as).length=ps.length:=by
 have z:=bN List.length (nP (ps:=ps) (as:=as) hl.symm)
 rwa[ae,ae]at z
theorem WebOk.ends{ps ts:List (Int×Int)}(h:WebOk ps ts):Ends ps ts:=fun t ht=>by
 obtain⟨a,b,c⟩:=h.t.at t ht
 obtain⟨i,p,hp,e⟩:=rb b
 obtain⟨i2,p2,hp2,e2⟩:=rb c
 exact ⟨a,by rw [<- e]; exact aW (ag hp),by rw [<- e2]; exact aW (ag hp2)⟩
def gk(l:List (Int×V)):List (iq×V):=l.map fun p=>((Sum.inl p.1:iq),p.2)
theorem oQ(l:List (Int×V))(n:Int):(iT (gk l) (Sum.inl n:iq)).isSome=decide (n∈l.map (·.1)):=by
 rw [<- pH]
 unfold gk
 rw[c9,gO,gc]
 constructor
 ·rintro⟨kv,hkv,e⟩
  obtain⟨q,hq,rfl⟩:=aE.mp hkv
  have e2:q.1=n:=cE (bC e)
  rw [<- e2]
  exact aW hq
 ·intro h
  obtain⟨q,hq,e⟩:=aE.mp h
  have e':q.1=n:=e
  exact⟨_,aW hq,aD (by rw[e'])⟩
theorem nL:∀{l:List (Int×V)} {p:Int×V},(l.map (·.1)).Nodup->p∈l->iT (gk l) (Sum.inl p.1:iq)=some p.2
 |[],_,_,h=>by cases h
 | q::r,p,hn,h=>by
  rw[aw,bz]at hn
  by_cases c:q.1=p.1
  ·rcases aU.mp h with e|h
   ·rw[e]
    exact rC (p:=((Sum.inl q.1:iq),q.2)) rfl
   ·exact absurd (by rw[c];exact aW h) hn.1
  ·rcases aU.mp h with e|h
   ·exact absurd (by rw[e]) c
   ·show iT (((Sum.inl q.1:iq),q.2)::gk r) _=_
    rw[rB (fun z=>c (cE z))]
    exact nL hn.2 h
theorem qz{l:List (Int×V)}{n:Int}{v:V}(h:n∉l.map (·.1)):jr (gk l) (Sum.inl n:iq) v=gk (l++[(n,v)]):=by
 unfold jr
 rw[ay]
 ·unfold gk;rw[ao];rfl
 ·rw[pH,oQ]
  simpa using h
theorem zg:∀{more l:List (Int×V)},(∀n∈more.map (·.1),n∉l.map (·.1))->(more.map (·.1)).Nodup->lJ (gk l) (gk more)=gk (l++more)
 |[],l,_,_=>by rw[bq];rfl
 | p::r,l,h,nd=>by
  rw[aw,bz]at nd
  show lJ (jr (gk l) (Sum.inl p.1:iq) p.2) (gk r)=_
  rw[qz (h p.1 (.head _)),zg (fun m hm=>?_) nd.2,bp]
  ·rfl
  ·intro z
   rw[ao]at z
   rcases aM.mp z with z|z
   ·exact h m (by rw[aw];exact .tail _ hm) z
   ·have e:m=p.1:=by simpa using z
    rw[e]at hm;exact nd.1 hm
theorem nK(l:List (Int×V)):(gk l).length=l.length:=by unfold gk;rw[ae]
theorem A7{l:List (Int×V)}{j:Nat}{kv:iq×V}(h:(gk l)[j]? =some kv):∃p,l[j]? =some p/\kv.1=Sum.inl p.1:=by
 unfold gk at h
 rw[aA]at h
 obtain⟨p,hp,e⟩:=cg.mp h
 exact ⟨p,hp,by rw [<- e]⟩
def lS(ts:List (Int×Int))(col:Int->Bool):Prop:=∀m n,n∈iV ts m->col n= !(col m)
def Tree(ts:List (Int×Int))(c:Int)(ab:List (Int×V)):Prop:=∀(i:Nat) (p:Int×V),ab[i]? =some p->(p.2= .non/\p.1=c)\/∃m,p.2= .int m/\m∈(ab.take i).map (·.1)/\p.1∈iV ts m
structure MetOk(ts:List (Int×Int))(c:Int)(ab:List (Int×V)):Prop where
 nd:(ab.map (·.1)).Nodup
 all:∀n,n∈ab.map (·.1)↔Rch ts c n
 tree:Tree ts c ab
theorem Tree.snoc{ts:List (Int×Int)}{c m n:Int}{ab:List (Int×V)}(h:Tree ts c ab)(hm:m∈ab.map (·.1))(hn:n∈iV ts m):Tree ts c (ab++[(n,.int m)]):=fun i p hp=>by
 rcases Eb hp with e|⟨rfl,rfl⟩
 ·have hi:=(ah.mp e).1
  rcases h i p e with z|⟨k,z1,z2,z3⟩
  ·exact .inl z
  ·refine .inr ⟨k,z1,?_,z3⟩
   rw[gW (by lia)]
   exact z2
 ·refine .inr ⟨m,rfl,?_,hn⟩
  rw[List.take_left']
  ·exact hm
  ·rfl
structure Bf(ps ts:List (Int×Int))(c:Int)(i:Nat)(x:Option Int)(j:Nat)(ab:List (Int×V)):Prop where
 c_in:c∈ab.map (·.1)
 nd:(ab.map (·.1)).Nodup
 sub:∀n∈ab.map (·.1),Rch ts c n
 cl:∀m∈(ab.map (·.1)).take i,∀n∈iV ts m,n∈ab.map (·.1)
 xin:∀m,x=some m->(ab.map (·.1))[i]? =some m/\∀n∈(iV ts m).take j,n∈ab.map (·.1)
 tree:Tree ts c ab
 il:i<=ab.length
theorem Bf.len{ps ts:List (Int×Int)}{c:Int}{i:Nat}{x:Option Int}{j:Nat}{ab:List (Int×V)}(h:Bf ps ts c i x j ab)(he:Ends ps ts)(hc:c∈ps.map (·.1)):ab.length<=ps.length:=by
 have z:=n6 h.nd fun n hn=>(h.sub n hn).pl he hc
 rwa[ae,ae]at z
def tu:Sp:=fun vs H Q _=>∃nd c ps ts as,vs=[.ref nd,.int c]/\Rd H nd (.dK (kz ps as))/\as.length=ps.length/\mR H ps ts as/\Ends ps ts/\(ps.map (·.1)).Nodup/\ps.length<=40/\ts.length<=120/\c∈ps.map (·.1)/\
 ∀d H' ab,H d=none->Same H H'->H' d=some (.dK (gk ab))->MetOk ts c ab->ab.length<=40->Q (.ref d) H'
def sx(col:Int->Bool)(c:Int)(lv:List (Int×V)):Prop:=∀p∈lv,∃x:Int,p.2= .int x/\x%2=if col p.1=col c then 0 else 1
def uM:Sp:=fun vs H Q _=>∃a ab ts c col,vs=[.ref a]/\H a=some (.dK (gk ab))/\(ab.map (·.1)).Nodup/\Tree ts c ab/\lS ts col/\ab.length<=40/\
 ∀d H' lv o,H d=none->But a H H'->H' a=some (.frz o (.dK (gk ab)))->H' d=some (.dK (gk lv))->lv.map (·.1)=ab.map (·.1)->sx col c lv->Q (.ref d) H'
def wA:Sp:=fun vs H Q _=>∃nd c ps ts as col,vs=[.ref nd,.int c]/\Rd H nd (.dK (kz ps as))/\as.length=ps.length/\mR H ps ts as/\Ends ps ts/\(ps.map (·.1)).Nodup/\ps.length<=40/\ts.length<=120/\c∈ps.map (·.1)/\lS ts col/\
 ∀H',Same H H'->Q .non H'
theorem Gd(B:Blt mg)(D:DefAt K mg "met_from" (iw 28) ["nears","place"] f fd):FnOk P w K mg base iE 1 f fd ["nears","place"] tu:=by
 have sc:FnScope ["nears","place","above","line","done","here","there"] ["nears","place"] (iU (iw 28)):=by walk_at "SC"
 refine D.F.ok sc (fun vs H Q E h=>?_) (fun cdv A outer s H vs Q E hr h=>?_)
 ·obtain⟨nd,c,ps,ts,as,rfl,_⟩:=h
  rfl
 obtain⟨nd,c,ps,ts,as,rfl,hrd,hla,hne,hen,hnd,hpl,htl,hc,h⟩:=h
 have hu:=i8 hr
 have hu0:_<PySem.cLine:=aF hu
 refine⟨_,(iu (iF (i:=2) sc.nd rfl (Or.inl rfl) (uo (uI (qv 1) kN uu) rfl rfl (fun z=>nomatch z) (by decide))) (iu (iF (i:=3) sc.nd rfl (Or.inl rfl) (jJ (ig (qv 1) ik))) (iu (iF (i:=4) sc.nd rfl (Or.inl rfl) ip) (iu (nZ aZ (iS lU (qv 4) (jg kW rfl B.len bQ (ig (qv 3) ik)) (iQ _)) (iu (iF (i:=5) sc.nd rfl (Or.inl rfl) (iz iA (qv 3) (qv 4) (fun _ _=>rfl))) (iu (jR aZ rfl (jx (nQ hu (qv 0) (qv 5) (fun _ _=>rfl))) (iJ (i:=6) sc.nd rfl (Or.inl rfl)) (iB (je (lr (nz hu (qv 6) (qv 2))) (iu (l7 hu (qv 2) (qv 6) (qv 5)) (iB (jK (ka aQ bg bf kf (qv 3) (ig (qv 6) ik))))) jf))) (iB (qI (i:=4) sc.nd rfl (Or.inl rfl) ip qH))))) (iB (iP (qv 2))))))),?_⟩
 walk_at "D"
 intro md hmd
 walk_at "D"
 refine⟨ij,[((Sum.inl c:iq),V.non)],rfl,(by show 1<=15;decide),?_⟩
 rw[qX,show lJ [] [((Sum.inl c:iq),V.non)]=gk [(c,.non)]from rfl]
 intro tl htl1
 have nmt:md ≠ tl:=fun z=>by rw [<- z,ij] at htl1; cases htl1
 have htl0:H tl = none:=by rw [<- htl1,ir nmt.symm]
 have s0:Same H (upd (upd H md (.dK (gk [(c,.non)]))) tl (.lst [.int c])):=(iy hmd _).trans (iy htl1 _)
 have em0:upd (upd H md (.dK (gk [(c,.non)]))) tl (.lst [.int c]) md=some (.dK (gk [(c,.non)])):=by rw[ir nmt,ij]
 have et0:upd (upd H md (.dK (gk [(c,.non)]))) tl (.lst [.int c]) tl=some (.lst ((([(c,V.non)]:List (Int×V)).map (·.1)).map V.int)):=ij
 generalize upd (upd H md (.dK (gk [(c,.non)]))) tl (.lst [.int c])=H0 at s0 em0 et0
 have t0:Tree ts c [(c,.non)]:=fun i p hp=>by
  have hi:=(ah.mp hp).1
  have e:i=0:=by simp at hi;lia
  subst e
  cases hp
  exact .inl ⟨rfl,rfl⟩
 have b0:Bf ps ts c 0 none 0 [(c,.non)]:=⟨.head _,by simp,fun n hn=>by rw[aC.mp hn];exact .refl,(fun m hm=>by rw[List.take_zero]at hm;cases hm),(fun _ z=>nomatch z),t0,bw _⟩
 refine⟨fun m σ H1=>∃hh th i ab,σ=[some (.ref nd),some (.int c),some (.ref md),some (.ref tl),some (.int ((i:Nat):Int)),hh,th]/\Same H H1/\H1 md=some (.dK (gk ab))/\H1 tl=some (.lst ((ab.map (·.1)).map V.int))/\Bf ps ts c i none 0 ab/\m=ps.length-i,⟨_,none,none,0,[(c,.non)],rfl,s0,em0,et0,b0,rfl⟩,?_⟩
 rintro m σ H1 ⟨hh,th,i,ab,rfl,s1,em,et,g,rfl⟩
 have hlen:=g.len hen hc
 simp_arith[iD,et,ae]
 by_cases ci:i<ab.length
 ·rw [az (aD (by lia))]
  refine⟨_,fun σ' H' q=>q,?_⟩
  obtain⟨x,hx⟩:∃x,(ab.map (·.1))[i]? =some x:=⟨_,gE (by rw[ae];exact ci)⟩
  have hxk:x∈ab.map (·.1):=ag hx
  have hxp:x∈ps.map (·.1):=(g.sub x hxk).pl hen hc
  rw[show i7 ((ab.map (·.1)).map V.int) ((i:Nat):Int)=some (.int x)from kH (by rw[aA,hx];rfl)]
  obtain⟨p,hp,epx⟩:=aE.mp hxp
  obtain⟨k,hk,epk⟩:=aV.mp hp
  have xi:ps[k]? =some p:=by rw[gE hk,epk]
  have ai:as[k]? =some (as[k]'(by lia)):=gE _
  generalize as[k]'(by lia)=ax at ai
  have eax:=hne k p ax xi ai
  rw[epx]at eax
  have vax:=oR hnd xi ai
  rw[epx]at vax
  have g2:Bf ps ts c i (some x) 0 ab:=⟨g.c_in,g.nd,g.sub,g.cl,fun m hm=>by cases hm;exact⟨hx,fun n hn=>by rw[List.take_zero]at hn;cases hn⟩,g.tree,g.il⟩
  clear g
  dsimp only
  refine j7 (ji K ax) H1 (fun R hR=>?_) (kO (K:=K) (a:=ax) (xs:=(iV ts x).map V.int) (fun j σ H3=>∃th ab1,σ=[some (.ref nd),some (.int c),some (.ref md),some (.ref tl),some (.int ((i:Nat):Int)),some (.int x),th]/\Same H H3/\H3 md=some (.dK (gk ab1))/\H3 tl=some (.lst ((ab1.map (·.1)).map V.int))/\Bf ps ts c i (some x) j ab1) ⟨_,ab,rfl,s1,em,et,g2⟩ (fun j σ H3 _ ⟨_,_,_,s3,_⟩=>SqL.of (s3 _ _ eax)) ?_ ?_)
  ·unfold jt
   walk_at "D"
   exact⟨nd,_,rfl,.inl ⟨_,Sum.inl x,My.Rd.same hrd s1,rfl,vax.symm⟩,ax,rfl,⟨_,SqL.of (s1 _ _ eax)⟩,hR⟩
  ·rintro j y σ H3 hj ⟨th1,ab1,rfl,s3,em3,et3,g3⟩
   rw[aA]at hj
   obtain⟨n,hn,rfl⟩:=cg.mp hj
   have hnn:n∈iV ts x:=ag hn
   have htk:∀q∈(iV ts x).take (j+1),q∈(iV ts x).take j\/q=n:=fun q hq=>by
    rw[jy hn]at hq
    rcases aM.mp hq with z|z
    ·exact .inl z
    ·exact .inr (aC.mp z)
   have hx3:=(g3.xin x rfl).1
   have hxk3:x∈ab1.map (·.1):=ag hx3
   simp_arith[em3,oQ]
   by_cases cn:n∈ab1.map (·.1)
   ·rw[aD cn]
    walk_at "D"
    exact⟨_,ab1,rfl,s3,(by first|exact em3|rfl),et3,⟨g3.c_in,g3.nd,g3.sub,g3.cl,fun m hm=>⟨(g3.xin m hm).1,fun q hq=>by
     cases hm
     rcases htk q hq with z|z
     ·exact(g3.xin _ rfl).2 q z
     ·rw[z];exact cn⟩,g3.tree,g3.il⟩⟩
   ·rw[aK cn]
    have em1:(ab1++[(n,V.int x)]).map (·.1)=ab1.map (·.1)++[n]:=by rw[ao];rfl
    have g4:Bf ps ts c i (some x) (j+1) (ab1++[(n,V.int x)]):=by
     refine⟨?_,?_,fun q hq=>?_,fun q hq z hz=>?_,fun q hq=>⟨?_,fun z hz=>?_⟩,g3.tree.snoc hxk3 hnn,?_⟩
     ·rw[em1];exact bh _ g3.c_in
     ·rw[em1,bZ]
      exact ⟨g3.nd,by simp,fun a ha b hb=>fun z=>cn (by rw [aC.mp hb] at z; rw [<- z]; exact ha)⟩
     ·rw[em1]at hq
      rcases aM.mp hq with z|z
      ·exact g3.sub q z
      ·rw[aC.mp z];exact .step (g3.sub x hxk3) hnn
     ·rw[em1,gW (by rw[ae];exact g3.il)]at hq
      rw[em1]
      exact bh _ (g3.cl q hq z hz)
     ·cases hq
      rw[em1,bA (ah.mp hx3).1]
      exact hx3
     ·cases hq
      rw[em1]
      rcases htk z hz with w1|w1
      ·exact bh _ ((g3.xin _ rfl).2 z w1)
      ·exact bj _ (by rw[w1];exact aC.mpr rfl)
     ·have:=g3.il
      rw[aB]
      lia
    have hl4:=g4.len hen hc
    rw[aB]at hl4
    have hl4':ab1.length+1<=ps.length:=hl4
    simp_arith[em3]
    refine⟨by rw[nK];exact iW (by lia),?_⟩
    rw[qz cn]
    have et4:upd H3 md (.dK (gk (ab1++[(n,.int x)]))) tl=some (.lst ((ab1.map (·.1)).map V.int)):=by rw[ir nmt.symm];exact et3
    refine⟨⟨tl,_,rfl,et4⟩,?_⟩
    rw[et4]
    refine⟨by rw[ae,ae];exact iW (by lia),_,ab1++[(n,.int x)],rfl,i4 (i4 s3 hmd) htl0,?_,?_,g4⟩
    ·rw[ir nmt,ij]
    ·rw[ij,em1,ao];rfl
  ·rintro σ H3 ⟨th1,ab1,rfl,s3,em3,et3,g3⟩
   have hx3:=(g3.xin x rfl).1
   have hil:i<ab1.length:=by
    have:=(ah.mp hx3).1
    rwa[ae]at this
   walk_at "D"
   refine⟨ps.length-(i+1),by lia,_,_,i+1,ab1,rfl,s3,em3,et3,⟨g3.c_in,g3.nd,g3.sub,fun m hm n hn=>?_,(fun _ z=>nomatch z),g3.tree,hil⟩,rfl⟩
   rw[jy hx3]at hm
   rcases aM.mp hm with z|z
   ·exact g3.cl m z n hn
   ·rw[aC.mp z]at hn
    refine(g3.xin x rfl).2 n ?_
    rw[ae,aR]
    exact hn
 ·rw[ay (by simp;lia)]
  walk_at "D"
  have hil:=g.il
  have ei:i=ab.length:=by lia
  refine h md H1 ab hmd s1 em ⟨g.nd,fun n=>⟨g.sub n,fun r=>?_⟩,g.tree⟩ (by lia)
  induction r with
  |refl=>exact g.c_in
  | step _ hn ih=>exact g.cl _ (by rw [ei,<- ae (f:=fun (x:Int × V)=>x.1),aR]; exact ih) _ hn
theorem Gz(B:Blt mg)(D:DefAt K mg "levels_by" (iw 29) ["above"] f fd):FnOk P w K mg base iE 1 f fd ["above"] uM:=by
 have sc:FnScope ["above","levels","place"] ["above"] (iU (iw 29)):=by walk_at "SC"
 refine D.F.ok sc (fun vs H Q E h=>?_) (fun cdv A outer s H vs Q E hr h=>?_)
 ·obtain⟨a,ab,ts,c,col,rfl,_⟩:=h
  rfl
 obtain⟨a,ab,ts,c,col,rfl,ea,hnd,tree,hcol,hal,h⟩:=h
 have hu:=i8 hr
 have hu0:_<PySem.cLine:=aF hu
 refine⟨_,(iu (iF (i:=1) sc.nd rfl (Or.inl rfl) rf) (iu (jR aZ rfl (uq (qv 0)) (iJ (i:=2) sc.nd rfl (Or.inl rfl)) (iB (l7 hu (qv 1) (qv 2) (rg (iS Cg (nQ hu (qv 0) (qv 2) (fun _ _=>rfl)) kN (iQ _)) ip (iO kc (j4 hu (qv 1) (nQ hu (qv 0) (qv 2) (fun _ _=>rfl)) (fun _ _=>rfl)) ip))))) (iB (iP (qv 1))))),?_⟩
 walk_at "D"
 intro d hd
 have nad:a≠d:=iC ea hd
 refine tFor_hideI (ι:=Obj) (fun o=>kU a o (gk ab)) (fun o=>upd (upd H d (.dK [])) a (.frz o (.dK (gk ab)))) (fun _=>True) (fun R hR=>?_) (fun o _=>?_)
 ·unfold rN
  walk_at "D"
  exact⟨a,_,rfl,(by rw[ir nad];exact ea),fun o=>hR o trivial⟩
 have b0:But a H (upd (upd H d (.dK [])) a (.frz o (.dK (gk ab)))):=(But.new hd).trans (But.at _ _ _)
 have ea0:upd (upd H d (.dK [])) a (.frz o (.dK (gk ab))) a=some (.frz o (.dK (gk ab))):=ij
 have ed0:upd (upd H d (.dK [])) a (.frz o (.dK (gk ab))) d=some (.dK (gk [])):=by rw[ir nad.symm,ij];rfl
 generalize upd (upd H d (.dK [])) a (.frz o (.dK (gk ab)))=H0 at b0 ea0 ed0
 refine uE (fun j σ H1=>∃v1 lv,σ=[some (.ref a),some (.ref d),v1]/\But a H H1/\H1 a=some (.frz o (.dK (gk ab)))/\H1 d=some (.dK (gk lv))/\lv.map (·.1)=(ab.take j).map (·.1)/\sx col c lv) ⟨none,[],rfl,b0,ea0,ed0,by simp,(fun p hp=>nomatch hp)⟩ (fun j σ H1 _ ⟨_,_,_,_,e1,_⟩=>e1) ?_ ?_
 ·rintro j kv σ H1 hj ⟨v1,lv,rfl,b1,ea1,ed1,hk,lok⟩
  obtain⟨p,hp,ekv⟩:=A7 hj
  rw[ekv]
  show kG 2 (.int p.1) _ _ _
  have hpm:p∈ab:=ag hp
  have vp:=nL hnd hpm
  have hjl:j<ab.length:=(ah.mp hp).1
  have htk:(ab.take (j+1)).map (·.1)=lv.map (·.1)++[p.1]:=by rw[jy hp,ao,hk];rfl
  have ndk:((ab.take (j+1)).map (·.1)).Nodup:=by rw[List.map_take];exact List.Sublist.nodup (gz _ _) hnd
  have hpk:p.1∉lv.map (·.1):=fun z=>by
   rw[htk,bZ]at ndk
   exact ndk.2.2 p.1 z p.1 (aC.mpr rfl) rfl
  have ndl:(lv.map (·.1)).Nodup:=by
   rw[htk,bZ]at ndk
   exact ndk.1
  have hll:lv.length=j:=by
   have z:=bN List.length hk
   rw[ae,ae,aS]at z
   lia
  have fin:∀x:Int,(x%2=if col p.1=col c then 0 else 1)->(gk lv).length<sizeLine/\∃v1 lv',[some (V.ref a),some (V.ref d),some (V.int p.1)]=[some (V.ref a),some (V.ref d),v1]/\But a H (upd H1 d (.dK (jr (gk lv) (Sum.inl p.1:iq) (.int x))))/\upd H1 d (.dK (jr (gk lv) (Sum.inl p.1:iq) (.int x))) a=some (.frz o (.dK (gk ab)))/\upd H1 d (.dK (jr (gk lv) (Sum.inl p.1:iq) (.int x))) d=some (.dK (gk lv'))/\lv'.map (·.1)=(ab.take (j+1)).map (·.1)/\sx col c lv':=fun x hx=>by
   rw[qz hpk]
   refine⟨by rw[nK];exact iW (by lia),_,lv++[(p.1,.int x)],rfl,fun b u nb q=>?_,?_,ij,?_,fun q hq=>?_⟩
   ·rw[ir (iC q hd)];exact b1 _ _ nb q
   ·rw[ir nad];exact ea1
   ·rw[htk,ao];rfl
   ·rcases aM.mp hq with z|z
    ·exact lok q z
    ·rw[aC.mp z]
     exact⟨x,rfl,hx⟩
  walk_at "D"
  refine⟨a,_,rfl,.inl ⟨_,Sum.inl p.1,.inr ⟨o,ea1⟩,rfl,vp.symm⟩,?_⟩
  rcases tree j p hp with⟨e1,e2⟩|⟨m,e1,e2,e3⟩
  ·rw[e1]
   refine kg (fun _=>?_) (fun z=>absurd rfl z)
   rw[ed1]
   exact fin 0 (by rw[e2,az rfl];rfl)
  ·rw[e1]at vp ⊢
   refine kg (fun z=>by cases z) (fun _=>?_)
   refine⟨a,_,rfl,.inl ⟨_,Sum.inl p.1,.inr ⟨o,ea1⟩,rfl,vp.symm⟩,?_⟩
   rw [<- hk] at e2
   obtain⟨q,hq,eq⟩:=aE.mp e2
   have eq':q.1=m:=eq
   obtain⟨x,ex,hx⟩:=lok q hq
   have vq:=nL ndl hq
   rw[eq',ex]at vq
   rw[eq']at hx
   have hc2:=hcol m p.1 e3
   dsimp only
   rw[ed1]
   dsimp only
   rw[vq]
   refine fin (x+1) ?_
   rw[hc2]
   revert hx
   cases col m<;>cases col c<;>simp<;>lia
 ·rintro σ H1 ⟨v1,lv,rfl,b1,ea1,ed1,hk,lok⟩
  rw[nK,aR]at hk
  walk_at "D"
  exact h d H1 lv o hd b1 ea1 ed1 hk lok
theorem G5(B:Blt mg)(D:DefAt K mg "odd_ring_from" (iw 32) ["nears","place"] f fd)(Dqh:DefAt K mg "met_from" (iw 28) ["nears","place"] fqh dqh)(Gqh:FnOk P w K mg base iE 1 fqh dqh ["nears","place"] tu)(Dqf:DefAt K mg "levels_by" (iw 29) ["above"] fqf dqf)(Gqf:FnOk P w K mg base iE 1 fqf dqf ["above"] uM):FnOk P w K mg base iE 2 f fd ["nears","place"] wA:=by
 have sc:FnScope ["nears","place","above","levels","here","there"] ["nears","place"] (iU (iw 32)):=by walk_at "SC"
 refine D.F.ok sc (fun vs H Q E h=>?_) (fun cdv A outer s H vs Q E hr h=>?_)
 ·obtain⟨nd,c,ps,ts,as,col,rfl,_⟩:=h
  rfl
 obtain⟨nd,c,ps,ts,as,col,rfl,hrd,hla,hne,hen,hnd,hpl,htl,hc,hcol,h⟩:=h
 have hu:=i8 hr
 have hu0:_<PySem.cLine:=aF hu
 refine⟨_,(iu (iF (i:=2) sc.nd rfl (Or.inl rfl) (iN Gqh (hr.mono (by decide)) rfl Dqh.m Dqh.F.kp Dqh.b .nil iI (ig (qv 0) (ig (qv 1) ik)))) (iu (iF (i:=3) sc.nd rfl (Or.inl rfl) (iN Gqf (hr.mono (by decide)) rfl Dqf.m Dqf.F.kp Dqf.b .nil iI (ig (qv 2) ik))) (iu (jR aZ rfl (rh (qv 2)) (iJ (i:=4) sc.nd rfl (Or.inl rfl)) (iB (jR aZ rfl (jx (nQ hu (qv 0) (qv 4) (fun _ _=>rfl))) (iJ (i:=5) sc.nd rfl (Or.inl rfl)) (iB (je (iS kF (j4 hu (qv 3) (qv 5) (fun _ _=>rfl)) (j4 hu (qv 3) (qv 4) (fun _ _=>rfl)) (iQ _)) (iB nY) jf))))) (iB (iP kN))))),?_⟩
 walk_at "D"
 refine⟨nd,c,ps,ts,as,rfl,hrd,hla,hne,hen,hnd,hpl,htl,hc,fun md H1 ab hmd s1 em mok hal=>?_⟩
 walk_at "D"
 refine⟨md,ab,ts,c,col,rfl,em,mok.nd,mok.tree,hcol,hal,fun d H2 lv o hd b2 em2 ed2 hk lok=>?_⟩
 have s2:Same H H2:=fun b u q=>b2 _ _ (iC q hmd) (s1 _ _ q)
 walk_at "D"
 refine j7 (kU md o (gk ab)) H2 (fun R hR=>?_) (uE (fun j σ H3=>∃v1 v2,σ=[some (.ref nd),some (.int c),some (.ref md),some (.ref d),v1,v2]/\H3=H2) ⟨none,none,rfl,rfl⟩ (fun j σ H3 _ ⟨_,_,_,e⟩=>by rw[e];exact em2) ?_ ?_)
 ·unfold oH
  walk_at "D"
  exact⟨md,_,o,rfl,em2,hR⟩
 ·rintro j kv σ H3 hj ⟨v1,v2,rfl,rfl⟩
  obtain⟨p0,hp0,ekv⟩:=A7 hj
  rw[ekv]
  show kG 4 (.int p0.1) _ _ _
  have hxk:p0.1∈ab.map (·.1):=aW (ag hp0)
  have hxr:=(mok.all _).mp hxk
  have hxp:p0.1∈ps.map (·.1):=hxr.pl hen hc
  generalize p0.1=x at hxk hxr hxp
  obtain⟨p,hp,epx⟩:=aE.mp hxp
  obtain⟨k,hk0,epk⟩:=aV.mp hp
  have xi:ps[k]? =some p:=by rw[gE hk0,epk]
  have ai:as[k]? =some (as[k]'(by lia)):=gE _
  generalize as[k]'(by lia)=ax at ai
  have eax:=hne k p ax xi ai
  rw[epx]at eax
  have vax:=oR hnd xi ai
  rw[epx]at vax
  have lev:∀n,n∈ab.map (·.1)->∃y:Int,iT (gk lv) (Sum.inl n:iq)=some (.int y)/\y%2=if col n=col c then 0 else 1:=fun n hn=>by
   rw [<- hk] at hn
   obtain⟨q,hq,eq⟩:=aE.mp hn
   have eq':q.1=n:=eq
   obtain⟨y,ey,hy⟩:=lok q hq
   have vq:=nL (by rw[hk];exact mok.nd) hq
   rw[eq',ey]at vq
   rw[eq']at hy
   exact⟨y,vq,hy⟩
  walk_at "D"
  refine j7 (ji K ax) H3 (fun R hR=>?_) (kO (K:=K) (a:=ax) (xs:=(iV ts x).map V.int) (fun j σ H4=>∃v2,σ=[some (.ref nd),some (.int c),some (.ref md),some (.ref d),some (.int x),v2]/\H4=H3) ⟨_,rfl,rfl⟩ (fun j σ H4 _ ⟨_,_,e⟩=>by rw[e];exact SqL.of (s2 _ _ eax)) ?_ ?_)
  ·unfold jt
   walk_at "D"
   exact⟨nd,_,rfl,.inl ⟨_,Sum.inl x,My.Rd.same hrd s2,rfl,vax.symm⟩,ax,rfl,⟨_,SqL.of (s2 _ _ eax)⟩,hR⟩
  ·rintro i y σ H4 hi ⟨v2,rfl,rfl⟩
   rw[aA]at hi
   obtain⟨n,hn,rfl⟩:=cg.mp hi
   have hnn:n∈iV ts x:=ag hn
   obtain⟨y1,e1,h1⟩:=lev x hxk
   obtain⟨y2,e2,h2⟩:=lev n ((mok.all _).mpr (.step hxr hnn))
   have hne12:¬y2=y1:=fun z=>by
    rw[hcol x n hnn]at h2
    rw[z,h1]at h2
    revert h2
    cases col x<;>cases col c<;>simp
   simp_arith[ed2,e1,e2,aK hne12]
   first|exact⟨_,rfl,rfl⟩|exact⟨rfl,rfl⟩|rfl|simp
  ·rintro σ H4 ⟨v2,rfl,rfl⟩
   first|exact⟨_,_,rfl,rfl⟩|rfl|simp
 ·rintro σ H3 ⟨v1,v2,rfl,rfl⟩
  walk_at "D"
  exact h H3 s2
def jC(f:Int->Int)(col:Int->Bool)(n:Int):Int:=if col n=col (f n)then 0 else 1
def jV(f:Int->Int)(col:Int->Bool)(ns:List Int)(b:Int):List Int:=ns.filter fun n=>decide (jC f col n=b)
def yR:Sp:=fun vs H Q _=>∃v ps ts f col,vs=[v]/\jc3 H v ps ts/\WebOk ps ts/\LabOk ps ts f/\lS ts col/\
 ∀t a1 a2 H',H a1=none->H a2=none->a1≠a2->Same H H'->H' t=some (.tup [.str "sides",.ref a1,.ref a2])->H' a1=some (.lst ((jV f col (ps.map (·.1)) 0).map V.int))->H' a2=some (.lst ((jV f col (ps.map (·.1)) 1).map V.int))->Q (.ref t) H'
theorem Gh(B:Blt mg)(D:DefAt K mg "sides_of" (iw 34) ["web"] f fd)(Dq0:DefAt K mg "look_at_web" (iw 25) ["thing"] fq0 dq0)(Gq0:FnOk P w K mg base iE 5 fq0 dq0 ["thing"] Ag)(Dq1:DefAt K mg "nears_in" (iw 26) ["web"] fq1 dq1)(Gq1:FnOk P w K mg base iE 1 fq1 dq1 ["web"] Ah)(Dq3:DefAt K mg "odd_ring_from" (iw 32) ["nears","place"] fq3 dq3)(Gq3:FnOk P w K mg base iE 2 fq3 dq3 ["nears","place"] wA)(Dqf:DefAt K mg "levels_by" (iw 29) ["above"] fqf dqf)(Gqf:FnOk P w K mg base iE 1 fqf dqf ["above"] uM)(Dqh:DefAt K mg "met_from" (iw 28) ["nears","place"] fqh dqh)(Gqh:FnOk P w K mg base iE 1 fqh dqh ["nears","place"] tu):FnOk P w K mg base iE 6 f fd ["web"] yR:=by
 have sc:FnScope ["web","nears","levels","place","ring","first","other"] ["web"] (iU (iw 34)):=by walk_at "SC"
 refine D.F.ok sc (fun vs H Q E h=>?_) (fun cdv A outer s H vs Q E hr h=>?_)
 ·obtain⟨v,ps,ts,f,col,rfl,_⟩:=h
  rfl
 obtain⟨v,ps,ts,fl,col,rfl,hw,wok,lab,hcol,h⟩:=h
 have okl:=wok.pl
 have okt:=wok.tl
 have hnd:=wok.p.nodup
 have hen:=wok.ends
 have hu:=i8 hr
 have hu0:_<PySem.cLine:=aF hu
 refine⟨_,(iu (jK (iN Gq0 (hr.mono (by decide)) rfl Dq0.m Dq0.F.kp Dq0.b .nil iI (ig (qv 0) ik))) (iu (iF (i:=1) sc.nd rfl (Or.inl rfl) (iN Gq1 (hr.mono (by decide)) rfl Dq1.m Dq1.F.kp Dq1.b .nil iI (ig (qv 0) ik))) (iu (iF (i:=2) sc.nd rfl (Or.inr rfl) rf) (iu (jR aZ rfl (uq (qv 1)) (iJ (i:=3) sc.nd rfl (Or.inl rfl)) (iB (je (lr (nz hu (qv 3) (qv 2))) (iu (iF (i:=4) sc.nd rfl (Or.inl rfl) (iN Gq3 (hr.mono (by decide)) rfl Dq3.m Dq3.F.kp Dq3.b .nil iI (ig (qv 1) (ig (qv 3) ik)))) (iu (je (iS xM (qv 4) kN (iQ _)) (iB (iP (j0 (ig tP (ig (qv 4) ik))))) jf) (iB (jK (DD (qv 2) (iN Gqf (hr.mono (by decide)) rfl Dqf.m Dqf.F.kp Dqf.b .nil iI (ig (iN Gqh (hr.mono (by decide)) rfl Dqh.m Dqh.F.kp Dqh.b .nil iI (ig (qv 1) (ig (qv 3) ik))) ik))))))) jf))) (iu (uw (i:=5) sc.nd rfl (Or.inl rfl) (CpScope.of (N:=["place","levels"]) (src:=[none,some 2]) (by rfl)) rfl (rh (qv 1)) (fun _ _ _ _=>(iJ (i:=0) (jc (l:=["place","levels"]) (by rfl)) rfl (Or.inl rfl))) (fun _ _ _ _=>(km (iS kF (iO lG (j4 hu (qv 1) (qv 0) (fun _ _=>rfl)) ip) ip (iQ _)))) (fun _ _ _ _=>(qv 0))) (iu (uw (i:=6) sc.nd rfl (Or.inl rfl) (CpScope.of (N:=["place","levels"]) (src:=[none,some 2]) (by rfl)) rfl (rh (qv 1)) (fun _ _ _ _=>(iJ (i:=0) (jc (l:=["place","levels"]) (by rfl)) rfl (Or.inl rfl))) (fun _ _ _ _=>(km (iS kF (iO lG (j4 hu (qv 1) (qv 0) (fun _ _=>rfl)) ip) ip (iQ _)))) (fun _ _ _ _=>(qv 0))) (iB (iP (j0 (ig tP (ig (qv 5) (ig (qv 6) ik)))))))))))),?_⟩
 walk_at "D"
 refine⟨v,ps,ts,rfl,hw,wok,fun H1 s1=>?_⟩
 walk_at "D"
 refine⟨v,ps,ts,rfl,hw.same s1,wok,fun nd as H2 hn2 s2 en2 hla ne2=>?_⟩
 have s12:=s1.trans s2
 have hn0:H nd=none:=by
  cases q:H nd with
  |none=>rfl
  |some u=>rw[s1 _ _ q]at hn2;cases hn2
 walk_at "D"
 intro md hmd
 have hmd0:H md=none:=s12.free hmd
 have s3:Same H2 (upd H2 md (.dK [])):=iy hmd _
 have em3:upd H2 md (.dK []) md=some (.dK (gk [])):=ij
 have nnm:nd≠md:=iC en2 hmd
 have en3:=s3 _ _ en2
 have ne3:mR (upd H2 md (.dK [])) ps ts as:=fun i p a h1 h2=>s3 _ _ (ne2 i p a h1 h2)
 have hma:∀(i:Nat) (p:Int×Int) (a:Addr),ps[i]? =some p->as[i]? =some a->a≠md/\a≠nd:=fun i p a h1 h2=>⟨iC (ne2 i p a h1 h2) hmd,lD (ne2 i p a h1 h2) en2 (fun z=>nomatch z)⟩
 have s13:=s12.trans s3
 generalize upd H2 md (.dK [])=H3 at em3 en3 ne3 s13
 clear s3 ne2 en2 hmd s2 s12 hn2 s1
 have hkl:=CU hla
 refine tFor_hideI (ι:=Obj) (fun o=>kU nd o (kz ps as)) (fun o=>upd H3 nd (.frz o (.dK (kz ps as)))) (fun _=>True) (fun R hR=>?_) (fun o _=>?_)
 ·unfold rN
  walk_at "D"
  exact⟨nd,_,rfl,en3,fun o=>hR o trivial⟩
 have s4:Same H (upd H3 nd (.frz o (.dK (kz ps as)))):=i4 s13 hn0
 have em4:upd H3 nd (.frz o (.dK (kz ps as))) md=some (.dK (gk [])):=by rw[ir nnm.symm];exact em3
 have en4:upd H3 nd (.frz o (.dK (kz ps as))) nd=some (.frz o (.dK (kz ps as))):=ij
 have ne4:mR (upd H3 nd (.frz o (.dK (kz ps as)))) ps ts as:=fun i p a h1 h2=>by rw[ir (hma i p a h1 h2).2];exact ne3 i p a h1 h2
 generalize upd H3 nd (.frz o (.dK (kz ps as)))=H4 at s4 em4 en4 ne4
 clear s13 em3 en3 ne3
 refine uE (fun j σ H5=>∃v1 v2 lv,σ=[some v,some (.ref nd),some (.ref md),v1,v2,none,none]/\Same H H5/\H5 nd=some (.frz o (.dK (kz ps as)))/\mR H5 ps ts as/\H5 md=some (.dK (gk lv))/\(lv.map (·.1)).Nodup/\(∀n,n∈lv.map (·.1)↔n∈ps.map (·.1)/\fl n∈(ps.take j).map (·.1))/\(∀q∈lv,∃x:Int,q.2= .int x/\x%2=jC fl col q.1)) ⟨none,none,[],rfl,s4,en4,ne4,em4,eN,fun n=>by simp,(fun q hq=>nomatch hq)⟩ (fun j σ H5 _ ⟨_,_,_,_,_,en5,_⟩=>en5) ?_ ?_
 ·rintro j kv σ H5 hj ⟨v1,v2,lv,rfl,s5,en5,ne5,em5,ndk,hks,lok⟩
  obtain⟨p,hp,ekv⟩:=sW hla hj
  rw[ekv]
  have hpm:p∈ps:=ag hp
  have hpn:p.1∈ps.map (·.1):=aW hpm
  have hnj:p.1∉(ps.take j).map (·.1):=fun z=>by
   obtain⟨q,hq,e⟩:=aE.mp z
   obtain⟨i,hi,eq⟩:=aV.mp hq
   rw[aS]at hi
   rw[gA]at eq
   have:=wok.p.rise i j q p (by lia) (by rw[gE (by lia),eq]) hp
   lia
  have htk:∀n,n∈(ps.take (j+1)).map (·.1)↔n∈(ps.take j).map (·.1)\/n=p.1:=fun n=>by
   rw[jy hp,ao,aM]
   simp
  show kG 3 (.int p.1) _ _ _
  simp_arith[em5,oQ]
  by_cases cf:fl p.1=p.1
  ·have hpk:p.1∉lv.map (·.1):=fun z=>hnj (by have:=((hks p.1).mp z).2;rwa[cf]at this)
   rw[aK hpk]
   walk_at "D"
   refine⟨nd,p.1,ps,ts,as,col,rfl,.inr ⟨o,en5⟩,hla,ne5,hen,hnd,okl,okt,hpn,hcol,fun H6 s6=>?_⟩
   walk_at "D"
   have em6:=s6 _ _ em5
   refine⟨md,rfl,.inl ⟨_,.inl em6⟩,nd,p.1,ps,ts,as,rfl,.inr ⟨o,s6 _ _ en5⟩,hla,fun i q a h1 h2=>s6 _ _ (ne5 i q a h1 h2),hen,hnd,okl,okt,hpn,fun ad H7 ab had s7 ead mok hal=>?_⟩
   walk_at "D"
   refine⟨ad,ab,ts,p.1,col,rfl,ead,mok.nd,mok.tree,hcol,hal,fun d H8 l2 o2 hd b8 ea8 ed8 hk2 lok2=>?_⟩
   have s67:=s6.trans s7
   have s58:Same H5 H8:=fun b u q=>b8 _ _ (iC (s6 _ _ q) had) (s67 _ _ q)
   have em8:=s58 _ _ em5
   have ndm:md≠d:=iC (s67 _ _ em5) hd
   have hk2':∀n,n∈l2.map (·.1)↔n∈ps.map (·.1)/\fl n=p.1:=fun n=>by
    rw[hk2,mok.all]
    constructor
    ·intro r
     have hn:=r.pl hen hpn
     exact ⟨hn,by rw [<- (lab.cls p.1 n hpn hn).mpr r,cf]⟩
    ·rintro⟨hn,e⟩
     exact(lab.cls p.1 n hpn hn).mp (by rw[cf,e])
   have nd2:(l2.map (·.1)).Nodup:=by rw[hk2];exact mok.nd
   have dis:∀n∈l2.map (·.1),n∉lv.map (·.1):=fun n h1 h2=>hnj (by have z:=((hks n).mp h2).2;rwa[((hk2' n).mp h1).2]at z)
   have l1:=n6 ndk fun n hn=>((hks n).mp hn).1
   have l3:=n6 nd2 fun n hn=>((hk2' n).mp hn).1
   rw[ae,ae]at l1 l3
   refine⟨d,gk lv,gk l2,rfl,ndm,em8,ed8,by rw[nK,nK];lia,?_⟩
   rw[zg dis nd2]
   have k9:∀b u,b≠md->H5 b=some u->upd H8 md (.dK (gk (lv++l2))) b=some u:=fun b u nb q=>by rw[ir nb];exact s58 _ _ q
   refine⟨_,_,lv++l2,rfl,i4 (s5.trans s58) hmd0,k9 _ _ nnm en5,fun i q a h1 h2=>k9 _ _ (hma i q a h1 h2).1 (ne5 i q a h1 h2),ij,?_,fun n=>?_,fun q hq=>?_⟩
   ·rw[ao,bZ]
    exact ⟨ndk,nd2,fun a ha b hb z=>dis b hb (by rw [<- z]; exact ha)⟩
   ·rw[ao,aM,hks,hk2',htk]
    constructor
    ·rintro(⟨a,b⟩|⟨a,b⟩)
     ·exact⟨a,.inl b⟩
     ·exact⟨a,.inr b⟩
    ·rintro⟨a,b|b⟩
     ·exact .inl ⟨a,b⟩
     ·exact .inr ⟨a,b⟩
   ·rcases aM.mp hq with z|z
    ·exact lok q z
    ·obtain⟨x,ex,hx⟩:=lok2 q z
     refine⟨x,ex,?_⟩
     rw[hx,jC,((hk2' q.1).mp (aW z)).2]
  ·have hfp:=lab.pl p.1 hpn
   have hfl:=lab.le p.1 hpn
   have hpk:p.1∈lv.map (·.1):=by
    rw[hks]
    refine⟨hpn,?_⟩
    obtain⟨q,hq,e⟩:=aE.mp hfp
    obtain⟨i,hi,eq⟩:=aV.mp hq
    have xi:ps[i]? =some q:=by rw[gE hi,eq]
    have hij:i<j:=by
     rcases gx i j with c|c|c
     ·exact c
     ·rw[c,hp]at xi;cases xi;exact absurd e.symm cf
     ·have:=wok.p.rise j i p q c hp xi
      have e':q.1=fl p.1:=e
      lia
    rw [<- e]
    exact aW (ag (i:=i) (by rw[List.getElem?_take,az hij];exact xi))
   rw[aD hpk]
   walk_at "D"
   refine⟨_,_,lv,rfl,s5,en5,ne5,(by first|exact em5|rfl),ndk,fun n=>?_,lok⟩
   rw[hks,htk]
   constructor
   ·rintro⟨a,b⟩
    exact⟨a,.inl b⟩
   ·rintro⟨a,b|b⟩
    ·exact⟨a,b⟩
    ·exact absurd (by rw [<- b]; exact lab.fix n a) cf
 rintro σ H5 ⟨v1,v2,lv,rfl,s5,en5,ne5,em5,ndk,hks,lok⟩
 rw[hkl]at hks
 have hkz:=nP (ps:=ps) (as:=as) hla.symm
 have lev:∀p∈ps,∃x:Int,iT (gk lv) (Sum.inl p.1:iq)=some (.int x)/\x%2=jC fl col p.1:=fun p hp=>by
  have hpn:p.1∈ps.map (·.1):=aW hp
  have hn:=(hks p.1).mpr ⟨hpn,by rw[aR];exact lab.pl p.1 hpn⟩
  obtain⟨q,hq,e⟩:=aE.mp hn
  have e':q.1=p.1:=e
  obtain⟨x,ex,hx⟩:=lok q hq
  have vq:=nL ndk hq
  rw[e',ex]at vq
  rw[e']at hx
  exact⟨x,vq,hx⟩
 walk_at "D"
 refine jS (kU nd o (kz ps as)) H5 (fun R hR=>?_) (fun l hl=>jP ps.length (fun i σ' Hc=>∃w1,σ'=[w1,some (.ref md)]/\Same H5 Hc/\Hc l=some (.lst ((jV fl col ((ps.map (·.1)).take i) 0).map V.int))) ⟨none,rfl,iy hl _,ij⟩ ?_ ?_)
 ·unfold oH
  walk_at "D"
  exact⟨nd,_,o,rfl,en5,hR⟩
 ·rintro i σ' Hc hi ⟨w1,rfl,s6,el⟩
  refine⟨⟨s6 _ _ (en5),by rw[hkl];exact hi⟩,?_⟩
  rintro y H' ⟨rfl,kv,hkv,rfl⟩
  obtain⟨p,hp,ekv⟩:=sW hla hkv
  rw[ekv]
  obtain⟨x,vx,hx⟩:=lev p (ag hp)
  have hp1:(ps.map (·.1))[i]? =some p.1:=by rw[aA,hp];rfl
  have ft:=rL (f:=fun n=>decide (jC fl col n=0)) hp1
  have hls:(jV fl col ((ps.map (·.1)).take i) 0).length<=i:=by
   unfold jV
   refine bo (bu _ _) ?_
   rw[aS]
   lia
  show kG 0 (.int p.1) _ _ _
  simp_arith[s6 _ _ (em5),vx]
  refine⟨by decide,?_⟩
  rw[hx]
  refine kg (fun c1=>?_) (fun c1=>?_)
  ·refine⟨_,el,by rw[ae];exact iW (by lia),_,rfl,i4 s6 hl,?_⟩
   rw[ij]
   unfold jV
   rw[ft,az c1,ao]
   rfl
  ·unfold jV at el ⊢
   rw[ft,ay c1,bq]
   exact⟨_,rfl,s6,el⟩
 rintro σ' HA ⟨w7,rfl,s7,el7⟩
 refine⟨⟨s7 _ _ (en5),by rw[hkl];exact au _⟩,?_⟩
 rw[show ps.length=(ps.map (·.1)).length by rw[ae],aR]at el7
 walk_at "D"
 refine jS (kU nd o (kz ps as)) HA (fun R hR=>?_) (fun l2 hl2=>jP ps.length (fun i σ' Hc=>∃w1,σ'=[w1,some (.ref md)]/\Same HA Hc/\Hc l2=some (.lst ((jV fl col ((ps.map (·.1)).take i) 1).map V.int))) ⟨none,rfl,iy hl2 _,ij⟩ ?_ ?_)
 ·unfold oH
  walk_at "D"
  exact⟨nd,_,o,rfl,s7 _ _ en5,hR⟩
 ·rintro i σ' Hc hi ⟨w1,rfl,s6,el⟩
  refine⟨⟨s6 _ _ (s7 _ _ en5),by rw[hkl];exact hi⟩,?_⟩
  rintro y H' ⟨rfl,kv,hkv,rfl⟩
  obtain⟨p,hp,ekv⟩:=sW hla hkv
  rw[ekv]
  obtain⟨x,vx,hx⟩:=lev p (ag hp)
  have hp1:(ps.map (·.1))[i]? =some p.1:=by rw[aA,hp];rfl
  have ft:=rL (f:=fun n=>decide (jC fl col n=1)) hp1
  have hls:(jV fl col ((ps.map (·.1)).take i) 1).length<=i:=by
   unfold jV
   refine bo (bu _ _) ?_
   rw[aS]
   lia
  show kG 0 (.int p.1) _ _ _
  simp_arith[s6 _ _ (s7 _ _ em5),vx]
  refine⟨by decide,?_⟩
  rw[hx]
  refine kg (fun c1=>?_) (fun c1=>?_)
  ·refine⟨_,el,by rw[ae];exact iW (by lia),_,rfl,i4 s6 hl2,?_⟩
   rw[ij]
   unfold jV
   rw[ft,az c1,ao]
   rfl
  ·unfold jV at el ⊢
   rw[ft,ay c1,bq]
   exact⟨_,rfl,s6,el⟩
 rintro σ' HB ⟨w8,rfl,s8,el8⟩
 refine⟨⟨s8 _ _ (s7 _ _ en5),by rw[hkl];exact au _⟩,?_⟩
 rw[show ps.length=(ps.map (·.1)).length by rw[ae],aR]at el8
 have s78:=s7.trans s8
 walk_at "D"
 intro t ht
 have st:=iy ht (.tup [.str "sides",.ref l,.ref l2])
 exact h t l l2 _ (s5.free hl) (s5.free (s7.free hl2)) (iC el7 hl2) (s5.trans (s78.trans st)) ij (st _ _ (s8 _ _ el7)) (st _ _ el8)
def ll(ns:List Int):Dt:=.lst (ns.map Dt.int)
theorem yy{H:Hp}{l:Addr}{ns:List Int}(h:H l=some (.lst (ns.map V.int))):Rep H (ll ns) (.ref l):=by
 rw[ll,Rep]
 exact⟨l,_,rfl,h,mG ns⟩
theorem Aq:∀(ns:List Int),jd (ns.map Dt.int)=0
 |[]=>by rw[bV,jd]
 |n::r=>by rw[aw,jd,Aq r];simp[jn]
theorem D5(ns:List Int):jn (ll ns)<=1:=by rw[ll,jn,Aq];lia
def jN(f:Int->Int)(col:Int->Bool)(ks:List Int):List (Int×V):=ks.map fun n=>(n,V.int (jC f col n))
theorem rl(f:Int->Int)(col:Int->Bool)(ks:List Int):(jN f col ks).map (·.1)=ks:=by
 unfold jN
 rw[bD]
 exact List.map_id' ks
theorem Ez(f:Int->Int)(col:Int->Bool)(ks:List Int)(n:Int):jN f col ks++[(n,V.int (jC f col n))]=jN f col (ks++[n]):=by
 unfold jN
 rw[ao]
 rfl
theorem ux{f:Int->Int}{col:Int->Bool}{ks:List Int}{n:Int}(nd:ks.Nodup)(h:n∈ks):iT (gk (jN f col ks)) (Sum.inl n:iq)=some (.int (jC f col n)):=
 nL (l:=jN f col ks) (p:=(n,V.int (jC f col n))) (by rw[rl];exact nd) (by unfold jN;exact aW (f:=fun n=>(n,V.int (jC f col n))) h)
theorem yJ{f:Int->Int}{col:Int->Bool}{ks:List Int}{n:Int}(h:n∉ks):jr (gk (jN f col ks)) (Sum.inl n:iq) (.int (jC f col n))=gk (jN f col (ks++[n])):=by
 rw[qz (by rw[rl];exact h),Ez]
theorem yI(f:Int->Int)(col:Int->Bool)(ks:List Int):(gk (jN f col ks)).length=ks.length:=by rw[nK];unfold jN;rw[ae]
structure Ds(ts:List (Int×Int))(c:Int)(k0:List Int)(x:Option Int)(dn:Int->Prop)(ks td:List Int):Prop where
 c_in:c∈ks
 sup:∀n∈k0,n∈ks
 nd:ks.Nodup
 sub:∀n∈ks,n∈k0\/Rch ts c n
 tin:∀n∈td,n∈ks/\Rch ts c n
 cl:∀m∈ks,m∉k0->m∉td->x≠some m->∀n∈iV ts m,n∈ks
 xin:∀m,x=some m->m∈ks/\Rch ts c m/\∀n,dn n->n∈ks
 tl:td.length<=ks.length
theorem Ds.len{ps ts:List (Int×Int)}{c:Int}{k0:List Int}{x:Option Int}{dn:Int->Prop}{ks td:List Int}(h:Ds ts c k0 x dn ks td)(he:Ends ps ts)(hc:c∈ps.map (·.1))(h0:∀n∈k0,n∈ps.map (·.1)):ks.length<=ps.length:=by
 have z:=n6 h.nd fun n hn=>by
  rcases h.sub n hn with z|z
  ·exact h0 n z
  ·exact z.pl he hc
 rwa[ae]at z
def zI:Sp:=fun vs H Q _=>∃v ps ts f col,vs=[v]/\jc3 H v ps ts/\WebOk ps ts/\LabOk ps ts f/\lS ts col/\
 ∀d H' ks,H d=none->Same H H'->H' d=some (.dK (gk (jN f col ks)))->ks.Nodup->(∀p∈ps,p.1∈ks)->Q (.ref d) H'
theorem zF{ps ts:List (Int×Int)}{f:Int->Int}{col:Int->Bool}(lab:LabOk ps ts f)(hcol:lS ts col){m n:Int}(hm:m∈ps.map (·.1))(hn:n∈ps.map (·.1))(h:n∈iV ts m):jC f col n=1-jC f col m:=by
 have e:=(lab.cls m n hm hn).mpr (.step .refl h)
 unfold jC
 rw [<- e,hcol m n h]
 cases col m<;>cases col (f m)<;>simp
theorem Gx(B:Blt mg)(D:DefAt K mg "_law_sides" (iw 49) ["_law_web"] f fd):FnOk P w K mg base iE 1 f fd ["_law_web"] zI:=by
 have sc:FnScope ["_law_web","_law_side","_law_place","_law_price","_law_waiting","_law_one","_law_tie"] ["_law_web"] (iU (iw 49)):=by walk_at "SC"
 refine D.F.ok sc (fun vs H Q E h=>?_) (fun cdv A outer s H vs Q E hr h=>?_)
 ·obtain⟨v,ps,ts,f,col,rfl,_⟩:=h
  rfl
 obtain⟨v,ps,ts,fl,col,rfl,hw,wok,lab,hcol,h⟩:=h
 have okl:=wok.pl
 have okt:=wok.tl
 have hnd:=wok.p.nodup
 have hen:=wok.ends
 obtain⟨u,pa,ta,xs,ys,rfl,eu,ep,et,pp,pt⟩:=id hw
 have hlx:xs.length=ps.length:=aO pp
 have hly:ys.length=ts.length:=aO pt
 have hu:=i8 hr
 have hu0:_<PySem.cLine:=aF hu
 refine⟨_,(iu (iF (i:=1) sc.nd rfl (Or.inl rfl) rf) (iu (jR aZ rfl (jx (iz iA (qv 0) ip (fun _ _=>rfl))) (j5 (n:=2) rfl (jb (iJ (i:=2) sc.nd rfl (Or.inl rfl)) (jb (iJ (i:=3) sc.nd rfl (Or.inl rfl)) j6))) (iB (je (lr (nz hu (qv 2) (qv 1))) (iu (l7 hu (qv 1) (qv 2) ip) (iu (iF (i:=4) sc.nd rfl (Or.inl rfl) (jJ (ig (qv 2) ik))) (iB (nZ aZ (iS (lK hr.units) (qv 4) (jJ ik) (iQ _)) (iu (iF (i:=5) sc.nd rfl (Or.inl rfl) (qm aQ PySem.F.slot_list_pop PySem.F.type_list_pop wM (qv 4))) (iB (jR aZ rfl (jx (iz iA (qv 0) ip (fun _ _=>rfl))) (iJ (i:=6) sc.nd rfl (Or.inl rfl)) (iB (je (PW.pt (mC (iS qp (qv 5) (qv 6) (by with_unfolding_all rfl)) (nk (lr (nz hu (iz iA (qv 6) (kY tT rfl B.int da (ig (ly kF (iz iA (qv 6) ip (fun _ _=>rfl)) (qv 5) (iQ _)) ik)) (fun _ _=>rfl)) (qv 1)))))) (iu (l7 hu (qv 1) (iz iA (qv 6) (kY tT rfl B.int da (ig (ly kF (iz iA (qv 6) ip (fun _ _=>rfl)) (qv 5) (iQ _)) ik)) (fun _ _=>rfl)) (iO oN ip (j4 hu (qv 1) (qv 5) (fun _ _=>rfl)))) (iB (jK (ka aQ bg bf kf (qv 4) (ig (iz iA (qv 6) (kY tT rfl B.int da (ig (ly kF (iz iA (qv 6) ip (fun _ _=>rfl)) (qv 5) (iQ _)) ik)) (fun _ _=>rfl)) ik))))) jf))))))))) jf))) (iB (iP (qv 1))))),?_⟩
 walk_at "D"
 intro md hmd
 have s0:Same H (upd H md (.dK [])):=iy hmd _
 have em0:upd H md (.dK []) md=some (.dK (gk (jN fl col []))):=ij
 generalize upd H md (.dK [])=H0 at s0 em0
 refine j7 (ji K pa) H0 (fun R hR=>?_) (kO (K:=K) (a:=pa) (xs:=xs) (fun j σ H5=>∃v2 v3 v4 v5 v6 ks,σ=[some (.ref u),some (.ref md),v2,v3,v4,v5,v6]/\Same H H5/\H5 md=some (.dK (gk (jN fl col ks)))/\ks.Nodup/\(∀n,n∈ks↔n∈ps.map (·.1)/\fl n∈(ps.take j).map (·.1))) ⟨none,none,none,none,none,[],rfl,s0,em0,eN,fun n=>by simp⟩ (fun j σ H5 _ ⟨_,_,_,_,_,_,_,s5,_⟩=>SqL.of (s5 _ _ ep)) ?_ ?_)
 ·unfold jt
  simp_arith[iD,s0 _ _ eu,i3]
  exact⟨pa,rfl,⟨_,SqL.of (s0 _ _ ep)⟩,hR⟩
 ·rintro j y σ H5 hj ⟨v2,v3,v4,v5,v6,k0,rfl,s5,em5,ndk,hks⟩
  obtain⟨p,hp,pq⟩:=j1 pp hj
  obtain⟨t,rfl,ht⟩:=pq.same s5
  have hpm:p∈ps:=ag hp
  have hpn:p.1∈ps.map (·.1):=aW hpm
  have hnj:p.1∉(ps.take j).map (·.1):=fun z=>by
   obtain⟨q,hq,e⟩:=aE.mp z
   obtain⟨i,hi,eq⟩:=aV.mp hq
   rw[aS]at hi
   rw[gA]at eq
   have:=wok.p.rise i j q p (by lia) (by rw[gE (by lia),eq]) hp
   lia
  have htk:∀n,n∈(ps.take (j+1)).map (·.1)↔n∈(ps.take j).map (·.1)\/n=p.1:=fun n=>by
   rw[jy hp,ao,aM]
   simp
  simp_arith[ht,em5,oQ,rl]
  by_cases cf:fl p.1=p.1
  ·have hpk:p.1∉k0:=fun z=>hnj (by have:=((hks p.1).mp z).2;rwa[cf]at this)
   rw[aK hpk]
   have h0p:∀n∈k0,n∈ps.map (·.1):=fun n hn=>((hks n).mp hn).1
   have l0:=n6 ndk h0p
   rw[ae]at l0
   have sd0:jC fl col p.1=0:=by unfold jC;rw[cf,az rfl]
   have apart:∀ n,Rch ts p.1 n->n ∉ k0:=fun n r z=>hnj (by have e:=(lab.cls p.1 n hpn (r.pl hen hpn)).mpr r; have z2:=((hks n).mp z).2; rwa [<- e,cf] at z2)
   simp_arith[em5]
   refine⟨by rw[yI];exact iW (by lia),?_⟩
   have sdp:=yJ (f:=fl) (col:=col) hpk
   rw[sd0]at sdp
   rw[sdp]
   intro wl hwl
   have nmw:md ≠ wl:=fun z=>by rw [<- z,ij] at hwl; cases hwl
   have hwl5:H5 wl = none:=by rw [<- hwl,ir nmw.symm]
   have hwl0:H wl=none:=s5.free hwl5
   have s6:Same H (upd (upd H5 md (.dK (gk (jN fl col (k0++[p.1]))))) wl (.lst [.int p.1])):=(i4 s5 hmd).trans (iy hwl _)
   have em6:upd (upd H5 md (.dK (gk (jN fl col (k0++[p.1]))))) wl (.lst [.int p.1]) md=some (.dK (gk (jN fl col (k0++[p.1])))):=by rw[ir nmw,ij]
   have ew6:upd (upd H5 md (.dK (gk (jN fl col (k0++[p.1]))))) wl (.lst [.int p.1]) wl=some (.lst ([p.1].map V.int)):=ij
   generalize upd (upd H5 md (.dK (gk (jN fl col (k0++[p.1]))))) wl (.lst [.int p.1])=H6 at s6 em6 ew6
   have d0:Ds ts p.1 k0 none (fun _=>False) (k0++[p.1]) [p.1]:=by
    refine⟨by simp,fun n hn=>bh _ hn,?_,fun n hn=>?_,fun n hn=>?_,fun m hm h1 h2=>?_,(fun _ z=>nomatch z),by simp⟩
    ·rw[bZ]
     exact ⟨ndk,by simp,fun a ha b hb=>fun z=>hpk (by rw [aC.mp hb] at z; rw [<- z]; exact ha)⟩
    ·rcases aM.mp hn with z|z
     ·exact .inl z
     ·rw[aC.mp z];exact .inr .refl
    ·rw[aC.mp hn];exact⟨by simp,.refl⟩
    ·rcases aM.mp hm with z|z
     ·exact absurd z h1
     ·exact absurd z h2
   refine⟨fun m σ H1=>∃hh th ks td,σ=[some (.ref u),some (.ref md),some (.int p.1),some (.int p.2),some (.ref wl),hh,th]/\Same H H1/\H1 md=some (.dK (gk (jN fl col ks)))/\H1 wl=some (.lst (td.map V.int))/\Ds ts p.1 k0 none (fun _=>False) ks td/\m=2*(ps.length-ks.length)+td.length,⟨_,_,_,k0++[p.1],[p.1],rfl,s6,em6,ew6,d0,rfl⟩,?_⟩
   rintro m σ H1 ⟨hh,th1,ks,td,rfl,s1,em,ew,g,rfl⟩
   walk_at "D"
   intro el hel
   have sel:Same H1 (upd H1 el (.lst [])):=iy hel _
   have ew1:=sel _ _ ew
   have em1:=sel _ _ em
   have s1e:=s1.trans sel
   have eel:upd H1 el (.lst []) el=some (.lst (([]:List Int).map V.int)):=ij
   generalize upd H1 el (.lst [])=H1' at sel ew1 em1 s1e eel
   refine⟨ll td,ll [],yy ew1,yy eel,bo (D5 td) (by decide),.inl ⟨_,_,rfl,rfl⟩,?_⟩
   dsimp only
   rw[az rfl]
   rcases List.eq_nil_or_concat td with rfl|⟨t0,x,rfl⟩
   ·rw[show(!iX (ll []) (ll []))=false by rw[kn];rfl,ay (by decide)]
    refine⟨_,_,_,_,_,ks,rfl,s1e,em1,g.nd,fun n=>?_⟩
    have all:∀n,Rch ts p.1 n->n∈ks:=fun n r=>by
     induction r with
     |refl=>exact g.c_in
     |step r' hn ih=>exact g.cl _ ih (apart _ r') (by simp) (fun z=>nomatch z) _ hn
    rw[htk]
    constructor
    ·intro hn
     rcases g.sub n hn with z|z
     ·have:=(hks n).mp z
      exact⟨this.1,.inl this.2⟩
     ·have hn2:=z.pl hen hpn
      exact ⟨hn2,.inr (by rw [<- (lab.cls p.1 n hpn hn2).mpr z,cf])⟩
    ·rintro⟨a,b|b⟩
     ·exact g.sup n ((hks n).mpr ⟨a,b⟩)
     ·exact all n ((lab.cls p.1 n hpn a).mp (by rw[cf,b]))
   ·rw [List.concat_eq_append]at ew1 g ⊢
    rw[show(!iX (ll (t0++[x])) (ll []))=true by
     unfold ll
     rw[iX,ny (by simp)]
     rfl,az rfl]
    refine⟨_,fun σ' H' q=>q,⟨wl,_,rfl,ew1⟩,wl,_,.int x,rfl,rfl,ew1,?_,?_⟩
    ·rw[ao,aB]
     show((t0.map V.int)++[V.int x])[(t0.map V.int).length+1-1]? =_
     rw[Nat.add_sub_cancel,bR (au _),gw]
     rfl
    have edl:((t0++[x]).map V.int).dropLast=t0.map V.int:=by rw[ao];exact List.dropLast_concat
    rw[edl]
    have s2:Same H (upd H1' wl (.lst (t0.map V.int))):=i4 s1e hwl0
    have em2:upd H1' wl (.lst (t0.map V.int)) md=some (.dK (gk (jN fl col ks))):=by rw[ir nmw];exact em1
    have ew2:upd H1' wl (.lst (t0.map V.int)) wl=some (.lst (t0.map V.int)):=ij
    generalize upd H1' wl (.lst (t0.map V.int))=H2 at s2 em2 ew2
    clear ew em s1 ew1 em1 s1e eel sel
    have hkl:=g.len hen hpn h0p
    have hgl:=g.tl
    rw[aB]at hgl
    have hgl':t0.length+1<=ks.length:=hgl
    have hxt:=g.tin x (by simp)
    have g2:Ds ts p.1 k0 (some x) (fun n=>n∈iV (ts.take 0) x) ks t0:=⟨g.c_in,g.sup,g.nd,g.sub,fun n hn=>g.tin n (bh _ hn),fun m hm h1 hn hx=>g.cl m hm h1 (fun z=>by
     rcases aM.mp z with z|z
     ·exact hn z
     ·exact hx (by rw[aC.mp z])) (fun z=>nomatch z),fun m hm=>by cases hm;exact⟨hxt.1,hxt.2,fun n hn=>by simp[iV]at hn⟩,by lia⟩
    refine j7 (ji K ta) H2 (fun R hR=>?_) (kO (K:=K) (a:=ta) (xs:=ys) (fun i σ H3=>∃th ks1 td1,σ=[some (.ref u),some (.ref md),some (.int p.1),some (.int p.2),some (.ref wl),some (.int x),th]/\Same H H3/\H3 md=some (.dK (gk (jN fl col ks1)))/\H3 wl=some (.lst (td1.map V.int))/\Ds ts p.1 k0 (some x) (fun n=>n∈iV (ts.take i) x) ks1 td1/\2*(ps.length-ks1.length)+td1.length<=2*(ps.length-ks.length)+t0.length) ⟨_,ks,t0,rfl,s2,em2,ew2,g2,au _⟩ (fun i σ H3 _ ⟨_,_,_,_,s3,_⟩=>SqL.of (s3 _ _ et)) ?_ ?_)
    ·unfold jt
     simp_arith[iD,s2 _ _ eu,jh]
     exact⟨ta,rfl,⟨_,SqL.of (s2 _ _ et)⟩,hR⟩
    ·rintro i y σ H3 hi ⟨th2,ks1,td1,rfl,s3,em3,ew3,g3,hm3⟩
     obtain⟨q,hq,qq⟩:=j1 pt hi
     obtain⟨t2,rfl,ht2⟩:=qq.same s3
     have hqe:=hen q (ag hq)
     have hsn:∀n,n∈iV (ts.take (i+1)) x↔n∈iV (ts.take i) x\/n∈nr x q:=fun n=>by
      rw[jy hq,u7,aM]
     have hl3:=g3.len hen hpn h0p
     have ht3:=g3.tl
     obtain⟨hx1,hx2,hx3⟩:=g3.xin x rfl
     have hxp:=hx2.pl hen hpn
     by_cases ci:lP (.int x) [V.int q.1,.int q.2]=true
     ·obtain⟨n,en,eix⟩:∃n,nr x q=[n]/\i7 [V.int q.1,.int q.2] (if decide (q.1=x)=true then 1 else 0)=some (.int n):=by
       unfold nr
       by_cases c1:q.1=x
       ·exact⟨q.2,by rw[az c1],by rw[az (aD c1)];exact jh⟩
       ·have c2:q.2=x:=by
         simp only[lP,List.any_cons,List.any_nil,kJ,Bool.or_false,Bool.or_eq_true,fD]at ci
         rcases ci with z|z
         ·exact absurd z c1
         ·exact z
        exact⟨q.1,by rw[ay c1,az c2],by rw[ay (by simpa using c1)];exact i3⟩
      have hnn:n∈iV ts x:=by
       unfold iV
       rw[gN]
       exact⟨q,ag hq,by rw[en];exact .head _⟩
      have hnp:=hen.near hnn
      have hsd:=zF lab hcol hxp hnp hnn
      simp_arith[iD,ht2,ci,i3,eix,em3,oQ,rl]
      refine⟨rfl,rfl,?_⟩
      by_cases cn:n∈ks1
      ·rw[aD cn]
       walk_at "D"
       exact⟨_,ks1,td1,rfl,s3,(by first|exact em3|rfl),ew3,⟨g3.c_in,g3.sup,g3.nd,g3.sub,g3.tin,g3.cl,fun m hm=>by
        cases hm
        refine⟨hx1,hx2,fun k hk=>?_⟩
        rcases(hsn k).mp hk with z|z
        ·exact hx3 k z
        ·rw[en]at z;rw[aC.mp z];exact cn,g3.tl⟩,hm3⟩
      ·rw[aK cn]
       have g4:Ds ts p.1 k0 (some x) (fun n=>n∈iV (ts.take (i+1)) x) (ks1++[n]) (td1++[n]):=by
        have rn:Rch ts p.1 n:=.step hx2 hnn
        refine⟨bh _ g3.c_in,fun k hk=>bh _ (g3.sup k hk),?_,fun k hk=>?_,fun k hk=>?_,fun m hm h1 h2 h3 k hk=>?_,fun m hm=>?_,?_⟩
        ·rw[bZ]
         exact ⟨g3.nd,by simp,fun a ha b hb=>fun z=>cn (by rw [aC.mp hb] at z; rw [<- z]; exact ha)⟩
        ·rcases aM.mp hk with z|z
         ·exact g3.sub k z
         ·rw[aC.mp z];exact .inr rn
        ·rcases aM.mp hk with z|z
         ·exact⟨bh _ (g3.tin k z).1,(g3.tin k z).2⟩
         ·rw[aC.mp z];exact⟨by simp,rn⟩
        ·rcases aM.mp hm with z|z
         ·exact bh _ (g3.cl m z h1 (fun w2=>h2 (bh _ w2)) h3 k hk)
         ·exact absurd (bj _ z) h2
        ·cases hm
         refine⟨bh _ hx1,hx2,fun k hk=>?_⟩
         rcases(hsn k).mp hk with z|z
         ·exact bh _ (hx3 k z)
         ·rw[en]at z;exact bj _ z
        ·rw[aB,aB]
         exact Nat.add_le_add_right g3.tl _
       have hl4:=g4.len hen hpn h0p
       rw[aB]at hl4
       have hl4':ks1.length+1<=ps.length:=hl4
       rw[ux g3.nd hx1]
       dsimp only
       rw [<- hsd,yJ cn]
       refine kg (fun _=>?_) (fun z=>absurd rfl z)
       have nt2:t2≠md:=lD ht2 em3 (fun z=>nomatch z)
       have ht4:upd H3 md (.dK (gk (jN fl col (ks1++[n])))) t2=some (.tup [.int q.1,.int q.2]):=by rw[ir nt2];exact ht2
       have ew4:upd H3 md (.dK (gk (jN fl col (ks1++[n])))) wl=some (.lst (td1.map V.int)):=by rw[ir nmw.symm];exact ew3
       refine⟨by rw[yI];exact iW (by lia),⟨wl,_,rfl,ew4⟩,?_⟩
       simp_arith[ht4,i3,eix,ew4]
       refine⟨by rw[ae];exact iW (by lia),_,ks1++[n],td1++[n],rfl,i4 (i4 s3 hmd) hwl0,?_,?_,g4,?_⟩
       ·rw[ir nmw,ij]
       ·rw[ij,ao];rfl
       ·rw[aB,aB]
        show 2*(ps.length-(ks1.length+1))+(td1.length+1)<=_
        lia
     ·have ci':lP (.int x) [V.int q.1,.int q.2]=false:=by simpa using ci
      have en:nr x q=[]:=by
       simp only[lP,List.any_cons,List.any_nil,kJ,Bool.or_false,Bool.or_eq_false_iff,bO]at ci'
       unfold nr
       rw[ay ci'.1,ay ci'.2]
      simp_arith[iD,ht2,ci']
      refine⟨rfl,rfl,?_⟩
      exact⟨_,ks1,td1,rfl,s3,em3,ew3,⟨g3.c_in,g3.sup,g3.nd,g3.sub,g3.tin,g3.cl,(fun m hm=>by
        cases hm
        refine⟨hx1,hx2,fun k hk=>?_⟩
        rcases(hsn k).mp hk with z|z
        ·exact hx3 k z
        ·rw[en]at z;exact(nomatch z)),g3.tl⟩,hm3⟩
    ·rintro σ H3 ⟨th2,ks1,td1,rfl,s3,em3,ew3,g3,hm3⟩
     refine⟨_,?_,_,_,ks1,td1,rfl,s3,em3,ew3,⟨g3.c_in,g3.sup,g3.nd,g3.sub,g3.tin,fun m hm h1 h2 _=>?_,(fun _ z=>nomatch z),g3.tl⟩,rfl⟩
     ·rw[aB]
      show _<2*(ps.length-ks.length)+(t0.length+1)
      lia
     ·by_cases cx:x=m
      ·rw [<- cx]
       intro n hn'
       refine(g3.xin x rfl).2.2 n ?_
       rw[hly,aR]
       exact hn'
      ·exact g3.cl m hm h1 h2 fun z=>cx (aL z)
  ·have hfp:=lab.pl p.1 hpn
   have hfl:=lab.le p.1 hpn
   have hpk:p.1∈k0:=by
    rw[hks]
    refine⟨hpn,?_⟩
    obtain⟨q,hq,e⟩:=aE.mp hfp
    obtain⟨i,hi,eq⟩:=aV.mp hq
    have xi:ps[i]? =some q:=by rw[gE hi,eq]
    have hij:i<j:=by
     rcases gx i j with c|c|c
     ·exact c
     ·rw[c,hp]at xi;cases xi;exact absurd e.symm cf
     ·have:=wok.p.rise j i p q c hp xi
      have e':q.1=fl p.1:=e
      lia
    rw [<- e]
    exact aW (ag (i:=i) (by rw[List.getElem?_take,az hij];exact xi))
   rw[aD hpk]
   walk_at "D"
   refine⟨_,_,_,_,_,k0,rfl,s5,(by first|exact em5|rfl),ndk,fun n=>?_⟩
   rw[hks,htk]
   constructor
   ·rintro⟨a,b⟩
    exact⟨a,.inl b⟩
   ·rintro⟨a,b|b⟩
    ·exact⟨a,b⟩
    ·exact absurd (by rw [<- b]; exact lab.fix n a) cf
 ·rintro σ H5 ⟨v2,v3,v4,v5,v6,ks,rfl,s5,em5,ndk,hks⟩
  walk_at "D"
  refine h md H5 ks hmd s5 em5 ndk fun p hp=>?_
  have hpn:p.1∈ps.map (·.1):=aW hp
  rw[hks,hlx,aR]
  exact⟨hpn,lab.pl p.1 hpn⟩
def lQ(ns cs:List Int)(n:Int):Bool:=@decide (∃(k:Nat),ns[k]? =some n/\cs[k]? =some 1) (Classical.propDecidable _)
theorem xf{ns cs:List Int}(nd:ns.Nodup){k:Nat}{n c:Int}(h1:ns[k]? =some n)(h2:cs[k]? =some c):lQ ns cs n=true↔c=1:=by
 unfold lQ
 rw[@gc _ (Classical.propDecidable _)]
 constructor
 ·rintro⟨i,e1,e2⟩
  by_cases c0:i=k
  ·subst c0
   rw[h2]at e2
   exact aL e2
  ·exact absurd rfl (pF nd e1 h1 c0)
 ·rintro rfl
  exact⟨k,h1,h2⟩
def TCol(ts:List (Int×Int))(col:Int->Bool):Prop:=∀t∈ts,col t.2= !(col t.1)
theorem TCol.col{ts:List (Int×Int)}{col:Int->Bool}(ho:∀t∈ts,t.1<t.2)(h:TCol ts col):lS ts col:=fun m n hn=>by
 rcases(pE ho).mp hn with z|z
 ·exact h _ z
 ·have e:=h _ z
  dsimp only at e
  rw[e,Bool.not_not]
theorem CP{a b c d:Int}(h0:0<=d)(h1:d<3):∃v,i7 [V.int a,.int b,.int c] d=some (.int v)/\(v=a\/v=b\/v=c):=by
 have hd:d=0\/d=1\/d=2:=by lia
 rcases hd with rfl|rfl|rfl
 ·exact⟨a,i3,.inl rfl⟩
 ·exact⟨b,jh,.inr (.inl rfl)⟩
 ·exact⟨c,kR,.inr (.inr rfl)⟩
def wz:Sp:=fun vs H Q _=>∃s o m,vs=[.ref s,.int m]/\H s=some o/\StO o/\0<=m/\m<=20/\
 ∀v H' o' ps ts col,But s H H'->H' s=some o'->StO o'->jc3 H' v ps ts->WebOk ps ts->TCol ts col->(ps.length:Int)<=m->Dr (-1) ps->Q v H'
theorem FT(B:Blt mg)(D:DefAt K mg "_law_two" (iw 44) ["_law_state","_law_most"] f fd)(Dqa:DefAt K mg "_law_take" (iw 43) ["_law_state","_law_many"] fqa dqa)(Gqa:FnOk P w K mg base iE 1 fqa dqa ["_law_state","_law_many"] tX):FnOk P w K mg base iE 2 f fd ["_law_state","_law_most"] wz:=by
 have sc:FnScope ["_law_state","_law_most","_law_count","_law_great","_law_dense","_law_places","_law_number","_law_sides_here","_law_k","_law_ties","_law_j"] ["_law_state","_law_most"] (iU (iw 44)):=by walk_at "SC"
 refine D.F.ok sc (fun vs H Q E h=>?_) (fun cdv A outer s H vs Q E hr h=>?_)
 ·obtain⟨s,o,m,rfl,_⟩:=h
  rfl
 obtain⟨st,o,m,rfl,es,so,m0,m1,h⟩:=h
 have hu:=i8 hr
 have hu0:_<PySem.cLine:=aF hu
 refine⟨_,(iu (iF (i:=2) sc.nd rfl (Or.inl rfl) (iN Gqa (hr.mono (by decide)) rfl Dqa.m Dqa.F.kp Dqa.b .nil iI (ig (qv 0) (ig (iO kc (qv 1) ip) ik)))) (iu (iF (i:=3) sc.nd rfl (Or.inl rfl) (iz iA (jJ (ig ip (ig ip (ig ip (ig (iO sY ip ip) ik))))) (iN Gqa (hr.mono (by decide)) rfl Dqa.m Dqa.F.kp Dqa.b .nil iI (ig (qv 0) (ig ip ik))) (fun _ _=>rfl))) (iu (iF (i:=4) sc.nd rfl (Or.inl rfl) (iO kc ip (iN Gqa (hr.mono (by decide)) rfl Dqa.m Dqa.F.kp Dqa.b .nil iI (ig (qv 0) (ig ip ik))))) (iu (iF (i:=5) sc.nd rfl (Or.inl rfl) (jJ ik)) (iu (iF (i:=6) sc.nd rfl (Or.inl rfl) (ql qr ip)) (iu (iF (i:=7) sc.nd rfl (Or.inl rfl) (jJ ik)) (iu (jR aZ rfl (rH rfl B.range (ig (qv 2) ik)) (iJ (i:=8) sc.nd rfl (Or.inl rfl)) (iu (iF (i:=6) sc.nd rfl (Or.inl rfl) (iO kc (iO kc (qv 6) ip) (iN Gqa (hr.mono (by decide)) rfl Dqa.m Dqa.F.kp Dqa.b .nil iI (ig (qv 0) (ig (iz iA (jJ (ig ip (ig ip (ig ip ik)))) (iN Gqa (hr.mono (by decide)) rfl Dqa.m Dqa.F.kp Dqa.b .nil iI (ig (qv 0) (ig ip ik))) (fun _ _=>rfl)) ik))))) (iu (jK (ka aQ bg bf kf (qv 5) (ig (j0 (ig (qv 6) (ig (iO kc ip (iN Gqa (hr.mono (by decide)) rfl Dqa.m Dqa.F.kp Dqa.b .nil iI (ig (qv 0) (ig (qv 3) ik)))) ik))) ik))) (iB (jK (ka aQ bg bf kf (qv 7) (ig (iN Gqa (hr.mono (by decide)) rfl Dqa.m Dqa.F.kp Dqa.b .nil iI (ig (qv 0) (ig ip ik))) ik))))))) (iu (iF (i:=9) sc.nd rfl (Or.inl rfl) (jJ ik)) (iu (jR aZ rfl (rH rfl B.range (ig (qv 2) ik)) (iJ (i:=8) sc.nd rfl (Or.inl rfl)) (iB (jR aZ rfl (Fp rfl B.range (ig (iO kc (qv 8) ip) (ig (qv 2) ik))) (iJ (i:=10) sc.nd rfl (Or.inl rfl)) (iB (je (PW.pt (mC (iS nH (iz iA (qv 7) (qv 8) (fun _ _=>rfl)) (iz iA (qv 7) (qv 10) (fun _ _=>rfl)) (iQ _)) (mC (iS lU (iN Gqa (hr.mono (by decide)) rfl Dqa.m Dqa.F.kp Dqa.b .nil iI (ig (qv 0) (ig ip ik))) (qv 4) (iQ _)) (nk (iS lU (jg kW rfl B.len bQ (ig (qv 9) ik)) ip (iQ _)))))) (iB (jK (ka aQ bg bf kf (qv 9) (ig (j0 (ig (iz iA (iz iA (qv 5) (qv 8) (fun _ _=>rfl)) ip (fun _ _=>rfl)) (ig (iz iA (iz iA (qv 5) (qv 10) (fun _ _=>rfl)) ip (fun _ _=>rfl)) ik))) ik)))) jf))))) (iB (iP (j0 (ig (qv 5) (ig (qv 9) ik)))))))))))))),?_⟩
 walk_at "D"
 refine⟨st,o,m+1,rfl,es,so,by lia,by lia,fun n o1 n0 n1 so1=>?_⟩
 have b1:But st H (upd H st o1):=But.at _ _ _
 have e1:upd H st o1 st=some o1:=ij
 generalize upd H st o1=H1 at b1 e1
 walk_at "D"
 refine⟨⟨by decide,by decide,by decide⟩,?_⟩
 intro p1 hp1
 have np:p1≠st:=(iC e1 hp1).symm
 refine⟨st,o1,4,rfl,(by rw[ir np.symm];exact e1),so1,by decide,by decide,fun d1 o2 d10 d11 so2=>?_⟩
 obtain⟨gr,ev,v0,v1⟩:∃v,i7 [V.int 1,.int 3,.int 9,.int (10^Int.toNat 9)] d1=some (.int v)/\1<=v/\v<=1000000000:=by
  obtain⟨v,ev,hv⟩:=CO (a:=1) (b:=3) (c:=9) (e:=10^Int.toNat 9) d10 d11
  rw[p9]at hv
  exact⟨v,ev,by lia,by lia⟩
 simp_arith[iD,ir np,ij,ev]
 have b2:But st H1 (upd (upd H1 p1 (.lst [.int 1,.int 3,.int 9,.int (10^Int.toNat 9)])) st o2):=(But.new hp1).trans (But.at _ _ _)
 have e2:upd (upd H1 p1 (.lst [.int 1,.int 3,.int 9,.int (10^Int.toNat 9)])) st o2 st=some o2:=ij
 generalize upd (upd H1 p1 (.lst [.int 1,.int 3,.int 9,.int (10^Int.toNat 9)])) st o2=H2 at b2 e2
 refine⟨st,o2,4,rfl,e2,so2,by decide,by decide,fun dn o3 d0 d1' so3=>?_⟩
 have b3:But st H (upd H2 st o3):=(b1.trans b2).trans (But.at _ _ _)
 have e3:upd H2 st o3 st=some o3:=ij
 generalize upd H2 st o3=H3 at b3 e3
 clear b1 b2 e1 e2
 walk_at "D"
 intro r hr
 have nr:r≠st:=(iC e3 hr).symm
 have hr0:H r=none:=by
  cases q:H r with
  |none=>rfl
  |some u=>rw[b3 _ _ nr q]at hr;cases hr
 intro q hq
 have hnq:r ≠ q:=fun z=>by rw [<- z,ij] at hq; cases hq
 have hq3:H3 q = none:=by rw [<- hq,ir hnq.symm]
 have nq:q≠st:=(iC e3 hq3).symm
 have hq0:H q=none:=by
  cases z:H q with
  |none=>rfl
  |some u=>rw[b3 _ _ nq z]at hq3;cases hq3
 refine j7 (kZ 0 n.toNat) (upd (upd H3 r (.lst [])) q (.lst [])) (fun R hR=>?_) (rF (n:=n.toNat) (fun i σ H4=>∃l kk ps xs,∃cs:List Int,∃o',σ=[some (.ref st),some (.int m),some (.int n),some (.int gr),some (.int (1+dn)),some (.ref r),some (.int l),some (.ref q),kk,none,none]/\But st H H4/\H4 st=some o'/\StO o'/\H4 r=some (.lst xs)/\Prs H4 xs ps/\ps.length=i/\Dr (-1) ps/\l=oM (-1) ps/\H4 q=some (.lst (cs.map V.int))/\cs.length=i/\∀c∈cs,c=0\/c=1) ?_ ?_ ?_)
 ·unfold oJ
  walk_at "D"
  exact⟨n,rfl,by lia,by lia,hR⟩
 ·refine⟨-1,none,[],[],[],o3,rfl,fun b u nb z=>?_,by rw[ir nq.symm,ir nr.symm];exact e3,so3,by rw[ir hnq,ij],.nil,rfl,trivial,rfl,ij,rfl,(fun c hc=>nomatch hc)⟩
  rw[ir (iC z hq0),ir (iC z hr0)]
  exact b3 _ _ nb z
 ·rintro i σ H4 hi ⟨l,kk,ps,xs,cs,o',rfl,b4,e4,so',er,pp,hlen,dr,el,eq4,hcl,hcs⟩
  have hlx:xs.length=ps.length:=aO pp
  walk_at "D"
  intro p2 hp2
  have np2:p2≠st:=(iC e4 hp2).symm
  refine⟨st,o',3,rfl,(by rw[ir np2.symm];exact e4),so',by decide,by decide,fun d2 o5 d20 d21 so5=>?_⟩
  obtain⟨v,ev2,v20,v21⟩:∃v,i7 [V.int 1,.int 2,.int 23] d2=some (.int v)/\1<=v/\v<=23:=by
   obtain⟨v,ev,hv⟩:=CP (a:=1) (b:=2) (c:=23) d20 d21
   exact⟨v,ev,by lia,by lia⟩
  simp_arith[iD,ir np2,ij,ev2]
  refine⟨st,o5,v,rfl,ij,so5,by lia,by lia,fun d3 o6 d30 d31 so6=>?_⟩
  simp_arith[qX]
  have b5:But st H4 (upd (upd H4 p2 (.lst [.int 1,.int 2,.int 23])) st o6):=(But.new hp2).trans (But.at _ _ _)
  have e5:(upd (upd H4 p2 (.lst [.int 1,.int 2,.int 23])) st o6) st=some o6:=ij
  generalize upd (upd H4 p2 (.lst [.int 1,.int 2,.int 23])) st o6=H5 at b5 e5
  have t5:TupS H4 H5:=b5.tups e4 so'.imm
  have er5:=b5 _ _ nr er
  have eq5:=b5 _ _ nq eq4
  refine⟨⟨r,xs,rfl,er5⟩,?_⟩
  refine⟨st,o6,gr,rfl,e5,so6,by lia,by lia,fun d4 o7 d40 d41 so7=>?_⟩
  have b6:But st H5 (upd H5 st o7):=But.at _ _ _
  have e6:upd H5 st o7 st=some o7:=ij
  generalize upd H5 st o7=H6 at b6 e6
  have t6:TupS H5 H6:=b6.tups e5 so6.imm
  have er6:=b6 _ _ nr er5
  have eq6:=b6 _ _ nq eq5
  walk_at "D"
  intro t ht
  have nt:t≠st:=(iC e6 ht).symm
  have er7:upd H6 t (.tup [.int (l+1+d3),.int (1+d4)]) r=some (.lst xs):=by rw[ir (iC er6 ht)];exact er6
  simp_arith[er7]
  refine⟨iW (by lia),?_⟩
  have t7:TupS H6 (upd H6 t (.tup [.int (l+1+d3),.int (1+d4)])):=rA ht
  have t8:=kI (ys:=xs++[.ref t]) er7
  have b8:But st H (upd (upd H6 t (.tup [.int (l+1+d3),.int (1+d4)])) r (.lst (xs++[.ref t]))):=fun b u nb z=>by
   have q1:=b6 _ _ nb (b5 _ _ nb (b4 _ _ nb z))
   rw[ir (iC z hr0),ir (iC q1 ht)]
   exact q1
  have e8:upd (upd H6 t (.tup [.int (l+1+d3),.int (1+d4)])) r (.lst (xs++[.ref t])) st=some o7:=by rw[ir nr.symm,ir nt.symm];exact e6
  have er8:upd (upd H6 t (.tup [.int (l+1+d3),.int (1+d4)])) r (.lst (xs++[.ref t])) r=some (.lst (xs++[.ref t])):=ij
  have eq8:upd (upd H6 t (.tup [.int (l+1+d3),.int (1+d4)])) r (.lst (xs++[.ref t])) q=some (.lst (cs.map V.int)):=by rw[ir hnq.symm,ir (iC eq6 ht)];exact eq6
  have pp8:Prs (upd (upd H6 t (.tup [.int (l+1+d3),.int (1+d4)])) r (.lst (xs++[.ref t]))) (xs++[.ref t]) (ps++[(l+1+d3,1+d4)]):=ma (Prs.tups (((t5.trans t6).trans t7).trans t8) pp) (Pr.tups ⟨t,rfl,ij⟩ t8)
  generalize upd (upd H6 t (.tup [.int (l+1+d3),.int (1+d4)])) r (.lst (xs++[.ref t]))=H8 at b8 e8 er8 eq8 pp8
  clear t8 t7 er7
  walk_at "D"
  refine⟨⟨q,_,rfl,eq8⟩,st,o7,2,rfl,e8,so7,by decide,by decide,fun d5 o9 d50 d51 so9=>?_⟩
  have b9:But st H8 (upd H8 st o9):=But.at _ _ _
  have e9:upd H8 st o9 st=some o9:=ij
  generalize upd H8 st o9=H9 at b9 e9
  have t9:TupS H8 H9:=b9.tups e8 so7.imm
  have er9:=b9 _ _ nr er8
  have eq9:=b9 _ _ nq eq8
  simp_arith[eq9]
  have t10:=kI (ys:=cs.map V.int++[.int d5]) eq9
  refine⟨iW (by rw[ae];lia),l+1+d3,_,ps++[(l+1+d3,1+d4)],xs++[.ref t],cs++[d5],o9,rfl,fun b u nb z=>?_,?_,so9,?_,Prs.tups (t9.trans t10) pp8,?_,?_,?_,?_,?_,fun c hc=>?_⟩
  ·rw[ir (iC z hq0)]
   exact b9 _ _ nb (b8 _ _ nb z)
  ·rw[ir nq.symm];exact e9
  ·rw[ir hnq];exact er9
  ·rw[aB,hlen];rfl
  ·exact dr.snoc ⟨by show _<l+1+d3;lia,by show l+1+d3<=_;lia,by show 1<=1+d4;lia,by show 1+d4<=_;lia⟩
  ·rw[Aw]
  ·first|(rw[ij,ao];rfl)|(rw[ao];rfl)
  ·rw[aB,hcl];rfl
  ·rcases aM.mp hc with z|z
   ·exact hcs c z
   ·rw[aC.mp z];lia
 rintro σ HB ⟨l,kk,ps,xs,cs,oB,rfl,bB,eB,soB,erB,pB,hlen,dr,el,eqB,hcl,hcs⟩
 have hpl:ps.length<=20:=by lia
 have plok:=dr.pl (s:=0) (by lia) (by lia)
 have hnd:=plok.nodup
 have hlx:xs.length=ps.length:=aO pB
 have rise:=dr.rise
 walk_at "D"
 intro tl htl
 have ntl:tl≠st:=(iC eB htl).symm
 have nrt:r≠tl:=iC erB htl
 have nqt:q≠tl:=iC eqB htl
 have htl0:H tl=none:=by
  cases z:H tl with
  |none=>rfl
  |some u=>rw[bB _ _ ntl z]at htl;cases htl
 refine j7 (kZ 0 ps.length) (upd HB tl (.lst [])) (fun R hR=>?_) (rF (n:=ps.length) (fun k σ H1=>∃kk jj zs ts o',σ=[some (.ref st),some (.int m),some (.int n),some (.int gr),some (.int (1+dn)),some (.ref r),some (.int l),some (.ref q),kk,some (.ref tl),jj]/\But st H H1/\H1 st=some o'/\StO o'/\H1 r=some (.lst xs)/\Prs H1 xs ps/\H1 q=some (.lst (cs.map V.int))/\H1 tl=some (.lst zs)/\Prs H1 zs ts/\TiOk (iR ps) (-1,-1) ts/\TCol ts (lQ (ps.map (·.1)) cs)/\(∀(j:Nat) (p:Int×Int),k<=j->ps[j]? =some p->(lp (-1,-1) ts).1<p.1)/\ts.length<=120) ?_ ?_ ?_)
 ·unfold oJ
  walk_at "D"
  exact ⟨n,rfl,by lia,by lia,by rw [<- hlen]; exact hR⟩
 ·refine⟨_,none,[],[],oB,rfl,bB.trans (But.new htl),by rw[ir ntl.symm];exact eB,soB,by rw[ir nrt];exact erB,Prs.tups (rA htl) pB,by rw[ir nqt];exact eqB,ij,.nil,trivial,(fun t ht=>nomatch ht),fun j p _ hp=>?_,by simp⟩
  have:=dr.gt p (ag hp)
  exact this
 ·rintro k σ H1 hk ⟨kk,jj,zs,ts,o',rfl,b1,e1,so',er1,pp1,eq1,etl,pz,tok,tco,hlast,htn⟩
  have xk:ps[k]? =some ps[k]:=gE hk
  generalize ps[k]=pk at xk
  walk_at "D"
  refine j7 (kZ (0+(k:Int)+1) (ps.length-(k+1))) H1 (fun R hR=>?_) (rF (n:=ps.length-(k+1)) (fun i σ H2=>∃jj zs ts o',σ=[some (.ref st),some (.int m),some (.int n),some (.int gr),some (.int (1+dn)),some (.ref r),some (.int l),some (.ref q),some (.int (0+(k:Int))),some (.ref tl),jj]/\But st H H2/\H2 st=some o'/\StO o'/\H2 r=some (.lst xs)/\Prs H2 xs ps/\H2 q=some (.lst (cs.map V.int))/\H2 tl=some (.lst zs)/\Prs H2 zs ts/\TiOk (iR ps) (-1,-1) ts/\TCol ts (lQ (ps.map (·.1)) cs)/\((lp (-1,-1) ts).1<pk.1\/((lp (-1,-1) ts).1=pk.1/\∀(j:Nat) (p:Int×Int),k+1+i<=j->ps[j]? =some p->(lp (-1,-1) ts).2<p.1))/\ts.length<=120) ?_ ?_ ?_)
  ·unfold A5
   walk_at "D"
   refine⟨_,_,rfl,⟨by lia,by lia,by lia,by lia⟩,?_⟩
   have e:(n-(0+(k:Int)+1)).toNat=ps.length-(k+1):=by lia
   rw[e]
   exact hR
  ·exact⟨jj,zs,ts,o',rfl,b1,e1,so',er1,pp1,eq1,etl,pz,tok,tco,.inl (hlast k pk (au _) xk),by lia⟩
  ·rintro i σ H2 hi ⟨jj2,zs2,ts2,o2,rfl,b2,e2,so2,er2,pp2,eq2,etl2,pz2,tok2,tco2,hl2,htn2⟩
   have hj:k+1+i<ps.length:=by lia
   have xj:ps[k+1+i]? =some ps[k+1+i]:=gE hj
   generalize ps[k+1+i]=pj at xj
   have hkj:=rise k (k+1+i) pk pj (by lia) xk xj
   have ck:cs[k]? =some (cs[k]'(by lia)):=gE _
   generalize cs[k]'(by lia)=sk at ck
   have cj:cs[k+1+i]? =some (cs[k+1+i]'(by lia)):=gE _
   generalize cs[k+1+i]'(by lia)=sj at cj
   have ack:i7 (cs.map V.int) (0+(k:Int))=some (.int sk):=by rw[gC];exact kH (by rw[aA,ck];rfl)
   have acj:i7 (cs.map V.int) (0+(k:Int)+1+(i:Int))=some (.int sj):=by
    rw[show 0+(k:Int)+1+(i:Int)=((k+1+i:Nat):Int) by lia]
    exact kH (by rw[aA,cj];rfl)
   have keep:∀{H3:Hp} {o3:HO} (jv:Option V),But st H H3->H3 st=some o3->StO o3->H3 r=some (.lst xs)->Prs H3 xs ps->H3 q=some (.lst (cs.map V.int))->H3 tl=some (.lst zs2)->Prs H3 zs2 ts2->∃jj zs ts o',[some (V.ref st),some (.int m),some (.int n),some (.int gr),some (.int (1+dn)),some (.ref r),some (.int l),some (.ref q),some (.int (0+(k:Int))),some (.ref tl),jv]=[some (V.ref st),some (.int m),some (.int n),some (.int gr),some (.int (1+dn)),some (.ref r),some (.int l),some (.ref q),some (.int (0+(k:Int))),some (.ref tl),jj]/\But st H H3/\H3 st=some o'/\StO o'/\H3 r=some (.lst xs)/\Prs H3 xs ps/\H3 q=some (.lst (cs.map V.int))/\H3 tl=some (.lst zs)/\Prs H3 zs ts/\TiOk (iR ps) (-1,-1) ts/\TCol ts (lQ (ps.map (·.1)) cs)/\((lp (-1,-1) ts).1<pk.1\/((lp (-1,-1) ts).1=pk.1/\∀(j:Nat) (p:Int×Int),k+1+(i+1)<=j->ps[j]? =some p->(lp (-1,-1) ts).2<p.1))/\ts.length<=120:=fun jv k1 k2 k3 k4 k5 k6 k7 k8=>by
    refine⟨_,zs2,ts2,_,rfl,k1,k2,k3,k4,k5,k6,k7,k8,tok2,tco2,?_,htn2⟩
    rcases hl2 with z|⟨z1,z2⟩
    ·exact .inl z
    ·exact .inr ⟨z1,fun j p hj2 hp=>z2 j p (by lia) hp⟩
   simp_arith[iD,eq2,ack,acj]
   by_cases cc:sk=sj
   ·exact kg (fun z=>absurd z (by rw[aD cc];decide)) (fun _=>by
     have z:=keep (some (.int (0+(k:Int)+1+(i:Int)))) b2 e2 so2 er2 pp2 eq2 etl2 pz2
     simp only[eq2,eq_self,true_and]at z
     exact z)
   ·refine kg (fun _=>?_) (fun z=>absurd (by rw[aK cc];rfl) z)
    refine⟨st,o2,5,rfl,e2,so2,by decide,by decide,fun d3 o3 d30 d31 so3=>?_⟩
    have b3:But st H2 (upd H2 st o3):=But.at _ _ _
    have t3:TupS H2 (upd H2 st o3):=b3.tups e2 so2.imm
    have er3:=b3 _ _ nr er2
    have eq3:=b3 _ _ nq eq2
    have etl3:=b3 _ _ ntl etl2
    have e3:upd H2 st o3 st=some o3:=ij
    generalize upd H2 st o3=H3 at b3 t3 er3 etl3 e3 eq3
    simp_arith[etl3]
    refine kg (fun c=>?_) (fun c=>by
     have z:=keep (some (.int (0+(k:Int)+1+(i:Int)))) (b2.trans b3) e3 so3 er3 (Prs.tups t3 pp2) eq3 etl3 (Prs.tups t3 pz2)
     simp only[etl3]at z
     exact z)
    refine kg (fun c2=>?_) (fun c2=>by
     have z:=keep (some (.int (0+(k:Int)+1+(i:Int)))) (b2.trans b3) e3 so3 er3 (Prs.tups t3 pp2) eq3 etl3 (Prs.tups t3 pz2)
     simp only[etl3]at z
     exact z)
    have c2':(zs2.length:Int)<120:=bC c2
    obtain⟨uk,gk0,hgk⟩:=lN pp2 xk
    obtain⟨uj,gj,hgj⟩:=lN pp2 xj
    obtain⟨tk,ek,hk3⟩:=hgk.tups t3
    obtain⟨tj,ej,hj3⟩:=hgj.tups t3
    have ak:i7 xs (0 + (k:Int)) = some (.ref tk):=by rw [gC,<- ek]; exact kH gk0
    have aj:i7 xs (0+(k:Int)+1+(i:Int))=some (.ref tj):=by
     rw [show 0 + (k:Int) + 1 + (i:Int) = ((k + 1 + i:Nat):Int) by lia,<- ej]
     exact kH gj
    refine⟨⟨tl,_,rfl,etl3⟩,?_⟩
    simp_arith[er3,ak,aj,hk3,hj3,i3]
    intro t ht
    have etl4:=iy ht (.tup [.int pk.1,.int pj.1]) _ _ etl3
    simp_arith[etl4]
    have t6:=kI (ys:=zs2++[.ref t]) etl4
    have nst:st≠tl:=ntl.symm
    have hz2:zs2.length=ts2.length:=aO pz2
    have tco3:TCol (ts2++[(pk.1,pj.1)]) (lQ (ps.map (·.1)) cs):=fun t5 h5=>by
     rcases aM.mp h5 with z|z
     ·exact tco2 t5 z
     ·rw[aC.mp z]
      have a1:=xf (cs:=cs) hnd (k:=k) (n:=pk.1) (by rw[aA,xk];rfl) ck
      have a2:=xf (cs:=cs) hnd (k:=k+1+i) (n:=pj.1) (by rw[aA,xj];rfl) cj
      have s1:=hcs sk (ag ck)
      have s2:=hcs sj (ag cj)
      show lQ (ps.map (·.1)) cs pj.1= !(lQ (ps.map (·.1)) cs pk.1)
      rcases s1 with s1|s1<;>rcases s2 with s2|s2
      ·exact absurd (s1.trans s2.symm) cc
      ·rw[a2.mpr s2,show lQ (ps.map (·.1)) cs pk.1=false from Bool.eq_false_iff.mpr (fun z=>by have:=a1.mp z;lia)];rfl
      ·rw[a1.mpr s1,show lQ (ps.map (·.1)) cs pj.1=false from Bool.eq_false_iff.mpr (fun z=>by have:=a2.mp z;lia)];rfl
      ·exact absurd (s1.trans s2.symm) cc
    refine⟨iW (by lia),_,zs2++[.ref t],ts2++[(pk.1,pj.1)],o3,rfl,fun b u nb z=>?_,?_,so3,?_,Prs.tups ((t3.trans (rA ht)).trans t6) pp2,?_,(by first|rfl|exact ij),ma (Prs.tups ((t3.trans (rA ht)).trans t6) pz2) (Pr.tups ⟨t,rfl,ij⟩ t6),?_,tco3,?_,?_⟩
    ·have q3:=b3 _ _ nb (b2 _ _ nb z)
     rw[ir (iC z htl0),ir (iC q3 ht)]
     exact q3
    ·rw[ir nst,ir (iC e3 ht)]
     exact e3
    ·rw[ir nrt,ir (iC er3 ht)]
     exact er3
    ·rw[ir nqt,ir (iC eq3 ht)]
     exact eq3
    ·refine tok2.snoc ⟨?_,hkj,(show jA _ pk.1=true from xx hnd xk),(show jA _ pj.1=true from xx hnd xj)⟩
     rcases hl2 with z|⟨z1,z2⟩
     ·exact xE z
     ·rw[z1]
      exact xD (z2 _ pj (au _) xj)
    ·rw[Ax]
     exact .inr ⟨rfl,fun j p hj2 hp=>rise _ _ pj p (by lia) xj hp⟩
    ·rw[aB]
     show _+1<=_
     lia
  ·rintro σ H2 ⟨jj2,zs2,ts2,o2,rfl,b2,e2,so2,er2,pp2,eq2,etl2,pz2,tok2,tco2,hl2,htn2⟩
   refine⟨_,jj2,zs2,ts2,o2,rfl,b2,e2,so2,er2,pp2,eq2,etl2,pz2,tok2,tco2,fun j p hj hp=>?_,by lia⟩
   have:=rise k j pk p (by lia) xk hp
   rcases hl2 with z|⟨z1,_⟩
   ·lia
   ·lia
 ·rintro σ H1 ⟨kk,jj,zs,ts,o',rfl,b1,e1,so',er1,pp1,eq1,etl,pz,tok,tco,hlast,htn⟩
  walk_at "D"
  intro wv hwv
  have s1:=iy hwv (.tup [.ref r,.ref tl])
  exact h _ _ o' ps ts _ (b1.trans (But.new hwv)) (s1 _ _ e1) so' ⟨wv,r,tl,xs,zs,rfl,ij,s1 _ _ er1,s1 _ _ etl,Prs.same s1 pp1,Prs.same s1 pz⟩ ⟨by lia,plok,by lia,tok⟩ tco (by lia) dr
end
end My
namespace Fl
def i6(n m v:Int):Int:=if n=m then v else 0
theorem qe(n v:Int):i6 n n v=v:=by unfold i6;rw[az rfl]
theorem lh{n m:Int}(h:n≠m)(v:Int):i6 n m v=0:=by unfold i6;rw[ay h]
theorem se(c:Int->Int)(a x:Int):∀{ns:List Int},ns.Nodup->a∈ns->(ns.map fun p=>c p*i6 a p x).sum=c a*x
 |[],_,h=>by cases h
 | n ::ns,nd,h=>by
  rw[aw,List.sum_cons]
  have nd':=bz.mp nd
  by_cases e:a=n
  ·subst e
   have h0:∀{l:List Int},a∉l->(l.map fun p=>c p*i6 a p x).sum=0:=by
    intro l
    induction l with
    |nil=>intro _;rfl
    |cons m l ih=>
     intro hm
     rw[aw,List.sum_cons,lh (fun z:a=m=>hm (by rw[z];exact aP ..)),Int.mul_zero,ih fun z=>hm (aH _ z)]
     rfl
   rw[qe,h0 nd'.1,fG]
  ·have hm:a∈ns:=(aU.mp h).resolve_left e
   rw[lh e,Int.mul_zero,se c a x nd'.2 hm,gC]
theorem p8{α:Type}(f g:α->Int):∀(l:List α),(l.map fun p=>f p+g p).sum=(l.map f).sum+(l.map g).sum
 |[]=>rfl
 |a::l=>by
  rw[aw,aw,aw,List.sum_cons,List.sum_cons,List.sum_cons,p8 f g l]
  lia
theorem mP{α:Type}:∀(l:List α),(l.map fun _=>(0:Int)).sum=0
 |[]=>rfl
 |_::l=>by rw[aw,List.sum_cons,mP l];rfl
theorem lg{α:Type}{f g:α->Int}:∀{l:List α},(∀p∈l,f p=g p)->(l.map f).sum=(l.map g).sum
 |[],_=>rfl
 |a::l,h=>by
  rw[aw,aw,List.sum_cons,List.sum_cons,h a (aP ..),lg fun p hp=>h p (aH _ hp)]
def one(b:Bool):Int:=if b=true then 1 else 0
section
variable{ns:List Int}{pr:Int->Int}{zs:List Tw}{fs ft:Int->Int}{SL SR:Int->Bool}
end
end Fl
namespace Fl
def iH(w:Nat):Nat:=if w%2=0 then w+1 else w-1
theorem ow(w:Nat):iH (iH w)=w:=by unfold iH;split<;>split<;>lia
theorem sr(w:Nat):iH w≠w:=by unfold iH;split<;>lia
theorem mQ{w m:Nat}(h:w<2*m):iH w<2*m:=by unfold iH;split<;>lia
def at'(l:List Int)(i:Nat):Int:=l.getD i 0
theorem vJ(l:List Int)(i j:Nat)(v:Int):at' (l.set i v) j=if i=j/\j<l.length then v else at' l j:=by
 unfold at'
 rw[bc,bc,List.getElem?_set]
 by_cases h:i=j
 ·by_cases h2:j<l.length
  ·rw[az h,az (by lia),az ⟨h,h2⟩];rfl
  ·rw[az h,ay (by lia),ay (fun z=>h2 z.2),bF (by lia)]
 ·rw[ay h,ay (fun z=>h z.1)]
def bump(r:List Int)(w:Nat)(a:Int):List Int:=(r.set w (at' r w-a)).set (iH w) (at' r (iH w)+a)
theorem uC(r:List Int)(w:Nat)(a:Int):(bump r w a).length=r.length:=by unfold bump;rw[dE,dE]
theorem uc{r:List Int}{w m:Nat}{a:Int}(hl:r.length=2*m)(hw:w<2*m)(j:Nat):at' (bump r w a) j=at' r j-(if j=w then a else 0)+(if j=iH w then a else 0):=by
 unfold bump
 rw[vJ,vJ]
 have hm:=mQ hw
 have hn:=sr w
 rw[dE,hl]
 by_cases h1:j=iH w
 ·subst h1
  rw[az ⟨rfl,hm⟩,ay hn,az rfl]
  lia
 ·rw[ay (fun z=>h1 z.1.symm),ay h1]
  by_cases h2:j=w
  ·subst h2
   rw[az ⟨rfl,hw⟩,az rfl]
   lia
  ·rw[ay (fun z=>h2 z.1.symm),ay h2]
   lia
theorem vf{g g':Nat->Int}:∀{m k0:Nat},k0<m->(∀k,k≠k0->g' k=g k)->((List.range m).map g').sum=((List.range m).map g).sum+(g' k0-g k0)
 |0,_,h,_=>by lia
 | m+1,k0,h,he=>by
  rw[cQ,ao,ao,dD,dD]
  show _+(g' m+0)=_+(g m+0)+_
  by_cases c:k0=m
  ·subst c
   have e:((List.range k0).map g').sum=((List.range k0).map g).sum:=lg fun k hk=>he k (by have:=bK.mp hk;lia)
   rw[e]
   lia
  ·rw[vf (m:=m) (k0:=k0) (by lia) he,he m (fun z=>c z.symm)]
   lia
def ex(hs:List Int)(m:Nat)(r:List Int)(v:Int):Int:=((List.range m).map fun k=>i6 (at' hs (2*k)) v (at' r (2*k+1))-i6 (at' hs (2*k+1)) v (at' r (2*k+1))).sum
theorem zx(n v a b:Int):i6 n v (a+b)=i6 n v a+i6 n v b:=by unfold i6;split<;>lia
theorem zy(n v a b:Int):i6 n v (a-b)=i6 n v a-i6 n v b:=by unfold i6;split<;>lia
theorem De{hs r:List Int}{m w:Nat}{a:Int}(hl:r.length=2*m)(hw:w<2*m)(v:Int):ex hs m (bump r w a) v=ex hs m r v+i6 (at' hs w) v a-i6 (at' hs (iH w)) v a:=by
 unfold ex
 have hk:w/2<m:=by lia
 rw[vf (g:=fun k=>i6 (at' hs (2*k)) v (at' r (2*k+1))-i6 (at' hs (2*k+1)) v (at' r (2*k+1))) hk (fun k hne=>?_)]
 ·rw[uc hl hw]
  by_cases c:w%2=0
  ·have e1:iH w=w+1:=by unfold iH;rw[az c]
   have e2:2*(w/2)=w:=by lia
   rw[e2,e1,ay (by lia),az rfl,Int.sub_zero,zx,zx]
   lia
  ·have e1:iH w=w-1:=by unfold iH;rw[ay c]
   have e2:2*(w/2)+1=w:=by lia
   have e3:2*(w/2)=w-1:=by lia
   rw[e2,e3,e1,az rfl,ay (by lia),fG,zy,zy]
   lia
 ·rw[uc hl hw,ay (by lia),ay (by unfold iH;split<;>lia),Int.sub_zero,fG]
def push(r:List Int)(tr:List Nat)(a:Int):List Int:=tr.foldl (fun r w=>bump r w a) r
theorem qd:∀(tr:List Nat) (r:List Int) (a:Int),(push r tr a).length=r.length
 |[],_,_=>rfl
 |w::tr,r,a=>by
  show(push (bump r w a) tr a).length=_
  rw[qd tr,uC]
def qi(hs:List Int):Int->List Nat->Int->Prop
 |t,[],s=>t=s
 |t,w::tr,s=>at' hs w=t/\qi hs (at' hs (iH w)) tr s
theorem yh{hs:List Int}{m:Nat}{a:Int}{s:Int}(v:Int):∀{tr:List Nat} {r:List Int} {t:Int},r.length=2*m->(∀w∈tr,w<2*m)->qi hs t tr s->ex hs m (push r tr a) v=ex hs m r v+i6 t v a-i6 s v a
 |[],r,t,_,_,h=>by
  have h:t=s:=h
  subst h
  show ex hs m r v=_
  lia
 |w::tr,r,t,hl,hw,h=>by
  show ex hs m (push (bump r w a) tr a) v=_
  obtain⟨h1,h2⟩:=h
  rw[yh v (by rw[uC];exact hl) (fun x hx=>hw x (aH _ hx)) h2,De hl (hw w (aP ..)),h1]
  lia
theorem Ad(a:Int)(n:Nat):a*((n+1:Nat):Int)=a*(n:Int)+a:=by rw[Int.natCast_add,gX];show _+a*1=_;rw[Int.mul_one]
theorem qR{m:Nat}{a:Int}(j:Nat):∀{tr:List Nat} {r:List Int},r.length=2*m->(∀w∈tr,w<2*m)->at' (push r tr a) j=at' r j-a*(tr.count j:Int)+a*(tr.count (iH j):Int)
 |[],r,_,_=>by
  show at' r j=at' r j-a*0+a*0
  lia
 | w::tr,r,hl,hw=>by
  show at' (push (bump r w a) tr a) j=_
  have hm:(j=iH w)↔(w=iH j):=⟨fun z=>by rw[z,ow],fun z=>by rw[z,ow]⟩
  rw[qR j (by rw[uC];exact hl) (fun x hx=>hw x (aH _ hx)),uc hl (hw w (aP ..)),List.count_cons,List.count_cons]
  by_cases c1:j=w
  ·by_cases c2:j=iH w
   ·exact absurd (c2.symm.trans c1) (sr w)
   ·rw[az c1,ay c2,az (by simp[c1]),ay (by simp;exact fun z=>c2 (hm.mpr z)),Ad]
    simp only[Nat.add_zero]
    lia
  ·by_cases c2:j=iH w
   ·rw[ay c1,az c2,ay (by simp;exact fun z=>c1 z.symm),az (by simp;exact hm.mp c2),Ad]
    simp only[Nat.add_zero]
    lia
   ·rw[ay c1,ay c2,ay (by simp;exact fun z=>c1 z.symm),ay (by simp;exact fun z=>c2 (hm.mpr z))]
    simp only[Nat.add_zero]
    lia
end Fl
namespace Fl
abbrev Cb:=List (Int×Option Nat)
def seen(cb:Cb)(v:Int):Bool:=decide (v∈cb.map (·.1))
def jF(hs r:List Int):Cb->List Nat->Cb
 |cb,[]=>cb
 |cb,w::ws=>jF hs r (if 0<at' r w/\seen cb (at' hs w)=false then cb++[(at' hs w,some w)]else cb) ws
def iY(wf:Int->List Nat)(hs r:List Int)(s:Int):Nat->Cb
 |0=>[(s,none)]
 |k+1=>match(iY wf hs r s k)[k]? with
  |some p=>jF hs r (iY wf hs r s k) (wf p.1)
  |none=>iY wf hs r s k
structure Cam(hs r:List Int)(m:Nat)(s:Int)(cb:Cb):Prop where
 nd:(cb.map (·.1)).Nodup
 first:cb[0]? =some (s,none)
 came:∀i v o,cb[i]? =some (v,o)->0<i->∃w,o=some w/\w<2*m/\0<at' r w/\at' hs w=v/\∃j u,j<i/\(cb[j]?.map (·.1))=some u/\at' hs (iH w)=u
section
variable{hs r:List Int}{m:Nat}{s:Int}
theorem Cam.put{cb:Cb}(h:Cam hs r m s cb){w:Nat}{j:Nat}{u:Int}(hw:w<2*m)(hp:0<at' r w)(hn:seen cb (at' hs w)=false)(hj:(cb[j]?.map (·.1))=some u)(hu:at' hs (iH w)=u):Cam hs r m s (cb++[(at' hs w,some w)]):=by
 have hlen:0<cb.length:=by
  have:=h.first
  cases cb with
  |nil=>cases this
  |cons _ _=>simp
 have hjl:j<cb.length:=by
  cases e:cb[j]? with
  |none=>rw[e]at hj;cases hj
  |some p=>exact(ah.mp e).1
 refine⟨?_,?_,?_⟩
 ·rw[ao,bZ]
  refine⟨h.nd,by simp,fun a ha b hb=>?_⟩
  simp at hb
  subst hb
  intro z
  subst z
  unfold seen at hn
  rw[decide_eq_false_iff_not]at hn
  exact hn ha
 ·rw[bA hlen]
  exact h.first
 ·intro i v o hi h0
  by_cases c:i<cb.length
  ·rw[bA c]at hi
   obtain⟨w',h1,h2,h3,h4,j',u',h5,h6,h7⟩:=h.came i v o hi h0
   exact⟨w',h1,h2,h3,h4,j',u',h5,by rw[bA (by lia)];exact h6,h7⟩
  ·rw[bR (by lia)]at hi
   have:i-cb.length=0:=by
    cases e:i-cb.length with
    |zero=>rfl
    |succ n=>rw[e]at hi;simp at hi
   rw[this]at hi
   simp at hi
   obtain⟨rfl,rfl⟩:=hi
   exact⟨w,rfl,hw,hp,rfl,j,u,by lia,by rw[bA hjl];exact hj,hu⟩
theorem uZ:∀{ws:List Nat} {cb:Cb} {j:Nat} {u:Int},Cam hs r m s cb->(cb[j]?.map (·.1))=some u->(∀w∈ws,w<2*m/\at' hs (iH w)=u)->Cam hs r m s (jF hs r cb ws)
 |[],_,_,_,h,_,_=>h
 | w::ws,cb,j,u,h,hj,hw=>by
  unfold jF
  have h1:=hw w (aP ..)
  have hjl:j<cb.length:=by
   cases e:cb[j]? with
   |none=>rw[e]at hj;cases hj
   |some p=>exact(ah.mp e).1
  split
  ·rename_i c
   exact uZ (j:=j) (u:=u) (h.put h1.1 c.1 c.2 hj h1.2) (by rw[bA hjl];exact hj) fun x hx=>hw x (aH _ hx)
  ·exact uZ h hj fun x hx=>hw x (aH _ hx)
theorem nE:∀(ws:List Nat) (cb:Cb),∃l,jF hs r cb ws=cb++l
 |[],cb=>⟨[],(bq _).symm⟩
 | w::ws,cb=>by
  unfold jF
  split
  ·obtain⟨l,e⟩:=nE ws (cb++[(at' hs w,some w)])
   exact⟨(at' hs w,some w)::l,by rw[e,bp];rfl⟩
  ·exact nE ws cb
theorem Am:∀{ws:List Nat} {cb:Cb} {w:Nat},w∈ws->0<at' r w->at' hs w∈(jF hs r cb ws).map (·.1)
 | x::ws,cb,w,h,hp=>by
  unfold jF
  rcases aU.mp h with rfl|h
  ·by_cases c:seen cb (at' hs w)=false
   ·rw[az ⟨hp,c⟩]
    obtain⟨l,e⟩:=nE (hs:=hs) (r:=r) ws (cb++[(at' hs w,some w)])
    rw[e]
    simp
   ·rw[ay (fun z=>c z.2)]
    obtain⟨l,e⟩:=nE (hs:=hs) (r:=r) ws cb
    rw[e,ao,aM]
    left
    unfold seen at c
    simpa using c
  ·exact Am h hp
end
section
variable{wf:Int->List Nat}{hs r:List Int}{m:Nat}{s:Int}
theorem lT(hwf:∀u,∀w∈wf u,w<2*m/\at' hs (iH w)=u):∀k,Cam hs r m s (iY wf hs r s k)
 | 0=>⟨by simp[iY],rfl,fun i v o h h0=>by
   cases i with
   |zero=>lia
   |succ i=>simp[iY]at h⟩
 | k+1=>by
  unfold iY
  have ih:=lT hwf k
  split
  ·rename_i p e
   exact uZ ih (j:=k) (u:=p.1) (by rw[e];rfl) (hwf p.1)
  ·exact ih
theorem wy(k:Nat):∃l,iY wf hs r s (k+1)=iY wf hs r s k++l:=by
 rw[iY]
 split
 ·exact nE _ _
 ·exact⟨[],(bq _).symm⟩
theorem sf{k:Nat}(h:(iY wf hs r s k).length<=k):∀j,iY wf hs r s (k+j)=iY wf hs r s k
 |0=>rfl
 |j+1=>by
  have ih:=sf h j
  show iY wf hs r s (k+j+1)=_
  rw[iY,ih,bF (by lia)]
theorem zK:∀{k:Nat} {i:Nat} {p:Int×Option Nat} {w:Nat},i<k->(iY wf hs r s k)[i]? =some p->w∈wf p.1->0<at' r w->at' hs w∈(iY wf hs r s k).map (·.1)
 | k+1,i,p,w,hi,hp,hw,h0=>by
  obtain⟨l,e⟩:=wy (wf:=wf) (hs:=hs) (r:=r) (s:=s) k
  by_cases c:i<(iY wf hs r s k).length
  ·rw[e,bA c]at hp
   by_cases c2:i=k
   ·subst c2
    rw[iY,hp]
    exact Am hw h0
   ·rw[e,ao,aM]
    left
    exact zK (by lia) hp hw h0
  ·by_cases c3:(iY wf hs r s k).length<=k
   ·have:=sf c3 1
    rw[this,bF (by lia)]at hp
    cases hp
   ·lia
end
end Fl
namespace Fl
def lk(cb:Cb)(v:Int):Option Nat:=(cb.find? fun p=>decide (p.1=v)).bind (·.2)
theorem sX{cb:Cb}(nd:(cb.map (·.1)).Nodup){i:Nat}{v:Int}{o:Option Nat}(h:cb[i]? =some (v,o)):lk cb v=o:=by
 unfold lk
 induction cb generalizing i with
 |nil=>cases h
 | cons p cb ih=>
  rw[aw]at nd
  have nd':=bz.mp nd
  rw[List.find?_cons]
  cases i with
  |zero=>
   simp at h
   subst h
   simp
  |succ i=>
   simp at h
   have hm:v∈cb.map (·.1):=aE.mpr ⟨(v,o),ag h,rfl⟩
   have hne:p.1≠v:=fun z=>nd'.1 (z▸hm)
   rw[aK hne]
   exact ih nd'.2 h
theorem Du{cb:Cb}{v:Int}(h:v∉cb.map (·.1)):lk cb v=none:=by
 unfold lk
 rw[List.find?_eq_none.mpr fun p hp=>by
  rw[cW]
  exact fun z=>h (aE.mpr ⟨p,hp,z⟩)]
 rfl
def jl(hs:List Int)(cb:Cb):Nat->Int->List Nat
 |0,_=>[]
 |f+1,v=>match lk cb v with
  |some w=>w::jl hs cb f (at' hs (iH w))
  |none=>[]
def key(cb:Cb)(i:Nat):Option Int:=cb[i]?.map (·.1)
theorem Dp{cb:Cb}(nd:(cb.map (·.1)).Nodup){i j:Nat}{v:Int}(h1:key cb i=some v)(h2:key cb j=some v):i=j:=by
 unfold key at h1 h2
 rw [<- aA] at h1 h2
 obtain⟨a,b⟩:=ah.mp h1
 obtain⟨c,d⟩:=ah.mp h2
 exact(fm nd).mp (b.trans d.symm)
structure Good(hs r:List Int)(m:Nat)(cb:Cb)(i:Nat)(tr:List Nat):Prop where
 up:∀w∈tr,w<2*m/\0<at' r w/\∃k j,j<k/\k<=i/\key cb k=some (at' hs w)/\key cb j=some (at' hs (iH w))
 nd:tr.Nodup
section
variable{hs r:List Int}{m:Nat}{s:Int}{cb:Cb}
theorem AE(C:Cam hs r m s cb):∀(i:Nat) (v:Int) (o:Option Nat),cb[i]? =some (v,o)->∀f,i<=f->qi hs v (jl hs cb f v) s/\Good hs r m cb i (jl hs cb f v)/\(0<i->jl hs cb f v≠[]):=by
 intro i
 induction i using Nat.strongRecOn with
 | ind i ih=>
  intro v o h f hf
  by_cases h0:i=0
  ·subst h0
   have e:=C.first
   rw[h]at e
   have ho:o=none:=bN Prod.snd (aL e)
   have hv:v=s:=bN Prod.fst (aL e)
   have hl:=sX C.nd h
   rw[ho]at hl
   have ht:jl hs cb f v=[]:=by
    cases f with
    |zero=>rfl
    |succ f=>unfold jl;rw[hl]
   rw[ht]
   exact⟨hv,⟨(fun w hw=>by cases hw),.nil⟩,fun z=>by lia⟩
  ·obtain⟨w,rfl,h2,h3,h4,j,u,h5,h6,h7⟩:=C.came i v o h (by lia)
   have hl:=sX C.nd h
   obtain⟨f',rfl⟩:∃f',f=f'+1:=⟨f-1,by lia⟩
   have ht:jl hs cb (f'+1) v=w::jl hs cb f' u:=by
    rw[jl,hl]
    dsimp only
    rw[h7]
   obtain⟨p,hp⟩:∃p,cb[j]? =some p:=by
    cases e:cb[j]? with
    |none=>rw[e]at h6;cases h6
    |some p=>exact⟨p,rfl⟩
   have hpu:p.1=u:=by rw[hp]at h6;exact aL h6
   obtain⟨p1,p2⟩:=p
   dsimp only at hpu
   subst hpu
   obtain⟨t1,t2,_⟩:=ih j h5 p1 p2 hp f' (by lia)
   rw[ht]
   have kv:key cb i=some v:=by unfold key;rw[h];rfl
   refine⟨⟨h4,by rw[h7];exact t1⟩,⟨fun x hx=>?_,?_⟩,fun _=>by simp⟩
   ·rcases aU.mp hx with rfl|hx
    ·exact⟨h2,h3,i,j,h5,au _,by rw[h4];exact kv,by rw[h7];exact h6⟩
    ·obtain⟨a,b,k,l,c1,c2,c3,c4⟩:=t2.up x hx
     exact⟨a,b,k,l,c1,by lia,c3,c4⟩
   ·refine bz.mpr ⟨fun hm=>?_,t2.nd⟩
    obtain⟨a,b,k,l,c1,c2,c3,c4⟩:=t2.up w hm
    rw[h4]at c3
    have:=Dp C.nd kv c3
    lia
structure Rooms(m:Nat)(cap:Nat->Int)(r:List Int):Prop where
 len:r.length=2*m
 pos:∀j,0<=at' r j
 two:∀k,k<m->at' r (2*k)+at' r (2*k+1)=cap k
theorem ES{l:List Nat}(nd:l.Nodup)(j:Nat):l.count j=if j∈l then 1 else 0:=by
 by_cases h:j∈l
 ·rw[az h]
  have h1:=List.nodup_iff_count.mp nd j
  have h2:=List.count_pos_iff.mpr h
  lia
 ·rw[ay h];exact List.count_eq_zero.mpr h
theorem Rooms.push{cap:Nat->Int}(R:Rooms m cap r){tr:List Nat}(nd:tr.Nodup)(hw:∀w∈tr,w<2*m){a:Int}(ha:0<=a)(hm:∀w∈tr,a<=at' r w):Rooms m cap (push r tr a):=by
 refine⟨by rw[qd];exact R.len,fun j=>?_,fun k hk=>?_⟩
 ·rw[qR j R.len hw,ES nd j]
  have h0:0<=a*(tr.count (iH j):Int):=Int.mul_nonneg ha (gm _)
  by_cases h:j∈tr
  ·rw[az h]
   have:=hm j h
   show 0<=at' r j-a*1+_
   lia
  ·rw[ay h]
   have:=R.pos j
   show 0<=at' r j-a*0+_
   lia
 ·rw[qR _ R.len hw,qR _ R.len hw]
  have e1:iH (2*k)=2*k+1:=by unfold iH;rw[az (by lia)]
  have e2:iH (2*k+1)=2*k:=by unfold iH;rw[ay (by lia)];lia
  rw[e1,e2]
  have:=R.two k hk
  lia
end
end Fl
namespace Fl
structure Net(wf:Int->List Nat)(hs:List Int)(m n:Nat):Prop where
 len:hs.length=2*m
 from':∀u,∀w∈wf u,w<2*m/\at' hs (iH w)=u
 knot:∀w,w<2*m->0<=at' hs w/\at' hs w<n
 all:∀w,w<2*m->w∈wf (at' hs (iH w))
def kr(r:List Int):List Nat->Int
 |[]=>0
 |[w]=>at' r w
 |w::x::tr=>if kr r (x::tr)<at' r w then kr r (x::tr)else at' r w
theorem sm(r:List Int):∀{tr:List Nat} {w:Nat},w∈tr->kr r tr<=at' r w
 |[],_,h=>by cases h
 |[x],w,h=>by rw[aC.mp h];exact bH _
 | y::x::tr,w,h=>by
  unfold kr
  rcases aU.mp h with rfl|h
  ·split<;>lia
  ·have:=sm r h
   split<;>lia
theorem zo(r:List Int):∀{tr:List Nat},tr≠[]->(∀w∈tr,0<at' r w)->0<kr r tr
 |[],h,_=>absurd rfl h
 |[x],_,h=>h x (aC.mpr rfl)
 |y::x::tr,_,h=>by
  unfold kr
  have h1:=h y (aP ..)
  have h2:=zo r (tr:=x::tr) (by simp) fun w hw=>h w (aH _ hw)
  split<;>lia
section
variable(wf:Int->List Nat)(hs:List Int)(n:Nat)(s t:Int)
def jD(r:List Int):Cb:=iY wf hs r s n
def jX(r:List Int):List Nat:=jl hs (jD wf hs n s r) n t
def kE(r:List Int):Option (List Int):=if jX wf hs n s t r=[]then none else some (push r (jX wf hs n s t r) (kr r (jX wf hs n s t r)))
inductive Runs:List Int->List Int->Prop
 |done (r:List Int):Runs r r
 |step {r r1 r':List Int}:kE wf hs n s t r=some r1->Runs r1 r'->Runs r r'
end
section
variable{wf:Int->List Nat}{hs:List Int}{n:Nat}{s t:Int}
theorem Runs.snoc{r r' r2:List Int}(h:Runs wf hs n s t r r')(e:kE wf hs n s t r'=some r2):Runs wf hs n s t r r2:=by
 induction h with
 |done r=>exact .step e (.done _)
 |step a _ ih=>exact .step a (ih e)
theorem BW{r a b:List Int}(h1:Runs wf hs n s t r a)(e1:kE wf hs n s t a=none)(h2:Runs wf hs n s t r b)(e2:kE wf hs n s t b=none):a=b:=by
 induction h1 with
 |done r=>
  cases h2 with
  |done _=>rfl
  |step x _=>rw[e1]at x;cases x
 | step x _ ih=>
  cases h2 with
  |done _=>rw[e2]at x;cases x
  |step y z=>
   rw[x]at y
   cases y
   exact ih e1 z
variable{m:Nat}{r:List Int}
theorem wZ(N:Net wf hs m n)(hs0:0<=s/\s<n)(k:Nat):∀v:Int,v∈(iY wf hs r s k).map (·.1)->0<=v/\v<(n:Int):=fun v hv=>by
 obtain⟨p,hp,rfl⟩:=aE.mp hv
 obtain⟨i,hi,e⟩:=aV.mp hp
 have C:=lT (r:=r) (s:=s) N.from' k
 have he:(iY wf hs r s k)[i]? =some p:=by rw[gE hi,e]
 cases i with
 |zero=>
  have:=C.first
  rw[he]at this
  cases this
  exact hs0
 |succ i=>
  obtain⟨w,_,h2,_,h4,_⟩:=C.came (i+1) p.1 p.2 he (by lia)
  rw [<- h4]
  exact N.knot w h2
theorem su{l:List Int}(nd:l.Nodup):∀{n:Nat},(∀v:Int,v∈l->0<=v/\v<(n:Int))->l.length<=n:=fun{n} h=>by
 have h1:(l.map Int.toNat).Nodup:=by
  unfold List.Nodup at nd ⊢
  rw[cw]
  exact nd.imp_of_mem fun{a b} ha hb z e=>z (by have:=h a ha;have:=h b hb;lia)
 have h2:∀x∈l.map Int.toNat,x∈List.range n:=fun x hx=>by
  obtain⟨v,hv,rfl⟩:=aE.mp hx
  have:=h v hv
  exact bK.mpr (by lia)
 have h3:(l.map Int.toNat).length<=(List.range n).length:=by
  have key:∀(a b:List Nat),a.Nodup->(∀x∈a,x∈b)->a.length<=b.length:=by
   intro a
   induction a with
   |nil=>intro b _ _;exact bw _
   |cons x a ih=>
    intro b nd hb
    have nd':=bz.mp nd
    have hx:=hb x (aP ..)
    have h4:=ih (b.erase x) nd'.2 fun y hy=>(eG (fun z:y = x=>nd'.1 (by rw [<- z]; exact hy))).mpr (hb y (aH _ hy))
    rw[dy hx]at h4
    have:=dU hx
    rw[List.length_cons]
    lia
  exact key _ _ h1 h2
 rw[ae,bS]at h3
 exact h3
theorem mM(N:Net wf hs m n)(hs0:0<=s/\s<n)(k:Nat):(iY wf hs r s k).length<=n:=by
 have:=su (lT (r:=r) (s:=s) N.from' k).nd (wZ N hs0 k)
 rw[ae]at this
 exact this
theorem HH(N:Net wf hs m n)(hs0:0<=s/\s<n){w:Nat}(hw:w<2*m)(h0:0<at' r w)(hf:at' hs (iH w)∈(jD wf hs n s r).map (·.1)):at' hs w∈(jD wf hs n s r).map (·.1):=by
 obtain⟨p,hp,e⟩:=aE.mp hf
 obtain⟨i,hi,e2⟩:=aV.mp hp
 have:=mM (r:=r) N hs0 n
 unfold jD at hi
 exact zK (k:=n) (i:=i) (p:=p) (by lia) (by rw[gE hi];exact bN some e2) (by rw[e];exact N.all w hw) h0
theorem BR(N:Net wf hs m n):s∈(jD wf hs n s r).map (·.1):=by
 have:=(lT (r:=r) (s:=s) N.from' n).first
 exact aE.mpr ⟨_,ag this,rfl⟩
theorem BF(N:Net wf hs m n)(hst:s≠t)(hs0:0<=s/\s<n)(h:kE wf hs n s t r=none):t∉(jD wf hs n s r).map (·.1):=fun ht=>by
 obtain⟨p,hp,e⟩:=aE.mp ht
 obtain⟨i,hi,e2⟩:=aV.mp hp
 have C:=lT (r:=r) (s:=s) N.from' n
 have he:(iY wf hs r s n)[i]? =some (t,p.2):=by
  unfold jD at hi e2
  rw [gE hi,e2,<- e]
 have hn:jX wf hs n s t r=[]:=by
  unfold kE at h
  split at h
  ·assumption
  ·cases h
 have hl:=mM (r:=r) N hs0 n
 unfold jD at hi
 have G:=AE C i t p.2 he n (by lia)
 by_cases h0:i=0
 ·subst h0
  have:=C.first
  rw[he]at this
  have:=bN Prod.fst (aL this)
  exact hst this.symm
 ·exact G.2.2 (by lia) hn
end
end Fl
namespace Fl
section
variable{wf:Int->List Nat}{hs:List Int}{m n:Nat}{s t:Int}{r:List Int}{cap:Nat->Int}
theorem vQ(N:Net wf hs m n)(hst:s≠t)(hs0:0<=s/\s<(n:Int))(h:jX wf hs n s t r≠[]):qi hs t (jX wf hs n s t r) s/\∃i,Good hs r m (jD wf hs n s r) i (jX wf hs n s t r):=by
 have C:=lT (r:=r) (s:=s) N.from' n
 by_cases ht:t∈(jD wf hs n s r).map (·.1)
 ·obtain⟨p,hp,e⟩:=aE.mp ht
  obtain⟨i,hi,e2⟩:=aV.mp hp
  have he:(iY wf hs r s n)[i]? =some (t,p.2):=by
   unfold jD at hi e2
   rw [gE hi,e2,<- e]
  have hl:=mM (r:=r) N hs0 n
  unfold jD at hi
  have G:=AE C i t p.2 he n (by lia)
  exact⟨G.1,i,G.2.1⟩
 ·refine absurd ?_ h
  unfold jX
  cases n with
  |zero=>rfl
  |succ k=>rw[jl,Du ht]
theorem wx(N:Net wf hs m n)(hst:s≠t)(hs0:0<=s/\s<(n:Int))(R:Rooms m cap r){r1:List Int}(h:kE wf hs n s t r=some r1):Rooms m cap r1/\(∀v,v≠s->v≠t->ex hs m r1 v=ex hs m r v)/\ex hs m r t+1<=ex hs m r1 t:=by
 unfold kE at h
 split at h
 ·cases h
 ·rename_i hne
  cases h
  obtain⟨T,i,G⟩:=vQ N hst hs0 hne
  have hw:∀w∈jX wf hs n s t r,w<2*m:=fun w hw=>(G.up w hw).1
  have hp:=zo r hne fun w hw=>(G.up w hw).2.1
  have E:=fun v=>yh (a:=kr r (jX wf hs n s t r)) v R.len hw T
  refine⟨R.push G.nd hw (by lia) fun w hw=>sm r hw,fun v h1 h2=>?_,?_⟩
  ·rw[E v,lh (fun z=>h2 z.symm),lh (fun z=>h1 z.symm)]
   lia
  ·rw[E t,qe,lh hst]
   lia
def vH(cap:Nat->Int)(m:Nat):Int:=((List.range m).map cap).sum
theorem p7{α:Type}{f g:α->Int}:∀{l:List α},(∀p∈l,f p<=g p)->(l.map f).sum<=(l.map g).sum
 |[],_=>bH _
 |a::l,h=>by
  rw[aw,aw,List.sum_cons,List.sum_cons]
  have:=h a (aP ..)
  have:=p7 fun p hp=>h p (aH _ hp)
  lia
theorem Ht(R:Rooms m cap r)(v:Int):ex hs m r v<=vH cap m:=by
 unfold ex vH
 refine p7 fun k hk=>?_
 have h1:=R.pos (2*k+1)
 have h2:=R.pos (2*k)
 have h3:=R.two k (bK.mp hk)
 unfold i6
 split<;>split<;>lia
theorem BU(N:Net wf hs m n)(hst:s≠t)(hs0:0<=s/\s<(n:Int)){r':List Int}(h:Runs wf hs n s t r r'):Rooms m cap r->Rooms m cap r'/\∀v,v≠s->v≠t->ex hs m r' v=ex hs m r v:=by
 induction h with
 |done r=>exact fun R=>⟨R,fun _ _ _=>rfl⟩
 |step e _ ih=>
  intro R
  obtain⟨R1,E1,_⟩:=wx N hst hs0 R e
  obtain⟨R2,E2⟩:=ih R1
  exact⟨R2,fun v h1 h2=>(E2 v h1 h2).trans (E1 v h1 h2)⟩
end
end Fl
namespace Fl
theorem wu(g:Nat->Int)(a:Nat):∀b,((List.range (a+b)).map g).sum=((List.range a).map g).sum+((List.range b).map fun k=>g (a+k)).sum
 |0=>by show _=_+0;rw[fG];rfl
 |b+1=>by
  rw [<- Nat.add_assoc,cQ,ao,dD,wu g a b,cQ,ao,dD]
  show _+(g (a+b)+0)=_+(_+(g (a+b)+0))
  lia
theorem BK(g:Nat->Int){n i:Nat}(hi:i<n)(h:∀k,k<n->k≠i->g k=0):((List.range n).map g).sum=g i:=by
 have h1:((List.range n).map g).sum=((List.range n).map fun k=>if k=i then g i else 0).sum:=lg fun k hk=>by
  by_cases c:k=i
  ·rw[az c,c]
  ·rw[ay c];exact h k (bK.mp hk) c
 have h2:=vf (g:=fun _=>0) (g':=fun k=>if k=i then g i else 0) hi fun k hk=>ay hk
 rw[h1,h2,mP,az rfl]
 lia
section
variable{ns:List Int}{ts:List (Int×Int)}{sp:Int->Int}{hs r:List Int}
theorem getD_at{l:List (Int×Int)}{j:Nat}(h:j<l.length):l[j]? =some (l.getD j (0,0)):=by
 rw[bc,gE h];rfl
theorem Co{a b c d v:Int}(h:a=b↔c=d):i6 a b v=i6 c d v:=by
 unfold i6
 by_cases x:a=b
 ·rw[az x,az (h.mp x)]
 ·rw[ay x,ay fun z=>x (h.mpr z)]
end
end Fl
namespace Fl
section
variable{ns:List Int}{ts:List (Int×Int)}{sp:Int->Int}{hs r:List Int}{wf:Int->List Nat}{pr:Int->Int}{cap:Nat->Int}
def arcs(ns:List Int)(ts:List (Int×Int)):Nat:=ns.length+ns.length+2*ts.length
theorem qh{α:Type}{f:α->Int}:∀{l:List α},(∀p∈l,0<=f p)->∀p∈l,f p<=(l.map f).sum
 |[],_,p,h=>by cases h
 | a::l,h0,p,h=>by
  rw[aw,List.sum_cons]
  have ha:=h0 a (aP ..)
  have hl:0<=(l.map f).sum:=by
   have:=p7 (f:=fun _=>0) (g:=f) (l:=l) fun q hq=>h0 q (aH _ hq)
   rw[mP]at this
   exact this
  rcases aU.mp h with rfl|h
  ·lia
  ·have:=qh (fun q hq=>h0 q (aH _ hq)) p h
   lia
end
end Fl
namespace Fl
abbrev jM:=Int×Int×Int
def hsA:List jM->List Int
 |[]=>[]
 |a::r=>a.2.1::a.1::hsA r
def jI:List jM->List Int
 |[]=>[]
 |a::r=>a.2.2::0::jI r
def mf(as:List jM)(k:Nat):Int:=(as.getD k (0,0,0)).2.2
theorem rO:∀as:List jM,(hsA as).length=2*as.length
 |[]=>rfl
 |a::r=>by rw[hsA,List.length_cons,List.length_cons,rO r,List.length_cons];lia
theorem qa:∀as:List jM,(jI as).length=2*as.length
 |[]=>rfl
 |a::r=>by rw[jI,List.length_cons,List.length_cons,qa r,List.length_cons];lia
theorem qY(x y:Int)(l:List Int)(i:Nat):at' (x::y::l) (i+2)=at' l i:=rfl
theorem mJ:∀(as:List jM) (i:Nat),at' (hsA as) (2*i)=(as.getD i (0,0,0)).2.1
 |[],i=>by simp[hsA,at']
 |a::r,0=>rfl
 |a::r,i+1=>by rw[show 2*(i+1)=2*i+2 by lia,hsA,qY,mJ r i];rfl
theorem mH:∀(as:List jM) (i:Nat),at' (hsA as) (2*i+1)=(as.getD i (0,0,0)).1
 |[],i=>by simp[hsA,at']
 |a::r,0=>rfl
 |a::r,i+1=>by rw[show 2*(i+1)+1=(2*i+1)+2 by lia,hsA,qY,mH r i];rfl
theorem uL:∀(as:List jM) (i:Nat),at' (jI as) (2*i)=mf as i
 |[],i=>by simp[jI,at',mf]
 |a::r,0=>rfl
 |a::r,i+1=>by rw[show 2*(i+1)=2*i+2 by lia,jI,qY,uL r i];rfl
theorem qU:∀(as:List jM) (i:Nat),at' (jI as) (2*i+1)=0
 |[],i=>by simp[jI,at']
 |a::r,0=>rfl
 |a::r,i+1=>by rw[show 2*(i+1)+1=(2*i+1)+2 by lia,jI,qY,qU r i]
def jE(as:List jM)(u:Int):List Nat:=(List.range (2*as.length)).filter fun w=>decide (at' (hsA as) (iH w)=u)
theorem wY(k:Nat):iH (2*k)=2*k+1:=by unfold iH;rw[az (by lia)]
theorem wX(k:Nat):iH (2*k+1)=2*k:=by unfold iH;rw[ay (by lia)];lia
theorem uF{α:Type}{l:List α}{i:Nat}(d:α)(h:i<l.length):l.getD i d∈l:=by
 rw[bc,gE h]
 exact dq h
theorem wR{as:List jM}{n:Nat}(h:∀a∈as,(0<=a.1/\a.1<(n:Int))/\0<=a.2.1/\a.2.1<(n:Int)):Net (jE as) (hsA as) as.length n:=by
 refine⟨rO as,fun u w hw=>?_,fun w hw=>?_,fun w hw=>?_⟩
 ·have hw:=bG.mp hw
  exact⟨bK.mp hw.1,bC hw.2⟩
 ·by_cases c:w%2=0
  ·have e:w=2*(w/2):=by lia
   have hk:w/2<as.length:=by lia
   rw[e,mJ]
   exact(h _ (uF _ hk)).2
  ·have e:w=2*(w/2)+1:=by lia
   have hk:w/2<as.length:=by lia
   rw[e,mH]
   exact(h _ (uF _ hk)).1
 ·exact bG.mpr ⟨bK.mpr hw,aD rfl⟩
theorem BV{as:List jM}(h:∀a∈as,0<=a.2.2):Rooms as.length (mf as) (jI as):=by
 refine⟨qa as,fun j=>?_,fun k hk=>?_⟩
 ·by_cases c:j%2=0
  ·rw[show j=2*(j/2) by lia,uL]
   unfold mf
   by_cases hk:j/2<as.length
   ·exact h _ (uF _ hk)
   ·rw[bc,bF (by lia)]
    exact bH _
  ·rw[show j=2*(j/2)+1 by lia,qU]
   exact bH _
 ·rw[uL,qU];lia
theorem Hu(as:List jM)(hs:List Int)(m:Nat)(v:Int):ex hs m (jI as) v=0:=by
 unfold ex
 rw [<- mP (List.range m)]
 refine lg fun k _=>?_
 rw[qU]
 unfold i6
 split<;>split<;>rfl
theorem vj:∀(as:List jM) (a:jM),hsA (as++[a])=hsA as++[a.2.1,a.1]
 |[],a=>rfl
 |b::r,a=>by rw[List.cons_append,hsA,vj r a,hsA];rfl
theorem wH:∀(as:List jM) (a:jM),jI (as++[a])=jI as++[a.2.2,0]
 |[],a=>rfl
 |b::r,a=>by rw[List.cons_append,jI,wH r a,jI];rfl
theorem HV{l l':List Int}{i:Nat}(h:i<l.length):at' (l++l') i=at' l i:=by
 unfold at'
 rw[bc,bc,bA h]
theorem Bu(as:List jM)(a:jM)(u:Int):jE (as++[a]) u=(jE as u++(if a.1=u then[2*as.length]else[]))++(if a.2.1=u then[2*as.length+1]else[]):=by
 unfold jE
 rw[aB,List.length_singleton,show 2*(as.length+1)=2*as.length+1+1 by lia,cQ,cU,cQ,cU]
 have e1:at' (hsA (as++[a])) (iH (2*as.length))=a.1:=by
  rw[wY,mH,bc,bR (au _),gw];rfl
 have e2:at' (hsA (as++[a])) (iH (2*as.length+1))=a.2.1:=by
  rw[wX,mJ,bc,bR (au _),gw];rfl
 congr 1
 ·congr 1
  ·refine gB fun w hw=>?_
   rw[vj,HV]
   rw[rO]
   exact mQ (bK.mp hw)
  ·rw[bE,e1]
   by_cases c:a.1=u
   ·rw[az c,az (aD c)];rfl
   ·rw[ay c,ay (by simp[c])];rfl
 ·rw[bE,e2]
  by_cases c:a.2.1=u
  ·rw[az c,az (aD c)];rfl
  ·rw[ay c,ay (by simp[c])];rfl
section
variable{sp:Int->Int}{pl:Int}{ps ts:List (Int×Int)}
end
end Fl
namespace L2
open PySem PySem.Spec PyProof.Rows
def Ic(h B:Heap)(x:Addr)(cl:Value)(dd:Option Addr)(fl:Value):Prop:=
 ∃ox ws T oT ts,h.get? x=some ox/\ox.cls=cl/\ox.dict=dd/\ox.data= .fields ws/\ws[1]? =some (.ref T)/\B.get? T=none/\T≠x/\h.get? T=some oT/\oT.data= .fields ts/\ts[3]? =some fl/\(dd≠none->ws[2]? =some .none)
structure FlyD(B:Heap)(l:List Env)(x:Addr)(cl:Value)(dd:Option Addr)(fl:Value)(h:Heap):Prop where
 stays:B.StaysIn h
 new:B.get? x=none
 funs:h.FunFrames B l
 tr:Ic h B x cl dd fl
theorem FlyD.there{B:Heap}{l:List Env}{x:Addr}{cl:Value}{dd:Option Addr}{fl:Value}{h:Heap}(f:FlyD B l x cl dd fl h):∃ox ws,h.get? x=some ox/\ox.cls=cl/\ox.dict=dd/\ox.data= .fields ws:=by
 obtain⟨ox,ws,_,_,_,h1,h2,h3,h4,_⟩:=f.tr
 exact⟨ox,ws,h1,h2,h3,h4⟩
section
variable{M:Model}{A:Around}{E:Value->Shared->Prop}{s:Shared}{B:Heap}{env:Env}{l:List Env}{L x:Addr}{cl:Value}{dd:Option Addr}{Q:Unit->Shared->Prop}
end
structure Df(X:Cx):Prop where
 stk:X.stack=X.env::X.outer
 fr:X.env.frame=some X.env.locals
 ex:X.ex=[]
 fn:∀x,X.fn x=true
structure Cov(X:Cx)(B:Heap)(H:Hp)(h:Heap):Prop where
 tr:∀b o,H b=some o->∃q,h.get? b=some q/\B.get? b=some q
 old:∀b o,X.s₀.heap.get? b=some o->b∉ko X.stack->∃q,h.get? b=some q/\B.get? b=some q
 pin:∀p∈X.pn,B.get? p.1=some p.2
 cel:∀x c,X.env.cells.lookup x=some c->∃q,h.get? c=some q/\B.get? c=some q
section
variable{X:Cx}{σ:St}{H:Hp}{s:Shared}{B h':Heap}
end
inductive Md(B:Heap)(l:List Env)(L x:Addr)(cl:Value)(dd:Option Addr)(h:Heap):Prop where
 |new {ox:Obj} {ws:Array Value}:h.get? x=some ox->ox.cls=cl->ox.dict=dd->ox.data= .fields ws->ws[1]? =some .none->(dd≠none->ws[2]? =some .none)->B.StaysIn h->B.get? x=none->h.FunFrames B l->Md B l L x cl dd h
 |fly:FlyD B l x cl dd .none h->Md B l L x cl dd h
 |held:FlyD B l x cl dd (rawInt L) h->Md B l L x cl dd h
theorem Md.stays{B:Heap}{l:List Env}{L x:Addr}{cl:Value}{dd:Option Addr}{h:Heap}(m:Md B l L x cl dd h):B.StaysIn h:=by
 cases m with
 |new _ _ _ _ _ _ s _ _=>exact s
 |fly f=>exact f.stays
 |held f=>exact f.stays
def XT(X:Cx)(EX:St->XK):Value->Shared->Prop:=fun e s'=>∃(x:Addr) (cl:Value) (dd:Option Addr) (σ:St) (H:Hp) (B:Heap),e= .ref x/\Inv X [] σ H s'/\H x=none/\X.s₀.heap.objs.size<=x/\Cov X B H s'.heap/\EX σ cl dd H/\Md B X.stack X.env.locals x cl dd s'.heap
def Cx.tr(X:Cx)(pins:List (Addr×Obj))(EX:St->XK):Cx:={X with pn:=X.pn++pins,xe:=XT {X with pn:=X.pn++pins} EX}
theorem Cx.Ok.pn{X:Cx}(ok:X.Ok)(pn:List (Addr×Obj))(E:Value->Shared->Prop):({X with pn:=pn,xe:=E}:Cx).Ok:=
 ⟨ok.mod,ok.kind,ok.glob,ok.blt,ok.above,ok.inj,ok.has,ok.cab,ok.hd,ok.frames,ok.stk,ok.exf,ok.bs,ok.bsz,ok.noex,ok.exfs,ok.funs,ok.frf⟩
theorem Inv.tr{X:Cx}{pins:List (Addr×Obj)}{σ:St}{H:Hp}{s:Shared}(I:Inv X pins σ H s)(EX:St->XK):Inv (X.tr pins EX) [] σ H s:=
 ⟨I.ok.pn _ _,I.os,I.bare,I.base,I.loc,I.cell,I.free,I.freeC,fun p hp=>I.pin p (by
  have:p∈(X.pn++pins)++[]:=hp
  simpa using this),I.hok,I.len⟩
theorem Df.tr{X:Cx}(d:Df X)(pins:List (Addr×Obj))(EX:St->XK):Df (X.tr pins EX):=⟨d.stk,d.fr,d.ex,d.fn⟩
section
variable{X:Cx}{CX:kD}{k:Nat}{f:Addr}{fd:FuncData}{ps:List Str}{sp:Sp}{EX:St->XK}{x:Str}{p pos:Pos}{e:Expr}{es:List Expr}{t:TA}{ds:List Value}{dvs:List V}
end
section
variable{P:Program}{w:World}{K:PySem.W.Frag}{mg:Str->Option Value}{base:Heap}
end
section
variable{prog:Program}{w:World}{A:Around}{E:Value->Shared->Prop}{h:Heap}{g:Array GenState}{d:Drawn}{t:Nat}{os:OsState}
variable{nm q:Str}{C N:Addr}{bs bm bmB:List Value}{hdct:Bool}{sn:List Str}{sub:List Value}{ab:Bool}{col:Option Bool}{dd:Option Addr}{k0 k1 k2 k3 k5:Option Value}{B newId initId:String}
end
end L2
namespace L2
open PySem PySem.Spec PyProof.Rows Builtin Builtin.ObjectAttr
section
variable{prog:Program}{w:World}{A:Around}{E:Value->Shared->Prop}{h:Heap}{g:Array GenState}{d:Drawn}{t:Nat}{os:OsState}{C:Addr}{bmB:List Value}{B newId initId:String}
end
def jt8:Value->Bool
 | .ref _=>true
 |_=>false
theorem jt8.ex{v:Value}(h:jt8 v=true):∃a,v= .ref a:=by
 cases v<;>first|exact⟨_,rfl⟩|cases h
section
variable{prog:Program}{w:World}{A:Around}{E:Value->Shared->Prop}{s:Shared}{K:PySem.W.Frag}{x C t0:Addr}{dz:Option Addr}{name:Str}{v:Value}{Q:Unit->Shared->Prop}
end
section
variable{P:Program}{w:World}{H:Hp}{h:Heap}{a C:Addr}{dd:Option Addr}{fs:List (Str×V)}
end
section
variable{X:Cx}{pins:List (Addr×Obj)}{σ:St}{H:Hp}{s:Shared}{h':Heap}{x dx:Addr}{φ:Heap->Prop}{o1 o2:HO}{t':Nat}
end
section
variable{X:Cx}{o value e:Expr}{es:List Expr}{f x:Str}{p pos pos' apos:Pos}{ta tv:TE}{t:TA}{C T:Addr}{bmB:List Value}{B newId initId:String}{fI:Addr}
end
def og(H:Hp)(x:Addr):Hp:=fun b=>if b=x then none else H b
theorem D4{H:Hp}{x:Addr}:og H x x=none:=az rfl
theorem xh{H:Hp}{x b:Addr}(n:b≠x):og H x b=H b:=ay n
theorem qZ{H:Hp}{x b:Addr}(h:H b=none):og H x b=none:=by
 unfold og
 split
 ·rfl
 ·exact h
theorem Inv.drop{X:Cx}{pins:List (Addr×Obj)}{σ:St}{H:Hp}{s:Shared}{x:Addr}{φ:Heap->Prop}(I:Inv X pins σ H s)(hx:H x=some (.ext φ)):Inv X pins σ (og H x) s:=by
 have kp:∀b u,H b=some u->(∀ψ,u≠ .ext ψ)->og H x b=some u:=fun b u e n=>by
  rw[xh fun z=>by rw[z,hx]at e;exact n φ (aL e).symm];exact e
 refine⟨I.ok,I.os,I.bare,⟨I.base.keep,I.base.slot,fun b o e n hb=>qZ (I.base.free b o e n hb),I.base.there,fun b xs e=>kp b _ (I.base.tups b xs e) (fun ψ z=>by cases z),fun b o u e=>kp b _ (I.base.frzs b o u e) (fun ψ z=>by cases z),fun b ps e=>?_⟩,I.loc,I.cell,qZ I.free,fun y c e=>qZ (I.freeC y c e),
  fun p hp=>let⟨a,b,c⟩:=I.pin p hp;⟨a,qZ b,c⟩,fun b u e=>?_,I.len⟩
 ·obtain⟨m,e'⟩:=I.base.tbls b ps e
  exact⟨m,kp b _ e' (fun ψ z=>by cases z)⟩
 ·have nb:b≠x:=fun z=>by rw[z,D4]at e;cases e
  rw[xh nb]at e
  exact(I.hok b u e).stay (fun _ _ _ q=>q) (fun c z=>kp c _ z (fun ψ y=>by cases y)) fun c xs z=>kp c _ z (fun ψ y=>by cases y)
section
variable{X:Cx}{EX:St->XK}{k:Nat}{fI C:Addr}{fd:FuncData}{ps:List Str}{sp:Sp}{x:Str}{p cpos pos:Pos}{e:Expr}{es:List Expr}{t:TA}{bmB:List Value}{B newId initId:String}
end
section
variable{X:Cx}{pins:List (Addr×Obj)}{σ:St}{H:Hp}{s:Shared}{x:Addr}{o:HO}
end
section
variable{X:Cx}{x n:Str}{np hpos pos:Pos}{body suite:List Stmt}{b0:Stmt}{C:Addr}{mt:Value->Prop}{i:Nat}{tb:(St->XK)->TS}{th:TS}
end
section
variable{X:Cx}{C dx a:Addr}{fs:List (Str×V)}{H:Hp}{s:Shared}
end
end L2
namespace L2
open PySem PySem.Spec PyProof.Rows Builtin Builtin.ObjectAttr
structure XG(K:PySem.W.Frag)(C:Addr):Prop where
 ga:PySem.W.findIn K (.ref C) "__getattribute__"=some (some (.builtin "BaseException.__getattribute__"))
 gt:PySem.W.findIn K (.ref C) "__getattr__"=some none
 sub:PySem.W.mroIn K C (.type "BaseException")=some true
section
variable{prog:Program}{w:World}{A:Around}{E:Value->Shared->Prop}{s:Shared}{K:PySem.W.Frag}{x C:Addr}{ox:Obj}{od:Option Obj}{name:Str}{v:Value}
end
structure XY(K:PySem.W.Frag)(C:Addr):Prop where
 g:XG K C
 hd:PySem.W.hasDictIn K C=true
 ha:PySem.W.findIn K (.ref C) "__class__"=some (some (.builtin "object.__class__"))
 hn:PySem.W.specialIn K (.builtin "object.__class__") "__get__"=some (some (.builtin "getset_descriptor.__get__"))
 ht:PySem.W.takesIn K (.builtin "object.__class__")=some true
 hm:PySem.W.mroIn K C (.type "object")=some true
theorem XY.cls{K:PySem.W.Frag}{C:Addr}(y:XY K C):∃c d cd sl,K.lookup C=some ⟨c,d,.cls cd,sl⟩:=by
 obtain⟨cd,hc,_⟩:=PySem.W.any_some y.hd
 unfold PySem.W.clsIn at hc
 split at hc
 ·rename_i ho
  exact⟨_,_,_,_,ho⟩
 ·cases hc
section
variable{X:Cx}{C dx a:Addr}{fs:List (Str×V)}{H:Hp}{s:Shared}
end
section
variable{X:Cx}
end
structure RoomH(k:Nat)(A:Around):Prop where
 dp:A.depth+3*k+5<recursionLimit
 un:A.units+16*k+200<cLine
theorem Room.h{j k:Nat}{A:Around}(r:Room k A)(h:j<=k):RoomH j A:=⟨(r.mono h).dp,(r.mono h).un⟩
theorem Room.hm{j k:Nat}{A:Around}{o:Option Value}(r:Room k A)(h:j<=k):RoomH j (A.mark o):=⟨(r.mono h).dp,(r.mono h).un⟩
theorem RoomH.mono{j k:Nat}{A:Around}(r:RoomH k A)(h:j<=k):RoomH j A:=⟨by have:=r.dp;lia,by have:=r.un;lia⟩
section
variable{P:Program}{w:World}{K:PySem.W.Frag}{mg:Str->Option Value}{base:Heap}
end
section
variable{X:Cx}{k:Nat}{f:Addr}{fd:FuncData}{ps:List Str}{sp:Sp}{x:Str}{p pos:Pos}{e:Expr}{es:List Expr}{t:TA}
end
section
variable{X:Cx}{C:Addr}
end
section
variable{X:Cx}{x n:Str}{np hpos pos:Pos}{body suite:List Stmt}{b0:Stmt}{C:Addr}{mt:Value->Prop}{tb:(St->XK)->TS}{th:TS}
end
section
variable{prog:Program}{w:World}{A:Around}{E:Value->Shared->Prop}{s:Shared}{C a:Addr}{bmB:List Value}{newId:String}
end
section
variable{prog:Program}{w:World}{A:Around}{E:Value->Shared->Prop}{h:Heap}{g:Array GenState}{d:Drawn}{t:Nat}{os:OsState}
variable{C:Addr}{bmB:List Value}{B newId initId:String}
end
section
variable{X:Cx}{x y:Str}{np hpos pos p cpos rpos cp:Pos}{kk:Nat}{body:List Stmt}{C D':Addr}{mt:Value->Prop}{tb:(St->XK)->TS}{EX:St->XK}{e:Expr}{es:List Expr}{t:TA}{bmB:List Value}{B newId initId:String}
end
open PySem.Builtin.ObjectAttr
section
variable{X:Cx}{C a:Addr}{H:Hp}{s:Shared}
end
section
variable{X:Cx}
end
theorem iG{a b:TS}{D:Ends}{σ:St}{H:Hp}(h:∀R,R=b->pX a R D σ H):pX a b D σ H:=h b rfl
theorem tFor_hideI{ι:Type}{wi:TI}{g:TG}{tb:TS}{D:Ends}{σ:St}{H:Hp}(J:ι->It)(H1:ι->Hp)(ok:ι->Prop)(h1:∀R:It->Hp->Prop,(∀i,ok i->R (J i) (H1 i))->wi σ H R)
  (h2:∀i0,ok i0->∃W:Nat->Nat->St->Hp->Prop,(∃m,W 0 m σ (H1 i0))/\∀i m σ H,W i m σ H->((J i0).stop i H/\D.nx σ H)\/((J i0).go i H/\∃N:St->Hp->Prop,(∀σ' H',N σ' H'->∃m',m'<m/\W (i+1) m' σ' H')/\∀x H',(J i0).yld i H x H'->g x σ H' fun σ2 H2=>tb {D with nx:=N,ct:=N,bk:=D.nx} σ2 H2)):
  pY wi g tb D σ H:=h1 _ h2
section
variable{X:Cx}
end
end L2
namespace So
open PySem PyProof.Rows
section
variable{prog:Program}{w:World}{A:Around}{E:Value->Shared->Prop}{s:Shared}
section
variable{prog:Program}{w:World}{A:Around}{E:Value->Shared->Prop}{s:Shared}{R:Keyed->Int}{κ:SortKind}{a₀:Array Keyed}{pd:Array (Nat×Nat×Nat)}
theorem Gr{n:Nat}(h:n<64):minRun' n n 0=n:=by
 show(sortPriv%PySem.Builtin.minRun) n n 0=n
 cases n with
 |zero=>rfl
 |succ k=>exact az h
theorem DU(C:Cm prog w A s R κ a₀){st:SortSt}(b:Bs κ a₀ #[] st)(h1:1<=a₀.size)(h63:a₀.size<64){Q:Unit->SortSt->Prop}
  (h:∀st',(arrOf st').Perm a₀->failedOf st'=none->Up R (arrOf st') 0 a₀.size->Q () st'):wpS (model prog w) A E s sortRuns' Q st:=by
 have pn:∀{st:SortSt} {pd:Array (Nat×Nat×Nat)},Bs κ a₀ pd st->(sortPriv%PySem.Builtin.SortState.pending) st=pd:=fun b=>b.pend
 have sz:(sortPriv%PySem.Builtin.SortState.a) st=arrOf st:=rfl
 have mr:=Gr h63
 unfold sortRuns'
 refine bM (wpS_get ?_)
 rw[sz,b.size]
 refine bM (wpS_mono (eL (I:=fun x (c:Option Unit×Nat) st'=>∃lo pd,c=(none,lo)/\Bs κ a₀ pd st'/\((x=0/\lo=0/\pd= #[])\/(lo=a₀.size/\pd.size<=1/\Up R (arrOf st') 0 a₀.size)))
  (Q:=fun(c:Option Unit×Nat) st'=>∃pd,c=(none,a₀.size)/\Bs κ a₀ pd st'/\pd.size<=1/\Up R (arrOf st') 0 a₀.size) ?step ?fin ⟨0,#[],rfl,b,.inl ⟨rfl,rfl,rfl⟩⟩) ?post)
 case fin=>
  rintro c st' ⟨lo,pd,rfl,b',q⟩
  rcases q with⟨q,_⟩|⟨rfl,q1,q2⟩
  ·lia
  ·exact⟨pd,rfl,b',q1,q2⟩
 case post=>
  rintro c st' ⟨pd,rfl,b',p1,u⟩
  refine bM (wpS_mono (eL (I:=fun x (c:Option Unit×Unit) st'=>∃pd,c=(none,())/\Bs κ a₀ pd st'/\pd.size<=1/\Up R (arrOf st') 0 a₀.size)
   (Q:=fun(c:Option Unit×Unit) st'=>∃pd,c=(none,())/\Bs κ a₀ pd st'/\pd.size<=1/\Up R (arrOf st') 0 a₀.size) ?s2 (fun _ _ z=>z) ⟨pd,rfl,b',p1,u⟩) ?p2)
  case p2=>
   rintro c st2 ⟨pd,rfl,b2,q,u2⟩
   exact cJ (h st2 b2.perm b2.ok u2)
  case s2=>
   rintro x c st2 _ hx ⟨pd,rfl,b2,q,u2⟩
   refine bM (wpS_get ?_)
   rw[pn b2]
   exact oO (fun c=>cJ ⟨pd,rfl,b2,q,u2⟩) fun c=>absurd q c
 case step=>
  rintro x c st' _ hx ⟨lo,pd,rfl,b',q⟩
  rcases q with⟨rfl,rfl,rfl⟩|⟨rfl,q1,q2⟩
  ·refine oO (fun c=>absurd (show 0 ≥ a₀.size from c) (by lia)) fun c=>?_
   refine bM (DT (lo:=0) (nrem:=a₀.size-0) C (by lia) (by lia) b' fun m st2 b2 f2 m1 m2 u2=>?_)
   have push:∀(n:Nat) (st4:SortSt),Bs κ a₀ #[] st4->Up R (arrOf st4) 0 (0+n)->n=a₀.size->
     ∃lo' pd',((none,0+n):Option Unit×Nat)=(none,lo')/\Bs κ a₀ pd' (SortSt.mk' (kindOf st4) (arrOf st4) ((pendingOf st4).push (0,n,0)) (gallopOf st4) (failedOf st4))/\((0+1=0/\lo'=0/\pd'= #[])\/(lo'=a₀.size/\pd'.size<=1/\Up R (arrOf st4) 0 a₀.size)):=by
    intro n st4 b4 u4 hn
    subst hn
    refine⟨_,#[].push (0,a₀.size,0),rfl,⟨b4.perm,b4.kind,b4.ok,?_⟩,.inr ⟨by lia,by simp,?_⟩⟩
    ·show(pendingOf st4).push (0,a₀.size,0)=_
     rw[b4.pend]
    ·rwa[fE]at u4
   refine oO (fun cm=>?_) fun cm=>?_
   case' refine_1=>
    refine bM (wpS_lift (eA ⟨rfl,?_⟩))
    refine bM (Bx (lo:=0) (n:=min (a₀.size-0) (minRun' a₀.size a₀.size 0)) (ok:=m) C (by lia) (by rw[mr];lia) b2 u2 fun st3 b3 f3 u3=>?_)
    refine oO (fun c=>by cases c) fun _=>?_
    have hn:min (a₀.size-0) (minRun' a₀.size a₀.size 0)=a₀.size:=by rw[mr];lia
   case' refine_2=>
    have b3:=b2
    have u3:=u2
    have hn:m=a₀.size:=by
     have cm':¬m<minRun' a₀.size a₀.size 0:=cm
     rw[mr]at cm'
     lia
   all_goals
    refine bM (wpS_get ?_)
    rw[pn b3]
    exact bM (wpS_modify (cJ (push _ _ b3 u3 hn)))
  ·refine oO (fun c=>cJ ⟨pd,rfl,b',q1,q2⟩) fun c=>absurd (au _) c
end
section
variable{prog:Program}{w:World}{A:Around}{E:Value->Shared->Prop}{s:Shared}
theorem ED{a:Addr}{vs:List Value}{n:Nat}{P:PySem.Fin->Shared->Prop}{R:Keyed->Int}{κ:SortKind}{h₁:Heap}(ho:s.heap.get? a=some (seqObj "list" vs.toArray n))(h63:vs.length<64)(hz:vs.length<=sizeLine)
  (hold:∀b o,h₁.get? b=some o->b≠a/\s.heap.get? b=some o) (hk:2<=vs.length->vP prog w {s with heap:=h₁} vs R κ)
  (h:∀out:Array Value,out.toList.Perm vs->out.toList.Pairwise (fun a b=>R (a,a)<=R (b,b))->P (.done (.ret .none)) {s with heap:=sortedHeap s.heap a vs out}):
  wpAny (model prog w) A (Builtin.«list.sort» ⟨[.ref a],[]⟩) P E s:=by
 rw[list_sort_plain]
 have ha:a<s.heap.objs.size:=aI ho
 have hz1:vs.toArray.size<=sizeLine:=by rw[aq];exact hz
 refine aa (listItems_at ho rfl (aa (listUpdate_at ho rfl ?_ hz1 (bw _))))
 obtain⟨e1,ho1⟩:∃e1,(s.heap.update a (Obj.mapSeq fun _=>(#[]:Array Value))).get? a=some (seqObj "list" #[] e1):=⟨_,get?_update_seq ho fun _=>#[]⟩
 refine aa (seqEpoch_at ho1 rfl (aa (wpAny_newTuple (aa (eX (bX ?_) (bw _))) hz)))
 have keep:∀b o,b≠a->s.heap.get? b=some o->(((s.heap.update a (Obj.mapSeq fun _=>(#[]:Array Value))).push (seqObj "tuple" vs.toArray 0)).push (seqObj "list" #[] 0)).get? b=some o:=fun b o hne q=>
  af _ (af _ (by rw[Heap.get?_update_ne _ _ _ _ hne];exact q))
 have ho6:(((s.heap.update a (Obj.mapSeq fun _=>(#[]:Array Value))).push (seqObj "tuple" vs.toArray 0)).push (seqObj "list" #[] 0)).get? a=some (seqObj "list" #[] e1):=af _ (af _ ho1)
 show wpAny (model prog w) A _ P E {s with heap:=((s.heap.update a (Obj.mapSeq fun _=>(#[]:Array Value))).push (seqObj "tuple" vs.toArray 0)).push (seqObj "list" #[] 0)}
 dsimp only
 have fin:∀st':SortSt,(arrOf st').Perm (pairsOf vs)->Up R (arrOf st') 0 (arrOf st').size->P (.done (.ret .none)) {s with heap:=sortedHeap s.heap a vs ((arrOf st').map (·.2))}:=fun st' p u=>by
  obtain⟨z1,z2⟩:=Cr p u
  exact h _ z1 z2
 by_cases c2:vs.toArray.size<2
 ·rw[az c2,az c2]
  refine aa (av ?_)
  rw[StateT.run_pure]
  refine aa (av (aa (seqEpoch_at ho6 rfl (aa (listUpdate_at ho6 rfl ?_ (bw _) (by rw[fS];show(pairsOf vs).size<=_;rw[fA];exact Nat.le_succ_of_le hz))))))
  simp only[gu,aG,if_false]
  refine av (fin (SortSt.mk' general' (vs.toArray.zip vs.toArray) #[] 7 none) (Array.Perm.refl _) (Up.one ?_))
  show(pairsOf vs).size<=1
  rw[fA]
  rw[aq]at c2
  lia
 ·rw[ay c2,ay c2]
  rw[aq]at c2
  obtain⟨k1,k2⟩:=hk (by lia) A _ fun b o q=>keep b o (hold b o q).1 (hold b o q).2
  refine aa (k1 _ _ ?_)
  have k3:=DU (E:=E) (st:=SortSt.mk' κ (pairsOf vs) #[] 7 none) (Q:=fun _ st'=>(arrOf st').Perm (pairsOf vs)/\failedOf st'=none/\Up R (arrOf st') 0 (pairsOf vs).size) k2 ⟨Array.Perm.refl _,rfl,rfl,rfl⟩ (by rw[fA];lia) (by rw[fA];exact h63) fun st' a1 a2 a3=>⟨a1,a2,a3⟩
  refine aa (cT k3 ?_ fun _ _ e=>e)
  rintro⟨⟨⟩,st'⟩ s' ⟨rfl,hp,hf,hs⟩
  dsimp only
  refine aa (seqEpoch_at ho6 rfl (aa (listUpdate_at ho6 rfl ?_ (bw _) (by refine bo (Nat.le_of_eq ((fS ..).trans (hp.size_eq.trans (fA _)))) (Nat.le_succ_of_le hz)))))
  rw[hf]
  simp only[gu,aG,if_false]
  rw [<- hp.size_eq] at hs
  exact av (fin st' hp hs)
theorem FZ{l:Addr}{vs:List Value}{Q:Value->Shared->Prop}{R:Keyed->Int}{κ:SortKind}(hl:s.heap.IsList l vs.toArray)(h63:vs.length<64)(hz:vs.length<=sizeLine)(hk:2<=vs.length->vP prog w s vs R κ)
  (h:∀out:Array Value,out.toList.Perm vs->out.toList.Pairwise (fun a b=>R (a,a)<=R (b,b))->Q (.ref (s.heap.objs.size+1)) {s with heap:=sortedAll s.heap vs out}):
  wpAny (model prog w) A (call (.builtin "sorted") [.ref l]) Q E s:=by
 refine Calls.call_function_entry kind_sorted plain_sorted entry_sorted (args_sorted1 _) ?_
 unfold Builtin.«sorted»
 refine aa (m:=checkCount "sorted" 1 1 _) (av (aa (collect_list hl (aa (eX ?_ hz)) hz)))
 have hsz:((s.heap.push (seqObj "list" #[] 0)).update s.heap.objs.size (Obj.mapSeq (·++vs.toArray))).objs.size=s.heap.objs.size+1:=by rw[Heap.size_update,fw]
 generalize hh:((s.heap.push (seqObj "list" #[] 0)).update s.heap.objs.size (Obj.mapSeq (·++vs.toArray))).push (seqObj "list" vs.toArray 0)=h2
 have hoL:h2.get? (s.heap.objs.size + 1) = some (seqObj "list" vs.toArray 0):=by rw [<- hh,<- hsz]; exact aJ _ rfl
 have keep:∀b o,s.heap.get? b=some o->b≠s.heap.objs.size+1/\h2.get? b=some o:=fun b o q=>by
  have hlt:b<s.heap.objs.size:=aI q
  refine⟨aX (cX hlt),?_⟩
  rw [<- hh]
  exact af _ (by rw[Heap.get?_update_ne _ _ _ _ (aX hlt)];exact af _ q)
 show wpAny _ _ _ _ _ {s with heap:=h2}
 rw[hsz]
 refine aa (bX (cZ slot_list_sort ⟨_,hoL,rfl⟩ entry_list_sort (ED (s:={s with heap:=h2}) (h₁:=s.heap) hoL h63 hz keep hk fun out p1 p2=>⟨_,rfl,?_⟩) (args_list_sort _)))
 refine av ⟨_,rfl,?_⟩
 have z:=h out p1 p2
 unfold sortedAll at z
 rw[hh]at z
 exact z
end
end
end So
namespace L2
open PySem PySem.Spec PyProof.Rows
end L2
namespace So
open PySem PySem.Spec PyProof.Rows
section
variable{prog:Program}{w:World}{s:Shared}
def xa(h:Heap)(v:Value)(x y z:Int):Prop:=∃a o t u t3 n,v= .ref a/\h.get? a=some o/\o.cls= .type "tuple"/\o.data= .seq #[.int x t,.int y u,.int z t3] n
theorem Ar{h:Heap}:∀{vs:List Value},(∀v∈vs,∃x y z,xa h v x y z)->∃fs,PySem.W.KatTups h vs fs/\fs.length=vs.length/\∀f∈fs,∃i t,f= .int i t
 |[],_=>⟨[],trivial,rfl,fun _ q=>by cases q⟩
 |v::vs,hv=>by
  obtain⟨fs,h1,h2,h3⟩:=Ar (vs:=vs) fun v m=>hv v (.tail _ m)
  obtain⟨x,y,z,a,o,t,u,t3,n,rfl,e1,e2,e3⟩:=hv v (.head _)
  refine⟨.int x t::fs,.cons e1 e2 e3 rfl h1,by rw[List.length_cons,List.length_cons,h2],fun f m=>?_⟩
  rcases aU.mp m with rfl|m
  ·exact⟨x,t,rfl⟩
  ·exact h3 f m
theorem zj{B x y z x' y' z':Int}(h1:0<=y)(h2:y<B)(h3:0<=y')(h4:y'<B)(h5:0<=z)(h6:z<B)(h7:0<=z')(h8:z'<B):(x*B+y)*B+z<(x'*B+y')*B+z'↔x<x'\/(x=x'/\(y<y'\/(y=y'/\z<z'))):=by
 rw[um h5 h6 h7 h8,um h1 h2 h3 h4]
 constructor
 ·rintro((c|c)|⟨c,d⟩)
  ·exact .inl c
  ·exact .inr ⟨c.1,.inl c.2⟩
  ·rcases Int.lt_trichotomy x x' with e|e|e
   ·exact .inl e
   ·subst e
    exact .inr ⟨rfl,.inr ⟨by lia,d⟩⟩
   ·exfalso
    have q:=(um (x:=x') (x':=x) h3 h4 h1 h2).mpr (.inl e)
    lia
 ·rintro(c|⟨rfl,c|⟨rfl,c⟩⟩)
  ·exact .inl (.inl c)
  ·exact .inl (.inr ⟨rfl,c⟩)
  ·exact .inr ⟨rfl,c⟩
theorem FF{vs:List Value}{R:Keyed->Int}{B:Int}(hv:∀v∈vs,∃x y z,xa s.heap v x y z/\R (v,v)=(x*B+y)*B+z/\(0<=y/\y<B)/\0<=z/\z<B)(h2:2<=vs.length):vP prog w s vs R (tuples' true):=by
 intro A h' keep
 refine⟨fun Q E q=>?_,fun x y hx hy Q E q=>?_⟩
 ·obtain⟨fs,k1,k2,k3⟩:=Ar (h:=h') (vs:=vs) fun v m=>by
   obtain⟨x,y,z,⟨a,o,t,u,t3,n,e0,e1,e2⟩,_⟩:=hv v m
   exact⟨x,y,z,a,o,t,u,t3,n,e0,keep _ _ e1,e2⟩
  refine PySem.W.kat_kind (T:=.type "int") k1 (by lia) (fun f m=>?_) rfl q
  obtain⟨i,t,rfl⟩:=k3 f m
  exact PySem.W.Looks.of_pure rfl
 ·rw [pairsOf_toList,zN]at hx hy
  obtain⟨v,mv,rfl⟩:=aE.mp hx
  obtain⟨u,mu,rfl⟩:=aE.mp hy
  obtain⟨x1,y1,z1,⟨a,o,t1,t2,t5,n,rfl,e1,e2,e3⟩,r1,⟨r2,r3⟩,r7,r8⟩:=hv v mv
  obtain⟨x2,y2,z2,⟨b,p,t3,t4,t6,m,rfl,e4,e5,e6⟩,r4,⟨r5,r6⟩,r9,r10⟩:=hv u mu
  rw[r1,r4]at q
  have lx:=zj (x:=x1) (x':=x2) r2 r3 r5 r6 r7 r8 r9 r10
  refine PySem.W.kat_lt (b:=true) (s:={s with heap:=h'}) (keep _ _ e1) e3 (keep _ _ e4) e6 ?_
  refine gI (fg ?_)
  by_cases c:x1=x2
  ·rw[show(x1==x2)=true by rw[c];exact fh _]
   refine gZ (gI (fg ?_))
   by_cases c2:y1=y2
   ·rw[show(y1==y2)=true by rw[c2];exact fh _]
    refine gZ (gI (fg ?_))
    by_cases c3:z1=z2
    ·rw[show(z1==z2)=true by rw[c3];exact fh _]
     refine gZ (PySem.W.kat_nil ?_)
     rw[show decide ((x1*B+y1)*B+z1<(x2*B+y2)*B+z2)=false by rw[decide_eq_false_iff_not,lx];lia]at q
     exact q
    ·rw[show(z1==z2)=false by rw[bO];exact c3]
     refine hX (PySem.W.kat_one _ _ (lt_int ?_))
     rw[show decide ((x1*B+y1)*B+z1<(x2*B+y2)*B+z2)=decide (z1<z2) by rw[gH,lx];lia]at q
     exact q
   ·rw[show(y1==y2)=false by rw[bO];exact c2]
    refine hX (PySem.W.kat_one _ _ (lt_int ?_))
    rw[show decide ((x1*B+y1)*B+z1<(x2*B+y2)*B+z2)=decide (y1<y2) by rw[gH,lx];lia]at q
    exact q
  ·rw[show(x1==x2)=false by rw[bO];exact c]
   refine hX (oneLt_int ?_)
   rw[show decide ((x1*B+y1)*B+z1<(x2*B+y2)*B+z2)=decide (x1<x2) by rw[gH,lx];lia]at q
   exact q
end
end So
namespace L2
open PySem PySem.Spec PyProof.Rows
def Tp(H:Hp)(v:V)(p:Int×Int×Int):Prop:=∃a,v= .ref a/\H a=some (.tup [.int p.1,.int p.2.1,.int p.2.2])
abbrev j9(H:Hp)(xs:List V)(ps:List (Int×Int×Int)):Prop:=Paired (Tp H) xs ps
def nc(a b:Int×Int×Int):Prop:=a.1<b.1\/(a.1=b.1/\(a.2.1<b.2.1\/(a.2.1=b.2.1/\a.2.2<=b.2.2)))
def jG(H:Hp):Value->Int×Int×Int
 | .ref a=>match H a with
  |some (.tup [.int x,.int y,.int z])=>(x,y,z)
  |_=>(0,0,0)
 |_=>(0,0,0)
def BY:List V->Hp->VK->Prop:=fun vs H Q=>∃(p:Addr) (xs:List V) (ps:List (Int×Int×Int)) (B:Int),vs=[.ref p]/\H p=some (.lst xs)/\j9 H xs ps/\xs.length<64/\(∀q∈ps,(0<=q.2.1/\q.2.1<B)/\0<=q.2.2/\q.2.2<B)/\
 ∀(l:Addr) (ys:List V) (qs:List (Int×Int×Int)),H l=none->j9 H ys qs->qs.Perm ps->qs.Pairwise nc->Q (.ref l) (upd H l (.lst ys))
theorem yX{H:Hp}:∀{xs:List V} {its:List Value} {ps:List (Int×Int×Int)},Vals xs its->j9 H xs ps->its.map (jG H)=ps/\∀v∈its,RelV (mN v) v/\Tp H (mN v) (jG H v)
 |_,_,_,.nil,.nil=>⟨rfl,fun _ m=>by cases m⟩
 | _,_,_,.cons r t,.cons q u=>by
  obtain⟨e1,e2⟩:=yX t u
  obtain⟨a,rfl,ea⟩:=q
  cases r
  rename_i b _
  have e:jG H (.ref a)=b:=by unfold jG;dsimp only;rw[ea]
  refine⟨?_,fun v m=>?_⟩
  ·rw[aw,e1,e]
  ·rcases aU.mp m with rfl|m
   ·rw[e];exact⟨rfl,a,rfl,ea⟩
   ·exact e2 v m
theorem yb{H:Hp}:∀{us:List Value},(∀v∈us,RelV (mN v) v/\Tp H (mN v) (jG H v))->Vals (us.map mN) us/\j9 H (us.map mN) (us.map (jG H))
 |[],_=>⟨.nil,.nil⟩
 |v::us,h=>by
  obtain⟨a,b⟩:=yb (us:=us) fun v m=>h v (.tail _ m)
  obtain⟨c,d⟩:=h v (.head _)
  exact⟨.cons c a,.cons d b⟩
theorem FH{X:Cx}:jc8 X (.builtin "sorted") BY:=by
 intro pins s σ H xs us Q I r h
 obtain⟨p,xs,ps,B,rfl,e,pp,hz,hB,q⟩:=h
 obtain⟨u,rfl,rx⟩:=lI r
 cases rx
 obtain⟨its,r',pl,_⟩:=I.list (SqL.of e)
 have hlen:=r'.length
 obtain⟨m1,m2⟩:=yX r' pp
 have hz2:(64:Nat)<=sizeLine:=by decide
 have hpv:∀ v ∈ its,jG H v ∈ ps:=fun v m=>by rw [<- m1]; exact aW m
 refine So.FZ (R:=fun k=>((jG H k.1).1*B+(jG H k.1).2.1)*B+(jG H k.1).2.2) pl.isList (by lia) (by lia) (fun h2=>So.FF (B:=B) (fun v m=>?_) h2) fun out o1 o2=>?_
 ·obtain⟨a,ea,eh⟩:=(m2 v m).2
  have ev:v= .ref a:=by
   have z:=(m2 v m).1
   rw[ea]at z
   exact z
  obtain⟨_,is2,rv,ob,eo,ec,n,en⟩:=I.hok _ _ eh
  match is2,rv with
  |_,.cons ⟨t1,e1⟩ (.cons ⟨t2,e2⟩ (.cons ⟨t3,e3⟩ .nil))=>
   subst e1 e2 e3
   exact⟨(jG H v).1,(jG H v).2.1,(jG H v).2.2,⟨a,ob,t1,t2,t3,n,ev,eo,ec,en⟩,rfl,(hB _ (hpv v m)).1,(hB _ (hpv v m)).2⟩
 ·obtain⟨c,hc⟩:=sortedAll_at s.heap its out
  obtain⟨b1,b2⟩:=yb (H:=H) (us:=out.toList) fun v m=>m2 v (o1.mem_iff.mp m)
  have hol:=o1.length_eq
  refine⟨.ref (s.heap.objs.size+1),_,I.laid (t':=s.toks) (fun _ _=>sortedAll_old) (eF _) (show jbm X.prog X.w _ _ _ (.lst (out.toList.map mN))from⟨?_,out.toList,c,b1,?_⟩),rfl,q _ _ (out.toList.map (jG H)) (I.hok.fresh (eF _)) b2 ?_ ?_⟩
  ·rw[ae];lia
  ·rw[hc]
  ·have z:=o1.map (jG H)
   rwa[m1]at z
  ·rw[cw]
   refine fc ?_ o2
   intro u v mu mv huv
   have g1:=hB _ (hpv u (o1.mem_iff.mp mu))
   have g2:=hB _ (hpv v (o1.mem_iff.mp mv))
   have z:=So.zj (x:=(jG H v).1) (x':=(jG H u).1) g2.1.1 g2.1.2 g1.1.1 g1.1.2 g2.2.1 g2.2.2 g1.2.1 g1.2.2
   have z2:¬((jG H v).1<(jG H u).1\/((jG H v).1=(jG H u).1/\((jG H v).2.1<(jG H u).2.1\/((jG H v).2.1=(jG H u).2.1/\(jG H v).2.2<(jG H u).2.2)))):=fun w=>by
    have:=z.mpr w
    dsimp only at huv
    lia
   unfold nc
   lia
section
variable{X:Cx}
end
end L2
namespace L2
open PySem PySem.Spec PyProof.Rows
section
variable{prog:Program}{w:World}{A:Around}{E:Value->Shared->Prop}{s:Shared}
end
section
variable{prog:Program}{w:World}{A:Around}{E:Value->Shared->Prop}{R:Result->Shared->Prop}
abbrev TK(prog:Program)(w:World):HeapKind prog w (List iq):=tupleKind (jH prog w)
end
def vS(td:TE):TE:=fun σ H Q=>td σ H fun x H1=>∃a kvs,x= .ref a/\H1 a=some (.dK kvs)/\∀l,H1 l=none->Q (.ref l) (upd H1 l (.lst (kvs.map (·.2))))
theorem yq{κ:Type}:∀{kvs:List (κ×V)} {vs:List (κ×Value)},KV kvs vs->Vals (kvs.map (·.2)) (vs.map (·.2))
 |_,_,.nil=>.nil
 |_,_,.cons r t=>.cons r.2 (yq t)
theorem Gj{X:Cx}{x:Str}{o:Expr}{td:TE}{p apos vpos cpos:Pos}(hc:X.calm=true)(hg:Gl X x)(hm:X.mg x=none)(hv:bootBuiltins x=some (.type "list"))(ho:PE X o td)
  (hn:x≠"__name__":=by decide) (hdb:(x==("__debug__":Str))=false:=by decide)
  (hbase:attributeBase o "values" X.env (eval o X.env)=eval o X.env:=by rfl) (hline:(apos.endLine==vpos.line)=true:=by rfl)
  (he:starEach [.Call (.Attribute o "values" apos) [] [] vpos] X.env=(false,eval (.Call (.Attribute o "values" apos) [] [] vpos) X.env)::starEach [] X.env:=by rfl):
  PE X (.Call (.Name x p) [.Call (.Attribute o "values" apos) [] [] vpos] [] cpos) (vS td):=by
 intro pins s σ H Q I h
 refine cM (lu I hg hm hv ?_ hn hdb)
 refine bY ?_ he rfl
 rw[he]
 show wpAny _ _ (spliced ((false,eval (.Call (.Attribute o "values" apos) [] [] vpos) X.env)::backTo cpos (starEach [] X.env))) _ _ s
 refine dH ?_
 refine wpAny_Call_method0_late hbase hline (ix (ho pins s σ H _ I h) fun v s1 ⟨x,H1,I1,r1,a,kvs,ex,ea,q1⟩=>?_)
 subst ex
 cases r1
 obtain⟨z,hd,vs,rel,dd⟩:=mS I1.hok ea
 refine⟨"dict","dict.values",fi,PySem.F.slot_dict_values,PySem.F.type_dict_values,dd.typeIs,?_,c7 rfl (PySem.evalArgs_none ?_)⟩
 ·exact(tN I1 (.inl ⟨kvs,.inl ea⟩)).2.1
 refine gq PySem.F.slot_dict_values dd.typeIs PySem.F.entry_dict_values (PySem.F.args_dict_values_1 _) (meets_dict_values (jH X.prog X.w) a hd) ⟨⟨vs,dd⟩,?_⟩
 show wpAny _ _ (spliced []) _ _ _
 refine av ?_
 obtain⟨ep,dat⟩:=dd.dictAt
 have hlv:kvs.length=vs.length:=aO rel
 refine PySem.W.kdl_call (PySem.W.kdl_values (prog:=X.prog) (w:=X.w) (knd:=jH X.prog X.w) (r:=s1.heap.objs.size) (d:=a) (kvs:=vs) (ep:=ep)) (I.ok.hd hc) ⟨⟨_,aJ _ rfl,rfl,rfl⟩,dat.push _⟩ (by lia) fun h' tk acc' c' hk hD hacc=>?_
 have hav:acc'.toList=vs.map (·.2):=by
  refine dW fun j=>?_
  rw[aA,cL]
  cases e:acc'[j]? with
  |some v=>
   obtain⟨k,hk⟩:=hacc.2 j v e
   rw[hk];rfl
  |none=>
   have:acc'.size<=j:=by simpa using e
   rw [bF (by rw [<- hacc.1]; exact this)]
   rfl
 refine⟨.ref _,_,I1.laid (fun b o' qq=>hk b o' (af _ qq)) ?_ (show jbm X.prog X.w _ h' _ (.lst (kvs.map (·.2)))from⟨by rw[ae];exact z,vs.map (·.2),c',yq rel,?_⟩),rfl,q1 _ ?_⟩
 ·show _<=(s1.heap.push _).objs.size
  rw[fw]
  exact eF _
 ·rw [<- hav,Array.toArray_toList]
  exact hD
 ·refine I1.hok.fresh ?_
  show _<=(s1.heap.push _).objs.size
  rw[fw]
  exact eF _
section
variable{prog:Program}{w:World}{A:Around}{R:Result->Shared->Prop}{I:Addr}{fp wr:List Addr}{n:Nat}{P:Nat->Value->Prop}{St:Nat->Heap->Prop}
def jjx(val:Nat->Int)(n:Nat)(m:Int):Prop:=(∃i,i<n/\m=val i)/\∀i,i<n->m<=val i
theorem jjx.up{val:Nat->Int}{j:Nat}{m:Int}(h:jjx val j m)(hb:val j<m):jjx val (j+1) (val j):=
 ⟨⟨j,gM _,rfl⟩,fun i hi=>by
  rcases fb.mp hi with z|z
  ·have:=h.2 i z;lia
  ·rw[z];exact bH _⟩
theorem jjx.keep{val:Nat->Int}{j:Nat}{m:Int}(h:jjx val j m)(hb:¬val j<m):jjx val (j+1) m:=
 ⟨let⟨i,hi,e⟩:=h.1;⟨i,cX hi,e⟩,fun i hi=>by
  rcases fb.mp hi with z|z
  ·exact h.2 i z
  ·rw[z];lia⟩
theorem nW:(toString "min"++toString ".loop":String)="min.loop":=by decide
theorem AL(W:Walks prog w A.in1 I fp wr n P St)(val:Nat->Int)(hval:∀i v,P i v->∃t:Tok,v=Value.int (val i) t)(kw:List (Str×Value))(S:Addr)(hSf:S∉fp):
  ∀(k j:Nat) (s:Shared) (m:Int) (t:Tok) (c:Nat),n-j=k->j<=n->St j s.heap->jjx val j m->
  s.heap.get? S=some {cls:=.type "list",dict:=none,data:=.seq #[.int m t,.int m t] c,slots:=#[]}->
  (∀m' t' h' tk,jjx val n m'->(∀b o,b∉wr->b≠S->s.heap.get? b=some o->h'.get? b=some o)->R (.ok (.ret (.int m' t'))) {s with heap:=h',toks:=tk})->
  codeAny (model prog w) A (.builtin "min.loop" ⟨[.ref I,.none,.ref S],kw⟩) R s:=by
 have hSw:S∉wr:=fun z=>hSf (W.sub _ z)
 intro k
 induction k with
 |zero=>
  intro j s m t c hk hj hst hb hS hR
  have hin:j=n:=by lia
  subst hin
  refine cP dO ?_
  rw[cG bI _]
  show wpAny _ A.in1 (seqItems? (.ref S)>>=_) _ _ s
  refine aa (bP hS rfl ?_)
  show wpAny _ A.in1 (tryCatch (pyNext (.ref I)) _>>=_) _ _ s
  refine aa (df (W.done s _ _ hst fun h' tk kp=>?_))
  have hS':=kp S _ hSw hS
  show wpAny _ A.in1 (updateSeq S (fun _=>#[])>>=_) _ _ _
  refine aa ?_
  refine fH hS' rfl (aa (eD (av ?_)))
  exact hR m t _ tk hb fun b o hbw hbS e=>(bL _ _ (cR hbS)).trans (kp b o hbw e)
 | succ k ih=>
  intro j s m t c hk hj hst hb hS hR
  have hlt:j<n:=by lia
  refine cP dO ?_
  rw[cG bI _]
  show wpAny _ A.in1 (seqItems? (.ref S)>>=_) _ _ s
  refine aa (bP hS rfl ?_)
  show wpAny _ A.in1 (tryCatch (pyNext (.ref I)) _>>=_) _ _ s
  refine aa (df (W.item j s _ _ hlt hst fun v h' tk hP hst' kp=>?_))
  obtain⟨t',rfl⟩:=hval j v hP
  have hS':=kp S _ hSw hS
  show wpAny _ A.in1 (tryCatch (holding [.int (val j) t',.int (val j) t'] (richCompare .Lt (.int (val j) t') (.int m t)>>=_)) _>>=_) _ _ _
  refine aa (df (bX (aa (lt_int ?_))))
  refine aa (bX (cN ?_))
  refine aa (eD (av ?_))
  by_cases hc:val j<m
  ·rw[aD (show val j<m from hc)]
   simp only[if_true]
   refine aa ?_
   refine fH hS' rfl (aa (eD ?_))
   rw[nW]
   refine av ⟨cY bI _,ih (j+1) _ (val j) t' _ (by lia) hlt (W.frame _ _ _ hst' fun b hbf o e=>?_) (hb.up hc) (cy _ hS' rfl) fun m' u h'' tk'' hB k''=>?_⟩
   ·exact(bL _ _ (fun z:S=b=>hSf (by rw[z];exact hbf))).trans e
   ·exact hR m' u h'' tk'' hB fun b o hbw hbS e=>k'' b o hbw hbS ((bL _ _ (cR hbS)).trans (kp b o hbw e))
  ·rw[aK (show ¬val j<m from hc)]
   simp only[aG,if_false]
   refine aa (eD ?_)
   rw[nW]
   refine av ⟨cY bI _,ih (j+1) _ m t c (by lia) hlt hst' (hb.keep hc) hS' fun m' u h'' tk'' hB k''=>?_⟩
   exact hR m' u h'' tk'' hB fun b o hbw hbS e=>k'' b o hbw hbS (kp b o hbw e)
end
section
variable{X:Cx}
theorem G3(a d:Value):argsOk "min" ⟨[a],[(Str.ofString "default",d)]⟩:=by unfold argsOk;kernel_rfl
def B5:List V->List V->Hp->VK->Prop:=fun vs zs H Q=>∃(p:Addr) (ns:List Int) (d:Int),vs=[.ref p]/\zs=[.int d]/\H p=some (.lst (ns.map V.int))/\
 ∀m,(ns=[]->m=d)->(ns≠[]->m∈ns)->(∀x∈ns,m<=x)->Q (.int m) H
theorem EN(hc:X.calm=true):∀(pins:List (Addr×Obj)) (s:Shared) (σ:St) (H:Hp) (xs zs:List V) (us ws:List Value) (Q:VK),Inv X pins σ H s->Vals xs us->Vals zs ws->B5 xs zs H Q->
  wpAny (model X.prog X.w) X.A (call (.builtin "min") us ([Str.ofString "default"].zip ws)) (EP X pins σ Q) X.xe s:=by
 intro pins s σ H xs zs us ws Q I r rz h
 obtain⟨p,ns,d,rfl,rfl,e,q⟩:=h
 obtain⟨u,rfl,rx⟩:=lI r
 cases rx
 obtain⟨dv,rfl,td,rfl⟩:=lI rz
 obtain⟨z,its,c,r',hlen,e'⟩:=I.lstM e
 have hI:=pJ r'
 have plt:p<s.heap.objs.size:=aI e'
 have hL:s.heap.IsList p its.toArray:=⟨_,e',rfl,_,rfl⟩
 refine kmk_tree PySem.F.kind_min PySem.F.plain_min PySem.F.entry_min (G3 _ _) ?_
 show wpAny _ X.A.in1 (Builtin.Builtins.bindParams "min" ["key","default"] 0 ⟨[],[(Str.ofString "default",.int d td)]⟩>>=_) _ _ s
 refine aa (gR (show Builtin.Builtins.bindParams "min" ["key","default"] 0 ⟨[],[(Str.ofString "default",.int d td)]⟩=pure [none,some (.int d td)]from rfl) ?_)
 refine aa (av ?_)
 refine aa (dM hL ?_)
 refine aa (eX ?_ (bw _))
 rw[nW]
 have hS:(s.heap.push {cls:=.type "list_iterator",data:=.fields #[.ref p,.int 0 0]}).objs.size=s.heap.objs.size+1:=fw ..
 have W:=Walks.list (prog:=X.prog) (w:=X.w) (A:=X.A.in1) (show X.A.in1.handled=none from I.ok.hd hc) s.heap.objs.size p (aX plt) its.toArray
 have hsz:its.toArray.size = ns.length:=by rw [aq,<- hlen,ae]
 have hval:∀(i:Nat) (v:Value),its.toArray[i]? =some v->∃t:Tok,v=Value.int (ns[i]?.getD 0) t:=fun i v hv=>by
  have hv':its[i]? =some v:=by simpa using hv
  have hi:i<ns.length:=by
   have:=(ah.mp hv').1
   rw[ae]at hlen
   lia
  obtain⟨u,e1,t,e2⟩:=r'.get (i:=i) (x:=.int ns[i]) (by rw[aA,gE hi];rfl)
  rw[hv']at e1
  cases e1
  exact⟨t,by rw[e2,gE hi];rfl⟩
 have kp0:∀(h':Heap) (tk:Nat),(∀b o,b∉[s.heap.objs.size]->b≠(s.heap.push {cls:=.type "list_iterator",data:=.fields #[.ref p,.int 0 0]}).objs.size->((s.heap.push {cls:=.type "list_iterator",data:=.fields #[.ref p,.int 0 0]}).push {cls:=.type "list",data:=.seq #[]}).get? b=some o->h'.get? b=some o)->
   Inv X pins σ H {s with heap:=h',toks:=tk}:=fun h' tk k=>I.kept fun b o qq=>k b o (by
    intro z
    have:b=s.heap.objs.size:=by simpa using z
    exact absurd (aI qq) (by rw[this];exact cH _)) (by rw[hS];exact aX (cX (aI qq))) (af _ (af _ qq))
 have hst0:(fun i (h:Heap)=>h.IsListIter s.heap.objs.size p i/\h.IsList p its.toArray) 0 ((s.heap.push {cls:=.type "list_iterator",data:=.fields #[.ref p,.int 0 0]}).push {cls:=.type "list",data:=.seq #[]}):=
  ⟨⟨_,af _ (aJ _ rfl),rfl,rfl⟩,(hL.push _).push _⟩
 have hSg:((s.heap.push {cls:=.type "list_iterator",data:=.fields #[.ref p,.int 0 0]}).push {cls:=.type "list",data:=.seq #[]}).get? (s.heap.push {cls:=.type "list_iterator",data:=.fields #[.ref p,.int 0 0]}).objs.size=some {cls:=.type "list",dict:=none,data:=.seq #[] 0,slots:=#[]}:=aJ _ rfl
 have hSf:(s.heap.push {cls:=.type "list_iterator",data:=.fields #[.ref p,.int 0 0]}).objs.size∉[s.heap.objs.size,p]:=by
  rw[hS]
  intro z
  rcases aU.mp z with z|z
  ·exact absurd z (gK _)
  ·have z:=aC.mp z
   rw [<- z] at plt
   exact cH _ (aF plt)
 refine av ⟨cY bI _,?_⟩
 refine cP dO ?_
 rw[cG bI _]
 show wpAny _ X.A.in1 (seqItems? (.ref _)>>=_) _ _ _
 refine aa (bP hSg rfl ?_)
 show wpAny _ X.A.in1 (tryCatch (pyNext (.ref s.heap.objs.size)) _>>=_) _ _ _
 cases hn:ns with
 |nil=>
  have h0:its.toArray.size=0:=by rw[hsz,hn];rfl
  refine aa (df (W.done _ _ _ (by rw[h0];exact hst0) fun h' tk kp=>?_))
  refine aa (eA (av ?_))
  exact⟨.int d,H,kp0 h' tk fun b o h1 _ h3=>kp b o h1 h3,⟨td,rfl⟩,q d (fun _=>rfl) (fun z=>absurd hn z) (by rw[hn];intro x hx;cases hx)⟩
 | cons n0 rest=>
  have hpos:0<its.toArray.size:=by rw[hsz,hn];simp
  refine aa (df (W.item 0 _ _ _ hpos hst0 fun v h' tk hP hst' kp=>?_))
  obtain⟨t',rfl⟩:=hval 0 v hP
  have hS':=kp _ _ (fun z=>hSf (aU.mpr (.inl (aC.mp z)))) hSg
  show wpAny _ X.A.in1 (updateSeq _ (fun _=>#[_,_])>>=_) _ _ _
  refine aa ?_
  refine fH hS' rfl ?_
  rw[nW]
  refine av ⟨cY bI _,AL W (fun i=>ns[i]?.getD 0) hval _ _ hSf _ 1 _ _ t' _ rfl hpos (W.frame _ _ _ hst' fun b hbf o e=>?_) ⟨⟨0,Nat.one_pos,rfl⟩,fun i hi=>by
   have:i=0:=by lia
   subst this;exact bH _⟩ (cy _ hS' rfl) fun m u h'' tk'' hB k''=>?_⟩
  ·exact(bL _ _ (fun z=>hSf (by rw[z];exact hbf))).trans e
  ·refine⟨.int m,H,kp0 h'' tk'' fun b o h1 h2 h3=>k'' b o h1 h2 ((bL _ _ (cR h2)).trans (kp b o h1 h3)),⟨u,rfl⟩,q m (fun z=>by rw[hn]at z;cases z) (fun _=>?_) fun x hx=>?_⟩
   ·obtain⟨i,hi,e1⟩:=hB.1
    rw[hsz]at hi
    rw[e1]
    show ns[i]?.getD 0∈ns
    rw[gE hi]
    exact dq hi
   ·obtain⟨i,hi,e1⟩:=aV.mp hx
    have:m<=ns[i]?.getD 0:=hB.2 i (by rw[hsz];exact hi)
    rw[gE hi]at this
    rw [<- e1]
    exact this
end
section
variable{X:Cx}
theorem F5(a:Value):argsOk "min" ⟨[a],[]⟩:=by unfold argsOk;kernel_rfl
def B4:List V->Hp->VK->Prop:=fun vs H Q=>∃(p:Addr) (ns:List Int),vs=[.ref p]/\H p=some (.lst (ns.map V.int))/\ns≠[]/\
 ∀m,m∈ns->(∀x∈ns,m<=x)->Q (.int m) H
theorem EO(hc:X.calm=true):jc8 X (.builtin "min") B4:=by
 intro pins s σ H xs us Q I r h
 obtain⟨p,ns,rfl,e,hne,q⟩:=h
 obtain⟨u,rfl,rx⟩:=lI r
 cases rx
 obtain⟨z,its,c,r',hlen,e'⟩:=I.lstM e
 have hI:=pJ r'
 have plt:p<s.heap.objs.size:=aI e'
 have hL:s.heap.IsList p its.toArray:=⟨_,e',rfl,_,rfl⟩
 refine call_function_tree PySem.F.kind_min PySem.F.plain_min PySem.F.entry_min (F5 _) ?_
 show wpAny _ X.A.in1 (Builtin.Builtins.bindParams "min" ["key","default"] 0 ⟨[],[]⟩>>=_) _ _ s
 refine aa (gR (show Builtin.Builtins.bindParams "min" ["key","default"] 0 ⟨[],[]⟩=pure [none,none]from rfl) ?_)
 refine aa (av ?_)
 refine aa (dM hL ?_)
 refine aa (eX ?_ (bw _))
 rw[nW]
 have hS:(s.heap.push {cls:=.type "list_iterator",data:=.fields #[.ref p,.int 0 0]}).objs.size=s.heap.objs.size+1:=fw ..
 have W:=Walks.list (prog:=X.prog) (w:=X.w) (A:=X.A.in1) (show X.A.in1.handled=none from I.ok.hd hc) s.heap.objs.size p (aX plt) its.toArray
 have hsz:its.toArray.size = ns.length:=by rw [aq,<- hlen,ae]
 have hval:∀(i:Nat) (v:Value),its.toArray[i]? =some v->∃t:Tok,v=Value.int (ns[i]?.getD 0) t:=fun i v hv=>by
  have hv':its[i]? =some v:=by simpa using hv
  have hi:i<ns.length:=by
   have:=(ah.mp hv').1
   rw[ae]at hlen
   lia
  obtain⟨u,e1,t,e2⟩:=r'.get (i:=i) (x:=.int ns[i]) (by rw[aA,gE hi];rfl)
  rw[hv']at e1
  cases e1
  exact⟨t,by rw[e2,gE hi];rfl⟩
 have kp0:∀(h':Heap) (tk:Nat),(∀b o,b∉[s.heap.objs.size]->b≠(s.heap.push {cls:=.type "list_iterator",data:=.fields #[.ref p,.int 0 0]}).objs.size->((s.heap.push {cls:=.type "list_iterator",data:=.fields #[.ref p,.int 0 0]}).push {cls:=.type "list",data:=.seq #[]}).get? b=some o->h'.get? b=some o)->
   Inv X pins σ H {s with heap:=h',toks:=tk}:=fun h' tk k=>I.kept fun b o qq=>k b o (by
    intro z
    have:b=s.heap.objs.size:=by simpa using z
    exact absurd (aI qq) (by rw[this];exact cH _)) (by rw[hS];exact aX (cX (aI qq))) (af _ (af _ qq))
 have hst0:(fun i (h:Heap)=>h.IsListIter s.heap.objs.size p i/\h.IsList p its.toArray) 0 ((s.heap.push {cls:=.type "list_iterator",data:=.fields #[.ref p,.int 0 0]}).push {cls:=.type "list",data:=.seq #[]}):=
  ⟨⟨_,af _ (aJ _ rfl),rfl,rfl⟩,(hL.push _).push _⟩
 have hSg:((s.heap.push {cls:=.type "list_iterator",data:=.fields #[.ref p,.int 0 0]}).push {cls:=.type "list",data:=.seq #[]}).get? (s.heap.push {cls:=.type "list_iterator",data:=.fields #[.ref p,.int 0 0]}).objs.size=some {cls:=.type "list",dict:=none,data:=.seq #[] 0,slots:=#[]}:=aJ _ rfl
 have hSf:(s.heap.push {cls:=.type "list_iterator",data:=.fields #[.ref p,.int 0 0]}).objs.size∉[s.heap.objs.size,p]:=by
  rw[hS]
  intro z
  rcases aU.mp z with z|z
  ·exact absurd z (gK _)
  ·have z:=aC.mp z
   rw [<- z] at plt
   exact cH _ (aF plt)
 refine av ⟨cY bI _,?_⟩
 refine cP dO ?_
 rw[cG bI _]
 show wpAny _ X.A.in1 (seqItems? (.ref _)>>=_) _ _ _
 refine aa (bP hSg rfl ?_)
 show wpAny _ X.A.in1 (tryCatch (pyNext (.ref s.heap.objs.size)) _>>=_) _ _ _
 cases hn:ns with
 |nil=>exact absurd hn hne
 | cons n0 rest=>
  have hpos:0<its.toArray.size:=by rw[hsz,hn];simp
  refine aa (df (W.item 0 _ _ _ hpos hst0 fun v h' tk hP hst' kp=>?_))
  obtain⟨t',rfl⟩:=hval 0 v hP
  have hS':=kp _ _ (fun z=>hSf (aU.mpr (.inl (aC.mp z)))) hSg
  show wpAny _ X.A.in1 (updateSeq _ (fun _=>#[_,_])>>=_) _ _ _
  refine aa ?_
  refine fH hS' rfl ?_
  rw[nW]
  refine av ⟨cY bI _,AL W (fun i=>ns[i]?.getD 0) hval _ _ hSf _ 1 _ _ t' _ rfl hpos (W.frame _ _ _ hst' fun b hbf o e=>?_) ⟨⟨0,Nat.one_pos,rfl⟩,fun i hi=>by
   have:i=0:=by lia
   subst this;exact bH _⟩ (cy _ hS' rfl) fun m u h'' tk'' hB k''=>?_⟩
  ·exact(bL _ _ (fun z=>hSf (by rw[z];exact hbf))).trans e
  ·refine⟨.int m,H,kp0 h'' tk'' fun b o h1 h2 h3=>k'' b o h1 h2 ((bL _ _ (cR h2)).trans (kp b o h1 h3)),⟨u,rfl⟩,q m ?_ fun x hx=>?_⟩
   ·obtain⟨i,hi,e1⟩:=hB.1
    rw[hsz]at hi
    rw[e1]
    show ns[i]?.getD 0∈ns
    rw[gE hi]
    exact dq hi
   ·obtain⟨i,hi,e1⟩:=aV.mp hx
    have:m<=ns[i]?.getD 0:=hB.2 i (by rw[hsz];exact hi)
    rw[gE hi]at this
    rw [<- e1]
    exact this
end
end L2
namespace My
open PySem L2
section
variable{P:Program}{w:World}{K:PySem.W.Frag}{mg:Str->Option Value}{base:Heap}{c1 c2 c3 c4:Tok}{C_Net C_NoWeb fzc:Addr}{dI:FuncData}
def C9:Stmt->List Stmt
 | .ClassDef _ _ _ b _ _ _ _ _ _ _=>b
 |_=>[]
def ja(i j:Nat):Stmt:=(C9 (iw i)).getD j (.Pass ⟨0,0,0,0⟩)
structure MthAt(K:PySem.W.Frag)(C:Addr)(x qual:Str)(st:Stmt)(ps:List Str)(f:Addr)(fd:FuncData):Prop where
 F:Fun K x qual st f fd
 b:jek K fd ps []
 m:Meth K C x f
structure NetC(K:PySem.W.Frag)(mg:Str->Option Value)(C:Addr):Prop where
 cl:Cls K C
 n_ways_from:jdu K C "ways_from"
 n_heads:jdu K C "heads"
 n_rooms:jdu K C "rooms"
 m:mg "Net"=some (.ref C)
def jO(C dx W Hd R:Addr):HO:=.ins C dx [("ways_from",.ref W),("heads",.ref Hd),("rooms",.ref R)]
section
variable{C dx W Hd R:Addr}
theorem sS:lW C (some (jO C dx W Hd R)) "ways_from"=some (.ref W):=by unfold lW jO;dsimp only;rw[if_pos rfl];rfl
theorem oG:lW C (some (jO C dx W Hd R)) "heads"=some (.ref Hd):=by unfold lW jO;dsimp only;rw[if_pos rfl];rfl
theorem mX:lW C (some (jO C dx W Hd R)) "rooms"=some (.ref R):=by unfold lW jO;dsimp only;rw[if_pos rfl];rfl
theorem mx{m:Str}(h:(m==("ways_from":Str))=false)(h2:(m==("heads":Str))=false)(h3:(m==("rooms":Str))=false):kM C (some (jO C dx W Hd R)) m=true:=by
 unfold kM jO
 simp only[cD,Bool.true_and,List.lookup_cons,h,h2,h3,List.lookup_nil,Option.isNone_none]
theorem AM:kM C (some (jO C dx W Hd R)) "put_way"=true:=mx rfl rfl rfl
theorem Ay:kM C (some (jO C dx W Hd R)) "spread"=true:=mx rfl rfl rfl
theorem AR:kM C (some (jO C dx W Hd R)) "shortest"=true:=mx rfl rfl rfl
theorem Ei:kM C (some (jO C dx W Hd R)) "push"=true:=mx rfl rfl rfl
theorem Eh:kM C (some (jO C dx W Hd R)) "fill"=true:=mx rfl rfl rfl
theorem Fd:kM C (some (jO C dx W Hd R)) "flows"=true:=mx rfl rfl rfl
theorem F9:kM C (some (jO C dx W Hd R)) "reached_from"=true:=mx rfl rfl rfl
end
def nv(ws:List Nat):List V:=ws.map fun w:Nat=>V.int (w:Int)
def NtS(C:Addr)(H:Hp)(p R:Addr)(wf:Int->List Nat)(hs:List Int)(n:Nat):Prop:=∃(dx W Hd:Addr) (ls:List Addr),H p=some (jO C dx W Hd R)/\H W=some (.lst (ls.map V.ref))/\ls.length=n/\(∀(i:Nat) (a:Addr),ls[i]? =some a->H a=some (.lst (nv (wf (i:Int))))/\a≠R)/\H Hd=some (.lst (hs.map V.int))/\W≠R/\Hd≠R/\p≠R
theorem NtS.but{C:Addr}{H H':Hp}{p R:Addr}{wf:Int->List Nat}{hs:List Int}{n:Nat}(h:NtS C H p R wf hs n)(s:But R H H'):NtS C H' p R wf hs n:=by
 obtain⟨dx,W,Hd,ls,e1,e2,e3,e4,e5,n1,n2,n3⟩:=h
 exact⟨dx,W,Hd,ls,s _ _ n3 e1,s _ _ n1 e2,e3,fun i a ha=>⟨s _ _ (e4 i a ha).2 (e4 i a ha).1,(e4 i a ha).2⟩,s _ _ n2 e5,n1,n2,n3⟩
theorem NtS.same{C:Addr}{H H':Hp}{p R:Addr}{wf:Int->List Nat}{hs:List Int}{n:Nat}(h:NtS C H p R wf hs n)(s:Same H H'):NtS C H' p R wf hs n:=h.but fun b o _ q=>s b o q
theorem mz{l:List Int}{w:Nat}(h:w<l.length):i7 (l.map V.int) (w:Int)=some (.int (Fl.at' l w)):=by
 refine kH ?_
 rw[aA,gE h]
 unfold Fl.at'
 rw[bc,gE h]
 rfl
theorem tF{l:List Addr}{i:Nat}{a:Addr}(h:l[i]? =some a):i7 (l.map V.ref) (i:Int)=some (.ref a):=by
 refine kH ?_
 rw[aA,h]
 rfl
def oV:Option Nat->V
 |none=>.non
 |some w=>.int (w:Int)
def j8(cb:Fl.Cb):List (iq×V):=cb.map fun p=>(Sum.inl p.1,oV p.2)
theorem uD:∀(cb:Fl.Cb) (v:Int),(iT (j8 cb) (Sum.inl v:iq)).isSome=Fl.seen cb v
 |[],v=>rfl
 | p::r,v=>by
  have ih:=uD r v
  unfold j8 iT Fl.seen at ih ⊢
  rw[aw,List.find?_cons]
  by_cases c:p.1=v
  ·dsimp only
   rw[aD (show(Sum.inl p.1:iq)=Sum.inl v from bN Sum.inl c)]
   dsimp only
   rw[aD (by rw[aw,c];exact aP)]
   rfl
  ·dsimp only
   rw[aK (fun z:(Sum.inl p.1:iq)=Sum.inl v=>c (cE z))]
   dsimp only
   rw[ih,aw]
   congr 1
   simp only[aU,eq_iff_iff]
   exact⟨fun z=>.inr z,fun z=>z.resolve_left fun e=>c e.symm⟩
theorem tH:∀(cb:Fl.Cb) (v:Int),(iT (j8 cb) (Sum.inl v:iq)).getD .non=oV (Fl.lk cb v)
 |[],v=>rfl
 | p::r,v=>by
  have ih:=tH r v
  unfold j8 iT Fl.lk at ih ⊢
  rw[aw,List.find?_cons,List.find?_cons]
  by_cases c:p.1=v
  ·dsimp only
   rw[aD (show(Sum.inl p.1:iq)=Sum.inl v from bN Sum.inl c),aD c]
   rfl
  ·dsimp only
   rw[aK (fun z:(Sum.inl p.1:iq)=Sum.inl v=>c (cE z)),aK c]
   dsimp only
   exact ih
theorem C7{cb:Fl.Cb}{v:Int}{w:Nat}(h:Fl.seen cb v=false):jr (j8 cb) (Sum.inl v:iq) (.int (w:Int))=j8 (cb++[(v,some w)]):=by
 rw[uJ]
 ·unfold j8
  rw[ao]
  rfl
 ·rw [<- uD] at h
  cases e:iT (j8 cb) (Sum.inl v:iq)with
  |none=>rfl
  |some x=>rw[e]at h;cases h
theorem uY(hs r:List Int):∀(a b:List Nat) (cb:Fl.Cb),Fl.jF hs r cb (a++b)=Fl.jF hs r (Fl.jF hs r cb a) b
 |[],b,cb=>rfl
 |w::a,b,cb=>by
  rw[List.cons_append,Fl.jF,Fl.jF]
  exact uY hs r a b _
theorem EG(hs r:List Int)(ws:List Nat)(i:Nat)(cb:Fl.Cb):(Fl.jF hs r cb (ws.take i)).length<=(Fl.jF hs r cb ws).length:=by
 have e:Fl.jF hs r cb ws = Fl.jF hs r (Fl.jF hs r cb (ws.take i)) (ws.drop i):=by rw [<- uY,List.take_append_drop]
 obtain⟨l,e2⟩:=Fl.nE (hs:=hs) (r:=r) (ws.drop i) (Fl.jF hs r cb (ws.take i))
 rw[e,e2,aB]
 lia
structure Nt(C:Addr)(H:Hp)(p R:Addr)(wf:Int->List Nat)(hs:List Int)(m n:Nat)(r:List Int):Prop where
 st:NtS C H p R wf hs n
 eR:H R=some (.lst (r.map V.int))
 net:Fl.Net wf hs m n
 len:r.length=2*m
 big:2*m<=1000
 n200:n<=200
theorem Nt.same{C:Addr}{H H':Hp}{p R:Addr}{wf:Int->List Nat}{hs:List Int}{m n:Nat}{r:List Int}(h:Nt C H p R wf hs m n r)(s:Same H H'):Nt C H' p R wf hs m n r:=⟨h.st.same s,s _ _ h.eR,h.net,h.len,h.big,h.n200⟩
def uN(C:Addr):Sp:=fun vs H Q _=>∃p s R wf hs m n r,vs=[.ref p,.int s]/\Nt C H p R wf hs m n r/\0<=s/\s<(n:Int)/\∀d H',H d=none->Same H H'->H' d=some (.dK (j8 (Fl.jD wf hs n s r)))->Q (.ref d) H'
def mw(cb:Fl.Cb):List V:=cb.map fun p=>V.int p.1
theorem Fh(B:Blt mg)(D:MthAt K C_Net "spread" "Net.spread" (ja 9 4) ["self","source"] f fd)(T:NetC K mg C_Net):FnOk P w K mg base iE 1 f fd ["self","source"] (uN C_Net):=by
 have sc:FnScope ["self","source","came_by","line","done","knot","way","head"] ["self","source"] (iU (ja 9 4)):=by walk_at "SC"
 refine D.F.ok sc (fun vs H Q E h=>?_) (fun cdv A outer s H vs Q E hr h=>?_)
 ·obtain⟨p,s,R,wf,hs,m,n,r,rfl,_⟩:=h
  rfl
 obtain⟨p,s,R,wf,hs,m,n,r,rfl,N,s0,s1,h⟩:=h
 have hu:=i8 hr
 have hu0:_<PySem.cLine:=aF hu
 refine⟨_,(iu (iF (i:=2) sc.nd rfl (Or.inl rfl) (Eo (qv 1) kN)) (iu (iF (i:=3) sc.nd rfl (Or.inl rfl) (jJ (ig (qv 1) ik))) (iu (iF (i:=4) sc.nd rfl (Or.inl rfl) ip) (iu (nZ aZ (iS lU (qv 4) (jg kW rfl B.len bQ (ig (qv 3) ik)) (iQ _)) (iu (iF (i:=5) sc.nd rfl (Or.inl rfl) (iz iA (qv 3) (qv 4) (fun _ _=>rfl))) (iu (jR aZ rfl (jx (iz iA (kx T.cl T.n_ways_from (qv 0) rfl) (qv 5) (fun _ _=>rfl))) (iJ (i:=6) sc.nd rfl (Or.inl rfl)) (iu (iF (i:=7) sc.nd rfl (Or.inl rfl) (iz iA (kx T.cl T.n_heads (qv 0) rfl) (qv 6) (fun _ _=>rfl))) (iB (je (PW.pt (mC (iS oq (iz iA (kx T.cl T.n_rooms (qv 0) rfl) (qv 6) (fun _ _=>rfl)) ip (iQ _)) (nk (lr (nz hu (qv 7) (qv 2)))))) (iu (l7 hu (qv 2) (qv 7) (qv 6)) (iB (jK (ka aQ bg bf kf (qv 3) (ig (qv 7) ik))))) jf)))) (iB (qI (i:=4) sc.nd rfl (Or.inl rfl) ip qH))))) (iB (iP (qv 2))))))),?_⟩
 have N0:=N
 obtain⟨⟨dx,W,Hd,ls,e1,e2,e3,e4,e5,n1,n2,n3⟩,eR,net,hlen,hbig,hn⟩:=N
 refine iG fun R' hR=>?_
 walk_at "D"
 intro d hd
 have q1:=iy hd (.dK [(Sum.inl s,.non)])
 have ed:upd H d (.dK [(Sum.inl s,.non)]) d=some (.dK [(Sum.inl s,.non)]):=ij
 generalize upd H d (.dK [(Sum.inl s,.non)])=H1 at q1 ed
 subst hR
 refine iG fun R' hR=>?_
 walk_at "D"
 intro l hl
 have q2:=q1.trans (iy hl (.lst [.int s]))
 have ed2:=iy hl (.lst [.int s]) _ _ ed
 have el:upd H1 l (.lst [.int s]) l=some (.lst [.int s]):=ij
 have ld:l≠d:=(iC ed hl).symm
 have hlH:H l=none:=q1.free hl
 generalize upd H1 l (.lst [.int s])=H2 at q2 ed2 el
 subst hR
 refine iG fun R' hR=>?_
 walk_at "D"
 subst hR
 refine iG fun R' hR=>?_
 refine rD (fun σ Hc=>∃(k:Nat) (v5 v6 v7:Option V),σ=[some (.ref p),some (.int s),some (.ref d),some (.ref l),some (.int (k:Int)),v5,v6,v7]/\Same H Hc/\Hc d=some (.dK (j8 (Fl.iY wf hs r s k)))/\Hc l=some (.lst (mw (Fl.iY wf hs r s k)))/\k<=(Fl.iY wf hs r s k).length) (fun σ _=>match σ with |[_,_,_,_,some (.int k),_,_,_]=>n-k.toNat|_=>0) ⟨0,none,none,none,rfl,q2,ed2,el,bw _⟩ ?_ ?_
 ·rintro σ Hc ⟨k,v5,v6,v7,rfl,s3,ed3,el3,hk⟩
  have hkl:=Fl.mM (r:=r) net ⟨s0,s1⟩ k
  have hlk:(mw (Fl.iY wf hs r s k)).length=(Fl.iY wf hs r s k).length:=ae _
  by_cases c:k<(Fl.iY wf hs r s k).length
  ·have hdt:decide ((k:Int)<((Fl.iY wf hs r s k).length:Int))=true:=aD (by lia)
   have hg:(Fl.iY wf hs r s k)[k]? =some (Fl.iY wf hs r s k)[k]:=gE c
   generalize hpk:(Fl.iY wf hs r s k)[k]=pk at hg
   have hgl:i7 (mw (Fl.iY wf hs r s k)) (k:Int)=some (.int pk.1):=kH (by unfold mw;rw[aA,hg];rfl)
   simp_arith[iD,el3,hlk,hdt,hgl]
   have hkn:=Fl.wZ (r:=r) net ⟨s0,s1⟩ k pk.1 (aE.mpr ⟨_,ag hg,rfl⟩)
   have hi:pk.1.toNat<ls.length:=by lia
   have hla:ls[pk.1.toNat]? =some ls[pk.1.toNat]:=gE hi
   generalize ls[pk.1.toNat]=wa at hla
   have ewa:=(e4 _ _ hla).1
   rw[show((pk.1.toNat:Nat):Int)=pk.1 by lia]at ewa
   have hwa:i7 (ls.map V.ref) pk.1=some (.ref wa):=by have:=tF hla;rw[show((pk.1.toNat:Nat):Int)=pk.1 by lia]at this;exact this
   have hnext:Fl.iY wf hs r s (k+1)=Fl.jF hs r (Fl.iY wf hs r s k) (wf pk.1):=by rw[Fl.iY,hg]
   have hkl2:=Fl.mM (r:=r) net ⟨s0,s1⟩ (k+1)
   rw[hnext]at hkl2
   generalize hcb:Fl.iY wf hs r s k=cb at*
   refine j7 (ji K wa) Hc (fun R3 hR3=>?_) (kO (K:=K) (a:=wa) (xs:=nv (wf pk.1)) (fun i σ H4=>∃v6 v7,σ=[some (.ref p),some (.int s),some (.ref d),some (.ref l),some (.int (k:Int)),some (.int pk.1),v6,v7]/\Same H H4/\H4 d=some (.dK (j8 (Fl.jF hs r cb ((wf pk.1).take i))))/\H4 l=some (.lst (mw (Fl.jF hs r cb ((wf pk.1).take i))))) ⟨v6,v7,rfl,s3,ed3,el3⟩ (fun i σ H4 _ ⟨_,_,_,s4,_⟩=>SqL.of (s4 _ _ ewa)) ?_ ?_)
   ·unfold jt
    simp_arith[iD,s3 _ _ e1,sS,s3 _ _ e2,hwa]
    exact⟨wa,rfl,⟨_,SqL.of (s3 _ _ ewa)⟩,hR3⟩
   ·rintro i x σ H4 hx ⟨v6,v7,rfl,s4,ed4,el4⟩
    unfold nv at hx
    rw[aA]at hx
    obtain⟨w,hw,rfl⟩:=cg.mp hx
    have hwm:=net.from' pk.1 w (ag hw)
    have hh:i7 (hs.map V.int) (w:Int)=some (.int (Fl.at' hs w)):=mz (by rw[net.len];exact hwm.1)
    have hr':i7 (r.map V.int) (w:Int)=some (.int (Fl.at' r w)):=mz (by rw[hlen];exact hwm.1)
    have hv1:Fl.jF hs r cb ((wf pk.1).take (i+1))=if 0<Fl.at' r w/\Fl.seen (Fl.jF hs r cb ((wf pk.1).take i)) (Fl.at' hs w)=false then Fl.jF hs r cb ((wf pk.1).take i)++[(Fl.at' hs w,some w)]else Fl.jF hs r cb ((wf pk.1).take i):=by
     rw[jy hw,uY]
     rfl
    have hvl:=EG hs r (wf pk.1) i cb
    generalize Fl.jF hs r cb ((wf pk.1).take i)=cb1 at*
    simp_arith[iD,s4 _ _ e1,oG,mX,s4 _ _ e5,hh,s4 _ _ eR,hr',ed4,uD]
    by_cases c1:0<Fl.at' r w
    ·rw[aD c1,az rfl]
     cases c2:Fl.seen cb1 (Fl.at' hs w)with
     |true=>
      walk_at "D"
      rw[ay (fun z=>by rw[c2]at z;cases z.2)]at hv1
      rw[hv1]
      exact⟨_,_,rfl,s4,(by first|rfl|exact ed4),el4⟩
     | false=>
      rw[az ⟨c1,c2⟩]at hv1
      simp_arith[C7 c2]
      have hcl:(j8 cb1).length=cb1.length:=ae _
      refine⟨iW (by lia),?_⟩
      have el5:upd H4 d (.dK (j8 (cb1++[(Fl.at' hs w,some w)]))) l=some (.lst (mw cb1)):=by rw[ir ld];exact el4
      refine⟨⟨l,_,rfl,el5⟩,?_⟩
      rw[el5]
      dsimp only
      have hcl2:(mw cb1).length=cb1.length:=ae _
      refine⟨iW (by lia),_,_,rfl,i4 (i4 s4 hd) hlH,?_,?_⟩
      ·rw[ir (cR ld),ij,hv1]
      ·rw[ij,hv1]
       unfold mw
       rw[ao]
       rfl
    ·rw[aK c1,ay (by decide)]
     rw[ay (fun z=>c1 z.1)]at hv1
     rw[hv1]
     exact⟨_,_,rfl,s4,(by first|rfl|exact ed4),el4⟩
   ·rintro σ H4 ⟨v6,v7,rfl,s4,ed4,el4⟩
    have htl:(wf pk.1).take (nv (wf pk.1)).length=wf pk.1:=by unfold nv;rw[ae,aR]
    rw [htl,<- hnext] at ed4 el4
    walk_at "D"
    refine⟨⟨k+1,_,_,_,by rw[show((k+1:Nat):Int)=(k:Int)+1 by lia],s4,ed4,el4,?_⟩,?_⟩
    ·obtain⟨z,hz⟩:=Fl.wy (wf:=wf) (hs:=hs) (r:=r) (s:=s) k
     rw[hz,hcb,aB]
     lia
    ·lia
  ·have hdt:decide ((k:Int)<((Fl.iY wf hs r s k).length:Int))=false:=aK (by lia)
   simp_arith[iD,el3,hlk,hdt]
   subst hR
   walk_at "D"
   have hfin:Fl.jD wf hs n s r=Fl.iY wf hs r s k:=by
    unfold Fl.jD
    rw[show n=k+(n-k) by lia]
    exact Fl.sf (by lia) _
   exact h d Hc hd s3 (by rw[hfin];exact ed3)
 ·intro σ Hc Q1 Q2 hq hc
  unfold fB mO pZ qx nF jU at hc ⊢
  cases e:σ[4]? with
  |none=>rw[e]at hc;exact hc.elim
  | some ov=>
   rw[e]at hc
   cases ov with
   |none=>exact hc.elim
   | some u=>
    dsimp only[rQ,fI,tC]at hc ⊢
    cases e3:σ[3]? with
    |none=>rw[e3]at hc;exact hc.elim
    | some ov3=>
     rw[e3]at hc
     cases ov3 with
     |none=>exact hc.elim
     | some u3=>
      dsimp only at hc ⊢
      cases u3 with
      | ref b=>
       dsimp only at hc ⊢
       cases e2:iD Hc b with
       |none=>rw[e2]at hc;exact hc.elim
       |some us=>
        rw[e2]at hc
        dsimp only at hc ⊢
        cases u with
        |int i=>exact hq _ _ hc
        |_=>exact hc.elim
      |_=>exact hc.elim
end
end My
namespace Fl
section
variable{hs r:List Int}{m:Nat}{s:Int}{cb:Cb}
theorem Dv{v:Int}{w:Nat}(h:lk cb v=some w):∃i:Nat,cb[i]? =some (v,some w):=by
 unfold lk at h
 cases e:cb.find? fun p=>decide (p.1=v)with
 |none=>rw[e]at h;cases h
 |some p=>
  rw[e]at h
  have hp:=List.mem_of_find?_eq_some e
  have hv:p.1=v:=by have:=List.find?_some e;exact bC (p:=p.1=v) this
  obtain⟨i,hi,e2⟩:=aV.mp hp
  refine⟨i,?_⟩
  rw[gE hi,e2]
  obtain⟨a,b⟩:=p
  dsimp only at hv
  have h:b=some w:=h
  rw[hv,h]
theorem F2(C:Cam hs r m s cb):∀(i:Nat) (v:Int) (o:Option Nat),cb[i]? =some (v,o)->∀f,i<=f->jl hs cb (f+1) v=jl hs cb f v:=by
 intro i
 induction i using Nat.strongRecOn with
 | ind i ih=>
  intro v o h f hf
  have hl:=sX C.nd h
  by_cases h0:i=0
  ·subst h0
   have e:=C.first
   rw[h]at e
   have ho:o=none:=bN Prod.snd (aL e)
   rw[ho]at hl
   rw[jl,hl]
   cases f with
   |zero=>rfl
   |succ f=>rw[jl,hl]
  ·obtain⟨w,rfl,h2,h3,h4,j,u,h5,h6,h7⟩:=C.came i v o h (by lia)
   obtain⟨f',rfl⟩:∃f',f=f'+1:=⟨f-1,by lia⟩
   obtain⟨p,hp⟩:∃p,cb[j]? =some p:=by
    cases e:cb[j]? with
    |none=>rw[e]at h6;cases h6
    |some p=>exact⟨p,rfl⟩
   have hpu:p.1=u:=by rw[hp]at h6;exact aL h6
   obtain⟨p1,p2⟩:=p
   dsimp only at hpu
   subst hpu
   have e1:jl hs cb (f'+1+1) v=w::jl hs cb (f'+1) p1:=by
    rw[jl,hl];dsimp only;rw[h7]
   have e2:jl hs cb (f'+1) v=w::jl hs cb f' p1:=by
    rw[jl,hl];dsimp only;rw[h7]
   rw[e1,e2,ih j h5 p1 p2 hp f' (by lia)]
theorem BC(C:Cam hs r m s cb){n:Nat}(hn:cb.length<=n){v:Int}{w:Nat}(h:lk cb v=some w):jl hs cb n v=w::jl hs cb n (at' hs (iH w))/\w<2*m:=by
 obtain⟨i,hi⟩:=Dv h
 have hil:=(ah.mp hi).1
 have h0:0<i:=by
  by_cases z:i=0
  ·subst z
   have e:=C.first
   rw[hi]at e
   have:=bN Prod.snd (aL e)
   cases this
  ·lia
 obtain⟨w',hw',h2,h3,h4,j,u,h5,h6,h7⟩:=C.came i v _ hi h0
 cases hw'
 obtain⟨p,hp⟩:∃p,cb[j]? =some p:=by
  cases e:cb[j]? with
  |none=>rw[e]at h6;cases h6
  |some p=>exact⟨p,rfl⟩
 have hpu:p.1=u:=by rw[hp]at h6;exact aL h6
 obtain⟨f',rfl⟩:∃f',n=f'+1:=⟨n-1,by lia⟩
 refine⟨?_,h2⟩
 rw[jl,h]
 dsimp only
 rw [h7,<- hpu,F2 C j p.1 p.2 hp f' (by lia)]
theorem BD{v:Int}{n:Nat}(h:lk cb v=none):jl hs cb n v=[]:=by
 cases n with
 |zero=>rfl
 |succ n=>rw[jl,h]
theorem rZ:∀(n:Nat) (v:Int),(jl hs cb n v).length<=n
 |0,_=>au _
 | n+1,v=>by
  rw[jl]
  split
  ·have:=rZ n (at' hs (iH ‹Nat›))
   rw[List.length_cons];lia
  ·exact bw _
theorem wW(r:List Int):∀{tr:List Nat},tr≠[]->kr r tr∈tr.map (at' r)
 |[],h=>absurd rfl h
 |[w],_=>aC.mpr rfl
 |w::x::tr,_=>by
  rw[kr]
  split
  ·exact aH _ (wW r (tr:=x::tr) (by simp))
  ·exact aP
theorem Cj(r:List Int)(tr:List Nat)(w:Nat)(a:Int):push r (tr++[w]) a=bump (push r tr a) w a:=by
 unfold push
 rw[List.foldl_append]
 rfl
end
end Fl
namespace My
open PySem L2
section
variable{P:Program}{w:World}{K:PySem.W.Frag}{mg:Str->Option Value}{base:Heap}{c1 c2 c3 c4:Tok}{C_Net C_NoWeb fzc:Addr}{dI:FuncData}
def yQ(C:Addr):Sp:=fun vs H Q _=>∃p s t R wf hs m n r,vs=[.ref p,.int s,.int t]/\Nt C H p R wf hs m n r/\0<=s/\s<(n:Int)/\∀l H',H l=none->Same H H'->H' l=some (.lst (nv (Fl.jX wf hs n s t r)))->Q (.ref l) H'
def xV(C:Addr):Sp:=fun vs H Q _=>∃p l R wf hs m n r tr,vs=[.ref p,.ref l]/\Nt C H p R wf hs m n r/\H l=some (.lst (nv tr))/\l≠R/\tr≠[]/\tr.length<=200/\(∀w∈tr,w<2*m)/\∀H',But R H H'->H' R=some (.lst ((Fl.push r tr (Fl.kr r tr)).map V.int))->Q (.int (Fl.kr r tr)) H'
def xS(C:Addr):Sp:=fun vs H Q _=>∃p s t R wf hs m n r cap,vs=[.ref p,.int s,.int t]/\Nt C H p R wf hs m n r/\s≠t/\0<=s/\s<(n:Int)/\Fl.Rooms m cap r/\∀x r' H',Fl.Runs wf hs n s t r r'->Fl.kE wf hs n s t r'=none->But R H H'->H' R=some (.lst (r'.map V.int))->Q (.int x) H'
theorem CK(o:Option Nat):oK (oV o)=o.isNone:=by cases o<;>rfl
theorem uR(w:Nat):PySem.Builtin.bitXor (w:Int) 1=((Fl.iH w:Nat):Int):=DX w
def unI(xs:List V):List Int:=xs.map fun x=>match x with
 | .int i=>i
 |_=>0
theorem yW(r:List Int):unI (r.map V.int)=r:=by
 unfold unI
 rw[bD]
 exact List.map_id _
theorem ym{n w:Nat}(h:w<n):ky n (w:Int)=some w:=by
 unfold ky
 rw[az (by lia),az (by lia)]
 rfl
theorem Nt.but{C:Addr}{H H':Hp}{p R:Addr}{wf:Int->List Nat}{hs:List Int}{m n:Nat}{r r':List Int}(h:Nt C H p R wf hs m n r)(s:But R H H')(e:H' R=some (.lst (r'.map V.int)))(hl:r'.length=2*m):Nt C H' p R wf hs m n r':=⟨h.st.but s,e,h.net,hl,h.big,h.n200⟩
theorem C8{cb:Fl.Cb}{v:Int}{w:Nat}(h:Fl.lk cb v=some w):iT (j8 cb) (Sum.inl v:iq)=some (.int (w:Int)):=by
 have:=tH cb v
 rw[h]at this
 cases e:iT (j8 cb) (Sum.inl v:iq)with
 |none=>rw[e]at this;cases this
 |some x=>rw[e]at this;exact bN some this
theorem Gg(B:Blt mg)(D:MthAt K C_Net "shortest" "Net.shortest" (ja 9 3) ["self","source","sink"] f fd)(Dqj:MthAt K C_Net "spread" "Net.spread" (ja 9 4) ["self","source"] fqj dqj)(Gqj:FnOk P w K mg base iE 1 fqj dqj ["self","source"] (uN C_Net))(T:NetC K mg C_Net):FnOk P w K mg base iE 2 f fd ["self","source","sink"] (yQ C_Net):=by
 have sc:FnScope ["self","source","sink","came_by","trail","knot"] ["self","source","sink"] (iU (ja 9 3)):=by walk_at "SC"
 refine D.F.ok sc (fun vs H Q E h=>?_) (fun cdv A outer s H vs Q E hr h=>?_)
 ·obtain⟨p,s,t,R,wf,hs,m,n,r,rfl,_⟩:=h
  rfl
 obtain⟨p,s,t,R,wf,hs,m,n,r,rfl,N,s0,s1,h⟩:=h
 have hu:=i8 hr
 have hu0:_<PySem.cLine:=aF hu
 refine⟨_,(iu (iF (i:=3) sc.nd rfl (Or.inl rfl) (lM (qv 0) T.cl Dqj.m Gqj (hr.mono (by decide)) Dqj.b .nil iI (ig (qv 1) ik))) (iu (iF (i:=4) sc.nd rfl (Or.inl rfl) (jJ ik)) (iu (iF (i:=5) sc.nd rfl (Or.inl rfl) (qv 2)) (iu (nZ aZ (iS xM (DL hu (qv 3) (qv 5)) kN (iQ _)) (iu (jK (ka aQ bg bf kf (qv 4) (ig (j4 hu (qv 3) (qv 5) (fun _ _=>rfl)) ik))) (iB (iF (i:=5) sc.nd rfl (Or.inl rfl) (iz iA (kx T.cl T.n_heads (qv 0) rfl) (iO tq (j4 hu (qv 3) (qv 5) (fun _ _=>rfl)) ip) (fun _ _=>rfl)))))) (iB (iP (qv 4))))))),?_⟩
 have N0:=N
 obtain⟨⟨dx,W,Hd,ls,e1,e2,e3,e4,e5,n1,n2,n3⟩,eR,net,hlen,hbig,hn⟩:=N
 refine iG fun R' hR=>?_
 simp_arith[e1,Ay]
 refine⟨p,s,R,wf,hs,m,n,r,rfl,N0,s0,s1,fun d H1 hd q1 ed=>?_⟩
 subst hR
 refine iG fun R' hR=>?_
 walk_at "D"
 intro l hl
 have q2:=q1.trans (iy hl (.lst []))
 have ed2:=iy hl (.lst []) _ _ ed
 have el:upd H1 l (.lst []) l=some (.lst []):=ij
 have hlH:H l=none:=q1.free hl
 have ld:l≠d:=(iC ed hl).symm
 generalize upd H1 l (.lst [])=H2 at q2 ed2 el
 subst hR
 refine iG fun R' hR=>?_
 walk_at "D"
 subst hR
 refine iG fun R' hR=>?_
 have Cm:=Fl.lT (r:=r) (s:=s) net.from' n
 have hcl:=Fl.mM (r:=r) net ⟨s0,s1⟩ n
 have htl:=Fl.rZ (hs:=hs) (cb:=Fl.jD wf hs n s r) n t
 have htr:Fl.jX wf hs n s t r=Fl.jl hs (Fl.jD wf hs n s r) n t:=rfl
 rw[htr]at h
 generalize hcb:Fl.jD wf hs n s r=cb at*
 unfold Fl.jD at hcb
 rw[hcb]at Cm hcl
 refine rD (fun σ Hc=>∃(v:Int) (tr:List Nat),σ=[some (.ref p),some (.int s),some (.int t),some (.ref d),some (.ref l),some (.int v)]/\Same H Hc/\Hc d=some (.dK (j8 cb))/\Hc l=some (.lst (nv tr))/\Fl.jl hs cb n t=tr++Fl.jl hs cb n v) (fun σ _=>match σ with |[_,_,_,_,_,some (.int v)]=>(Fl.jl hs cb n v).length|_=>0) ⟨t,[],rfl,q2,ed2,el,rfl⟩ ?_ ?_
 ·rintro σ Hc ⟨v,tr,rfl,s3,ed3,el3,htv⟩
  simp_arith[ed3,tH,CK]
  refine⟨⟨_,rfl⟩,?_⟩
  cases hlk:Fl.lk cb v with
  |none=>
   simp_arith[Option.isNone]
   subst hR
   walk_at "D"
   rw[Fl.BD hlk,bq]at htv
   exact h l Hc hlH s3 (by rw[htv];exact el3)
  | some w=>
   obtain⟨hnx,hw⟩:=Fl.BC Cm hcl hlk
   have hm:=Fl.mQ hw
   have hh:i7 (hs.map V.int) ((Fl.iH w:Nat):Int)=some (.int (Fl.at' hs (Fl.iH w))):=mz (by rw[net.len];exact hm)
   have hval:=C8 hlk
   have htl2:tr.length<=n:=by
    have:=bN List.length htv
    rw[aB]at this
    lia
   simp_arith[Option.isNone,el3,ed3,hval]
   refine⟨⟨l,_,rfl,el3⟩,?_⟩
   have hnl:(nv tr).length=tr.length:=ae _
   refine⟨iW (by lia),?_⟩
   have ed4:upd Hc l (.lst (nv tr++[.int (w:Int)])) d=some (.dK (j8 cb)):=by rw[ir (cR ld)];exact ed3
   have s4:Same H (upd Hc l (.lst (nv tr++[.int (w:Int)]))):=i4 s3 hlH
   have el4:upd Hc l (.lst (nv tr++[.int (w:Int)])) l=some (.lst (nv (tr++[w]))):=by rw[ij];unfold nv;rw[ao];rfl
   generalize upd Hc l (.lst (nv tr++[.int (w:Int)]))=H4 at ed4 s4 el4
   simp_arith[iD,s4 _ _ e1,oG,s4 _ _ e5,ed4,hval,uR,hh]
   refine⟨⟨_,_,rfl,s4,el4,?_⟩,?_⟩
   ·rw[htv,hnx,bp]
    rfl
   ·rw[hnx,List.length_cons]
    lia
 ·intro σ Hc Q1 Q2 hq hc
  unfold fB mO tJ jU at hc ⊢
  cases e:σ[3]? with
  |none=>rw[e]at hc;exact hc.elim
  | some ov=>
   rw[e]at hc
   cases ov with
   |none=>exact hc.elim
   | some u=>
    dsimp only at hc ⊢
    cases u with
    | ref a=>
     dsimp only at hc ⊢
     refine⟨hc.1,?_⟩
     have hc:=hc.2
     cases e3:σ[5]? with
     |none=>rw[e3]at hc;exact hc.elim
     | some ov3=>
      rw[e3]at hc
      cases ov3 with
      |none=>exact hc.elim
      | some u3=>
       dsimp only at hc ⊢
       cases u3 with
       | int i=>
        dsimp only at hc ⊢
        cases e4:Hc a with
        |none=>rw[e4]at hc;exact hc.elim
        |some ob=>
         rw[e4]at hc
         cases ob with
         |dK kvs=>dsimp only[tC,oa]at hc ⊢;exact hq _ _ hc
         |_=>exact hc.elim
       |_=>exact hc.elim
    |_=>exact hc.elim
theorem AK(r:List Int)(w:Nat)(x:Int):(r.map V.int).set w (.int x)=(r.set w x).map V.int:=by rw[List.map_set]
theorem zp{i:Nat}{σ:St}{H:Hp}{Q Q':Bool->Hp->Prop}(hq:∀b H1,Q b H1->Q' b H1)(hc:oF (jU i) σ H Q):oF (jU i) σ H Q':=by
 unfold oF jU at hc ⊢
 cases e:σ[i]? with
 |none=>rw[e]at hc;exact hc.elim
 | some ov=>
  rw[e]at hc
  cases ov with
  |none=>exact hc.elim
  | some u=>
   dsimp only at hc ⊢
   cases u with
   | ref a=>
    dsimp only at hc ⊢
    cases e4:H a with
    |none=>rw[e4]at hc;exact hc.elim
    |some ob=>
     rw[e4]at hc
     cases ob with
     |lst xs=>exact hq _ _ hc
     |_=>exact hc.elim
   |_=>exact hc.elim
theorem Dz(B:Blt mg)(D:MthAt K C_Net "push" "Net.push" (ja 9 5) ["self","trail"] f fd)(T:NetC K mg C_Net):FnOk P w K mg base iE 1 f fd ["self","trail"] (xV C_Net):=by
 have sc:FnScope ["self","trail","amount","way"] ["self","trail"] (iU (ja 9 5)):=by walk_at "SC"
 refine D.F.ok sc (fun vs H Q E h=>?_) (fun cdv A outer s H vs Q E hr h=>?_)
 ·obtain⟨p,l,R,wf,hs,m,n,r,tr,rfl,_⟩:=h
  rfl
 obtain⟨p,l,R,wf,hs,m,n,r,tr,rfl,N,el,lR,tr0,htl,hw,h⟩:=h
 have hu:=i8 hr
 have hu0:_<PySem.cLine:=aF hu
 refine⟨_,(iu (iF (i:=2) sc.nd rfl (Or.inl rfl) (jg (EO rfl) rfl B.min fN (ig (jW (CpScope.of (N:=["way","self"]) (src:=[none,some 0]) (by rfl)) rfl (jx (qv 1)) (fun _ _ _ _=>(iJ (i:=0) (jc (l:=["way","self"]) (by rfl)) rfl (Or.inl rfl))) (fun _ _ _ _=>mF) (fun _ _ _ _=>(iz iA (kx T.cl T.n_rooms (qv 1) rfl) (qv 0) (fun _ _=>rfl)))) ik))) (iu (jR aZ rfl (jx (qv 1)) (iJ (i:=3) sc.nd rfl (Or.inl rfl)) (iu (yC (kx T.cl T.n_rooms (qv 0) rfl) (qv 3) zZ (qv 2) Do nN) (iB (yC (kx T.cl T.n_rooms (qv 0) rfl) (iO tq (qv 3) ip) zZ (qv 2) Dm nN)))) (iB (iP (qv 2))))),?_⟩
 have N0:=N
 obtain⟨⟨dx,W,Hd,ls,e1,e2,e3,e4,e5,n1,n2,n3⟩,eR,net,hlen,hbig,hn⟩:=N
 have hnl:(nv tr).length=tr.length:=ae _
 refine iG fun R' hR=>?_
 walk_at "D"
 refine jS (ji K l) H (fun R2 hR2=>?_) (fun z hz0=>jP tr.length (fun i σ' Hc=>∃w1,σ'=[w1,some (.ref p)]/\Same H Hc/\Hc z=some (.lst (((tr.take i).map (Fl.at' r)).map V.int))) ⟨none,rfl,iy hz0 _,ij⟩ ?_ ?_)
 ·unfold jt
  walk_at "D"
  exact⟨l,rfl,⟨_,SqL.of el⟩,hR2⟩
 ·rintro i σ' Hc hi ⟨w1,rfl,s7,ez⟩
  have x1:(nv tr)[i]? =some (.int ((tr[i]:Nat):Int)):=by unfold nv;rw[aA,gE hi];rfl
  have x2:tr[i]? =some tr[i]:=gE hi
  have hwi:=hw _ (dq hi)
  generalize tr[i]=wi at x1 x2 hwi
  refine⟨⟨_,_,SqL.of (s7 _ _ el),x1⟩,?_⟩
  rintro y H' ⟨rfl,hy⟩
  have E1:=aL (x1.symm.trans (hy _ (SqL.of (s7 _ _ el))))
  subst E1
  have hr':i7 (r.map V.int) (wi:Int)=some (.int (Fl.at' r wi)):=mz (by rw[hlen];exact hwi)
  simp_arith[iD,s7 _ _ e1,mX,s7 _ _ eR,hr']
  refine⟨_,ez,?_,_,rfl,i4 s7 hz0,?_⟩
  ·rw[ae,ae,aS]
   exact iW (by lia)
  ·rw[ij,jy x2,ao,ao]
   rfl
 ·rintro σ' Hc ⟨w1,rfl,s7,ez⟩
  refine⟨⟨_,SqL.of (s7 _ _ el),by lia⟩,?_⟩
  rw[aR]at ez
  refine⟨z,_,rfl,ez,by simpa using tr0,fun a ha hmin=>?_⟩
  have hae:a=Fl.kr r tr:=by
   have h1:=hmin _ (Fl.wW r tr0)
   obtain⟨w,hwt,rfl⟩:=aE.mp ha
   have h2:=Fl.sm r hwt
   lia
  subst hae
  generalize Fl.kr r tr=a at*
  walk_at "D"
  subst hR
  refine iG fun R' hR=>?_
  have zR:z≠R:=(iC eR hz0).symm
  refine j7 (ji K l) Hc (fun R3 hR3=>?_) (kO (K:=K) (a:=l) (xs:=nv tr) (fun i σ H4=>∃v3,σ=[some (.ref p),some (.ref l),some (.int a),v3]/\But R H H4/\H4 R=some (.lst ((Fl.push r (tr.take i) a).map V.int))) ⟨none,rfl,fun b o _ q=>s7 b o q,s7 _ _ eR⟩ (fun i σ H4 _ ⟨_,_,s4,_⟩=>SqL.of (s4 _ _ lR el)) ?_ ?_)
  ·unfold jt
   walk_at "D"
   exact⟨l,rfl,⟨_,SqL.of (s7 _ _ el)⟩,hR3⟩
  ·rintro i x σ H4 hx ⟨v3,rfl,s4,eR4⟩
   unfold nv at hx
   rw[aA]at hx
   obtain⟨w,hwt,rfl⟩:=cg.mp hx
   have hwm:=hw w (ag hwt)
   have hmm:=Fl.mQ hwm
   have hpl:(Fl.push r (tr.take i) a).length=2*m:=by rw[Fl.qd];exact hlen
   have hps:Fl.push r (tr.take (i+1)) a=Fl.bump (Fl.push r (tr.take i) a) w a:=by rw[jy hwt,Fl.Cj]
   generalize Fl.push r (tr.take i) a=r1 at*
   have e14:=s4 _ _ n3 e1
   have h1:i7 (r1.map V.int) (w:Int)=some (.int (Fl.at' r1 w)):=mz (by lia)
   have hx1:ky (r1.map V.int).length (w:Int)=some w:=ym (by rw[ae];lia)
   refine iG fun R5 hR5=>?_
   simp_arith[e14,mX,eR4,h1,hx1]
   refine⟨gm _,?_⟩
   rw[AK]
   have b5:But R H (upd H4 R (.lst ((r1.set w (Fl.at' r1 w-a)).map V.int))):=s4.trans (But.at R H4 _)
   have e15:=b5 _ _ n3 e1
   have eR5:upd H4 R (.lst ((r1.set w (Fl.at' r1 w-a)).map V.int)) R=some (.lst ((r1.set w (Fl.at' r1 w-a)).map V.int)):=ij
   generalize upd H4 R (.lst ((r1.set w (Fl.at' r1 w-a)).map V.int))=H5 at b5 e15 eR5
   have hl2:(r1.set w (Fl.at' r1 w-a)).length=2*m:=by rw[dE];exact hpl
   have h2:i7 ((r1.set w (Fl.at' r1 w-a)).map V.int) ((Fl.iH w:Nat):Int)=some (.int (Fl.at' r1 (Fl.iH w))):=by
    rw[mz (by lia),Fl.vJ,ay (fun z=>Fl.sr w z.1.symm)]
   have hx2:ky ((r1.set w (Fl.at' r1 w-a)).map V.int).length ((Fl.iH w:Nat):Int)=some (Fl.iH w):=ym (by rw[ae];lia)
   subst hR5
   simp_arith[e15,mX,eR5,uR,h2,hx2]
   refine⟨gm _,_,rfl,b5.trans (But.at R H5 _),?_⟩
   rw[ij,hps,AK]
   rfl
  ·rintro σ H4 ⟨v3,rfl,s4,eR4⟩
   rw[hnl,aR]at eR4
   subst hR
   walk_at "D"
   exact h H4 s4 eR4
theorem Dx(B:Blt mg)(D:MthAt K C_Net "fill" "Net.fill" (ja 9 2) ["self","source","sink"] f fd)(Dqp:MthAt K C_Net "shortest" "Net.shortest" (ja 9 3) ["self","source","sink"] fqp dqp)(Gqp:FnOk P w K mg base iE 2 fqp dqp ["self","source","sink"] (yQ C_Net))(Dq9:MthAt K C_Net "push" "Net.push" (ja 9 5) ["self","trail"] fq9 dq9)(Gq9:FnOk P w K mg base iE 1 fq9 dq9 ["self","trail"] (xV C_Net))(T:NetC K mg C_Net):FnOk P w K mg base iE 3 f fd ["self","source","sink"] (xS C_Net):=by
 have sc:FnScope ["self","source","sink","flowing","trail"] ["self","source","sink"] (iU (ja 9 2)):=by walk_at "SC"
 refine D.F.ok sc (fun vs H Q E h=>?_) (fun cdv A outer s H vs Q E hr h=>?_)
 ·obtain⟨p,s,t,R,wf,hs,m,n,r,cap,rfl,_⟩:=h
  rfl
 obtain⟨p,s,t,R,wf,hs,m,n,r,cap,rfl,N,st,s0,s1,rm,h⟩:=h
 have hu:=i8 hr
 have hu0:_<PySem.cLine:=aF hu
 refine⟨_,(iu (iF (i:=3) sc.nd rfl (Or.inl rfl) ip) (iu (iF (i:=4) sc.nd rfl (Or.inl rfl) (lM (qv 0) T.cl Dqp.m Gqp (hr.mono (by decide)) Dqp.b .nil iI (ig (qv 1) (ig (qv 2) ik)))) (iu (nZ aZ (yD (qv 4)) (iu (qI (i:=3) sc.nd rfl (Or.inl rfl) (lM (qv 0) T.cl Dq9.m Gq9 (hr.mono (by decide)) Dq9.b .nil iI (ig (qv 4) ik)) qH) (iB (iF (i:=4) sc.nd rfl (Or.inl rfl) (lM (qv 0) T.cl Dqp.m Gqp (hr.mono (by decide)) Dqp.b .nil iI (ig (qv 1) (ig (qv 2) ik))))))) (iB (iP (qv 3)))))),?_⟩
 refine iG fun R' hR=>?_
 walk_at "D"
 subst hR
 refine iG fun R' hR=>?_
 obtain⟨dx,W,Hd,ls,e1,e2,e3,e4,e5,n1,n2,n3⟩:=N.st
 simp_arith[e1,AR]
 refine⟨p,s,t,R,wf,hs,m,n,r,rfl,N,s0,s1,fun l H1 hl q1 el=>?_⟩
 have lR:l≠R:=(iC N.eR hl).symm
 subst hR
 refine iG fun R' hR=>?_
 refine rD (fun σ Hc=>∃(x:Int) (l:Addr) (r1:List Int),σ=[some (.ref p),some (.int s),some (.int t),some (.int x),some (.ref l)]/\But R H Hc/\Hc R=some (.lst (r1.map V.int))/\Fl.Runs wf hs n s t r r1/\Fl.Rooms m cap r1/\Hc l=some (.lst (nv (Fl.jX wf hs n s t r1)))/\l≠R) (fun _ Hc=>match Hc R with |some (.lst xs)=>(Fl.vH cap m-Fl.ex hs m (unI xs) t).toNat|_=>0) ⟨0,l,r,rfl,fun b o _ q=>q1 b o q,q1 _ _ N.eR,.done r,rm,el,lR⟩ ?_ ?_
 ·rintro σ Hc ⟨x,l,r1,rfl,b2,eR2,run,rm1,el2,lR⟩
  have N2:=N.but b2 eR2 rm1.len
  have e12:=b2 _ _ n3 e1
  by_cases ct:Fl.jX wf hs n s t r1=[]
  ·have hst:Fl.kE wf hs n s t r1=none:=by unfold Fl.kE;rw[az ct]
   have hne:(nv (Fl.jX wf hs n s t r1)).isEmpty=true:=by rw[ct];rfl
   simp_arith[el2,hne]
   subst hR
   walk_at "D"
   exact h x r1 Hc run hst b2 eR2
  ·have hst:Fl.kE wf hs n s t r1=some (Fl.push r1 (Fl.jX wf hs n s t r1) (Fl.kr r1 (Fl.jX wf hs n s t r1))):=by unfold Fl.kE;rw[ay ct]
   have hne:(nv (Fl.jX wf hs n s t r1)).isEmpty=false:=by unfold nv;cases hq:Fl.jX wf hs n s t r1 with |nil=>exact absurd hq ct|cons _ _=>rfl
   obtain⟨_,gi,G⟩:=Fl.vQ N.net st ⟨s0,s1⟩ ct
   have hk:=Fl.wx N.net st ⟨s0,s1⟩ rm1 hst
   have hle:=Fl.rZ (hs:=hs) (cb:=Fl.jD wf hs n s r1) n t
   simp_arith[el2,hne,e12,Ei]
   refine⟨p,l,R,wf,hs,m,n,r1,_,rfl,N2,el2,lR,ct,bo hle N.n200,fun w hw=>(G.up w hw).1,fun H3 b3 eR3=>?_⟩
   have b4:=b2.trans b3
   have N3:=N2.but b3 eR3 (by rw[Fl.qd];exact rm1.len)
   simp_arith[b4 _ _ n3 e1,AR]
   refine⟨p,s,t,R,wf,hs,m,n,_,rfl,N3,s0,s1,fun l2 H5 hl2 q5 el5=>?_⟩
   have eR5:=q5 _ _ eR3
   refine⟨⟨_,l2,_,rfl,b4.trans fun b o _ q=>q5 b o q,eR5,run.snoc hst,hk.1,el5,(iC eR3 hl2).symm⟩,?_⟩
   rw[eR5,eR2]
   dsimp only
   rw[yW,yW]
   have:=hk.2.2
   have:=Fl.Ht (hs:=hs) hk.1 t
   lia
 ·intro σ Hc Q1 Q2 hq hc
  exact zp hq hc
structure NtG(C:Addr)(H:Hp)(p dx W Hd R:Addr)(ls:List Addr)(f:Nat->List V)(hv rv:List V):Prop where
 o:H p=some (jO C dx W Hd R)
 w:H W=some (.lst (ls.map V.ref))
 l:∀(i:Nat) (a:Addr),ls[i]? =some a->H a=some (.lst (f i))/\a≠R/\a≠Hd/\a≠W
 nd:ls.Nodup
 h:H Hd=some (.lst hv)
 r:H R=some (.lst rv)
 n1:W≠R
 n2:Hd≠R
 n3:W≠Hd
def ou(H:Hp)(wa Hd R:Addr)(a b c:List V):Hp:=upd (upd (upd H wa (.lst a)) Hd (.lst b)) R (.lst c)
theorem NtG.put{C:Addr}{H:Hp}{p dx W Hd R:Addr}{ls:List Addr}{f:Nat->List V}{hv rv:List V}(G:NtG C H p dx W Hd R ls f hv rv){i:Nat}{wa:Addr}(hi:ls[i]? =some wa)(x y z:V):
  NtG C (ou H wa Hd R (f i++[x]) (hv++[y]) (rv++[z])) p dx W Hd R ls (fun j=>if j=i then f i++[x]else f j) (hv++[y]) (rv++[z]):=by
 obtain⟨a1,a2,a3,a4⟩:=G.l i wa hi
 have p1:p≠wa:=lD G.o a1 (by intro z;cases z)
 have p2:p≠Hd:=lD G.o G.h (by intro z;cases z)
 have p3:p≠R:=lD G.o G.r (by intro z;cases z)
 unfold ou
 refine⟨by rw[ir p3,ir p2,ir p1];exact G.o,by rw[ir G.n1,ir G.n3,ir (cR a4)];exact G.w,fun j a ha=>?_,G.nd,by rw[ir G.n2,ij],ij,G.n1,G.n2,G.n3⟩
 obtain⟨b1,b2,b3,b4⟩:=G.l j a ha
 refine⟨?_,b2,b3,b4⟩
 rw[ir b2,ir b3]
 by_cases c:j=i
 ·subst c
  rw[hi]at ha
  cases ha
  rw[az rfl,ij]
 ·rw[ay c,ir (fun e=>c ?_)]
  ·exact b1
  ·subst e
   have h1:=(ah.mp ha)
   have h2:=(ah.mp hi)
   exact(fm G.nd).mp (h1.2.trans h2.2.symm)
def zJ(C:Addr):Sp:=fun vs H Q _=>∃p dx W Hd R ls f hv rv i wa hd rm,vs=[.ref p,.int ((i:Nat):Int),.int hd,.int rm]/\NtG C H p dx W Hd R ls f hv rv/\ls[i]? =some wa/\(f i).length<=900/\hv.length<=900/\rv.length<=900/\Q .non (ou H wa Hd R (f i++[.int (hv.length:Int)]) (hv++[.int hd]) (rv++[.int rm]))
def xT(C:Addr):Sp:=fun vs H Q _=>∃p dx n al zs as,vs=[.ref p,.int ((n:Nat):Int),.ref al]/\H p=some (.ins C dx [])/\H al=some (.lst zs)/\j9 H zs as/\n<=200/\as.length<=450/\(∀a∈as,(0<=a.1/\a.1<(n:Int))/\0<=a.2.1/\a.2.1<(n:Int))/\∀R H',H R=none->But p H H'->Nt C H' p R (Fl.jE as) (Fl.hsA as) as.length n (Fl.jI as)->Q .non H'
theorem Bv(as:List Fl.jM)(u:Int):(Fl.jE as u).length<=2*as.length:=by
 unfold Fl.jE
 have:=bu (fun w=>decide (Fl.at' (Fl.hsA as) (Fl.iH w)=u)) (List.range (2*as.length))
 rw[bS]at this
 exact this
theorem But.upd{p q:Addr}{H H':Hp}{o:HO}(b:But p H H')(h:H q=none):But p H (upd H' q o):=fun c u n e=>by rw[ir (iC e h)];exact b c u n e
theorem xI(a b:List Nat):nv (a++b)=nv a++nv b:=ao
theorem FU(B:Blt mg)(D:MthAt K C_Net "put_way" "Net.put_way" (ja 9 1) ["self","tail","head","room"] f fd)(T:NetC K mg C_Net):FnOk P w K mg base iE 1 f fd ["self","tail","head","room"] (zJ C_Net):=by
 have sc:FnScope ["self","tail","head","room"] ["self","tail","head","room"] (iU (ja 9 1)):=by walk_at "SC"
 refine D.F.ok sc (fun vs H Q E h=>?_) (fun cdv A outer s H vs Q E hr h=>?_)
 ·obtain⟨p,dx,W,Hd,R,ls,f,hv,rv,i,wa,hd,rm,rfl,_⟩:=h
  rfl
 obtain⟨p,dx,W,Hd,R,ls,f,hv,rv,i,wa,hd,rm,rfl,G,hi,l1,l2,l3,h⟩:=h
 have hu:=i8 hr
 have hu0:_<PySem.cLine:=aF hu
 refine⟨_,(iu (jK (ka aQ bg bf kf (iz iA (kx T.cl T.n_ways_from (qv 0) rfl) (qv 1) (fun _ _=>rfl)) (ig (jg kW rfl B.len bQ (ig (kx T.cl T.n_heads (qv 0) rfl) ik)) ik))) (iu (jK (ka aQ bg bf kf (kx T.cl T.n_heads (qv 0) rfl) (ig (qv 2) ik))) (iB (jK (ka aQ bg bf kf (kx T.cl T.n_rooms (qv 0) rfl) (ig (qv 3) ik)))))),?_⟩
 have e1:=G.o
 have e2:=G.w
 have e3:=G.h
 have hat:=tF hi
 obtain⟨a1,a2,a3,a4⟩:=G.l i wa hi
 have p1:p≠wa:=lD G.o a1 (by intro z;cases z)
 have p2:p≠Hd:=lD G.o G.h (by intro z;cases z)
 refine iG fun R' hR=>?_
 simp_arith[iD,e1,sS,oG,e2,hat,a1,e3]
 refine⟨⟨wa,_,rfl,a1⟩,iW (by lia),?_⟩
 have e4:upd H wa (.lst (f i++[.int (hv.length:Int)])) p=some (jO C_Net dx W Hd R):=by rw[ir p1];exact e1
 have e5:upd H wa (.lst (f i++[.int (hv.length:Int)])) Hd=some (.lst hv):=by rw[ir (cR a3)];exact e3
 have e6:upd H wa (.lst (f i++[.int (hv.length:Int)])) R=some (.lst rv):=by rw[ir (cR a2)];exact G.r
 subst hR
 refine iG fun R' hR=>?_
 simp_arith[e4,oG,e5]
 refine⟨⟨Hd,_,rfl,e5⟩,iW (by lia),?_⟩
 have e7:upd (upd H wa (.lst (f i++[.int (hv.length:Int)]))) Hd (.lst (hv++[.int hd])) p=some (jO C_Net dx W Hd R):=by rw[ir p2];exact e4
 have e8:upd (upd H wa (.lst (f i++[.int (hv.length:Int)]))) Hd (.lst (hv++[.int hd])) R=some (.lst rv):=by rw[ir (cR G.n2)];exact e6
 subst hR
 simp_arith[e7,mX,e8]
 exact⟨⟨R,_,rfl,e8⟩,iW (by lia),h⟩
theorem Tp.tups{H H':Hp}{v:V}{p:Int×Int×Int}(h:Tp H v p)(s:TupS H H'):Tp H' v p:=let⟨a,e,q⟩:=h;⟨a,e,s _ _ rfl q⟩
theorem jk{H H':Hp}(s:TupS H H'):∀{xs:List V} {ps:List (Int×Int×Int)},j9 H xs ps->j9 H' xs ps
 |_,_,.nil=>.nil
 |_,_,.cons r t=>.cons (Tp.tups r s) (jk s t)
theorem NtG.congr{C:Addr}{H:Hp}{p dx W Hd R:Addr}{ls:List Addr}{f g:Nat->List V}{hv rv hv' rv':List V}(G:NtG C H p dx W Hd R ls f hv rv)(h:∀i,i<ls.length->f i=g i)(e1:hv=hv')(e2:rv=rv'):NtG C H p dx W Hd R ls g hv' rv':=by
 subst e1 e2
 exact ⟨G.o,G.w,fun i a ha=>by rw [<- h i (ah.mp ha).1]; exact G.l i a ha,G.nd,G.h,G.r,G.n1,G.n2,G.n3⟩
theorem zB{p wa Hd R:Addr}{H H':Hp}{a b c:List V}(s:But p H H')(h1:H wa=none)(h2:H Hd=none)(h3:H R=none):But p H (ou H' wa Hd R a b c):=((s.upd h1).upd h2).upd h3
theorem DW{as:List Fl.jM}{a:Fl.jM}{i1 i2 j:Nat}(h1:a.1=(i1:Int))(h2:a.2.1=(i2:Int)){x y:V}(hx:x= .int ((2*as.length:Nat):Int))(hy:y= .int ((2*as.length+1:Nat):Int)):
  (if j=i2 then(if i2=i1 then nv (Fl.jE as (i1:Int))++[x]else nv (Fl.jE as (i2:Int)))++[y]else(if j=i1 then nv (Fl.jE as (i1:Int))++[x]else nv (Fl.jE as (j:Int))))=nv (Fl.jE (as++[a]) (j:Int)):=by
 rw[Fl.Bu,xI,xI,h1,h2,hx,hy]
 by_cases c1:j=i1
 ·by_cases c2:j=i2
  ·have:i2=i1:=by lia
   subst c2
   subst this
   rw[az rfl,az rfl,az rfl,az rfl]
   rfl
  ·subst c1
   rw[ay c2,az rfl,az rfl,ay (by lia)]
   show _=_++[]
   rw[bq]
   rfl
 ·by_cases c2:j=i2
  ·subst c2
   rw[az rfl,ay c1,ay (by lia),az rfl]
   show _=(_++[])++_
   rw[bq]
   rfl
  ·rw[ay c2,ay c1,ay (by lia),ay (by lia)]
   show _=(_++[])++[]
   rw[bq,bq]
theorem Dy(B:Blt mg)(D:MthAt K C_Net "__init__" "Net.__init__" (ja 9 0) ["self","many","arcs"] f fd)(Dqo:MthAt K C_Net "put_way" "Net.put_way" (ja 9 1) ["self","tail","head","room"] fqo dqo)(Gqo:FnOk P w K mg base iE 1 fqo dqo ["self","tail","head","room"] (zJ C_Net))(T:NetC K mg C_Net):FnOk P w K mg base iE 2 f fd ["self","many","arcs"] (xT C_Net):=by
 have sc:FnScope ["self","many","arcs","tail","head","room"] ["self","many","arcs"] (iU (ja 9 0)):=by walk_at "SC"
 refine D.F.ok sc (fun vs H Q E h=>?_) (fun cdv A outer s H vs Q E hr h=>?_)
 ·obtain⟨p,dx,n,al,zs,as,rfl,_⟩:=h
  rfl
 obtain⟨p,dx,n,al,zs,as,rfl,ep,eal,pz,hn,ha,hok,h⟩:=h
 have hu:=i8 hr
 have hu0:_<PySem.cLine:=aF hu
 refine⟨_,(iu (uv T.cl T.n_ways_from (qv 0) (jW (CpScope.of (N:=["knot"]) (src:=[none]) (by rfl)) rfl (rH rfl B.range (ig (qv 1) ik)) (fun _ _ _ _=>(iJ (i:=0) (jc (l:=["knot"]) (by rfl)) rfl (Or.inl rfl))) (fun _ _ _ _=>mF) (fun _ _ _ _=>(jJ ik))) rfl) (iu (uv T.cl T.n_heads (qv 0) (jJ ik) rfl) (iu (uv T.cl T.n_rooms (qv 0) (jJ ik) rfl) (iB (jR aZ rfl (jx (qv 2)) (j5 (n:=3) rfl (jb (iJ (i:=3) sc.nd rfl (Or.inl rfl)) (jb (iJ (i:=4) sc.nd rfl (Or.inl rfl)) (jb (iJ (i:=5) sc.nd rfl (Or.inl rfl)) j6)))) (iu (jK (lM (qv 0) T.cl Dqo.m Gqo (hr.mono (by decide)) Dqo.b .nil iI (ig (qv 3) (ig (qv 4) (ig (qv 5) ik))))) (iB (jK (lM (qv 0) T.cl Dqo.m Gqo (hr.mono (by decide)) Dqo.b .nil iI (ig (qv 4) (ig (qv 3) (ig ip ik)))))))))))),?_⟩
 have hlz:zs.length=as.length:=aO pz
 have alp:al≠p:=lD eal ep (by intro z;cases z)
 refine iG fun R' hR=>?_
 walk_at "D"
 refine jS (kZ 0 n) H (fun R2 hR2=>?_) (fun W hW=>jP n (fun i σ' Hc=>∃w1 ls,σ'=[w1]/\Same H Hc/\Hc W=some (.lst (ls.map V.ref))/\ls.length=i/\ls.Nodup/\∀a∈ls,Hc a=some (.lst [])/\a≠W/\H a=none) ⟨none,[],rfl,iy hW _,ij,rfl,.nil,fun a z=>by cases z⟩ ?_ ?_)
 ·unfold oJ
  walk_at "D"
  exact⟨_,rfl,by lia,by lia,hR2⟩
 ·rintro i σ' Hc hi ⟨w1,ls,rfl,s1,eW,hl,nd,hls⟩
  refine⟨hi,?_⟩
  rintro y H' ⟨rfl,rfl⟩
  walk_at "D"
  intro b hb
  have q:=iy hb (.lst [])
  have eb:upd H' b (.lst []) b=some (.lst []):=ij
  have eW2:=q _ _ eW
  have bW:b≠W:=(iC eW hb).symm
  have s2:=s1.trans q
  have hls2:∀a∈ls,upd H' b (.lst []) a=some (.lst [])/\a≠b:=fun a ha=>⟨q _ _ (hls a ha).1,iC (hls a ha).1 hb⟩
  generalize upd H' b (.lst [])=H3 at q eb eW2 s2 hls2
  refine⟨_,eW2,by rw[ae];exact iW (by lia),_,ls++[b],rfl,i4 s2 hW,by rw[ij,ao];rfl,by rw[aB,hl];rfl,?_,fun a ha=>?_⟩
  ·rw[bZ]
   refine⟨nd,by simp,fun a ha c hc=>?_⟩
   rw[aC.mp hc]
   exact(hls2 a ha).2
  ·rcases aM.mp ha with ha|ha
   ·refine⟨by rw[ir (hls a ha).2.1];exact(hls2 a ha).1,(hls a ha).2⟩
   ·rw[aC.mp ha]
    exact⟨by rw[ir bW];exact eb,bW,s1.free hb⟩
 rintro σ' H1 ⟨w1,ls,rfl,s1,eW,hl,nd,hls⟩
 refine⟨au _,?_⟩
 have ep1:=s1 _ _ ep
 simp_arith[ep1]
 refine⟨de rfl,?_⟩
 have b2:But p H (upd H1 p (.ins C_Net dx (i5 "ways_from" (.ref W) []))):=fun b o n q=>by rw[ir n];exact s1 b o q
 have ep2:upd H1 p (.ins C_Net dx (i5 "ways_from" (.ref W) [])) p=some (.ins C_Net dx (i5 "ways_from" (.ref W) [])):=ij
 have Wp:W≠p:=(iC ep hW).symm
 have eW2:upd H1 p (.ins C_Net dx (i5 "ways_from" (.ref W) [])) W=some (.lst (ls.map V.ref)):=by rw[ir Wp];exact eW
 have hls2:∀a∈ls,upd H1 p (.ins C_Net dx (i5 "ways_from" (.ref W) [])) a=some (.lst [])/\a≠W/\H a=none:=fun a ha=>⟨by rw[ir (iC ep (hls a ha).2.2).symm];exact(hls a ha).1,(hls a ha).2⟩
 generalize upd H1 p (.ins C_Net dx (i5 "ways_from" (.ref W) []))=H2 at b2 ep2 eW2 hls2
 clear hls eW ep1 s1
 have free:∀{H':Hp} {q:Addr},But p H H'->H' p≠none->H' q=none->H q=none:=fun{H' q} b hp hq=>by
  cases e:H q with
  |none=>rfl
  |some o=>
   have hqp:q ≠ p:=fun z=>hp (by rw [<- z]; exact hq)
   rw[b _ _ hqp e]at hq
   cases hq
 subst hR
 refine iG fun R' hR=>?_
 walk_at "D"
 intro Hd hHd
 have fHd:H Hd=none:=free b2 (by rw[ep2];simp) hHd
 have ep3:upd H2 Hd (.lst []) p=some (.ins C_Net dx (i5 "ways_from" (.ref W) [])):=iy hHd _ _ _ ep2
 have eHd:upd H2 Hd (.lst []) Hd=some (.lst []):=ij
 have WHd:W≠Hd:=iC eW2 hHd
 have hls3:∀a∈ls,upd H2 Hd (.lst []) a=some (.lst [])/\a≠Hd:=fun a ha=>⟨iy hHd _ _ _ (hls2 a ha).1,iC (hls2 a ha).1 hHd⟩
 have eW3:=iy hHd (.lst []) _ _ eW2
 have b3:But p H (upd H2 Hd (.lst [])):=b2.upd fHd
 generalize upd H2 Hd (.lst [])=H3 at ep3 eHd hls3 eW3 b3
 simp_arith[ep3]
 refine⟨de rfl,?_⟩
 have Hdp:Hd≠p:=(iC ep fHd).symm
 have ep4:upd H3 p (.ins C_Net dx (i5 "heads" (.ref Hd) (i5 "ways_from" (.ref W) []))) p=some (.ins C_Net dx (i5 "heads" (.ref Hd) (i5 "ways_from" (.ref W) []))):=ij
 have eHd4:upd H3 p (.ins C_Net dx (i5 "heads" (.ref Hd) (i5 "ways_from" (.ref W) []))) Hd=some (.lst []):=by rw[ir Hdp];exact eHd
 have eW4:upd H3 p (.ins C_Net dx (i5 "heads" (.ref Hd) (i5 "ways_from" (.ref W) []))) W=some (.lst (ls.map V.ref)):=by rw[ir Wp];exact eW3
 have hls4:∀a∈ls,upd H3 p (.ins C_Net dx (i5 "heads" (.ref Hd) (i5 "ways_from" (.ref W) []))) a=some (.lst []):=fun a ha=>by rw[ir (iC ep (hls2 a ha).2.2).symm];exact(hls3 a ha).1
 have b4:But p H (upd H3 p (.ins C_Net dx (i5 "heads" (.ref Hd) (i5 "ways_from" (.ref W) [])))):=b3.trans (But.at p H3 _)
 generalize upd H3 p (.ins C_Net dx (i5 "heads" (.ref Hd) (i5 "ways_from" (.ref W) [])))=H4 at ep4 eHd4 eW4 hls4 b4
 subst hR
 refine iG fun R' hR=>?_
 walk_at "D"
 intro R hRn
 have fR:H R=none:=free b4 (by rw[ep4];simp) hRn
 have ep5:upd H4 R (.lst []) p=some (.ins C_Net dx (i5 "heads" (.ref Hd) (i5 "ways_from" (.ref W) []))):=iy hRn _ _ _ ep4
 have eR5:upd H4 R (.lst []) R=some (.lst []):=ij
 have eHd5:=iy hRn (.lst []) _ _ eHd4
 have eW5:=iy hRn (.lst []) _ _ eW4
 have WR:W≠R:=iC eW4 hRn
 have HdR:Hd≠R:=iC eHd4 hRn
 have hls5:∀a∈ls,upd H4 R (.lst []) a=some (.lst [])/\a≠R:=fun a ha=>⟨iy hRn _ _ _ (hls4 a ha),iC (hls4 a ha) hRn⟩
 have b5:But p H (upd H4 R (.lst [])):=b4.upd fR
 generalize upd H4 R (.lst [])=H5 at ep5 eR5 eHd5 eW5 hls5 b5
 simp_arith[ep5]
 refine⟨de rfl,?_⟩
 have Rp:R≠p:=(iC ep fR).symm
 have eo:(HO.ins C_Net dx (i5 "rooms" (.ref R) (i5 "heads" (.ref Hd) (i5 "ways_from" (.ref W) []))))=jO C_Net dx W Hd R:=rfl
 rw[eo]
 have b6:But p H (upd H5 p (jO C_Net dx W Hd R)):=b5.trans (But.at p H5 _)
 have G0:NtG C_Net (upd H5 p (jO C_Net dx W Hd R)) p dx W Hd R ls (fun i=>nv (Fl.jE (as.take 0) (i:Int))) ((Fl.hsA (as.take 0)).map V.int) ((Fl.jI (as.take 0)).map V.int):=by
  refine⟨ij,by rw[ir Wp];exact eW5,fun i a hia=>?_,nd,by rw[ir Hdp];exact eHd5,by rw[ir Rp];exact eR5,WR,HdR,WHd⟩
  have ha:=ag hia
  exact⟨by rw[ir (iC ep (hls2 a ha).2.2).symm];exact(hls5 a ha).1,(hls5 a ha).2,(hls3 a ha).2,(hls2 a ha).2.1⟩
 generalize upd H5 p (jO C_Net dx W Hd R)=H6 at b6 G0
 have fls:∀a∈ls,H a=none:=fun a ha=>(hls2 a ha).2.2
 clear hls2 hls3 hls4 hls5 b2 b3 b4 b5 ep2 ep3 ep4 ep5 eW2 eW3 eW4 eW5 eHd eHd4 eHd5 eR5
 subst hR
 refine j7 (ji K al) H6 (fun R3 hR3=>?_) (kO (K:=K) (a:=al) (xs:=zs) (fun k σ Hc=>∃v1 v2 v3,σ=[some (.ref p),some (.int (n:Int)),some (.ref al),v1,v2,v3]/\But p H Hc/\NtG C_Net Hc p dx W Hd R ls (fun i=>nv (Fl.jE (as.take k) (i:Int))) ((Fl.hsA (as.take k)).map V.int) ((Fl.jI (as.take k)).map V.int)) ⟨none,none,none,rfl,b6,G0⟩ (fun i σ Hc _ ⟨_,_,_,_,b,_⟩=>SqL.of (b _ _ alp eal)) ?_ ?_)
 ·unfold jt
  walk_at "D"
  exact⟨al,rfl,⟨_,SqL.of (b6 _ _ alp eal)⟩,hR3⟩
 ·rintro k x σ Hc hx ⟨v1,v2,v3,rfl,b7,G⟩
  obtain⟨a,hka,pa⟩:=j1 pz hx
  obtain⟨t,rfl,et⟩:=Tp.tups pa (b7.tups ep rfl)
  have hkl:=(ah.mp hka).1
  obtain⟨⟨h1,h2⟩,h3,h4⟩:=hok a (ag hka)
  have i1:ls[a.1.toNat]? =some (ls[a.1.toNat]'(by lia)):=gE _
  have i2:ls[a.2.1.toNat]? =some (ls[a.2.1.toNat]'(by lia)):=gE _
  generalize ls[a.1.toNat]'(by lia)=w1 at i1
  generalize ls[a.2.1.toNat]'(by lia)=w2 at i2
  have c1:((a.1.toNat:Nat):Int)=a.1:=by lia
  have c2:((a.2.1.toNat:Nat):Int)=a.2.1:=by lia
  have htk:(as.take k).length=k:=by rw[aS];lia
  have hl1:((Fl.hsA (as.take k)).map V.int).length=2*k:=by rw[ae,Fl.rO,htk]
  have hl2:((Fl.jI (as.take k)).map V.int).length=2*k:=by rw[ae,Fl.qa,htk]
  have hl3:∀u:Int,(nv (Fl.jE (as.take k) u)).length<=2*k:=fun u=>by
   have:=Bv (as.take k) u
   rw[htk]at this
   unfold nv
   rw[ae]
   exact this
  simp_arith[et,G.o,AM]
  refine⟨p,dx,W,Hd,R,ls,_,_,_,a.1.toNat,w1,a.2.1,a.2.2,by rw[c1],G,i1,by have:=hl3 ((a.1.toNat:Nat):Int);lia,by lia,by lia,?_⟩
  have G1:=G.put i1 (.int (((Fl.hsA (as.take k)).map V.int).length:Int)) (.int a.2.1) (.int a.2.2)
  have b8:=zB (wa:=w1) (Hd:=Hd) (R:=R) (a:=nv (Fl.jE (as.take k) ((a.1.toNat:Nat):Int))++[.int (((Fl.hsA (as.take k)).map V.int).length:Int)]) (b:=(Fl.hsA (as.take k)).map V.int++[.int a.2.1]) (c:=(Fl.jI (as.take k)).map V.int++[.int a.2.2]) b7 (fls _ (ag i1)) fHd fR
  generalize ou Hc w1 Hd R (nv (Fl.jE (as.take k) ((a.1.toNat:Nat):Int))++[.int (((Fl.hsA (as.take k)).map V.int).length:Int)]) ((Fl.hsA (as.take k)).map V.int++[.int a.2.1]) ((Fl.jI (as.take k)).map V.int++[.int a.2.2])=H8 at G1 b8
  simp_arith[G1.o,AM]
  refine⟨p,dx,W,Hd,R,ls,_,_,_,a.2.1.toNat,w2,a.1,0,by rw[c2],G1,i2,?_,by rw[aB,hl1];show _+1<=_;lia,by rw[aB,hl2];show _+1<=_;lia,?_⟩
  ·split
   ·rw[aB]
    have:=hl3 ((a.1.toNat:Nat):Int)
    show _+1<=_
    lia
   ·have:=hl3 ((a.2.1.toNat:Nat):Int);lia
  have G2:=G1.put i2 (.int ((((Fl.hsA (as.take k)).map V.int)++[V.int a.2.1]).length:Int)) (.int a.1) (.int 0)
  have b9:=zB (wa:=w2) (Hd:=Hd) (R:=R) (a:=(if a.2.1.toNat=a.1.toNat then nv (Fl.jE (as.take k) ((a.1.toNat:Nat):Int))++[.int (((Fl.hsA (as.take k)).map V.int).length:Int)]else nv (Fl.jE (as.take k) ((a.2.1.toNat:Nat):Int)))++[.int ((((Fl.hsA (as.take k)).map V.int)++[V.int a.2.1]).length:Int)]) (b:=((Fl.hsA (as.take k)).map V.int++[.int a.2.1])++[.int a.1]) (c:=((Fl.jI (as.take k)).map V.int++[.int a.2.2])++[.int 0]) b8 (fls _ (ag i2)) fHd fR
  refine⟨_,_,_,rfl,b9,G2.congr (fun j hj=>?_) ?_ ?_⟩
  ·rw[jy hka]
   exact DW c1.symm c2.symm (by rw[hl1,htk]) (by rw[aB,hl1,htk];rfl)
  ·rw[jy hka,Fl.vj,ao,bp];rfl
  ·rw[jy hka,Fl.wH,ao,bp];rfl
 ·rintro σ Hc ⟨v1,v2,v3,rfl,b7,G⟩
  rw[hlz,aR]at G
  refine h R Hc fR b7 ⟨⟨dx,W,Hd,ls,G.o,G.w,hl,fun i a hia=>⟨(G.l i a hia).1,(G.l i a hia).2.1⟩,G.h,G.n1,G.n2,Rp.symm⟩,G.r,Fl.wR hok,Fl.qa as,by lia,hn⟩
end
end My
namespace Fl
structure Bk(wf:Int->List Nat)(hs r:List Int)(n:Nat)(t:Int)(ms td:List Int)(x:Option Int)(i:Nat):Prop where
 nd:ms.Nodup
 bd:∀v:Int,v∈ms->0<=v/\v<(n:Int)
 t_in:t∈ms
 tin:∀v∈td,v∈ms
 tl:td.length<=ms.length
 cl:∀v∈ms,v∉td->x≠some v->∀w∈wf v,0<at' r (iH w)->at' hs w∈ms
 xc:∀v,x=some v->v∈ms/\∀w∈(wf v).take i,0<at' r (iH w)->at' hs w∈ms
 ind:∀B:Int->Prop,B t->(∀u w,B u->w∈wf u->0<at' r (iH w)->B (at' hs w))->∀v∈ms,B v
structure CoR(wf:Int->List Nat)(hs r:List Int)(n:Nat)(t:Int)(ms:List Int):Prop where
 nd:ms.Nodup
 bd:∀v:Int,v∈ms->0<=v/\v<(n:Int)
 t_in:t∈ms
 cl:∀v∈ms,∀w∈wf v,0<at' r (iH w)->at' hs w∈ms
 ind:∀B:Int->Prop,B t->(∀u w,B u->w∈wf u->0<at' r (iH w)->B (at' hs w))->∀v∈ms,B v
section
variable{wf:Int->List Nat}{hs r:List Int}{n:Nat}{t:Int}{ms td:List Int}
theorem Bk.init(h:0<=t/\t<(n:Int)):Bk wf hs r n t [t] [t] none 0:=by
 refine⟨by simp,fun v hv=>by rw[aC.mp hv];exact h,aC.mpr rfl,fun v hv=>hv,au _,fun v hv h1=>absurd hv h1,fun v z=>(nomatch z),fun B h1 _ v hv=>by rw[aC.mp hv];exact h1⟩
theorem Bk.len(h:Bk wf hs r n t ms td x i):ms.length<=n:=su h.nd h.bd
theorem Bk.pop{v:Int}(h:Bk wf hs r n t ms (td++[v]) none i):Bk wf hs r n t ms td (some v) 0:=by
 refine⟨h.nd,h.bd,h.t_in,fun u hu=>h.tin u (bh _ hu),by have:=h.tl;rw[aB]at this;lia,fun u hu h1 h2=>h.cl u hu (fun z=>?_) (fun z=>(nomatch z)),fun u e=>?_,h.ind⟩
 ·rcases aM.mp z with z|z
  ·exact h1 z
  ·exact h2 (by rw[aC.mp z])
 ·cases e
  exact⟨h.tin _ (bj _ (aC.mpr rfl)),fun w hw=>by rw[List.take_zero]at hw;cases hw⟩
theorem zL{l:List Nat}{i w x:Nat}(h:l[i]? =some w)(hx:x∈l.take (i+1)):x∈l.take i\/x=w:=by
 rw[List.take_succ,h]at hx
 exact(aM.mp hx).imp id fun z=>by simpa using z
theorem Bk.skip{v:Int}{w:Nat}(h:Bk wf hs r n t ms td (some v) i)(hw:(wf v)[i]? =some w)(c:0<at' r (iH w)->at' hs w∈ms):Bk wf hs r n t ms td (some v) (i+1):=by
 refine⟨h.nd,h.bd,h.t_in,h.tin,h.tl,h.cl,fun u e=>?_,h.ind⟩
 cases e
 obtain⟨h1,h2⟩:=h.xc v rfl
 refine⟨h1,fun x hx h0=>?_⟩
 rcases zL hw hx with z|rfl
 ·exact h2 x z h0
 ·exact c h0
theorem Bk.put{v:Int}{w:Nat}(h:Bk wf hs r n t ms td (some v) i)(hw:(wf v)[i]? =some w)(h0:0<at' r (iH w))(hb:0<=at' hs w/\at' hs w<(n:Int))(hn:at' hs w∉ms):Bk wf hs r n t (ms++[at' hs w]) (td++[at' hs w]) (some v) (i+1):=by
 obtain⟨x1,x2⟩:=h.xc v rfl
 have up:∀{u},u∈ms->u∈ms++[at' hs w]:=fun z=>bh _ z
 refine⟨?_,fun u hu=>?_,up h.t_in,fun u hu=>?_,by rw[aB,aB];have:=h.tl;lia,fun u hu h1 h2 k hk hk0=>?_,fun u e=>?_,fun B b1 b2 u hu=>?_⟩
 ·exact bZ.mpr ⟨h.nd,by simp,fun a ha b hb=>fun z=>hn (by rw [aC.mp hb] at z; rw [<- z]; exact ha)⟩
 ·rcases aM.mp hu with z|z
  ·exact h.bd u z
  ·rw[aC.mp z];exact hb
 ·rcases aM.mp hu with z|z
  ·exact up (h.tin u z)
  ·exact bj _ z
 ·rcases aM.mp hu with z|z
  ·exact up (h.cl u z (fun q=>h1 (bh _ q)) h2 k hk hk0)
  ·exact absurd (bj _ z) h1
 ·cases e
  refine⟨up x1,fun k hk hk0=>?_⟩
  rcases zL hw hk with z|rfl
  ·exact up (x2 k z hk0)
  ·exact bj _ (aC.mpr rfl)
 ·rcases aM.mp hu with z|z
  ·exact h.ind B b1 b2 u z
  ·rw[aC.mp z]
   exact b2 v w (h.ind B b1 b2 v x1) (ag hw) h0
theorem Bk.done{v:Int}(h:Bk wf hs r n t ms td (some v) i)(hi:(wf v).length<=i):Bk wf hs r n t ms td none 0:=by
 obtain⟨x1,x2⟩:=h.xc v rfl
 rw[dQ hi]at x2
 refine⟨h.nd,h.bd,h.t_in,h.tin,h.tl,fun u hu h1 _=>?_,fun u z=>(nomatch z),h.ind⟩
 by_cases c:u=v
 ·subst c;exact x2
 ·exact h.cl u hu h1 fun z=>c (aL z).symm
theorem Bk.fin(h:Bk wf hs r n t ms [] none i){ls:List Int}(p:ls.Perm ms):CoR wf hs r n t ls:=
 ⟨p.nodup_iff.mpr h.nd,fun v hv=>h.bd v (p.mem_iff.mp hv),p.mem_iff.mpr h.t_in,fun v hv w hw h0=>p.mem_iff.mpr (h.cl v (p.mem_iff.mp hv) (by simp) (fun z=>(nomatch z)) w hw h0),fun B b1 b2 v hv=>h.ind B b1 b2 v (p.mem_iff.mp hv)⟩
end
end Fl
namespace My
open PySem L2
section
variable{P:Program}{w:World}{K:PySem.W.Frag}{mg:Str->Option Value}{base:Heap}{c1 c2 c3 c4 e1 e2 e3:Tok}{C_Net C_NoWeb fzc:Addr}{dI:FuncData}
def js(ns:List Int):List (iq×V):=ns.map fun n=>(Sum.inl n,V.bl true)
theorem yv:∀(ns:List Int) (n:Int),jA (js ns) n=decide (n∈ns)
 |[],n=>rfl
 | m::r,n=>by
  have ih:=yv r n
  unfold jA iT js at ih ⊢
  rw[aw,List.find?_cons]
  by_cases c:m=n
  ·subst c
   simp
  ·have hd:decide ((Sum.inl m:iq)=Sum.inl n)=false:=aK fun z=>c (cE z)
   dsimp only
   rw[hd]
   rw[ih,c9,cW,cW,aU]
   exact⟨.inr,fun z=>z.resolve_left fun y=>c y.symm⟩
def yM:Sp:=fun vs H Q _=>∃u,∃ns:List Int,vs=[.ref u]/\H u=some (.lst (ns.map V.int))/\ns.Nodup/\ns.length<=120/\∀d H',H d=none->Same H H'->H' d=some (.dK (js ns))->Q (.ref d) H'
structure Cst2(mg:Str->Option Value)(t1 t2 t3:Tok):Prop where
 SOURCE:mg "SOURCE"=some (.int 0 t1)
 SINK:mg "SINK"=some (.int 1 t2)
 FIRST:mg "FIRST"=some (.int 2 t3)
theorem Gk{ι:Type}{src:List (Option Nat)}{wi:TI}{g:TG}{tc:TT}{te:TE}{Q:VK}{σ:St}{H:Hp}(J:ι->It)(H1:ι->Hp)(ok:ι->Prop)(h1:∀R:It->Hp->Prop,(∀p,ok p->R (J p) (H1 p))->wi σ H R)
  (h2:∀p,ok p->∀l,H1 p l=none->oz (J p) src g tc te Q σ (H1 p) l):qw src wi g tc te σ H Q:=h1 _ h2
theorem ua{α β:Type}(f:α->β):∀(b:Bool) (xs:List α),jq b (xs.map f)=(jq b xs).map f
 |true,[]=>rfl
 |false,[]=>rfl
 |true,x::xs=>by show f x::jq false (xs.map f)=f x::(jq false xs).map f;rw[ua f false xs]
 |false,x::xs=>ua f true xs
def yL(C:Addr):Sp:=fun vs H Q _=>∃p R wf hs m n r,vs=[.ref p]/\Nt C H p R wf hs m n r/\∀l H',H l=none->Same H H'->H' l=some (.lst ((jq false r).map V.int))->Q (.ref l) H'
def yP(C:Addr):Sp:=fun vs H Q _=>∃p s R wf hs m n r,vs=[.ref p,.int s]/\Nt C H p R wf hs m n r/\0<=s/\s<(n:Int)/\n<64/\∀(l:Addr) (ms:List Int) (H':Hp),H l=none->Same H H'->H' l=some (.lst (ms.map V.int))->ms.Perm ((Fl.jD wf hs n s r).map (·.1))->Q (.ref l) H'
def wD(C:Addr):Sp:=fun vs H Q _=>∃p t R wf hs m n r,vs=[.ref p,.int t]/\Nt C H p R wf hs m n r/\0<=t/\t<(n:Int)/\n<64/\∀(l:Addr) (ms:List Int) (H':Hp),H l=none->Same H H'->H' l=some (.lst (ms.map V.int))->Fl.CoR wf hs r n t ms->Q (.ref l) H'
theorem mZ(ms:List Int)(v:Int):(iT (js ms) (Sum.inl v:iq)).isSome=decide (v∈ms):=by
 have:=yv ms v
 exact this
theorem El(B:Blt mg)(D:MthAt K C_Net "flows" "Net.flows" (ja 9 6) ["self"] f fd)(T:NetC K mg C_Net):FnOk P w K mg base iE 1 f fd ["self"] (yL C_Net):=by
 have sc:FnScope ["self"] ["self"] (iU (ja 9 6)):=by walk_at "SC"
 refine D.F.ok sc (fun vs H Q E h=>?_) (fun cdv A outer s H vs Q E hr h=>?_)
 ·obtain⟨p,R,wf,hs,m,n,r,rfl,_⟩:=h
  rfl
 obtain⟨p,R,wf,hs,m,n,r,rfl,N,h⟩:=h
 have hu:=i8 hr
 have hu0:_<PySem.cLine:=aF hu
 refine⟨_,(iB (iP (Cq (b:=false) rfl (kx T.cl T.n_rooms (qv 0) rfl)))),?_⟩
 obtain⟨⟨dx,W,Hd,ls,e1,e2,e3,e4,e5,n1,n2,n3⟩,eR,net,hlen,hbig,hn⟩:=N
 simp_arith[e1,mX,eR]
 intro l hl
 rw[ua]
 exact h l _ hl (iy hl _) ij
theorem GZ(B:Blt mg)(D:MthAt K C_Net "reached_from" "Net.reached_from" (ja 9 7) ["self","source"] f fd)(Dqj:MthAt K C_Net "spread" "Net.spread" (ja 9 4) ["self","source"] fqj dqj)(Gqj:FnOk P w K mg base iE 1 fqj dqj ["self","source"] (uN C_Net))(T:NetC K mg C_Net):FnOk P w K mg base iE 2 f fd ["self","source"] (yP C_Net):=by
 have sc:FnScope ["self","source"] ["self","source"] (iU (ja 9 7)):=by walk_at "SC"
 refine D.F.ok sc (fun vs H Q E h=>?_) (fun cdv A outer s H vs Q E hr h=>?_)
 ·obtain⟨p,s,R,wf,hs,m,n,r,rfl,_⟩:=h
  rfl
 obtain⟨p,s,R,wf,hs,m,n,r,rfl,N,s0,s1,h64,h⟩:=h
 have hu:=i8 hr
 have hu0:_<PySem.cLine:=aF hu
 refine⟨_,(iB (iP (jg (Ao rfl) rfl B.sorted eY (ig (lM (qv 0) T.cl Dqj.m Gqj (hr.mono (by decide)) Dqj.b .nil iI (ig (qv 1) ik)) ik)))),?_⟩
 have N0:=N
 obtain⟨⟨dx,W,Hd,ls,e1,e2,e3,e4,e5,n1,n2,n3⟩,eR,net,hlen,hbig,hn⟩:=N
 simp_arith[e1,Ay]
 refine⟨p,s,R,wf,hs,m,n,r,rfl,N0,s0,s1,fun d H1 hd q1 ed=>?_⟩
 have hcl:=Fl.mM (r:=r) net ⟨s0,s1⟩ n
 refine⟨d,_,(Fl.jD wf hs n s r).map (·.1),rfl,ed,?_,by rw[ae];exact gg hcl h64,fun l ms hl pm _=>?_⟩
 ·unfold j8
  rw[bD,bD]
  rfl
 ·exact h l ms _ (q1.free hl) (q1.trans (iy hl _)) ij pm
theorem FS(B:Blt mg)(D:DefAt K mg "marked" (iw 15) ["places"] f fd):FnOk P w K mg base iE 1 f fd ["places"] yM:=by
 have sc:FnScope ["places"] ["places"] (iU (iw 15)):=by walk_at "SC"
 refine D.F.ok sc (fun vs H Q E h=>?_) (fun cdv A outer s H vs Q E hr h=>?_)
 ·obtain⟨u,ns,rfl,_⟩:=h
  rfl
 obtain⟨u,ns,rfl,eu,nd,hl,h⟩:=h
 have hu:=i8 hr
 have hu0:_<PySem.cLine:=aF hu
 refine⟨_,(iB (iP (kY (qS rfl) rfl B.dict dP (ig (jW (CpScope.of (N:=["place"]) (src:=[none]) (by rfl)) rfl (jx (qv 0)) (fun _ _ _ _=>(iJ (i:=0) (jc (l:=["place"]) (by rfl)) rfl (Or.inl rfl))) (fun _ _ _ _=>mF) (fun _ _ _ _=>(j0 (ig (qv 0) (ig ku ik))))) ik)))),?_⟩
 walk_at "D"
 refine jS (ji K u) H (fun R hR=>?_) (fun l hl0=>jP ns.length (fun i σ' Hc=>∃w1 zs,σ'=[w1]/\Same H Hc/\Hc l=some (.lst zs)/\Paired (PairAt Hc) zs (js (ns.take i))) ⟨none,[],rfl,iy hl0 _,ij,.nil⟩ ?_ ?_)
 ·unfold jt
  walk_at "D"
  exact⟨u,rfl,⟨_,SqL.of eu⟩,hR⟩
 ·rintro i σ' Hc hi ⟨w1,zs,rfl,s2,ez,pz⟩
  have x1:ns[i]? =some ns[i]:=gE hi
  have X1:(ns.map V.int)[i]? =some (.int ns[i]):=by rw[aA,x1];rfl
  have hlz:zs.length=(js (ns.take i)).length:=aO pz
  have hlz2:zs.length<=i:=by
   rw[hlz,js,ae,aS]
   lia
  refine⟨⟨_,_,SqL.of (s2 _ _ eu),X1⟩,?_⟩
  rintro y H' ⟨rfl,hy⟩
  have E1:V.int ns[i]=y:=aL (X1.symm.trans (hy _ (SqL.of (s2 _ _ eu))))
  subst E1
  walk_at "D"
  intro t ht
  have ez2:=iy ht (.tup [.int ns[i],.bl true]) _ _ ez
  have t6:=kI (ys:=zs++[.ref t]) ez2
  refine⟨zs,ez2,iW (by lia),_,zs++[.ref t],rfl,i4 (s2.trans (iy ht _)) hl0,(by first|rfl|exact ij),?_⟩
  rw[jy x1,js,ao]
  refine ma (Paired.mapP pz fun v p q=>?_) ?_
  ·obtain⟨b,e,q⟩:=q
   exact⟨b,e,t6 _ _ rfl (iy ht _ _ _ q)⟩
  ·exact⟨t,rfl,t6 _ _ rfl ij⟩
 ·rintro σ' Hc ⟨w1,zs,rfl,s2,ez,pz⟩
  refine⟨⟨_,SqL.of (s2 _ _ eu),by rw[ae];exact au _⟩,?_⟩
  rw[aR]at pz
  have hlz:zs.length=(js ns).length:=aO pz
  rw[js,ae]at hlz
  simp_arith[ez]
  refine⟨js ns,pz,by lia,?_,fun d hd=>h d _ (s2.free hd) (s2.trans (iy hd _)) ij⟩
  unfold js
  rw[bD]
  have e:((fun(x:iq×V)=>x.1)∘fun(n:Int)=>((Sum.inl n:iq),V.bl true))=fun(n:Int)=>(Sum.inl n:iq):=rfl
  rw[e]
  unfold List.Nodup at nd ⊢
  rw[cw]
  exact nd.imp fun q z=>q (cE z)
theorem Gf(B:Blt mg)(D:MthAt K C_Net "reaching" "Net.reaching" (ja 9 8) ["self","sink"] f fd)(T:NetC K mg C_Net):FnOk P w K mg base iE 1 f fd ["self","sink"] (wD C_Net):=by
 have sc:FnScope ["self","sink","met","todo","knot","way","tail"] ["self","sink"] (iU (ja 9 8)):=by walk_at "SC"
 refine D.F.ok sc (fun vs H Q E h=>?_) (fun cdv A outer s H vs Q E hr h=>?_)
 ·obtain⟨p,t,R,wf,hs,m,n,r,rfl,_⟩:=h
  rfl
 obtain⟨p,t,R,wf,hs,m,n,r,rfl,N,t0,t1,h64,h⟩:=h
 have hu:=i8 hr
 have hu0:_<PySem.cLine:=aF hu
 refine⟨_,(iu (iF (i:=2) sc.nd rfl (Or.inl rfl) (uo (uI (qv 1) ku uu) rfl rfl (fun z=>nomatch z) (by decide))) (iu (iF (i:=3) sc.nd rfl (Or.inl rfl) (jJ (ig (qv 1) ik))) (iu (nZ aZ (yD (qv 3)) (iu (iF (i:=4) sc.nd rfl (Or.inl rfl) (qm aQ PySem.F.slot_list_pop PySem.F.type_list_pop wM (qv 3))) (iB (jR aZ rfl (jx (iz iA (kx T.cl T.n_ways_from (qv 0) rfl) (qv 4) (fun _ _=>rfl))) (iJ (i:=5) sc.nd rfl (Or.inl rfl)) (iu (iF (i:=6) sc.nd rfl (Or.inl rfl) (iz iA (kx T.cl T.n_heads (qv 0) rfl) (qv 5) (fun _ _=>rfl))) (iB (je (PW.pt (mC (iS oq (iz iA (kx T.cl T.n_rooms (qv 0) rfl) (iO tq (qv 5) ip) (fun _ _=>rfl)) ip (iQ _)) (nk (lr (nz hu (qv 6) (qv 2)))))) (iu (l7 hu (qv 2) (qv 6) ku) (iB (jK (ka aQ bg bf kf (qv 3) (ig (qv 6) ik))))) jf))))))) (iB (iP (jg (Ao rfl) rfl B.sorted eY (ig (qv 2) ik))))))),?_⟩
 have N0:=N
 obtain⟨⟨dx,W,Hd,ls,e1,e2,e3,e4,e5,n1,n2,n3⟩,eR,net,hlen,hbig,hn⟩:=N
 refine iG fun R' hR=>?_
 walk_at "D"
 intro d hd
 walk_at "D"
 refine⟨ij,[((Sum.inl t:iq),V.bl true)],rfl,(by show 1<=15;decide),?_⟩
 rw[qX,show lJ [] [((Sum.inl t:iq),V.bl true)]=js [t]from rfl]
 have q1:=iy hd (.dK (js [t]))
 have ed:upd H d (.dK (js [t])) d=some (.dK (js [t])):=ij
 generalize upd H d (.dK (js [t]))=H1 at q1 ed
 subst hR
 refine iG fun R' hR=>?_
 walk_at "D"
 intro l hl
 have q2:=q1.trans (iy hl (.lst [.int t]))
 have ed2:=iy hl (.lst [.int t]) _ _ ed
 have el:upd H1 l (.lst [.int t]) l=some (.lst ([t].map V.int)):=ij
 have ld:l≠d:=(iC ed hl).symm
 have hlH:H l=none:=q1.free hl
 generalize upd H1 l (.lst [.int t])=H2 at q2 ed2 el
 subst hR
 refine iG fun R' hR=>?_
 refine rD (fun σ Hc=>∃(ms td:List Int) (v5 v6 v7:Option V),σ=[some (.ref p),some (.int t),some (.ref d),some (.ref l),v5,v6,v7]/\Same H Hc/\Hc d=some (.dK (js ms))/\Hc l=some (.lst (td.map V.int))/\Fl.Bk wf hs r n t ms td none 0) (fun _ Hc=>match Hc d,Hc l with |some (.dK kv),some (.lst xs)=>2*(n-kv.length)+xs.length|_,_=>0) ⟨[t],[t],none,none,none,rfl,q2,ed2,el,.init ⟨t0,t1⟩⟩ ?_ ?_
 rotate_left
 ·intro σ Hc Q1 Q2 hq hc
  exact zp hq hc
 rintro σ Hc ⟨ms,td,v5,v6,v7,rfl,s3,ed3,el3,bk⟩
 have mkl:∀ns:List Int,(js ns).length=ns.length:=fun ns=>ae _
 rcases List.eq_nil_or_concat td with rfl|⟨td0,v,rfl⟩
 ·have hne:(([]:List Int).map V.int).isEmpty=true:=rfl
  simp_arith[el3,hne]
  subst hR
  walk_at "D"
  refine⟨d,_,ms,rfl,ed3,?_,by have:=bk.len;lia,fun l2 ms2 hl2 pm _=>?_⟩
  ·unfold js
   rw[bD]
   rfl
  ·exact h l2 ms2 _ (s3.free hl2) (s3.trans (iy hl2 _)) ij (bk.fin pm)
 ·rw [List.concat_eq_append]at el3 bk
  have hne:((td0++[v]).map V.int).isEmpty=false:=by rw[ao];cases td0<;>rfl
  have hml:=bk.len
  have bk1:=bk.pop
  simp_arith[el3,hne]
  refine⟨⟨l,_,rfl,el3⟩,l,_,.int v,rfl,rfl,el3,?_,?_⟩
  ·rw[ao,aB]
   show((td0.map V.int)++[V.int v])[(td0.map V.int).length+1-1]? =_
   rw[Nat.add_sub_cancel,bR (au _),gw]
   rfl
  have edl:((td0++[v]).map V.int).dropLast=td0.map V.int:=by rw[ao];exact List.dropLast_concat
  rw[edl,ed3]
  have s4:Same H (upd Hc l (.lst (td0.map V.int))):=i4 s3 hlH
  have ed4:upd Hc l (.lst (td0.map V.int)) d=some (.dK (js ms)):=by rw[ir (cR ld)];exact ed3
  have el4:upd Hc l (.lst (td0.map V.int)) l=some (.lst (td0.map V.int)):=ij
  generalize upd Hc l (.lst (td0.map V.int))=H4 at s4 ed4 el4
  have hvb:=bk1.bd v (bk1.xc v rfl).1
  have hla:ls[v.toNat]? =some (ls[v.toNat]'(by lia)):=gE _
  generalize ls[v.toNat]'(by lia)=wa at hla
  have ewa:=(e4 _ _ hla).1
  rw[show((v.toNat:Nat):Int)=v by lia]at ewa
  have hwa:i7 (ls.map V.ref) v=some (.ref wa):=by have:=tF hla;rw[show((v.toNat:Nat):Int)=v by lia]at this;exact this
  refine j7 (ji K wa) H4 (fun R3 hR3=>?_) (kO (K:=K) (a:=wa) (xs:=nv (wf v)) (fun i σ H5=>∃(ms1 td1:List Int) (v6 v7:Option V),σ=[some (.ref p),some (.int t),some (.ref d),some (.ref l),some (.int v),v6,v7]/\Same H H5/\H5 d=some (.dK (js ms1))/\H5 l=some (.lst (td1.map V.int))/\Fl.Bk wf hs r n t ms1 td1 (some v) i/\2*(n-ms1.length)+td1.length<=2*(n-ms.length)+td0.length) ⟨ms,td0,v6,v7,rfl,s4,ed4,el4,bk1,au _⟩ (fun i σ H5 _ ⟨_,_,_,_,_,s5,_⟩=>SqL.of (s5 _ _ ewa)) ?_ ?_)
  ·unfold jt
   simp_arith[iD,s4 _ _ e1,sS,s4 _ _ e2,hwa]
   exact⟨wa,rfl,⟨_,SqL.of (s4 _ _ ewa)⟩,hR3⟩
  ·rintro i x σ H5 hx ⟨ms1,td1,v6,v7,rfl,s5,ed5,el5,bk5,hm5⟩
   unfold nv at hx
   rw[aA]at hx
   obtain⟨w,hw,rfl⟩:=cg.mp hx
   have hwm:=net.from' v w (ag hw)
   have hwm2:=Fl.mQ hwm.1
   have hh:i7 (hs.map V.int) (w:Int)=some (.int (Fl.at' hs w)):=mz (by rw[net.len];exact hwm.1)
   have hr':i7 (r.map V.int) ((Fl.iH w:Nat):Int)=some (.int (Fl.at' r (Fl.iH w))):=mz (by rw[hlen];exact hwm2)
   have hb:=net.knot w hwm.1
   have hm1:=bk5.len
   have ht1:=bk5.tl
   simp_arith[iD,s5 _ _ e1,oG,mX,s5 _ _ e5,hh,uR,s5 _ _ eR,hr']
   by_cases c1:0<Fl.at' r (Fl.iH w)
   ·rw [aD c1,az rfl]
    simp_arith[ed5,mZ]
    by_cases c2:Fl.at' hs w∈ms1
    ·rw[aD c2]
     walk_at "D"
     exact⟨ms1,td1,_,_,rfl,s5,(by first|rfl|exact ed5),el5,bk5.skip hw fun _=>c2,hm5⟩
    ·rw[aK c2]
     walk_at "D"
     have bk6:=bk5.put hw c1 hb c2
     have epk:jr (js ms1) (Sum.inl (Fl.at' hs w):iq) (.bl true)=js (ms1++[Fl.at' hs w]):=by
      rw[uJ]
      ·unfold js;rw[ao];rfl
      ·have:=mZ ms1 (Fl.at' hs w)
       rw[aK c2]at this
       cases e:iT (js ms1) (Sum.inl (Fl.at' hs w):iq)with
       |none=>rfl
       |some x=>rw[e]at this;cases this
     simp_arith[ed5,epk]
     refine⟨iW (by rw[mkl];lia),?_⟩
     have el6:upd H5 d (.dK (js (ms1++[Fl.at' hs w]))) l=some (.lst (td1.map V.int)):=by rw[ir ld];exact el5
     refine⟨⟨l,_,rfl,el6⟩,?_⟩
     rw[el6]
     dsimp only
     refine⟨iW (by rw[ae];lia),ms1++[Fl.at' hs w],td1++[Fl.at' hs w],_,_,rfl,i4 (i4 s5 hd) hlH,?_,?_,bk6,?_⟩
     ·rw[ir (cR ld),ij]
     ·rw[ij,ao];rfl
     ·have:=bk6.len
      rw[aB]at this ⊢
      rw[aB]
      simp only[List.length_cons,List.length_nil]at this ⊢
      lia
   ·rw[aK c1,ay (by decide)]
    walk_at "D"
    exact⟨ms1,td1,_,_,rfl,s5,(by first|rfl|exact ed5),el5,bk5.skip hw fun z=>absurd z c1,hm5⟩
  ·rintro σ H5 ⟨ms1,td1,v6,v7,rfl,s5,ed5,el5,bk5,hm5⟩
   walk_at "D"
   refine⟨⟨ms1,td1,_,_,_,rfl,s5,ed5,el5,bk5.done (by unfold nv;rw[ae];exact au _)⟩,?_⟩
   rw[ed5,el5]
   dsimp only
   rw[mkl,mkl,ae,ae,aB]
   simp only[List.length_cons,List.length_nil]
   lia
def vk(hs:List (Int×Int))(n:Int):Int:=match iT (iR hs) (Sum.inl n:iq)with
 |some (.int i)=>i
 |_=>0
theorem Di{hs:List (Int×Int)}{n:Int}(hn:(hs.map (·.1)).Nodup)(h:n∈hs.map (·.1)):iT (iR hs) (Sum.inl n:iq)=some (.int (vk hs n)):=by
 obtain⟨p,hp,rfl⟩:=aE.mp h
 have e:=pA hn hp
 unfold vk
 rw[e]
theorem TiOk.in{kvs:List (iq×V)}:∀{ts:List (Int×Int)} {q:Int×Int},TiOk kvs q ts->∀p∈ts,p.1<p.2/\jA kvs p.1=true/\jA kvs p.2=true
 |[],_,_,_,h=>by cases h
 |u::r,q,h,p,hp=>by
  rcases aU.mp hp with e|hp
  ·rw[e];exact h.1.2
  ·exact TiOk.in h.2 p hp
theorem o8:∀{ps:List (Int×Int)} {n:Int},jA (iR ps) n=true->n∈ps.map (·.1)
 |[],_,h=>by cases h
 | p::r,n,h=>by
  by_cases c:p.1=n
  ·rw [<- c]; exact aP
  ·refine aH _ (o8 ?_)
   unfold jA iR iT at h
   rw[aw,List.find?_cons]at h
   dsimp only at h
   rw[aK (fun z=>c (cE z))]at h
   exact h
theorem l9{α:Type}{l:List α}{i:Nat}{a d:α}(h:l[i]? =some a):l.getD i d=a:=by rw[bc,h];rfl
theorem y8{xs:List V}{k:Nat}(h1:k<=xs.length):kQ xs (some (k:Int)) none=xs.drop k:=by
 unfold kQ HT.iL
 simp only[ay (show ¬(k:Int)<0 by lia)]
 rw[Nat.min_eq_left (by lia)]
 exact dQ (by rw[eC];exact au _)
def i9(ps:List (Int×Int))(k:Nat):List (Int×Int):=(List.range k).map fun i=>((ps.getD i (0,0)).1,2+(i:Int))
theorem uy(ps:List (Int×Int)):∀k,k<=ps.length->(i9 ps k).map (·.1)=(ps.take k).map (·.1)
 |0,_=>by simp[i9]
 |k+1,h=>by
  have hk:ps[k]? =some ps[k]:=gE (by lia)
  have ih:=uy ps k (by lia)
  unfold i9 at ih ⊢
  rw[cQ,ao,ao,ih,jy hk,ao,List.map_singleton,List.map_singleton,List.map_singleton,l9 hk]
def iM(ps:List (Int×Int))(n:Int):Int:=vk (i9 ps ps.length) n
def ki(ps:List (Int×Int)):Int:=1+(ps.map (·.2)).sum
theorem tV{ps ts:List (Int×Int)}(wk:WebOk ps ts):((i9 ps ps.length).map (·.1)).Nodup:=by
 rw[uy ps ps.length (au _),aR]
 exact wk.p.nodup
theorem nU{ps ts:List (Int×Int)}(wk:WebOk ps ts){n:Int}(h:n∈ps.map (·.1)):iT (iR (i9 ps ps.length)) (Sum.inl n:iq)=some (.int (iM ps n)):=by
 refine Di (tV wk) ?_
 rw[uy ps ps.length (au _),aR]
 exact h
theorem oW{ps ts:List (Int×Int)}(wk:WebOk ps ts){i:Nat}{p:Int}(h:(ps.map (·.1))[i]? =some p):iM ps p=2+(i:Int):=by
 have hi:=(ah.mp h).1
 rw[ae]at hi
 have hm:(p,2+(i:Int))∈i9 ps ps.length:=by
  unfold i9
  refine aE.mpr ⟨i,bK.mpr hi,?_⟩
  rw[aA,gE hi]at h
  have h2:ps[i].1=p:=aL h
  rw[l9 (gE hi),h2]
 have e:=pA (tV wk) hm
 rw[nU wk (ag h)]at e
 exact V.int.inj (aL e)
theorem qJ{ps ts:List (Int×Int)}(wk:WebOk ps ts){p:Int}(h:p∈ps.map (·.1)):2<=iM ps p/\iM ps p<2+(ps.length:Int):=by
 obtain⟨i,hi,e⟩:=aV.mp h
 rw[oW wk (i:=i) (by rw[gE hi,e])]
 rw[ae]at hi
 lia
theorem nj{ps ts:List (Int×Int)}(wk:WebOk ps ts):∀t∈ts,t.1∈ps.map (·.1)/\t.2∈ps.map (·.1):=fun t ht=>by
 obtain⟨_,a,b⟩:=wk.t.in t ht
 exact⟨o8 a,o8 b⟩
theorem PlOk.pos:∀{ps:List (Int×Int)} {l s:Int},PlOk l s ps->∀p∈ps,1<=p.2
 |[],_,_,_,p,h=>by cases h
 |q::r,l,s,h,p,hp=>by
  rcases aU.mp hp with e|hp
  ·rw[e];exact h.1.2.2.1
  ·exact PlOk.pos h.2 p hp
def jw(fs:List Int)(t:Int×Int):Int:=if t.1∈fs then t.1 else t.2
def jz(fs:List Int)(t:Int×Int):Int:=if t.1∈fs then t.2 else t.1
def kS(ps:List (Int×Int))(fs:List Int)(p:Int×Int):Fl.jM:=if p.1∈fs then(0,iM ps p.1,p.2)else(iM ps p.1,1,p.2)
def pN(ps:List (Int×Int))(fs:List Int)(t:Int×Int):Fl.jM:=(iM ps (jw fs t),iM ps (jz fs t),ki ps)
def iK(ps ts:List (Int×Int))(fs:List Int):List Fl.jM:=ps.map (kS ps fs)++ts.map (pN ps fs)
theorem DJ{ps ts:List (Int×Int)}(wk:WebOk ps ts):0<=ki ps:=by
 have h:0<=(ps.map (·.2)).sum:=by
  have:=Fl.p7 (f:=fun _=>(0:Int)) (g:=fun p:Int×Int=>p.2) (l:=ps) fun p hp=>by have:=wk.p.pos p hp;lia
  rw[Fl.mP]at this
  exact this
 unfold ki
 lia
theorem nJ{ps ts:List (Int×Int)}(wk:WebOk ps ts)(fs:List Int):∀t∈ts,jw fs t∈ps.map (·.1)/\jz fs t∈ps.map (·.1):=fun t ht=>by
 obtain⟨a,b⟩:=nj wk t ht
 unfold jw jz
 split
 ·exact⟨a,b⟩
 ·exact⟨b,a⟩
theorem uB{ps ts:List (Int×Int)}(wk:WebOk ps ts)(fs:List Int):∀a∈iK ps ts fs,((0<=a.1/\a.1<((2+ps.length:Nat):Int))/\0<=a.2.1/\a.2.1<((2+ps.length:Nat):Int))/\0<=a.2.2:=fun a ha=>by
 have e:((2+ps.length:Nat):Int)=2+(ps.length:Int):=by lia
 rw[e]
 unfold iK at ha
 rcases aM.mp ha with h|h
 ·obtain⟨p,hp,rfl⟩:=aE.mp h
  have b:=qJ wk (aE.mpr ⟨p,hp,rfl⟩:p.1∈ps.map (·.1))
  have c:=wk.p.pos p hp
  unfold kS
  split<;>dsimp only<;>lia
 ·obtain⟨t,ht,rfl⟩:=aE.mp h
  obtain⟨m1,m2⟩:=nJ wk fs t ht
  have b1:=qJ wk m1
  have b2:=qJ wk m2
  have:=DJ wk
  unfold pN
  dsimp only
  lia
theorem rE(ps ts:List (Int×Int))(fs:List Int):(iK ps ts fs).length=ps.length+ts.length:=by
 unfold iK
 rw[aB,ae,ae]
def uz:Sp:=fun vs H Q _=>∃v ps ts,vs=[v]/\jc3 H v ps ts/\WebOk ps ts/\∀d H',H d=none->Same H H'->H' d=some (.dK (iR (i9 ps ps.length)))->Q (.ref d) H'
def jo(ps:List (Int×Int))(fs ns:List Int):List Int:=(ps.map (·.1)).filter fun n=>decide (decide (n∈fs)≠decide (n∈ns))
def wB:Sp:=fun vs H Q _=>∃v ps ts f fs g ns,vs=[v,.ref f,.ref g]/\jc3 H v ps ts/\ps.length<=40/\H f=some (.dK (js fs))/\H g=some (.dK (js ns))/\∀l H',H l=none->Same H H'->H' l=some (.lst ((jo ps fs ns).map V.int))->Q (.ref l) H'
def kP(gs:List Int)(n:Nat)(ts:List (Int×Int))(k:Nat):List (Int×Int×Int):=((List.range k).map fun j=>((ts.getD j (0,0)).1,(ts.getD j (0,0)).2,2*Fl.at' gs (n+j))).filter fun d=>decide (d.2.2>0)
def xR:Sp:=fun vs H Q _=>∃v ps ts fl gs,vs=[v,.ref fl]/\jc3 H v ps ts/\WebOk ps ts/\H fl=some (.lst (gs.map V.int))/\gs.length=ps.length+ts.length/\∀l zs H',H l=none->Same H H'->H' l=some (.lst zs)->j9 H' zs (kP gs ps.length ts ts.length)->Q (.ref l) H'
def zH(C:Addr):Sp:=fun vs H Q _=>∃v ps ts f fs,vs=[v,.ref f]/\jc3 H v ps ts/\WebOk ps ts/\H f=some (.dK (js fs))/\∀p R H',H R=none->Same H H'->Nt C H' p R (Fl.jE (iK ps ts fs)) (Fl.hsA (iK ps ts fs)) (iK ps ts fs).length (2+ps.length) (Fl.jI (iK ps ts fs))->Q (.ref p) H'
theorem Gi(B:Blt mg)(D:DefAt K mg "spots_of" (iw 37) ["web"] f fd)(C2:Cst2 mg e1 e2 e3):FnOk P w K mg base iE 1 f fd ["web"] uz:=by
 have sc:FnScope ["web"] ["web"] (iU (iw 37)):=by walk_at "SC"
 refine D.F.ok sc (fun vs H Q E h=>?_) (fun cdv A outer s H vs Q E hr h=>?_)
 ·obtain⟨v,ps,ts,rfl,_⟩:=h
  rfl
 obtain⟨v,ps,ts,rfl,hw,wk,h⟩:=h
 obtain⟨u,pa,ta,xs,ys,rfl,hu1,hpa,hta,hxs,hys⟩:=hw
 have hxl:=aO hxs
 have hu:=i8 hr
 have hu0:_<PySem.cLine:=aF hu
 refine⟨_,(iB (iP (kY (qS rfl) rfl B.dict dP (ig (jW (CpScope.of (N:=["at","pair"]) (src:=[none,none]) (by rfl)) rfl (ur rfl B.enumerate (ig (iz iA (qv 0) ip (fun _ _=>rfl)) ik)) (fun _ _ _ _=>(j5 (n:=2) rfl (jb (iJ (i:=0) (jc (l:=["at","pair"]) (by rfl)) rfl (Or.inl rfl)) (jb (iJ (i:=1) (jc (l:=["at","pair"]) (by rfl)) rfl (Or.inl rfl)) j6)))) (fun _ _ _ _=>mF) (fun _ _ _ _=>(j0 (ig (iz iA (qv 1) ip (fun _ _=>rfl)) (ig (iO kc (kX (v:=.int 2) rfl C2.FIRST ⟨_,rfl⟩) (qv 0)) ik))))) ik)))),?_⟩
 have hpl:=wk.pl
 walk_at "D"
 refine jS (oj K pa) H (fun R2 hR2=>?_) (fun z hz0=>jP ps.length (fun i σ' Hc=>∃w1 w2 zs,σ'=[w1,w2]/\Same H Hc/\Hc z=some (.lst zs)/\Prs Hc zs (i9 ps i)) ⟨none,none,[],rfl,iy hz0 _,ij,.nil⟩ ?_ ?_)
 ·unfold A6
  simp_arith[iD,hu1,i3]
  exact⟨pa,rfl,⟨_,SqL.of hpa⟩,hR2⟩
 ·rintro i σ' Hc hi ⟨w1,w2,zs,rfl,s2,ez,pz⟩
  have s3:=s2
  have x1:xs[i]? =some (xs[i]'(by lia)):=gE _
  have z1:SqL K Hc pa xs:=SqL.of (s3 _ _ hpa)
  refine⟨⟨_,_,z1,x1⟩,?_⟩
  rintro x H' ⟨t,y,ht,rfl,rfl,g⟩
  obtain⟨p,hp,px⟩:=j1 hxs (g _ z1)
  have q4:=iy ht (.tup [.int i,y])
  have s4:=s3.trans q4
  obtain⟨b,rfl,eb⟩:=px.same s4
  have et:upd Hc t (.tup [.int i,.ref b]) t=some (.tup [.int i,.ref b]):=ij
  have ez4:=q4 _ _ ez
  have pz4:=Prs.same q4 pz
  have s24:=s2.trans q4
  generalize upd Hc t (.tup [.int i,.ref b])=H4 at q4 s4 eb et ez4 pz4 s24
  have hzl:zs.length=i:=by rw[aO pz];unfold i9;rw[ae,bS]
  simp_arith[et,iD,eb,i3]
  intro t2 ht2
  have q5:=iy ht2 (.tup [.int p.1,.int (2+(i:Int))])
  have ez5:=q5 _ _ ez4
  have t6:=kI (ys:=zs++[.ref t2]) ez5
  refine⟨zs,ez5,iW (by lia),_,_,zs++[.ref t2],rfl,i4 (s24.trans q5) hz0,(by first|rfl|exact ij),?_⟩
  have e:i9 ps (i+1)=i9 ps i++[(p.1,2+(i:Int))]:=by
   unfold i9
   rw[cQ,ao,List.map_singleton,l9 hp]
  rw[e]
  exact ma (Prs.tups t6 (Prs.same q5 pz4)) ⟨t2,rfl,t6 _ _ rfl ij⟩
 rintro σ' H2 ⟨w1,w2,zs,rfl,s2,ez,pz⟩
 have s3:=s2
 refine⟨⟨_,SqL.of (s3 _ _ hpa),by lia⟩,?_⟩
 have hzl:zs.length=ps.length:=by rw[aO pz];unfold i9;rw[ae,bS]
 simp_arith[ez]
 refine⟨iR (i9 ps ps.length),uH pz,by lia,Av (tV wk),fun d hd0=>?_⟩
 have s4:=s3.trans (iy hd0 (.dK (iR (i9 ps ps.length))))
 have ed:upd H2 d (.dK (iR (i9 ps ps.length))) d=some (.dK (iR (i9 ps ps.length))):=ij
 generalize upd H2 d (.dK (iR (i9 ps ps.length)))=H3 at s4 ed
 exact h d H3 (s3.free hd0) s4 ed
theorem GI(B:Blt mg)(D:DefAt K mg "set_of_cut" (iw 38) ["web","first","near_source"] f fd):FnOk P w K mg base iE 1 f fd ["web","first","near_source"] wB:=by
 have sc:FnScope ["web","first","near_source"] ["web","first","near_source"] (iU (iw 38)):=by walk_at "SC"
 refine D.F.ok sc (fun vs H Q E h=>?_) (fun cdv A outer s H vs Q E hr h=>?_)
 ·obtain⟨v,ps,ts,f,fs,g,ns,rfl,_⟩:=h
  rfl
 obtain⟨v,ps,ts,f1,fs,g1,ns,rfl,hw,h40,ef,eg,h⟩:=h
 obtain⟨u,pa,ta,xs,ys,rfl,hu1,hpa,hta,hxs,hys⟩:=hw
 have hxl:=aO hxs
 have hu:=i8 hr
 have hu0:_<PySem.cLine:=aF hu
 refine⟨_,(iB (iP (jW (CpScope.of (N:=["place","price","first","near_source"]) (src:=[none,none,some 1,some 2]) (by rfl)) rfl (jx (iz iA (qv 0) ip (fun _ _=>rfl))) (fun _ _ _ _=>(j5 (n:=2) rfl (jb (iJ (i:=0) (jc (l:=["place","price","first","near_source"]) (by rfl)) rfl (Or.inl rfl)) (jb (iJ (i:=1) (jc (l:=["place","price","first","near_source"]) (by rfl)) rfl (Or.inl rfl)) j6)))) (fun _ _ _ _=>(km (iS nH (qE (my hu (qv 0) (qv 2))) (qE (my hu (qv 0) (qv 3))) (iQ _)))) (fun _ _ _ _=>(qv 0))))),?_⟩
 walk_at "D"
 refine jS (ji K pa) H (fun R2 hR2=>?_) (fun z hz=>jP ps.length (fun i σ' Hc=>∃w1 w2,σ'=[w1,w2,some (.ref f1),some (.ref g1)]/\Same H Hc/\Hc z=some (.lst ((jo (ps.take i) fs ns).map V.int))) ⟨none,none,rfl,iy hz _,ij⟩ ?_ ?_)
 ·unfold jt
  simp_arith[iD,hu1,i3]
  exact⟨pa,rfl,⟨_,SqL.of hpa⟩,hR2⟩
 ·rintro i σ' Hc hi ⟨w1,w2,rfl,s4,ez⟩
  have x1:xs[i]? =some (xs[i]'(by lia)):=gE _
  have z1:SqL K Hc pa xs:=SqL.of (s4 _ _ hpa)
  refine⟨⟨_,_,z1,x1⟩,?_⟩
  rintro y H' ⟨rfl,hy⟩
  obtain⟨q,hq,pq⟩:=j1 hxs (hy _ z1)
  obtain⟨t,rfl,ht⟩:=pq.same s4
  have hcl:(jo (ps.take i) fs ns).length<=200:=bo (bu _ _) (by rw[ae,aS];lia)
  have hcs:jo (ps.take (i+1)) fs ns=jo (ps.take i) fs ns++(if(!decide (decide (q.1∈fs)=decide (q.1∈ns)))=true then[q.1]else[]):=by
   unfold jo
   rw[jy hq,ao,cU,List.map_singleton,bE,List.filter_nil]
   congr 1
   by_cases c:decide (q.1∈fs)=decide (q.1∈ns)<;>simp[c]
  simp_arith[ht,s4 _ _ ef,s4 _ _ eg,mZ]
  cases c:(!decide (decide (q.1∈fs)=decide (q.1∈ns)))with
  | true=>
   rw[c,az rfl]at hcs
   rw[az rfl]
   refine⟨_,ez,?_,_,_,rfl,i4 s4 hz,?_⟩
   ·rw[ae]
    exact iW (by lia)
   ·rw[ij,hcs,ao]
    rfl
  |false=>
   rw[c,ay (by decide),bq]at hcs
   rw[ay (by decide),hcs]
   exact⟨_,_,rfl,s4,ez⟩
 rintro σ' H1 ⟨w1,w2,rfl,s1,ez⟩
 refine⟨⟨_,SqL.of (s1 _ _ hpa),by lia⟩,?_⟩
 rw[aR]at ez
 exact h z H1 hz s1 ez
theorem Gv(B:Blt mg)(D:DefAt K mg "even_dues" (iw 39) ["web","flows"] f fd):FnOk P w K mg base iE 1 f fd ["web","flows"] xR:=by
 have sc:FnScope ["web","flows","across"] ["web","flows"] (iU (iw 39)):=by walk_at "SC"
 refine D.F.ok sc (fun vs H Q E h=>?_) (fun cdv A outer s H vs Q E hr h=>?_)
 ·obtain⟨v,ps,ts,fl,gs,rfl,_⟩:=h
  rfl
 obtain⟨v,ps,ts,fl,gs,rfl,hw,wk,ef,hfl,h⟩:=h
 obtain⟨u,pa,ta,xs,ys,rfl,hu1,hpa,hta,hxs,hys⟩:=hw
 have hxl:=aO hxs
 have hyl:=aO hys
 have hu:=i8 hr
 have hu0:_<PySem.cLine:=aF hu
 refine⟨_,(iu (iF (i:=2) sc.nd rfl (Or.inl rfl) (nX tf (qv 1) (nT (jg kW rfl B.len bQ (ig (iz iA (qv 0) ip (fun _ _=>rfl)) ik))) nR)) (iB (iP (jW (CpScope.of (N:=["tie","amount"]) (src:=[none,none]) (by rfl)) rfl (DH rfl B.zip (ig (iz iA (qv 0) ip (fun _ _=>rfl)) (ig (qv 2) ik))) (fun _ _ _ _=>(j5 (n:=2) rfl (jb (iJ (i:=0) (jc (l:=["tie","amount"]) (by rfl)) rfl (Or.inl rfl)) (jb (iJ (i:=1) (jc (l:=["tie","amount"]) (by rfl)) rfl (Or.inl rfl)) j6)))) (fun _ _ _ _=>(km (iS oq (qv 1) ip (iQ _)))) (fun _ _ _ _=>(j0 (ig (iz iA (qv 0) ip (fun _ _=>rfl)) (ig (iz iA (qv 0) ip (fun _ _=>rfl)) (ig (iO lY ip (qv 1)) ik))))))))),?_⟩
 have hpl:=wk.pl
 have htl:=wk.tl
 refine iG fun R' hR=>?_
 simp_arith[iD,hu1,i3,hpa,ef]
 intro ac hac
 rw [show (xs.length:Int) = ((ps.length:Nat):Int) by lia,y8 (by rw [ae]; lia),<- List.map_drop]
 have q1:=iy hac (.lst ((gs.drop ps.length).map V.int))
 have ea:upd H ac (.lst ((gs.drop ps.length).map V.int)) ac=some (.lst ((gs.drop ps.length).map V.int)):=ij
 generalize upd H ac (.lst ((gs.drop ps.length).map V.int))=H1 at q1 ea
 have hgl:(gs.drop ps.length).length=ts.length:=by rw[eC];lia
 have hgat:∀k,k<ts.length->(gs.drop ps.length)[k]? =some (Fl.at' gs (ps.length+k)):=fun k hk=>by
  unfold Fl.at'
  rw[List.getElem?_drop,bc,gE (by lia)]
  rfl
 subst hR
 walk_at "D"
 refine jS (rX true K ta ac) H1 (fun R2 hR2=>?_) (fun l hl0=>jP ts.length (fun i σ' Hc=>∃w1 w2 zs,σ'=[w1,w2]/\Same H1 Hc/\Hc l=some (.lst zs)/\j9 Hc zs (kP gs ps.length ts i)) ⟨none,none,[],rfl,iy hl0 _,ij,.nil⟩ ?_ ?_)
 ·unfold A4
  simp_arith[iD,q1 _ _ hu1,jh]
  exact⟨true,ta,ac,rfl,⟨_,SqL.of (q1 _ _ hta)⟩,⟨_,SqL.of ea⟩,hR2⟩
 ·rintro i σ' Hc hi ⟨w1,w2,zs,rfl,s6,el,pz⟩
  have s7:=q1.trans s6
  have z1:kq true K Hc ta ys:=SqL.of (s7 _ _ hta)
  have z2:kq true K Hc ac ((gs.drop ps.length).map V.int):=SqL.of (s6 _ _ ea)
  have x1:ys[i]? =some (ys[i]'(by lia)):=gE _
  have x2:((gs.drop ps.length).map V.int)[i]? =some (.int (Fl.at' gs (ps.length+i))):=by rw[aA,hgat i hi];rfl
  refine⟨⟨_,_,_,_,z1,z2,x1,x2⟩,?_⟩
  rintro x H' ⟨t,y1,y2,ht,rfl,rfl,g1,g2⟩
  have E2:=aL (x2.symm.trans (g2 _ z2))
  subst E2
  obtain⟨tt,htt,pt⟩:=j1 hys (g1 _ z1)
  generalize hgi:Fl.at' gs (ps.length+i)=gi at*
  have q8:=iy ht (.tup [y1,.int gi])
  have s8:=s7.trans q8
  obtain⟨tb,rfl,etb⟩:=pt.same s8
  have et:upd Hc t (.tup [.ref tb,.int gi]) t=some (.tup [.ref tb,.int gi]):=ij
  have el8:=q8 _ _ el
  have pz8:=jk q8.tups pz
  have s68:=s6.trans q8
  generalize upd Hc t (.tup [.ref tb,.int gi])=H8 at q8 s8 etb et el8 pz8 s68
  have hdu:kP gs ps.length ts (i+1)=kP gs ps.length ts i++(if gi>0 then[(tt.1,tt.2,2*gi)]else[]):=by
   unfold kP
   rw[cQ,ao,cU,List.map_singleton,l9 htt,hgi]
   congr 1
   rw[bE]
   by_cases c:gi>0
   ·rw[az c,az (aD (show 2*gi>0 by lia))];rfl
   ·rw[ay c,ay (by simp;lia)];rfl
  have hzl:=aO pz
  have hzl2:zs.length<=i:=by
   rw[hzl]
   unfold kP
   refine bo (bu _ _) ?_
   rw[ae,bS]
   exact au _
  simp_arith[et]
  refine kg (fun c=>?_) (fun c=>?_)
  ·rw[az (bC c)]at hdu
   simp_arith[iD,etb,i3,jh]
   refine⟨mL (by decide) (by decide),?_⟩
   intro t2 ht2
   have q9:=iy ht2 (.tup [.int tt.1,.int tt.2,.int (2*gi)])
   have el9:=q9 _ _ el8
   have t9:=kI (ys:=zs++[.ref t2]) el9
   refine⟨zs,el9,iW (by lia),_,_,zs++[.ref t2],rfl,i4 (s68.trans q9) hl0,(by first|rfl|exact ij),?_⟩
   rw[hdu]
   exact ma (jk t9 (jk q9.tups pz8)) ⟨t2,rfl,t9 _ _ rfl ij⟩
  ·rw[ay (fun z=>c (aD z)),bq]at hdu
   rw[hdu]
   exact⟨_,_,zs,rfl,s68,el8,pz8⟩
 ·rintro σ' Hc ⟨w1,w2,zs,rfl,s6,el,pz⟩
  refine⟨⟨_,_,SqL.of ((q1.trans s6) _ _ hta),SqL.of (s6 _ _ ea),.inl (by lia)⟩,?_⟩
  exact h l zs Hc (q1.free hl0) (q1.trans s6) el pz
theorem GG(B:Blt mg)(D:DefAt K mg "net_across" (iw 36) ["web","first"] f fd)(Dqi:DefAt K mg "spots_of" (iw 37) ["web"] fqi dqi)(Gqi:FnOk P w K mg base iE 1 fqi dqi ["web"] uz)(Dqq:MthAt K C_Net "__init__" "Net.__init__" (ja 9 0) ["self","many","arcs"] fqq dqq)(Gqq:FnOk P w K mg base iE 2 fqq dqq ["self","many","arcs"] (xT C_Net))(T:NetC K mg C_Net)(C2:Cst2 mg e1 e2 e3)(MK:Mk K C_Net fqq):FnOk P w K mg base iE 5 f fd ["web","first"] (zH C_Net):=by
 have sc:FnScope ["web","first","plenty","spots","arcs","place","price","one","other","tail","head"] ["web","first"] (iU (iw 36)):=by walk_at "SC"
 refine D.F.ok sc (fun vs H Q E h=>?_) (fun cdv A outer s H vs Q E hr h=>?_)
 ·obtain⟨v,ps,ts,f,fs,rfl,_⟩:=h
  rfl
 obtain⟨v,ps,ts,f1,fs,rfl,hw,wk,ef,h⟩:=h
 obtain⟨u,pa,ta,xs,ys,rfl,hu1,hpa,hta,hxs,hys⟩:=id hw
 have hxl:=aO hxs
 have hyl:=aO hys
 have hu:=i8 hr
 have hu0:_<PySem.cLine:=aF hu
 refine⟨_,(iu (iF (i:=2) sc.nd rfl (Or.inl rfl) (iO kc ip (jg (qt rfl) rfl B.sum dY (ig (jW (CpScope.of (N:=["place","price"]) (src:=[none,none]) (by rfl)) rfl (jx (iz iA (qv 0) ip (fun _ _=>rfl))) (fun _ _ _ _=>(j5 (n:=2) rfl (jb (iJ (i:=0) (jc (l:=["place","price"]) (by rfl)) rfl (Or.inl rfl)) (jb (iJ (i:=1) (jc (l:=["place","price"]) (by rfl)) rfl (Or.inl rfl)) j6)))) (fun _ _ _ _=>mF) (fun _ _ _ _=>(qv 1))) ik)))) (iu (iF (i:=3) sc.nd rfl (Or.inl rfl) (iN Gqi (hr.mono (by decide)) rfl Dqi.m Dqi.F.kp Dqi.b .nil iI (ig (qv 0) ik))) (iu (iF (i:=4) sc.nd rfl (Or.inl rfl) (jJ ik)) (iu (jR aZ rfl (jx (iz iA (qv 0) ip (fun _ _=>rfl))) (j5 (n:=2) rfl (jb (iJ (i:=5) sc.nd rfl (Or.inl rfl)) (jb (iJ (i:=6) sc.nd rfl (Or.inl rfl)) j6))) (iB (jK (ka aQ bg bf kf (qv 4) (ig (rg (lr (my hu (qv 5) (qv 1))) (j0 (ig (kX (v:=.int 0) rfl C2.SOURCE ⟨_,rfl⟩) (ig (j4 hu (qv 3) (qv 5) (fun _ _=>rfl)) (ig (qv 6) ik)))) (j0 (ig (j4 hu (qv 3) (qv 5) (fun _ _=>rfl)) (ig (kX (v:=.int 1) rfl C2.SINK ⟨_,rfl⟩) (ig (qv 6) ik))))) ik))))) (iu (jR aZ rfl (jx (iz iA (qv 0) ip (fun _ _=>rfl))) (j5 (n:=2) rfl (jb (iJ (i:=7) sc.nd rfl (Or.inl rfl)) (jb (iJ (i:=8) sc.nd rfl (Or.inl rfl)) j6))) (iu (iF (i:=9) sc.nd rfl (Or.inl rfl) (rg (lr (my hu (qv 7) (qv 1))) (qv 7) (qv 8))) (iu (iF (i:=10) sc.nd rfl (Or.inl rfl) (rg (lr (my hu (qv 7) (qv 1))) (qv 8) (qv 7))) (iB (jK (ka aQ bg bf kf (qv 4) (ig (j0 (ig (j4 hu (qv 3) (qv 9) (fun _ _=>rfl)) (ig (j4 hu (qv 3) (qv 10) (fun _ _=>rfl)) (ig (qv 2) ik)))) ik))))))) (iB (iP (DE MK Gqq (hr.mono (by decide)) rfl T.m Dqq.b .nil iI (ig (iO kc (kX (v:=.int 2) rfl C2.FIRST ⟨_,rfl⟩) (jg kW rfl B.len bQ (ig (iz iA (qv 0) ip (fun _ _=>rfl)) ik))) (ig (qv 4) ik)))))))))),?_⟩
 have hpl:=wk.pl
 have htl:=wk.tl
 refine iG fun R' hR=>?_
 walk_at "D"
 refine jS (ji K pa) H (fun R2 hR2=>?_) (fun z hz0=>jP ps.length (fun i σ' Hc=>∃w1 w2,σ'=[w1,w2]/\Same H Hc/\Hc z=some (.lst (((ps.take i).map (·.2)).map V.int))) ⟨none,none,rfl,iy hz0 _,ij⟩ ?_ ?_)
 ·unfold jt
  simp_arith[iD,hu1,i3]
  exact⟨pa,rfl,⟨_,SqL.of hpa⟩,hR2⟩
 ·rintro i σ' Hc hi ⟨w1,w2,rfl,s7,ez⟩
  have x1:xs[i]? =some (xs[i]'(by lia)):=gE _
  refine⟨⟨_,_,SqL.of (s7 _ _ hpa),x1⟩,?_⟩
  rintro y H' ⟨rfl,hy⟩
  have E1:=aL (x1.symm.trans (hy _ (SqL.of (s7 _ _ hpa))))
  obtain⟨pr,hpr,px⟩:=j1 hxs x1
  rw[E1]at px
  obtain⟨b,rfl,hb⟩:=px.same s7
  simp_arith[hb]
  refine⟨_,ez,?_,_,_,rfl,i4 s7 hz0,?_⟩
  ·rw[ae,ae,aS]
   exact iW (by lia)
  ·rw[ij,jy hpr,ao,ao]
   rfl
 rintro σ' H1 ⟨w1,w2,rfl,s1,ez⟩
 refine⟨⟨_,SqL.of (s1 _ _ hpa),by lia⟩,?_⟩
 rw[aR]at ez
 refine⟨z,_,rfl,ez,?_⟩
 walk_at "D"
 rw[show(1:Int)+(ps.map (·.2)).sum=ki ps from rfl]
 clear ez
 subst hR
 refine iG fun R' hR=>?_
 walk_at "D"
 refine⟨.ref u,ps,ts,rfl,hw.same s1,wk,fun d H3 hd0 s3' ed=>?_⟩
 have s3:=s1.trans s3'
 subst hR
 refine iG fun R' hR=>?_
 walk_at "D"
 intro al hal
 have falH:=s3.free hal
 have dal:d≠al:=iC ed hal
 have s4:=s3.trans (iy hal (.lst []))
 have ed4:=iy hal (.lst []) _ _ ed
 have eal4:upd H3 al (.lst []) al=some (.lst []):=ij
 generalize upd H3 al (.lst [])=H4 at s4 ed4 eal4
 subst hR
 refine iG fun R' hR=>?_
 refine j7 (ji K pa) H4 (fun R3 hR3=>?_) (kO (K:=K) (a:=pa) (xs:=xs) (fun k σ Hc=>∃v5 v6 ws,σ=[some (.ref u),some (.ref f1),some (.int (ki ps)),some (.ref d),some (.ref al),v5,v6,none,none,none,none]/\Same H Hc/\Hc d=some (.dK (iR (i9 ps ps.length)))/\Hc al=some (.lst ws)/\j9 Hc ws ((ps.take k).map (kS ps fs))) ⟨none,none,[],rfl,s4,ed4,eal4,.nil⟩ (fun k σ Hc _ ⟨_,_,_,_,s5,_⟩=>SqL.of (s5 _ _ hpa)) ?_ ?_)
 ·unfold jt
  simp_arith[iD,s4 _ _ hu1,i3]
  exact⟨pa,rfl,⟨_,SqL.of (s4 _ _ hpa)⟩,hR3⟩
 ·rintro k x σ Hc hx ⟨v5,v6,ws,rfl,sA,edA,ealA,pw⟩
  obtain⟨p,hp,px⟩:=j1 hxs hx
  obtain⟨b,rfl,hb⟩:=px.same sA
  have hv:=nU wk (aE.mpr ⟨p,ag hp,rfl⟩)
  have hkl:=(ah.mp hp).1
  have hwl:ws.length<=k:=by rw[aO pw,ae,aS];lia
  have fin:∀(V1 V2 V3:V) (a:Fl.jM),V1= .int a.1->V2= .int a.2.1->V3= .int a.2.2->kS ps fs p=a->∀t1,Hc t1=none->upd (upd Hc t1 (.tup [V1,V2,V3])) al (.lst (ws++[.ref t1]))=upd (upd Hc t1 (.tup [V1,V2,V3])) al (.lst (ws++[.ref t1]))/\Same H (upd (upd Hc t1 (.tup [V1,V2,V3])) al (.lst (ws++[.ref t1])))/\upd (upd Hc t1 (.tup [V1,V2,V3])) al (.lst (ws++[.ref t1])) d=some (.dK (iR (i9 ps ps.length)))/\upd (upd Hc t1 (.tup [V1,V2,V3])) al (.lst (ws++[.ref t1])) al=some (.lst (ws++[.ref t1]))/\j9 (upd (upd Hc t1 (.tup [V1,V2,V3])) al (.lst (ws++[.ref t1]))) (ws++[.ref t1]) ((ps.take (k+1)).map (kS ps fs)):=by
   rintro V1 V2 V3 a rfl rfl rfl ea t1 ht1
   have qB:=iy ht1 (.tup [.int a.1,.int a.2.1,.int a.2.2])
   have tB:=kI (ys:=ws++[.ref t1]) (qB _ _ ealA)
   refine⟨rfl,i4 (sA.trans qB) falH,by rw[ir dal];exact qB _ _ edA,ij,?_⟩
   rw[jy hp,ao,List.map_singleton,ea]
   exact ma (jk tB (jk qB.tups pw)) ⟨t1,rfl,tB _ _ rfl ij⟩
  simp_arith[hb]
  refine⟨⟨al,ws,rfl,ealA⟩,?_⟩
  simp_arith[sA _ _ ef,mZ,edA,hv]
  by_cases c:p.1∈fs
  ·rw[aD c,az rfl]
   intro t1 ht1
   have ealB:=iy ht1 (.tup [.int 0,.int (iM ps p.1),.int p.2]) _ _ ealA
   rw[ealB]
   dsimp only
   obtain⟨_,f2,f3,f4,f5⟩:=fin _ _ _ (0,iM ps p.1,p.2) rfl rfl rfl (by unfold kS;rw[az c]) t1 ht1
   exact⟨iW (by lia),_,_,_,rfl,f2,f3,f4,f5⟩
  ·rw[aK c,ay (by decide)]
   intro t1 ht1
   have ealB:=iy ht1 (.tup [.int (iM ps p.1),.int 1,.int p.2]) _ _ ealA
   rw[ealB]
   dsimp only
   obtain⟨_,f2,f3,f4,f5⟩:=fin _ _ _ (iM ps p.1,1,p.2) rfl rfl rfl (by unfold kS;rw[ay c]) t1 ht1
   exact⟨iW (by lia),_,_,_,rfl,f2,f3,f4,f5⟩
 rintro σ H6 ⟨v5,v6,ws0,rfl,s9,ed9,eal9,pz9⟩
 refine(?_:R' _ _ _)
 rw[hxl,aR]at pz9
 subst hR
 refine iG fun R' hR=>?_
 refine j7 (ji K ta) H6 (fun R3 hR3=>?_) (kO (K:=K) (a:=ta) (xs:=ys) (fun k σ Hc=>∃v7 v8 v9 v10 ws,σ=[some (.ref u),some (.ref f1),some (.int (ki ps)),some (.ref d),some (.ref al),v5,v6,v7,v8,v9,v10]/\Same H Hc/\Hc d=some (.dK (iR (i9 ps ps.length)))/\Hc al=some (.lst ws)/\j9 Hc ws (ps.map (kS ps fs)++(ts.take k).map (pN ps fs))) ⟨none,none,none,none,ws0,rfl,s9,ed9,eal9,by rw[List.take_zero,bV,bq];exact pz9⟩ (fun k σ Hc _ ⟨_,_,_,_,_,_,s5,_⟩=>SqL.of (s5 _ _ hta)) ?_ ?_)
 ·unfold jt
  simp_arith[iD,s9 _ _ hu1,jh]
  exact⟨ta,rfl,⟨_,SqL.of (s9 _ _ hta)⟩,hR3⟩
 ·rintro k x σ Hc hx ⟨v7,v8,v9,v10,ws,rfl,sA,edA,ealA,pw⟩
  obtain⟨t,htk,pt⟩:=j1 hys hx
  obtain⟨tb,rfl,etb⟩:=pt.same sA
  have hkl:=(ah.mp htk).1
  obtain⟨m1,m2⟩:=nJ wk fs t (ag htk)
  have hv1:=nU wk m1
  have hv2:=nU wk m2
  have hwl:ws.length<=40+k:=by rw[aO pw,aB,ae,ae,aS];lia
  have fin:∀(T1 T2:Int),jw fs t=T1->jz fs t=T2->∀t1,Hc t1=none->upd Hc t1 (.tup [.int (iM ps T1),.int (iM ps T2),.int (ki ps)]) al=some (.lst ws)/\Same H (upd (upd Hc t1 (.tup [.int (iM ps T1),.int (iM ps T2),.int (ki ps)])) al (.lst (ws++[.ref t1])))/\upd (upd Hc t1 (.tup [.int (iM ps T1),.int (iM ps T2),.int (ki ps)])) al (.lst (ws++[.ref t1])) d=some (.dK (iR (i9 ps ps.length)))/\upd (upd Hc t1 (.tup [.int (iM ps T1),.int (iM ps T2),.int (ki ps)])) al (.lst (ws++[.ref t1])) al=some (.lst (ws++[.ref t1]))/\j9 (upd (upd Hc t1 (.tup [.int (iM ps T1),.int (iM ps T2),.int (ki ps)])) al (.lst (ws++[.ref t1]))) (ws++[.ref t1]) (ps.map (kS ps fs)++(ts.take (k+1)).map (pN ps fs)):=by
   rintro T1 T2 e1' e2' t1 ht1
   have qB:=iy ht1 (.tup [.int (iM ps T1),.int (iM ps T2),.int (ki ps)])
   have tB:=kI (ys:=ws++[.ref t1]) (qB _ _ ealA)
   refine⟨qB _ _ ealA,i4 (sA.trans qB) falH,by rw[ir dal];exact qB _ _ edA,ij,?_⟩
   rw [jy htk,ao,List.map_singleton,<- bp]
   exact ma (jk tB (jk qB.tups pw)) (show Tp _ _ (iM ps (jw fs t),iM ps (jz fs t),ki ps)from⟨t1,rfl,by rw[e1',e2'];exact tB _ _ rfl ij⟩)
  simp_arith[etb,sA _ _ ef,mZ]
  by_cases c:t.1∈fs
  ·have e1':jw fs t=t.1:=az c
   have e2':jz fs t=t.2:=az c
   rw[e1']at hv1
   rw[e2']at hv2
   simp only[c,cD,if_true]
   simp_arith[edA,hv1,hv2]
   refine⟨⟨al,ws,rfl,ealA⟩,fun t1 ht1=>?_⟩
   obtain⟨f1',f2,f3,f4,f5⟩:=fin _ _ e1' e2' t1 ht1
   rw[f1']
   dsimp only
   exact⟨iW (by lia),_,_,_,_,_,rfl,f2,f3,f4,f5⟩
  ·have e1':jw fs t=t.2:=ay c
   have e2':jz fs t=t.1:=ay c
   rw[e1']at hv1
   rw[e2']at hv2
   simp only[c,cA,aG,if_false]
   simp_arith[edA,hv1,hv2]
   refine⟨⟨al,ws,rfl,ealA⟩,fun t1 ht1=>?_⟩
   obtain⟨f1',f2,f3,f4,f5⟩:=fin _ _ e1' e2' t1 ht1
   rw[f1']
   dsimp only
   exact⟨iW (by lia),_,_,_,_,_,rfl,f2,f3,f4,f5⟩
 ·rintro σ Hc ⟨v7,v8,v9,v10,ws,rfl,sA,edA,ealA,pw⟩
  rw[hyl,aR]at pw
  have pw:j9 Hc ws (iK ps ts fs):=pw
  subst hR
  simp_arith[iD,sA _ _ hu1,i3,sA _ _ hpa]
  intro p dx hp hdx hne
  have hpal:al≠p:=iC ealA hp
  have hdal:al≠dx:=iC ealA hdx
  have sB:Same Hc (upd (upd Hc dx (.own p)) p (.ins C_Net dx [])):=fun b o q=>by rw[ir (iC q hp),ir (iC q hdx)];exact q
  refine⟨p,dx,2+ps.length,al,ws,iK ps ts fs,by rw[show((2+ps.length:Nat):Int)=2+(xs.length:Int) by lia],ij,sB _ _ ealA,jk sB.tups pw,by lia,by rw[rE];lia,fun a ha=>(uB wk fs a ha).1,fun R H' hR' b N=>?_⟩
  refine⟨rfl,h p R H' (sA.free (sB.free hR')) (fun b' o q=>b b' o (iC (sA _ _ q) hp) (sB _ _ (sA _ _ q))) N⟩
structure RstB(ps ts:List (Int×Int))(fs r nr nt:List Int):Prop where
 run:Fl.Runs (Fl.jE (iK ps ts fs)) (Fl.hsA (iK ps ts fs)) (2+ps.length) 0 1 (Fl.jI (iK ps ts fs)) r
 end_:Fl.kE (Fl.jE (iK ps ts fs)) (Fl.hsA (iK ps ts fs)) (2+ps.length) 0 1 r=none
 nr:∀n,n∈nr↔n∈ps.map (·.1)/\iM ps n∈(Fl.jD (Fl.jE (iK ps ts fs)) (Fl.hsA (iK ps ts fs)) (2+ps.length) 0 r).map (·.1)
 nt:∃ms,Fl.CoR (Fl.jE (iK ps ts fs)) (Fl.hsA (iK ps ts fs)) r (2+ps.length) 1 ms/\∀n,n∈nt↔n∈ps.map (·.1)/\iM ps n∉ms
theorem xO{ps ts:List (Int×Int)}(wk:WebOk ps ts)(fs:List Int):Fl.Rooms (iK ps ts fs).length (Fl.mf (iK ps ts fs)) (Fl.jI (iK ps ts fs)):=Fl.BV fun a ha=>(uB wk fs a ha).2
theorem wU{ps ts:List (Int×Int)}(wk:WebOk ps ts)(fs:List Int):Fl.Net (Fl.jE (iK ps ts fs)) (Fl.hsA (iK ps ts fs)) (iK ps ts fs).length (2+ps.length):=Fl.wR fun a ha=>(uB wk fs a ha).1
theorem AA{ps ts:List (Int×Int)}{fs r:List Int}(wk:WebOk ps ts)(run:Fl.Runs (Fl.jE (iK ps ts fs)) (Fl.hsA (iK ps ts fs)) (2+ps.length) 0 1 (Fl.jI (iK ps ts fs)) r):Fl.Rooms (iK ps ts fs).length (Fl.mf (iK ps ts fs)) r/\∀v,v≠0->v≠1->Fl.ex (Fl.hsA (iK ps ts fs)) (iK ps ts fs).length r v=0:=by
 obtain⟨a,b⟩:=Fl.BU (wU wk fs) (by decide) ⟨bH _,by lia⟩ run (xO wk fs)
 exact⟨a,fun v h1 h2=>(b v h1 h2).trans (Fl.Hu _ _ _ _)⟩
theorem Nt.frz{C:Addr}{H:Hp}{p R d:Addr}{wf:Int->List Nat}{hs:List Int}{m n:Nat}{r:List Int}{kvs:List (iq×V)}(N:Nt C H p R wf hs m n r)(e:H d=some (.dK kvs))(o:HO):Nt C (upd H d o) p R wf hs m n r:=by
 have k:∀a q,H a=some q->(q≠ .dK kvs)->upd H d o a=some q:=fun a q ha hq=>by
  rw[ir (fun z=>by rw[z,e]at ha;exact hq (aL ha).symm)]
  exact ha
 obtain⟨⟨dx,W,Hd,ls,e1,e2,e3,e4,e5,n1,n2,n3⟩,eR,net,hlen,hbig,hn⟩:=N
 exact⟨⟨dx,W,Hd,ls,k _ _ e1 (fun z=>nomatch z),k _ _ e2 (fun z=>nomatch z),e3,fun i a ha=>⟨k _ _ (e4 i a ha).1 (fun z=>nomatch z),(e4 i a ha).2⟩,k _ _ e5 (fun z=>nomatch z),n1,n2,n3⟩,k _ _ eR (fun z=>nomatch z),net,hlen,hbig,hn⟩
theorem DY{α:Type}{xs:List α}{k:Nat}(h:xs.length=2*k):(jq false xs).length=k:=by
 have h1:=oP false xs
 have hge:¬k<(jq false xs).length:=fun z=>by
  have:=h1 k
  rw[gE z,bF (show xs.length<=2*k+(if false=true then 0 else 1) by rw[ay (by decide)];lia)]at this
  cases this
 by_cases c:k=0
 ·lia
 ·have:=h1 (k-1)
  rw[gE (show 2*(k-1)+(if false=true then 0 else 1)<xs.length by rw[ay (by decide)];lia)]at this
  have:=(ah.mp this).1
  lia
def yO(C:Addr):Sp:=fun vs H Q _=>∃v ps ts f col,vs=[v]/\jc3 H v ps ts/\WebOk ps ts/\LabOk ps ts f/\lS ts col/\∀t m1 m2 l us r nr nt H',Same H H'->H t=none->H m1=none->H m2=none->H l=none->m1≠m2->m1≠l->m2≠l->H' t=some (.tup [.ref m1,.ref m2,.ref l])->H' m1=some (.lst ((jo ps (jV f col (ps.map (·.1)) 0) nr).map V.int))->H' m2=some (.lst ((jo ps (jV f col (ps.map (·.1)) 0) nt).map V.int))->H' l=some (.lst us)->j9 H' us (kP (jq false r) ps.length ts ts.length)->RstB ps ts (jV f col (ps.map (·.1)) 0) r nr nt->Q (.ref t) H'
theorem xU{ps:List (Int×Int)}{i:Nat}{p:Int×Int}(h:ps[i]? =some p):(iR (i9 ps ps.length))[i]? =some (Sum.inl p.1,.int (2+(i:Int))):=by
 have hi:=(ah.mp h).1
 unfold iR i9
 rw[bD,aA,eJ hi]
 show some _=_
 dsimp only[Function.comp]
 rw[l9 h]
theorem qW(ps:List (Int×Int)):(iR (i9 ps ps.length)).length=ps.length:=by
 unfold iR i9
 rw[ae,ae,bS]
theorem Gs{C dx W Hd R:Addr}:kM C (some (jO C dx W Hd R)) "reaching"=true:=mx rfl rfl rfl
theorem GH(B:Blt mg)(D:DefAt K mg "pairing_of" (iw 40) ["web"] f fd)(Dq5:DefAt K mg "sides_of" (iw 34) ["web"] fq5 dq5)(Gq5:FnOk P w K mg base iE 6 fq5 dq5 ["web"] yR)(Dqg:DefAt K mg "marked" (iw 15) ["places"] fqg dqg)(Gqg:FnOk P w K mg base iE 1 fqg dqg ["places"] yM)(Dqi:DefAt K mg "spots_of" (iw 37) ["web"] fqi dqi)(Gqi:FnOk P w K mg base iE 1 fqi dqi ["web"] uz)(Dq2:DefAt K mg "net_across" (iw 36) ["web","first"] fq2 dq2)(Gq2:FnOk P w K mg base iE 5 fq2 dq2 ["web","first"] (zH C_Net))(Dq7:MthAt K C_Net "fill" "Net.fill" (ja 9 2) ["self","source","sink"] fq7 dq7)(Gq7:FnOk P w K mg base iE 3 fq7 dq7 ["self","source","sink"] (xS C_Net))(Dza:MthAt K C_Net "reached_from" "Net.reached_from" (ja 9 7) ["self","source"] fza dza)(Gza:FnOk P w K mg base iE 2 fza dza ["self","source"] (yP C_Net))(Dzb:MthAt K C_Net "reaching" "Net.reaching" (ja 9 8) ["self","sink"] fzb dzb)(Gzb:FnOk P w K mg base iE 1 fzb dzb ["self","sink"] (wD C_Net))(Dqn:DefAt K mg "set_of_cut" (iw 38) ["web","first","near_source"] fqn dqn)(Gqn:FnOk P w K mg base iE 1 fqn dqn ["web","first","near_source"] wB)(Dq8:MthAt K C_Net "flows" "Net.flows" (ja 9 6) ["self"] fq8 dq8)(Gq8:FnOk P w K mg base iE 1 fq8 dq8 ["self"] (yL C_Net))(Dqr:DefAt K mg "even_dues" (iw 39) ["web","flows"] fqr dqr)(Gqr:FnOk P w K mg base iE 1 fqr dqr ["web","flows"] xR)(T:NetC K mg C_Net)(C2:Cst2 mg e1 e2 e3):FnOk P w K mg base iE 7 f fd ["web"] (yO C_Net):=by
 have sc:FnScope ["web","told","first","spots","net","reached","reaching","most","fewest"] ["web"] (iU (iw 40)):=by walk_at "SC"
 refine D.F.ok sc (fun vs H Q E h=>?_) (fun cdv A outer s H vs Q E hr h=>?_)
 ·obtain⟨v,ps,ts,fl,col,rfl,_⟩:=h
  rfl
 obtain⟨v,ps,ts,fl,col,rfl,hw,wk,lab,hcol,h⟩:=h
 have hpl:=wk.pl
 have htl:=wk.tl
 have hnd:=wk.p.nodup
 have hu:=i8 hr
 have hu0:_<PySem.cLine:=aF hu
 refine⟨_,(iu (iF (i:=1) sc.nd rfl (Or.inl rfl) (iN Gq5 (hr.mono (by decide)) rfl Dq5.m Dq5.F.kp Dq5.b .nil iI (ig (qv 0) ik))) (iu (je (iS kF (iz iA (qv 1) ip (fun _ _=>rfl)) tP (iQ _)) Fv jf) (iu (iF (i:=2) sc.nd rfl (Or.inl rfl) (iN Gqg (hr.mono (by decide)) rfl Dqg.m Dqg.F.kp Dqg.b .nil iI (ig (iz iA (qv 1) ip (fun _ _=>rfl)) ik))) (iu (iF (i:=3) sc.nd rfl (Or.inr rfl) (iN Gqi (hr.mono (by decide)) rfl Dqi.m Dqi.F.kp Dqi.b .nil iI (ig (qv 0) ik))) (iu (iF (i:=4) sc.nd rfl (Or.inl rfl) (iN Gq2 (hr.mono (by decide)) rfl Dq2.m Dq2.F.kp Dq2.b .nil iI (ig (qv 0) (ig (qv 2) ik)))) (iu (jK (lM (qv 4) T.cl Dq7.m Gq7 (hr.mono (by decide)) Dq7.b .nil iI (ig (kX (v:=.int 0) rfl C2.SOURCE ⟨_,rfl⟩) (ig (kX (v:=.int 1) rfl C2.SINK ⟨_,rfl⟩) ik)))) (iu (iF (i:=5) sc.nd rfl (Or.inr rfl) (iN Gqg (hr.mono (by decide)) rfl Dqg.m Dqg.F.kp Dqg.b .nil iI (ig (lM (qv 4) T.cl Dza.m Gza (hr.mono (by decide)) Dza.b .nil iI (ig (kX (v:=.int 0) rfl C2.SOURCE ⟨_,rfl⟩) ik)) ik))) (iu (iF (i:=6) sc.nd rfl (Or.inr rfl) (iN Gqg (hr.mono (by decide)) rfl Dqg.m Dqg.F.kp Dqg.b .nil iI (ig (lM (qv 4) T.cl Dzb.m Gzb (hr.mono (by decide)) Dzb.b .nil iI (ig (kX (v:=.int 1) rfl C2.SINK ⟨_,rfl⟩) ik)) ik))) (iu (iF (i:=7) sc.nd rfl (Or.inl rfl) (iN Gqn (hr.mono (by decide)) rfl Dqn.m Dqn.F.kp Dqn.b .nil iI (ig (qv 0) (ig (qv 2) (ig (iN Gqg (hr.mono (by decide)) rfl Dqg.m Dqg.F.kp Dqg.b .nil iI (ig (jW (CpScope.of (N:=["place","reached","spots"]) (src:=[none,some 5,some 3]) (by rfl)) rfl (uq (qv 3)) (fun _ _ _ _=>(iJ (i:=0) (jc (l:=["place","reached","spots"]) (by rfl)) rfl (Or.inl rfl))) (fun _ _ _ _=>(km (lr (my hu (nQ (by exact hu) (qv 2) (qv 0) (fun _ _=>rfl)) (qv 1))))) (fun _ _ _ _=>(qv 0))) ik)) ik))))) (iu (iF (i:=8) sc.nd rfl (Or.inl rfl) (iN Gqn (hr.mono (by decide)) rfl Dqn.m Dqn.F.kp Dqn.b .nil iI (ig (qv 0) (ig (qv 2) (ig (iN Gqg (hr.mono (by decide)) rfl Dqg.m Dqg.F.kp Dqg.b .nil iI (ig (jW (CpScope.of (N:=["place","reaching","spots"]) (src:=[none,some 6,some 3]) (by rfl)) rfl (rh (qv 3)) (fun _ _ _ _=>(iJ (i:=0) (jc (l:=["place","reaching","spots"]) (by rfl)) rfl (Or.inl rfl))) (fun _ _ _ _=>(km (lr (nz hu (nQ (by exact hu) (qv 2) (qv 0) (fun _ _=>rfl)) (qv 1))))) (fun _ _ _ _=>(qv 0))) ik)) ik))))) (iB (iP (j0 (ig (qv 7) (ig (qv 8) (ig (iN Gqr (hr.mono (by decide)) rfl Dqr.m Dqr.F.kp Dqr.b .nil iI (ig (qv 0) (ig (Fo (qv 4) T.cl Dq8.m Gq8 (hr.mono (by decide)) Dq8.b .nil iI) ik))) ik)))))))))))))))),?_⟩
 refine iG fun R' hR=>?_
 walk_at "D"
 refine⟨v,ps,ts,fl,col,rfl,hw,wk,lab,hcol,fun t0 a1 a2 H1 n1 n2 n12 s1 et ea1 ea2=>?_⟩
 obtain⟨fs,hfs⟩:∃fs,fs=jV fl col (ps.map (·.1)) 0:=⟨_,rfl⟩
 have fnd:fs.Nodup:=by rw[hfs];exact hnd.filter _
 have fl40:fs.length<=40:=by
  rw[hfs]
  refine bo (bu _ _) ?_
  rw[ae];exact hpl
 rw [<- hfs] at ea1 h
 subst hR
 refine iG fun R' hR=>?_
 simp_arith[iD,et,i3]
 rw[show decide (("sides":Str)="ring")=false from by decide]
 walk_at "D"
 subst hR
 refine iG fun R' hR=>?_
 simp_arith[iD,et,jh]
 refine⟨a1,fs,rfl,ea1,fnd,by lia,fun fd H2 hfd s2' efd=>?_⟩
 have s2:=s1.trans s2'
 clear ea1 ea2 et s2' s1
 subst hR
 refine iG fun R' hR=>?_
 walk_at "D"
 refine⟨v,ps,ts,rfl,hw.same s2,wk,fun d H3 hd s3' ed=>?_⟩
 have s3:=s2.trans s3'
 have efd3:=s3' _ _ efd
 have hd0:=s2.free hd
 have nfd:fd≠d:=iC efd hd
 clear efd s3' hd s2
 subst hR
 refine iG fun R' hR=>?_
 walk_at "D"
 refine⟨v,ps,ts,fd,fs,rfl,hw.same s3,wk,efd3,fun p R H4 fR s4' N=>?_⟩
 have s4:=s3.trans s4'
 have ed4:=s4' _ _ ed
 have efd4:=s4' _ _ efd3
 have fR0:=s3.free fR
 have fdR:fd≠R:=iC efd3 fR
 have dR:d≠R:=iC ed fR
 clear ed efd3 s4' s3 fR
 subst hR
 refine iG fun R' hR=>?_
 obtain⟨dx,W,Hd,ls,o1,_,_,_,_,_,_,pR⟩:=N.st
 simp_arith[o1,Eh]
 refine⟨p,0,1,R,_,_,_,_,_,Fl.mf (iK ps ts fs),rfl,N,by decide,bH _,by lia,xO wk fs,fun x r H5 run fin b5 eR5=>?_⟩
 have rm:=(AA wk run).1
 have N5:=N.but b5 eR5 rm.len
 have s5:Same H H5:=fun b o q=>b5 b o (iC q fR0) (s4 _ _ q)
 have o5:=b5 _ _ pR o1
 have ed5:=b5 _ _ dR ed4
 have efd5:=b5 _ _ fdR efd4
 clear ed4 efd4 o1 s4 eR5 b5 N
 subst hR
 refine iG fun R' hR=>?_
 simp_arith[o5,F9]
 refine⟨p,0,R,_,_,_,_,r,rfl,N5,bH _,by lia,by lia,fun l ms H6 hl s6 el pm=>?_⟩
 have hmn:ms.Nodup:=pm.nodup_iff.mpr (Fl.lT (r:=r) (s:=0) N5.net.from' _).nd
 have hml:ms.length<=120:=by
  rw[pm.length_eq,ae]
  have:=Fl.mM (r:=r) N5.net ⟨bH 0,by lia⟩ (2+ps.length)
  show(Fl.iY _ _ _ _ _).length<=120
  lia
 refine⟨l,ms,rfl,el,hmn,hml,fun rd H7 hrd s7 erd=>?_⟩
 have nrd:rd≠d:=(iC (s6 _ _ ed5) hrd).symm
 have s67:=s6.trans s7
 have N7:=N5.same s67
 have s07:=s5.trans s67
 have ed7:=s67 _ _ ed5
 have efd7:=s67 _ _ efd5
 have o7:=s67 _ _ o5
 clear el s6 s7 N5 s5 ed5 efd5 o5 hrd s67
 subst hR
 refine iG fun R' hR=>?_
 simp_arith[o7,Gs]
 refine⟨p,1,R,_,_,_,_,r,rfl,N7,by lia,by lia,by lia,fun l2 ms2 H8 hl2 s8 el2 cor=>?_⟩
 have h2l:ms2.length<=120:=by
  have:=Fl.su cor.nd cor.bd
  lia
 refine⟨l2,ms2,rfl,el2,cor.nd,h2l,fun gd H9 hgd s9 egd=>?_⟩
 have ngd:gd≠d:=(iC (s8 _ _ ed7) hgd).symm
 have s89:=s8.trans s9
 have NA:=N7.same s89
 have s0A:=s07.trans s89
 have edA:=s89 _ _ ed7
 have efdA:=s89 _ _ efd7
 have oA:=s89 _ _ o7
 have erdA:=s89 _ _ erd
 clear el2 s8 s9 N7 s07 ed7 efd7 o7 erd hgd s89
 subst hR
 refine iG fun R' hR=>?_
 walk_at "D"
 refine Gk (ι:=Obj) (fun o=>kU d o (iR (i9 ps ps.length))) (fun o=>upd H9 d (.frz o (.dK (iR (i9 ps ps.length))))) (fun _=>True) (fun R2 hR2=>?_) (fun o _=>?_)
 ·unfold rN
  walk_at "D"
  exact⟨d,_,rfl,edA,fun o=>hR2 o trivial⟩
 have k9:∀a q,H9 a=some q->a≠d->upd H9 d (.frz o (.dK (iR (i9 ps ps.length)))) a=some q:=fun a q ha hq=>by rw[ir hq];exact ha
 have NB:=NA.frz edA (.frz o (.dK (iR (i9 ps ps.length))))
 have s0B:Same H (upd H9 d (.frz o (.dK (iR (i9 ps ps.length))))):=i4 s0A hd0
 have eB:upd H9 d (.frz o (.dK (iR (i9 ps ps.length)))) d=some (.frz o (.dK (iR (i9 ps ps.length)))):=ij
 have erdB:=k9 _ _ erdA nrd
 have egdB:=k9 _ _ egd ngd
 have efdB:=k9 _ _ efdA nfd
 have oB:=k9 _ _ oA (lD oA edA (fun z=>nomatch z))
 generalize upd H9 d (.frz o (.dK (iR (i9 ps ps.length))))=HB at NB s0B eB erdB egdB efdB oB
 clear k9 NA s0A edA efdA oA erdA egd
 intro z1 hz1
 refine jP ps.length (fun i σ' Hc=>∃w1,σ'=[w1,some (.ref rd),some (.ref d)]/\Same HB Hc/\Hc z1=some (.lst ((((ps.map (·.1)).take i).filter fun n=>decide (iM ps n∈ms)).map V.int))) ⟨none,rfl,iy hz1 _,ij⟩ ?_ ?_
 ·rintro i σ' Hc hi ⟨w1,rfl,sQ,ez⟩
  refine⟨⟨sQ _ _ eB,by rw[qW];exact hi⟩,?_⟩
  rintro y H' ⟨rfl,kv,hkv,rfl⟩
  have hp:ps[i]? =some ps[i]:=gE hi
  rw[xU hp]at hkv
  cases hkv
  generalize ps[i]=pp at hp
  have hv:=nU wk (aE.mpr ⟨pp,ag hp,rfl⟩)
  have hpn:(ps.map (·.1))[i]? =some pp.1:=by rw[aA,hp];rfl
  have ft:=rL (f:=fun n=>decide (iM ps n∈ms)) hpn
  have hfl:((((ps.map (·.1)).take i).filter fun n=>decide (iM ps n∈ms))).length<=200:=bo (bu _ _) (by rw[aS];lia)
  show kG 0 (.int pp.1) _ _ _
  simp_arith[sQ _ _ erdB,sQ _ _ eB,tD]
  refine⟨d,.int (iM ps pp.1),rfl,.inl ⟨_,Sum.inl pp.1,.inr ⟨o,sQ _ _ eB⟩,rfl,hv.symm⟩,?_⟩
  simp_arith[sQ _ _ erdB,mZ]
  by_cases c:iM ps pp.1∈ms
  ·simp only[c,cD,cz,aG,if_false,if_true,bq]at ft ⊢
   refine⟨_,ez,?_,_,rfl,i4 sQ hz1,?_⟩
   ·rw[ae]
    exact iW (by lia)
   ·rw[ij,ft,ao]
    rfl
  ·simp only[c,cA,di,aG,if_false,if_true,bq]at ft ⊢
   exact⟨_,rfl,sQ,by rw[ft];exact ez⟩
 rintro σ' HC ⟨w1,rfl,sC,ez1⟩
 refine⟨⟨sC _ _ eB,by rw[qW];exact au _⟩,?_⟩
 rw[show ps.length=(ps.map (·.1)).length by rw[ae],aR]at ez1
 have f40:∀(f:Int->Bool),((ps.map (·.1)).filter f).length<=40:=fun f=>bo (bu _ _) (by rw[ae];exact hpl)
 obtain⟨nr,hnr⟩:∃nr,nr=(ps.map (·.1)).filter fun n=>decide (iM ps n∈ms):=⟨_,rfl⟩
 rw [<- hnr] at ez1
 refine⟨z1,nr,rfl,ez1,by rw[hnr];exact hnd.filter _,by rw[hnr];have:=f40 (fun n=>decide (iM ps n∈ms));lia,fun md HD hmd sD emd=>?_⟩
 have sBD:=sC.trans sD
 refine⟨v,ps,ts,fd,fs,md,nr,rfl,hw.same (s0B.trans sBD),by lia,sBD _ _ efdB,emd,fun m1 HE hm1 sE em1=>?_⟩
 have sBE:=sBD.trans sE
 have s0E:=s0B.trans sBE
 have fm1:=(s0B.trans sBD).free hm1
 have NE:=NB.same sBE
 have eE:=sBE _ _ eB
 have efdE:=sBE _ _ efdB
 have egdE:=sBE _ _ egdB
 have oE:=sBE _ _ oB
 clear ez1 emd sC sD sE sBD sBE NB s0B eB efdB egdB oB hz1 hmd hm1
 subst hR
 refine iG fun R' hR=>?_
 walk_at "D"
 refine jS (kU d o (iR (i9 ps ps.length))) HE (fun R2 hR2=>?_) (fun z2 hz2=>jP ps.length (fun i σ' Hc=>∃w1,σ'=[w1,some (.ref gd),some (.ref d)]/\Same HE Hc/\Hc z2=some (.lst ((((ps.map (·.1)).take i).filter fun n=>!decide (iM ps n∈ms2)).map V.int))) ⟨none,rfl,iy hz2 _,ij⟩ ?_ ?_)
 ·unfold oH
  walk_at "D"
  exact⟨d,_,o,rfl,eE,hR2⟩
 ·rintro i σ' Hc hi ⟨w1,rfl,sQ,ez⟩
  refine⟨⟨sQ _ _ eE,by rw[qW];exact hi⟩,?_⟩
  rintro y H' ⟨rfl,kv,hkv,rfl⟩
  have hp:ps[i]? =some ps[i]:=gE hi
  rw[xU hp]at hkv
  cases hkv
  generalize ps[i]=pp at hp
  have hv:=nU wk (aE.mpr ⟨pp,ag hp,rfl⟩)
  have hpn:(ps.map (·.1))[i]? =some pp.1:=by rw[aA,hp];rfl
  have ft:=rL (f:=fun n=>!decide (iM ps n∈ms2)) hpn
  have hfl:((((ps.map (·.1)).take i).filter fun n=>!decide (iM ps n∈ms2))).length<=200:=bo (bu _ _) (by rw[aS];lia)
  show kG 0 (.int pp.1) _ _ _
  simp_arith[sQ _ _ egdE,sQ _ _ eE,tD]
  refine⟨d,.int (iM ps pp.1),rfl,.inl ⟨_,Sum.inl pp.1,.inr ⟨o,sQ _ _ eE⟩,rfl,hv.symm⟩,?_⟩
  simp_arith[sQ _ _ egdE,mZ]
  by_cases c:iM ps pp.1∈ms2
  ·simp only[c,cD,cz,aG,if_false,if_true,bq]at ft ⊢
   exact⟨_,rfl,sQ,by rw[ft];exact ez⟩
  ·simp only[c,cA,di,aG,if_false,if_true,bq]at ft ⊢
   refine⟨_,ez,?_,_,rfl,i4 sQ hz2,?_⟩
   ·rw[ae]
    exact iW (by lia)
   ·rw[ij,ft,ao]
    rfl
 rintro σ' HF ⟨w1,rfl,sF,ez2⟩
 refine⟨⟨sF _ _ eE,by rw[qW];exact au _⟩,?_⟩
 rw[show ps.length=(ps.map (·.1)).length by rw[ae],aR]at ez2
 obtain⟨nt,hnt⟩:∃nt,nt=(ps.map (·.1)).filter fun n=>!decide (iM ps n∈ms2):=⟨_,rfl⟩
 rw [<- hnt] at ez2
 refine⟨z2,nt,rfl,ez2,by rw[hnt];exact hnd.filter _,by rw[hnt];have:=f40 (fun n=>!decide (iM ps n∈ms2));lia,fun md2 HG hmd2 sG emd2=>?_⟩
 have sEG:=sF.trans sG
 refine⟨v,ps,ts,fd,fs,md2,nt,rfl,hw.same (s0E.trans sEG),by lia,sEG _ _ efdE,emd2,fun m2 HI hm2 sI em2=>?_⟩
 have sEI:=sEG.trans sI
 have s0I:=s0E.trans sEI
 have fm2:=(s0E.trans sEG).free hm2
 have n12':m1≠m2:=iC (sEG _ _ em1) hm2
 have NI:=NE.same sEI
 have em1I:=sEI _ _ em1
 have oI:=sEI _ _ oE
 subst hR
 simp_arith[oI,Fd]
 refine⟨p,R,_,_,_,_,r,rfl,NI,fun fl2 HJ hfl sJ ef=>?_⟩
 refine⟨v,ps,ts,fl2,jq false r,rfl,hw.same (s0I.trans sJ),wk,ef,?_,fun l3 us HK hl3 sK el3 pu=>?_⟩
 ·rw[DY rm.len,rE]
 intro t9 ht9
 have q9:=iy ht9 (.tup [.ref m1,.ref m2,.ref l3])
 have sJK:=sJ.trans sK
 refine h t9 m1 m2 l3 us r nr nt _ ((s0I.trans sJK).trans q9) ((s0I.trans sJK).free ht9) fm1 fm2 ((s0I.trans sJ).free hl3) n12' (iC (sJ _ _ em1I) hl3) (iC (sJ _ _ em2) hl3) ij (q9 _ _ (sJK _ _ em1I)) (q9 _ _ (sJK _ _ em2)) (q9 _ _ el3) (jk q9.tups pu) ⟨run,fin,fun n=>?_,ms2,cor,fun n=>?_⟩
 ·rw[hnr,bG,cW,pm.mem_iff]
 ·rw[hnt,bG]
  simp
end
end My
namespace My
open PySem L2
section
variable{P:Program}{w:World}{K:PySem.W.Frag}{mg:Str->Option Value}{base:Heap}{c1 c2 c3 c4:Tok}{C_NoWeb fzc:Addr}{dI:FuncData}
theorem C4(r:List Int)(k:Nat):Fl.at' (jq false r) k=Fl.at' r (2*k+1):=by
 unfold Fl.at'
 rw[bc,bc,oP,ay (by decide)]
def iZ(ds:List (Int×Int×Int))(n:Int):Int:=(ds.map fun d=>(if d.1=n then d.2.2 else 0)+(if d.2.1=n then d.2.2 else 0)).sum
theorem yA{ns:List Int}(nd:ns.Nodup)(y:Int->Int):∀{ds:List (Int×Int×Int)},(∀d∈ds,d.1∈ns/\d.2.1∈ns)->(ns.map fun n=>y n*iZ ds n).sum=(ds.map fun d=>d.2.2*(y d.1+y d.2.1)).sum
 |[],_=>by
  show(ns.map fun p=>y p*0).sum=0
  rw[Fl.lg (g:=fun _=>0) fun p _=>Int.mul_zero _,Fl.mP]
 | d::ds,h=>by
  have hd:=h d (aP ..)
  have e:∀n∈ns,y n*iZ (d::ds) n=(y n*Fl.i6 d.1 n d.2.2+y n*Fl.i6 d.2.1 n d.2.2)+y n*iZ ds n:=fun n _=>by
   unfold iZ Fl.i6
   rw[aw,List.sum_cons,gX,gX]
  rw[Fl.lg e,Fl.p8,Fl.p8,Fl.se y _ _ nd hd.1,Fl.se y _ _ nd hd.2,yA nd y fun z hz=>h z (aH _ hz),aw,List.sum_cons,gX,Int.mul_comm (y d.1),Int.mul_comm (y d.2.1)]
theorem cb_ind{wf:Int->List Nat}{hs r:List Int}{m n:Nat}{s:Int}(N:Fl.Net wf hs m n)(hs0:0<=s/\s<(n:Int))(B:Int->Prop)(b0:B s)(b1:∀w,w<2*m->0<Fl.at' r w->Fl.at' hs (Fl.iH w)∈(Fl.jD wf hs n s r).map (·.1)->B (Fl.at' hs (Fl.iH w))->B (Fl.at' hs w)):∀v∈(Fl.jD wf hs n s r).map (·.1),B v:=by
 have cam:Fl.Cam hs r m s (Fl.jD wf hs n s r):=Fl.lT N.from' n
 have key:∀(i:Nat) (v:Int) (o:Option Nat),(Fl.jD wf hs n s r)[i]? =some (v,o)->B v:=by
  intro i
  induction i using Nat.strongRecOn with
  | ind i ih=>
   intro v o hi
   by_cases i0:i=0
   ·subst i0
    rw[cam.first]at hi
    cases hi
    exact b0
   ·obtain⟨w,_,hw,hr,hv,j,u,hj,hu,hm⟩:=cam.came i v o hi (by lia)
    obtain⟨⟨u',o'⟩,hu2,hu3⟩:=cg.mp hu
    dsimp only at hu3
    subst hu3
    have:=b1 w hw hr (by rw[show Fl.at' hs (Fl.iH w)=u' from hm];exact aE.mpr ⟨_,ag hu2,rfl⟩) (by rw[show Fl.at' hs (Fl.iH w)=u' from hm];exact ih j hj u' o' hu2)
    rw [<- hv]
    exact this
 intro v hv
 obtain⟨⟨v',o⟩,hm,e⟩:=aE.mp hv
 obtain⟨i,hi⟩:=cV.mp hm
 rw [<- e]
 exact key i v' o hi
section
variable{ps ts:List (Int×Int)}{fs r nr nt:List Int}
def jB(ps ts:List (Int×Int))(r:List Int):List (Int×Int×Int):=(List.range ts.length).map fun j=>((ts.getD j (0,0)).1,(ts.getD j (0,0)).2,Fl.at' r (2*(ps.length+j)+1))
theorem EI(ps ts:List (Int×Int))(r:List Int):(jB ps ts r).map (fun d=>(d.1,d.2.1))=ts:=by
 unfold jB
 rw[bD]
 apply dW
 intro i
 rw[aA]
 by_cases c:i<ts.length
 ·rw[eJ c,gE c]
  show some ((ts.getD i (0,0)).1,(ts.getD i (0,0)).2)=_
  rw[l9 (gE c)]
 ·rw[bF (by rw[bS];lia),bF (by lia)]
  rfl
theorem qL{k:Nat}{p:Int×Int}(h:ps[k]? =some p):(iK ps ts fs).getD k (0,0,0)=kS ps fs p:=by
 have hk:=(ah.mp h).1
 refine l9 ?_
 unfold iK
 rw[bA (by rw[ae];exact hk),aA,h]
 rfl
theorem qM{j:Nat}{t:Int×Int}(h:ts[j]? =some t):(iK ps ts fs).getD (ps.length+j) (0,0,0)=pN ps fs t:=by
 refine l9 ?_
 unfold iK
 rw[bR (by rw[ae];lia),ae,Nat.add_sub_cancel_left,aA,h]
 rfl
theorem nu(wk:WebOk ps ts){a b:Int}(ha:a∈ps.map (·.1))(hb:b∈ps.map (·.1))(e:iM ps a=iM ps b):a=b:=by
 obtain⟨i,hi,ea⟩:=aV.mp ha
 obtain⟨j,hj,eb⟩:=aV.mp hb
 have h1:(ps.map (·.1))[i]? =some a:=by rw[gE hi,ea]
 have h2:(ps.map (·.1))[j]? =some b:=by rw[gE hj,eb]
 rw[oW wk h1,oW wk h2]at e
 have:i=j:=by lia
 subst this
 rw[h1]at h2
 exact aL h2
def mh(ts:List (Int×Int))(fs:List Int):Prop:=∀t∈ts,(t.1∈fs↔t.2∉fs)
theorem oX(h:mh ts fs){t:Int×Int}(ht:t∈ts):jw fs t∈fs/\jz fs t∉fs:=by
 have:=h t ht
 unfold jw jz
 by_cases c:t.1∈fs
 ·rw[az c,az c];exact⟨c,this.mp c⟩
 ·rw[ay c,ay c];exact⟨cu fun z=>c (this.mpr z),c⟩
theorem Fq(t:Int×Int)(p v:Int):(if t.1=p then v else 0)+(if t.2=p then v else 0)=Fl.i6 (jw fs t) p v+Fl.i6 (jz fs t) p v:=by
 unfold jw jz Fl.i6
 by_cases c:t.1∈fs
 ·rw[az c,az c]
 ·rw[ay c,ay c,Int.add_comm]
theorem HR(wk:WebOk ps ts)(two:mh ts fs)(B:∀v,v≠0->v≠1->Fl.ex (Fl.hsA (iK ps ts fs)) (iK ps ts fs).length r v=0){i:Nat}{p:Int×Int}(hp:ps[i]? =some p):iZ (jB ps ts r) p.1=Fl.at' r (2*i+1):=by
 have hi:=(ah.mp hp).1
 have hn:(ps.map (·.1))[i]? =some p.1:=by rw[aA,hp];rfl
 have sp:=oW wk hn
 have pin:p.1∈ps.map (·.1):=aE.mpr ⟨p,ag hp,rfl⟩
 have b:=B (2+(i:Int)) (by lia) (by lia)
 unfold Fl.ex at b
 rw[rE,Fl.wu]at b
 have e1:((List.range ps.length).map fun k=>Fl.i6 (Fl.at' (Fl.hsA (iK ps ts fs)) (2*k)) (2+(i:Int)) (Fl.at' r (2*k+1))-Fl.i6 (Fl.at' (Fl.hsA (iK ps ts fs)) (2*k+1)) (2+(i:Int)) (Fl.at' r (2*k+1))).sum=if p.1∈fs then Fl.at' r (2*i+1)else -Fl.at' r (2*i+1):=by
  rw[Fl.BK _ hi fun k hk hne=>?_]
  ·rw[Fl.mJ,Fl.mH,qL hp]
   unfold kS
   by_cases c:p.1∈fs
   ·rw[if_pos c,if_pos c];dsimp only;rw[sp,Fl.qe,Fl.lh (by lia)];lia
   ·rw[if_neg c,if_neg c];dsimp only;rw[sp,Fl.qe,Fl.lh (by lia)];lia
  ·have hk':=gE hk
   have hkn:(ps.map (·.1))[k]? =some ps[k].1:=by rw[aA,hk'];rfl
   have spk:=oW wk hkn
   rw[Fl.mJ,Fl.mH,qL hk']
   unfold kS
   split<;>dsimp only<;>rw[spk,Fl.lh (by lia),Fl.lh (by lia)]<;>rfl
 have e2:((List.range ts.length).map fun j=>Fl.i6 (Fl.at' (Fl.hsA (iK ps ts fs)) (2*(ps.length+j))) (2+(i:Int)) (Fl.at' r (2*(ps.length+j)+1))-Fl.i6 (Fl.at' (Fl.hsA (iK ps ts fs)) (2*(ps.length+j)+1)) (2+(i:Int)) (Fl.at' r (2*(ps.length+j)+1))).sum=if p.1∈fs then -iZ (jB ps ts r) p.1 else iZ (jB ps ts r) p.1:=by
  have e3:iZ (jB ps ts r) p.1=((List.range ts.length).map fun j=>Fl.i6 (jw fs (ts.getD j (0,0))) p.1 (Fl.at' r (2*(ps.length+j)+1))+Fl.i6 (jz fs (ts.getD j (0,0))) p.1 (Fl.at' r (2*(ps.length+j)+1))).sum:=by
   unfold iZ jB
   rw[bD]
   exact Fl.lg fun j _=>Fq (ts.getD j (0,0)) p.1 _
  have e4:∀(f g:Nat->Int),(∀j∈List.range ts.length,f j= -g j)->((List.range ts.length).map f).sum= -((List.range ts.length).map g).sum:=by
   intro f g h
   have:((List.range ts.length).map f).sum+((List.range ts.length).map g).sum=0:=by
    rw [<- Fl.p8,Fl.lg (g:=fun _=>0) (fun j hj=>by rw [h j hj]; lia),Fl.mP]
   lia
  have aux:∀j∈List.range ts.length,(Fl.at' (Fl.hsA (iK ps ts fs)) (2*(ps.length+j))=iM ps (jz fs (ts.getD j (0,0))))/\(Fl.at' (Fl.hsA (iK ps ts fs)) (2*(ps.length+j)+1)=iM ps (jw fs (ts.getD j (0,0))))/\ts.getD j (0,0)∈ts:=fun j hj=>by
   have hg:=Fl.getD_at (bK.mp hj)
   rw[Fl.mJ,Fl.mH,qM hg]
   exact⟨rfl,rfl,ag hg⟩
  have pk:∀(q:Int) (v:Int),q∈ps.map (·.1)->Fl.i6 (iM ps q) (2+(i:Int)) v=Fl.i6 q p.1 v:=fun q v hq=>Fl.Co ⟨fun z=>nu wk hq pin (by rw[sp];exact z),fun z=>by rw[z,sp]⟩
  rw[e3]
  by_cases c:p.1∈fs
  ·rw[az c]
   refine e4 _ _ fun j hj=>?_
   obtain⟨a1,a2,a3⟩:=aux j hj
   obtain⟨m1,m2⟩:=nJ wk fs _ a3
   have tw:=(oX two a3).2
   rw[a1,a2,pk _ _ m1,pk _ _ m2,Fl.lh (n:=jz fs _) (fun z=>tw (by rw[z];exact c))]
   lia
  ·rw[ay c]
   refine Fl.lg fun j hj=>?_
   obtain⟨a1,a2,a3⟩:=aux j hj
   obtain⟨m1,m2⟩:=nJ wk fs _ a3
   have tw:=(oX two a3).1
   rw [a1,a2,pk _ _ m1,pk _ _ m2,Fl.lh (n:=jw fs _) (fun z=>c (by rw [<- z]; exact tw))]
   lia
 rw[e1,e2]at b
 by_cases c:p.1∈fs
 ·rw[az c,az c]at b;lia
 ·rw[ay c,ay c]at b;lia
structure TCut(ps ts:List (Int×Int))(fs:List Int)(zs:List (Int×Int×Int))(X:Int->Prop):Prop where
 c1:∀p∈ps,p.1∈fs->¬X p.1->iZ zs p.1=p.2
 c2:∀p∈ps,p.1∉fs->X p.1->iZ zs p.1=p.2
 c3:∀t∈ts,X (jw fs t)->X (jz fs t)
 c4:∀d∈zs,0<d.2.2->X (jz fs (d.1,d.2.1))->X (jw fs (d.1,d.2.1))
structure Bip(ps ts:List (Int×Int))(fs:List Int)(zs:List (Int×Int×Int))(nr nt:List Int):Prop where
 zt:zs.map (fun d=>(d.1,d.2.1))=ts
 pos:∀d∈zs,0<=d.2.2
 pay:∀p∈ps,iZ zs p.1<=p.2
 S:TCut ps ts fs zs (·∈nr)
 T:TCut ps ts fs zs (·∈nt)
 sR:∀A:Int->Prop,(∀p∈ps,p.1∈fs->iZ zs p.1<p.2->A p.1)->(∀t∈ts,A (jw fs t)->A (jz fs t))->(∀d∈zs,0<d.2.2->A (jz fs (d.1,d.2.1))->A (jw fs (d.1,d.2.1)))->∀n∈nr,A n
 tR:∀B:Int->Prop,(∀p∈ps,p.1∉fs->iZ zs p.1<p.2->B p.1)->(∀t∈ts,B (jz fs t)->B (jw fs t))->(∀d∈zs,0<d.2.2->B (jw fs (d.1,d.2.1))->B (jz fs (d.1,d.2.1)))->∀n∈ps.map (·.1),n∉nt->B n
theorem zw{zs:List (Int×Int×Int)}(h:∀d∈zs,0<=d.2.2){d:Int×Int×Int}(hd:d∈zs){n:Int}(e:d.1=n\/d.2.1=n):d.2.2<=iZ zs n:=by
 have:=Fl.qh (f:=fun d:Int×Int×Int=>(if d.1=n then d.2.2 else 0)+(if d.2.1=n then d.2.2 else 0)) (l:=zs) (fun x hx=>by have:=h x hx;split<;>split<;>lia) d hd
 have h0:=h d hd
 unfold iZ
 refine gD ?_ this
 rcases e with e|e
 ·rw[az e];split<;>lia
 ·rw[az e];split<;>lia
theorem tG(wk:WebOk ps ts)(two:mh ts fs)(R:RstB ps ts fs r nr nt):Bip ps ts fs (jB ps ts r) nr nt:=by
 obtain⟨rm,bal⟩:=AA wk R.run
 have N:=wU wk fs
 have h0:(0:Int)<=0/\(0:Int)<((2+ps.length:Nat):Int):=⟨bH _,by lia⟩
 have sin:=Fl.BR (r:=r) (s:=0) N
 have tout:=Fl.BF N (s:=0) (t:=1) (by decide) h0 R.end_
 have scl:=fun{w:Nat} (hw:w<2*(iK ps ts fs).length) (h:0<Fl.at' r w)=>Fl.HH (r:=r) (s:=0) N h0 hw h
 obtain⟨ms,cor,hnt⟩:=R.nt
 have hnr:=R.nr
 have ind:=cb_ind (r:=r) (s:=0) N h0
 generalize (Fl.jD (Fl.jE (iK ps ts fs)) (Fl.hsA (iK ps ts fs)) (2+ps.length) 0 r).map (·.1)=ks at sin tout scl hnr ind
 have tcl:∀w,w<2*(iK ps ts fs).length->0<Fl.at' r w->Fl.at' (Fl.hsA (iK ps ts fs)) w∈ms->Fl.at' (Fl.hsA (iK ps ts fs)) (Fl.iH w)∈ms:=fun w hw h hm=>by
  have:=cor.cl _ hm (Fl.iH w) (by have:=N.all (Fl.iH w) (Fl.mQ hw);rwa[Fl.ow]at this) (by rw[Fl.ow];exact h)
  exact this
 have zout:(0:Int)∉ms:=fun z=>by
  refine cor.ind (fun v=>v∉ks) tout (fun u w hu hw hr hk=>?_) 0 z sin
  have f:=N.from' u w hw
  have:=scl (Fl.mQ f.1) hr (by rw[Fl.ow];exact hk)
  rw[f.2]at this
  exact hu this
 have hal:=rE ps ts fs
  -- the ways of a place
 have wayP:∀(k:Nat) (p:Int×Int),ps[k]? =some p->2*k+1<2*(iK ps ts fs).length/\Fl.at' r (2*k)=p.2-iZ (jB ps ts r) p.1/\Fl.at' r (2*k+1)=iZ (jB ps ts r) p.1/\Fl.at' (Fl.hsA (iK ps ts fs)) (2*k)=(if p.1∈fs then iM ps p.1 else 1)/\Fl.at' (Fl.hsA (iK ps ts fs)) (2*k+1)=(if p.1∈fs then 0 else iM ps p.1):=fun k p hp=>by
  have hk:=(ah.mp hp).1
  have b:=HR wk two bal hp
  have t:=rm.two k (by lia)
  unfold Fl.mf at t
  rw[qL hp]at t
  rw[Fl.mJ,Fl.mH,qL hp]
  unfold kS at t ⊢
  by_cases c:p.1∈fs
  ·rw[if_pos c]at t ⊢;rw[if_pos c,if_pos c];dsimp only at t ⊢;exact⟨by lia,by lia,by lia,rfl,rfl⟩
  ·rw[if_neg c]at t ⊢;rw[if_neg c,if_neg c];dsimp only at t ⊢;exact⟨by lia,by lia,by lia,rfl,rfl⟩
 have pos:∀d∈jB ps ts r,0<=d.2.2:=fun d hd=>by
  obtain⟨j,_,rfl⟩:=aE.mp hd
  exact rm.pos _
 have pay:∀p∈ps,iZ (jB ps ts r) p.1<=p.2:=fun p hp=>by
  obtain⟨k,hk⟩:=cV.mp hp
  have:=wayP k p hk
  have:=rm.pos (2*k)
  lia
 have zt:=EI ps ts r
 have dmem:∀d∈jB ps ts r,(d.1,d.2.1)∈ts:=fun d hd=>by
  have:=aW (f:=fun d:Int×Int×Int=>(d.1,d.2.1)) hd
  rw[zt]at this
  exact this
  -- the ways of a tie
 have wayT:∀(j:Nat),j<ts.length->∃d∈jB ps ts r,(d.1,d.2.1)=ts.getD j (0,0)/\2*(ps.length+j)+1<2*(iK ps ts fs).length/\0<Fl.at' r (2*(ps.length+j))/\Fl.at' r (2*(ps.length+j)+1)=d.2.2/\Fl.at' (Fl.hsA (iK ps ts fs)) (2*(ps.length+j))=iM ps (jz fs (d.1,d.2.1))/\Fl.at' (Fl.hsA (iK ps ts fs)) (2*(ps.length+j)+1)=iM ps (jw fs (d.1,d.2.1)):=fun j hj=>by
  have hg:=Fl.getD_at hj
  have hd:((ts.getD j (0,0)).1,(ts.getD j (0,0)).2,Fl.at' r (2*(ps.length+j)+1))∈jB ps ts r:=aE.mpr ⟨j,bK.mpr hj,rfl⟩
  have t:=rm.two (ps.length+j) (by lia)
  unfold Fl.mf at t
  rw[qM hg]at t
  have t2:Fl.at' r (2*(ps.length+j))+Fl.at' r (2*(ps.length+j)+1)=ki ps:=t
  refine⟨_,hd,rfl,by lia,?_,rfl,?_,?_⟩
  ·obtain⟨m1,_⟩:=nj wk _ (ag hg)
   obtain⟨p,hp,e⟩:=aE.mp m1
   have g:=zw pos hd (n:=p.1) (.inl e.symm)
   have q:=pay p hp
   have s:=Fl.qh (f:=fun q:Int×Int=>q.2) (l:=ps) (fun q hq=>by have:=wk.p.pos q hq;lia) p hp
   have:(ps.map fun q:Int×Int=>q.2).sum<ki ps:=by unfold ki;lia
   dsimp only at g
   lia
  ·rw[Fl.mJ,qM hg];rfl
  ·rw[Fl.mH,qM hg];rfl
 have tieOf:∀t∈ts,∃j,j<ts.length/\ts.getD j (0,0)=t:=fun t ht=>by
  obtain⟨j,hj,e⟩:=aV.mp ht
  exact⟨j,hj,by rw[l9 (gE hj),e]⟩
 have zOf:∀d∈jB ps ts r,∃j,j<ts.length/\ts.getD j (0,0)=(d.1,d.2.1)/\Fl.at' r (2*(ps.length+j)+1)=d.2.2:=fun d hd=>by
  obtain⟨j,hj,rfl⟩:=aE.mp hd
  exact⟨j,bK.mp hj,rfl,rfl⟩
 have inN:∀t∈ts,jw fs t∈ps.map (·.1)/\jz fs t∈ps.map (·.1):=nJ wk fs
 have mt:∀k,Fl.iH (2*k)=2*k+1:=Fl.wY
 have mt1:∀k,Fl.iH (2*k+1)=2*k:=Fl.wX
  -- every way
 have every:∀w,w<2*(iK ps ts fs).length->(∃k p,ps[k]? =some p/\(w=2*k\/w=2*k+1))\/∃j,j<ts.length/\(w=2*(ps.length+j)\/w=2*(ps.length+j)+1):=fun w hw=>by
  by_cases c:w<2*ps.length
  ·have hk:w/2<ps.length:=by lia
   exact .inl ⟨w/2,_,gE hk,by lia⟩
  ·exact .inr ⟨w/2-ps.length,by lia,by lia⟩
 have spb:∀{n},n∈ps.map (·.1)->2<=iM ps n:=fun h=>(qJ wk h).1
 refine⟨zt,pos,pay,⟨fun p hp hf hn=>?_,fun p hp hf hn=>?_,fun t ht h=>?_,fun d hd h0' h=>?_⟩,⟨fun p hp hf hn=>?_,fun p hp hf hn=>?_,fun t ht h=>?_,fun d hd h0' h=>?_⟩,fun A a1 a2 a3 n hn=>?_,fun B b1 b2 b3 n hn hnn=>?_⟩
 ·obtain⟨k,hk⟩:=cV.mp hp
  obtain⟨w0,w1,w2,w3,w4⟩:=wayP k p hk
  rw[az hf]at w3 w4
  have:=pay p hp
  by_cases c:iZ (jB ps ts r) p.1=p.2
  ·exact c
  ·refine absurd ((hnr p.1).mpr ⟨aE.mpr ⟨p,hp,rfl⟩,?_⟩) hn
   have:=scl (w:=2*k) (by lia) (by lia) (by rw[mt,w4];exact sin)
   rwa[w3]at this
 ·obtain⟨k,hk⟩:=cV.mp hp
  obtain⟨w0,w1,w2,w3,w4⟩:=wayP k p hk
  rw[ay hf]at w3 w4
  have:=pay p hp
  by_cases c:iZ (jB ps ts r) p.1=p.2
  ·exact c
  ·have:=scl (w:=2*k) (by lia) (by lia) (by rw[mt,w4];exact((hnr p.1).mp hn).2)
   rw[w3]at this
   exact absurd this tout
 ·obtain⟨j,hj,e⟩:=tieOf t ht
  obtain⟨d,hd,ed,w0,w1,w2,w3,w4⟩:=wayT j hj
  rw[ed,e]at w3 w4
  have:=scl (w:=2*(ps.length+j)) (by lia) w1 (by rw[mt,w4];exact((hnr _).mp h).2)
  rw[w3]at this
  exact(hnr _).mpr ⟨(inN t ht).2,this⟩
 ·obtain⟨j,hj,e,ef⟩:=zOf d hd
  obtain⟨d',hd',ed,w0,w1,w2,w3,w4⟩:=wayT j hj
  rw[ed,e]at w3 w4
  have:=scl (w:=2*(ps.length+j)+1) (by lia) (by lia) (by rw[mt1,w3];exact((hnr _).mp h).2)
  rw[w4]at this
  exact(hnr _).mpr ⟨(inN _ (dmem d hd)).1,this⟩
 ·obtain⟨k,hk⟩:=cV.mp hp
  obtain⟨w0,w1,w2,w3,w4⟩:=wayP k p hk
  rw[az hf]at w3 w4
  have pm:p.1∈ps.map (·.1):=aE.mpr ⟨p,hp,rfl⟩
  have:=pay p hp
  by_cases c:iZ (jB ps ts r) p.1=p.2
  ·exact c
  ·have im:iM ps p.1∈ms:=cu fun z=>hn ((hnt p.1).mpr ⟨pm,z⟩)
   have:=tcl (2*k) (by lia) (by lia) (by rw[w3];exact im)
   rw[mt,w4]at this
   exact absurd this zout
 ·obtain⟨k,hk⟩:=cV.mp hp
  obtain⟨w0,w1,w2,w3,w4⟩:=wayP k p hk
  rw[ay hf]at w3 w4
  have:=pay p hp
  by_cases c:iZ (jB ps ts r) p.1=p.2
  ·exact c
  ·have:=tcl (2*k) (by lia) (by lia) (by rw[w3];exact cor.t_in)
   rw[mt,w4]at this
   exact absurd this ((hnt p.1).mp hn).2
 ·obtain⟨j,hj,e⟩:=tieOf t ht
  obtain⟨d,hd,ed,w0,w1,w2,w3,w4⟩:=wayT j hj
  rw[ed,e]at w3 w4
  refine(hnt _).mpr ⟨(inN t ht).2,fun z=>((hnt _).mp h).2 ?_⟩
  have:=tcl (2*(ps.length+j)) (by lia) w1 (by rw[w3];exact z)
  rwa[mt,w4]at this
 ·obtain⟨j,hj,e,ef⟩:=zOf d hd
  obtain⟨d',hd',ed,w0,w1,w2,w3,w4⟩:=wayT j hj
  rw[ed,e]at w3 w4
  refine(hnt _).mpr ⟨(inN _ (dmem d hd)).1,fun z=>((hnt _).mp h).2 ?_⟩
  have:=tcl (2*(ps.length+j)+1) (by lia) (by lia) (by rw[w4];exact z)
  rwa[mt1,w3]at this
 ·obtain⟨hn1,hn2⟩:=(hnr n).mp hn
  have key:=ind (fun v=>v=0\/∃n∈ps.map (·.1),iM ps n=v/\A n) (.inl rfl) (fun w hw hr hk hB=>?_) _ hn2
  ·rcases key with z|⟨n',h1,h2,h3⟩
   ·have:=spb hn1;lia
   ·rw [<- nu wk h1 hn1 h2]; exact h3
  ·rcases every w hw with⟨k,p,hp,e⟩|⟨j,hj,e⟩
   ·obtain⟨w0,w1,w2,w3,w4⟩:=wayP k p hp
    have pm:=ag hp
    have pn:p.1∈ps.map (·.1):=aE.mpr ⟨p,pm,rfl⟩
    by_cases c:p.1∈fs
    ·rw[az c]at w3 w4
     rcases e with rfl|rfl
     ·exact .inr ⟨p.1,pn,w3.symm,a1 p pm c (by lia)⟩
     ·exact .inl w4
    ·rw[ay c]at w3 w4
     rcases e with rfl|rfl
     ·have:=scl hw hr hk
      rw[w3]at this
      exact absurd this tout
     ·rw[mt1,show Fl.at' (Fl.hsA (iK ps ts fs)) (2*k)=1 from w3]at hk
      exact absurd hk tout
   ·obtain⟨d,hd,ed,w0,w1,w2,w3,w4⟩:=wayT j hj
    have dm:=dmem d hd
    obtain⟨m1,m2⟩:=inN _ dm
    rcases e with rfl|rfl
    ·rw[mt,show Fl.at' (Fl.hsA (iK ps ts fs)) (2*(ps.length+j)+1)=_ from w4]at hB
     rcases hB with z|⟨n',h1,h2,h3⟩
     ·have:=spb m1;lia
     ·exact .inr ⟨_,m2,w3.symm,a2 _ dm (by rw [<- nu wk h1 m1 h2]; exact h3)⟩
    ·rw[mt1,show Fl.at' (Fl.hsA (iK ps ts fs)) (2*(ps.length+j))=_ from w3]at hB
     rcases hB with z|⟨n',h1,h2,h3⟩
     ·have:=spb m2;lia
     ·exact .inr ⟨_,m1,w4.symm,a3 d hd (by lia) (by rw [<- nu wk h1 m2 h2]; exact h3)⟩
 ·have im:iM ps n∈ms:=cu fun z=>hnn ((hnt n).mpr ⟨hn,z⟩)
  have key:=cor.ind (fun v=>v∈ms/\(v=1\/∃n∈ps.map (·.1),iM ps n=v/\B n)) ⟨cor.t_in,.inl rfl⟩ (fun u w hu hw hr=>?_) _ im
  ·rcases key.2 with z|⟨n',h1,h2,h3⟩
   ·have:=spb hn;lia
   ·rw [<- nu wk h1 hn h2]; exact h3
  ·have f:=N.from' u w hw
   have hin:=cor.cl u hu.1 w hw hr
   refine⟨hin,?_⟩
   rcases every w f.1 with⟨k,p,hp,e⟩|⟨j,hj,e⟩
   ·obtain⟨w0,w1,w2,w3,w4⟩:=wayP k p hp
    have pm:=ag hp
    have pn:p.1∈ps.map (·.1):=aE.mpr ⟨p,pm,rfl⟩
    by_cases c:p.1∈fs
    ·rw[az c]at w3 w4
     rcases e with rfl|rfl
     ·have q:=f.2
      rw[mt,w4]at q
      rw [<- q] at hu
      exact absurd hu.1 zout
     ·rw[w4]at hin
      exact absurd hin zout
    ·rw[ay c]at w3 w4
     rcases e with rfl|rfl
     ·exact .inl w3
     ·rw[mt1]at hr
      exact .inr ⟨p.1,pn,w4.symm,b1 p pm c (by lia)⟩
   ·obtain⟨d,hd,ed,w0,w1,w2,w3,w4⟩:=wayT j hj
    have dm:=dmem d hd
    obtain⟨m1,m2⟩:=inN _ dm
    have q:=f.2
    rcases e with rfl|rfl
    ·rw[mt]at q hr
     rw[w4]at q
     rcases hu.2 with z|⟨n',h1,h2,h3⟩
     ·have:=spb m1;lia
     ·exact .inr ⟨_,m2,w3.symm,b3 d hd (by lia) (by rw [<- nu wk h1 m1 (by rw [h2,<- q])]; exact h3)⟩
    ·rw[mt1]at q hr
     rw[w3]at q
     rcases hu.2 with z|⟨n',h1,h2,h3⟩
     ·have:=spb m2;lia
     ·exact .inr ⟨_,m1,w4.symm,b2 _ dm (by rw [<- nu wk h1 m2 (by rw [h2,<- q])]; exact h3)⟩
end
end
end My
namespace L2
open PySem PySem.Spec PyProof.Rows
def oy(m i:Nat):Nat:=(i*5+1)%(m+1)
def lC(m:Nat):Nat->Nat->Nat
 |0,i=>i
 |r+1,i=>lC m r (oy m i)
theorem qQ(m:Nat):∀a b i,lC m (a+b) i=lC m b (lC m a i)
 |0,b,i=>by rw[fE];rfl
 |a+1,b,i=>by rw[gh];exact qQ m a b (oy m i)
def sh(m:Nat):Nat->Nat->List Nat
 |0,_=>[]
 |r+1,i=>i::sh m r (oy m i)
theorem zu(m:Nat):∀n i e,e∈sh m n i->∃r,r<n/\lC m r i=e
 |0,_,_,h=>by cases h
 | n+1,i,e,h=>by
  rcases aU.mp h with rfl|h
  ·exact⟨0,by lia,rfl⟩
  ·obtain⟨r,hr,q⟩:=zu m n _ e h
   exact⟨r+1,by lia,q⟩
def lA(m:Nat):Prop:=m=7\/m=31\/m=127
theorem DC{m:Nat}(h:lA m):lC m (m+1) 0=0/\∀e,e<=m->∃r,r<=m/\lC m r 0=e:=by
 have key:∀m,(List.range (m+1)).all (fun e=>(sh m (m+1) 0).contains e)=true->∀e,e<=m->∃r,r<=m/\lC m r 0=e:=fun m h e he=>by
  have:=gP.mp h e (bK.mpr (by lia))
  obtain⟨r,hr,q⟩:=zu m (m+1) 0 e (List.elem_iff.mp this)
  exact⟨r,by lia,q⟩
 rcases h with rfl|rfl|rfl
 ·exact⟨by decide+kernel,key 7 (by decide+kernel)⟩
 ·exact⟨by decide+kernel,key 31 (by decide+kernel)⟩
 ·exact⟨by decide+kernel,key 127 (by decide+kernel)⟩
theorem Fm{m:Nat}(h:lA m){i e:Nat}(hi:i<=m)(he:e<=m):∃r,r<=m/\lC m r i=e:=by
 obtain⟨z,al⟩:=DC h
 obtain⟨a,ha,rfl⟩:=al i hi
 obtain⟨b,hb,rfl⟩:=al e he
 by_cases c:a<=b
 ·refine⟨b-a,by lia,?_⟩
  rw [<- qQ,show a + (b - a) = b by lia]
 ·refine⟨m+1-a+b,by lia,?_⟩
  rw [<- qQ,show a + (m + 1 - a + b) = (m + 1) + b by lia,qQ,z]
def j2(m:Nat):Nat->Nat×Nat->Nat×Nat
 |0,x=>x
 |r+1,x=>j2 m r (SetTable.leap m x.1 x.2)
theorem yt(m:Nat):∀a b x,j2 m (a+b) x=j2 m b (j2 m a x)
 |0,b,x=>by rw[fE];rfl
 |a+1,b,x=>by rw[gh];exact yt m a b _
theorem yu(m:Nat):∀r x,(j2 m r x).2=x.2/32^r
 |0,x=>by simp[j2]
 |r+1,x=>by
  rw[j2,yu m r,SetTable.leap,Nat.div_div_eq_div_mul,Nat.pow_succ,Nat.mul_comm 32]
theorem xF{m:Nat}:∀r {x:Nat×Nat},x.1<=m->(j2 m r x).1<=m
 |0,_,h=>h
 |r+1,x,_=>xF r (by unfold SetTable.leap;exact gy (Nat.mod_lt _ (Nat.succ_pos m)))
theorem zl(m:Nat):∀r i,j2 m r (i,0)=(lC m r i,0)
 |0,_=>rfl
 |r+1,i=>by rw[j2,show SetTable.leap m (i,0).1 (i,0).2=(oy m i,0) by unfold SetTable.leap oy;simp,zl m r];rfl
theorem Ab{m:Nat}(h:lA m){i p e:Nat}(hi:i<=m)(hp:p<2^64)(he:e<=m):∃r,r<=m+13/\(j2 m r (i,p)).1=e:=by
 have h2:(j2 m 13 (i,p)).2=0:=by
  rw[yu]
  exact Nat.div_eq_of_lt (bt hp (by decide))
 have h1:(j2 m 13 (i,p)).1<=m:=xF 13 hi
 obtain⟨r,hr,q⟩:=Fm h h1 he
 refine⟨13+r,by lia,?_⟩
 rw[yt,show j2 m 13 (i,p)=((j2 m 13 (i,p)).1,0)from gv rfl h2,zl]
 exact q
theorem yc(h:Int):SetTable.bits h<2^64:=by
 unfold SetTable.bits
 have h1:=dG h (show(0:Int)<2^64 by decide)
 have h0:=eI h (show(2:Int)^64≠0 by decide)
 lia
theorem zE(m i:Nat):i<=SetTable.runEnd m i/\SetTable.runEnd m i<=i+9:=by
 unfold SetTable.runEnd
 split<;>lia
theorem zY{m:Nat}{owner:Array (Option Nat)}:∀(fuel i p:Nat),(∃r,r<fuel/\(owner.getD (j2 m r (i,p)).1 (some 0)).isNone=true)->∃j,SetTable.layClean.free m owner fuel i p=some j/\(owner.getD j (some 0)).isNone=true
 |0,_,_,⟨_,h,_⟩=>by lia
 | fuel+1,i,p,⟨r,hr,q⟩=>by
  rw[SetTable.layClean.free]
  cases hf:(List.range (SetTable.runEnd m i+1-i)).find? fun k=>(owner.getD (i+k) (some 0)).isNone with
  |some k=>exact⟨i+k,rfl,by have:=List.find?_some hf;exact this⟩
  | none=>
   cases r with
   |zero=>
    have:=List.find?_eq_none.mp hf 0 (bK.mpr (by have:=(zE m i).1;lia))
    exact absurd q this
   |succ r=>
    exact zY fuel _ _ ⟨r,by lia,q⟩
theorem zG:∀{l:List (Option Nat)} {j k:Nat},l[j]? =some none->((l.set j (some k)).filterMap id).Perm (k::l.filterMap id)
 |[],j,k,h=>by simp at h
 |a::l,0,k,h=>by
  have:a=none:=by simpa using h
  subst this
  exact hZ _
 | a::l,j+1,k,h=>by
  have ih:=zG (l:=l) (j:=j) (k:=k) (by simpa using h)
  rw[List.set_cons_succ]
  cases a with
  |none=>exact ih
  |some b=>
   rw[dA (f:=id) (a:=some b) (b:=b) rfl,dA (f:=id) (a:=some b) (b:=b) rfl]
   exact(ih.cons b).trans (List.Perm.swap _ _ _)
theorem yx:∀{l:List (Option Nat)},(l.filterMap id).length<l.length->∃j:Nat,l[j]? =some none
 |[],h=>by simp at h
 |none::l,_=>⟨0,rfl⟩
 |some b::l,h=>by
  rw[dA (f:=id) (a:=some b) (b:=b) rfl,List.length_cons,List.length_cons]at h
  obtain⟨j,q⟩:=yx (l:=l) (by lia)
  exact⟨j+1,by simpa using q⟩
def nI(m k:Nat)(owner:Array (Option Nat)):Prop:=owner.size=m+1/\(owner.toList.filterMap id).Perm (List.range k)
theorem getD_none{owner:Array (Option Nat)}{j:Nat}:(owner.getD j (some 0)).isNone=true↔owner.toList[j]? =some none:=by
 rw[hU,cL]
 cases owner[j]? with
 |none=>simp
 |some x=>cases x<;>simp
theorem Em{m k:Nat}(hm:lA m){owner:Array (Option Nat)}(h:nI m k owner)(hk:k<=m)(z:Int):∃j,SetTable.layClean.free m owner (SetTable.turns m) (SetTable.bits z%(m+1)) (SetTable.bits z)=some j/\nI m (k+1) (owner.setIfInBounds j (some k)):=by
 obtain⟨e,he⟩:=yx (l:=owner.toList) (by rw[h.2.length_eq,bS,Array.length_toList,h.1];lia)
 have hel:e<=m:=by
  have:=(ah.mp he).1
  rw[Array.length_toList,h.1]at this
  lia
 obtain⟨r,hr,q⟩:=Ab hm (i:=SetTable.bits z%(m+1)) (p:=SetTable.bits z) (e:=e) (gy (Nat.mod_lt _ (Nat.succ_pos m))) (yc z) hel
 obtain⟨j,f1,f2⟩:=zY (m:=m) (owner:=owner) (SetTable.turns m) (SetTable.bits z%(m+1)) (SetTable.bits z) ⟨r,by unfold SetTable.turns;lia,by rw[q];exact getD_none.mpr he⟩
 refine⟨j,f1,by rw[Array.size_setIfInBounds];exact h.1,?_⟩
 have hj:=getD_none.mp f2
 rw[Array.toList_setIfInBounds]
 refine(zG hj).trans ((h.2.cons k).trans ?_)
 rw[cQ]
 exact cK (l₁:=[k])
theorem yi{m:Nat}(hm:lA m):∀(hs:List Int) (k:Nat) (owner:Array (Option Nat)),nI m k owner->k+hs.length<=m+1->∃o2,nI m (k+hs.length) o2/\
  hs.foldl (fun acc z=>do
   let (owner,k) <- acc
   let j <- SetTable.layClean.free m owner (SetTable.turns m) (SetTable.bits z % (m + 1)) (SetTable.bits z)
   pure (owner.setIfInBounds j (some k),k+1)) (some (owner,k))=some (o2,k+hs.length)
 |[],k,owner,h,_=>⟨owner,h,rfl⟩
 |z::hs,k,owner,h,hl=>by
  rw[List.length_cons]at hl
  obtain⟨j,f1,f2⟩:=Em hm h (by lia) z
  obtain⟨o2,a,b⟩:=yi hm hs (k+1) _ f2 (by lia)
  refine⟨o2,by rw[List.length_cons,show k+(hs.length+1)=k+1+hs.length by lia];exact a,?_⟩
  rw[List.foldl_cons]
  show List.foldl _ (do let j <- SetTable.layClean.free m owner (SetTable.turns m) (SetTable.bits z % (m + 1)) (SetTable.bits z); pure (owner.setIfInBounds j (some k),k + 1)) hs = _
  rw[f1]
  show List.foldl _ (some (owner.setIfInBounds j (some k),k+1)) hs=_
  rw[b,List.length_cons,show k+(hs.length+1)=k+1+hs.length by lia]
theorem D1{m:Nat}(hm:lA m)(hashes:Array Int)(hl:hashes.size<=m+1):∃owner,SetTable.layClean m hashes=some owner/\nI m hashes.size owner:=by
 have h0:nI m 0 (Array.replicate (m+1) none):=by
  refine⟨by simp,?_⟩
  rw[Array.toList_replicate]
  have:∀n,(List.replicate n (none:Option Nat)).filterMap id=[]:=fun n=>by
   induction n with
   |zero=>rfl
   |succ n ih=>rw[List.replicate_succ];exact ih
  rw[this]
  exact hZ _
 obtain⟨o2,a,b⟩:=yi hm hashes.toList 0 _ h0 (by rw[Array.length_toList];lia)
 rw[Array.length_toList,fE]at a b
 refine⟨o2,?_,a⟩
 unfold SetTable.layClean
 rw [<- Array.foldl_toList,b]
 rfl
theorem zk(owner:Array (Option Nat)):((List.range owner.size).filterMap fun j=>(owner.getD j none).map fun k=>(j,k)).map (·.2)=owner.toList.filterMap id:=by
 rw[List.map_filterMap]
 have e:owner.toList=(List.range owner.size).map fun j=>owner.getD j none:=by
  refine dW fun j=>?_
  by_cases c:j<owner.size
  ·rw[aA,eJ c,cL,eQ c]
   show _=some (owner.getD j none)
   rw[hU,eQ c]
   rfl
  ·rw[bF (by rw[Array.length_toList];lia),bF (by rw[ae,bS];lia)]
 conv=>rhs;rw[e]
 rw[eO]
 congr 1
 funext j
 show Option.map (·.2) ((owner.getD j none).map fun k=>(j,k))=owner.getD j none
 cases owner.getD j none<;>rfl
theorem Fx{m:Nat}(hm:lA m)(t:SetTable)(hashes:Array Int)(wanted:Nat)(hw:SetTable.sizeAbove wanted-1=m)(hl:hashes.size<=m):∃t' order,t.relaid hashes wanted=some (t',order)/\t'.mask=m/\t'.place.size=hashes.size/\t'.dummies= #[]/\order.toList.Perm (List.range hashes.size):=by
 obtain⟨owner,e,ho⟩:=D1 hm hashes (by lia)
 unfold SetTable.relaid SetTable.laid
 rw[hw,e]
 refine⟨_,_,rfl,rfl,?_,rfl,?_⟩
 ·have h2:=zk owner
  rw[ho.1]at h2
  have h3:=bN List.length h2
  rw[ae,ho.2.length_eq,bS]at h3
  rw[aq,ae]
  exact h3
 ·have h2:=zk owner
  rw[ho.1]at h2
  have h3:=ho.2
  rw [<- h2] at h3
  exact h3
theorem Fs{α:Type}{es:Array α}{order:Array Nat}(h:order.toList.Perm (List.range es.size)):(order.filterMap (es[·]?)).toList.Perm es.toList:=by
 rw[Array.toList_filterMap]
 refine(h.filterMap _).trans ?_
 have:(List.range es.size).filterMap (es[·]?)=es.toList:=by
  rw [<- Array.length_toList]
  have e2:(fun i=>es[i]?)=fun i=>es.toList[i]?:=funext fun i=>by rw[cL]
  rw[e2]
  generalize es.toList=l
  induction l with
  |nil=>rfl
  |cons a l ih=>
   rw[List.length_cons,List.range_succ_eq_map,dA (f:=fun i=>(a::l)[i]?) (a:=0) (b:=a) rfl,eO]
   congr 1
 rw[this]
section
variable{t:SetTable}
theorem AC(hd:t.dummies= #[])(j:Nat):t.slot j= .empty\/∃i,t.slot j= .live i/\i<t.place.size:=by
 unfold SetTable.slot
 dsimp only
 split
 ·rename_i c
  refine .inr ⟨_,rfl,?_⟩
  have c:=eq_of_beq c
  exact(ie.mp c).1
 ·rw[hd,ay (by unfold SetTable.has;simp)]
  exact .inl rfl
theorem EC{j:Nat}(hd:t.dummies= #[])(h:j∉t.place.toList):t.slot j= .empty:=by
 unfold SetTable.slot
 dsimp only
 rw[ay,hd,ay (by unfold SetTable.has;simp)]
 intro c
 have c:=eq_of_beq c
 exact h (by rw [<- cL] at c; exact ag c)
theorem xG:∀{ks L:List Nat},ks.Nodup->(∀n∈ks,n∈L)->ks.length<=L.length
 |[],_,_,_=>bw _
 |k::ks,L,nd,h=>by
  have nd':=bz.mp nd
  have hk:=h k (aP ..)
  have:=xG (ks:=ks) (L:=L.erase k) nd'.2 fun n hn=>(eG (fun e=>nd'.1 (by rw [<- e]; exact hn))).mpr (h n (aH _ hn))
  have e:=dy hk
  have:0<L.length:=dU hk
  rw[List.length_cons]
  lia
theorem D6(hd:t.dummies= #[])(h:t.place.size<=t.mask):∃e,e<=t.mask/\t.slot e= .empty:=by
 by_cases c:∀n∈List.range (t.mask+1),n∈t.place.toList
 ·have:=xG List.nodup_range c
  rw[bS,Array.length_toList]at this
  lia
 ·obtain⟨e,he⟩:=Classical.not_forall.mp c
  obtain⟨h1,h2⟩:=Classical.not_imp.mp he
  exact⟨e,by have:=bK.mp h1;lia,EC hd h2⟩
def kh(t:SetTable):Nat->SetTable.Probe->SetTable.Probe
 |0,p=>p
 |k+1,p=>kh t k (t.advance p)
theorem ug(t:SetTable):∀a b p,kh t (a+b) p=kh t b (kh t a p)
 |0,b,p=>by rw[fE];rfl
 |a+1,b,p=>by rw[gh];exact ug t a b _
def nG(t:SetTable)(x:Nat×Nat):SetTable.Probe:={j:=x.1,more:=SetTable.runEnd t.mask x.1-x.1,i:=x.1,perturb:=x.2,dummy:=none}
theorem yH(t:SetTable):∀(k:Nat) (p:SetTable.Probe),p.more=k->kh t (k+1) p=t.advance {p with j:=p.j+k,more:=0}
 |0,p,h=>by
  show t.advance p=_
  congr 1
  cases p
  dsimp only at h ⊢
  subst h
  rfl
 | k+1,p,h=>by
  show kh t (k+1) (t.advance p)=_
  have e:t.advance p={p with j:=p.j+1,more:=k}:=by
   unfold SetTable.advance
   rw[az (by lia),h]
   rfl
  rw[e,yH t k _ rfl]
  congr 2
  show p.j+1+k=p.j+(k+1)
  lia
theorem FR(t:SetTable)(x:Nat×Nat):∃k,k<=10/\kh t k (nG t x)=nG t (SetTable.leap t.mask x.1 x.2):=by
 refine⟨(nG t x).more+1,?_,?_⟩
 ·have:=(zE t.mask x.1).2
  show SetTable.runEnd t.mask x.1-x.1+1<=10
  lia
 ·rw[yH t _ _ rfl]
  unfold SetTable.advance
  rw[ay (cH 0)]
  rfl
theorem An(t:SetTable):∀(r:Nat) (x:Nat×Nat),∃k,k<=10*r/\kh t k (nG t x)=nG t (j2 t.mask r x)
 |0,x=>⟨0,by lia,rfl⟩
 |r+1,x=>by
  obtain⟨k,hk,e⟩:=FR t x
  obtain⟨k2,hk2,e2⟩:=An t r (SetTable.leap t.mask x.1 x.2)
  exact⟨k+k2,by lia,by rw[ug,e,e2];rfl⟩
theorem Fu(hm:lA t.mask)(hd:t.dummies= #[])(h:t.place.size<=t.mask)(z:Int):∃k,k<=10*(t.mask+13)/\t.slot (kh t k (t.probeStart z)).j= .empty:=by
 obtain⟨e,he,hs⟩:=D6 hd h
 obtain⟨r,hr,q⟩:=Ab hm (i:=SetTable.bits z%(t.mask+1)) (p:=SetTable.bits z) (gy (Nat.mod_lt _ (Nat.succ_pos _))) (yc z) he
 obtain⟨k,hk,e2⟩:=An t r (SetTable.bits z%(t.mask+1),SetTable.bits z)
 refine⟨k,by lia,?_⟩
 rw[show t.probeStart z=nG t (SetTable.bits z%(t.mask+1),SetTable.bits z)from rfl,e2]
 show t.slot (j2 t.mask r (SetTable.bits z%(t.mask+1),SetTable.bits z)).1=_
 rw[q]
 exact hs
theorem zO(t:SetTable)(p:SetTable.Probe):(t.advance p).dummy=p.dummy:=by
 unfold SetTable.advance
 split<;>rfl
theorem yj(hd:t.dummies= #[])(f:Nat->Int)(z:Int):∀(k fuel:Nat) (p:SetTable.Probe),k<fuel->t.slot (kh t k p).j= .empty->p.dummy=none->
  (∃j,SetTable.probe.go t f z fuel p=some (.empty j none)/\t.slot j= .empty)\/∃j i k',SetTable.probe.go t f z fuel p=some (.candidate j i (kh t (k'+1) p))/\t.slot j= .live i/\k'<k/\(kh t (k'+1) p).dummy=none
 |k,0,_,h,_,_=>by lia
 | k,fuel+1,p,h,hs,hn=>by
  rw[SetTable.probe.go]
  rcases AC hd p.j with c|⟨i,c,_⟩
  ·rw[c]
   exact .inl ⟨p.j,by rw [<- hn],c⟩
  ·rw[c]
   dsimp only
   cases k with
   |zero=>rw[show kh t 0 p=p from rfl,c]at hs;cases hs
   | succ k=>
    by_cases q:(f i==z)=true
    ·rw[az q]
     exact .inr ⟨p.j,i,0,rfl,c,by lia,by rw[show kh t (0+1) p=t.advance p from rfl,zO,hn]⟩
    ·rw[ay q]
     rcases yj hd f z k fuel (t.advance p) (by lia) hs (by rw[zO,hn])with x|⟨j,i2,k',a,b,c2,d⟩
     ·exact .inl x
     ·exact .inr ⟨j,i2,k'+1,a,b,by lia,d⟩
end
structure Tab(t:SetTable)(n:Nat):Prop where
 p:t.place.size=n
 d:t.dummies= #[]
 m:lA t.mask
 f:5*n<3*t.mask
theorem Tab.fits{t:SetTable}{n:Nat}(T:Tab t n):t.fits n=true:=by
 have:=T.f
 unfold SetTable.fits SetTable.fill
 rw[T.p,T.d]
 simp
 lia
theorem Tab.room{t:SetTable}{n:Nat}(T:Tab t n):t.place.size<=t.mask:=by
 have:=T.f
 rw[T.p]
 lia
theorem Tab.way{t:SetTable}{n:Nat}(T:Tab t n):t.gaveWay=false:=by
 unfold SetTable.gaveWay
 rcases T.m with e|e|e<;>rw[e]<;>rfl
section
variable{prog:Program}{w:World}{A:Around}{E:Value->Shared->Prop}
theorem Hh{n:Nat}{v:Value}(h:carriedByValue v=true):∃b,hashByValue n v=pure b:=by
 cases v<;>cases n<;>first|exact⟨_,rfl⟩|(unfold carriedByValue at h;cases h)
theorem CJ{n:Nat}{v:Value}(h:carriedByValue v=true):ofAClassStatement n v=pure false:=by
 cases v<;>cases n<;>first|rfl|(unfold carriedByValue at h;cases h)
theorem Dj{k:List iq}{a:Addr}{s:Shared}{Q:Bool->Shared->Prop}(hk:(TK prog w).is s.heap k a)(h:∀b,Q b s):wpAny (model prog w) A (hashByValue 8 (.ref a)) Q E s:=by
 have hT:=IsTupleKey.typeIs hk
 obtain⟨o,items,n,ho,_,hd,hi⟩:=hk
 unfold hashByValue
 refine aa (wpAny_specialOf hT F.slot_tuple_hash.lookup ?_)
 show wpAny _ _ (seqItems? (.ref a)>>=_) _ _ s
 refine aa (bP ho hd ?_)
 refine aa ?_
 show wpAny _ _ (forIn items _ _) _ _ s
 rw [<- Array.forIn_toList]
 refine ff _ (fun rest r s'=>r.1=none/\s'=s/\∀v∈rest,carriedByValue v=true) _ ?_ ?_ _ _ ⟨rfl,rfl,hi.byValue⟩
 ·rintro v rest r s' ⟨hr,rfl,hall⟩
  obtain⟨b,e⟩:=Hh (n:=7) (hall v aP)
  rw[e]
  refine aa (av ?_)
  cases b
  ·exact av (av (h _))
  ·exact av ⟨rfl,rfl,fun u hu'=>hall u (aH _ hu')⟩
 ·rintro⟨r1,r2⟩ s' ⟨hr,rfl,_⟩
  simp only at hr
  subst hr
  exact av (h _)
theorem Af{k:List iq}{a:Addr}{s:Shared}{Q:Bool->Shared->Prop}(hk:(TK prog w).is s.heap k a)(h:Q false s):wpAny (model prog w) A (ofAClassStatement 8 (.ref a)) Q E s:=by
 have hT:=IsTupleKey.typeIs hk
 obtain⟨o,items,n,ho,_,hd,hi⟩:=hk
 unfold ofAClassStatement
 refine aa (fq hT ?_)
 dsimp only
 rw[az (by decide)]
 refine aa (av ?_)
 simp only[cz,aG,if_false]
 refine aa (bP ho hd ?_)
 dsimp only
 refine aa ?_
 rw [<- Array.forIn_toList]
 refine ff _ (fun rest r s'=>r.1=none/\s'=s/\∀v∈rest,carriedByValue v=true) _ ?_ ?_ _ _ ⟨rfl,rfl,hi.byValue⟩
 ·rintro v rest r s' ⟨hr,rfl,hall⟩
  rw[CJ (hall v aP)]
  refine aa (av ?_)
  simp only[aG,if_false]
  exact av ⟨rfl,rfl,fun u hu'=>hall u (aH _ hu')⟩
 ·rintro⟨r1,r2⟩ s' ⟨hr,rfl,_⟩
  simp only at hr
  subst hr
  exact av h
theorem Ek{k:List iq}{x:Addr}{s:Shared}{Q:Bool->Shared->Prop}(hk:(TK prog w).is s.heap k x){l:List Value}(hl:∀y∈l,∃k' b,y= .ref b/\(TK prog w).is s.heap k' b)(h:Q false s):wpAny (model prog w) A (searchCouldBeSeen (.ref x) l) Q E s:=by
 unfold searchCouldBeSeen
 refine aa ?_
 refine ff _ (fun rest r s'=>r.1=none/\s'=s/\∀y∈rest,∃k' b,y=Value.ref b/\(TK prog w).is s.heap k' b) _ ?_ ?_ _ _ ⟨rfl,rfl,hl⟩
 ·rintro y rest r s' ⟨hr,rfl,hall⟩
  obtain⟨k',b,rfl,hb⟩:=hall _ aP
  have go:∀y∈rest,∃k' b,y=Value.ref b/\(TK prog w).is s'.heap k' b:=fun u hu'=>hall u (aH _ hu')
  dsimp only
  split
  ·exact av ⟨rfl,rfl,go⟩
  ·refine aa ((TK prog w).quiet hk ?_)
   simp only[cz,aG,if_false]
   refine aa ((TK prog w).quiet hb ?_)
   simp only[cz,aG,if_false]
   refine aa (Af hk ?_)
   simp only[aG,if_false]
   refine aa (Af hb ?_)
   simp only[aG,if_false]
   exact av ⟨rfl,rfl,go⟩
 ·rintro⟨r1,r2⟩ s' ⟨hr,rfl,_⟩
  simp only at hr
  subst hr
  exact av h
theorem CS{M:Model}{s:Shared}{c:Bool}{m:Sem Bool}{u tl:Sem SetFound}{Q:SetFound->Shared->Prop}(hm:wpAny M A m (fun b s'=>b=false/\s'=s) E s)(h:wpAny M A tl Q E s):wpAny M A (if c=true then(m>>=fun b=>if b=true then u else tl)else tl) Q E s:=by
 split
 ·refine aa (cT hm (fun b s' z=>?_) fun _ _ q=>q)
  obtain⟨rfl,rfl⟩:=z
  exact h
 ·exact h
theorem AN{S x:Addr}{k:List iq}{s:Shared}{o:Obj}{es:Array (Int×Value)}{ep:Nat}{t:SetTable}{Q:SetFound->Shared->Prop}(hu:A.units<cLine)(hx:(TK prog w).is s.heap k x)(ho:s.heap.get? S=some o)(hd:o.data= .set es ep t)(T:Tab t es.size)
  (hel:∀e∈es.toList,∃k' a,k'≠k/\e.2= .ref a/\(TK prog w).is s.heap k' a) (z:Int) (hQ:∀j,Q (.free j false) s):
  ∀(fuel n:Nat) (stand:Option SetTable.Probe),n<fuel->n<10*SetTable.turns t.mask->t.slot (kh t n (stand.getD (t.probeStart z))).j= .empty->(stand.getD (t.probeStart z)).dummy=none->
   wpAny (model prog w) A (setSearchFrom S (.ref x) z true fuel stand) Q E s
 |0,n,_,h,_,_,_=>by lia
 | fuel+1,n,stand,h,hn,hs,hdm=>by
  unfold setSearchFrom
  refine aa (dJ ho hd T.fits ?_)
  dsimp only
  rw[T.way]
  simp only[aG,if_false]
  unfold SetTable.probe
  rcases yj T.d _ z n (10*SetTable.turns t.mask) _ hn hs hdm with⟨j,e,_⟩|⟨j,i,k',e,hl,hk,hd2⟩
  ·rw[e]
   exact av (hQ j)
  ·rw[e]
   dsimp only
   have hi:i<es.size:=by
    rcases AC T.d j with c|⟨i2,c,hi2⟩
    ·rw[hl]at c;cases c
    ·rw[hl]at c
     cases c
     rw [<- T.p]; exact hi2
   have hem:es[i] ∈ es.toList:=by rw [<- Array.getElem_toList]; exact dq _
   obtain⟨kb,b,hne,hb1,hb2⟩:=hel _ hem
   have he:es[i]? = some (es[i].1,.ref b):=by rw [eQ hi,<- hb1]
   refine CS (Ek hx (fun y hy=>?_) ⟨rfl,rfl⟩) ?_
   ·obtain⟨e2,he2,rfl⟩:=aE.mp hy
    have:e2∈es.toList:=by
     have:=fT.mp he2
     exact fT.mpr (Array.mem_filter.mp this).1
    obtain⟨k2,b2,_,q1,q2⟩:=hel _ this
    exact⟨k2,b2,q1,q2⟩
   rw[he]
   dsimp only
   refine aa (bX ((TK prog w).eqBool hu hb2 hx ?_))
   rw[aK hne]
   refine aa (dJ ho hd T.fits ?_)
   simp only[eP,aG,if_false]
   have hsm:t.sameMemory t.moves t.mask=some true:=by unfold SetTable.sameMemory;simp
   rw[hsm]
   dsimp only
   rw[az rfl,hl]
   dsimp only
   rw[he]
   dsimp only
   refine aa (wpAny_isSame_ref_self ?_)
   refine aa (av ?_)
   simp only[if_true]
   refine AN hu hx ho hd T hel z hQ fuel (n-k'-1) _ (by lia) (by lia) ?_ hd2
   show t.slot (kh t (n-k'-1) (kh t (k'+1) (stand.getD (t.probeStart z)))).j=_
   rw [<- ug,show k' + 1 + (n - k' - 1) = n by lia]
   exact hs
def mj(prog:Program)(w:World)(h:Heap)(S:Addr)(ks:List (List iq)):Prop:=∃o es ep t,h.get? S=some o/\o.ExactSet/\o.data= .set es ep t/\es.size=ks.length/\(∀e∈es.toList,∃k∈ks,∃a,e.2=Value.ref a/\(TK prog w).is h k a)/\Tab t es.size
theorem ph{h h':Heap}{k:List iq}{a:Addr}(x:(TK prog w).is h k a)(k1:∀o,o.cls= .type "tuple"->h.get? a=some o->h'.get? a=some o):(TK prog w).is h' k a:=by
 obtain⟨o2,its,n,f1,f2,f3⟩:=x
 exact⟨o2,its,n,k1 _ f2 f1,f2,f3⟩
theorem zh{α:Type}(xs:Array α)(p:Nat)(x:α):(SetTable.insertAt xs p x).size=xs.size+1:=by
 unfold SetTable.insertAt
 simp only[Array.size_append,Array.size_push,Array.size_extract]
 lia
theorem DQ{t:SetTable}{n:Nat}(T:Tab t n)(j:Nat):(t.put j).1.place.size=n+1/\(t.put j).1.dummies= #[]/\(t.put j).1.mask=t.mask:=by
 unfold SetTable.put
 refine⟨?_,?_,rfl⟩
 ·dsimp only
  rw[zh,T.p]
 ·dsimp only
  rw[T.d,ay (by unfold SetTable.has;simp)]
theorem Dk{α:Type}{xs:Array α}{p:Nat}{x y:α}(h:y∈(SetTable.insertAt xs p x).toList):y=x\/y∈xs.toList:=by
 unfold SetTable.insertAt at h
 rw[Array.toList_append,Array.toList_push]at h
 rcases aM.mp h with h|h
 ·rcases aM.mp h with h|h
  ·rw[Array.toList_extract]at h
   exact .inr (List.mem_of_mem_drop (fP h))
  ·exact .inl (aC.mp h)
 ·rw[Array.toList_extract]at h
  exact .inr (List.mem_of_mem_drop (fP h))
theorem EB:SetTable.sizeAbove (SetTable.grown 5)-1=31/\SetTable.sizeAbove (SetTable.grown 19)-1=127/\SetTable.sizeAbove (SetTable.grown 5)<=sizeLine/\SetTable.sizeAbove (SetTable.grown 19)<=sizeLine:=by decide+kernel
theorem FJ{t:SetTable}{n:Nat}(T:Tab t n)(hn:n<=60)(t1:SetTable)(p1:t1.place.size=n+1)(d1:t1.dummies= #[])(m1:t1.mask=t.mask):(t1.tooFull=false/\Tab t1 (n+1))\/(t1.tooFull=true/\∃m,lA m/\SetTable.sizeAbove (SetTable.grown (n+1))-1=m/\SetTable.sizeAbove (SetTable.grown (n+1))<=sizeLine/\n+1<=m/\5*(n+1)<3*m):=by
 have hf:=T.f
 have hfill:t1.fill=n+1:=by unfold SetTable.fill;rw[p1,d1];rfl
 by_cases c:t1.tooFull=true
 ·refine .inr ⟨c,?_⟩
  have c:=bC c
  rw[hfill,m1]at c
  obtain⟨z1,z2,z3,z4⟩:=EB
  rcases T.m with e|e|e<;>rw[e]at c hf
  ·have:n+1=5:=by lia
   rw[this]
   exact⟨31,.inr (.inl rfl),z1,z3,by decide,by decide⟩
  ·have:n+1=19:=by lia
   rw[this]
   exact⟨127,.inr (.inr rfl),z2,z4,by decide,by decide⟩
  ·lia
 ·have c':t1.tooFull=false:=by simpa using c
  refine .inl ⟨c',p1,d1,by rw[m1];exact T.m,?_⟩
  have c:=of_decide_eq_false c'
  rw[hfill]at c
  lia
theorem FA{S:Addr}{s:Shared}{o:Obj}{es:Array (Int×Value)}{ep:Nat}{t:SetTable}{Q:Unit->Shared->Prop}(ho:s.heap.get? S=some o)(hex:o.ExactSet)(hd:o.data= .set es ep t)(hf:t.fits es.size=true){m wanted:Nat}(hm:lA m)(hw:SetTable.sizeAbove wanted-1=m)(hsz:SetTable.sizeAbove wanted<=sizeLine)(hl:es.size<=m)(h5:5*es.size<3*m)(hes:es.size<=sizeLine)
  (h:∀h' o' es' ep' t',Heap.SameBut S s.heap h'->h'.get? S=some o'->o'.ExactSet->o'.data= .set es' ep' t'->es'.size=es.size->(∀e∈es'.toList,e∈es.toList)->Tab t' es'.size->Q () {s with heap:=h'}):
  wpAny (model prog w) A (setRelay S wanted) Q E s:=by
 obtain⟨t',order,e1,e2,e3,e4,e5⟩:=Fx hm t (es.map (·.1)) wanted hw (by rw[fS];exact hl)
 rw[fS]at e3 e5
 have hp:=Fs e5
 have hps:(order.filterMap (es[·]?)).size = es.size:=by rw [<- Array.length_toList,hp.length_eq,Array.length_toList]
 unfold setRelay
 refine aa (dJ ho hd hf ?_)
 dsimp only
 rw[ay (by lia),e1]
 refine aa ?_
 change wpAny _ A (do
  let some (t,order):=some (t',order)|unsupported "internal:set-table-without-room"
  let es':=order.filterMap (es[·]?)
  if es'.size !=es.size then unsupported "internal:set-table-lost-an-element"
  pure (es',t)) _ E s
 dsimp only
 rw[hps,gu]
 simp only[aG,if_false]
 refine av ?_
 refine wpAny_storeSet_of ho hd ?_ (by rw[hps];exact hes)
 have hg:=cy (Obj.putSet (order.filterMap (es[·]?)) t') ho (by rw[fU _ _ hd];rfl)
 refine h _ _ _ (ep+1) t' (eK s.heap S _) hg ?_ ?_ hps (fun e he=>hp.mem_iff.mp he) ⟨by rw[e3,hps],e4,by rw[e2];exact hm,by rw[e2,hps];exact h5⟩
 ·rw[fU _ _ hd];exact hex
 ·rw[fU _ _ hd]
theorem EJ{S x:Addr}{k:List iq}{ks:List (List iq)}{s:Shared}{Q:Bool->Shared->Prop}(hu:A.units<cLine)(hx:(TK prog w).is s.heap k x)(hS:mj prog w s.heap S ks)(hk:k∉ks)(hn:ks.length<60)(hxS:x≠S)
  (h:∀h' tk b,Heap.SameBut S s.heap h'->mj prog w h' S (k::ks)->Q b {s with heap:=h',toks:=tk}):wpAny (model prog w) A (setAdd S (.ref x)) Q E s:=by
 obtain⟨o,es,ep,t,ho,hex,hd,hz,hel,T⟩:=hS
 unfold setAdd
 refine bX ?_
 refine aa ((TK prog w).pyHash hu hx ?_)
 generalize s.toks+(TK prog w).draws k=tk
 unfold setAddHashed
 refine bX ?_
 unfold setAddHashedIn
 refine aa (dJ (s:={s with toks:=tk}) ho hd T.fits ?_)
 dsimp only
 rw[show byScan (.ref x) es=false from rfl]
 simp only[aG,if_false]
 obtain⟨n,hn1,hn2⟩:=Fu T.m T.d T.room ((TK prog w).hash k)
 have hne:∀e∈es.toList,∃k' a,k'≠k/\e.2=Value.ref a/\(TK prog w).is s.heap k' a:=fun e he=>by
  obtain⟨k',hk',a,q1,q2⟩:=hel e he
  exact ⟨k',a,fun z=>hk (by rw [<- z]; exact hk'),q1,q2⟩
 have hmk:t.mask<=127:=by rcases T.m with e|e|e<;>rw[e]<;>decide
 unfold setSearch
 refine aa (AN (s:={s with toks:=tk}) hu hx ho hd T hne _ (fun j=>?_) 100000 n none (by lia) (by unfold SetTable.turns;lia) hn2 rfl)
 dsimp only
 refine aa (dJ (s:={s with toks:=tk}) ho hd T.fits ?_)
 dsimp only
 obtain⟨p1,d1,m1⟩:=DQ T j
 have hm1:∀e∈(SetTable.insertAt es (t.put j).2 ((TK prog w).hash k,Value.ref x)).toList,∃k'∈k::ks,∃a,e.2=Value.ref a/\(TK prog w).is s.heap k' a:=fun e he=>by
  rcases Dk he with rfl|he
  ·exact⟨k,aP ..,x,rfl,hx⟩
  ·obtain⟨k',hk',r⟩:=hel e he
   exact⟨k',aH _ hk',r⟩
 have hs1:(SetTable.insertAt es (t.put j).2 ((TK prog w).hash k,Value.ref x)).size=es.size+1:=zh ..
 generalize SetTable.insertAt es (t.put j).2 ((TK prog w).hash k,Value.ref x)=es1 at hm1 hs1
 have keep:∀{h1 h2:Heap},Heap.SameBut S h1 h2->(∀e∈es1.toList,∃k'∈k::ks,∃a,e.2=Value.ref a/\a≠S/\(TK prog w).is h1 k' a)->∀e∈es1.toList,∃k'∈k::ks,∃a,e.2=Value.ref a/\a≠S/\(TK prog w).is h2 k' a:=fun sb hh e he=>by
  obtain⟨k',hk',a,q1,q2,q3⟩:=hh e he
  exact⟨k',hk',a,q1,q2,ph q3 fun o _ g=>(sb.2 a q2).trans g⟩
 have hm2:∀e∈es1.toList,∃k'∈k::ks,∃a,e.2=Value.ref a/\a≠S/\(TK prog w).is s.heap k' a:=fun e he=>by
  obtain⟨k',hk',a,q1,q2⟩:=hm1 e he
  refine⟨k',hk',a,q1,fun z=>?_,q2⟩
  subst z
  obtain⟨o2,its,n2,f1,f2,_⟩:=q2
  rw[ho]at f1;cases f1;rw[hex.1]at f2;exact absurd f2 (by decide)
 have hsl:es1.size<=sizeLine:=by have:=(by decide:61<=sizeLine);lia
 have fin:∀(t1:SetTable),t1.place.size=es.size+1->t1.dummies= #[]->t1.mask=t.mask->wpAny (model prog w) A (storeSet S es1 t1>>=fun _=>if(!false&&t1.tooFull)=true then(setRelay S (SetTable.grown (es.size+1))>>=fun _=>pure true)else pure true) Q E {s with toks:=tk}:=fun t1 a1 a2 a3=>by
  refine aa (wpAny_storeSet_of (s:={s with toks:=tk}) ho hd ?_ hsl)
  have hg:=cy (Obj.putSet es1 t1) ho (by rw[fU _ _ hd];rfl)
  have hex1:(Obj.putSet es1 t1 o).ExactSet:=by rw[fU _ _ hd];exact hex
  have hd1:(Obj.putSet es1 t1 o).data= .set es1 (ep+1) t1:=by rw[fU _ _ hd]
  have sb:=eK s.heap S (Obj.putSet es1 t1)
  have hm3:=keep sb hm2
  generalize s.heap.update S (Obj.putSet es1 t1)=h1 at hg sb hm3
  generalize Obj.putSet es1 t1 o=o1 at hg hex1 hd1
  rcases FJ T (by lia) t1 a1 a2 a3 with⟨c,T1⟩|⟨c,m,hm,hw,hsz,hl,h5⟩
  ·rw[c]
   simp only[eP,aG,if_false]
   refine av (h h1 tk true sb ⟨o1,es1,ep+1,t1,hg,hex1,hd1,by rw[hs1,hz];rfl,fun e he=>?_,by rw[hs1];exact T1⟩)
   obtain⟨k',hk',a,q1,_,q3⟩:=hm3 e he
   exact⟨k',hk',a,q1,q3⟩
  ·rw[c]
   simp only[di,Bool.and_self,if_true]
   have hf1:t1.fits es1.size=true:=by
    have:=T.f
    unfold SetTable.fits SetTable.fill
    rw[a1,a2,a3,hs1]
    simp
    have:=T.f
    lia
   refine aa (FA (s:={s with heap:=h1,toks:=tk}) hg hex1 hd1 hf1 hm hw hsz (by rw[hs1];exact hl) (by rw[hs1];exact h5) hsl fun h2 o2 es2 ep2 t2 sb2 g2 x2 d2 z2 l2 T2=>?_)
   refine av (h h2 tk true (sb.trans sb2) ⟨o2,es2,ep2,t2,g2,x2,d2,by rw[z2,hs1,hz];rfl,fun e he=>?_,T2⟩)
   obtain⟨k',hk',a,q1,_,q3⟩:=keep sb2 hm3 e (l2 e he)
   exact⟨k',hk',a,q1,q3⟩
 split
 ·refine aa (Dj (s:={s with toks:=tk}) hx fun b=>?_)
  cases b
  ·exact fin _ p1 d1 m1
  ·exact fin _ p1 d1 m1
 ·refine aa (av ?_)
  exact fin _ p1 d1 m1
theorem uV{h h':Heap}{S:Addr}{ks:List (List iq)}(hS:mj prog w h S ks)(k0:∀o,h.get? S=some o->h'.get? S=some o)(k1:∀b o,o.cls= .type "tuple"->h.get? b=some o->h'.get? b=some o):mj prog w h' S ks:=by
 obtain⟨o,es,ep,t,ho,hex,hd,hz,hel,T⟩:=hS
 refine⟨o,es,ep,t,k0 _ ho,hex,hd,hz,fun e he=>?_,T⟩
 obtain⟨k,hk,a,q1,q2⟩:=hel e he
 exact⟨k,hk,a,q1,ph q2 fun o c g=>k1 _ _ c g⟩
theorem Fz{R:Result->Shared->Prop}{S it l:Addr}{its:Array Value}{more:List (List iq×Addr)}(hh:A.handled=none)(hu:A.in1.units<cLine)(hlen:more.length=its.size)(hsz:its.size<=60)(hnd:(more.map (·.1)).Nodup)(hdl:l≠S)(hdi:it≠S)(hil:l≠it):
  ∀(k i:Nat) (s:Shared) (ks:List (List iq)),its.size-i=k->i<=its.size->ks.Perm ((more.take i).map (·.1))->s.heap.IsListIter it l i->s.heap.IsList l its->mj prog w s.heap S ks->
   (∀(j:Nat) (q:List iq×Addr),more[j]? =some q->its[j]? =some (.ref q.2)/\(TK prog w).is s.heap q.1 q.2)->
   (∀h' tk ks',ks'.length=its.size->mj prog w h' S ks'->(∀b o,b≠S->b≠it->s.heap.get? b=some o->h'.get? b=some o)->R (.ok (.ret .none)) {s with heap:=h',toks:=tk})->
   codeAny (model prog w) A (.builtin "set.update.loop" ⟨[.ref S,.ref it],[]⟩) R s:=by
 intro k
 induction k with
 | zero=>
  intro i s ks hk hi hp hit hl hS hq hR
  have e:i=its.size:=by lia
  subst e
  refine cP F.entry_set_update_loop ?_
  rw[cG fo _]
  show wpAny _ A.in1 (pyNext (.ref it)>>=_) _ _ s
  refine aa (fL hh hit hl (by simp) fun h' eb=>?_)
  show wpAny _ A.in1 (ret Value.none) _ _ _
  refine av (hR h' s.toks ks ?_ ?_ fun b o _ hb q=>eb b o hb q)
  ·rw[hp.length_eq,ae,aS,hlen]
   exact Nat.min_self _
  ·refine uV hS (fun o q=>eb S o hdi.symm q) fun b o c q=>eb b o (fun z=>?_) q
   subst z
   obtain⟨o',e2,c2,_⟩:=hit
   rw[q]at e2;cases e2;rw[c]at c2;exact absurd c2 (by decide)
 | succ k ih=>
  intro i s ks hk hi hp hit hl hS hq hR
  have hlt:i<its.size:=by lia
  have hlm:i<more.length:=by lia
  obtain⟨hu',hkey⟩:=hq i more[i] (by simp[hlm])
  have nit:∀{b:Addr} {o:Obj},o.cls= .type "tuple"->s.heap.get? b=some o->b≠it:=fun{b o} c q z=>by
   subst z
   obtain⟨o',e2,c2,_⟩:=hit
   rw[q]at e2;cases e2;rw[c]at c2;exact absurd c2 (by decide)
  have nS:∀{b:Addr} {o:Obj},o.cls= .type "tuple"->s.heap.get? b=some o->b≠S:=fun{b o} c q z=>by
   subst z
   obtain⟨o',_,_,_,e2,c2,_⟩:=hS
   rw[q]at e2;cases e2;rw[c2.1]at c;exact absurd c (by decide)
  refine cP F.entry_set_update_loop ?_
  rw[cG fo _]
  show wpAny _ A.in1 (pyNext (.ref it)>>=_) _ _ s
  refine aa (fv hit hl hu' fun h1 hit1 sb1=>?_)
  have keep1:∀b o,o.cls= .type "tuple"->s.heap.get? b=some o->h1.get? b=some o:=fun b o c q=>sb1.extBut b o (nit c q) q
  have hS1:mj prog w h1 S ks:=uV hS (fun o q=>sb1.extBut S o hdi.symm q) keep1
  have hkey1:(TK prog w).is h1 more[i].1 more[i].2:=ph hkey fun o c g=>keep1 _ _ c g
  have hxS:more[i].2≠S:=by
   obtain⟨o2,_,_,f1,f2,_⟩:=hkey
   exact nS f2 f1
  have hpi:(more.take (i+1)).map (·.1)=(more.take i).map (·.1)++[more[i].1]:=by
   rw[jy (gE hlm),ao];rfl
  have hnew:more[i].1∉ks:=fun z=>by
   have z:=hp.mem_iff.mp z
   have nd2:((more.take (i+1)).map (·.1)).Nodup:=by
    rw[List.map_take]
    exact List.Pairwise.sublist (gz _ _) hnd
   rw[hpi]at nd2
   exact(bZ.mp nd2).2.2 _ z _ (aC.mpr rfl) rfl
  have hkl:ks.length=i:=by rw[hp.length_eq,ae,aS];lia
  show wpAny _ A.in1 (holding [.ref more[i].2] (setAdd S (.ref more[i].2))>>=_) _ _ _
  refine aa (bX ?_)
  refine EJ (s:={s with heap:=h1}) hu hkey1 hS1 hnew (by lia) hxS fun h2 tk2 b2 sb2 hS2=>?_
  have kk:∀b o,b≠S->b≠it->s.heap.get? b=some o->h2.get? b=some o:=fun b o b1 b2 q=>(sb2.2 b b1).trans (sb1.extBut b o b2 q)
  refine av ⟨cY fo _,?_⟩
  refine ih (i+1) _ (more[i].1::ks) (by lia) (by lia) ?_ (hit1.extBut (fun b o c q=>(sb2.2 b c).trans q) hdi) ((hl.extBut sb1.extBut hil).extBut (fun b o c q=>(sb2.2 b c).trans q) hdl) hS2 ?_ ?_
  ·rw[hpi]
   exact(hp.cons _).trans (cK (l₁:=[more[i].1]))
  ·intro j q hj
   obtain⟨a1,a3⟩:=hq j q hj
   exact⟨a1,ph a3 fun o c g=>kk _ _ (nS c g) (nit c g) g⟩
  ·intro h' tk ks' hl' hS' k'
   exact hR h' tk ks' hl' hS' fun b o b1 b2 q=>k' b o b1 b2 (kk b o b1 b2 q)
end
section
variable{prog:Program}{w:World}{A:Around}{E:Value->Shared->Prop}{s:Shared}
abbrev l8(led:Bool):Obj:={cls:=.type "set",dict:=none,data:=.set #[] 0 (.fresh 0 0 led)}
theorem F6{a:Value}{Q:Value->Shared->Prop}
  (hin:∀led:Bool,wpAny (model prog w) A.in1.in1 (Builtin.«set.__init__» ⟨[.ref s.heap.objs.size,a],[]⟩)
   (fun fin s'=>match fin with | .done f=>wants (fun r z=>r= .none/\Q (.ref s.heap.objs.size) z) E (.ok f) s'| .again c=>c.quiet=true/\codeAny (model prog w) A.in1 c (wants (fun r z=>r= .none/\Q (.ref s.heap.objs.size) z) E) s')
   (fun e s'=>wants (fun r z=>r= .none/\Q (.ref s.heap.objs.size) z) E (.error e) s') {s with heap:=s.heap.push (l8 led)}):
  wpAny (model prog w) A (call (.type "set") [a]) Q E s:=by
 have z1:=dt.made;have z2:=dt.sub;have z3:=dt.notType;have z4:=dt.canCreate
 have z5:=F.typeCall_set_1 a
 obtain⟨mc,mt,z6⟩:=dt.mro
 refine wpAny_call (codeAny_of_tree ?_)
 show wpAny _ _ (callAny (.type "set") _) _ _ _
 refine av (And.intro (Code.quiet_builtin _ (by decide+kernel)) (cP F.entry_type_call ?_))
 rw[Around.under_plain (weight_type_call_type "set" [a] []) rfl]
 repeat(any_goals (first|assumption|wp_step))
 refine eM (code_set_new_1 a (E:=E) (Q₁:=fun q y=>∃led:Bool,q=Value.ref s.heap.objs.size/\y={s with heap:=s.heap.push (l8 led)}) fun led=>⟨led,rfl,rfl⟩) fun r y hy=>?_
 match r,hy with
 | .error _,hy=>exact hy
 | .ok (.ret q),hy=>
  obtain⟨led,rfl,rfl⟩:=hy
  have tS:Shared.TypeIs {s with heap:=s.heap.push (l8 led)} (.ref s.heap.objs.size) "set":=⟨_,aJ _ rfl,rfl⟩
  have y1:=dt.init.lookup;have y2:=dt.init.bind (.ref s.heap.objs.size)
  repeat(any_goals (first|assumption|wp_step))
  refine eM (codeAny_call_builtin dt.init.plain F.entry_set_init (check_set_init_1 tS (hin led))) fun r2 y2 hy2=>?_
  match r2,hy2 with
  | .error _,hy2=>exact hy2
  | .ok (.ret _),hy2=>
   obtain⟨rfl,hq⟩:=hy2
   repeat(any_goals (first|assumption|wp_step))
  | .ok .next,hy2=>exact hy2.elim
  | .ok .brk,hy2=>exact hy2.elim
  | .ok .cont,hy2=>exact hy2.elim
 | .ok .next,hy=>exact hy.elim
 | .ok .brk,hy=>exact hy.elim
 | .ok .cont,hy=>exact hy.elim
theorem ER{l:Addr}{its:Array Value}{c:Nat}{more:List (List iq×Addr)}{Q:Value->Shared->Prop}(hh:A.handled=none)(hu:A.in1.in1.in1.units<cLine)(hl:s.heap.get? l=some {cls:=.type "list",dict:=none,data:=.seq its c,slots:=#[]})(hlen:more.length=its.size)(hsz:its.size<=60)(hnd:(more.map (·.1)).Nodup)
  (hq:∀(j:Nat) (q:List iq×Addr),more[j]? =some q->its[j]? =some (.ref q.2)/\(TK prog w).is s.heap q.1 q.2)
  (h:∀h' tk ks,ks.length=its.size->mj prog w h' s.heap.objs.size ks->(∀b o,s.heap.get? b=some o->h'.get? b=some o)->Q (.ref s.heap.objs.size) {s with heap:=h',toks:=tk}):
  wpAny (model prog w) A (call (.type "set") [.ref l]) Q E s:=by
 refine F6 fun led=>?_
 have llt:l<s.heap.objs.size:=aI hl
 have g0:(s.heap.push (l8 led)).get? s.heap.objs.size=some (l8 led):=aJ _ rfl
 have g1:(s.heap.push (l8 led)).get? l=some {cls:=.type "list",dict:=none,data:=.seq its c,slots:=#[]}:=af _ hl
 have gk:∀b o,s.heap.get? b=some o->(s.heap.push (l8 led)).get? b=some o:=fun b o q=>af _ q
 have gsz:s.heap.objs.size<(s.heap.push (l8 led)).objs.size:=aI g0
 generalize s.heap.push (l8 led)=h1 at g0 g1 gk gsz
 have w1:=F.sub_list_set
 have w2:=F.sub_list_frozenset
 have w3:(Value.type "list"==Value.type "dict")=false:=by decide
 have gL:h1.IsList l its:=⟨_,g1,rfl,c,rfl⟩
 unfold Builtin.«set.__init__» noKeywords Builtin.Frozenset.updateFrom
 generalize hPI:pyIter=PI
 wp_walk
 subst hPI
 refine dM (s:={s with heap:=h1}) gL ?_
 refine aa (wpAny_runValue ?_)
 have hS0:mj prog w h1 s.heap.objs.size []:=⟨_,#[],0,_,g0,⟨rfl,rfl,rfl⟩,rfl,rfl,fun e he=>(by simp at he),rfl,rfl,.inl rfl,(by decide:5*0<3*7)⟩
 refine Fz (A:=A.in1.in1) (more:=more) (by simp[hh]) hu hlen hsz hnd (aX llt) (dj gsz) (aX (Nat.lt_trans llt gsz)) its.size 0 {s with heap:=h1.push {cls:=.type "list_iterator",data:=.fields #[.ref l,.int 0 0]}} [] rfl (bw _) (hZ _) ⟨_,aJ _ rfl,rfl,rfl⟩ (gL.push _) (uV hS0 (fun o q=>af _ q) fun b o _ q=>af _ q) (fun j q hj=>?_) fun h' tk ks e1 e2 e3=>?_
 ·obtain⟨a1,a2⟩:=hq j q hj
  exact⟨a1,ph a2 fun o _ g=>af _ (gk _ _ g)⟩
 ·show wpAny _ _ _ _ _ _
  refine av ?_
  show wpAny _ _ (ret Value.none) _ _ _
  refine av ⟨rfl,h h' tk ks e1 e2 fun b o q=>?_⟩
  have q1:=gk b o q
  exact e3 b o (aX (aI q)) (aX (aI q1)) (af _ q1)
end
def rT(H:Hp)(v:V)(ns:List Int):Prop:=∃a,v= .ref a/\H a=some (.tup (ns.map V.int))
def zC(te:TE):TE:=fun σ H Q=>te σ H fun x H1=>∃(l:Addr) (vs:List V) (ks:List (List Int)),x= .ref l/\H1 l=some (.lst vs)/\Paired (rT H1) vs ks/\ks.Nodup/\ks.length<=60/\Q (.int ks.length) H1
theorem Ak{X:Cx}{pins:List (Addr×Obj)}{σ:St}{H:Hp}{s:Shared}(I:Inv X pins σ H s):∀{vs:List V} {ks:List (List Int)} {its:List Value},Paired (rT H) vs ks->Vals vs its->
  ∃more:List (List iq×Addr),more.map (·.1)=ks.map (fun ns=>ns.map (Sum.inl:Int->iq))/\∀(j:Nat) (q:List iq×Addr),more[j]? =some q->its[j]? =some (.ref q.2)/\(TK X.prog X.w).is s.heap q.1 q.2
 |_,_,_,.nil,.nil=>⟨[],rfl,fun j q h=>by simp at h⟩
 | _,_,_,.cons (b:=ns) hp tp,.cons rv tr=>by
  obtain⟨more,hk,hm⟩:=Ak I tp tr
  obtain⟨a,rfl,ha⟩:=hp
  cases rv
  refine⟨(ns.map (Sum.inl:Int->iq),a)::more,by rw[aw,aw,hk],fun j q h=>?_⟩
  cases j with
  |zero=>
   have e:=(show some _=some q from h)
   cases e
   exact⟨rfl,m9 I.hok (by rw[bD];exact ha)⟩
  |succ j=>
   obtain⟨a1,a2⟩:=hm j q (by simpa using h)
   exact⟨by simpa using a1,a2⟩
theorem yl:∀{a b:List Int},a.map (Sum.inl:Int->iq)=b.map Sum.inl->a=b
 |[],[],_=>rfl
 |[],_::_,h=>by cases h
 |_::_,[],h=>by cases h
 |x::a,y::b,h=>by
  rw[aw,aw]at h
  injection h with h1 h2
  rw[yl h2,cE h1]
theorem FV{X:Cx}{x y:Str}{p p2 pos pos2:Pos}{e:Expr}{te:TE}(hc:X.calm=true)(hu:X.A.units+64<cLine)(hg:Gl X x)(hm:X.mg x=none)(hv:bootBuiltins x=some (.builtin "len"))(hg2:Gl X y)(hm2:X.mg y=none)(hv2:bootBuiltins y=some (.type "set"))(he:PE X e te)
  (hn:x≠"__name__":=by decide) (hdb:(x==("__debug__":Str))=false:=by decide) (hn2:y≠"__name__":=by decide) (hdb2:(y==("__debug__":Str))=false:=by decide)
  (h1:starEach [e] X.env=(false,eval e X.env)::starEach [] X.env:=by rfl) (h2:starEach [.Call (.Name y p2) [e] [] pos2] X.env=(false,eval (.Call (.Name y p2) [e] [] pos2) X.env)::starEach [] X.env:=by rfl):
  PE X (.Call (.Name x p) [.Call (.Name y p2) [e] [] pos2] [] pos) (zC te):=by
 intro pins s σ H Q I h
 refine cM (lu I hg hm hv ?_ hn hdb)
 refine gJ ?_ h2 rfl
 rw[h2]
 refine dH ?_
 refine cM (lu I hg2 hm2 hv2 ?_ hn2 hdb2)
 refine bY (ix (ig he ik h1 pos2 pins s σ H (fun xs H1=>match xs with
  |[x]=>∃(l:Addr) (vs:List V) (ks:List (List Int)),x= .ref l/\H1 l=some (.lst vs)/\Paired (rT H1) vs ks/\ks.Nodup/\ks.length<=60/\Q (.int ks.length) H1
  |_=>False) I h) fun us s1 z=>?_) h1 rfl
 obtain⟨xs,H1,I1,rv,z⟩:=z
 match xs,rv,z with
 | [xv],rv,⟨l,vs,ks,ex,el,pk,nd,hk,q⟩=>
  subst ex
  obtain⟨u,rfl,ru⟩:=rv.one
  cases(show u=Value.ref l from ru)
  obtain⟨zz,its,c,r,hlen,e1⟩:=I1.lstM el
  obtain⟨more,hk1,hm1⟩:=Ak I1 pk r
  have hml:more.length=ks.length:=by
   have:=bN List.length hk1
   rw[ae,ae]at this
   exact this
  have hvl:vs.length=ks.length:=aO pk
  refine ER (more:=more) (I1.ok.hd hc) (show X.A.units+1+1+1<cLine by lia) e1 (by rw[aq];lia) (by rw[aq];lia) (by rw[hk1];exact List.Pairwise.map _ (fun a b hab e=>hab (yl e)) nd) (fun j q2 hj=>?_) fun h' tk ks' hl' hS k'=>?_
  ·obtain⟨a1,a2⟩:=hm1 j q2 hj
   exact⟨by simpa using a1,a2⟩
  ·have I2:Inv X pins σ H1 {s1 with heap:=h',toks:=tk}:=I1.kept fun b o g=>k' b o g
   refine eV ?_
   obtain⟨o,es,ep,t,ho,hex,hd,hz,_,T⟩:=hS
   have hes:es.size=ks.length:=by rw[hz,hl',aq];lia
   refine call_len_set ho hex hd T.fits (by rw[hes];lia) ?_
   refine⟨.int es.size,H1,I2.tok _,⟨_,rfl⟩,?_⟩
   rw[hes]
   exact q
end L2
namespace My
open PySem L2
section
variable{P:Program}{w:World}{K:PySem.W.Frag}{mg:Str->Option Value}{base:Heap}{c1 c2 c3 c4:Tok}{C_NoWeb fzc:Addr}{dI:FuncData}
def Ie(ts:List (Int×Int))(C:Int->Bool):Prop:=∀t∈ts,C t.1=true\/C t.2=true
def wC(ps:List (Int×Int))(C:Int->Bool):Int:=(ps.map fun p=>if C p.1=true then p.2 else 0).sum
def CM(ts:List (Int×Int))(n:Int):List Int:=(ts.filter fun t=>decide (t.2=n)).map (·.1)
def CT(m s:List Int):List Int:=m.filter fun x=>!decide (x∈s)
def Ig(ts:List (Int×Int))(n:Int)(s:List Int):List (List Int):=if CT (CM ts n) s=[]then[s++[n],s]else[s++[n]]
section
variable{ps ts:List (Int×Int)}
end
section
variable{ps ts:List (Int×Int)}{fs nr nt:List Int}{zs:List (Int×Int×Int)}
def lj(C:Int->Bool)(n:Int):Int:=if C n=true then 1 else 0
def jL(fs:List Int)(X:Int->Prop)[DecidablePred X](n:Int):Bool:=decide (decide (n∈fs)≠decide (X n))
def mW(zs:List (Int×Int×Int)):Int:=(zs.map (·.2.2)).sum
theorem Bip.ends(F:Bip ps ts fs zs nr nt)(wk:WebOk ps ts):∀d∈zs,d.1∈ps.map (·.1)/\d.2.1∈ps.map (·.1):=fun d hd=>by
 have:=aW (f:=fun d:Int×Int×Int=>(d.1,d.2.1)) hd
 rw[F.zt]at this
 exact nj wk _ this
theorem Bip.tie(F:Bip ps ts fs zs nr nt):∀d∈zs,(d.1,d.2.1)∈ts:=fun d hd=>by
 have:=aW (f:=fun d:Int×Int×Int=>(d.1,d.2.1)) hd
 rw[F.zt]at this
 exact this
theorem Bip.sums(F:Bip ps ts fs zs nr nt)(wk:WebOk ps ts)(C:Int->Bool):(ps.map fun p=>lj C p.1*iZ zs p.1).sum=(zs.map fun d=>d.2.2*(lj C d.1+lj C d.2.1)).sum:=by
 have:=yA wk.p.nodup (lj C) (F.ends wk)
 rw[bD]at this
 exact this
theorem rq(t:Int×Int):(jw fs t=t.1/\jz fs t=t.2)\/(jw fs t=t.2/\jz fs t=t.1):=by
 unfold jw jz
 by_cases c:t.1∈fs
 ·rw[az c,az c];exact .inl ⟨rfl,rfl⟩
 ·rw[ay c,ay c];exact .inr ⟨rfl,rfl⟩
theorem zW(two:mh ts fs){X:Int->Prop}[DecidablePred X](T:TCut ps ts fs zs X):Ie ts (jL fs X):=fun t ht=>by
 obtain⟨h1,h2⟩:=oX two ht
 have key:jL fs X (jw fs t)=true\/jL fs X (jz fs t)=true:=by
  unfold jL
  by_cases c:X (jw fs t)
  ·right;simp[h2,T.c3 t ht c]
  ·left;simp[h1,c]
 rcases rq (fs:=fs) t with⟨a,b⟩|⟨a,b⟩
 ·rwa[a,b]at key
 ·rw[a,b]at key;exact key.symm
theorem y6(F:Bip ps ts fs zs nr nt)(wk:WebOk ps ts)(two:mh ts fs){X:Int->Prop}[DecidablePred X](T:TCut ps ts fs zs X):wC ps (jL fs X)=mW zs:=by
 have a:=F.sums wk (jL fs X)
 have b:wC ps (jL fs X)=(ps.map fun p=>lj (jL fs X) p.1*iZ zs p.1).sum:=by
  unfold wC
  refine Fl.lg fun p hp=>?_
  unfold lj
  by_cases c:jL fs X p.1=true
  ·rw[az c,az c,Int.one_mul]
   unfold jL at c
   by_cases c1:p.1∈fs
   ·by_cases c2:X p.1
    ·simp[c1,c2]at c
    ·exact(T.c1 p hp c1 c2).symm
   ·by_cases c2:X p.1
    ·exact(T.c2 p hp c1 c2).symm
    ·simp[c1,c2]at c
  ·rw[ay c,ay c,Int.zero_mul]
 have c:(zs.map fun d=>d.2.2*(lj (jL fs X) d.1+lj (jL fs X) d.2.1)).sum=mW zs:=by
  unfold mW
  refine Fl.lg fun d hd=>?_
  have p:=F.pos d hd
  by_cases z:d.2.2=0
  ·rw[z,Int.zero_mul]
  ·obtain⟨h1,h2⟩:=oX two (F.tie d hd)
   have t:=zW two T _ (F.tie d hd)
   have q:=T.c4 d hd (by lia)
   have n1:jL fs X (jw fs (d.1,d.2.1))=true->jL fs X (jz fs (d.1,d.2.1))=false:=by
    intro e
    unfold jL at e ⊢
    by_cases x:X (jz fs (d.1,d.2.1))
    ·simp[h1,q x]at e
    ·simp[h2,x]
   have:lj (jL fs X) d.1+lj (jL fs X) d.2.1=1:=by
    unfold lj
    dsimp only at t
    rcases rq (fs:=fs) (d.1,d.2.1)with⟨a,b⟩|⟨a,b⟩<;>rw[a,b]at n1<;>dsimp only at n1
    ·cases e1:jL fs X d.1<;>cases e2:jL fs X d.2.1<;>simp[e1,e2]at t n1 ⊢
    ·cases e1:jL fs X d.1<;>cases e2:jL fs X d.2.1<;>simp[e1,e2]at t n1 ⊢
   rw[this,Int.mul_one]
 lia
theorem Bip.between(F:Bip ps ts fs zs nr nt){X:Int->Prop}(T:TCut ps ts fs zs X):(∀n∈nr,X n)/\∀n∈ps.map (·.1),n∉nt->¬X n:=by
 constructor
 ·refine F.sR X (fun p hp hf h=>cu fun z=>?_) T.c3 T.c4
  have:=T.c1 p hp hf z
  lia
 ·refine F.tR (fun n=>¬X n) (fun p hp hf h z=>?_) (fun t ht h z=>h (T.c3 t ht z)) fun d hd h0 h z=>h (T.c4 d hd h0 z)
  have:=T.c2 p hp hf z
  lia
end
theorem zi{a b c d:Int}(h:HT.lexLt [a,b] [c,d]=true):a<c\/(a=c/\b<d):=by
 rw[HT.ml]at h
 by_cases e:a=c
 ·rw[az e,HT.ml]at h
  by_cases e2:b=d
  ·rw[az e2]at h
   cases h
  ·rw[ay e2]at h
   exact .inr ⟨e,bC h⟩
 ·rw[ay e]at h
  exact .inl (bC h)
theorem Fc{a b c d e f:Int}(h:HT.lexLt [a,b] [c,d]=true)(g:HT.lexLt [c,d] [e,f]=true):HT.lexLt [a,b] [e,f]=true:=by
 have h:=zi h
 have g:=zi g
 by_cases c:a<e
 ·exact xE c
 ·have:a=e:=by lia
  subst this
  exact xD (by lia)
theorem TiOk.lt{kvs:List (iq×V)}:∀{ts:List (Int×Int)} {q:Int×Int},TiOk kvs q ts->∀p∈ts,HT.lexLt [q.1,q.2] [p.1,p.2]=true
 |[],_,_,_,h=>by cases h
 |u::r,q,h,p,hp=>by
  rcases aU.mp hp with e|hp
  ·rw[e];exact h.1.1
  ·exact Fc h.1.1 (TiOk.lt h.2 p hp)
theorem uA{kvs:List (iq×V)}:∀{ts:List (Int×Int)} {q:Int×Int},TiOk kvs q ts->ts.Pairwise fun a b=>HT.lexLt [a.1,a.2] [b.1,b.2]=true
 |[],_,_=>.nil
 |u::r,q,h=>List.pairwise_cons.mpr ⟨fun p hp=>TiOk.lt h.2 p hp,uA h.2⟩
def cF(ps:List (Int×Int))(ns:List Int):Int:=((ps.filter fun p=>decide (p.1∈ns)).map (·.2)).sum
structure DueK(ps ts:List (Int×Int))(ds:List (Int×Int×Int)):Prop where
 lx:ds.Pairwise nc
 nd:(ds.map fun d=>[d.1,d.2.1]).Nodup
 t:∀d∈ds,(d.1,d.2.1)∈ts/\2<=d.2.2/\d.2.2%2=0
 pay:∀p∈ps,iZ ds p.1<=2*p.2
structure PairK(ps ts:List (Int×Int))(f:Int->Int)(col:Int->Bool)(mo fe:List Int)(ds:List (Int×Int×Int))(S:Int):Prop where
 moF:mo=(ps.map (·.1)).filter fun n=>decide (n∈mo)
 feF:fe=(ps.map (·.1)).filter fun n=>decide (n∈fe)
 moT:∀t∈ts,t.1∈mo\/t.2∈mo
 feT:∀t∈ts,t.1∈fe\/t.2∈fe
 moC:cF ps mo=S
 feC:cF ps fe=S
 s:(ds.map (·.2.2)).sum=2*S
 du:DueK ps ts ds
 dl:ds.length<=ts.length
 b1:∀n∈fe,jC f col n=0->n∈mo
 b2:∀n∈mo,jC f col n=1->n∈fe
section
variable{ps ts:List (Int×Int)}{fs nr nt:List Int}{zs:List (Int×Int×Int)}
theorem nh{ns:List Int}{n:Int}(hn:n∈ps.map (·.1)):n∈jo ps fs ns↔decide (n∈fs)≠decide (n∈ns):=by
 unfold jo
 rw[bG,cW]
 exact⟨fun h=>h.2,fun h=>⟨hn,h⟩⟩
theorem y9(ns:List Int):jo ps fs ns=(ps.map (·.1)).filter fun n=>decide (n∈jo ps fs ns):=by
 conv=>lhs;unfold jo
 refine gB fun n hn=>?_
 by_cases c:n∈jo ps fs ns
 ·rw[aD c,aD ((nh hn).mp c)]
 ·rw[aK c,aK fun z=>c ((nh hn).mpr z)]
theorem xb(ns:List Int):cF ps (jo ps fs ns)=wC ps (jL fs (·∈ns)):=by
 unfold cF wC
 have key:∀l:List (Int×Int),(∀p∈l,p.1∈ps.map (·.1))->((l.filter fun p=>decide (p.1∈jo ps fs ns)).map (·.2)).sum=(l.map fun p=>if jL fs (·∈ns) p.1=true then p.2 else 0).sum:=by
  intro l
  induction l with
  |nil=>intro _;rfl
  |cons p r ih=>
   intro h
   have ih:=ih fun q hq=>h q (aH _ hq)
   have hp:=nh (fs:=fs) (ns:=ns) (h p (aP ..))
   rw [aw,List.sum_cons,bE,<- ih]
   by_cases c:p.1∈jo ps fs ns
   ·rw[az (aD c),az (by unfold jL;exact aD (hp.mp c)),aw,List.sum_cons]
   ·rw[ay (by simpa using c),ay (by unfold jL;simp only[cW];exact fun z=>c (hp.mpr z)),gC]
 exact key ps fun p hp=>aW (f:=fun q:Int×Int=>q.1) hp
def mK(d:Int×Int×Int):Int×Int×Int:=(d.1,d.2.1,2*d.2.2)
theorem xl(r:List Int):kP (jq false r) ps.length ts ts.length=((jB ps ts r).map mK).filter fun d=>decide (d.2.2>0):=by
 unfold kP jB
 rw[bD]
 congr 1
 refine fW fun j _=>?_
 show _=((ts.getD j (0,0)).1,(ts.getD j (0,0)).2,2*_)
 rw[C4]
theorem Dd(l:List (Int×Int×Int))(h:∀d∈l,0<=d.2.2):(((l.map mK).filter fun d=>decide (d.2.2>0)).map (·.2.2)).sum=2*mW l:=by
 unfold mW
 induction l with
 |nil=>rfl
 |cons d r ih=>
  have ih:=ih fun q hq=>h q (aH _ hq)
  have h0:=h d (aP ..)
  rw[aw,bE,aw,List.sum_cons]
  have e:(mK d).2.2=2*d.2.2:=rfl
  by_cases c:d.2.2>0
  ·rw[az (aD (by lia)),aw,List.sum_cons,ih,e];lia
  ·rw[ay (by rw[e];simp;lia),ih];lia
theorem D3(n:Int)(l:List (Int×Int×Int))(h:∀d∈l,0<=d.2.2):iZ ((l.map mK).filter fun d=>decide (d.2.2>0)) n=2*iZ l n:=by
 unfold iZ
 induction l with
 |nil=>rfl
 | cons d r ih=>
  have ih:=ih fun q hq=>h q (aH _ hq)
  have h0:=h d (aP ..)
  rw[aw,bE,aw,List.sum_cons]
  by_cases c:d.2.2>0
  ·rw[az (aD (show(mK d).2.2>0 by show 2*d.2.2>0;lia)),aw,List.sum_cons,ih]
   show(if d.1=n then 2*d.2.2 else 0)+(if d.2.1=n then 2*d.2.2 else 0)+_=_
   split<;>split<;>lia
  ·have z:d.2.2=0:=by lia
   rw[ay (by show ¬decide (2*d.2.2>0)=true;simp;lia),ih,z]
   split<;>split<;>lia
theorem Hx{r:List Int}(wk:WebOk ps ts)(F:Bip ps ts fs (jB ps ts r) nr nt):DueK ps ts (kP (jq false r) ps.length ts ts.length)/\(kP (jq false r) ps.length ts ts.length).length<=ts.length:=by
 rw[xl]
 have e1:((jB ps ts r).map mK).map (fun d=>(d.1,d.2.1))=ts:=by rw[bD];exact F.zt
 have pw:((jB ps ts r).map mK).Pairwise (fun a b=>HT.lexLt [a.1,a.2.1] [b.1,b.2.1]=true):=by
  have:=uA wk.t
  rw [<- e1,cw] at this
  exact this
 have pf:=pw.filter fun d:Int×Int×Int=>decide (d.2.2>0)
 refine⟨⟨pf.imp fun{a b} h=>?_,?_,fun d hd=>?_,fun p hp=>?_⟩,?_⟩
 ·unfold nc
  rw[HT.ml]at h
  by_cases c:a.1=b.1
  ·rw[az c,HT.ml]at h
   by_cases c2:a.2.1=b.2.1
   ·rw[az c2]at h;cases h
   ·rw[ay c2]at h
    exact .inr ⟨c,.inl (bC h)⟩
  ·rw[ay c]at h
   exact .inl (bC h)
 ·refine cw.mpr (pf.imp fun{a b} h e=>?_)
  rw[e]at h
  simp[HT.lexLt]at h
 ·obtain⟨h1,h2⟩:=bG.mp hd
  obtain⟨z,hz,rfl⟩:=aE.mp h1
  have h2:=bC h2
  have e:(mK z).2.2=2*z.2.2:=rfl
  refine⟨?_,by lia,by lia⟩
  have:=aW (f:=fun d:Int×Int×Int=>(d.1,d.2.1)) h1
  rw[e1]at this
  exact this
 ·rw[D3 _ _ F.pos]
  have:=F.pay p hp
  lia
 ·refine bo (bu _ _) ?_
  have:=bN List.length e1
  rw[ae]at this
  lia
theorem yz{f:Int->Int}{col:Int->Bool}{r:List Int}(wk:WebOk ps ts)(two:mh ts fs)(hfs:∀n∈ps.map (·.1),(n∈fs↔jC f col n=0))(rst:RstB ps ts fs r nr nt):PairK ps ts f col (jo ps fs nr) (jo ps fs nt) (kP (jq false r) ps.length ts ts.length) (mW (jB ps ts r)):=by
 have F:=tG wk two rst
 have sub:=(F.between F.T).1
 have touch:∀{ns:List Int},TCut ps ts fs (jB ps ts r) (·∈ns)->∀t∈ts,t.1∈jo ps fs ns\/t.2∈jo ps fs ns:=fun T t ht=>by
  obtain⟨m1,m2⟩:=nj wk t ht
  rw[nh m1,nh m2]
  rcases zW two T t ht with e|e<;>unfold jL at e
  ·exact .inl (bC e)
  ·exact .inr (bC e)
 obtain⟨dk,dl⟩:=Hx wk F
 refine⟨y9 _,y9 _,touch F.S,touch F.T,by rw[xb];exact y6 F wk two F.S,by rw[xb];exact y6 F wk two F.T,by rw[xl];exact Dd _ F.pos,dk,dl,fun n hn h0=>?_,fun n hn h1=>?_⟩
 ·have pn:n∈ps.map (·.1):=by unfold jo at hn;exact(bG.mp hn).1
  rw[nh pn]at hn ⊢
  have c:=(hfs n pn).mpr h0
  rw[aD c]at hn ⊢
  by_cases d:n∈nr
  ·rw[aD (sub n d)]at hn;exact absurd rfl hn
  ·rw[aK d];decide
 ·have pn:n∈ps.map (·.1):=by unfold jo at hn;exact(bG.mp hn).1
  rw[nh pn]at hn ⊢
  have c:n∉fs:=fun z=>by have:=(hfs n pn).mp z;lia
  rw[aK c]at hn ⊢
  by_cases d:n∈nr
  ·rw[aD (sub n d)];decide
  ·rw[aK d]at hn;exact absurd rfl hn
end
theorem HX(ts:List (Int×Int))(q:Int×Int):((ts.map jY).any fun c=>iX c (jY q))=decide (q∈ts):=by
 induction ts with
 |nil=>simp
 | cons t r ih=>
  rw[aw,List.any_cons,ih]
  have:iX (jY t) (jY q)=decide (t=q):=by
   obtain⟨a,b⟩:=t
   obtain⟨c,d⟩:=q
   simp only[jY,iX,kB,Bool.and_true]
   by_cases h1:a=c<;>by_cases h2:b=d<;>simp[h1,h2]
  rw[this]
  by_cases c1:t=q
  ·subst c1;simp
  ·by_cases c2:q∈r
   ·simp[c2]
   ·simp[c1,c2,cR c1]
def jQ(ps:List (Int×Int))(f:Int->Int):List (iq×V):=ps.map fun p=>(Sum.inl p.1,V.int (2*p.2-f p.1))
theorem z9{ps:List (Int×Int)}(nd:(ps.map (·.1)).Nodup){f:Int->Int}{p:Int×Int}(hp:p∈ps)(a:Int):jr (jQ ps f) (Sum.inl p.1:iq) (.int (2*p.2-f p.1-a))=jQ ps fun m=>f m+(if p.1=m then a else 0):=by
 unfold jr
 have h1:((jQ ps f).any fun kv=>decide (kv.1=(Sum.inl p.1:iq)))=true:=by
  unfold jQ
  rw[List.any_map,gO]
  exact⟨p,hp,by simp⟩
 rw[az h1]
 unfold jQ
 rw[bD]
 refine fW fun q hq=>?_
 dsimp only[Function.comp]
 by_cases c:p.1=q.1
 ·have e:p=q:=by
   have w:=(cw.mp nd)
   have:∀x∈ps,∀y∈ps,x.1=y.1->x=y:=fun x hx y hy e=>by
    obtain⟨i,hi,rfl⟩:=aV.mp hx
    obtain⟨j,hj,rfl⟩:=aV.mp hy
    rcases gx i j with z|z|z
    ·exact absurd e (dw.mp w i j hi hj z)
    ·subst z;rfl
    ·exact absurd e.symm (dw.mp w j i hj hi z)
   exact this p hp q hq c
  subst e
  rw[az rfl,az rfl]
  congr 2
  lia
 ·rw[ay (fun z=>c (cE z).symm),ay c,fG]
theorem Aa{ps:List (Int×Int)}(nd:(ps.map (·.1)).Nodup){f:Int->Int}{p:Int×Int}(hp:p∈ps):iT (jQ ps f) (Sum.inl p.1:iq)=some (.int (2*p.2-f p.1)):=by
 have e:jQ ps f=iR (ps.map fun p=>(p.1,2*p.2-f p.1)):=by
  unfold jQ iR
  rw[bD]
  rfl
 rw[e]
 exact pA (ps:=ps.map fun p=>(p.1,2*p.2-f p.1)) (p:=(p.1,2*p.2-f p.1)) (by rw[bD];exact nd) (aE.mpr ⟨p,hp,rfl⟩)
theorem F1{ns:List Int}(nd:ns.Nodup){i:Nat}{n:Int}(h:ns[i]? =some n):n∉ns.take i:=fun hm=>by
 obtain⟨j,hj,e⟩:=aV.mp hm
 rw[gA]at e
 rw[aS]at hj
 obtain⟨hi,e2⟩:=ah.mp h
 exact dw.mp nd j i (by lia) hi (by lia) (e.trans e2.symm)
theorem DS{hs:List (Int×Int)}{n:Int}(h:n∉hs.map (·.1)):iT (iR hs) (Sum.inl n:iq)=none:=by
 cases e:iT (iR hs) (Sum.inl n:iq)with
 |none=>rfl
 |some v=>exact absurd (o8 (by unfold jA;rw[e];rfl)) h
theorem pI:∀(ps:List (Int×Int)),jd (ps.map jY)<=1
 |[]=>by rw[bV,jd];lia
 |p::r=>by
  rw[aw,jd]
  have:=pI r
  have e:jn (jY p)=1:=rfl
  lia
theorem vF(a b c:V):kQ [a,b,c] none (some 2)=[a,b]:=rfl
theorem Bn(a b c:V):¬(HT.iL [a,b,c].length 0 none=0/\HT.iL [a,b,c].length [a,b,c].length (some 2)=[a,b,c].length):=fun h=>by cases h.2
theorem pC:∀ns:List Int,jd (ns.map Dt.int)<=1
 |[]=>by rw[bV,jd];lia
 |n::r=>by
  rw[aw,jd]
  have:=pC r
  have e:jn (Dt.int n)=0:=rfl
  lia
def lH(d:Int×Int×Int):Dt:=.tup [.int d.1,.int d.2.1,.int d.2.2]
theorem xA{H:Hp}{m:Addr}{xs:List V}(e:H m=some (.lst xs)):kd H (.ref m)=some .lst:=by unfold kd;dsimp only;rw[e]
theorem xB{H:Hp}{m:Addr}{xs:List V}(e:H m=some (.tup xs)):kd H (.ref m)=some .tup:=by unfold kd;dsimp only;rw[e]
theorem xy(H:Hp)(n:Int):kd H (.int n)=some .int:=rfl
def yS:Sp:=fun vs H Q _=>∃v ps ts m ns,vs=[v,.ref m]/\jc3 H v ps ts/\WebOk ps ts/\H m=some (.lst (ns.map V.int))/\ns=(ps.map (·.1)).filter (fun n=>decide (n∈ns))/\(∀t∈ts,t.1∈ns\/t.2∈ns)/\∀H',Same H H'->Q (.bl true) H'
def xQ:Sp:=fun vs H Q _=>∃v ps ts f col m1 m2,∃mo fe:List Int,vs=[v,.ref m1,.ref m2]/\jc3 H v ps ts/\WebOk ps ts/\LabOk ps ts f/\lS ts col/\H m1=some (.lst (mo.map V.int))/\H m2=some (.lst (fe.map V.int))/\(∀n∈mo,n∈ps.map (·.1))/\(∀n∈fe,n∈ps.map (·.1))/\mo.length<=40/\fe.length<=40/\(∀n∈fe,jC f col n=0->n∈mo)/\(∀n∈mo,jC f col n=1->n∈fe)/\∀H',Same H H'->Q (.bl true) H'
def yN:Sp:=fun vs H Q _=>∃v ps ts l zs ds,vs=[v,.ref l]/\jc3 H v ps ts/\WebOk ps ts/\H l=some (.lst zs)/\j9 H zs ds/\DueK ps ts ds/\ds.length<=60/\(∀d∈ds,d.2.2<10000000000000)/\∀H',Same H H'->Q (.int (ds.map (·.2.2)).sum) H'
theorem wQ:∀{ps:List (Int×Int)} {l s:Int},PlOk l s ps->∀p∈ps,p.1<=999
 |[],_,_,_,_,h=>by cases h
 |q::r,l,s,h,p,hp=>by
  rcases aU.mp hp with e|hp
  ·rw[e];exact h.1.2.1
  ·exact wQ h.2 p hp
theorem E9{a b:Int×Int×Int}(h:nc a b)(g:nc b a):a=b:=by
 unfold nc at h g
 exact gv (by lia) (gv (by lia) (by lia))
theorem rJ:∀(l:List (Int×Int×Int)),jd (l.map lH)<=1
 |[]=>by rw[bV,jd];lia
 |p::r=>by
  rw[aw,jd]
  have:=rJ r
  have e:jn (lH p)=1:=rfl
  lia
theorem BE{H:Hp}{v:V}{d:Int×Int×Int}(h:Tp H v d):Rep H (lH d) v:=by
 obtain⟨t,e,q⟩:=h
 rw[lH,Rep]
 refine⟨t,_,e,q,?_⟩
 rw[Reps]
 refine⟨_,_,rfl,by rw[Rep],?_⟩
 rw[Reps]
 refine⟨_,_,rfl,by rw[Rep],?_⟩
 rw[Reps]
 exact⟨_,_,rfl,by rw[Rep],by rw[Reps]⟩
theorem n4{H:Hp}:∀{xs:List V} {ds:List (Int×Int×Int)},j9 H xs ds->Reps H (ds.map lH) xs
 |_,_,.nil=>by rw[bV,Reps]
 |_,_,.cons r t=>by
  rw[aw,Reps]
  exact⟨_,_,rfl,BE r,n4 t⟩
theorem Gy(B:Blt mg)(D:DefAt K mg "_law_whole" (iw 46) ["_law_thing"] f fd):FnOk P w K mg base iE 1 f fd ["_law_thing"] pe:=by
 have sc:FnScope ["_law_thing"] ["_law_thing"] (iU (iw 46)):=by walk_at "SC"
 refine D.F.ok sc (fun vs H Q E h=>?_) (fun cdv A outer s H vs Q E hr h=>?_)
 ·obtain⟨x,k,rfl,_⟩:=h
  rfl
 obtain⟨x,k,rfl,ek,h⟩:=h
 have hu:=i8 hr
 have hu0:_<PySem.cLine:=aF hu
 refine⟨_,(iB (iP (lE (jg (lF .int) rfl B.isinstance bx (ig (qv 0) (ig (lL (v:=.ty "int") rfl B.int da rfl) ik))) (ng (wN (jg (lF .bl) rfl B.isinstance bx (ig (qv 0) (ig (lL (v:=.ty "bool") rfl B.bool PyProof.Rows.boot_bool rfl) ik)))))))),?_⟩
 simp_arith[ek]
 cases k<;>simpa only[lO,nO,if_true,if_false,aG,cz,di]using h
theorem GS(B:Blt mg)(D:DefAt K mg "_law_touches" (iw 47) ["_law_web","_law_some"] f fd)(Dqe:DefAt K mg "_law_whole" (iw 46) ["_law_thing"] fqe dqe)(Gqe:FnOk P w K mg base iE 1 fqe dqe ["_law_thing"] pe):FnOk P w K mg base iE 3 f fd ["_law_web","_law_some"] yS:=by
 have sc:FnScope ["_law_web","_law_some"] ["_law_web","_law_some"] (iU (iw 47)):=by walk_at "SC"
 refine D.F.ok sc (fun vs H Q E h=>?_) (fun cdv A outer s H vs Q E hr h=>?_)
 ·obtain⟨v,ps,ts,m,ns,rfl,_⟩:=h
  rfl
 obtain⟨v,ps,ts,m,ns,rfl,hw,wk,em,hns,hto,h⟩:=h
 obtain⟨u,pa,ta,xs,ys,rfl,eu,epa,eta,hxs,hys⟩:=id hw
 have hxl:=aO hxs
 have hyl:=aO hys
 have hu:=i8 hr
 have hu0:_<PySem.cLine:=aF hu
 refine⟨_,(iu (je (PW.pt (lq (kl (ke (jg (lF .lst) rfl B.isinstance bx (ig (qv 1) (ig (lL (v:=.ty "list") rfl B.list bU rfl) ik))))) (mD (iS (lK hr.units) (qv 1) (jW (CpScope.of (N:=["_law_place","_law_price","_law_some"]) (src:=[none,none,some 1]) (by rfl)) rfl (jx (iz iA (qv 0) ip (fun _ _=>rfl))) (fun _ _ _ _=>(j5 (n:=2) rfl (jb (iJ (i:=0) (jc (l:=["_law_place","_law_price","_law_some"]) (by rfl)) rfl (Or.inl rfl)) (jb (iJ (i:=1) (jc (l:=["_law_place","_law_price","_law_some"]) (by rfl)) rfl (Or.inl rfl)) j6)))) (fun _ _ _ _=>(km (iS qp (qv 0) (qv 2) (by with_unfolding_all rfl)))) (fun _ _ _ _=>(qv 0))) (iQ _))))) (iB (iP ku)) jf) (iu (je (iS (lK hr.units) (jW (CpScope.of (N:=["_law_place"]) (src:=[none]) (by rfl)) rfl (jx (qv 1)) (fun _ _ _ _=>(iJ (i:=0) (jc (l:=["_law_place"]) (by rfl)) rfl (Or.inl rfl))) (fun _ _ _ _=>(km (kl (ke (iN Gqe (hr.mono (by decide)) rfl Dqe.m Dqe.F.kp Dqe.b .nil iI (ig (qv 0) ik)))))) (fun _ _ _ _=>(qv 0))) (jJ ik) (iQ _)) (iB (iP ku)) jf) (iB (iP (ly (tO hr.units) (jW (CpScope.of (N:=["_law_tie","_law_some"]) (src:=[none,some 1]) (by rfl)) rfl (jx (iz iA (qv 0) ip (fun _ _=>rfl))) (fun _ _ _ _=>(iJ (i:=0) (jc (l:=["_law_tie","_law_some"]) (by rfl)) rfl (Or.inl rfl))) (fun _ _ _ _=>(km (PW.pt (mC (iS rj (iz iA (qv 0) ip (fun _ _=>rfl)) (qv 1) (by with_unfolding_all rfl)) (nk (iS rj (iz iA (qv 0) ip (fun _ _=>rfl)) (qv 1) (by with_unfolding_all rfl))))))) (fun _ _ _ _=>(qv 0))) (jJ ik) (iQ _)))))),?_⟩
 have hpl:=wk.pl
 have htl:=wk.tl
 have hnl:ns.length<=40:=by
  rw[hns]
  refine bo (bu _ _) ?_
  rw[ae]
  exact hpl
 have hkd:=xA em
 refine iG fun R hR=>?_
 simp_arith[hkd,lO]
 refine jS (ji K pa) H (fun R2 hR2=>?_) (fun z hz0=>jP ps.length (fun j σ' Hd=>∃w1 w2,σ'=[w1,w2,some (.ref m)]/\Same H Hd/\Hd z=some (.lst ((((ps.take j).map (·.1)).filter fun n=>decide (n∈ns)).map V.int))) ⟨none,none,rfl,iy hz0 _,ij⟩ ?_ ?_)
 ·unfold jt
  simp_arith[iD,eu,i3]
  exact⟨pa,rfl,⟨_,SqL.of epa⟩,hR2⟩
 ·rintro j σ' Hd hj ⟨w1,w2,rfl,s7,ez⟩
  have x1:ps[j]? =some ps[j]:=gE hj
  generalize ps[j]=p at x1
  obtain⟨x,hx,px⟩:=lN hxs x1
  obtain⟨b,rfl,hb⟩:=px.same s7
  have z1:SqL K Hd pa xs:=SqL.of (s7 _ _ epa)
  refine⟨⟨_,_,z1,hx⟩,?_⟩
  rintro y H' ⟨rfl,hy⟩
  have:=hy _ z1
  rw[hx]at this
  cases this
  simp_arith[iD,hb,s7 _ _ em,nV,n5,j3]
  have hfl:(((ps.take j).map (·.1)).filter fun n=>decide (n∈ns)).length<=40:=by
   refine bo (bu _ _) ?_
   rw[ae,aS]
   lia
  rw[jy x1,ao,cU]
  by_cases c:p.1∈ns
  ·rw[az (by first|exact aD c|exact c)]
   refine⟨_,ez,by rw[ae];exact iW (by lia),_,_,rfl,i4 s7 hz0,?_⟩
   rw[ij,ao,aw,bV,bE,az (aD c)]
   rfl
  ·rw[ay (by first|(simpa using c)|exact c)]
   refine⟨_,_,rfl,s7,?_⟩
   rw[ez,aw,bV,bE,ay (by simpa using c),List.filter_nil,bq]
 rintro σ' H1 ⟨w1,w2,rfl,s1,ez⟩
 refine⟨⟨_,SqL.of (s1 _ _ epa),by lia⟩,?_⟩
 rw [aR,<- hns] at ez
 refine⟨.lst (ns.map Dt.int),.lst (ns.map Dt.int),(by rw[Rep];exact⟨m,_,rfl,s1 _ _ em,mG _⟩),(by rw[Rep];exact⟨z,_,rfl,ez,mG _⟩),(by rw[jn];have:=pC ns;lia),.inl ⟨_,_,rfl,rfl⟩,?_⟩
 rw[kn]
 walk_at "D"
 subst hR
 refine iG fun R hR=>?_
 have em1:=s1 _ _ em
 walk_at "D"
 refine jS (ji K m) H1 (fun R2 hR2=>?_) (fun z hz0=>jP ns.length (fun j σ' Hd=>∃w1,σ'=[w1]/\Same H1 Hd/\Hd z=some (.lst [])) ⟨none,rfl,iy hz0 _,ij⟩ ?_ ?_)
 ·unfold jt
  walk_at "D"
  exact⟨m,rfl,⟨_,SqL.of em1⟩,hR2⟩
 ·rintro j σ' Hd hj ⟨w1,rfl,s7,ez⟩
  have x1:ns[j]? =some ns[j]:=gE hj
  generalize ns[j]=n at x1
  have x2:(ns.map V.int)[j]? =some (.int n):=by rw[aA,x1];rfl
  have z1:SqL K Hd m (ns.map V.int):=SqL.of (s7 _ _ em1)
  refine⟨⟨_,_,z1,x2⟩,?_⟩
  rintro y H' ⟨rfl,hy⟩
  have:=hy _ z1
  rw[x2]at this
  cases this
  walk_at "D"
  refine⟨_,_,rfl,xy H' n,?_⟩
  simp_arith[nO]
  exact⟨_,rfl,s7,ez⟩
 rintro σ' H2 ⟨w3,rfl,s2,ez2⟩
 refine⟨⟨_,SqL.of (s2 _ _ em1),by rw[ae];exact au _⟩,?_⟩
 walk_at "D"
 intro e he
 have s3:=iy he (.lst [])
 refine⟨.lst [],.lst [],(by rw[Rep];exact⟨_,[],rfl,s3 _ _ ez2,rfl⟩),(by rw[Rep];exact⟨e,[],rfl,ij,rfl⟩),(by decide),.inl ⟨_,_,rfl,rfl⟩,?_⟩
 rw[kn]
 have s13:=s1.trans (s2.trans s3)
 generalize upd H2 e (.lst [])=H3 at s3 s13
 clear ez ez2 s2 s3 he
 walk_at "D"
 subst hR
 walk_at "D"
 refine jS (ji K ta) H3 (fun R2 hR2=>?_) (fun z hz0=>jP ts.length (fun j σ' Hd=>∃w1,σ'=[w1,some (.ref m)]/\Same H3 Hd/\Hd z=some (.lst [])) ⟨none,rfl,iy hz0 _,ij⟩ ?_ ?_)
 ·unfold jt
  simp_arith[iD,s13 _ _ eu,jh]
  exact⟨ta,rfl,⟨_,SqL.of (s13 _ _ eta)⟩,hR2⟩
 ·rintro j σ' Hd hj ⟨w1,rfl,s7,ez⟩
  have sA:=s13.trans s7
  have x1:ts[j]? =some ts[j]:=gE hj
  generalize ts[j]=p at x1
  obtain⟨x,hx,px⟩:=lN hys x1
  obtain⟨b,rfl,hb⟩:=px.same sA
  have z1:SqL K Hd ta ys:=SqL.of (sA _ _ eta)
  refine⟨⟨_,_,z1,hx⟩,?_⟩
  rintro y H' ⟨rfl,hy⟩
  have:=hy _ z1
  rw[hx]at this
  cases this
  have ht:=hto p (ag x1)
  simp_arith[iD,hb,i3,jh,sA _ _ em,nV,n5,j3]
  have fin:∃w1,[some (V.ref b),some (.ref m)]=[w1,some (V.ref m)]/\Same H3 H'/\H' z=some (.lst []):=⟨_,rfl,s7,ez⟩
  by_cases c1:p.1∈ns
  ·simp only[c1,cD,cz,aG,if_false,eS,cA]
   exact fin
  ·have c2:=ht.resolve_left c1
   simp only[c1,c2,cD,cA,cz,di,aG,if_false,if_true,eS,not_false_eq_true]
   exact fin
 rintro σ' H4 ⟨w3,rfl,s4,ez⟩
 have s14:=s13.trans s4
 refine⟨⟨_,SqL.of (s14 _ _ eta),by lia⟩,?_⟩
 walk_at "D"
 intro e he
 have s5:=iy he (.lst [])
 refine⟨.lst [],.lst [],(by rw[Rep];exact⟨_,[],rfl,s5 _ _ ez,rfl⟩),(by rw[Rep];exact⟨e,[],rfl,ij,rfl⟩),(by decide),.inl ⟨_,_,rfl,rfl⟩,?_⟩
 rw[kn]
 exact h _ (s14.trans s5)
theorem GR(B:Blt mg)(D:DefAt K mg "_law_between" (iw 50) ["_law_web","_law_most","_law_fewest"] f fd)(Dqv:DefAt K mg "_law_sides" (iw 49) ["_law_web"] fqv dqv)(Gqv:FnOk P w K mg base iE 1 fqv dqv ["_law_web"] zI):FnOk P w K mg base iE 2 f fd ["_law_web","_law_most","_law_fewest"] xQ:=by
 have sc:FnScope ["_law_web","_law_most","_law_fewest","_law_side","_law_odd"] ["_law_web","_law_most","_law_fewest"] (iU (iw 50)):=by walk_at "SC"
 refine D.F.ok sc (fun vs H Q E h=>?_) (fun cdv A outer s H vs Q E hr h=>?_)
 ·obtain⟨v,ps,ts,fl,col,m1,m2,mo,fe,rfl,_⟩:=h
  rfl
 obtain⟨v,ps,ts,fl,col,m1,m2,mo,fe,rfl,hw,wk,lab,hcol,e1,e2,hmo,hfe,l1,l2,b1,b2,h⟩:=h
 have hu:=i8 hr
 have hu0:_<PySem.cLine:=aF hu
 refine⟨_,(iu (iF (i:=3) sc.nd rfl (Or.inr rfl) (iN Gqv (hr.mono (by decide)) rfl Dqv.m Dqv.F.kp Dqv.b .nil iI (ig (qv 0) ik))) (iu (uw (i:=4) sc.nd rfl (Or.inl rfl) (CpScope.of (N:=["_law_place","_law_most","_law_side"]) (src:=[none,some 1,some 3]) (by rfl)) rfl (jx (qv 2)) (fun _ _ _ _=>(iJ (i:=0) (jc (l:=["_law_place","_law_most","_law_side"]) (by rfl)) rfl (Or.inl rfl))) (fun _ _ _ _=>(km (PW.pt (mC (iS kF (j4 hu (qv 2) (qv 0) (fun _ _=>rfl)) ip (iQ _)) (nk (iS rj (qv 0) (qv 1) (by with_unfolding_all rfl))))))) (fun _ _ _ _=>(qv 0))) (iB (iP (ly (tO hr.units) (iO qo (qv 4) (jW (CpScope.of (N:=["_law_place","_law_fewest","_law_side"]) (src:=[none,some 2,some 3]) (by rfl)) rfl (jx (qv 1)) (fun _ _ _ _=>(iJ (i:=0) (jc (l:=["_law_place","_law_fewest","_law_side"]) (by rfl)) rfl (Or.inl rfl))) (fun _ _ _ _=>(km (PW.pt (mC (iS kF (j4 hu (qv 2) (qv 0) (fun _ _=>rfl)) ip (iQ _)) (nk (iS rj (qv 0) (qv 1) (by with_unfolding_all rfl))))))) (fun _ _ _ _=>(qv 0)))) (jJ ik) (iQ _)))))),?_⟩
 refine iG fun R hR=>?_
 walk_at "D"
 refine⟨v,ps,ts,fl,col,rfl,hw,wk,lab,hcol,fun d H1 ks hd s1 ed ndk hks=>?_⟩
 have s11:Same H1 H1:=fun _ _ q=>q
 have f1:=s1 _ _ e1
 have f2:=s1 _ _ e2
 have edk:=ed
 subst hR
 refine iG fun R hR=>?_
 walk_at "D"
 refine jS (ji K m2) H1 (fun R2 hR2=>?_) (fun za hz0=>jP fe.length (fun j σ' Hd=>∃w1,σ'=[w1,some (.ref m1),some (.ref d)]/\Same H1 Hd/\Hd za=some (.lst [])) ⟨none,rfl,iy hz0 _,ij⟩ ?_ ?_)
 ·unfold jt
  walk_at "D"
  exact⟨m2,rfl,⟨_,SqL.of (s11 _ _ f2)⟩,hR2⟩
 ·rintro j σ' Hd hj ⟨w1,rfl,s7,ez⟩
  have sA:=s11.trans s7
  have x1:fe[j]? =some fe[j]:=gE hj
  generalize fe[j]=n at x1
  have x2:(fe.map V.int)[j]? =some (.int n):=by rw[aA,x1];rfl
  have z1:SqL K Hd m2 (fe.map V.int):=SqL.of (sA _ _ f2)
  refine⟨⟨_,_,z1,x2⟩,?_⟩
  rintro y H' ⟨rfl,hy⟩
  have:=hy _ z1
  rw[x2]at this
  cases this
  have hn:=ag x1
  obtain⟨p,hp,rfl⟩:=aE.mp (hfe n hn)
  have sv:=ux (f:=fl) (col:=col) ndk (hks p hp)
  have bb:=b1 p.1 hn
  simp_arith[iD,sA _ _ edk,sv,sA _ _ f1,nV,n5,j3]
  have fin:∃w1,[some (V.int p.1),some (.ref m1),some (.ref d)]=[w1,some (V.ref m1),some (V.ref d)]/\Same H1 H'/\H' za=some (.lst []):=⟨_,rfl,s7,ez⟩
  by_cases c1:jC fl col p.1=0
  ·simp only[c1,bb c1,cD,cz,aG,if_false,eS,cA,if_true]
   exact fin
  ·simp only[c1,cA,aG,if_false]
   exact fin
 rintro σ' H2 ⟨w1,rfl,s2,eza⟩
 refine⟨⟨_,SqL.of (s2 _ _ f2),by rw[ae];exact au _⟩,?_⟩
 subst hR
 walk_at "D"
 refine jS (ji K m1) H2 (fun R2 hR2=>?_) (fun zb hz0=>jP mo.length (fun j σ' Hd=>∃w1,σ'=[w1,some (.ref m2),some (.ref d)]/\Same H2 Hd/\Hd zb=some (.lst [])) ⟨none,rfl,iy hz0 _,ij⟩ ?_ ?_)
 ·unfold jt
  walk_at "D"
  exact⟨m1,rfl,⟨_,SqL.of (s2 _ _ f1)⟩,hR2⟩
 ·rintro j σ' Hd hj ⟨w1,rfl,s7,ez⟩
  have sA:=s2.trans s7
  have x1:mo[j]? =some mo[j]:=gE hj
  generalize mo[j]=n at x1
  have x2:(mo.map V.int)[j]? =some (.int n):=by rw[aA,x1];rfl
  have z1:SqL K Hd m1 (mo.map V.int):=SqL.of (sA _ _ f1)
  refine⟨⟨_,_,z1,x2⟩,?_⟩
  rintro y H' ⟨rfl,hy⟩
  have:=hy _ z1
  rw[x2]at this
  cases this
  have hn:=ag x1
  obtain⟨p,hp,rfl⟩:=aE.mp (hmo n hn)
  have sv:=ux (f:=fl) (col:=col) ndk (hks p hp)
  have bb:=b2 p.1 hn
  simp_arith[iD,sA _ _ edk,sv,sA _ _ f2,nV,n5,j3]
  have fin:∃w1,[some (V.int p.1),some (.ref m2),some (.ref d)]=[w1,some (V.ref m2),some (V.ref d)]/\Same H2 H'/\H' zb=some (.lst []):=⟨_,rfl,s7,ez⟩
  by_cases c1:jC fl col p.1=1
  ·simp only[c1,bb c1,cD,cz,aG,if_false,eS,cA,if_true]
   exact fin
  ·simp only[c1,cA,aG,if_false]
   exact fin
 rintro σ' H3 ⟨w1,rfl,s3,ezb⟩
 have s23:=s2.trans s3
 refine⟨⟨_,SqL.of (s23 _ _ f1),by rw[ae];exact au _⟩,?_⟩
 simp_arith[s3 _ _ eza,ezb]
 intro zc hzc
 have q4:=iy hzc (.lst ([]:List V))
 have ezc:upd H3 zc (.lst []) zc=some (.lst []):=ij
 generalize upd H3 zc (.lst [])=H4 at q4 ezc
 intro e he
 have s5:=iy he (.lst [])
 refine⟨.lst [],.lst [],(by rw[Rep];exact⟨_,[],rfl,s5 _ _ ezc,rfl⟩),(by rw[Rep];exact⟨e,[],rfl,ij,rfl⟩),(by decide),.inl ⟨_,_,rfl,rfl⟩,?_⟩
 rw[kn]
 exact h _ (s1.trans ((s23.trans q4).trans s5))
theorem Gb(B:Blt mg)(D:DefAt K mg "_law_paid" (iw 48) ["_law_web","_law_dues"] f fd)(Dqe:DefAt K mg "_law_whole" (iw 46) ["_law_thing"] fqe dqe)(Gqe:FnOk P w K mg base iE 1 fqe dqe ["_law_thing"] pe):FnOk P w K mg base iE 3 f fd ["_law_web","_law_dues"] yN:=by
 have sc:FnScope ["_law_web","_law_dues","_law_left","_law_place","_law_price","_law_due"] ["_law_web","_law_dues"] (iU (iw 48)):=by walk_at "SC"
 refine D.F.ok sc (fun vs H Q E h=>?_) (fun cdv A outer s H vs Q E hr h=>?_)
 ·obtain⟨v,ps,ts,l,zs,ds,rfl,_⟩:=h
  rfl
 obtain⟨v,ps,ts,l,zs,ds,rfl,hw,wk,el,hz,DK,hl,hbd,h⟩:=h
 obtain⟨u,pa,ta,xs,ys,rfl,hu1,hpa,hta,hxs,hys⟩:=hw
 have hxl:=aO hxs
 have hzl:=aO hz
 have hu:=i8 hr
 have hu0:_<PySem.cLine:=aF hu
 refine⟨_,(iu (je (PW.pt (lq (kl (ke (jg (lF .lst) rfl B.isinstance bx (ig (qv 1) (ig (lL (v:=.ty "list") rfl B.list bU rfl) ik))))) (mD (iS (lK hr.units) (qv 1) (jg FH rfl B.sorted eY (ig (qv 1) ik)) (iQ _))))) (iB (iP kN)) jf) (iu (je (iS nH (FV rfl hr.units rfl B.len bQ rfl B.set PyProof.Rows.boot_set (jW (CpScope.of (N:=["_law_due"]) (src:=[none]) (by rfl)) rfl (jx (qv 1)) (fun _ _ _ _=>(iJ (i:=0) (jc (l:=["_law_due"]) (by rfl)) rfl (Or.inl rfl))) (fun _ _ _ _=>mF) (fun _ _ _ _=>(nX tm (qv 0) nR (nT ip))))) (jg kW rfl B.len bQ (ig (qv 1) ik)) (iQ _)) (iB (iP kN)) jf) (iu (iF (i:=2) sc.nd rfl (Or.inl rfl) rf) (iu (jR aZ rfl (jx (iz iA (qv 0) ip (fun _ _=>rfl))) (j5 (n:=2) rfl (jb (iJ (i:=3) sc.nd rfl (Or.inl rfl)) (jb (iJ (i:=4) sc.nd rfl (Or.inl rfl)) j6))) (iB (l7 hu (qv 2) (qv 3) (iO lY ip (qv 4))))) (iu (jR aZ rfl (jx (qv 1)) (iJ (i:=5) sc.nd rfl (Or.inl rfl)) (iu (je (PW.pt (lq (kl (ke (jg (lF .tup) rfl B.isinstance bx (ig (qv 5) (ig (lL (v:=.ty "tuple") rfl B.tuple fj rfl) ik))))) (lq (iS nH (jg kW rfl B.len bQ (ig (qv 5) ik)) ip (iQ _)) (mD (iS (Fk hr.units) (nX tm (qv 5) nR (nT ip)) (iz iA (qv 0) ip (fun _ _=>rfl)) (by with_unfolding_all rfl)))))) (iB (iP kN)) jf) (iu (je (PW.pt (lq (iS (lK hr.units) (jW (CpScope.of (N:=["_law_part"]) (src:=[none]) (by rfl)) rfl (xK (qv 5)) (fun _ _ _ _=>(iJ (i:=0) (jc (l:=["_law_part"]) (by rfl)) rfl (Or.inl rfl))) (fun _ _ _ _=>(km (kl (ke (iN Gqe (hr.mono (by decide)) rfl Dqe.m Dqe.F.kp Dqe.b .nil iI (ig (qv 0) ik)))))) (fun _ _ _ _=>(qv 0))) (jJ ik) (iQ _)) (lq (iS lU (iz iA (qv 5) ip (fun _ _=>rfl)) ip (iQ _)) (mD (iS kF (iO lG (iz iA (qv 5) ip (fun _ _=>rfl)) ip) ip (iQ _)))))) (iB (iP kN)) jf) (iu (l7 hu (qv 2) (iz iA (qv 5) ip (fun _ _=>rfl)) (iO oN (j4 hu (qv 2) (iz iA (qv 5) ip (fun _ _=>rfl)) (fun _ _=>rfl)) (iz iA (qv 5) ip (fun _ _=>rfl)))) (iB (l7 hu (qv 2) (iz iA (qv 5) ip (fun _ _=>rfl)) (iO oN (j4 hu (qv 2) (iz iA (qv 5) ip (fun _ _=>rfl)) (fun _ _=>rfl)) (iz iA (qv 5) ip (fun _ _=>rfl))))))))) (iu (je (iS lU (Fn (EN rfl) rfl B.min fN (ig (Gj rfl rfl B.list bU (qv 2)) ik) (DI ip Cn)) ip (iQ _)) (iB (iP kN)) jf) (iB (iP (jg (qt rfl) rfl B.sum dY (ig (jW (CpScope.of (N:=["_law_due"]) (src:=[none]) (by rfl)) rfl (jx (qv 1)) (fun _ _ _ _=>(iJ (i:=0) (jc (l:=["_law_due"]) (by rfl)) rfl (Or.inl rfl))) (fun _ _ _ _=>mF) (fun _ _ _ _=>(iz iA (qv 0) ip (fun _ _=>rfl)))) ik)))))))))),?_⟩
 have hpl:=wk.pl
 have nd:(ps.map (·.1)).Nodup:=wk.p.nodup
 have hkd:=xA el
 have ends:∀d∈ds,d.1∈ps.map (·.1)/\d.2.1∈ps.map (·.1):=fun d hd=>nj wk _ (DK.t d hd).1
 refine iG fun R hR=>?_
 simp_arith[hkd,lO]
 refine⟨l,zs,ds,10000000000000,rfl,el,hz,by lia,fun q hq=>?_,fun l2 ys2 qs2 h2 py pm pw=>?_⟩
 ·obtain⟨p,hp,e⟩:=aE.mp (ends q hq).2
  have h0:=wk.p.gt p hp
  have h1:=wQ wk.p p hp
  have h3:=(DK.t q hq).2.1
  have h4:=hbd q hq
  lia
 have s1:=iy h2 (.lst ys2)
 have e2:upd H l2 (.lst ys2) l2=some (.lst ys2):=ij
 have py1:=jk s1.tups py
 generalize upd H l2 (.lst ys2)=H1 at s1 e2 py1
 have eqq:qs2=ds:=List.Perm.eq_of_pairwise (fun x y _ _ u v=>E9 u v) pw DK.lx pm
 rw[eqq]at py1
 have z1:=jk s1.tups hz
 have el1:=s1 _ _ el
 refine⟨.lst (ds.map lH),.lst (ds.map lH),(by rw[Rep];exact⟨l,zs,rfl,el1,n4 z1⟩),(by rw[Rep];exact⟨l2,ys2,rfl,e2,n4 py1⟩),(by rw[jn];have:=rJ ds;lia),.inl ⟨_,_,rfl,rfl⟩,?_⟩
 rw[kn]
 walk_at "D"
 clear h2 py pm pw eqq e2 py1 hkd
 subst hR
 refine iG fun R hR=>?_
 simp_arith[zC]
 refine jS (ji K l) H1 (fun R2 hR2=>?_) (fun z hz0=>jP ds.length (fun j σ' Hd=>∃w1 vs,σ'=[w1]/\Same H1 Hd/\Hd z=some (.lst vs)/\Paired (rT Hd) vs ((ds.take j).map fun d=>[d.1,d.2.1])) ⟨none,[],rfl,iy hz0 _,ij,.nil⟩ ?_ ?_)
 ·unfold jt
  walk_at "D"
  exact⟨l,rfl,⟨_,SqL.of el1⟩,hR2⟩
 ·rintro j σ' Hd hj ⟨w1,vs,rfl,s7,ez,pv⟩
  have x1:ds[j]? =some ds[j]:=gE hj
  generalize ds[j]=q at x1
  obtain⟨x,hx,px⟩:=lN z1 x1
  obtain⟨b,rfl,hb5⟩:=px
  replace hb5:=s7 _ _ hb5
  have zz:SqL K Hd l zs:=SqL.of (s7 _ _ el1)
  refine⟨⟨_,_,zz,hx⟩,?_⟩
  rintro y H' ⟨rfl,hy'⟩
  have:=hy' _ zz
  rw[hx]at this
  cases this
  have hvl:vs.length<=j:=by
   rw[aO pv,ae,aS]
   exact Nat.min_le_left _ _
  simp_arith[hb5]
  refine⟨Bn (.int q.1) (.int q.2.1) (.int q.2.2),fun t ht=>?_⟩
  rw[vF]
  have q8:=iy ht (.tup [.int q.1,.int q.2.1])
  have e8:upd H' t (.tup [.int q.1,.int q.2.1]) t=some (.tup [.int q.1,.int q.2.1]):=ij
  have ez8:=q8 _ _ ez
  have t9:=kI (ys:=vs++[.ref t]) ez8
  refine⟨vs,ez8,iW (by lia),_,vs++[.ref t],rfl,i4 (s7.trans q8) hz0,ij,?_⟩
  rw[jy x1,ao]
  exact ma (Paired.imp' (fun _ _ ⟨a,e,g⟩=>⟨a,e,t9 _ _ rfl (q8 _ _ g)⟩) pv) ⟨t,rfl,t9 _ _ rfl e8⟩
 rintro σ' H2 ⟨w1,vs,rfl,s2,ez,pv⟩
 refine⟨⟨_,SqL.of (s2 _ _ el1),by lia⟩,?_⟩
 rw[aR]at pv
 refine⟨z,vs,_,rfl,ez,pv,DK.nd,by rw[ae];exact hl,?_⟩
 have s02:=s1.trans s2
 simp_arith[iD,s2 _ _ el1,ae]
 rw[aD (show(ds.length:Int)=(zs.length:Int) by lia),ay (by decide)]
 clear pv ez s2 el1 z1 s1
 subst hR
 refine iG fun R hR=>?_
 walk_at "D"
 intro d hd0
 have s1:=s02.trans (iy hd0 (.dK []))
 have ed:upd H2 d (.dK []) d=some (.dK []):=ij
 have hd0:H d=none:=s02.free hd0
 generalize upd H2 d (.dK [])=H3 at s1 ed
 subst hR
 refine iG fun R hR=>?_
 refine j7 (ji K pa) H3 (fun R' hR'=>?_) (kO (K:=K) (a:=pa) (xs:=xs) (fun i σ Hc=>∃w1 w2,σ=[some (.ref u),some (.ref l),some (.ref d),w1,w2,none]/\Same H Hc/\Hc d=some (.dK (jQ (ps.take i) fun _=>0))) ⟨none,none,rfl,s1,ed⟩ (fun i σ Hc _ ⟨_,_,_,s2,_⟩=>SqL.of (s2 _ _ hpa)) ?_ ?_)
 ·unfold jt
  simp_arith[iD,s1 _ _ hu1,i3]
  exact⟨pa,rfl,⟨_,SqL.of (s1 _ _ hpa)⟩,hR'⟩
 ·rintro i x σ Hc hx ⟨w1,w2,rfl,s2,ed2⟩
  obtain⟨p,hp,px⟩:=j1 hxs hx
  obtain⟨b,rfl,hb⟩:=px.same s2
  simp_arith[hb,ed2]
  have hi:=(ah.mp hp).1
  refine⟨mL (by decide) (by decide),?_,_,_,rfl,i4 s2 hd0,?_⟩
  ·unfold jQ
   rw[ae,aS]
   exact iW (by lia)
  ·have hn:iT (jQ (ps.take i) fun _=>0) (Sum.inl p.1:iq)=none:=by
    have e:(jQ (ps.take i) fun _=>0)=iR ((ps.take i).map fun p=>(p.1,2*p.2-0)):=by
     unfold jQ iR
     rw[bD]
     rfl
    rw[e]
    refine DS ?_
    rw[bD]
    show p.1∉(ps.take i).map (·.1)
    rw[List.map_take]
    exact F1 nd (by rw[aA,hp];rfl)
   rw[ij,uJ _ hn,jy hp]
   unfold jQ
   rw[ao,List.map_singleton,Int.sub_zero]
 rintro σ H4 ⟨w1,w2,rfl,s2,ed2⟩
 rw[hxl,aR]at ed2
 clear s1 ed s02
 refine(?_:R _ _ _)
 subst hR
 refine iG fun R hR=>?_
 refine j7 (ji K l) H4 (fun R' hR'=>?_) (kO (K:=K) (a:=l) (xs:=zs) (fun i σ Hc=>∃v4,σ=[some (.ref u),some (.ref l),some (.ref d),w1,w2,v4]/\Same H Hc/\Hc d=some (.dK (jQ ps (iZ (ds.take i))))) ⟨none,rfl,s2,ed2⟩ (fun i σ Hc _ ⟨_,_,s3,_⟩=>SqL.of (s3 _ _ el)) ?_ ?_)
 ·unfold jt
  walk_at "D"
  exact⟨l,rfl,⟨_,SqL.of (s2 _ _ el)⟩,hR'⟩
 ·rintro i x σ Hc hx ⟨v4,rfl,s4,ed4⟩
  obtain⟨p,hp,px⟩:=j1 hz hx
  obtain⟨t,rfl,et⟩:=id px
  have pm:=ag hp
  obtain⟨cm,c1,ce⟩:=DK.t p pm
  have etc:=s4 _ _ et
  have hkx:=xB etc
  simp only[kG,List.set_cons_zero,List.set_cons_succ]
  refine iG fun R9 hR9=>?_
  simp_arith[hkx,lO,iD,etc]
  refine⟨by decide,fun k1 hk1=>?_⟩
  rw[vF]
  have u1:=iy hk1 (.tup [.int p.1,.int p.2.1])
  have e1:upd Hc k1 (.tup [.int p.1,.int p.2.1]) k1=some (.tup [.int p.1,.int p.2.1]):=ij
  generalize upd Hc k1 (.tup [.int p.1,.int p.2.1])=H5 at u1 e1
  have s45:=s4.trans u1
  simp only[iD,s45 _ _ hu1,jh]
  refine⟨jY (p.1,p.2.1),ta,ys,ts.map jY,Pr.rep ⟨k1,rfl,e1⟩,rfl,s45 _ _ hta,(Prs.same s45 hys).reps,by have:=pI ts;lia,?_⟩
  rw[az rfl,HX,aD cm]
  walk_at "D"
  try rw[ay (by decide)]
  have et5:=s45 _ _ et
  have ed5:=u1 _ _ ed4
  subst hR9
  refine iG fun R9 hR9=>?_
  walk_at "D"
  refine jS (nC K t) H5 (fun R hR=>?_) (fun z hz0=>jP 3 (fun i σ' Hd=>∃w1,σ'=[w1]/\Same H5 Hd/\Hd z=some (.lst [])) ⟨none,rfl,iy hz0 _,ij⟩ ?_ ?_)
  ·unfold vi
   walk_at "D"
   exact⟨t,rfl,⟨_,SqT.of et5⟩,hR⟩
  ·rintro j σ' Hd hj ⟨w3,rfl,s7,ez⟩
   obtain⟨n,x1⟩:∃n:Int,([.int p.1,.int p.2.1,.int p.2.2]:List V)[j]? =some (.int n):=by
    have:j=0\/j=1\/j=2:=by lia
    rcases this with rfl|rfl|rfl
    ·exact⟨_,rfl⟩
    ·exact⟨_,rfl⟩
    ·exact⟨_,rfl⟩
   refine⟨⟨_,_,SqT.of (s7 _ _ et5),x1⟩,?_⟩
   rintro y H' ⟨rfl,hy⟩
   have E1:=aL (x1.symm.trans (hy _ (SqT.of (s7 _ _ et5))))
   subst E1
   walk_at "D"
   refine⟨_,_,rfl,xy H' n,?_⟩
   simp_arith[nO]
   exact⟨_,rfl,s7,ez⟩
  rintro σ' Hd ⟨w3,rfl,s7,ez⟩
  refine⟨⟨_,SqT.of (s7 _ _ et5),au _⟩,?_⟩
  walk_at "D"
  intro e he
  have s9:=iy he (.lst [])
  have ee:upd Hd e (.lst []) e=some (.lst []):=ij
  have ez9:=s9 _ _ ez
  generalize upd Hd e (.lst [])=He at s9 ee ez9
  have sA:=s7.trans s9
  have sB:=s45.trans sA
  refine⟨.lst [],.lst [],(by rw[Rep];exact⟨z,[],rfl,ez9,rfl⟩),(by rw[Rep];exact⟨e,[],rfl,ee,rfl⟩),(by decide),.inl ⟨_,_,rfl,rfl⟩,?_⟩
  rw[kn]
  have etB:=sB _ _ et
  have edB:=sA _ _ ed5
  clear s7 ez ez9 s9 ee sA ed4 ed5 etc hkx he u1 e1 s45 et5
  simp_arith[iD,etB,kR]
  rw[aK (show ¬p.2.2<2 by lia),ay (by decide)]
  refine⟨by decide,?_⟩
  rw[aK (show ¬p.2.2%2=1 by lia),ay (by decide)]
  obtain⟨p1,hp1,f1⟩:=aE.mp (ends p pm).1
  obtain⟨p2,hp2,f2⟩:=aE.mp (ends p pm).2
  try dsimp only at f1 f2
  have g1:=Aa nd (f:=iZ (ds.take i)) hp1
  rw[f1]at g1
  have q1:=z9 nd (f:=iZ (ds.take i)) hp1 p.2.2
  rw[f1]at q1
  have hgl:∀g:Int->Int,(jQ ps g).length<sizeLine:=fun g=>by
   unfold jQ
   rw[ae]
   exact iW (by lia)
  subst hR9
  refine iG fun R9 hR9=>?_
  simp_arith[iD,etB,edB,i3,kR,g1]
  rw[q1]
  refine⟨hgl _,?_⟩
  have et8:upd He d (.dK (jQ ps fun m=>iZ (ds.take i) m+(if p.1=m then p.2.2 else 0))) t=some (.tup [.int p.1,.int p.2.1,.int p.2.2]):=by
   rw[ir (iC et hd0)]
   exact etB
  have ed8:upd He d (.dK (jQ ps fun m=>iZ (ds.take i) m+(if p.1=m then p.2.2 else 0))) d=some (.dK (jQ ps fun m=>iZ (ds.take i) m+(if p.1=m then p.2.2 else 0))):=ij
  have g2:=Aa nd (f:=fun m=>iZ (ds.take i) m+(if p.1=m then p.2.2 else 0)) hp2
  rw[f2]at g2
  have q2:=z9 nd (f:=fun m=>iZ (ds.take i) m+(if p.1=m then p.2.2 else 0)) hp2 p.2.2
  rw[f2]at q2
  subst hR9
  simp_arith[iD,et8,ed8,jh,kR,g2]
  refine⟨hgl _,_,rfl,i4 (i4 sB hd0) hd0,?_⟩
  rw[ij]
  refine bN (fun z=>some (HO.dK z)) (Eq.trans q2 ?_)
  have ef:(fun m=>iZ (ds.take i) m+(if p.1=m then p.2.2 else 0)+(if p.2.1=m then p.2.2 else 0))=iZ (ds.take (i+1)):=by
   funext m
   rw[jy hp]
   unfold iZ
   rw[ao,dD]
   simp
   lia
  rw [<- ef]
 rintro σ H5 ⟨v4,rfl,s4,ed4⟩
 rw[hzl,aR]at ed4
 refine(?_:R _ _ _)
 subst hR
 refine iG fun R hR=>?_
 simp_arith[vS,ed4]
 refine⟨d,_,rfl,ed4,fun z hz1=>⟨z,ps.map (fun p=>2*p.2-iZ ds p.1),0,rfl,rfl,?_,fun m m1 m2 m3=>?_⟩⟩
 ·rw[ij]
  unfold jQ
  rw[bD,bD]
  rfl
 have hm0:¬m<0:=by
  by_cases c:(ps.map fun p=>2*p.2-iZ ds p.1)=[]
  ·rw[m1 c];decide
  ·obtain⟨p,hp,e⟩:=aE.mp (m2 c)
   have:=DK.pay p hp
   lia
 have s5:=s4.trans (iy hz1 (.lst (((jQ ps (iZ ds)).map (·.2)))))
 generalize upd H5 z (.lst (((jQ ps (iZ ds)).map (·.2))))=H6 at s5
 walk_at "D"
 rw[aK hm0,ay (by decide)]
 subst hR
 walk_at "D"
 refine jS (ji K l) H6 (fun R2 hR2=>?_) (fun z hz0=>jP ds.length (fun j σ' Hd=>∃w1,σ'=[w1]/\Same H6 Hd/\Hd z=some (.lst (((ds.take j).map (·.2.2)).map V.int))) ⟨none,rfl,iy hz0 _,ij⟩ ?_ ?_)
 ·unfold jt
  walk_at "D"
  exact⟨l,rfl,⟨_,SqL.of (s5 _ _ el)⟩,hR2⟩
 ·rintro j σ' Hd hj ⟨w1,rfl,s7,ez⟩
  have sA:=s5.trans s7
  have x1:ds[j]? =some ds[j]:=gE hj
  generalize ds[j]=q at x1
  obtain⟨x,hx,px⟩:=lN hz x1
  obtain⟨b,rfl,hb5⟩:=px
  replace hb5:=sA _ _ hb5
  have zz:SqL K Hd l zs:=SqL.of (sA _ _ el)
  refine⟨⟨_,_,zz,hx⟩,?_⟩
  rintro y H' ⟨rfl,hy'⟩
  have:=hy' _ zz
  rw[hx]at this
  cases this
  simp_arith[iD,hb5,kR]
  refine⟨_,ez,?_,_,rfl,i4 s7 hz0,?_⟩
  ·rw[ae,ae,aS]
   exact iW (by lia)
  ·rw[ij,jy x1,ao,ao]
   rfl
 rintro σ' H7 ⟨w1,rfl,s7,ez⟩
 refine⟨⟨_,SqL.of ((s5.trans s7) _ _ el),by lia⟩,?_⟩
 rw[aR]at ez
 exact⟨z,_,rfl,ez,h _ (s5.trans s7)⟩
theorem xH{H:Hp}{a st:Addr}{xs:List V}{ps:List (Int×Int)}{o:HO}(ha:H a=some (.lst xs))(pp:Prs H xs ps)(hs:H st=some o)(so:StO o):a≠st:=by
 intro z
 obtain⟨c,s,f,e,_⟩:=so
 rw[z,hs,e]at ha
 cases ha
 cases pp with
 |cons r _=>obtain⟨t,e,_⟩:=r;cases e
theorem Da{xs:List V}{k:Int}(h0:0<=k):kQ xs none (some k)=xs.take k.toNat:=by
 unfold kQ HT.iL
 simp only[List.drop_zero,ay (show ¬k<0 by lia),Nat.sub_zero]
 by_cases c:k.toNat<=xs.length
 ·rw[Nat.min_eq_left c]
 ·rw[Nat.min_eq_right (by lia),aR,dQ (by lia)]
def yT:Sp:=fun vs H Q _=>∃s o v ps ts,vs=[.ref s,v]/\H s=some o/\StO o/\jc3 H v ps ts/\WebOk ps ts/\Dr (-1) ps/\ps.length<=15/\∀v' H' o' qs,But s H H'->H' s=some o'->StO o'->jc3 H' v' qs ts->WebOk qs ts->qs.length=ps.length->Q v' H'
theorem yB:∀{ps qs:List (Int×Int)} {l s s':Int},PlOk l s' ps->qs.map (·.1)=ps.map (·.1)->(∀q∈qs,1<=q.2/\q.2<=20000000000)->s+20000000000*(qs.length:Int)<=1000000000000->PlOk l s qs
 |_,[],_,_,_,_,_,_,_=>trivial
 |[],q::qs,_,_,_,_,e,_,_=>by simp at e
 |p::ps,q::qs,l,s,s',h,e,hb,hl=>by
  rw[aw,aw]at e
  obtain⟨e1,e2⟩:=List.cons.inj e
  have b:=hb q (aP ..)
  have h1:=h.1
  rw[List.length_cons]at hl
  refine⟨⟨by lia,by lia,b.1,by lia⟩,?_⟩
  rw[e1]
  exact yB h.2 e2 (fun x hx=>hb x (aH _ hx)) (by lia)
theorem Aj{k1 k2:List (iq×V)}(h:∀n:Int,jA k1 n=true->jA k2 n=true):∀{ts:List (Int×Int)} {q:Int×Int},TiOk k1 q ts->TiOk k2 q ts
 |[],_,_=>trivial
 |t::r,_,a=>⟨⟨a.1.1,a.1.2.1,h _ a.1.2.2.1,h _ a.1.2.2.2⟩,Aj h a.2⟩
theorem EZ{ps qs:List (Int×Int)}(nd:(ps.map (·.1)).Nodup)(e:qs.map (·.1)=ps.map (·.1)){n:Int}(h:jA (iR ps) n=true):jA (iR qs) n=true:=by
 have hm:=o8 h
 rw [<- e] at hm nd
 obtain⟨p,hp,rfl⟩:=aE.mp hm
 exact yk nd hp
theorem Dr.price:∀{ps:List (Int×Int)} {l:Int},Dr l ps->∀p∈ps,1<=p.2/\p.2<=1000000000
 |[],_,_,p,h=>by cases h
 |q::r,l,d,p,h=>by
  rcases aU.mp h with e|h
  ·rw[e];exact⟨d.1.2.2.1,d.1.2.2.2⟩
  ·exact Dr.price d.2 p h
theorem DN{ps:List (Int×Int)}{k:Nat}{p:Int×Int}(h:ps[k]? =some p)(v:Int):(ps.set k (p.1,v)).map (·.1)=ps.map (·.1):=by
 rw[List.map_set]
 apply dW
 intro i
 rw[List.getElem?_set]
 split
 ·rename_i e
  subst e
  have hk:=(ah.mp h).1
  rw[az (by rw[ae];exact hk),aA,h]
  rfl
 ·rfl
theorem AU{α β:Type}{F:α->β->Prop}:∀{xs:List α} {ys:List β} (k:Nat),Paired F xs ys->Paired F (xs.take k) (ys.take k)
 |_,_,_,.nil=>by rw[List.take_nil,List.take_nil];exact .nil
 |_,_,0,.cons _ _=>.nil
 |_,_,k+1,.cons h t=>.cons h (AU k t)
theorem AS{α β:Type}{F:α->β->Prop}:∀{xs:List α} {ys:List β} (k:Nat),Paired F xs ys->Paired F (xs.drop k) (ys.drop k)
 |_,_,_,.nil=>by rw[List.drop_nil,List.drop_nil];exact .nil
 |_,_,0,.cons h t=>.cons h t
 |_,_,k+1,.cons _ t=>AS k t
theorem vb{α β:Type}{F:α->β->Prop}:∀{a:List α} {b:List β} {c:List α} {d:List β},Paired F a b->Paired F c d->Paired F (a++c) (b++d)
 |_,_,_,_,.nil,h=>h
 |_,_,_,_,.cons r t,h=>.cons r (vb t h)
theorem DM(ps:List (Int×Int)){n:Nat}(h:n<ps.length)(x:Int×Int):ps.take n++[x]++ps.drop (n+1)=ps.set n x:=by
 rw[List.set_eq_take_append_cons_drop,az h,bp]
 rfl
theorem GF(B:Blt mg)(D:DefAt K mg "_law_turned" (iw 45) ["_law_state","_law_web"] f fd)(Dqa:DefAt K mg "_law_take" (iw 43) ["_law_state","_law_many"] fqa dqa)(Gqa:FnOk P w K mg base iE 1 fqa dqa ["_law_state","_law_many"] tX):FnOk P w K mg base iE 2 f fd ["_law_state","_law_web"] yT:=by
 have sc:FnScope ["_law_state","_law_web","_law_at","_law_place","_law_tied","_law_cost","_law_changed"] ["_law_state","_law_web"] (iU (iw 45)):=by walk_at "SC"
 refine D.F.ok sc (fun vs H Q E h=>?_) (fun cdv A outer s H vs Q E hr h=>?_)
 ·obtain⟨s,o,v,ps,ts,rfl,_⟩:=h
  rfl
 obtain⟨st,o,v,ps,ts,rfl,es,so,hw,wk,dr,h6,h⟩:=h
 obtain⟨u,pa,ta,xs,ys,rfl,eu,epa,eta,hxs,hys⟩:=id hw
 have hxl:=aO hxs
 have htl:=wk.tl
 have hu:=i8 hr
 have hu0:_<PySem.cLine:=aF hu
 refine⟨_,(iu (je (PW.pt (lq (iS (tO hr.units) (iz iA (qv 1) ip (fun _ _=>rfl)) (jJ ik) (iQ _)) (mD (iS kF (iN Gqa (hr.mono (by decide)) rfl Dqa.m Dqa.F.kp Dqa.b .nil iI (ig (qv 0) (ig ip ik))) ip (iQ _))))) (iB (iP (qv 1))) jf) (iu (iF (i:=2) sc.nd rfl (Or.inl rfl) (iN Gqa (hr.mono (by decide)) rfl Dqa.m Dqa.F.kp Dqa.b .nil iI (ig (qv 0) (ig (jg kW rfl B.len bQ (ig (iz iA (qv 1) ip (fun _ _=>rfl)) ik)) ik)))) (iu (iF (i:=3) sc.nd rfl (Or.inr rfl) (iz iA (iz iA (iz iA (qv 1) ip (fun _ _=>rfl)) (qv 2) (fun _ _=>rfl)) ip (fun _ _=>rfl))) (iu (iF (i:=4) sc.nd rfl (Or.inr rfl) (jW (CpScope.of (N:=["_law_one","_law_other","_law_place"]) (src:=[none,none,some 3]) (by rfl)) rfl (jx (iz iA (qv 1) ip (fun _ _=>rfl))) (fun _ _ _ _=>(j5 (n:=2) rfl (jb (iJ (i:=0) (jc (l:=["_law_one","_law_other","_law_place"]) (by rfl)) rfl (Or.inl rfl)) (jb (iJ (i:=1) (jc (l:=["_law_one","_law_other","_law_place"]) (by rfl)) rfl (Or.inl rfl)) j6)))) (fun _ _ _ _=>(km (iS kF (qv 1) (qv 2) (iQ _)))) (fun _ _ _ _=>(qv 0)))) (iu (iF (i:=4) sc.nd rfl (Or.inr rfl) (iO qo (qv 4) (jW (CpScope.of (N:=["_law_one","_law_other","_law_place"]) (src:=[none,none,some 3]) (by rfl)) rfl (jx (iz iA (qv 1) ip (fun _ _=>rfl))) (fun _ _ _ _=>(j5 (n:=2) rfl (jb (iJ (i:=0) (jc (l:=["_law_one","_law_other","_law_place"]) (by rfl)) rfl (Or.inl rfl)) (jb (iJ (i:=1) (jc (l:=["_law_one","_law_other","_law_place"]) (by rfl)) rfl (Or.inl rfl)) j6)))) (fun _ _ _ _=>(km (iS kF (qv 0) (qv 2) (iQ _)))) (fun _ _ _ _=>(qv 1))))) (iu (iF (i:=5) sc.nd rfl (Or.inl rfl) (jg (qt rfl) rfl B.sum dY (ig (jW (CpScope.of (N:=["_law_other","_law_price","_law_tied"]) (src:=[none,none,some 4]) (by rfl)) rfl (jx (iz iA (qv 1) ip (fun _ _=>rfl))) (fun _ _ _ _=>(j5 (n:=2) rfl (jb (iJ (i:=0) (jc (l:=["_law_other","_law_price","_law_tied"]) (by rfl)) rfl (Or.inl rfl)) (jb (iJ (i:=1) (jc (l:=["_law_other","_law_price","_law_tied"]) (by rfl)) rfl (Or.inl rfl)) j6)))) (fun _ _ _ _=>(km (iS qp (qv 0) (qv 2) (by with_unfolding_all rfl)))) (fun _ _ _ _=>(qv 1))) ik))) (iu (iF (i:=6) sc.nd rfl (Or.inl rfl) (j0 (ig (qv 3) (ig (jg (wO rfl) rfl B.max PyProof.Rows.boot_max (ig ip (ig (iO oN (iO kc (qv 5) (iN Gqa (hr.mono (by decide)) rfl Dqa.m Dqa.F.kp Dqa.b .nil iI (ig (qv 0) (ig ip ik)))) ip) ik))) ik)))) (iB (iP (j0 (ig (iO qo (iO qo (nX tf (iz iA (qv 1) ip (fun _ _=>rfl)) nR (nT (qv 2))) (jJ (ig (qv 6) ik))) (nX tf (iz iA (qv 1) ip (fun _ _=>rfl)) (nT (iO kc (qv 2) ip)) nR)) (ig (iz iA (qv 1) ip (fun _ _=>rfl)) ik)))))))))))),?_⟩
 refine iG fun R hR=>?_
 simp_arith[iD,eu,i3]
 intro l0 hl0
 have q0:=iy hl0 (.lst [])
 refine⟨.lst (ps.map jY),.lst [],(by rw[Rep];exact⟨pa,xs,rfl,q0 _ _ epa,Prs.reps (Prs.same q0 hxs)⟩),(by rw[Rep];exact⟨l0,[],rfl,ij,by rw[Reps]⟩),?_,.inl ⟨_,_,rfl,rfl⟩,?_⟩
 ·rw[jn];have:=pI ps;lia
 have es1:=q0 _ _ es
 have eu1:=q0 _ _ eu
 have epa1:=q0 _ _ epa
 have eta1:=q0 _ _ eta
 have hx1:=Prs.same q0 hxs
 have hy1:=Prs.same q0 hys
 have W1:=hw.same q0
 generalize upd H l0 (.lst [])=H1 at q0 es1 eu1 epa1 eta1 hx1 hy1 W1
 have b1:But st H H1:=fun b o n q=>q0 b o q
 by_cases c:ps=[]
 ·subst c
  rw[show iX (.lst (([]:List (Int×Int)).map jY)) (.lst [])=true from kn _]
  walk_at "D"
  exact h _ _ o [] b1 es1 so W1 wk rfl
 have ce:iX (.lst (ps.map jY)) (.lst [])=false:=by
  cases ps with
  |nil=>exact absurd rfl c
  |cons p r=>rfl
 rw[ce]
 walk_at "D"
 refine⟨st,o,2,rfl,es1,so,by decide,by decide,fun d2 o2 _ _ so2=>?_⟩
 have b2:But st H1 (upd H1 st o2):=But.at _ _ _
 have es2:upd H1 st o2 st=some o2:=ij
 have W2:=W1.but es1 so b2
 generalize upd H1 st o2=H2 at b2 es2 W2
 walk_at "D"
 refine kg (fun c2=>?_) (fun c2=>?_)
 ·walk_at "D"
  exact h _ _ o2 ps (b1.trans b2) es2 so2 W2 wk rfl
 subst hR
 clear eu epa eta hxs hys eu1 epa1 eta1 hx1 hy1 hw W1
 obtain⟨u',pa,ta,xs,ys,eq,eu,epa,eta,hxs,hys⟩:=id W2
 cases eq
 have hxl:=aO hxs
 have hp0:0<ps.length:=by
  cases ps with
  |nil=>exact absurd rfl c
  |cons p r=>simp
 refine iG fun R hR=>?_
 simp_arith[iD,eu,i3,epa]
 refine⟨st,o2,_,rfl,es2,so2,by lia,by lia,fun k o3 k0 k1 so3=>?_⟩
 have b3:But st H2 (upd H2 st o3):=But.at _ _ _
 have es3:upd H2 st o3 st=some o3:=ij
 have W3:=W2.but es2 so2 b3
 generalize upd H2 st o3=H3 at b3 es3 W3
 clear eu epa eta hxs hys
 obtain⟨u',pa,ta,xs,ys,eq,eu,epa,eta,hxs,hys⟩:=id W3
 cases eq
 have hxl:=aO hxs
 obtain⟨n,rfl⟩:∃n:Nat,k=(n:Int):=⟨k.toNat,by lia⟩
 have hn:n<ps.length:=by lia
 have x1:ps[n]? =some ps[n]:=gE hn
 generalize ps[n]=pn at x1
 have hyl:=aO hys
 subst hR
 refine iG fun R hR=>?_
 obtain⟨xn,gn,hgn⟩:=lN hxs x1
 obtain⟨tn,rfl,hn4⟩:=hgn
 have an:i7 xs (n:Int)=some (.ref tn):=kH gn
 simp_arith[iD,eu,i3,epa,an,hn4]
 have s0:Same H3 H3:=fun _ _ q=>q
 subst hR
 refine iG fun R hR=>?_
 walk_at "D"
 refine jS (ji K ta) H3 (fun R2 hR2=>?_) (fun za hza=>jP ts.length (fun j σ' Hc=>∃w1 w2 ms,σ'=[w1,w2,some (.int pn.1)]/\Same H3 Hc/\Hc za=some (.lst (ms.map V.int))/\ms.length<=j) ⟨none,none,[],rfl,iy hza _,ij,au _⟩ ?_ ?_)
 ·unfold jt
  simp_arith[iD,s0 _ _ eu,jh]
  exact⟨ta,rfl,⟨_,SqL.of (s0 _ _ eta)⟩,hR2⟩
 ·rintro j σ' Hc hj ⟨w1,w2,ms,rfl,sQ,ez,hml⟩
  have sR:=s0.trans sQ
  have z1:SqL K Hc ta ys:=SqL.of (sR _ _ eta)
  have x1:ys[j]? =some (ys[j]'(by lia)):=gE _
  refine⟨⟨_,_,z1,x1⟩,?_⟩
  rintro y H' ⟨rfl,hy⟩
  obtain⟨t,ht,pt⟩:=j1 hys (hy _ z1)
  obtain⟨b,rfl,hb⟩:=pt.same sR
  simp_arith[hb]
  refine kg (fun c=>?_) (fun c=>?_)
  ·refine⟨_,ez,by rw[ae];exact iW (by lia),_,_,ms++[t.1],rfl,i4 sQ hza,by rw[ij,ao];rfl,by rw[aB];show ms.length+1<=_;lia⟩
  ·exact⟨_,_,ms,rfl,sQ,ez,by lia⟩
 rintro σ' H4 ⟨w1,w2,ms,rfl,s4,eza,hms⟩
 refine⟨⟨_,SqL.of (s4 _ _ eta),by lia⟩,?_⟩
 subst hR
 refine iG fun R hR=>?_
 walk_at "D"
 refine jS (ji K ta) H4 (fun R2 hR2=>?_) (fun zb hzb=>jP ts.length (fun j σ' Hc=>∃w1 w2 ms,σ'=[w1,w2,some (.int pn.1)]/\Same H4 Hc/\Hc zb=some (.lst (ms.map V.int))/\ms.length<=j) ⟨none,none,[],rfl,iy hzb _,ij,au _⟩ ?_ ?_)
 ·unfold jt
  simp_arith[iD,s4 _ _ eu,jh]
  exact⟨ta,rfl,⟨_,SqL.of (s4 _ _ eta)⟩,hR2⟩
 ·rintro j σ' Hc hj ⟨w1,w2,ms,rfl,sQ,ez,hml⟩
  have sR:=s4.trans sQ
  have z1:SqL K Hc ta ys:=SqL.of (sR _ _ eta)
  have x1:ys[j]? =some (ys[j]'(by lia)):=gE _
  refine⟨⟨_,_,z1,x1⟩,?_⟩
  rintro y H' ⟨rfl,hy⟩
  obtain⟨t,ht,pt⟩:=j1 hys (hy _ z1)
  obtain⟨b,rfl,hb⟩:=pt.same sR
  simp_arith[hb]
  refine kg (fun c=>?_) (fun c=>?_)
  ·refine⟨_,ez,by rw[ae];exact iW (by lia),_,_,ms++[t.2],rfl,i4 sQ hzb,by rw[ij,ao];rfl,by rw[aB];show ms.length+1<=_;lia⟩
  ·exact⟨_,_,ms,rfl,sQ,ez,by lia⟩
 rintro σ' H5 ⟨w1,w2,ms2,rfl,s5,ezb,hms2⟩
 refine⟨⟨_,SqL.of ((s4.trans s5) _ _ eta),by lia⟩,?_⟩
 simp_arith[s5 _ _ eza,ezb]
 refine⟨sd (by rw[ae,ae];lia),fun zc hzc=>?_⟩
 have q6:=iy hzc (.lst (ms.map V.int++ms2.map V.int))
 have ezc:upd H5 zc (.lst (ms.map V.int++ms2.map V.int)) zc=some (.lst ((ms++ms2).map V.int)):=by rw[ij,ao]
 generalize upd H5 zc (.lst (ms.map V.int++ms2.map V.int))=H6 at q6 ezc
 generalize ms++ms2=ns' at ezc
 have s6:=(s4.trans s5).trans q6
 clear eza ezb s4 s5 q6
 subst hR
 refine iG fun R hR=>?_
 walk_at "D"
 refine jS (ji K pa) H6 (fun R2 hR2=>?_) (fun z hz0=>jP ps.length (fun i σ' Hc=>∃w1 w2 cs,σ'=[w1,w2,some (.ref zc)]/\Same H6 Hc/\Hc z=some (.lst (cs.map V.int))/\cs.length<=i/\0<=cs.sum/\cs.sum<=1000000000*(i:Int)) ⟨none,none,[],rfl,iy hz0 _,ij,au _,bH _,by simp⟩ ?_ ?_)
 ·unfold jt
  simp_arith[iD,s6 _ _ eu,i3]
  exact⟨pa,rfl,⟨_,SqL.of (s6 _ _ epa)⟩,hR2⟩
 ·rintro i σ' Hc hi ⟨w1,w2,cs,rfl,s7,ez,hcl,hc0,hc1⟩
  have s67:=s6.trans s7
  have x1:xs[i]? =some (xs[i]'(by lia)):=gE _
  have z1:SqL K Hc pa xs:=SqL.of (s67 _ _ epa)
  refine⟨⟨_,_,z1,x1⟩,?_⟩
  rintro y H' ⟨rfl,hy⟩
  obtain⟨p,hp,px⟩:=j1 hxs (hy _ z1)
  obtain⟨b,rfl,hb⟩:=px.same s67
  have pb:=dr.price p (ag hp)
  simp_arith[hb,iD,s7 _ _ ezc,nV,n5,j3]
  refine kg (fun c=>?_) (fun c=>?_)
  ·refine⟨_,ez,by rw[ae];exact iW (by lia),_,_,cs++[p.2],rfl,i4 s7 hz0,by rw[ij,ao];rfl,by rw[aB];show cs.length+1<=_;lia,?_,?_⟩<;>rw[dD]<;>simp only[List.sum_cons,List.sum_nil]<;>lia
  ·exact⟨_,_,cs,rfl,s7,ez,by lia,hc0,by lia⟩
 rintro σ' H7 ⟨w1,w2,cs,rfl,s7,ez,hcl,hc0,hc1⟩
 refine⟨⟨_,SqL.of ((s6.trans s7) _ _ epa),by lia⟩,?_⟩
 refine⟨z,_,rfl,ez,?_⟩
 have s37:=s6.trans s7
 have es7:=s37 _ _ es3
 have eu7:=s37 _ _ eu
 have epa7:=s37 _ _ epa
 have eta7:=s37 _ _ eta
 have hx7:=Prs.same s37 hxs
 have hy7:=Prs.same s37 hys
 have b7:But st H H7:=fun b o nb q=>s37 _ _ (b3 _ _ nb (b2 _ _ nb (b1 _ _ nb q)))
 generalize cs.sum=S at hc0 hc1
 clear ez ezc s6 s7 s37 es3 eu epa eta hxs hys b1 b2 b3 hn4 W2 W3 hcl
 subst hR
 refine iG fun R hR=>?_
 walk_at "D"
 refine⟨st,o3,3,rfl,es7,so3,by decide,by decide,fun d6 o6 d60 d61 so6=>?_⟩
 have b6:But st H7 (upd H7 st o6):=But.at _ _ _
 have es6:upd H7 st o6 st=some o6:=ij
 have t6:=b6.tups es7 so3.imm
 have eu6:=t6 _ _ rfl eu7
 have epa6:upd H7 st o6 pa=some (.lst xs):=b6 _ _ (xH epa7 hx7 es7 so3) epa7
 have eta6:upd H7 st o6 ta=some (.lst ys):=b6 _ _ (xH eta7 hy7 es7 so3) eta7
 have hx6:=Prs.tups t6 hx7
 have hy6:=Prs.tups t6 hy7
 have b67:=b7.trans b6
 generalize upd H7 st o6=H8 at b67 es6 eu6 epa6 eta6 hx6 hy6
 walk_at "D"
 intro t7 ht7
 have hv:∃nv:Int,(if 1<S+d6-1 then S+d6-1 else 1)=nv/\1<=nv/\nv<=20000000000:=⟨_,rfl,by split<;>lia,by split<;>lia⟩
 obtain⟨nv,ev,nv1,nv2⟩:=hv
 rw[ev]
 have q7:=iy ht7 (.tup [.int pn.1,.int nv])
 have e7t:upd H8 t7 (.tup [.int pn.1,.int nv]) t7=some (.tup [.int pn.1,.int nv]):=ij
 generalize upd H8 t7 (.tup [.int pn.1,.int nv])=H9 at q7 e7t
 subst hR
 simp_arith[iD,q7 _ _ eu6,i3,q7 _ _ epa6]
 intro l1 hl1
 rw[Da (by lia),show((n:Int)).toNat=n by lia]
 have q8:=iy hl1 (.lst (xs.take n))
 have el1:upd H9 l1 (.lst (xs.take n)) l1=some (.lst (xs.take n)):=ij
 generalize upd H9 l1 (.lst (xs.take n))=HA at q8 el1
 intro l2 hl2
 have q9:=iy hl2 (.lst [.ref t7])
 have el2:upd HA l2 (.lst [.ref t7]) l2=some (.lst [.ref t7]):=ij
 have el19:=q9 _ _ el1
 generalize upd HA l2 (.lst [.ref t7])=HB at q9 el2 el19
 have s79:=(q7.trans q8).trans q9
 simp_arith[el19,el2]
 refine⟨sd (by rw[aS];show _+1<=_;lia),fun l3 hl3=>?_⟩
 have qA:=iy hl3 (.lst (xs.take n++[.ref t7]))
 have el3:upd HB l3 (.lst (xs.take n++[.ref t7])) l3=some (.lst (xs.take n++[.ref t7])):=ij
 generalize upd HB l3 (.lst (xs.take n++[.ref t7]))=HC at qA el3
 have s7A:=s79.trans qA
 simp_arith[iD,s7A _ _ eu6,i3,s7A _ _ epa6]
 intro l4 hl4
 rw[show((n:Int)+1)=((n+1:Nat):Int) by lia,y8 (by lia)]
 have qB:=iy hl4 (.lst (xs.drop (n+1)))
 have el4:upd HC l4 (.lst (xs.drop (n+1))) l4=some (.lst (xs.drop (n+1))):=ij
 have el34:=qB _ _ el3
 generalize upd HC l4 (.lst (xs.drop (n+1)))=HD at qB el4 el34
 simp_arith[el34,el4]
 refine⟨sd (by rw[aB,aS,eC];show _+1+_<=_;lia),fun l5 hl5=>?_⟩
 have qC:=iy hl5 (.lst (xs.take n++[.ref t7]++xs.drop (n+1)))
 have el5:upd HD l5 (.lst (xs.take n++[.ref t7]++xs.drop (n+1))) l5=some (.lst (xs.take n++[.ref t7]++xs.drop (n+1))):=ij
 generalize upd HD l5 (.lst (xs.take n++[.ref t7]++xs.drop (n+1)))=HE at qC el5
 have s7C:=(s7A.trans qB).trans qC
 have e7C:=(((q8.trans q9).trans qA).trans (qB.trans qC)) _ _ e7t
 simp_arith[iD,s7C _ _ eu6,jh]
 intro t9 ht9
 have q9':=iy ht9 (.tup [.ref l5,.ref ta])
 have sZ:=s7C.trans q9'
 have hf:=DN x1 nv
 have hin:∀q∈ps.set n (pn.1,nv),1<=q.2/\q.2<=20000000000:=fun q hq=>by
  rcases List.mem_or_eq_of_mem_set hq with hq|rfl
  ·have:=dr.price q hq
   lia
  ·exact⟨nv1,nv2⟩
 have hlen:(ps.set n (pn.1,nv)).length=ps.length:=dE
 have pz:Prs HE (xs.take n++[.ref t7]++xs.drop (n+1)) (ps.set n (pn.1,nv)):=by
  rw [<- DM ps hn]
  exact vb (vb (AU n (Prs.same s7C hx6)) (.cons ⟨t7,rfl,e7C⟩ .nil)) (AS (n+1) (Prs.same s7C hx6))
 refine h _ _ o6 (ps.set n (pn.1,nv)) (fun b o nb q=>sZ _ _ (b67 _ _ nb q)) (sZ _ _ es6) so6 ⟨t9,l5,ta,_,ys,rfl,ij,q9' _ _ el5,sZ _ _ eta6,Prs.same q9' pz,Prs.same sZ hy6⟩ ⟨by rw[hlen];lia,yB wk.p hf hin (by rw[hlen];lia),wk.tl,Aj (fun m hm=>EZ wk.p.nodup hf hm) wk.t⟩ hlen
theorem xC{ps:List (Int×Int)}(ts:List (Int×Int))(h:Ends ps ts):∃f,LabOk ps ts f:=by
 have go:∀n:Nat,n<=ts.length->∃f,LabOk ps (ts.take n) f:=fun n=>by
  induction n with
  |zero=>exact fun _=>⟨_,by rw[List.take_zero];exact LabOk.none⟩
  |succ n ih=>
   intro hn
   obtain⟨f,hf⟩:=ih (by lia)
   have e:ts[n]? =some ts[n]:=gE (by lia)
   have hm:ts[n]∈ts:=dq _
   obtain⟨a1,a2,a3⟩:=h _ hm
   rw[jy e]
   have he:Ends ps (ts.take n):=fun t ht=>h t (fP ht)
   by_cases c:f ts[n].1<=f ts[n].2
   ·exact⟨_,hf.put he a2 a3 a1 (u:=f ts[n].1) (v:=f ts[n].2) c (.inl ⟨rfl,rfl⟩)⟩
   ·exact⟨_,hf.put he a2 a3 a1 (u:=f ts[n].2) (v:=f ts[n].1) (by lia) (.inr ⟨rfl,rfl⟩)⟩
 obtain⟨f,hf⟩:=go ts.length (au _)
 rw[aR]at hf
 exact⟨f,hf⟩
def qu(K:PySem.W.Frag):Sp:=fun vs H Q _=>∃a ns,vs=[.ref a]/\Scr K H a ns/\∀H',Q (.bl true) H'
theorem BQ(f:Int->Int)(col:Int->Bool)(n:Int):jC f col n=0\/jC f col n=1:=by unfold jC;split<;>simp
theorem qV{f:Int->Int}{col:Int->Bool}{ns:List Int}{n:Int}(h:n∈ns):n∈jV f col ns 0↔jC f col n=0:=by
 unfold jV
 rw[bG,cW]
 exact⟨fun z=>z.2,fun z=>⟨h,z⟩⟩
theorem xZ{ps ts:List (Int×Int)}{f:Int->Int}{col:Int->Bool}(wk:WebOk ps ts)(lab:LabOk ps ts f)(hcol:lS ts col):mh ts (jV f col (ps.map (·.1)) 0):=fun t ht=>by
 obtain⟨m1,m2⟩:=nj wk t ht
 have hn:t.2∈iV ts t.1:=(pE fun t ht=>(wk.ends t ht).1).mpr (.inl ht)
 have:=zF lab hcol m1 m2 hn
 rw[qV m1,qV m2]
 rcases BQ f col t.1 with e|e<;>lia
theorem zA:∀{ps:List (Int×Int)} {l s:Int},PlOk l s ps->0<=s->∀p∈ps,p.2<=1000000000000
 |[],_,_,_,_,_,h=>by cases h
 |q::r,l,s,h,h0,p,hp=>by
  have:=h.1
  rcases aU.mp hp with e|hp
  ·rw[e];lia
  ·exact zA h.2 (by lia) p hp
theorem EV{ps ts:List (Int×Int)}{ds:List (Int×Int×Int)}(wk:WebOk ps ts)(D:DueK ps ts ds):∀d∈ds,d.2.2<10000000000000:=fun d hd=>by
 obtain⟨p,hp,e⟩:=aE.mp (nj wk _ (D.t d hd).1).1
 have h1:=D.pay p hp
 have h2:=zw (zs:=ds) (fun d hd=>by have:=(D.t d hd).2.1;lia) hd (n:=p.1) (.inl e.symm)
 have h3:=zA wk.p (bH _) p hp
 lia
theorem yw{α:Type}[DecidableEq α]:∀{ks L:List α},ks.Nodup->(∀n∈ks,n∈L)->ks.length<=L.length
 |[],_,_,_=>bw _
 |k::ks,L,nd,h=>by
  have nd':=bz.mp nd
  have hk:=h k (aP ..)
  have:=yw (ks:=ks) (L:=L.erase k) nd'.2 fun n hn=>(eG (fun e=>nd'.1 (by rw [<- e]; exact hn))).mpr (h n (aH _ hn))
  have e:=dy hk
  have:0<L.length:=dU hk
  rw[List.length_cons]
  lia
theorem EF{ps ts:List (Int×Int)}{fs:List Int}(wk:WebOk ps ts)(two:mh ts fs)(h:ps.length<=14):ts.length<=49:=by
 have ndt:ts.Nodup:=(uA wk.t).imp fun{a b} r e=>by rw[e]at r;simp[HT.lexLt]at r
 have inj:(ts.map fun t=>(jw fs t,jz fs t)).Nodup:=cw.mpr (fc (fun{s t} hs ht ne e=>ne ?_) ndt)
 ·have e1:=(Prod.mk.inj e).1
  have e2:=(Prod.mk.inj e).2
  have l1:=(wk.ends s hs).1
  have l2:=(wk.ends t ht).1
  rcases rq (fs:=fs) s with⟨a,b⟩|⟨a,b⟩<;>rcases rq (fs:=fs) t with⟨c,d⟩|⟨c,d⟩<;>rw[a,c]at e1<;>rw[b,d]at e2
  ·exact gv e1 e2
  ·lia
  ·lia
  ·exact gv e2 e1
 let A:=(ps.map (·.1)).filter fun n=>decide (n∈fs)
 let B:=(ps.map (·.1)).filter fun n=>!decide (n∈fs)
 have hl:A.length+B.length=ps.length:=by
  have:∀l:List Int,(l.filter fun n=>decide (n∈fs)).length+(l.filter fun n=>!decide (n∈fs)).length=l.length:=fun l=>by
   induction l with
   |nil=>rfl
   |cons a r ih=>
    rw[bE,bE]
    by_cases c:a∈fs
    ·simp[c];lia
    ·simp[c];lia
  have:=this (ps.map (·.1))
  rw[ae]at this
  exact this
 have sub:=yw inj (L:=A.flatMap fun a=>B.map fun b=>(a,b)) fun q hq=>by
  obtain⟨t,ht,rfl⟩:=aE.mp hq
  obtain⟨h1,h2⟩:=oX two ht
  obtain⟨m1,m2⟩:=nJ wk fs t ht
  exact gN.mpr ⟨_,bG.mpr ⟨m1,aD h1⟩,aE.mpr ⟨_,bG.mpr ⟨m2,by simp[h2]⟩,rfl⟩⟩
 have hp:∀X Y:List Int,(X.flatMap fun a=>Y.map fun b=>(a,b)).length=X.length*Y.length:=fun X Y=>by
  induction X with
  |nil=>simp
  |cons a r ih=>rw[List.flatMap_cons,aB,ae,ih,List.length_cons,Nat.succ_mul];lia
 rw[hp,ae]at sub
 have fin:∀a,a<15->∀b,b<15->a+b<=14->a*b<=49:=by decide
 have:=fin A.length (by lia) B.length (by lia) (by lia)
 lia
theorem En{ps ts:List (Int×Int)}{fs r nr nt r' nr' nt':List Int}(wk:WebOk ps ts)(two:mh ts fs)(R:RstB ps ts fs r nr nt)(R':RstB ps ts fs r' nr' nt'):r=r'/\jo ps fs nr=jo ps fs nr'/\jo ps fs nt=jo ps fs nt':=by
 have e:r=r':=Fl.BW R.run R.end_ R'.run R'.end_
 subst e
 have F:=tG wk two R
 have F':=tG wk two R'
 have cs:∀{a b:List Int},(∀n∈ps.map (·.1),(n∈a↔n∈b))->jo ps fs a=jo ps fs b:=fun h=>by
  unfold jo
  refine gB fun n hn=>?_
  have:=h n hn
  by_cases c:n∈fs<;>simp[c,this]
 refine⟨rfl,cs fun n hn=>?_,cs fun n hn=>?_⟩
 ·rw[R.nr n,R'.nr n]
 ·have a:=(F.between F'.T).2 n hn
  have b:=(F'.between F.T).2 n hn
  constructor
  ·intro x;exact cu fun z=>b z x
  ·intro x;exact cu fun z=>a z x
theorem PairK.empty{ps:List (Int×Int)}{f:Int->Int}{col:Int->Bool}{mo fe:List Int}{ds:List (Int×Int×Int)}{S:Int}(wk:WebOk ps [])(P:PairK ps [] f col mo fe ds S):mo=[]/\fe=[]/\ds=[]:=by
 have d0:ds=[]:=List.length_eq_zero_iff.mp (Nat.le_zero.mp P.dl)
 have s0:S=0:=by have:=P.s;rw[d0]at this;simp at this;lia
 have key:∀ns:List Int,ns=(ps.map (·.1)).filter (fun n=>decide (n∈ns))->cF ps ns=S->ns=[]:=fun ns h1 h2=>by
  rw[s0]at h2
  unfold cF at h2
  have none_:∀p∈ps,p.1∉ns:=fun p hp c=>by
   have:=Fl.qh (f:=fun q:Int×Int=>q.2) (l:=ps.filter fun p=>decide (p.1∈ns)) (fun q hq=>by have:=wk.p.pos q (bG.mp hq).1;lia) p (bG.mpr ⟨hp,aD c⟩)
   have:=wk.p.pos p hp
   lia
  rw[h1]
  refine List.filter_eq_nil_iff.mpr fun n hn=>?_
  obtain⟨p,hp,rfl⟩:=aE.mp hn
  simpa using none_ p hp
 exact⟨key _ P.moF P.moC,key _ P.feF P.feC,d0⟩
theorem EH{ps ts:List (Int×Int)}(wk:WebOk ps ts):WebOk ps []:=⟨wk.pl,wk.p,bw _,trivial⟩
end
end My
namespace My
open PySem L2
section
variable{P:Program}{w:World}{K:PySem.W.Frag}{mg:Str->Option Value}{base:Heap}{c1 c2 c3 c4:Tok}{C_Net C_NoWeb fzc:Addr}{dI:FuncData}
theorem y3{H:Hp}{v:V}{ps ts:List (Int×Int)}(h:jc3 H v ps ts):Rep H (.tup [.lst (ps.map jY),.lst (ts.map jY)]) v:=by
 obtain⟨u,pa,ta,xs,ys,rfl,h1,h2,h3,h4,h5⟩:=h
 rw[Rep]
 refine⟨u,_,rfl,h1,?_⟩
 rw[Reps]
 refine⟨_,_,rfl,by rw[Rep];exact⟨pa,xs,rfl,h2,Prs.reps h4⟩,?_⟩
 rw[Reps]
 exact⟨_,_,rfl,by rw[Rep];exact⟨ta,ys,rfl,h3,Prs.reps h5⟩,by rw[Reps]⟩
theorem DV(ps ts:List (Int×Int)):jn (.tup [.lst (ps.map jY),.lst (ts.map jY)])<=20:=by
 have h1:=pI ps
 have h2:=pI ts
 rw[jn,jd,jn,jd,jn,jd]
 lia
def mB(mo fe:List Int)(ds:List (Int×Int×Int)):Dt:=.tup [.lst (mo.map Dt.int),.lst (fe.map Dt.int),.lst (ds.map lH)]
theorem qb{H:Hp}{t m1 m2 l:Addr}{us:List V}{mo fe:List Int}{ds:List (Int×Int×Int)}(e:H t=some (.tup [.ref m1,.ref m2,.ref l]))(e1:H m1=some (.lst (mo.map V.int)))(e2:H m2=some (.lst (fe.map V.int)))(e3:H l=some (.lst us))(p:j9 H us ds):Rep H (mB mo fe ds) (.ref t):=by
 unfold mB
 rw[Rep]
 refine⟨t,_,rfl,e,?_⟩
 rw[Reps]
 refine⟨_,_,rfl,by rw[Rep];exact⟨m1,_,rfl,e1,mG _⟩,?_⟩
 rw[Reps]
 refine⟨_,_,rfl,by rw[Rep];exact⟨m2,_,rfl,e2,mG _⟩,?_⟩
 rw[Reps]
 exact⟨_,_,rfl,by rw[Rep];exact⟨l,us,rfl,e3,n4 p⟩,by rw[Reps]⟩
theorem Bm(mo fe:List Int)(ds:List (Int×Int×Int)):jn (mB mo fe ds)<=20:=by
 have h1:=pC mo
 have h2:=pC fe
 have h3:=rJ ds
 unfold mB
 rw[jn,jd,jn,jd,jn,jd,jn,jd]
 lia
theorem CI(B:Blt mg)(D:DefAt K mg "law" (iw 51) ["_law_script"] f fd)(Dqs:DefAt K mg "_law_begun" (iw 42) ["_law_script","_law_k"] fqs dqs)(Gqs:FnOk P w K mg base iE 1 fqs dqs ["_law_script","_law_k"] (yK K))(Dqx:DefAt K mg "_law_two" (iw 44) ["_law_state","_law_most"] fqx dqx)(Gqx:FnOk P w K mg base iE 2 fqx dqx ["_law_state","_law_most"] wz)(Dqw:DefAt K mg "_law_turned" (iw 45) ["_law_state","_law_web"] fqw dqw)(Gqw:FnOk P w K mg base iE 2 fqw dqw ["_law_state","_law_web"] yT)(Dqk:DefAt K mg "pairing_of" (iw 40) ["web"] fqk dqk)(Gqk:FnOk P w K mg base iE 7 fqk dqk ["web"] (yO C_Net))(Dqm:DefAt K mg "_law_touches" (iw 47) ["_law_web","_law_some"] fqm dqm)(Gqm:FnOk P w K mg base iE 3 fqm dqm ["_law_web","_law_some"] yS)(Dqu:DefAt K mg "_law_paid" (iw 48) ["_law_web","_law_dues"] fqu dqu)(Gqu:FnOk P w K mg base iE 3 fqu dqu ["_law_web","_law_dues"] yN)(Dqt:DefAt K mg "_law_between" (iw 50) ["_law_web","_law_most","_law_fewest"] fqt dqt)(Gqt:FnOk P w K mg base iE 2 fqt dqt ["_law_web","_law_most","_law_fewest"] xQ):FnOk P w K mg base iE 9 f fd ["_law_script"] (qu K):=by
 have sc:FnScope ["_law_script","_law_k","_law_state","_law_web","_law_handed","_law_found","_law_some","_law_cost","_law_kept"] ["_law_script"] (iU (iw 51)):=by walk_at "SC"
 refine D.F.ok sc (fun vs H Q E h=>?_) (fun cdv A outer s H vs Q E hr h=>?_)
 ·obtain⟨a,ns,rfl,_⟩:=h
  rfl
 obtain⟨a,ns,rfl,hs,h⟩:=h
 have hu:=i8 hr
 have hu0:_<PySem.cLine:=aF hu
 refine⟨_,(iu (jR aZ rfl (rH rfl B.range (ig (jg (wO rfl) rfl B.max PyProof.Rows.boot_max (ig ip (ig (jg (Ce rfl) rfl B.min fN (ig (jg vc rfl B.len bQ (ig (qv 0) ik)) (ig ip ik))) ik))) ik)) (iJ (i:=1) sc.nd rfl (Or.inl rfl)) (iu (iF (i:=2) sc.nd rfl (Or.inl rfl) (iN Gqs (hr.mono (by decide)) rfl Dqs.m Dqs.F.kp Dqs.b .nil iI (ig (qv 0) (ig (qv 1) ik)))) (iu (iF (i:=3) sc.nd rfl (Or.inl rfl) (iN Gqw (hr.mono (by decide)) rfl Dqw.m Dqw.F.kp Dqw.b .nil iI (ig (qv 2) (ig (iN Gqx (hr.mono (by decide)) rfl Dqx.m Dqx.F.kp Dqx.b .nil iI (ig (qv 2) (ig ip ik))) ik)))) (iu (iF (i:=4) sc.nd rfl (Or.inl rfl) (j0 (ig (kY pG rfl B.list bU (ig (iz iA (qv 3) ip (fun _ _=>rfl)) ik)) (ig (kY pG rfl B.list bU (ig (iz iA (qv 3) ip (fun _ _=>rfl)) ik)) ik)))) (iu (iF (i:=5) sc.nd rfl (Or.inl rfl) (iN Gqk (hr.mono (by decide)) rfl Dqk.m Dqk.F.kp Dqk.b .nil iI (ig (qv 4) ik))) (iu (je (PW.pt (lq (kl (ke (jg (lF .tup) rfl B.isinstance bx (ig (qv 5) (ig (lL (v:=.ty "tuple") rfl B.tuple fj rfl) ik))))) (lq (iS nH (jg kW rfl B.len bQ (ig (qv 5) ik)) ip (iQ _)) (mD (iS (lK hr.units) (qv 4) (qv 3) (iQ _)))))) (iB (iP ku)) jf) (iu (je (PW.pt (lq (kl (ke (iN Gqm (hr.mono (by decide)) rfl Dqm.m Dqm.F.kp Dqm.b .nil iI (ig (qv 3) (ig (iz iA (qv 5) ip (fun _ _=>rfl)) ik))))) (mD (kl (ke (iN Gqm (hr.mono (by decide)) rfl Dqm.m Dqm.F.kp Dqm.b .nil iI (ig (qv 3) (ig (iz iA (qv 5) ip (fun _ _=>rfl)) ik)))))))) (iB (iP ku)) jf) (iu (jR aZ rfl (xK (nX tm (qv 5) nR (nT ip))) (iJ (i:=6) sc.nd rfl (Or.inr rfl)) (iu (iF (i:=7) sc.nd rfl (Or.inl rfl) (jg (qt rfl) rfl B.sum dY (ig (jW (CpScope.of (N:=["_law_place","_law_price","_law_some"]) (src:=[none,none,some 6]) (by rfl)) rfl (jx (iz iA (qv 3) ip (fun _ _=>rfl))) (fun _ _ _ _=>(j5 (n:=2) rfl (jb (iJ (i:=0) (jc (l:=["_law_place","_law_price","_law_some"]) (by rfl)) rfl (Or.inl rfl)) (jb (iJ (i:=1) (jc (l:=["_law_place","_law_price","_law_some"]) (by rfl)) rfl (Or.inl rfl)) j6)))) (fun _ _ _ _=>(km (iS qp (qv 0) (qv 2) (by with_unfolding_all rfl)))) (fun _ _ _ _=>(qv 1))) ik))) (iB (je (iS nH (iN Gqu (hr.mono (by decide)) rfl Dqu.m Dqu.F.kp Dqu.b .nil iI (ig (qv 3) (ig (iz iA (qv 5) ip (fun _ _=>rfl)) ik))) (iO lY ip (qv 7)) (iQ _)) (iB (iP ku)) jf)))) (iu (je (kl (ke (iN Gqt (hr.mono (by decide)) rfl Dqt.m Dqt.F.kp Dqt.b .nil iI (ig (qv 3) (ig (iz iA (qv 5) ip (fun _ _=>rfl)) (ig (iz iA (qv 5) ip (fun _ _=>rfl)) ik)))))) (iB (iP ku)) jf) (iu (iF (i:=8) sc.nd rfl (Or.inl rfl) (j0 (ig (kY pG rfl B.list bU (ig (iz iA (qv 5) ip (fun _ _=>rfl)) ik)) (ig (kY pG rfl B.list bU (ig (iz iA (qv 5) ip (fun _ _=>rfl)) ik)) (ig (kY pG rfl B.list bU (ig (iz iA (qv 5) ip (fun _ _=>rfl)) ik)) ik))))) (iu (jK (ka aQ bg bf kf (iz iA (qv 5) ip (fun _ _=>rfl)) (ig kN ik))) (iu (je (PW.pt (lq (iS (lK hr.units) (iz iA (qv 5) ip (fun _ _=>rfl)) (iz iA (qv 8) ip (fun _ _=>rfl)) (iQ _)) (mD (iS (lK hr.units) (iz iA (qv 5) ip (fun _ _=>rfl)) (iz iA (qv 8) ip (fun _ _=>rfl)) (iQ _))))) (iB (iP ku)) jf) (iu (jK (qm aQ PySem.F.slot_list_clear PySem.F.type_list_clear yF (iz iA (qv 5) ip (fun _ _=>rfl)))) (iu (jK (ka aQ bg bf kf (iz iA (qv 5) ip (fun _ _=>rfl)) (ig kN ik))) (iu (jK (qm aQ PySem.F.slot_list_clear PySem.F.type_list_clear yF (iz iA (qv 4) ip (fun _ _=>rfl)))) (iu (je (iS (lK hr.units) (iN Gqk (hr.mono (by decide)) rfl Dqk.m Dqk.F.kp Dqk.b .nil iI (ig (qv 4) ik)) (j0 (ig (jJ ik) (ig (jJ ik) (ig (jJ ik) ik)))) (iQ _)) (iB (iP ku)) jf) (iB (je (iS (lK hr.units) (iN Gqk (hr.mono (by decide)) rfl Dqk.m Dqk.F.kp Dqk.b .nil iI (ig (qv 3) ik)) (qv 8) (iQ _)) (iB (iP ku)) jf)))))))))))))))))) (iB (iP ku))),?_⟩
 refine iG fun R hR=>?_
 obtain⟨N,hN,hN2⟩:∃N:Nat,N=(if(1:Int)<(if(8:Int)<(ns.length:Int)then 8 else(ns.length:Int))then(if(8:Int)<(ns.length:Int)then 8 else(ns.length:Int))else 1).toNat/\N<70:=⟨_,rfl,by split<;>split<;>lia⟩
 refine j7 (kZ 0 N) H (fun R' hR'=>?_) (rF (n:=N) (fun i σ H1=>∃v1 v2 v3 v4 v5 v6 v7 v8,σ=[some (.ref a),v1,v2,v3,v4,v5,v6,v7,v8]/\Scr K H1 a ns) ⟨none,none,none,none,none,none,none,none,rfl,hs⟩ ?_ ?_)
 ·unfold oJ
  walk_at "D"
  refine⟨a,_,rfl,.inl hs.sq,?_⟩
  simp_arith[ae]
  refine⟨_,rfl,?_,?_,?_⟩
  ·split<;>split<;>lia
  ·split<;>split<;>lia
  ·rw [<- hN]
   exact hR'
 ·rintro i σ H1 hi ⟨v1,v2,v3,v4,v5,v6,v7,v8,rfl,hs1⟩
  simp only[kG,List.set_cons_zero,List.set_cons_succ]
  refine iG fun R9 hR9=>?_
  walk_at "D"
  refine⟨a,0+(i:Int),ns,rfl,hs1,by lia,by lia,fun st o hst so=>?_⟩
  have s2:=iy hst o
  have e2:upd H1 st o st=some o:=ij
  have hs2:=hs1.tups s2.tups
  generalize upd H1 st o=H2 at s2 e2 hs2
  subst hR9
  refine iG fun R9 hR9=>?_
  walk_at "D"
  refine⟨st,o,14,rfl,e2,so,by decide,by decide,fun v2 H3 o3 ps2 ts col b3 e3 so3 W3 wk2 tco h14 dr=>?_⟩
  walk_at "D"
  refine⟨st,o3,v2,ps2,ts,rfl,e3,so3,W3,wk2,dr,by lia,fun v H4 o4 ps b4 e4 so4 W wk hpl=>?_⟩
  have hs4:=hs2.tups ((b3.tups e2 so.imm).trans (b4.tups e3 so3.imm))
  have hen:=wk.ends
  obtain⟨fl,lab⟩:=xC ts hen
  have hcol:=tco.col fun t ht=>(hen t ht).1
  have hnd:=wk.p.nodup
  have hp14:ps.length<=14:=by lia
  clear hs1 hs2 b3 b4 e2 e3 e4 s2 so so3 so4 hst tco W3 wk2 dr h14 hpl
  obtain⟨u,pa,ta,xs,ys,rfl,eu,epa,eta,hxs,hys⟩:=id W
  have hxl:=aO hxs
  have two:=xZ wk lab hcol
  have htl:=EF wk two hp14
  subst hR9
  refine iG fun R9 hR9=>?_
  simp_arith[iD,eu,epa,eta,i3,jh]
  intro la hla
  have q1:=iy hla (.lst xs)
  have ela:upd H4 la (.lst xs) la=some (.lst xs):=ij
  generalize upd H4 la (.lst xs)=H5 at q1 ela
  simp_arith[iD,q1 _ _ eu,q1 _ _ eta,i3,jh]
  intro lb hlb
  have q2:=iy hlb (.lst ys)
  have elb:upd H5 lb (.lst ys) lb=some (.lst ys):=ij
  have nab:la≠lb:=iC ela hlb
  have ela2:=q2 _ _ ela
  have flb:H4 lb=none:=q1.free hlb
  generalize upd H5 lb (.lst ys)=H6 at q2 elb ela2
  intro th hth
  have q3:=iy hth (.tup [.ref la,.ref lb])
  have eth:upd H6 th (.tup [.ref la,.ref lb]) th=some (.tup [.ref la,.ref lb]):=ij
  have ela3:=q3 _ _ ela2
  have elb3:=q3 _ _ elb
  have s7:=(q1.trans q2).trans q3
  generalize upd H6 th (.tup [.ref la,.ref lb])=H7 at q3 eth ela3 elb3 s7
  have hx7:=Prs.same s7 hxs
  have hy7:=Prs.same s7 hys
  have Wh:jc3 H7 (.ref th) ps ts:=⟨th,la,lb,xs,ys,rfl,eth,ela3,elb3,hx7,hy7⟩
  clear q1 q2 q3 ela ela2 elb hlb hth
  subst hR9
  refine iG fun R9 hR9=>?_
  walk_at "D"
  refine⟨.ref th,ps,ts,fl,col,rfl,Wh,wk,lab,hcol,fun t m1 m2 l us r nr nt H8 s8 n0 n1 n2 n3 n12 n13 n23 et em1 em2 el pu rst=>?_⟩
  have PK:=yz wk two (fun n hn=>qV hn) rst
  have RST:=rst
  have hs8:=hs4.tups (s7.trans s8).tups
  have Wh8:=Wh.same s8
  have W8:=W.same (s7.trans s8)
  have hu8:=pu
  generalize hmo:jo ps (jV fl col (ps.map (·.1)) 0) nr=mo at PK em1
  generalize hfe:jo ps (jV fl col (ps.map (·.1)) 0) nt=fe at PK em2
  generalize hds:kP (jq false r) ps.length ts ts.length=ds at PK pu hu8
  generalize mW (jB ps ts r)=S at PK
  have moL:mo.length<=14:=by
   rw[PK.moF]
   refine bo (bu _ _) ?_
   rw[ae];exact hp14
  have feL:fe.length<=14:=by
   rw[PK.feF]
   refine bo (bu _ _) ?_
   rw[ae];exact hp14
  have moI:∀n∈mo,n∈ps.map (·.1):=fun n hn=>by rw[PK.moF]at hn;exact(bG.mp hn).1
  have feI:∀n∈fe,n∈ps.map (·.1):=fun n hn=>by rw[PK.feF]at hn;exact(bG.mp hn).1
  have dsL:ds.length<=60:=by have:=PK.dl;lia
  have hkd:=xB et
  subst hR9
  refine iG fun R9 hR9=>?_
  simp_arith[hkd,lO,iD,et]
  refine⟨_,_,y3 Wh8,y3 W8,DV ps ts,.inr ⟨_,_,rfl,rfl⟩,?_⟩
  rw[kn]
  walk_at "D"
  subst hR9
  refine iG fun R9 hR9=>?_
  simp_arith[iD,et,i3,jh]
  refine⟨.ref u,ps,ts,m1,mo,rfl,W8,wk,em1,PK.moF,PK.moT,fun H9 s9=>?_⟩
  simp_arith[iD,s9 _ _ et,i3,jh]
  refine⟨.ref u,ps,ts,m2,fe,rfl,W8.same s9,wk,s9 _ _ em2,PK.feF,PK.feT,fun HA sA=>?_⟩
  walk_at "D"
  have s8A:=s9.trans sA
  have etA:=s8A _ _ et
  have em1A:=s8A _ _ em1
  have em2A:=s8A _ _ em2
  have elA:=s8A _ _ el
  have puA:=jk s8A.tups hu8
  have WA:=W8.same s8A
  have WhA:=Wh8.same s8A
  have hsA:=hs8.tups s8A.tups
  have ela8:=s8 _ _ ela3
  have elb8:=s8 _ _ elb3
  have elaA:=s8A _ _ ela8
  have elbA:=s8A _ _ elb8
  have ethA:=s8A _ _ (s8 _ _ eth)
  have s7A:=s8.trans s8A
  have s4A:=s7.trans s7A
  have sml:=EV wk PK.du
  have na1:la≠m1:=iC ela3 n1
  have na2:la≠m2:=iC ela3 n2
  have na3:la≠l:=iC ela3 n3
  have nb1:lb≠m1:=iC elb3 n1
  have nb2:lb≠m2:=iC elb3 n2
  have nb3:lb≠l:=iC elb3 n3
  have f1:H4 m1=none:=s7.free n1
  have f2:H4 m2=none:=s7.free n2
  have f3:H4 l=none:=s7.free n3
  clear Wh Wh8 W8 hs8 hs4 s9 sA s8A hu8 pu hkd et em1 em2 el ela3 elb3 ela8 elb8 eth hx7 hy7
  subst hR9
  refine iG fun R9 hR9=>?_
  refine tFor_hideI (ι:=Addr×Hp) (fun y=>nC K y.1) (fun y=>y.2) (fun y=>HA y.1=none/\y.2=upd HA y.1 (.tup [.ref m1,.ref m2])) (fun R' hR'=>?_) ?_
  ·unfold vi
   simp_arith[iD,etA]
   refine⟨Bn (.ref m1) (.ref m2) (.ref l),fun p hp=>?_⟩
   rw[vF]
   exact⟨p,rfl,⟨_,SqT.of ij⟩,hR' (p,_) ⟨hp,rfl⟩⟩
  rintro⟨p,HB⟩ ⟨hp,eB⟩
  dsimp only at hp eB
  have sB:Same HA HB:=by rw[eB];exact iy hp _
  have epB:HB p=some (.tup [.ref m1,.ref m2]):=by rw[eB];exact ij
  refine Dg (K:=K) (a:=p) (xs:=[.ref m1,.ref m2]) (fun j σ Hc=>∃w6 w7,σ=[some (.ref a),some (.int (0+(i:Int))),some (.ref st),some (.ref u),some (.ref th),some (.ref t),w6,w7,v8]/\Same HB Hc) ⟨_,_,rfl,fun _ _ q=>q⟩ (fun j σ Hc _ ⟨_,_,_,s⟩=>SqT.of (s _ _ epB)) ?_ ?_
  ·rintro j x σ Hc hx ⟨w6,w7,rfl,sC⟩
   obtain⟨mm,nl,rfl,emm,hC,hnl⟩:∃(mm:Addr) (nl:List Int),x= .ref mm/\HA mm=some (.lst (nl.map V.int))/\cF ps nl=S/\nl.length<=14:=by
    have hj:j<2:=(ah.mp hx).1
    have:j=0\/j=1:=by lia
    rcases this with rfl|rfl
    ·cases hx;exact⟨m1,mo,rfl,em1A,PK.moC,moL⟩
    ·cases hx;exact⟨m2,fe,rfl,em2A,PK.feC,feL⟩
   have sAC:=sB.trans sC
   have s4C:=s4A.trans sAC
   simp only[kG,List.set_cons_zero,List.set_cons_succ]
   refine iG fun R8 hR8=>?_
   walk_at "D"
   refine jS (ji K pa) Hc (fun R2 hR2=>?_) (fun z hz0=>jP ps.length (fun j σ' Hd=>∃w1 w2,σ'=[w1,w2,some (.ref mm)]/\Same Hc Hd/\Hd z=some (.lst ((((ps.take j).filter fun p=>decide (p.1∈nl)).map (·.2)).map V.int))) ⟨none,none,rfl,iy hz0 _,ij⟩ ?_ ?_)
   ·unfold jt
    simp_arith[iD,s4C _ _ eu,i3]
    exact⟨pa,rfl,⟨_,SqL.of (s4C _ _ epa)⟩,hR2⟩
   ·rintro k σ' Hd hk ⟨w1,w2,rfl,s7',ez⟩
    have sD:=s4C.trans s7'
    have x1:ps[k]? =some ps[k]:=gE hk
    generalize ps[k]=q at x1
    obtain⟨y,hy,py⟩:=lN hxs x1
    obtain⟨b,rfl,hb⟩:=py.same sD
    have z1:SqL K Hd pa xs:=SqL.of (sD _ _ epa)
    refine⟨⟨_,_,z1,hy⟩,?_⟩
    rintro y H' ⟨rfl,hy'⟩
    have:=hy' _ z1
    rw[hy]at this
    cases this
    simp_arith[iD,hb,s7' _ _ (sAC _ _ emm),nV,n5,j3]
    have hfl:((ps.take k).filter fun p=>decide (p.1∈nl)).length<=40:=by
     refine bo (bu _ _) ?_
     rw[aS]
     lia
    rw[jy x1,cU]
    by_cases c:q.1∈nl
    ·rw[az (by first|exact aD c|exact c)]
     refine⟨_,ez,by rw[ae,ae];exact iW (by lia),_,_,rfl,i4 s7' hz0,?_⟩
     rw[ij,ao,bE,az (aD c),ao]
     rfl
    ·rw[ay (by first|(simpa using c)|exact c)]
     refine⟨_,_,rfl,s7',?_⟩
     rw[ez,bE,ay (by simpa using c),List.filter_nil,bq]
   rintro σ' HD ⟨w1,w2,rfl,sD,ez⟩
   have s4D:=s4C.trans sD
   have sAD:=sAC.trans sD
   refine⟨⟨_,SqL.of (s4D _ _ epa),by lia⟩,?_⟩
   rw[aR]at ez
   refine⟨z,_,rfl,ez,?_⟩
   rw[show((ps.filter fun p=>decide (p.1∈nl)).map (·.2)).sum=S from hC]
   subst hR8
   simp_arith[iD,sAD _ _ etA,kR]
   refine⟨.ref u,ps,ts,l,us,ds,rfl,WA.same sAD,wk,sAD _ _ elA,jk sAD.tups puA,PK.du,dsL,sml,fun HE sE=>?_⟩
   rw[PK.s]
   walk_at "D"
   refine⟨mL (by decide) (by decide),?_⟩
   walk_at "D"
   try rw[ay (by decide)]
   exact⟨_,_,rfl,(sC.trans sD).trans sE⟩
  rintro σ HC ⟨w6,w7,rfl,sC⟩
  have sAC:=sB.trans sC
  clear eB epB sB sC hp
  refine(?_:R9 _ _ _)
  subst hR9
  refine iG fun R9 hR9=>?_
  simp_arith[iD,sAC _ _ etA,i3,jh]
  refine⟨.ref u,ps,ts,fl,col,m1,m2,mo,fe,rfl,WA.same sAC,wk,lab,hcol,sAC _ _ em1A,sAC _ _ em2A,moI,feI,by lia,by lia,PK.b1,PK.b2,fun HD sD=>?_⟩
  walk_at "D"
  have sAD:=sAC.trans sD
  have etD:=sAD _ _ etA
  have em1D:=sAD _ _ em1A
  have em2D:=sAD _ _ em2A
  have elD:=sAD _ _ elA
  have puD:=jk sAD.tups puA
  have s4D:=s4A.trans sAD
  have hsD:=hsA.tups sAD.tups
  have elaD:=sAD _ _ elaA
  have elbD:=sAD _ _ elbA
  have ethD:=sAD _ _ ethA
  have s7D:=s7A.trans sAD
  clear sAC sD sAD etA em1A em2A elA puA WA WhA hsA elaA elbA ethA s4A s7A s7D
  subst hR9
  refine iG fun R9 hR9=>?_
  simp_arith[iD,etD,em1D,em2D,elD,i3,jh,kR]
  intro k1 hk1
  have n_m1_k1:m1≠k1:=iC em1D hk1
  have n_m2_k1:m2≠k1:=iC em2D hk1
  have n_l_k1:l≠k1:=iC elD hk1
  have n_lb_k1:lb≠k1:=iC elbD hk1
  have q_k1:=iy hk1 (.lst (mo.map V.int))
  have e_k1:upd HD k1 (.lst (mo.map V.int)) k1=some (.lst (mo.map V.int)):=ij
  replace etD:=q_k1 _ _ etD
  replace em1D:=q_k1 _ _ em1D
  replace em2D:=q_k1 _ _ em2D
  replace elD:=q_k1 _ _ elD
  replace puD:=jk q_k1.tups puD
  replace elaD:=q_k1 _ _ elaD
  replace elbD:=q_k1 _ _ elbD
  replace ethD:=q_k1 _ _ ethD
  replace s4D:=s4D.trans q_k1
  replace hsD:=hsD.tups q_k1.tups
  generalize upd HD k1 (.lst (mo.map V.int))=HE at q_k1 e_k1 etD em1D em2D elD puD elaD elbD ethD s4D hsD
  simp_arith[iD,etD,em2D,jh]
  intro k2 hk2
  have n_m1_k2:m1≠k2:=iC em1D hk2
  have n_m2_k2:m2≠k2:=iC em2D hk2
  have n_l_k2:l≠k2:=iC elD hk2
  have n_lb_k2:lb≠k2:=iC elbD hk2
  have q_k2:=iy hk2 (.lst (fe.map V.int))
  have e_k2:upd HE k2 (.lst (fe.map V.int)) k2=some (.lst (fe.map V.int)):=ij
  replace etD:=q_k2 _ _ etD
  replace em1D:=q_k2 _ _ em1D
  replace em2D:=q_k2 _ _ em2D
  replace elD:=q_k2 _ _ elD
  replace puD:=jk q_k2.tups puD
  replace elaD:=q_k2 _ _ elaD
  replace elbD:=q_k2 _ _ elbD
  replace ethD:=q_k2 _ _ ethD
  replace s4D:=s4D.trans q_k2
  replace hsD:=hsD.tups q_k2.tups
  replace e_k1:=q_k2 _ _ e_k1
  generalize upd HE k2 (.lst (fe.map V.int))=HF at q_k2 e_k2 etD em1D em2D elD puD elaD elbD ethD s4D hsD e_k1
  simp_arith[iD,etD,elD,kR]
  intro k3 hk3
  have n_m1_k3:m1≠k3:=iC em1D hk3
  have n_m2_k3:m2≠k3:=iC em2D hk3
  have n_l_k3:l≠k3:=iC elD hk3
  have n_lb_k3:lb≠k3:=iC elbD hk3
  have q_k3:=iy hk3 (.lst us)
  have e_k3:upd HF k3 (.lst us) k3=some (.lst us):=ij
  replace etD:=q_k3 _ _ etD
  replace em1D:=q_k3 _ _ em1D
  replace em2D:=q_k3 _ _ em2D
  replace elD:=q_k3 _ _ elD
  replace puD:=jk q_k3.tups puD
  replace elaD:=q_k3 _ _ elaD
  replace elbD:=q_k3 _ _ elbD
  replace ethD:=q_k3 _ _ ethD
  replace s4D:=s4D.trans q_k3
  replace hsD:=hsD.tups q_k3.tups
  replace e_k1:=q_k3 _ _ e_k1
  replace e_k2:=q_k3 _ _ e_k2
  generalize upd HF k3 (.lst us)=HG at q_k3 e_k3 etD em1D em2D elD puD elaD elbD ethD s4D hsD e_k1 e_k2
  intro kt hkt
  have q_kt:=iy hkt (.tup [.ref k1,.ref k2,.ref k3])
  have e_kt:upd HG kt (.tup [.ref k1,.ref k2,.ref k3]) kt=some (.tup [.ref k1,.ref k2,.ref k3]):=ij
  replace etD:=q_kt _ _ etD
  replace em1D:=q_kt _ _ em1D
  replace em2D:=q_kt _ _ em2D
  replace elD:=q_kt _ _ elD
  replace puD:=jk q_kt.tups puD
  replace elaD:=q_kt _ _ elaD
  replace elbD:=q_kt _ _ elbD
  replace ethD:=q_kt _ _ ethD
  replace s4D:=s4D.trans q_kt
  replace hsD:=hsD.tups q_kt.tups
  replace e_k1:=q_kt _ _ e_k1
  replace e_k2:=q_kt _ _ e_k2
  replace e_k3:=q_kt _ _ e_k3
  generalize upd HG kt (.tup [.ref k1,.ref k2,.ref k3])=HI at q_kt e_kt etD em1D em2D elD puD elaD elbD ethD s4D hsD e_k1 e_k2 e_k3
  clear q_k1 q_k2 q_k3 q_kt hk1 hk2 hk3 hkt
  subst hR9
  refine iG fun R9 hR9=>?_
  simp_arith[iD,etD,i3]
  refine⟨⟨m1,_,rfl,em1D⟩,?_⟩
  simp_arith[em1D]
  refine⟨by rw[ae];exact iW (by lia),?_⟩
  have tp:=kI (ys:=mo.map V.int++[.non]) em1D
  replace etD:=tp _ _ rfl etD
  replace ethD:=tp _ _ rfl ethD
  replace e_kt:=tp _ _ rfl e_kt
  replace puD:=jk tp puD
  replace hsD:=hsD.tups tp
  replace em2D:upd HI m1 (.lst (mo.map V.int++[.non])) m2=some (.lst (fe.map V.int)):=by rw[ir n12.symm];exact em2D
  replace elD:upd HI m1 (.lst (mo.map V.int++[.non])) l=some (.lst us):=by rw[ir n13.symm];exact elD
  replace elaD:upd HI m1 (.lst (mo.map V.int++[.non])) la=some (.lst xs):=by rw[ir na1];exact elaD
  replace elbD:upd HI m1 (.lst (mo.map V.int++[.non])) lb=some (.lst ys):=by rw[ir nb1];exact elbD
  replace e_k1:upd HI m1 (.lst (mo.map V.int++[.non])) k1=some (.lst (mo.map V.int)):=by rw[ir n_m1_k1.symm];exact e_k1
  replace e_k2:upd HI m1 (.lst (mo.map V.int++[.non])) k2=some (.lst (fe.map V.int)):=by rw[ir n_m1_k2.symm];exact e_k2
  replace e_k3:upd HI m1 (.lst (mo.map V.int++[.non])) k3=some (.lst us):=by rw[ir n_m1_k3.symm];exact e_k3
  replace s4D:=i4 s4D f1 (o:=.lst (mo.map V.int++[.non]))
  have eU:upd HI m1 (.lst (mo.map V.int++[.non])) m1=some (.lst (mo.map V.int++[.non])):=ij
  generalize upd HI m1 (.lst (mo.map V.int++[.non]))=HJ at etD ethD e_kt puD hsD s4D eU em2D elD elaD elbD e_k1 e_k2 e_k3
  clear tp
  subst hR9
  refine iG fun R9 hR9=>?_
  simp_arith[iD,etD,e_kt,jh,kR]
  refine⟨.lst (fe.map Dt.int),.lst (fe.map Dt.int),(by rw[Rep];exact⟨m2,_,rfl,em2D,mG _⟩),(by rw[Rep];exact⟨k2,_,rfl,e_k2,mG _⟩),(by rw[jn];have:=pC fe;lia),.inl ⟨_,_,rfl,rfl⟩,?_⟩
  rw[kn]
  simp_arith[iD,etD,e_kt,kR]
  refine⟨.lst (ds.map lH),.lst (ds.map lH),(by rw[Rep];exact⟨l,us,rfl,elD,n4 puD⟩),(by rw[Rep];exact⟨k3,us,rfl,e_k3,n4 puD⟩),(by rw[jn];have:=rJ ds;lia),.inl ⟨_,_,rfl,rfl⟩,?_⟩
  rw[kn]
  walk_at "D"
  clear eU em1D
  subst hR9
  refine iG fun R9 hR9=>?_
  simp_arith[iD,etD,em2D,jh]
  refine⟨⟨m2,_,rfl,em2D⟩,?_⟩
  simp_arith[em2D]
  have tp:=kI (ys:=([]:List V)) em2D
  replace etD:=tp _ _ rfl etD
  replace ethD:=tp _ _ rfl ethD
  replace e_kt:=tp _ _ rfl e_kt
  replace puD:=jk tp puD
  replace hsD:=hsD.tups tp
  replace elD:upd HJ m2 (.lst (([]:List V))) l=some (.lst us):=by rw[ir n23.symm];exact elD
  replace elaD:upd HJ m2 (.lst (([]:List V))) la=some (.lst xs):=by rw[ir na2];exact elaD
  replace elbD:upd HJ m2 (.lst (([]:List V))) lb=some (.lst ys):=by rw[ir nb2];exact elbD
  replace e_k1:upd HJ m2 (.lst (([]:List V))) k1=some (.lst (mo.map V.int)):=by rw[ir n_m2_k1.symm];exact e_k1
  replace e_k2:upd HJ m2 (.lst (([]:List V))) k2=some (.lst (fe.map V.int)):=by rw[ir n_m2_k2.symm];exact e_k2
  replace e_k3:upd HJ m2 (.lst (([]:List V))) k3=some (.lst us):=by rw[ir n_m2_k3.symm];exact e_k3
  replace s4D:=i4 s4D f2 (o:=.lst (([]:List V)))
  have eU:upd HJ m2 (.lst (([]:List V))) m2=some (.lst (([]:List V))):=ij
  generalize upd HJ m2 (.lst (([]:List V)))=HK at etD ethD e_kt puD hsD s4D eU elD elaD elbD e_k1 e_k2 e_k3
  clear tp
  clear eU em2D
  subst hR9
  refine iG fun R9 hR9=>?_
  simp_arith[iD,etD,kR]
  refine⟨⟨l,_,rfl,elD⟩,?_⟩
  simp_arith[elD]
  refine⟨iW (by rw[aO puD];lia),?_⟩
  have tp:=kI (ys:=us++[.non]) elD
  replace etD:=tp _ _ rfl etD
  replace ethD:=tp _ _ rfl ethD
  replace e_kt:=tp _ _ rfl e_kt
  replace puD:=jk tp puD
  replace hsD:=hsD.tups tp
  replace elaD:upd HK l (.lst (us++[.non])) la=some (.lst xs):=by rw[ir na3];exact elaD
  replace elbD:upd HK l (.lst (us++[.non])) lb=some (.lst ys):=by rw[ir nb3];exact elbD
  replace e_k1:upd HK l (.lst (us++[.non])) k1=some (.lst (mo.map V.int)):=by rw[ir n_l_k1.symm];exact e_k1
  replace e_k2:upd HK l (.lst (us++[.non])) k2=some (.lst (fe.map V.int)):=by rw[ir n_l_k2.symm];exact e_k2
  replace e_k3:upd HK l (.lst (us++[.non])) k3=some (.lst us):=by rw[ir n_l_k3.symm];exact e_k3
  replace s4D:=i4 s4D f3 (o:=.lst (us++[.non]))
  have eU:upd HK l (.lst (us++[.non])) l=some (.lst (us++[.non])):=ij
  generalize upd HK l (.lst (us++[.non]))=HL at etD ethD e_kt puD hsD s4D eU elaD elbD e_k1 e_k2 e_k3
  clear tp
  clear eU elD
  subst hR9
  refine iG fun R9 hR9=>?_
  simp_arith[iD,ethD,elbD,jh]
  refine⟨⟨lb,_,rfl,elbD⟩,?_⟩
  simp_arith[elbD]
  have tp:=kI (ys:=([]:List V)) elbD
  replace etD:=tp _ _ rfl etD
  replace ethD:=tp _ _ rfl ethD
  replace e_kt:=tp _ _ rfl e_kt
  replace puD:=jk tp puD
  replace hsD:=hsD.tups tp
  replace elaD:upd HL lb (.lst (([]:List V))) la=some (.lst xs):=by rw[ir nab];exact elaD
  replace e_k1:upd HL lb (.lst (([]:List V))) k1=some (.lst (mo.map V.int)):=by rw[ir n_lb_k1.symm];exact e_k1
  replace e_k2:upd HL lb (.lst (([]:List V))) k2=some (.lst (fe.map V.int)):=by rw[ir n_lb_k2.symm];exact e_k2
  replace e_k3:upd HL lb (.lst (([]:List V))) k3=some (.lst us):=by rw[ir n_lb_k3.symm];exact e_k3
  replace s4D:=i4 s4D flb (o:=.lst (([]:List V)))
  have eU:upd HL lb (.lst (([]:List V))) lb=some (.lst (([]:List V))):=ij
  generalize upd HL lb (.lst (([]:List V)))=HM at etD ethD e_kt puD hsD s4D eU elaD e_k1 e_k2 e_k3
  clear tp
  clear elbD
  subst hR9
  refine iG fun R9 hR9=>?_
  have wk0:=EH wk
  obtain⟨f0,lab0⟩:=xC [] wk0.ends
  have col0:lS [] col:=fun m n h=>by simp[iV]at h
  have W0:jc3 HM (.ref th) ps []:=⟨th,la,lb,xs,[],rfl,ethD,elaD,eU,Prs.same s4D hxs,.nil⟩
  walk_at "D"
  refine⟨.ref th,ps,[],f0,col,rfl,W0,wk0,lab0,col0,fun t9 a1 a2 a3 us9 r9 nr9 nt9 HN sN b0 b1 b2 b3 b12 b13 b23 c0 c1 c2 c3 pu9 rst9=>?_⟩
  have P9:=yz wk0 (xZ wk0 lab0 col0) (fun n hn=>qV hn) rst9
  obtain⟨z1,z2,z3⟩:=P9.empty wk0
  rw[z1]at c1
  rw[z2]at c2
  rw[z3]at pu9
  clear P9 z1 z2 z3 rst9 W0 eU b0 b1 b2 b3 b12 b13 b23 lab0 elaD ethD etD
  replace s4D:=s4D.trans sN
  replace hsD:=hsD.tups sN.tups
  replace e_k1:=sN _ _ e_k1
  replace e_k2:=sN _ _ e_k2
  replace e_k3:=sN _ _ e_k3
  replace e_kt:=sN _ _ e_kt
  replace puD:=jk sN.tups puD
  clear sN
  intro x1 hx1
  have q_x1:=iy hx1 (.lst ([]:List V))
  have e_x1:upd HN x1 (.lst ([]:List V)) x1=some (.lst ([]:List V)):=ij
  replace c0:=q_x1 _ _ c0
  replace c1:=q_x1 _ _ c1
  replace c2:=q_x1 _ _ c2
  replace c3:=q_x1 _ _ c3
  replace pu9:=jk q_x1.tups pu9
  replace s4D:=s4D.trans q_x1
  replace hsD:=hsD.tups q_x1.tups
  replace e_k1:=q_x1 _ _ e_k1
  replace e_k2:=q_x1 _ _ e_k2
  replace e_k3:=q_x1 _ _ e_k3
  replace e_kt:=q_x1 _ _ e_kt
  replace puD:=jk q_x1.tups puD
  generalize upd HN x1 (.lst ([]:List V))=HO at q_x1 e_x1 c0 c1 c2 c3 pu9 s4D hsD e_k1 e_k2 e_k3 e_kt puD
  intro x2 hx2
  have q_x2:=iy hx2 (.lst ([]:List V))
  have e_x2:upd HO x2 (.lst ([]:List V)) x2=some (.lst ([]:List V)):=ij
  replace c0:=q_x2 _ _ c0
  replace c1:=q_x2 _ _ c1
  replace c2:=q_x2 _ _ c2
  replace c3:=q_x2 _ _ c3
  replace pu9:=jk q_x2.tups pu9
  replace s4D:=s4D.trans q_x2
  replace hsD:=hsD.tups q_x2.tups
  replace e_k1:=q_x2 _ _ e_k1
  replace e_k2:=q_x2 _ _ e_k2
  replace e_k3:=q_x2 _ _ e_k3
  replace e_kt:=q_x2 _ _ e_kt
  replace puD:=jk q_x2.tups puD
  replace e_x1:=q_x2 _ _ e_x1
  generalize upd HO x2 (.lst ([]:List V))=HP at q_x2 e_x2 c0 c1 c2 c3 pu9 s4D hsD e_k1 e_k2 e_k3 e_kt puD e_x1
  intro x3 hx3
  have q_x3:=iy hx3 (.lst ([]:List V))
  have e_x3:upd HP x3 (.lst ([]:List V)) x3=some (.lst ([]:List V)):=ij
  replace c0:=q_x3 _ _ c0
  replace c1:=q_x3 _ _ c1
  replace c2:=q_x3 _ _ c2
  replace c3:=q_x3 _ _ c3
  replace pu9:=jk q_x3.tups pu9
  replace s4D:=s4D.trans q_x3
  replace hsD:=hsD.tups q_x3.tups
  replace e_k1:=q_x3 _ _ e_k1
  replace e_k2:=q_x3 _ _ e_k2
  replace e_k3:=q_x3 _ _ e_k3
  replace e_kt:=q_x3 _ _ e_kt
  replace puD:=jk q_x3.tups puD
  replace e_x1:=q_x3 _ _ e_x1
  replace e_x2:=q_x3 _ _ e_x2
  generalize upd HP x3 (.lst ([]:List V))=HQ at q_x3 e_x3 c0 c1 c2 c3 pu9 s4D hsD e_k1 e_k2 e_k3 e_kt puD e_x1 e_x2
  intro x4 hx4
  have q_x4:=iy hx4 (.tup [.ref x1,.ref x2,.ref x3])
  have e_x4:upd HQ x4 (.tup [.ref x1,.ref x2,.ref x3]) x4=some (.tup [.ref x1,.ref x2,.ref x3]):=ij
  replace c0:=q_x4 _ _ c0
  replace c1:=q_x4 _ _ c1
  replace c2:=q_x4 _ _ c2
  replace c3:=q_x4 _ _ c3
  replace pu9:=jk q_x4.tups pu9
  replace s4D:=s4D.trans q_x4
  replace hsD:=hsD.tups q_x4.tups
  replace e_k1:=q_x4 _ _ e_k1
  replace e_k2:=q_x4 _ _ e_k2
  replace e_k3:=q_x4 _ _ e_k3
  replace e_kt:=q_x4 _ _ e_kt
  replace puD:=jk q_x4.tups puD
  replace e_x1:=q_x4 _ _ e_x1
  replace e_x2:=q_x4 _ _ e_x2
  replace e_x3:=q_x4 _ _ e_x3
  generalize upd HQ x4 (.tup [.ref x1,.ref x2,.ref x3])=HS at q_x4 e_x4 c0 c1 c2 c3 pu9 s4D hsD e_k1 e_k2 e_k3 e_kt puD e_x1 e_x2 e_x3
  refine⟨mB [] [] [],mB [] [] [],qb c0 c1 c2 c3 pu9,qb e_x4 e_x1 e_x2 e_x3 .nil,Bm _ _ _,.inr ⟨_,_,rfl,rfl⟩,?_⟩
  rw[kn]
  walk_at "D"
  clear c0 c1 c2 c3 pu9 e_x1 e_x2 e_x3 e_x4 q_x1 q_x2 q_x3 q_x4 hx1 hx2 hx3 hx4
  subst hR9
  walk_at "D"
  refine⟨.ref u,ps,ts,fl,col,rfl,W.same s4D,wk,lab,hcol,fun t9 a1 a2 a3 us9 r9 nr9 nt9 HT sT b0 b1 b2 b3 b12 b13 b23 c0 c1 c2 c3 pu9 rst9=>?_⟩
  obtain⟨z1,z2,z3⟩:=En wk two rst rst9
  rw [<- z2,hmo] at c1
  rw [<- z3,hfe] at c2
  rw [<- z1,hds] at pu9
  refine⟨mB mo fe ds,mB mo fe ds,qb c0 c1 c2 c3 pu9,qb (sT _ _ e_kt) (sT _ _ e_k1) (sT _ _ e_k2) (sT _ _ e_k3) (jk sT.tups puD),Bm _ _ _,.inr ⟨_,_,rfl,rfl⟩,?_⟩
  rw[kn]
  walk_at "D"
  exact⟨_,_,_,_,_,_,_,_,rfl,hsD.tups sT.tups⟩
 ·rintro σ H1 ⟨v1,v2,v3,v4,v5,v6,v7,v8,rfl,hs1⟩
  subst hR
  walk_at "D"
  exact h _
end
end My
set_option autoImplicit true
namespace My
open PySem L2
abbrev aT(K:PySem.W.Frag)(x:Str)(f:Addr):Prop:=PySem.W.nsIn K mainGlobals x=some (some (.ref f))
abbrev zT(K:PySem.W.Frag)(x:Str):Prop:=PySem.W.nsIn K mainGlobals x=some none
abbrev kT(K:PySem.W.Frag)(f:Addr):Prop:=PySem.W.keepIn K (.ref f)=true
abbrev qT(K:PySem.W.Frag)(x q:Str)(st:Stmt)(f:Addr):Prop:=∃(oc:Value) (od:Option Addr) (sl:Array (Option Value)) (kV dc pm:Value) (an:Option Addr) (cd ct:Value),K.lookup f=some ⟨oc,od,.func (PySem.W.fnOf x q (ni st) (mE st) (iU st) .none kV dc pm an cd ct),sl⟩/\PySem.W.codeIn K cd q=true/\kT K f
abbrev dT(K:PySem.W.Frag)(x:Str)(st:Stmt):Prop:=∃f,aT K x f/\qT K x x st f
theorem dI{K:PySem.W.Frag}{x:Str}{st:Stmt}{f:Addr}{oc:Value}{od:Option Addr}{sl:Array (Option Value)}{kV dc pm:Value}{an:Option Addr}{cd ct:Value}(a:aT K x f)(l:K.lookup f=some ⟨oc,od,.func (PySem.W.fnOf x x (ni st) (mE st) (iU st) .none kV dc pm an cd ct),sl⟩)(c:PySem.W.codeIn K cd x=true)(k:kT K f):dT K x st:=⟨f,a,oc,od,sl,kV,dc,pm,an,cd,ct,l,c,k⟩
abbrev bT(x q:Str)(st:Stmt)(us:List Value)(bs:List (Str×Value)):Prop:=∀(kV dc pm:Value) (an:Option Addr) (cd ct:Value),bindArgs (PySem.W.fnOf x q (ni st) (mE st) (iU st) .none kV dc pm an cd ct) ⟨us,[]⟩=pure bs
theorem ju{K:PySem.W.Frag}{h:Heap}{mg:Str->Option Value}(X:K.In h)(G:h.Ns mainGlobals mg){x:Str}{st:Stmt}(a:dT K x st)(ps:List Str)(b:∀us:List Value,us.length=ps.length->bT x x st us (ps.zip us)):∃f fd,DefAt K mg x st ps f fd/\∀s us,us.length=ps.length->BindsTo s fd ⟨us,[]⟩ (ps.zip us):=by
 obtain⟨f,a,oc,od,sl,kV,dc,pm,an,cd,ct,l,g,k⟩:=a
 exact⟨f,_,⟨xw l g k,.all fun us h=>b us h _ _ _ _ _ _,cS X G a⟩,fun s us h=>.of_eq (b us h _ _ _ _ _ _)⟩
abbrev mT(K:PySem.W.Frag)(C:Addr)(x q:Str)(st:Stmt):Prop:=∃f,PySem.W.findIn K (.ref C) x=some (some (.ref f))/\PySem.W.isFn K (.ref f)=true/\qT K x q st f
theorem mI{K:PySem.W.Frag}{C:Addr}{x q:Str}{st:Stmt}{f:Addr}{oc:Value}{od:Option Addr}{sl:Array (Option Value)}{kV dc pm:Value}{an:Option Addr}{cd ct:Value}(a:PySem.W.findIn K (.ref C) x=some (some (.ref f)))(i:PySem.W.isFn K (.ref f)=true)(l:K.lookup f=some ⟨oc,od,.func (PySem.W.fnOf x q (ni st) (mE st) (iU st) .none kV dc pm an cd ct),sl⟩)(c:PySem.W.codeIn K cd q=true)(k:kT K f):mT K C x q st:=⟨f,a,i,oc,od,sl,kV,dc,pm,an,cd,ct,l,c,k⟩
theorem lV{K:PySem.W.Frag}{C:Addr}{x q:Str}{st:Stmt}(a:mT K C x q st)(ps:List Str)(b:∀us:List Value,us.length=ps.length->bT x q st us (ps.zip us)):∃f fd,MthAt K C x q st ps f fd:=by
 obtain⟨f,a,i,oc,od,sl,kV,dc,pm,an,cd,ct,l,g,k⟩:=a
 exact⟨f,_,xw l g k,.all fun us h=>b us h _ _ _ _ _ _,a,i,k⟩
theorem b1{x q:Str}{st:Stmt}{p0:Str}(h:∀u0,bT x q st [u0] [(p0,u0)]:=by exact fun _ _ _ _ _ _ _=>rfl):∀us:List Value,us.length=1->bT x q st us ([p0].zip us)|[u0],_=>h u0
theorem b2{x q:Str}{st:Stmt}{p0 p1:Str}(h:∀u0 u1,bT x q st [u0,u1] [(p0,u0),(p1,u1)]:=by exact fun _ _ _ _ _ _ _ _=>rfl):∀us:List Value,us.length=2->bT x q st us ([p0,p1].zip us)|[u0,u1],_=>h u0 u1
theorem b3{x q:Str}{st:Stmt}{p0 p1 p2:Str}(h:∀u0 u1 u2,bT x q st [u0,u1,u2] [(p0,u0),(p1,u1),(p2,u2)]:=by exact fun _ _ _ _ _ _ _ _ _=>rfl):∀us:List Value,us.length=3->bT x q st us ([p0,p1,p2].zip us)|[u0,u1,u2],_=>h u0 u1 u2
theorem b4{x q:Str}{st:Stmt}{p0 p1 p2 p3:Str}(h:∀u0 u1 u2 u3,bT x q st [u0,u1,u2,u3] [(p0,u0),(p1,u1),(p2,u2),(p3,u3)]:=by exact fun _ _ _ _ _ _ _ _ _ _=>rfl):∀us:List Value,us.length=4->bT x q st us ([p0,p1,p2,p3].zip us)|[u0,u1,u2,u3],_=>h u0 u1 u2 u3
theorem HY{l:PySem.W.OpenLaw}{w:World}{K:PySem.W.Frag}{h:Heap}{mg:Str->Option Value}{fa:Addr}(X:K.In h)(G:h.Ns mainGlobals mg)(hfa:mg "law"=some (.ref fa))(a0:dT K "is_whole" (iw 11))(a1:dT K "is_tuple_of" (iw 12))(a2:dT K "is_pair_of_wholes" (iw 13))(a3:dT K "is_list_up_to" (iw 14))(a4:dT K "marked" (iw 15))(a5:dT K "place_stands" (iw 21))(a6:dT K "tie_stands" (iw 22))(a7:dT K "look_at_places" (iw 23))(a8:dT K "look_at_ties" (iw 24))(a9:dT K "look_at_web" (iw 25))(a10:dT K "nears_in" (iw 26))(a11:dT K "met_from" (iw 28))(a12:dT K "levels_by" (iw 29))(a13:dT K "odd_ring_from" (iw 32))(a14:dT K "sides_of" (iw 34))(a15:dT K "net_across" (iw 36))(a16:dT K "spots_of" (iw 37))(a17:dT K "set_of_cut" (iw 38))(a18:dT K "even_dues" (iw 39))(a19:dT K "pairing_of" (iw 40))(a20:dT K "_law_begun" (iw 42))(a21:dT K "_law_take" (iw 43))(a22:dT K "_law_two" (iw 44))(a23:dT K "_law_whole" (iw 46))(a24:dT K "_law_sides" (iw 49))(a25:dT K "_law_turned" (iw 45))(a26:dT K "_law_touches" (iw 47))(a27:dT K "_law_paid" (iw 48))(a28:dT K "_law_between" (iw 50))(a29:dT K "law" (iw 51))(z_len:zT K "len")(z_isinstance:zT K "isinstance")(z_all:zT K "all")(z_min:zT K "min")(z_list:zT K "list")(z_dict:zT K "dict")(z_int:zT K "int")(z_bool:zT K "bool")(z_str:zT K "str")(z_tuple:zT K "tuple")(z_range:zT K "range")(z_enumerate:zT K "enumerate")(z_zip:zT K "zip")(z_max:zT K "max")(z_any:zT K "any")(z_sum:zT K "sum")(z_sorted:zT K "sorted")(z_set:zT K "set")(n_MOST_PLACES:PySem.W.nsIn K mainGlobals "MOST_PLACES"=some (some (.int 40 c1)))(n_MOST_TIES:PySem.W.nsIn K mainGlobals "MOST_TIES"=some (some (.int 120 c2)))(n_LAST_PLACE:PySem.W.nsIn K mainGlobals "LAST_PLACE"=some (some (.int 999 c3)))(n_MOST_PRICE:PySem.W.nsIn K mainGlobals "MOST_PRICE"=some (some (.int 1000000000000 c4)))(aN:aT K "Net" C_Net)(pgN:PySem.W.plainGet K C_Net Str.empty=true)(hdN:PySem.W.hasDictIn K C_Net=true)(poN:PySem.W.plainOver K C_Net=true)(saN:PySem.W.findIn K (.ref C_Net) "__setattr__"=some (some (.builtin "object.__setattr__")))(mkN:PySem.W.makesIn K C_Net=true)(kcN:kT K C_Net)(n_ways_from:PySem.W.findIn K (.ref C_Net) "ways_from"=some none)(n_heads:PySem.W.findIn K (.ref C_Net) "heads"=some none)(n_rooms:PySem.W.findIn K (.ref C_Net) "rooms"=some none)(nn_SOURCE:PySem.W.nsIn K mainGlobals "SOURCE"=some (some (.int 0 ee1)))(nn_SINK:PySem.W.nsIn K mainGlobals "SINK"=some (some (.int 1 ee2)))(nn_FIRST:PySem.W.nsIn K mainGlobals "FIRST"=some (some (.int 2 ee3)))(m0:mT K C_Net "__init__" "Net.__init__" (ja 9 0))(m1:mT K C_Net "put_way" "Net.put_way" (ja 9 1))(m2:mT K C_Net "fill" "Net.fill" (ja 9 2))(m3:mT K C_Net "shortest" "Net.shortest" (ja 9 3))(m4:mT K C_Net "spread" "Net.spread" (ja 9 4))(m5:mT K C_Net "push" "Net.push" (ja 9 5))(m6:mT K C_Net "flows" "Net.flows" (ja 9 6))(m7:mT K C_Net "reached_from" "Net.reached_from" (ja 9 7))(m8:mT K C_Net "reaching" "Net.reaching" (ja 9 8))
 :∃fd:FuncData,(∀(s:Shared) (v:Value),BindsTo s fd ⟨[v],[]⟩ [("_law_script",v)])/\∀base:Heap,K.In base->base.Ns mainGlobals mg->FnOk l.prog w K mg base iE 9 fa fd ["_law_script"] (qu K):=by
 have B:Blt mg:=⟨br X G z_len,br X G z_isinstance,br X G z_all,br X G z_min,br X G z_list,br X G z_dict,br X G z_int,br X G z_bool,br X G z_str,br X G z_tuple,br X G z_range,br X G z_enumerate,br X G z_zip,br X G z_max,br X G z_any,br X G z_sum,br X G z_sorted,br X G z_set⟩
 have C:Cst mg c1 c2 c3 c4:=⟨cS X G n_MOST_PLACES,cS X G n_MOST_TIES,cS X G n_LAST_PLACE,cS X G n_MOST_PRICE⟩
 obtain⟨f0,d0,Dql,_⟩:=ju X G a0 ["thing"] b1
 obtain⟨f1,d1,Dqd,_⟩:=ju X G a1 ["thing","many"] b2
 obtain⟨f2,d2,Dqc,_⟩:=ju X G a2 ["thing"] b1
 obtain⟨f3,d3,Dqb,_⟩:=ju X G a3 ["thing","most"] b2
 obtain⟨f4,d4,Dqg,_⟩:=ju X G a4 ["places"] b1
 obtain⟨f5,d5,Dq4,_⟩:=ju X G a5 ["thing","last","spent"] b3
 obtain⟨f6,d6,Dq6,_⟩:=ju X G a6 ["thing","last","prices"] b3
 obtain⟨f7,d7,Dqy,_⟩:=ju X G a7 ["places"] b1
 obtain⟨f8,d8,Dqz,_⟩:=ju X G a8 ["ties","prices"] b2
 obtain⟨f9,d9,Dq0,_⟩:=ju X G a9 ["thing"] b1
 obtain⟨f10,d10,Dq1,_⟩:=ju X G a10 ["web"] b1
 obtain⟨f11,d11,Dqh,_⟩:=ju X G a11 ["nears","place"] b2
 obtain⟨f12,d12,Dqf,_⟩:=ju X G a12 ["above"] b1
 obtain⟨f13,d13,Dq3,_⟩:=ju X G a13 ["nears","place"] b2
 obtain⟨f14,d14,Dq5,_⟩:=ju X G a14 ["web"] b1
 obtain⟨f15,d15,Dq2,_⟩:=ju X G a15 ["web","first"] b2
 obtain⟨f16,d16,Dqi,_⟩:=ju X G a16 ["web"] b1
 obtain⟨f17,d17,Dqn,_⟩:=ju X G a17 ["web","first","near_source"] b3
 obtain⟨f18,d18,Dqr,_⟩:=ju X G a18 ["web","flows"] b2
 obtain⟨f19,d19,Dqk,_⟩:=ju X G a19 ["web"] b1
 obtain⟨f20,d20,Dqs,_⟩:=ju X G a20 ["_law_script","_law_k"] b2
 obtain⟨f21,d21,Dqa,_⟩:=ju X G a21 ["_law_state","_law_many"] b2
 obtain⟨f22,d22,Dqx,_⟩:=ju X G a22 ["_law_state","_law_most"] b2
 obtain⟨f23,d23,Dqe,_⟩:=ju X G a23 ["_law_thing"] b1
 obtain⟨f24,d24,Dqv,_⟩:=ju X G a24 ["_law_web"] b1
 obtain⟨f25,d25,Dqw,_⟩:=ju X G a25 ["_law_state","_law_web"] b2
 obtain⟨f26,d26,Dqm,_⟩:=ju X G a26 ["_law_web","_law_some"] b2
 obtain⟨f27,d27,Dqu,_⟩:=ju X G a27 ["_law_web","_law_dues"] b2
 obtain⟨f28,d28,Dqt,_⟩:=ju X G a28 ["_law_web","_law_most","_law_fewest"] b3
 obtain⟨f29,d29,Dzd,bl⟩:=ju X G a29 ["_law_script"] b1
 obtain⟨fm0,dm0,Dqq⟩:=lV m0 ["self","many","arcs"] b3
 obtain⟨fm1,dm1,Dqo⟩:=lV m1 ["self","tail","head","room"] b4
 obtain⟨fm2,dm2,Dq7⟩:=lV m2 ["self","source","sink"] b3
 obtain⟨fm3,dm3,Dqp⟩:=lV m3 ["self","source","sink"] b3
 obtain⟨fm4,dm4,Dqj⟩:=lV m4 ["self","source"] b2
 obtain⟨fm5,dm5,Dq9⟩:=lV m5 ["self","trail"] b2
 obtain⟨fm6,dm6,Dq8⟩:=lV m6 ["self"] b1
 obtain⟨fm7,dm7,Dza⟩:=lV m7 ["self","source"] b2
 obtain⟨fm8,dm8,Dzb⟩:=lV m8 ["self","sink"] b2
 cases hfa.symm.trans Dzd.m
 refine⟨d29,fun s v=>bl s [v] rfl,fun base _ _=>?_⟩
 have C2:Cst2 mg ee1 ee2 ee3:=⟨cS X G nn_SOURCE,cS X G nn_SINK,cS X G nn_FIRST⟩
 have T:NetC K mg C_Net:=⟨⟨pgN,hdN,poN,saN⟩,n_ways_from,n_heads,n_rooms,cS X G aN⟩
 have MK:Mk K C_Net fm0:=⟨mkN,Dqq.m.at_,Dqq.m.fn,kcN⟩
 have Gql:=Ga (P:=l.prog) (w:=w) (base:=base) B Dql
 have Gqd:=GQ (P:=l.prog) (w:=w) (base:=base) B Dqd
 have Gqc:=G8 (P:=l.prog) (w:=w) (base:=base) B Dqc Dqd Gqd Dql Gql
 have Gqb:=G4 (P:=l.prog) (w:=w) (base:=base) B Dqb
 have Gq4:=GY (P:=l.prog) (w:=w) (base:=base) B C Dq4 Dqc Gqc
 have Gq6:=GJ (P:=l.prog) (w:=w) (base:=base) B Dq6 Dqc Gqc
 have Gqy:=G7 (P:=l.prog) (w:=w) (base:=base) B C Dqy Dqb Gqb Dq4 Gq4
 have Gqz:=GX (P:=l.prog) (w:=w) (base:=base) B C Dqz Dqb Gqb Dq6 Gq6
 have Gq0:=GU (P:=l.prog) (w:=w) (base:=base) B Dq0 Dqd Gqd Dqy Gqy Dqz Gqz
 have Gq1:=Ge (P:=l.prog) (w:=w) (base:=base) B Dq1
 have Gqh:=Gd (P:=l.prog) (w:=w) (base:=base) B Dqh
 have Gqf:=Gz (P:=l.prog) (w:=w) (base:=base) B Dqf
 have Gq3:=G5 (P:=l.prog) (w:=w) (base:=base) B Dq3 Dqh Gqh Dqf Gqf
 have Gq5:=Gh (P:=l.prog) (w:=w) (base:=base) B Dq5 Dq0 Gq0 Dq1 Gq1 Dq3 Gq3 Dqf Gqf Dqh Gqh
 have Gqi:=Gi (P:=l.prog) (w:=w) (base:=base) B Dqi C2
 have Gqn:=GI (P:=l.prog) (w:=w) (base:=base) B Dqn
 have Gqr:=Gv (P:=l.prog) (w:=w) (base:=base) B Dqr
 have Gqs:=Gw (P:=l.prog) (w:=w) (base:=base) B Dqs
 have Gqa:=Gc (P:=l.prog) (w:=w) (base:=base) B Dqa
 have Gqx:=FT (P:=l.prog) (w:=w) (base:=base) B Dqx Dqa Gqa
 have Gqe:=Gy (P:=l.prog) (w:=w) (base:=base) B Dqe
 have Gqv:=Gx (P:=l.prog) (w:=w) (base:=base) B Dqv
 have Gqw:=GF (P:=l.prog) (w:=w) (base:=base) B Dqw Dqa Gqa
 have Gqm:=GS (P:=l.prog) (w:=w) (base:=base) B Dqm Dqe Gqe
 have Gqu:=Gb (P:=l.prog) (w:=w) (base:=base) B Dqu Dqe Gqe
 have Gqt:=GR (P:=l.prog) (w:=w) (base:=base) B Dqt Dqv Gqv
 have GI_marked:=FS (P:=l.prog) (w:=w) (base:=base) B Dqg
 have Gqo:=FU (P:=l.prog) (w:=w) (base:=base) B Dqo T
 have Gqj:=Fh (P:=l.prog) (w:=w) (base:=base) B Dqj T
 have Gq9:=Dz (P:=l.prog) (w:=w) (base:=base) B Dq9 T
 have Gq8:=El (P:=l.prog) (w:=w) (base:=base) B Dq8 T
 have Gza:=GZ (P:=l.prog) (w:=w) (base:=base) B Dza Dqj Gqj T
 have Gzb:=Gf (P:=l.prog) (w:=w) (base:=base) B Dzb T
 have Gqq:=Dy (P:=l.prog) (w:=w) (base:=base) B Dqq Dqo Gqo T
 have Gqp:=Gg (P:=l.prog) (w:=w) (base:=base) B Dqp Dqj Gqj T
 have Gq2:=GG (P:=l.prog) (w:=w) (base:=base) B Dq2 Dqi Gqi Dqq Gqq T C2 MK
 have Gq7:=Dx (P:=l.prog) (w:=w) (base:=base) B Dq7 Dqp Gqp Dq9 Gq9 T
 have Gqk:=GH (P:=l.prog) (w:=w) (base:=base) B Dqk Dq5 Gq5 Dqg GI_marked Dqi Gqi Dq2 Gq2 Dq7 Gq7 Dza Gza Dzb Gzb Dqn Gqn Dq8 Gq8 Dqr Gqr T C2
 exact CI B Dzd Dqs Gqs Dqx Gqx Dqw Gqw Dqk Gqk Dqm Gqm Dqu Gqu Dqt Gqt
theorem Bw{l:PySem.W.OpenLaw}{q:Program}{loose:List Str}{XP:(Str->Option Value)->Heap->Prop}{YP:World->Heap->Prop}{d:DefRec}{K:Params->PySem.W.Frag}(hn:l.most=some 63)(hdf:d.params.defaults=[])
  (hY:∀(w:World) (h:Heap),YP w h->(K w.params).In h)
  (F:∀(w:World) (mg:Str->Option Value) (fa:Addr) (h:Heap),(K w.params).In h->h.Ns mainGlobals mg->mg d.name=some (.ref fa)->
   ∃fd:FuncData,(∀(s:Shared) (u:Value),BindsTo s fd ⟨[u],[]⟩ [("_law_script",u)])/\∀base:Heap,(K w.params).In base->base.Ns mainGlobals mg->FnOk l.prog w (K w.params) mg base iE 9 fa fd ["_law_script"] (qu (K w.params))):
  PySem.W.WalkO q loose XP YP l.row.toRowW d [] (fun f vs=>PySem.call f vs):=
 L2.yZ (n:=63) (k:=9) (x:="_law_script") (CX:=fun _=>iE) (sp:=fun w=>qu (K w.params)) hn (by decide) hdf ⟨rfl,by decide,by decide,rfl⟩ hY F (fun _ _ a ns hl hO hS=>⟨a,ns,rfl,Scr.of hS hO,fun _=>rfl⟩) fun _ _ _ _ _ z=>z
end My
open PySem PySem.W PyProof.Rows
set_option maxRecDepth 100000 in
set_option maxHeartbeats 0 in
theorem PySem.Challenge.cw_touchall_k60_pairings_pay_holds : PySem.Challenge.rw_touchall_k60_pairings_pay.Holds := by
 refine MyHead ?_
 k_fill
 refine My.Bw (l:=PySem.Challenge.rw_touchall_k60_pairings_pay) rfl rfl (fun w h Y=>PySem.W.kIn_of Y) ?F
 case F =>
  intro w mg fa h KX G hmg
  refine' My.HY KX G hmg ?_ ?_ ?_ ?_ ?_ ?_ ?_ ?_ ?_ ?_ ?_ ?_ ?_ ?_ ?_ ?_ ?_ ?_ ?_ ?_ ?_ ?_ ?_ ?_ ?_ ?_ ?_ ?_ ?_ ?_ ?_ ?_ ?_ ?_ ?_ ?_ ?_ ?_ ?_ ?_ ?_ ?_ ?_ ?_ ?_ ?_ ?_ ?_ ?_ ?_ ?_ ?_ ?_ ?_ ?_ ?_ ?_ ?_ ?_ ?_ ?_ ?_ ?_ ?_ ?_ ?_ ?_ ?_ ?_ ?_ ?_ ?_ ?_ ?_
  any_goals first | k_is | ((first | refine' My.dI ?_ ?_ ?_ ?_ | refine' My.mI ?_ ?_ ?_ ?_ ?_) <;> first | k_is | (delta My.aT; k_is) | (delta My.kT; k_is) | skip) | (delta My.aT; k_is) | (delta My.kT; k_is) | (delta My.zT; k_is) | kernel_rfl | rfl
#print axioms PySem.Challenge.cw_touchall_k60_pairings_pay_holds
