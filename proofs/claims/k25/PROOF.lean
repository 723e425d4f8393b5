import PyProof.Rows.All
import Wide.All
import OpenK.AllK
import Wide.FinOn
import Lean
import PyProof.EqAt
import PyProof.EqKinds
import PyProof.TupleCall
import PyProof.NeKinds
import PyProof.NeData
import PySem.Challenge.RW_touchall_k25_halves_along_strings
import PyProof.StationsW
import PyProof.ExcInit
import PyProof.InstStoreFacts
import PyProof.NsDelKeeps
import PyProof.RulesAs
import PyProof.ExcAttrAll.ValueError
import KE.KIsAll
import PyProof.AutoSeq1
import PyProof.Rows.SetFrom
import PyProof.SetRoads
import PyProof.Rows.SortRuns
import PyProof.Rows.SortShell
import KE.KSortTup
import PyProof.Rows.SumAny
import PyProof.DictWalks
import PyProof.DictUpdate
import KE.KDictList
import PyProof.WalksMore
section
open PySem PySem.W PyProof.Rows
set_option Elab.async false
set_option maxRecDepth 100000
set_option maxHeartbeats 0
namespace PySem.W.Fast
theorem tw4931856099360984229:True:=⟨⟩
theorem tw14781562103584300300:True:=⟨⟩
theorem tw18004234820734870348:True:=⟨⟩
theorem tw8516320889020697615:True:=⟨⟩
theorem tw16599119404929089777:True:=⟨⟩
theorem tw9523907401933072244:True:=⟨⟩
theorem tw280475905095942100:True:=⟨⟩
theorem tw17883986908372840214:True:=⟨⟩
theorem tw3532348617687762170:True:=⟨⟩
theorem tw15040028559633440635:True:=⟨⟩
theorem tw2394965854965877950:True:=⟨⟩
theorem tw651348657160764380:True:=⟨⟩
theorem tw749475842917359531:True:=⟨⟩
theorem tw16534339097768146004:True:=⟨⟩
theorem tw2220164997069877358:True:=⟨⟩
theorem tw17216570649916412029:True:=⟨⟩
theorem tw14172657290863477674:True:=⟨⟩
theorem tw15693294657385995021:True:=⟨⟩
theorem tw2299995472670780312:True:=⟨⟩
theorem tw17040265546129833713:True:=⟨⟩
theorem tw1349069014647357223:True:=⟨⟩
theorem tw15500006721023040547:True:=⟨⟩
theorem tw9202793077811905852:True:=⟨⟩
theorem tw8513872578731894556:True:=⟨⟩
theorem tw11033941645859556090:True:=⟨⟩
theorem tw2965769552864237175:True:=⟨⟩
theorem tw12343798008286848705:True:=⟨⟩
theorem tw9986159386596041291:True:=⟨⟩
theorem tw163361006696384501:True:=⟨⟩
theorem tw1104488647094209902:True:=⟨⟩
theorem tw12021910400016799448:True:=⟨⟩
theorem tw16129954062642050573:True:=⟨⟩
theorem tw1446046372975601066:True:=⟨⟩
theorem tw11838570771899567539:True:=⟨⟩
theorem tw162473700425539603:True:=⟨⟩
theorem tw8871029021759738552:True:=⟨⟩
theorem tw10913997214970868764:True:=⟨⟩
theorem tw2232508010609702249:True:=⟨⟩
theorem tw5954876327221452193:True:=⟨⟩
theorem tw12855419698269193786:True:=⟨⟩
theorem tw6730875953044847916:True:=⟨⟩
theorem tw9762787882097571856:True:=⟨⟩
theorem tw429126050991680652:True:=⟨⟩
theorem tw6749682013178273063:True:=⟨⟩
theorem tw6584695149455985699:True:=⟨⟩
theorem tw13281483970742848924:True:=⟨⟩
theorem tw577511202878901248:True:=⟨⟩
theorem tw6542929942557814982:True:=⟨⟩
theorem tw1726813977947389158:True:=⟨⟩
theorem tw16770910964881924072:True:=⟨⟩
theorem tw8079341929624369548:True:=⟨⟩
theorem tw8153494736163193282:True:=⟨⟩
theorem tw15377678365041130219:True:=⟨⟩
theorem tw13058793742947418118:True:=⟨⟩
theorem tw15514634696500728796:True:=⟨⟩
theorem tw7492884703717757881:True:=⟨⟩
theorem tw17746213073180106855:True:=⟨⟩
theorem tw12306747795182409104:True:=⟨⟩
theorem tw1718328181716237790:True:=⟨⟩
theorem tw593414006488225192:True:=⟨⟩
theorem tw9000492280638625789:True:=⟨⟩
theorem tw18111414595329612538:True:=⟨⟩
theorem tw2198618278216875009:True:=⟨⟩
theorem tw17790621613727568432:True:=⟨⟩
theorem tw13651674943635200488:True:=⟨⟩
theorem tw3768600909522892029:True:=⟨⟩
theorem tw11669262180485523366:True:=⟨⟩
theorem tw18435423981051818222:True:=⟨⟩
theorem tw9482120283554068594:True:=⟨⟩
theorem tw1946033789281374818:True:=⟨⟩
theorem tw15335128613735910151:True:=⟨⟩
theorem tw2269460933442521542:True:=⟨⟩
theorem tw3386007157573418628:True:=⟨⟩
theorem tw17670709185726934248:True:=⟨⟩
theorem tw17382730591349914884:True:=⟨⟩
theorem tw6799717253033202974:True:=⟨⟩
theorem tw17948796234568494333:True:=⟨⟩
theorem tw14527855219218812963:True:=⟨⟩
theorem tw420471366415179010:True:=⟨⟩
theorem tw7552589387619456655:True:=⟨⟩
theorem tw850951039455432525:True:=⟨⟩
theorem tw7514863291714595196:True:=⟨⟩
theorem tw4463166748007049108:True:=⟨⟩
theorem tw1623218935358935076:True:=⟨⟩
theorem tw16962657549081138568:True:=⟨⟩
theorem tw17341298701788093120:True:=⟨⟩
theorem tw12981107023279619863:True:=⟨⟩
theorem tw5061831166103267206:True:=⟨⟩
theorem tw14046072485561619853:True:=⟨⟩
theorem tw1292984125890801270:True:=⟨⟩
theorem tw1118109838406661019:True:=⟨⟩
theorem tw7761872477267044100:True:=⟨⟩
theorem tw12010976375034376571:True:=⟨⟩
theorem tw3251091792226649815:True:=⟨⟩
theorem tw1412105097100734851:True:=⟨⟩
theorem tw12653114381597422123:True:=⟨⟩
theorem tw10661231254371446707:True:=⟨⟩
theorem tw12485154272163604117:True:=⟨⟩
theorem tw8212859607379937844:True:=⟨⟩
theorem tw15118457964073289629:True:=⟨⟩
theorem tw12299380988638202590:True:=⟨⟩
theorem tw5729796969671028974:True:=⟨⟩
theorem tw12838189731587688999:True:=⟨⟩
theorem tw9466367427336684335:True:=⟨⟩
theorem tw17658068361143100475:True:=⟨⟩
theorem tw18438347639502009901:True:=⟨⟩
theorem tw11906391868283360964:True:=⟨⟩
theorem tw1459643596898847606:True:=⟨⟩
theorem tw5101450760185418553:True:=⟨⟩
theorem tw5099301408519554050:True:=⟨⟩
theorem tw14100869705339816407:True:=⟨⟩
theorem tw9562907100761335393:True:=⟨⟩
theorem tw16690788079638538773:True:=⟨⟩
theorem tw16409236330492884371:True:=⟨⟩
theorem tw6494762443452080514:True:=⟨⟩
theorem tw2882356951737927585:True:=⟨⟩
theorem tw6822298609184292527:True:=⟨⟩
theorem tw12832714438019067581:True:=⟨⟩
theorem tw530684274474814442:True:=⟨⟩
theorem tw13777678184960627923:True:=⟨⟩
theorem tw11930511757121121756:True:=⟨⟩
theorem tw14819694531884392017:True:=⟨⟩
theorem tw1104458783644820503:True:=⟨⟩
theorem tw760989484626043395:True:=⟨⟩
theorem tw12145190026016965121:True:=⟨⟩
theorem tw17899455434026235383:True:=⟨⟩
theorem tw18366049866466480393:True:=⟨⟩
theorem tw13918767385064653732:True:=⟨⟩
theorem tw13149991164589372472:True:=⟨⟩
theorem tw9307431955463701274:True:=⟨⟩
theorem tw13557064101490781197:True:=⟨⟩
theorem tw18415491594491465074:True:=⟨⟩
theorem tw9197129900319299892:True:=⟨⟩
theorem tw17426358754788277328:True:=⟨⟩
theorem tw3333966505458403725:True:=⟨⟩
theorem tw360715681367275602:True:=⟨⟩
theorem tw17748890715401807743:True:=⟨⟩
theorem tw3421753523302657214:True:=⟨⟩
theorem tw14079483211463739728:True:=⟨⟩
theorem tw600212407440205806:True:=⟨⟩
theorem tw7853399458379906777:True:=⟨⟩
theorem tw16435145116260540403:True:=⟨⟩
theorem tw13227656411800433115:True:=⟨⟩
theorem tw9016929935483840578:True:=⟨⟩
theorem tw12992367483169920845:True:=⟨⟩
theorem tw18368650237389215793:True:=⟨⟩
theorem tw16567477134032842647:True:=⟨⟩
theorem tw17953295521274581375:True:=⟨⟩
theorem tw5291671171568664792:True:=⟨⟩
theorem tw2807939160141173056:True:=⟨⟩
theorem tw18051402899012708777:True:=⟨⟩
theorem tw5103485604028916769:True:=⟨⟩
theorem tw6670132038723899214:True:=⟨⟩
theorem tw15140575967346891081:True:=⟨⟩
theorem tw9578137325174995177:True:=⟨⟩
theorem tw12176799902621761173:True:=⟨⟩
theorem tw7182748549700119884:True:=⟨⟩
theorem tw10606784113705308633:True:=⟨⟩
theorem tw14162606385346639759:True:=⟨⟩
theorem tw12743296696899658274:True:=⟨⟩
theorem tw10581164851701950017:True:=⟨⟩
theorem tw5160066459553266816:True:=⟨⟩
theorem tw11647574858823915943:True:=⟨⟩
theorem tw14640572693217546273:True:=⟨⟩
theorem tw218366189445680744:True:=⟨⟩
theorem tw10485983645851997345:True:=⟨⟩
theorem tw9580164878673987830:True:=⟨⟩
theorem tw7851787535860571123:True:=⟨⟩
theorem tw7202096296974048930:True:=⟨⟩
theorem tw2812415958408709537:True:=⟨⟩
theorem tw17386353614433715009:True:=⟨⟩
theorem tw13481182421452709113:True:=⟨⟩
theorem tw17001195906241442773:True:=⟨⟩
theorem tw2374692894874826008:True:=⟨⟩
theorem tw4040663737483218468:True:=⟨⟩
theorem tw7007092725283629287:True:=⟨⟩
theorem tw15546968404707699468:True:=⟨⟩
theorem tw15240104693518809320:True:=⟨⟩
theorem tw12308534206943208666:True:=⟨⟩
theorem tw16731634629222179199:True:=⟨⟩
theorem tw17748391171391791682:True:=⟨⟩
theorem tw14229602632353992099:True:=⟨⟩
theorem tw7232841066116858783:True:=⟨⟩
theorem tw7038596651363693363:True:=⟨⟩
theorem tw11845121057717500690:True:=⟨⟩
theorem tw16086166043349708051:True:=⟨⟩
theorem tw15980514055555444097:True:=⟨⟩
theorem tw4395593587568455176:True:=⟨⟩
theorem tw14376798394326754113:True:=⟨⟩
theorem tw2363903611795592705:True:=⟨⟩
theorem tw6425884994113631308:True:=⟨⟩
theorem tw8297966634746096414:True:=⟨⟩
theorem tw6014219777646665041:True:=⟨⟩
theorem tw6245827768647603512:True:=⟨⟩
theorem tw8556881319794653275:True:=⟨⟩
theorem tw17594760211624526283:True:=⟨⟩
theorem tw12274256780947587003:True:=⟨⟩
theorem tw3436040953348231904:True:=⟨⟩
theorem tw17225890555602619104:True:=⟨⟩
theorem tw14003406518076274850:True:=⟨⟩
theorem tw4069687752174603861:True:=⟨⟩
end PySem.W.Fast
open_top MyHead for PySem.Challenge.rw_touchall_k25_halves_along_strings
end
-- CHANGE: your row's module here, as the last of these rows
noncomputable section
def aa:=@PySem.wpAny_bind
def ae:=@List.length_map
def af:=@PySem.Heap.get?_push_of_some
def ag:=@List.map_cons
def ah:=@List.size_toArray
def ai:=@Nat.le_refl
def aj:=@List.map_append
def ak:=@if_neg
def ao:=@PySem.wpAny_pure
def aq:=@if_pos
def au:=@List.getElem?_eq_some_iff
def av:=@Nat.lt_of_succ_lt
def aw:=@PySem.Paired.length
def ay:=@List.mem_of_getElem?
def az:=@Option.some.inj
def aA:=@PyProof.Rows.wpS_bind
def aB:=@List.length_append
def aC:=@List.getD_eq_getElem?_getD
def aD:=@PySem.Heap.lt_size
def aE:=@List.getElem?_map
def aF:=@List.mem_cons_of_mem
def aG:=@decide_eq_true
def aH:=@PyProof.Rows.wpS_pure
def aI:=@PySem.Heap.get?_push_size
def aJ:=@decide_eq_false
def aK:=@List.length_take
def aL:=@List.mem_map
def aM:=@List.mem_cons_self
def aO:=@Bool.false_ne_true
def aP:=@Nat.ne_of_lt
def aQ:=@List.append_assoc
def aR:=@List.take_length
def aS:=@List.mem_cons
def aU:=@List.mem_range
def aV:=@List.mem_singleton
def aW:=@Bool.false_eq_true
def aX:=@PySem.F.plainAttrs_list
def aY:=@PySem.F.type_list_append
def aZ:=@PySem.F.slot_list_append
def ba:=@List.getElem?_eq_none
def bb:=@PySem.W.mg_none_of
def bf:=@Nat.lt_of_lt_of_le
def bg:=@List.length_range
def bh:=@List.append_nil
def bj:=@Nat.zero_le
def bo:=@PySem.PassesOwn.never
def bp:=@List.getElem?_append_left
def bq:=@List.mem_iff_getElem
def br:=@List.length_drop
def bt:=@List.nodup_cons
def bu:=@List.mem_append
def bw:=@PySem.boot_len
def bz:=@List.map_map
def bA:=@Int.le_refl
def bB:=@Array.toList_append
def bC:=@PySem.F.plain_min_loop
def bD:=@Nat.le_trans
def bE:=@List.pairwise_append
def bF:=@PySem.Heap.get?_update_other
def bG:=@List.mem_append_right
def bH:=@Array.getElem?_toList
def bI:=@List.sum_append
def bJ:=@List.range_succ
def bK:=@List.pairwise_map
def bL:=@List.take_of_length_le
def bM:=@PySem.wpAny_seqItems
def bN:=@PyProof.Rows.boot_isinstance
def bO:=@beq_eq_false_iff_ne
def bP:=@List.mem_map_of_mem
def bQ:=@PyProof.Rows.wpS_forRange
def bR:=@PySem.wpAny_truthy_bool
def bS:=@congrArg
def bU:=@Int.le_of_lt
def bV:=@PySem.wpAny_holding
def bX:=@List.pairwise_iff_getElem
def bY:=@PySem.mem_of_lookup
def bZ:=@of_decide_eq_true
def cc:=@List.take_append_drop
def cg:=@PySem.W.kia_one
def cn:=@Int.le_trans
def cq:=@PySem.wpAny_field
def cu:=@Bool.and_eq_true
def cv:=@PySem.Around.under_plainId
def cw:=@Nat.lt_irrefl
def cx:=@PySem.wpAny_newObj_type
def cy:=@getElem?_pos
def cA:=@PyProof.Rows.boot_dict
def cB:=@List.getElem?_append_right
def cC:=@List.drop_eq_getElem_cons
def cD:=@List.map_nil
def cE:=@Sum.inl.inj
def cF:=@decide_eq_true_eq
def cG:=@Option.some.injEq
def cH:=@List.getElem?_range
def cJ:=@PyProof.Rows.callWith_type1
def cK:=@PySem.plainId_quiet
def cL:=@PySem.W.mg_of
def cM:=@PySem.wpAny_rule
def cN:=@PySem.F.slot_dict_get
def cP:=@Nat.le_of_ble_eq_true
def cQ:=@List.perm_append_comm
def cR:=@PySem.Heap.get?_update_self
def cS:=@PySem.codeAny_builtin
def cT:=@decide_true
def cU:=@Nat.lt_succ_of_lt
def cV:=@List.ext_getElem?
def cW:=@PySem.wpAny_mono
def cX:=@Ne.symm
def cY:=@PySem.wpAny_call_entry
def cZ:=@PySem.wpAny_callSpecial?_slot
def de:=@decide_eq_false_iff_not
def df:=@List.getElem_mem
def dg:=@PySem.wpAny_setField_rec
def dh:=@PySem.tupleKind_room_in1
def di:=@PyProof.Rows.boot_list
def dj:=@Option.map_eq_some_iff
def dk:=@Nat.ne_of_gt
def dm:=@List.pairwise_cons
def dq:=@List.drop_eq_nil_of_le
def dr:=@Int.mul_comm
def du:=@PyProof.Rows.wpS_mono
def dw:=@PySem.wpAny_passesOwn
def dy:=@PyProof.Rows.boot_sum
def dA:=@PyProof.Rows.boot_min
def dC:=@List.Perm.append_left
def dD:=@PySem.wpAny_tryCatch
def dE:=@List.drop_zero
def dF:=@Int.mul_add
def dG:=@PySem.Heap.size_push
def dH:=@PySem.F.slot_tuple_iterator_next
def dJ:=@Bool.and_false
def dM:=@Array.perm_iff_toList_perm
def dO:=@Nat.le_of_lt
def dP:=@PyProof.Rows.boot_sorted
def dQ:=@Option.isSome_iff_exists
def dR:=@PySem.F.slot_list_getattribute
def dU:=@List.mem_filter
def dW:=@Bool.eq_iff_iff
def dX:=@Int.lt_of_lt_of_le
def dY:=@PySem.wpAny_typeOf
def dZ:=@PySem.wpAny_pyIter_list
def ee:=@PySem.F.entry_min_loop
def eg:=@PySem.F.entry_dict_get
def eA:=@Int.add_zero
def eB:=@Array.toList_push
def eC:=@PyProof.Rows.slot_tuple_getitem
def eD:=@PyProof.Rows.wpS_modify
def eE:=@List.filter_cons
def eF:=@List.all_eq_true
def eG:=@Bool.not_true
def eI:=@PySem.wpAny_letGo
def eJ:=@Array.toList_reverse
def eK:=@List.length_set
def eL:=@List.reverse_append
def eM:=@List.length_reverse
def eN:=@List.getElem_of_mem
def eO:=@PyProof.Rows.wpS_get
def eP:=@PySem.wpAny_pyIter_tuple
def eQ:=@PySem.wpAny_Call_Name_kw
def eS:=@List.nodup_nil
def eT:=@Int.emod_lt_of_pos
def eU:=@PySem.Calls.spliced_cons
def eV:=@Array.getElem?_eq_some_iff
def eX:=@Classical.byContradiction
def eY:=@PySem.wpAny_of_eq
def eZ:=@PySem.slot_list_getitem
def fc:=@PySem.sizeLine_eq
def fe:=@Option.isSome_map
def fg:=@Nat.le_succ
def fh:=@List.reverse_cons
def fj:=@List.nodup_append
def fk:=@PySem.wpAny_newList
def fm:=@PySem.wpAny_getItem_list_slice
def fo:=@Nat.lt_succ_iff_lt_or_eq
def fq:=@List.Pairwise.imp_of_mem
def fu:=@beq_self_eq_true
def fw:=@Prod.ext
def fD:=@Nat.le_add_right
def fE:=@Nat.add_sub_cancel_left
def fF:=@PySem.wpAny_pyNext_list_item
def fG:=@decide_false
def fH:=@List.Perm.append_right
def fJ:=@PySem.Calls.callWith_builtin
def fK:=@Array.getElem?_extract
def fL:=@PySem.wpAny_updateSeq
def fM:=@PySem.wpAny_loadPart'
def fN:=@PySem.wpAny_execs_nil
def fO:=@Nat.min_eq_left
def fP:=@Int.emod_nonneg
def fQ:=@PySem.F.slot_zip_next
def fS:=@PySem.wpAny_pyNext_list_end
def fT:=@PySem.wpAny_isTrue_Compare1
def fU:=@PyProof.Rows.boot_int
def fV:=@PyProof.Rows.boot_all
def fW:=@List.length_filter_le
def fX:=@List.getElem?_reverse
def fY:=@PyProof.Rows.wpS_lift
def fZ:=@PySem.wpAny_updateSeq_pair
def gb:=@List.mem_append_left
def gc:=@Int.one_mul
def gf:=@PySem.Calls.evalArgs_plain
def gg:=@PySem.W.plainGet_of
def gh:=@List.map_congr_left
def gj:=@PySem.wpAny_onRaise
def gk:=@PySem.wpAny_attempt
def gp:=@Nat.add_assoc
def gq:=@beq_iff_eq
def gr:=@PyProof.Rows.Subscript_
def gu:=@PySem.SeqAt.EqAt.int_int
def gv:=@PySem.W.callWith_K
def gw:=@Nat.eq_zero_or_pos
def gz:=@List.filter_append
def gB:=@List.filterMap_map
def gC:=@Int.natCast_nonneg
def gD:=@PySem.Heap.IsSliceOf.new
def gF:=@Array.size_extract
def gG:=@PyProof.Rows.pairsOf_size
def gH:=@PySem.codeAny_mono
def gI:=@PySem.call_meetsIn
def gJ:=@Nat.zero_add
def gK:=@Nat.sub_self
def gL:=@List.getElem_take
def gM:=@List.getElem_drop
def gN:=@List.all_map
def gO:=@Int.mul_zero
def gP:=@PySem.Calls.spliced_nil
def gQ:=@Bool.eq_false_iff
def gR:=@Array.toList_eraseIdxIfInBounds
def gS:=@PySem.wpAny_isInstance
def gT:=@PySem.wpAny_eqBool_int
def gU:=@decide_eq_decide
def gW:=@Nat.succ_ne_self
def gX:=@Nat.lt_succ_self
def gY:=@List.getElem_inj
def gZ:=@Int.mul_le_mul_of_nonneg_right
def g6:=@Int.min_eq_right
def g9:=@Int.max_eq_right
def hG:=@PySem.F.slot_list_iadd
def hJ:=@PySem.seqIndex_of
def hU:=@PyProof.Rows.mirror_perm
def hV:=@Int.add_mul
def hX:=@PySem.SeqAt.EqAt.same
def hZ:=@List.of_mem_zip
def h8:=@List.forIn_cons
def h9:=@Int.min_eq_left
def ic:=@Int.max_eq_left
def ie:=@PySem.F.args_tuple_iterator_next_1
def ig:=@Array.getElem?_setIfInBounds
def ij:=@PySem.F.entry_tuple_iterator_next
def ik:=@PyProof.Rows.size_push'
def il:=@List.drop_drop
def ip:=@Int.mul_nonneg
def iq:=@Int.fdiv_eq_ediv_of_nonneg
def ir:=@PySem.Calls.Name_function_global
def iu:=@Array.toList_setIfInBounds
set_option Elab.async false
set_option linter.all false
set_option maxRecDepth 100000
theorem gE{α:Type}{l:List α}{i:Nat}(h:i<l.length):l[i]? =some l[i]:=List.getElem?_eq_getElem h
namespace L2
open PySem PySem.Spec PyProof.Rows
abbrev iF:=Sum Int Str
noncomputable def nM:iF->Value->Bool
 | .inl k,v=>Value.isInt k v
 | .inr x,v=>Value.isStrOf x v
noncomputable def Ds(w:World):iF->Int
 | .inl k=>hashInt k
 | .inr x=>hashStr w x
theorem mz:∀{k:iF} {v:Value},nM k v=true->(∃i t,k=Sum.inl i/\v=Value.int i t)\/(∃x t,k=Sum.inr x/\v=Value.str x t)
 | .inl i,v,h=>by
  obtain⟨t,e⟩:=Value.isInt_shape (k:=i) (v:=v) h
  exact .inl ⟨i,t,rfl,e⟩
 | .inr x,v,h=>by
  obtain⟨t,e⟩:=Value.isStrOf_shape (x:=x) (v:=v) h
  exact .inr ⟨x,t,rfl,e⟩
theorem FM(i:Int)(t:Tok):nM (.inl i) (.int i t)=true:=by simp[nM,Value.isInt]
theorem FN(x:Str)(t:Tok):nM (.inr x) (.str x t)=true:=by simp[nM,Value.isStrOf]
theorem Dr(a b:Int):decide ((Sum.inl a:iF)=Sum.inl b)=(a==b):=by
 by_cases e:a=b
 ·subst e;simp
 ·have h:¬(Sum.inl a:iF)=Sum.inl b:=fun q=>e (cE q)
  rw[aJ h]
  exact(bO.mpr e).symm
theorem Do(a b:Str):decide ((Sum.inr a:iF)=Sum.inr b)=decide (a=b):=by
 by_cases e:a=b
 ·subst e;simp
 ·have h:¬(Sum.inr a:iF)=Sum.inr b:=fun q=>e (Sum.inr.inj q)
  rw[aJ h,aJ e]
theorem Dq(a:Int)(b:Str):decide ((Sum.inl a:iF)=Sum.inr b)=false:=aJ (fun q=>nomatch q)
theorem Dp(a:Str)(b:Int):decide ((Sum.inr a:iF)=Sum.inl b)=false:=aJ (fun q=>nomatch q)
noncomputable def jO(prog:Program)(w:World):PySem.KeyKind prog w iF where
 is:=nM
 hash:=Ds w
 inj:=fun v a b ha hb=>by
  rcases mz ha with⟨i,t,rfl,rfl⟩|⟨x,t,rfl,rfl⟩
  ·rcases mz hb with⟨j,u,rfl,e⟩|⟨y,u,rfl,e⟩
   ·injection e with e1 _;rw[e1]
   ·exact nomatch e
  ·rcases mz hb with⟨j,u,rfl,e⟩|⟨y,u,rfl,e⟩
   ·exact nomatch e
   ·injection e with e1 _;rw[e1]
 byValue:=fun k v h=>by
  rcases mz h with⟨i,t,rfl,rfl⟩|⟨x,t,rfl,rfl⟩<;>rfl
 pyHash:=fun hv h=>by
  rcases mz hv with⟨i,t,rfl,rfl⟩|⟨x,t,rfl,rfl⟩
  ·exact wpAny_pyHash_int h
  ·exact wpAny_pyHash_str h
 eqBool:=fun hu hv h=>by
  rcases mz hu with⟨i,t,rfl,rfl⟩|⟨x,t,rfl,rfl⟩
  ·rcases mz hv with⟨j,u,rfl,rfl⟩|⟨y,u,rfl,rfl⟩
   ·rw[Dr]at h;exact gT h
   ·rw[Dq]at h;exact SeqAt.EqAt.int_str i t y u _ _ _ _ h
  ·rcases mz hv with⟨j,u,rfl,rfl⟩|⟨y,u,rfl,rfl⟩
   ·rw[Dp]at h;exact SeqAt.EqAt.str_int x t j u _ _ _ _ h
   ·rw[Do]at h;exact wpAny_eqBool_str h
 «strs»:=fun k x t v h=>by
  rcases mz h with⟨i,u,rfl,e⟩|⟨y,u,rfl,e⟩
  ·exact nomatch e
  ·injection e with e1 _
   subst e1
   cases v<;>rfl
theorem GP(prog:Program)(w:World)(i:Int)(t:Tok):(jO prog w).is (.inl i) (.int i t)=true:=FM i t
theorem GQ(prog:Program)(w:World)(x:Str)(t:Tok):(jO prog w).is (.inr x) (.str x t)=true:=FN x t
inductive V where
 |non|bl (b:Bool)|int (i:Int)|str (x:Str)|byt (b:Array UInt8)|flt (b:UInt64)|ref (a:Addr)|ty (n:String)
 deriving DecidableEq
def RelV:V->Value->Prop
 | .non,u=>u=Value.none
 | .bl b,u=>u=Value.bool b
 | .int i,u=>∃t,u=Value.int i t
 | .str x,u=>∃t,u=Value.str x t
 | .byt b,u=>∃t,u=Value.bytes b t
 | .flt b,u=>∃t,u=Value.float b t
 | .ref a,u=>u=Value.ref a
 | .ty n,u=>u=Value.type n
abbrev Vals:List V->List Value->Prop:=Paired RelV
theorem Vals.length{xs:List V}{us:List Value}(r:Vals xs us):xs.length=us.length:=aw r
theorem Vals.get:∀{xs:List V} {us:List Value} {i:Nat} {x:V},Vals xs us->xs[i]? =some x->∃u,us[i]? =some u/\RelV x u
 |_,_,_,_,.nil,e=>by simp at e
 |_,_,0,_,.cons r _,e=>by simp at e;subst e;exact⟨_,rfl,r⟩
 |_,_,i+1,x,.cons _ t,e=>by
  obtain⟨u,h1,h2⟩:=Vals.get (i:=i) (x:=x) t (by simpa using e)
  exact⟨u,by simpa using h1,h2⟩
theorem Vals.set{x:V}{u:Value}(r:RelV x u):∀{xs:List V} {us:List Value} (i:Nat),Vals xs us->Vals (xs.set i x) (us.set i u)
 |_,_,_,.nil=>.nil
 |_,_,0,.cons _ t=>.cons r t
 |_,_,i+1,.cons q t=>.cons q (Vals.set r i t)
theorem Vals.append:∀{xs ys:List V} {us ws:List Value},Vals xs us->Vals ys ws->Vals (xs++ys) (us++ws)
 |_,_,_,_,.nil,s=>s
 |_,_,_,_,.cons r t,s=>.cons r (Vals.append t s)
theorem Vals.take:∀{xs:List V} {us:List Value} (n:Nat),Vals xs us->Vals (xs.take n) (us.take n)
 |_,_,0,_=>.nil
 |_,_,_+1,.nil=>.nil
 |_,_,n+1,.cons r t=>.cons r (Vals.take n t)
theorem Vals.drop:∀{xs:List V} {us:List Value} (n:Nat),Vals xs us->Vals (xs.drop n) (us.drop n)
 |_,_,0,r=>r
 |_,_,_+1,.nil=>.nil
 |_,_,n+1,.cons _ t=>Vals.drop n t
def RelO:Option V->Option Value->Prop
 |some v,some u=>RelV v u
 |none,none=>True
 |_,_=>False
def KV{κ:Type}:List (κ×V)->List (κ×Value)->Prop:=Paired fun(p:κ×V) (q:κ×Value)=>p.1=q.1/\RelV p.2 q.2
noncomputable def kV:iF->V
 | .inl i=>.int i
 | .inr x=>.str x
inductive HO where
 |lst (xs:List V)
 |tup (xs:List V)
 |dK (kvs:List (iF×V))|dT (kvs:List (List iF×V))
 |set (S:Int->Bool) (n:Nat)
 |ins (C dx:Addr) (fs:List (Str×V))
 |own (x:Addr)
 |xd (fs:List (Str×V))
 |met (f x:Addr)
 |rng (lo hi:Int)
 |frz (o:Obj) (u:HO)
 |tbl (ps:Array Value)
 |ext (φ:Heap->Prop)
abbrev Hp:=Addr->Option HO
noncomputable def upd(H:Hp)(a:Addr)(o:HO):Hp:=fun b=>if b=a then some o else H b
theorem iD{H:Hp}{a:Addr}{o:HO}:upd H a o a=some o:=by unfold upd;rw[aq rfl]
theorem iL{H:Hp}{a b:Addr}{o:HO}(h:b≠a):upd H a o b=H b:=by unfold upd;rw[ak h]
theorem zc{H:Hp}{a:Addr}{o u:HO}:upd (upd H a o) a u=upd H a u:=by
 funext b;unfold upd;split<;>rfl
theorem nO{H:Hp}{a b:Addr}{o u:HO}(h:H a=some o)(h':H b=some u)(d:o≠u):a≠b:=by
 intro e;subst e;rw[h]at h';exact d (az h')
theorem iX{H:Hp}{a b:Addr}{o:HO}(h:H a=some o)(h':H b=none):a≠b:=by
 intro e;subst e;rw[h]at h';cases h'
section
variable(P:Program)(w:World)
def jbp(H:Hp)(h:Heap)(a:Addr):HO->Prop
 | .lst xs=>xs.length<=sizeLine/\∃(its:List Value) (n:Nat),Vals xs its/\h.get? a=some {cls:=.type "list",data:=.seq its.toArray n}
 | .tup xs=>xs.length<=sizeLine/\∃its:List Value,Vals xs its/\IsTup h a its.toArray
 | .dK kvs=>kvs.length<=sizeLine/\(a==sysModules)=false/\∃vs,KV kvs vs/\h.DictOf (jO P w) a vs
 | .dT kvs=>kvs.length<=sizeLine/\(a==sysModules)=false/\∃xs:List (List iF×Addr×Value),
   Paired (fun(p:List iF×V) (q:List iF×Addr×Value)=>p.1=q.1/\H q.2.1=some (.tup (p.1.map kV))/\RelV p.2 q.2.2) kvs xs/\
   ∃o es ep,h.get? a=some o/\o.ExactDict/\o.data= .dict es ep/\es.toList=xs.map (entryOfKey (tupleKind (jO P w)))/\(xs.map (·.1)).Nodup
 | .set S n=>h.SetOf (intKind P w) a S n
 | .ins C dx fs=>H dx=some (.own a)/\fs.length<=1000/\dx≠a/\h.get? a=some (PySem.W.instObj C dx)/\
   ∃mA,h.Ns1 dx mA/\(∀f,RelO (fs.lookup f) (mA f))/\PySem.Within mA (fs.map (·.1))
 | .own _=>∃o,h.get? a=some o
 | .xd fs=>∃mA,h.Ns1 a mA/\∀f,RelO (fs.lookup f) (mA f)
 | .rng lo hi=>∃t u v,h.get? a=some {cls:=.type "range",data:=.fields #[.int lo t,.int hi u,.int 1 v]}
 | .frz o u=>h.get? a=some o/\jbp H h a u
 | .tbl ps=>h.get? a=some {cls:=.none,data:=.fields ps}
 | .met f x=>h.get? a=some (PySem.W.methodObj (.ref f) (.ref x))
 | .ext φ=>φ h/\(∃o,h.get? a=some o)/\∀h1 h2:Heap,φ h1->(∀o,h1.get? a=some o->h2.get? a=some o)->φ h2
def HOk(H:Hp)(h:Heap):Prop:=∀a o,H a=some o->jbp P w H h a o
end
section
variable{P:Program}{w:World}{H H':Hp}{h h':Heap}{a:Addr}{o:HO}
theorem jbp.lt(x:jbp P w H h a o):a<h.objs.size:=by
 cases o with
 |lst xs=>obtain⟨_,_,_,_,e⟩:=x;exact aD e
 |tup xs=>obtain⟨_,_,_,p⟩:=x;exact p.lt
 |dK kvs=>obtain⟨_,_,_,_,o,_,_,e,_⟩:=x;exact aD e
 |dT kvs=>obtain⟨_,_,_,_,o,_,_,e,_⟩:=x;exact aD e
 |set S n=>obtain⟨o,_,_,_,e,_⟩:=x;exact aD e
 |ins C dx fs=>obtain⟨_,_,_,e,_⟩:=x;exact aD e
 |own y=>obtain⟨_,e⟩:=x;exact aD e
 |xd fs=>obtain⟨_,⟨_,_,_,e,_⟩,_⟩:=x;exact aD e
 |rng lo hi=>obtain⟨_,_,_,e⟩:=x;exact aD e
 |frz ob u=>obtain⟨e,_⟩:=x;exact aD e
 |tbl ps=>exact aD (show h.get? a=some _ from x)
 |met f y=>exact aD (show h.get? a=some _ from x)
 |ext φ=>obtain⟨_,⟨_,e⟩,_⟩:=x;exact aD e
theorem Paired.mapP{α β:Type}{F G:α->β->Prop}:∀{l₁:List α} {l₂:List β},Paired F l₁ l₂->(∀a b,F a b->G a b)->Paired G l₁ l₂
 |_,_,.nil,_=>.nil
 |_,_,.cons r t,f=>.cons (f _ _ r) (Paired.mapP t f)
theorem Paired.imp'{α β:Type}{F G:α->β->Prop}(f:∀a b,F a b->G a b){l₁:List α}{l₂:List β}(r:Paired F l₁ l₂):Paired G l₁ l₂:=Paired.mapP r f
theorem jbp.stay(x:jbp P w H h a o)(k:∀b u,(b=a\/H b=some (.own a))->h.get? b=some u->h'.get? b=some u)
  (ho:∀b,H b=some (.own a)->H' b=some (.own a)) (ht:∀b xs,H b=some (.tup xs)->H' b=some (.tup xs)):jbp P w H' h' a o:=by
 induction o with
 |lst xs=>obtain⟨z,its,n,r,e⟩:=x;exact⟨z,its,n,r,k _ _ (.inl rfl) e⟩
 |tup xs=>obtain⟨z,its,r,ob,e,c⟩:=x;exact⟨z,its,r,ob,k _ _ (.inl rfl) e,c⟩
 |dK kvs=>obtain⟨z,y,vs,r,ob,es,ep,e,c⟩:=x;exact⟨z,y,vs,r,ob,es,ep,k _ _ (.inl rfl) e,c⟩
 |dT kvs=>
  obtain⟨z,y,xs,r,ob,es,ep,e,c⟩:=x
  exact⟨z,y,xs,Paired.mapP r fun p q z=>⟨z.1,ht _ _ z.2.1,z.2.2⟩,ob,es,ep,k _ _ (.inl rfl) e,c⟩
 |set S n=>obtain⟨ob,es,ep,t,e,c⟩:=x;exact⟨ob,es,ep,t,k _ _ (.inl rfl) e,c⟩
 |ins C dx fs=>
  obtain⟨d,z,ne,e,mA,⟨od,es,ep,e2,c⟩,r⟩:=x
  exact⟨ho _ d,z,ne,k _ _ (.inl rfl) e,mA,⟨od,es,ep,k _ _ (.inr d) e2,c⟩,r⟩
 |own y=>obtain⟨ob,e⟩:=x;exact⟨ob,k _ _ (.inl rfl) e⟩
 |xd fs=>obtain⟨mA,⟨od,es,ep,e,c⟩,r⟩:=x;exact⟨mA,⟨od,es,ep,k _ _ (.inl rfl) e,c⟩,r⟩
 |rng lo hi=>obtain⟨t,u,v,e⟩:=x;exact⟨t,u,v,k _ _ (.inl rfl) e⟩
 |frz ob u ih=>obtain⟨e,q⟩:=x;exact⟨k _ _ (.inl rfl) e,ih q⟩
 |tbl ps=>
  have e:h.get? a=some {cls:=.none,data:=.fields ps}:=x
  show h'.get? a=some {cls:=.none,data:=.fields ps}
  exact k a _ (.inl rfl) e
 |met f y=>
  have e:h.get? a=some (PySem.W.methodObj (.ref f) (.ref y)):=x
  show h'.get? a=some (PySem.W.methodObj (.ref f) (.ref y))
  exact k a _ (.inl rfl) e
 |ext φ=>obtain⟨p,⟨o,e⟩,st⟩:=x;exact⟨st _ _ p fun o q=>k _ _ (.inl rfl) q,⟨o,k _ _ (.inl rfl) e⟩,st⟩
theorem HOk.lt(x:HOk P w H h)(e:H a=some o):a<h.objs.size:=(x a o e).lt
theorem HOk.fresh(x:HOk P w H h)(e:h.objs.size<=a):H a=none:=by
 cases q:H a with
 |none=>rfl
 |some u=>exact absurd (bf (x.lt q) e) (cw _)
theorem HOk.kept(x:HOk P w H h)(k:∀b u,h.get? b=some u->h'.get? b=some u):HOk P w H h':=fun a o e=>
 (x a o e).stay (fun b u _ q=>k b u q) (fun _ q=>q) fun _ _ q=>q
theorem HOk.laid(x:HOk P w H h)(k:∀b u,h.get? b=some u->h'.get? b=some u)(hp:h.objs.size<=a)(new:jbp P w (upd H a o) h' a o):HOk P w (upd H a o) h':=fun b u e=>by
 have hn:=x.fresh hp
 by_cases hb:b=a
 ·subst hb;rw[iD]at e;cases e;exact new
 ·rw[iL hb]at e
  exact(x b u e).stay (fun c v _ q=>k c v q) (fun c q=>by rw[iL (iX q hn)];exact q) fun c xs q=>by rw[iL (iX q hn)];exact q
end
def Rd(H:Hp)(a:Addr)(u:HO):Prop:=H a=some u\/∃o,H a=some (.frz o u)
theorem Rd.of{H:Hp}{a:Addr}{u:HO}(h:H a=some u):Rd H a u:=.inl h
theorem Rd.ok{P:Program}{w:World}{H:Hp}{h:Heap}{a:Addr}{u:HO}(r:Rd H a u)(x:HOk P w H h):jbp P w H h a u:=by
 rcases r with r|⟨o,r⟩
 ·exact x a u r
 ·obtain⟨_,q⟩:=x a _ r
  exact q
def qr:Option HO->Prop
 |some (.lst _)=>True
 |some (.dK _)=>True
 |some (.dT _)=>True
 |some (.set _ _)=>True
 |some (.ins _ _ _)=>True
 |some (.ext _)=>True
 |_=>False
section
variable{P:Program}{w:World}{H:Hp}{h h':Heap}{x e:Addr}{o':HO}
theorem HOk.write(ok:HOk P w H h)(mu:qr (H x))(he:e=x\/H e=some (.own x))(k:∀b u,b≠e->h.get? b=some u->h'.get? b=some u)(heo:∃u,h'.get? e=some u)
  (new:jbp P w (upd H x o') h' x o'):HOk P w (upd H x o') h':=fun b u q=>by
 have nown:∀c y,H c=some (.own y)->c≠x:=fun c y r z=>by subst z;rw[r]at mu;exact mu
 have ntup:∀c xs,H c=some (.tup xs)->c≠x:=fun c xs r z=>by subst z;rw[r]at mu;exact mu
 by_cases hb:b=x
 ·subst hb;rw[iD]at q;cases q;exact new
 ·rw[iL hb]at q
  by_cases hbe:b=e
  ·have q':H b=some (.own x):=by
    rcases he with z|z
    ·exact absurd (hbe.trans z) hb
    ·rw[hbe];exact z
   rw[q]at q';cases q'
   obtain⟨v,hv⟩:=heo
   exact⟨v,by rw[hbe];exact hv⟩
  ·refine(ok b u q).stay (fun c v hc r=>k c v ?_ r) (fun c r=>by rw[iL (nown c b r)];exact r) fun c xs r=>by rw[iL (ntup c xs r)];exact r
   rcases hc with rfl|hc
   ·exact hbe
   ·rintro rfl
    rcases he with z|z
    ·exact nown c b hc z
    ·rw[hc]at z;cases z;exact hb rfl
end
structure Un(fs ex:List Addr)(H H':Hp)(h h':Heap):Prop where
 keep:∀b o,h.get? b=some o->H b=none->b∉fs->b∉ex->h'.get? b=some o
 slot:∀b o,h.get? b=some o->H b=none->b∈fs->b∉ex->∃sl,h'.get? b=some {o with slots:=sl}
 free:∀b o,h.get? b=some o->H b=none->b∉ex->H' b=none
 there:∀b o,h.get? b=some o->b∉ex->∃o',h'.get? b=some o'
 tups:∀b xs,H b=some (.tup xs)->H' b=some (.tup xs)
 frzs:∀b o u,H b=some (.frz o u)->H' b=some (.frz o u)
 tbls:∀b ps,H b=some (.tbl ps)->∃more,H' b=some (.tbl (ps++more))
section
variable{fs fs' ex ex':List Addr}{H H1 H2:Hp}{h h1 h2 h':Heap}{a x e:Addr}{o:HO}
theorem Un.any(u:Un fs ex H H1 h h1){b:Addr}{ob:Obj}(q:h.get? b=some ob)(n:H b=none)(hx:b∉ex):∃sl,h1.get? b=some {ob with slots:=sl}:=by
 by_cases hb:b∈fs
 ·exact u.slot b ob q n hb hx
 ·exact⟨ob.slots,u.keep b ob q n hb hx⟩
theorem Un.kept(k:∀b u,h.get? b=some u->h'.get? b=some u):Un fs ex H H h h':=
 ⟨fun b ob q _ _ _=>k b ob q,fun b ob q _ _ _=>⟨ob.slots,k b ob q⟩,fun _ _ _ n _=>n,fun b ob q _=>⟨ob,k b ob q⟩,fun _ _ q=>q,fun _ _ _ q=>q,fun _ ps q=>⟨#[],by rw[q];simp⟩⟩
theorem Un.refl:Un fs ex H H h h:=Un.kept fun _ _ q=>q
theorem Un.laid(k:∀b u,h.get? b=some u->h'.get? b=some u)(hp:h.objs.size<=a)(hn:H a=none):Un fs ex H (upd H a o) h h' where
 keep:=fun b u q _ _ _=>k b u q
 slot:=fun b u q _ _ _=>⟨u.slots,k b u q⟩
 free:=fun b u q n _=>by rw[iL (aP (bf (aD q) hp))];exact n
 there:=fun b u q _=>⟨u,k b u q⟩
 tups:=fun b xs q=>by rw[iL (iX q hn)];exact q
 frzs:=fun b u xs q=>by rw[iL (iX q hn)];exact q
 tbls:=fun b ps q=>⟨#[],by rw[iL (iX q hn),q];simp⟩
theorem Un.write(mu:qr (H x))(he:e=x\/H e=some (.own x))(k:∀b u,b≠e->h.get? b=some u->h'.get? b=some u)(heo:∃u,h'.get? e=some u):Un fs ex H (upd H x o) h h':=by
 have hx:∀b,H b=none->b≠x:=fun b n z=>by subst z;rw[n]at mu;exact mu
 have hb:∀b,H b=none->b≠e:=fun b n z=>by
  subst z
  rcases he with r|r
  ·exact hx b n r
  ·rw[n]at r;cases r
 have hm:∀b u,H b=some u->¬qr (some u)->b≠x:=fun b u q nm z=>by subst z;rw[q]at mu;exact nm mu
 refine⟨fun b u q n _ _=>k b u (hb b n) q,fun b u q n _ _=>⟨u.slots,k b u (hb b n) q⟩,fun b u q n _=>by rw[iL (hx b n)];exact n,fun b u q _=>?_,
  fun b xs q=>by rw[iL (hm b _ q fun z=>z)];exact q,fun b u xs q=>by rw[iL (hm b _ q fun z=>z)];exact q,fun b ps q=>⟨#[],by rw[iL (hm b _ q fun z=>z),q];simp⟩⟩
 by_cases hbe:b=e
 ·subst hbe;exact heo
 ·exact⟨u,k b u hbe q⟩
theorem Un.mono(u:Un fs ex H H1 h h1)(hs:∀b∈fs,b∈fs')(hx:∀b∈ex,b∈ex'):Un fs' ex' H H1 h h1:=
 ⟨fun b ob q n hb he=>u.keep b ob q n (fun z=>hb (hs b z)) fun z=>he (hx b z),fun _ _ q n _ he=>u.any q n fun z=>he (hx _ z),fun b ob q n he=>u.free b ob q n fun z=>he (hx b z),fun b ob q he=>u.there b ob q fun z=>he (hx b z),u.tups,u.frzs,u.tbls⟩
end
noncomputable def qx(h:Heap)(H:Hp):List Addr:=(List.range h.objs.size).filter fun a=>(H a).isSome
noncomputable def mU(h:Heap)(H:Hp):Heap:=PySem.W.hideAll h (qx h H)
theorem FI(h:Heap)(H:Hp):(mU h H).objs.size=h.objs.size:=PySem.W.hideAll_size _ _
theorem ED{h:Heap}{H:Hp}{b:Addr}{o:Obj}(e:h.get? b=some o)(n:H b=none):(mU h H).get? b=some o:=
 PySem.W.hideAll_get _ e fun hm=>by
  have q:(H b).isSome=true:=(dU.mp hm).2
  rw[n]at q;simp at q
theorem DU{h:Heap}{H:Hp}{b:Addr}{o:Obj}(e:(mU h H).get? b=some o):h.get? b=some o/\H b=none:=by
 have e':h.get? b=some o:=PySem.W.of_hideAll (qx h H) e
 refine⟨e',?_⟩
 cases q:H b with
 |none=>rfl
 |some x=>
  have hm:b∈qx h H:=dU.mpr ⟨aU.mpr (aD e'),by simp[q]⟩
  have z:(mU h H).get? b=none:=PySem.W.hideAll_none (qx h H) hm
  rw[z]at e;cases e
structure Mod(K:PySem.W.Frag)(mg:Str->Option Value)(base:Heap):Prop where
 kin:K.In base
 glob:base.Ns mainGlobals mg
 blt:∃mb,base.Ns builtinsNs mb/\∀x:Str,x≠"__name__"->mb x=bootBuiltins x
 nolimit:base.NoLimit
structure Cx where
 prog:Program
 w:World
 K:PySem.W.Frag
 mg:Str->Option Value
 base:Heap
 A:Around
 N:List Str
 s₀:Shared
 H₀:Hp
 env:Env
 outer:List Env
 stack:List Env
 ex:List Addr
 fn:Str->Bool
 calm:Bool
 pn:List (Addr×Obj)
 xe:Value->Shared->Prop
noncomputable def kX(l:List Env):List Addr:=l.filterMap (·.frame)
noncomputable abbrev Cx.fs(X:Cx):List Addr:=kX X.outer
def sO(sc:Scope)(x:Str):Prop:=sc.names.lookup x=some .local\/sc.names.lookup x=some .cell\/sc.names.lookup x=some .free
def Loc(sc:Scope)(x:Str):Prop:=sc.names.lookup x=some .local\/sc.names.lookup x=some .cell
def Look(env:Env)(h:Heap)(m:Str->Option Value)(x:Str)(u:Value):Prop:=
 (env.kindOf x=some .local/\m x=some u)\/((env.kindOf x=some .cell\/env.kindOf x=some .free)/\∃c,env.cells.lookup x=some c/\h.IsCell c (some u))
structure Cx.Ok(X:Cx):Prop where
 mod:Mod X.K X.mg X.base
 kind:X.env.scope.kind= .function
 glob:X.env.globals=mainGlobals
 blt:X.env.builtins=builtinsNs
 above:X.s₀.heap.objs.size<=X.env.locals
 inj:∀x y c,X.env.cells.lookup x=some c->X.env.cells.lookup y=some c->x=y
 has:∀x,(X.env.kindOf x=some .cell\/X.env.kindOf x=some .free)->∃c,X.env.cells.lookup x=some c
 cab:∀x c,X.fn x=true->X.env.cells.lookup x=some c->X.s₀.heap.objs.size<=c
 hd:X.calm=true->X.A.handled=none
 frames:X.A.frames=some X.stack
 stk:X.stack=X.outer\/(X.stack=X.env::X.outer/\X.env.frame=some X.env.locals)
 exf:∀b∈X.ex,b≠X.env.locals/\∀x c,X.env.cells.lookup x=some c->c≠b
 bs:∀b o,X.base.get? b=some o->X.s₀.heap.get? b=some o/\X.H₀ b=none
 bsz:X.base.objs.size<=X.s₀.heap.objs.size
 noex:∀b o,X.base.get? b=some o->b∉X.ex
 exfs:∀b∈X.ex,b∉X.fs
 funs:X.s₀.heap.FunFrames X.base X.outer
 frf:∀b∈X.fs,X.H₀ b=none
structure Inv(X:Cx)(pins:List (Addr×Obj))(σ:List (Option V))(H:Hp)(s:Shared):Prop where
 ok:X.Ok
 os:s.os=X.s₀.os
 bare:AllBare s.gens
 base:Un X.fs X.ex X.H₀ H X.s₀.heap s.heap
 loc:∃m,s.heap.Ns X.env.locals m/\∀(i:Nat) (x:Str) (v:V),X.N[i]? =some x->σ[i]? =some (some v)->sO X.env.scope x->∃u,RelV v u/\Look X.env s.heap m x u
 cell:∀x c,X.env.cells.lookup x=some c->∃v,s.heap.IsCell c v
 free:H X.env.locals=none
 freeC:∀x c,X.env.cells.lookup x=some c->H c=none
 pin:∀p∈X.pn++pins,s.heap.get? p.1=some p.2/\H p.1=none/\p.1≠X.env.locals/\p.1∉X.fs/\∀v,p.2.data≠ .cell v
 hok:HOk X.prog X.w H s.heap
 len:σ.length=X.N.length
section
variable{X:Cx}{pins:List (Addr×Obj)}{σ:List (Option V)}{H H':Hp}{s:Shared}{h':Heap}
theorem Cx.Ok.nofr(ok:X.Ok){b:Addr}{o:Obj}(e:X.base.get? b=some o):b∉X.fs:=fun hb=>by
 have:=(ok.funs.mem hb).1
 rw[e]at this;cases this
theorem Inv.bs(I:Inv X pins σ H s):∀b o,X.base.get? b=some o->s.heap.get? b=some o/\H b=none:=fun b o e=>
 ⟨I.base.keep b o (I.ok.bs b o e).1 (I.ok.bs b o e).2 (I.ok.nofr e) (I.ok.noex b o e),I.base.free b o (I.ok.bs b o e).1 (I.ok.bs b o e).2 (I.ok.noex b o e)⟩
theorem Inv.bk(I:Inv X pins σ H s):∀b o,X.base.get? b=some o->s.heap.get? b=some o:=fun b o e=>(I.bs b o e).1
theorem Inv.mod(I:Inv X pins σ H s):Mod X.K X.mg X.base:=I.ok.mod
theorem Inv.kIn(I:Inv X pins σ H s):X.K.In s.heap:=I.ok.mod.kin.keeps I.bk
theorem Inv.fr(I:Inv X pins σ H s):∃m,Fr X.base X.env.locals s.heap m:=
 let⟨m,hn,_⟩:=I.loc
 ⟨m,hn,I.bk,bD I.ok.bsz I.ok.above⟩
theorem Inv.lt(I:Inv X pins σ H s):X.env.locals<s.heap.objs.size:=let⟨_,hn,_⟩:=I.loc;hn.lt
theorem Inv.sz(I:Inv X pins σ H s):X.s₀.heap.objs.size<=s.heap.objs.size:=bD I.ok.above (dO I.lt)
theorem Inv.nofs(I:Inv X pins σ H s){a:Addr}(h:s.heap.objs.size<=a):a∉X.fs:=fun hb=>by
 obtain⟨_,o,ho,_⟩:=I.ok.funs.mem hb
 exact absurd (bf (aD ho) (bD I.sz h)) (cw _)
theorem Inv.cne(I:Inv X pins σ H s):∀x c,X.env.cells.lookup x=some c->c≠X.env.locals:=fun x c e z=>by
 obtain⟨v,o,ho,hd⟩:=I.cell x c e
 obtain⟨m,⟨o',es,ep,ho',hd',_⟩,_⟩:=I.loc
 rw[z,ho']at ho;cases ho;rw[hd']at hd;cases hd
theorem Inv.funs(I:Inv X pins σ H s):s.heap.FunFrames X.base X.outer:=by
 have all:∀(l:List Env),(∀b∈kX l,b∈X.fs)->X.s₀.heap.FunFrames X.base l->s.heap.FunFrames X.base l:=by
  intro l
  induction l with
  |nil=>intro _ _;trivial
  |cons env r ih=>
   intro hs hl
   obtain⟨hk,⟨L,o,hf,hn,ho,hd⟩,hr⟩:=hl
   have hL:L∈X.fs:=hs L (by unfold kX;rw[List.filterMap_cons,hf];exact aM)
   obtain⟨sl,e⟩:=I.base.slot L o ho (I.ok.frf L hL) hL fun z=>I.ok.exfs L z hL
   exact⟨hk,⟨L,_,hf,hn,e,hd⟩,ih (fun b hb=>hs b (by unfold kX;rw[List.filterMap_cons,hf];exact aF _ hb)) hr⟩
 exact all X.outer (fun _ hb=>hb) I.ok.funs
theorem Inv.stack(I:Inv X pins σ H s):s.heap.FunFrames X.base X.stack:=by
 rcases I.ok.stk with e|⟨e,hf⟩
 ·rw[e];exact I.funs
 ·rw[e]
  obtain⟨m,hn,_⟩:=I.loc
  refine .cons (by rw[I.ok.kind];decide) hf hn ?_ I.funs
  exact Heap.get?_none_of_le (bD I.ok.bsz I.ok.above)
theorem Inv.stkSub(I:Inv X pins σ H s):∀b∈kX X.stack,b∈X.env.locals::X.fs:=fun b hb=>by
 rcases I.ok.stk with e|⟨e,hf⟩
 ·rw[e]at hb;exact aF _ hb
 ·rw[e]at hb
  unfold kX at hb
  rw[List.filterMap_cons,hf]at hb
  exact hb
theorem Inv.stkFree(I:Inv X pins σ H s):∀b∈kX X.stack,H b=none:=fun b hb=>by
 rcases aS.mp (I.stkSub b hb)with e|hb
 ·rw[e];exact I.free
 ·obtain⟨_,o,ho,_⟩:=I.ok.funs.mem hb
  exact I.base.free b o ho (I.ok.frf b hb) fun z=>I.ok.exfs b z hb
theorem Inv.step{g':Array GenState}{t':Nat}{d':Drawn}{ch:List Addr}(I:Inv X pins σ H s)
  (hch:∀b∈ch,(b∈X.ex\/X.s₀.heap.objs.size<=b)/\b≠X.env.locals/\(∀x c,X.env.cells.lookup x=some c->c≠b)/\∀p∈X.pn++pins,p.1≠b)
  (keep:∀b o,b≠X.env.locals->b∉X.fs->b∉ch->s.heap.get? b=some o->H b=none->h'.get? b=some o)
  (slot:∀b o,b≠X.env.locals->b∈X.fs->b∉ch->s.heap.get? b=some o->H b=none->∃sl,h'.get? b=some {o with slots:=sl}) (free:∀b o,b∉ch->s.heap.get? b=some o->H b=none->H' b=none)
  (there:∀b o,b∉ch->s.heap.get? b=some o->∃o',h'.get? b=some o')
  (tups:∀b xs,H b=some (.tup xs)->H' b=some (.tup xs)) (frzs:∀b o u,H b=some (.frz o u)->H' b=some (.frz o u)) (tbls:∀b ps,H b=some (.tbl ps)->∃more,H' b=some (.tbl (ps++more)))
  (ns:∀m,s.heap.Ns X.env.locals m->h'.Ns X.env.locals m) (hok:HOk X.prog X.w H' h') (hg:AllBare g'):
  Inv X pins σ H' {s with heap:=h',gens:=g',drawn:=d',toks:=t'}:=by
 have neL:∀b o,X.s₀.heap.get? b=some o->b≠X.env.locals:=fun b o e=>aP (bf (aD e) I.ok.above)
 have neC:∀b o,X.s₀.heap.get? b=some o->b∉X.ex->b∉ch:=fun b o e hx hb=>by
  rcases(hch b hb).1 with z|z
  ·exact hx z
  ·exact absurd (bf (aD e) z) (cw _)
 have cellK:∀x c,X.env.cells.lookup x=some c->∀v,s.heap.IsCell c v->h'.IsCell c v:=fun x c e v ⟨o,ho,hd⟩=>by
  have nch:c∉ch:=fun z=>(hch c z).2.2.1 x c e rfl
  by_cases hc:c∈X.fs
  ·obtain⟨sl,q⟩:=slot c o (I.cne x c e) hc nch ho (I.freeC x c e)
   exact⟨_,q,hd⟩
  ·exact⟨o,keep c o (I.cne x c e) hc nch ho (I.freeC x c e),hd⟩
 refine⟨I.ok,I.os,hg,⟨fun b o e n hb hx=>?_,fun b o e n hb hx=>?_,fun b o e n hx=>?_,fun b o e hx=>?_,fun b xs e=>tups b xs (I.base.tups b xs e),fun b o xs e=>frzs b o xs (I.base.frzs b o xs e),fun b ps e=>?_⟩,?_,fun x c e=>?_,?_,fun x c e=>?_,fun p hp=>?_,hok,I.len⟩
 ·exact keep b o (neL b o e) hb (neC b o e hx) (I.base.keep b o e n hb hx) (I.base.free b o e n hx)
 ·obtain⟨sl,e1⟩:=I.base.slot b o e n hb hx
  obtain⟨sl',e2⟩:=slot b _ (neL b o e) hb (neC b o e hx) e1 (I.base.free b o e n hx)
  exact⟨sl',e2⟩
 ·obtain⟨o',e1⟩:=I.base.there b o e hx
  exact free b o' (neC b o e hx) e1 (I.base.free b o e n hx)
 ·obtain⟨o',e1⟩:=I.base.there b o e hx
  exact there b o' (neC b o e hx) e1
 ·obtain⟨m1,e1⟩:=I.base.tbls b ps e
  obtain⟨m2,e2⟩:=tbls b _ e1
  exact⟨m1++m2,by rw[e2,Array.append_assoc]⟩
 ·obtain⟨m,hn,hl⟩:=I.loc
  refine⟨m,ns m hn,fun i x v e1 e2 e3=>?_⟩
  obtain⟨u,r,l⟩:=hl i x v e1 e2 e3
  refine⟨u,r,?_⟩
  rcases l with l|⟨k,c,e,z⟩
  ·exact .inl l
  ·exact .inr ⟨k,c,e,cellK x c e _ z⟩
 ·obtain⟨v,z⟩:=I.cell x c e
  exact⟨v,cellK x c e v z⟩
 ·obtain⟨m,⟨o,_,_,ho,_⟩,_⟩:=I.loc
  exact free _ o (fun z=>(hch _ z).2.1 rfl) ho I.free
 ·obtain⟨v,o,ho,hd⟩:=I.cell x c e
  exact free c o (fun z=>(hch c z).2.2.1 x c e rfl) ho (I.freeC x c e)
 ·obtain⟨e,n,ne,nf,d⟩:=I.pin p hp
  have nch:p.1∉ch:=fun z=>(hch p.1 z).2.2.2 p hp rfl
  exact⟨keep p.1 p.2 ne nf nch e n,free p.1 p.2 nch e n,ne,nf,d⟩
theorem Inv.un{t':Nat}(I:Inv X pins σ H s)(u:Un X.fs [] H H' s.heap h')(hok:HOk X.prog X.w H' h'):Inv X pins σ H' {s with heap:=h',toks:=t'}:=by
 obtain⟨m,⟨o,es,ep,ho,r⟩,_⟩:=id I.loc
 obtain⟨sl,hL⟩:=u.any ho I.free (by simp)
 exact I.step (g':=s.gens) (d':=s.drawn) (ch:=[]) (fun _ z=>nomatch z) (fun b o _ hb _ e n=>u.keep b o e n hb (by simp)) (fun b o _ hb _ e n=>u.slot b o e n hb (by simp)) (fun b o _ e n=>u.free b o e n (by simp)) (fun b o _ e=>u.there b o e (by simp)) u.tups u.frzs u.tbls (fun m' hm=>by
  obtain⟨o',es',ep',ho',r'⟩:=hm
  rw[ho]at ho';cases ho'
  exact⟨_,es',ep',hL,r'⟩) hok I.bare
theorem Inv.call{g':Array GenState}{t':Nat}{d':Drawn}{ch:List Addr}(I:Inv X pins σ H s)(u:Un (kX X.stack) ch H H' s.heap h')(hok:HOk X.prog X.w H' h')(hg:AllBare g')
  (hch:∀b∈ch,(b∈X.ex\/X.s₀.heap.objs.size<=b)/\b≠X.env.locals/\(∀x c,X.env.cells.lookup x=some c->c≠b)/\∀p∈X.pn++pins,p.1≠b):
  Inv X pins σ H' {s with heap:=h',gens:=g',drawn:=d',toks:=t'}:=by
 obtain⟨m,⟨o,es,ep,ho,r⟩,_⟩:=id I.loc
 obtain⟨sl,hL⟩:=u.any ho I.free fun z=>(hch _ z).2.1 rfl
 exact I.step (ch:=ch) hch (fun b o hL hb hc e n=>u.keep b o e n (fun z=>(aS.mp (I.stkSub b z)).elim hL hb) hc) (fun b o _ _ hc e n=>u.any e n hc) (fun b o hc e n=>u.free b o e n hc) (fun b o hc e=>u.there b o e hc) u.tups u.frzs u.tbls (fun m' hm=>by
  obtain⟨o',es',ep',ho',r'⟩:=hm
  rw[ho]at ho';cases ho'
  exact⟨_,es',ep',hL,r'⟩) hok hg
theorem Inv.turned{t':Nat}{it:Addr}(I:Inv X pins σ H s)(k:∀b o,b≠it->s.heap.get? b=some o->h'.get? b=some o)(hn:H it=none)(hL:it≠X.env.locals)
  (h1:it∈X.ex\/X.s₀.heap.objs.size<=it) (h2:∀x c,X.env.cells.lookup x=some c->c≠it) (h3:∀p∈X.pn++pins,p.1≠it):Inv X pins σ H {s with heap:=h',toks:=t'}:=by
 have nit:∀b u,H b=some u->b≠it:=fun b u e z=>by rw[z,hn]at e;cases e
 refine I.step (g':=s.gens) (d':=s.drawn) (ch:=[it]) (fun b hb=>?_) (fun b o _ _ hc e _=>k b o (fun z=>hc (by simp[z])) e) (fun b o _ _ hc e _=>⟨o.slots,k b o (fun z=>hc (by simp[z])) e⟩) (fun _ _ _ _ n=>n)
  (fun b o hc e=>⟨o,k b o (fun z=>hc (by simp[z])) e⟩) (fun _ _ e=>e) (fun _ _ _ e=>e) (fun b ps e=>⟨#[],by rw[e];simp⟩) (fun m hm=>?_) (fun b u e=>?_) I.bare
 ·have e:b=it:=by simpa using hb
  subst e
  exact⟨h1,hL,h2,h3⟩
 ·obtain⟨o,es,ep,ho,r⟩:=hm
  exact⟨o,es,ep,k _ o (cX hL) ho,r⟩
 ·refine(I.hok b u e).stay (fun c v hc q=>k c v ?_ q) (fun _ q=>q) fun _ _ q=>q
  rcases hc with z|z
  ·rw[z];exact nit b u e
  ·exact nit c _ z
theorem Inv.tok(I:Inv X pins σ H s)(t:Nat):Inv X pins σ H {s with toks:=t}:=I.un (h':=s.heap) (t':=t) Un.refl I.hok
theorem Inv.kept{t':Nat}(I:Inv X pins σ H s)(k:∀b u,s.heap.get? b=some u->h'.get? b=some u):Inv X pins σ H {s with heap:=h',toks:=t'}:=I.un (Un.kept k) (I.hok.kept k)
theorem Inv.laid{a:Addr}{o:HO}{t':Nat}(I:Inv X pins σ H s)(k:∀b u,s.heap.get? b=some u->h'.get? b=some u)(hp:s.heap.objs.size<=a)(new:jbp X.prog X.w (upd H a o) h' a o):
  Inv X pins σ (upd H a o) {s with heap:=h',toks:=t'}:=I.un (Un.laid k hp (I.hok.fresh hp)) (I.hok.laid k hp new)
theorem Inv.write{x e:Addr}{o:HO}{t':Nat}(I:Inv X pins σ H s)(mu:qr (H x))(he:e=x\/H e=some (.own x))(k:∀b u,b≠e->s.heap.get? b=some u->h'.get? b=some u)(heo:∃u,h'.get? e=some u)
  (new:jbp X.prog X.w (upd H x o) h' x o):Inv X pins σ (upd H x o) {s with heap:=h',toks:=t'}:=I.un (Un.write mu he k heo) (I.hok.write mu he k heo new)
theorem Inv.pins_of{pins':List (Addr×Obj)}(I:Inv X pins σ H s)(h:∀p∈pins',s.heap.get? p.1=some p.2/\H p.1=none/\p.1≠X.env.locals/\p.1∉X.fs/\∀v,p.2.data≠ .cell v):Inv X pins' σ H s:=
 ⟨I.ok,I.os,I.bare,I.base,I.loc,I.cell,I.free,I.freeC,fun p hp=>(bu.mp hp).elim (fun z=>I.pin p (gb _ z)) (h p),I.hok,I.len⟩
theorem zy{N:List Str}(hN:N.Nodup){i j:Nat}{x:Str}(a:N[i]? =some x)(b:N[j]? =some x):i=j:=by
 obtain⟨h1,e1⟩:=au.mp a
 obtain⟨h2,e2⟩:=au.mp b
 exact(gY hN).mp (e1.trans e2.symm)
theorem Aq{M:Model}{A:Around}{E:Value->Shared->Prop}{i:Nat}{x:Str}{v:V}{u:Value}{Q:Unit->Shared->Prop}(I:Inv X pins σ H s)(hN:X.N.Nodup)(hi:X.N[i]? =some x)(hx:Loc X.env.scope x)(r:RelV v u)
  (h:∀s',Inv X pins (σ.set i (some v)) H s'->(∃a,Heap.SameBut a s.heap s'.heap/\(a=X.env.locals\/X.env.cells.lookup x=some a))->Q () s') (hf:X.fn x=true\/X.env.scope.names.lookup x=some .local:=by first|exact .inl rfl|exact .inr rfl|assumption):wpAny M A (storeName X.env x u) Q E s:=by
 obtain⟨m,hn,hl⟩:=id I.loc
 have hcls:(X.env.scope.kind== .class||(X.env.scope.kind== .module&&X.env.locals !=X.env.globals))=false:=by rw[I.ok.kind];rfl
 have hiσ:i<σ.length:=by rw[I.len];exact(au.mp hi).1
 have cne:=I.cne
 have tracked:∀{a:Addr} {h':Heap},(∃o,s.heap.get? a=some o/\H a=none)->Heap.SameBut a s.heap h'->HOk X.prog X.w H h':=fun{a h'} ha hs b ob e=>by
  obtain⟨_,_,hfree⟩:=ha
  refine(I.hok b ob e).stay (fun c w' hc q=>(hs.2 c ?_).trans q) (fun _ q=>q) fun _ _ q=>q
  rintro rfl
  rcases hc with rfl|hc
  ·rw[hfree]at e;cases e
  ·rw[hfree]at hc;cases hc
 rcases hx with hk|hk
 ·refine wpAny_storeName_local hk hn (fun h' hn' hs=>?_) hcls
  obtain⟨oL,_,_,hoL,_⟩:=id hn
  refine h _ ⟨I.ok,I.os,I.bare,⟨fun b o e n hb hx=>?_,fun b o e n hb hx=>?_,I.base.free,fun b o e hx=>?_,I.base.tups,I.base.frzs,I.base.tbls⟩,⟨_,hn',fun j y v' e1 e2 e3=>?_⟩,fun y c e=>?_,I.free,I.freeC,fun p hp=>?_,tracked ⟨oL,hoL,I.free⟩ hs,by simpa using I.len⟩ ⟨_,hs,.inl rfl⟩
  ·exact(hs.2 b (aP (bf (aD e) I.ok.above))).trans (I.base.keep b o e n hb hx)
  ·obtain⟨sl,e1⟩:=I.base.slot b o e n hb hx
   exact⟨sl,(hs.2 b (aP (bf (aD e) I.ok.above))).trans e1⟩
  ·obtain⟨o',e1⟩:=I.base.there b o e hx
   exact⟨o',(hs.2 b (aP (bf (aD e) I.ok.above))).trans e1⟩
  ·by_cases hj:j=i
   ·subst hj
    rw[hi]at e1;cases e1
    rw[List.getElem?_set_self hiσ]at e2
    cases e2
    exact⟨u,r,.inl ⟨hk,by simp⟩⟩
   ·rw[List.getElem?_set_ne (cX hj)]at e2
    obtain⟨u',r',q⟩:=hl j y v' e1 e2 e3
    refine⟨u',r',?_⟩
    rcases q with⟨k,e⟩|⟨k,c,e,z⟩
    ·refine .inl ⟨k,?_⟩
     have:y≠x:=fun e=>hj (zy hN e1 (e▸hi))
     simp[this,e]
    ·exact .inr ⟨k,c,e,z.sameBut hs (cne y c e)⟩
  ·obtain⟨w',z⟩:=I.cell y c e
   exact⟨w',z.sameBut hs (cne y c e)⟩
  ·obtain⟨e,n,ne,nf,d⟩:=I.pin p hp
   exact⟨(hs.2 p.1 ne).trans e,n,ne,nf,d⟩
 ·have hfn:X.fn x=true:=by
   rcases hf with z|z
   ·exact z
   ·rw[z]at hk;cases hk
  obtain⟨c,hc⟩:=I.ok.has x (.inl hk)
  obtain⟨w',z⟩:=I.cell x c hc
  refine wpAny_storeName_cell I.ok.kind hk hc z (fun h' hc' hs=>?_)
  obtain⟨oc,hoc,hocd⟩:=id z
  refine h {s with heap:=h'} ⟨I.ok,I.os,I.bare,⟨fun b o e n hb hx=>?_,fun b o e n hb hx=>?_,I.base.free,fun b o e hx=>?_,I.base.tups,I.base.frzs,I.base.tbls⟩,⟨m,hn.sameBut hs (cX (cne x c hc)),fun j y v' e1 e2 e3=>?_⟩,fun y c' e=>?_,I.free,I.freeC,fun p hp=>?_,tracked ⟨oc,hoc,I.freeC x c hc⟩ hs,by simpa using I.len⟩ ⟨c,hs,.inr hc⟩
  ·exact(hs.2 b (aP (bf (aD e) (I.ok.cab x c hfn hc)))).trans (I.base.keep b o e n hb hx)
  ·obtain⟨sl,e1⟩:=I.base.slot b o e n hb hx
   exact⟨sl,(hs.2 b (aP (bf (aD e) (I.ok.cab x c hfn hc)))).trans e1⟩
  ·obtain⟨o',e1⟩:=I.base.there b o e hx
   exact⟨o',(hs.2 b (aP (bf (aD e) (I.ok.cab x c hfn hc)))).trans e1⟩
  ·by_cases hj:j=i
   ·subst hj
    rw[hi]at e1;cases e1
    rw[List.getElem?_set_self hiσ]at e2
    cases e2
    exact⟨u,r,.inr ⟨.inl hk,c,hc,hc'⟩⟩
   ·rw[List.getElem?_set_ne (cX hj)]at e2
    obtain⟨u',r',q⟩:=hl j y v' e1 e2 e3
    refine⟨u',r',?_⟩
    rcases q with q|⟨k,c',e,z'⟩
    ·exact .inl q
    ·refine .inr ⟨k,c',e,z'.sameBut hs ?_⟩
     rintro rfl
     exact hj (zy hN e1 (I.ok.inj _ _ _ e hc▸hi))
  ·by_cases hcc:c'=c
   ·subst hcc;exact⟨_,hc'⟩
   ·obtain⟨w2,z2⟩:=I.cell y c' e
    exact⟨w2,z2.sameBut hs hcc⟩
  ·obtain⟨e,n,ne,nf,d⟩:=I.pin p hp
   refine⟨(hs.2 p.1 ?_).trans e,n,ne,nf,d⟩
   intro q
   rw[q,hoc]at e
   have q':oc=p.2:=az e
   exact d w' (by rw [<- q']; exact hocd)
theorem vb{M:Model}{A:Around}{E:Value->Shared->Prop}{i:Nat}{x:Str}{v:V}{u:Value}{Q:Unit->Shared->Prop}(I:Inv X pins σ H s)(hN:X.N.Nodup)(hi:X.N[i]? =some x)(hx:Loc X.env.scope x)(r:RelV v u)
  (h:∀s',Inv X pins (σ.set i (some v)) H s'->Q () s') (hf:X.fn x=true\/X.env.scope.names.lookup x=some .local:=by first|exact .inl rfl|exact .inr rfl|assumption):wpAny M A (storeName X.env x u) Q E s:=
 Aq I hN hi hx r (fun s' I' _=>h s' I') hf
theorem Inv.call'{s':Shared}{ch:List Addr}(I:Inv X pins σ H s)(ho:s'.os=s.os)(u:Un (kX X.stack) ch H H' s.heap s'.heap)(hok:HOk X.prog X.w H' s'.heap)(hg:AllBare s'.gens)
  (hch:∀b∈ch,(b∈X.ex\/X.s₀.heap.objs.size<=b)/\b≠X.env.locals/\(∀x c,X.env.cells.lookup x=some c->c≠b)/\∀p∈X.pn++pins,p.1≠b):Inv X pins σ H' s':=by
 obtain⟨h',g',d',t',o'⟩:=s'
 have e:o'=s.os:=ho
 subst e
 exact I.call (g':=g') (t':=t') (d':=d') u hok hg hch
end
abbrev XK:=Value->Option Addr->Hp->Prop
abbrev St:=List (Option V)
abbrev VK:=V->Hp->Prop
abbrev TE:=St->Hp->VK->Prop
abbrev TT:=St->Hp->(Bool->Hp->Prop)->Prop
abbrev TA:=St->Hp->(List V->Hp->Prop)->Prop
structure Ends where
 nx:St->Hp->Prop
 rt:VK
 bk:St->Hp->Prop:=fun _ _=>False
 ct:St->Hp->Prop:=fun _ _=>False
abbrev TS:=Ends->St->Hp->Prop
def EP(X:Cx)(pins:List (Addr×Obj))(σ:St)(Q:VK)(u:Value)(s':Shared):Prop:=∃v H',Inv X pins σ H' s'/\RelV v u/\Q v H'
def TP(X:Cx)(pins:List (Addr×Obj))(σ:St)(Q:Bool->Hp->Prop)(b:Bool)(s':Shared):Prop:=∃H',Inv X pins σ H' s'/\Q b H'
def AP(X:Cx)(pins:List (Addr×Obj))(σ:St)(Q:List V->Hp->Prop)(us:List Value)(s':Shared):Prop:=∃vs H',Inv X pins σ H' s'/\Vals vs us/\Q vs H'
def SP(X:Cx)(pins:List (Addr×Obj))(D:Ends)(f:Flow)(s':Shared):Prop:=
 match f with
 | .next=>∃σ' H',Inv X pins σ' H' s'/\D.nx σ' H'
 | .brk=>∃σ' H',Inv X pins σ' H' s'/\D.bk σ' H'
 | .cont=>∃σ' H',Inv X pins σ' H' s'/\D.ct σ' H'
 | .ret u=>∃v σ' H',Inv X pins σ' H' s'/\RelV v u/\D.rt v H'
def PE(X:Cx)(e:Expr)(t:TE):Prop:=
 ∀(pins:List (Addr×Obj)) (s:Shared) (σ:St) (H:Hp) (Q:VK),Inv X pins σ H s->t σ H Q->wpAny (model X.prog X.w) X.A (eval e X.env) (EP X pins σ Q) X.xe s
def PT(X:Cx)(e:Expr)(t:TT):Prop:=
 ∀(pins:List (Addr×Obj)) (s:Shared) (σ:St) (H:Hp) (Q:Bool->Hp->Prop),Inv X pins σ H s->t σ H Q->wpAny (model X.prog X.w) X.A (isTrue e X.env (eval e X.env)) (TP X pins σ Q) X.xe s
def PW(X:Cx)(e:Expr)(t:TT):Prop:=
 ∀(whole:Sem Value) (pins:List (Addr×Obj)) (s:Shared) (σ:St) (H:Hp) (Q:Bool->Hp->Prop),Inv X pins σ H s->t σ H Q->wpAny (model X.prog X.w) X.A (isTrue e X.env whole) (TP X pins σ Q) X.xe s
theorem PW.pt{X:Cx}{e:Expr}{t:TT}(h:PW X e t):PT X e t:=h _
def PA(X:Cx)(es:List Expr)(t:TA):Prop:=
 ∀(pos:Pos) (pins:List (Addr×Obj)) (s:Shared) (σ:St) (H:Hp) (Q:List V->Hp->Prop),Inv X pins σ H s->t σ H Q->wpAny (model X.prog X.w) X.A (spliced (backTo pos (starEach es X.env))) (AP X pins σ Q) X.xe s
def PS(X:Cx)(st:Stmt)(t:TS):Prop:=
 ∀(pins:List (Addr×Obj)) (s:Shared) (σ:St) (H:Hp) (D:Ends),Inv X pins σ H s->t D σ H->wpAny (model X.prog X.w) X.A (exec st X.env) (SP X pins D) X.xe s
def PSs(X:Cx)(st:List Stmt)(t:TS):Prop:=
 ∀(pins:List (Addr×Obj)) (s:Shared) (σ:St) (H:Hp) (D:Ends),Inv X pins σ H s->t D σ H->wpAny (model X.prog X.w) X.A (execs st X.env) (SP X pins D) X.xe s
theorem iJ{α:Type}{t:Sem α}{Q Q':α->Shared->Prop}{M:Model}{A:Around}{E:Value->Shared->Prop}{s:Shared}(h:wpAny M A t Q E s)(hQ:∀a s,Q a s->Q' a s):wpAny M A t Q' E s:=cW h hQ fun _ _ x=>x
section
variable{X:Cx}
def BW(i:Nat):TE:=fun σ H Q=>∃v,σ[i]? =some (some v)/\Q v H
def tC(v:V):TE:=fun _ H Q=>Q v H
theorem CT{i:Nat}{x:Str}{pos:Pos}(hN:X.N[i]? =some x)(hv:sO X.env.scope x)(hd:(x==("__debug__":Str))=false:=by decide)(hcd:(x==("__classdict__":Str))=false:=by decide):PE X (.Name x pos) (BW i):=by
 intro pins s σ H Q I h
 obtain⟨v,e,h⟩:=h
 obtain⟨m,hn,hl⟩:=I.loc
 obtain⟨u,r,l⟩:=hl i x v hN e hv
 have fin:EP X pins σ Q u s:=⟨v,H,I,r,h⟩
 rcases l with⟨hk,hm⟩|⟨hk,c,hc,hcell⟩
 ·exact wpAny_Name (wpAny_loadName_local I.ok.kind hk hn hm fin) hd
 ·rcases hk with hk|hk
  ·exact wpAny_Name (wpAny_loadName_cell I.ok.kind hk hc hcell fin) hd
  ·exact wpAny_Name (wpAny_loadName_free I.ok.kind hk hc hcell fin hcd) hd
theorem iE{i j pos}:PE X (.Constant (.int i) j pos) (tC (.int i)):=fun _ _ _ H _ I h=>wpAny_Constant_int ⟨.int i,H,I.tok _,⟨_,rfl⟩,h⟩
theorem kQ{b j pos}:PE X (.Constant (.bool b) j pos) (tC (.bl b)):=fun _ _ _ H _ I h=>Constant_bool ⟨.bl b,H,I,rfl,h⟩
theorem xO{j pos}:PE X (.Constant .none j pos) (tC .non):=fun _ _ _ H _ I h=>Constant_none ⟨.non,H,I,rfl,h⟩
def Gl(X:Cx)(x:Str):Prop:=X.env.kindOf x=some .globalImplicit
theorem uF{E:Value->Shared->Prop}{pins:List (Addr×Obj)}{s:Shared}{σ:St}{H:Hp}{x:Str}{u:Value}{pos:Pos}{Q:Value->Shared->Prop}(I:Inv X pins σ H s)(hg:Gl X x)(hm:X.mg x=some u)(h:Q u s)
  (hd:(x==("__debug__":Str))=false:=by decide):wpAny (model X.prog X.w) X.A (eval (.Name x pos) X.env) Q E s:=
 ir I.ok.kind hg (Calls.loadGlobal_global (by rw[I.ok.glob];exact I.mod.glob.keeps I.bk) hm h) hd
theorem nS{E:Value->Shared->Prop}{pins:List (Addr×Obj)}{s:Shared}{σ:St}{H:Hp}{x:Str}{u:Value}{pos:Pos}{Q:Value->Shared->Prop}(I:Inv X pins σ H s)(hg:Gl X x)(hm:X.mg x=none)(hv:bootBuiltins x=some u)(h:Q u s)
  (hn:x≠"__name__":=by decide) (hd:(x==("__debug__":Str))=false:=by decide):wpAny (model X.prog X.w) X.A (eval (.Name x pos) X.env) Q E s:=by
 obtain⟨mb,h1,h2⟩:=I.mod.blt
 exact ir I.ok.kind hg (Calls.loadGlobal_builtin (by rw[I.ok.glob];exact I.mod.glob.keeps I.bk) hm (by rw[I.ok.blt];exact h1.keeps I.bk) ((h2 x hn).trans hv) h) hd
theorem lL{x:Str}{v:V}{u:Value}{pos:Pos}(hg:Gl X x)(hm:X.mg x=some u)(r:RelV v u)(hd:(x==("__debug__":Str))=false:=by decide):PE X (.Name x pos) (tC v):=
 fun _ _ _ H _ I h=>uF I hg hm ⟨v,H,I,r,h⟩ hd
theorem nV{x:Str}{v:V}{u:Value}{pos:Pos}(hg:Gl X x)(hm:X.mg x=none)(hv:bootBuiltins x=some u)(r:RelV v u)(hn:x≠"__name__":=by decide)(hd:(x==("__debug__":Str))=false:=by decide):PE X (.Name x pos) (tC v):=
 fun _ _ _ H _ I h=>nS I hg hm hv ⟨v,H,I,r,h⟩ hn hd
variable{a b:Expr}{ta tb:TE}{pos:Pos}
def PC(X:Cx)(op:CmpOp)(a b:Expr)(t:TE):Prop:=
 ∀(pins:List (Addr×Obj)) (s:Shared) (σ:St) (H:Hp) (Q:VK),Inv X pins σ H s->t σ H Q->
  wpAny (model X.prog X.w) X.A (eval a X.env) (fun v s₁=>wpAny (model X.prog X.w) X.A (eval b X.env) (fun u s₂=>wpAny (model X.prog X.w) X.A (compareOp op v u) (EP X pins σ Q) X.xe s₂) X.xe s₁) X.xe s
theorem uX(b:Expr){op:CmpOp}(h:op≠ .In)(h2:op≠ .NotIn):behindInMarks op b=false:=by
 have e1:(op==CmpOp.In)=false:=by cases op<;>first|rfl|exact absurd rfl h
 have e2:(op==CmpOp.NotIn)=false:=by cases op<;>first|rfl|exact absurd rfl h2
 cases b<;>simp[behindInMarks,e1,e2]
def tB(t:TE):TT:=fun σ H Q=>t σ H fun x H1=>∃c,x= .bl c/\Q c H1
theorem xN{op:CmpOp}{t:TE}(h:PC X op a b t)(h1:behindInMarks op b=false:=by first|exact uX _ (by decide) (by decide)|rfl):PE X (.Compare a [op] [b] pos) t:=fun pins s σ H Q I hw=>wpAny_Compare1 (h pins s σ H Q I hw) h1
theorem CO{op:CmpOp}{t:TE}(h:PC X op a b t)(h1:behindInMarks op b=false:=by first|exact uX _ (by decide) (by decide)|rfl):PT X (.Compare a [op] [b] pos) (tB t):=by
 intro pins s σ H Q I hw
 refine fT (iJ (h pins s σ H _ I hw) fun v s1 h1=>iJ h1 fun u s2 h2=>iJ h2 fun c s3 ⟨x,H1,I1,r1,q1⟩=>?_) h1
 obtain⟨d,rfl,q⟩:=q1
 cases r1
 exact bR ⟨H1,I1,q⟩
variable{tA tB':TT}{rest:List Expr}
def wX(t u:TT):TT:=fun σ H Q=>t σ H fun c H1=>if c=true then u σ H1 Q else Q false H1
def wJ(t u:TT):TT:=fun σ H Q=>t σ H fun c H1=>if c=true then Q true H1 else u σ H1 Q
def wK(t:TT):TT:=fun σ H Q=>t σ H fun c H1=>Q (!c) H1
theorem D8(ha:PT X a tA):PW X (.BoolOp .And [a] pos) tA:=by
 intro wh pins s σ H Q I h
 refine isTrue_and (iJ (ha pins s σ H Q I h) fun c s1 e=>?_)
 cases c with
 |true=>exact isTrue_and_nil e
 |false=>exact e
theorem pO(ha:PT X a tA):PW X (.BoolOp .Or [a] pos) tA:=by
 intro wh pins s σ H Q I h
 refine isTrue_or (iJ (ha pins s σ H Q I h) fun c s1 e=>?_)
 cases c with
 |false=>exact isTrue_or_nil e
 |true=>exact e
theorem CM(ha:PT X a tA)(hb:PW X (.BoolOp .And (b::rest) pos) tB'):PW X (.BoolOp .And (a::b::rest) pos) (wX tA tB'):=by
 intro wh pins s σ H Q I h
 refine isTrue_and (iJ (ha pins s σ H _ I h) fun c s1 ⟨H1,I1,q1⟩=>?_)
 cases c with
 |true=>exact hb wh pins s1 σ H1 Q I1 q1
 |false=>exact⟨H1,I1,q1⟩
theorem nh(ha:PT X a tA)(hb:PW X (.BoolOp .Or (b::rest) pos) tB'):PW X (.BoolOp .Or (a::b::rest) pos) (wJ tA tB'):=by
 intro wh pins s σ H Q I h
 refine isTrue_or (iJ (ha pins s σ H _ I h) fun c s1 ⟨H1,I1,q1⟩=>?_)
 cases c with
 |true=>exact⟨H1,I1,q1⟩
 |false=>exact hb wh pins s1 σ H1 Q I1 q1
theorem kS(ha:PT X a tA):PT X (.UnaryOp .Not a pos) (wK tA):=by
 intro pins s σ H Q I h
 exact isTrue_not (ha pins s σ H (fun c H1=>Q (!c) H1) I h)
theorem mR{op}{t:TE}(h:PE X a t):PE X (.BoolOp op [a] pos) t:=fun pins s σ H Q I hw=>BoolOp_one (h pins s σ H Q I hw)
def wQ(t:TT)(ta tb:TE):TE:=fun σ H Q=>t σ H fun c H1=>if c=true then ta σ H1 Q else tb σ H1 Q
theorem zB{c:Expr}(hc:PT X c tA)(ha:PE X a ta)(hb:PE X b tb):PE X (.IfExp c a b pos) (wQ tA ta tb):=by
 intro pins s σ H Q I h
 refine wpAny_IfExp (iJ (hc pins s σ H _ I h) fun d s1 ⟨H1,I1,q1⟩=>?_)
 cases d with
 |true=>exact ha pins s1 σ H1 Q I1 q1
 |false=>exact hb pins s1 σ H1 Q I1 q1
end
def SqL(K:PySem.W.Frag)(H:Hp)(a:Addr)(xs:List V):Prop:=
 Rd H a (.lst xs)\/
  ∃(o:Obj) (its:Array Value) (n:Nat),K.lookup a=some o/\o.cls= .type "list"/\o.dict=none/\o.data= .seq its n/\its.size<=sizeLine/\Vals xs its.toList
def SqT(K:PySem.W.Frag)(H:Hp)(a:Addr)(xs:List V):Prop:=
 Rd H a (.tup xs)\/
  ∃(o:Obj) (its:Array Value) (n:Nat),K.lookup a=some o/\o.cls= .type "tuple"/\o.data= .seq its n/\its.size<=sizeLine/\Vals xs its.toList
noncomputable def IM:Value->Option V
 | .none=>some .non
 | .bool b=>some (.bl b)
 | .int i _=>some (.int i)
 | .str x _=>some (.str x)
 | .bytes b _=>some (.byt b)
 | .float b _=>some (.flt b)
 | .ref a=>some (.ref a)
 | .type n=>some (.ty n)
 |_=>none
theorem RelV.abs{x:V}{u:Value}(r:RelV x u):IM u=some x:=by
 cases x with
 |non=>cases r;rfl
 |bl _=>cases r;rfl
 |int _=>obtain⟨t,rfl⟩:=r;rfl
 |str _=>obtain⟨t,rfl⟩:=r;rfl
 |byt _=>obtain⟨t,rfl⟩:=r;rfl
 |flt _=>obtain⟨t,rfl⟩:=r;rfl
 |ref _=>cases r;rfl
 |ty _=>cases r;rfl
theorem RelV.inj{x y:V}{u:Value}(r:RelV x u)(q:RelV y u):x=y:=az (r.abs.symm.trans q.abs)
theorem Vals.inj:∀{xs ys:List V} {us:List Value},Vals xs us->Vals ys us->xs=ys
 |_,_,_,.nil,.nil=>rfl
 |_,_,_,.cons r t,.cons r' t'=>by rw[r.inj r',Vals.inj t t']
section
variable{X:Cx}{pins:List (Addr×Obj)}{σ:St}{H:Hp}{s:Shared}{a:Addr}{xs ys:List V}
theorem SqL.of{K:PySem.W.Frag}(h:H a=some (.lst xs)):SqL K H a xs:=.inl (.inl h)
theorem SqT.of{K:PySem.W.Frag}(h:H a=some (.tup xs)):SqT K H a xs:=.inl (.inl h)
theorem Inv.list(I:Inv X pins σ H s)(h:SqL X.K H a xs):∃its:List Value,Vals xs its/\PlainL s.heap a its.toArray/\xs.length<=sizeLine:=by
 rcases h with h|⟨o,its,n,hk,hc,hd,hs,hz,r⟩
 ·obtain⟨z,its,n,r,e⟩:=h.ok I.hok
  exact⟨its,r,⟨_,n,e,rfl,rfl,rfl⟩,z⟩
 ·refine⟨its.toList,r,⟨o,n,I.kIn a o hk,hc,hd,by simpa using hs⟩,?_⟩
  have e:=r.length
  simp only[Array.length_toList]at e
  lia
theorem Inv.tuple(I:Inv X pins σ H s)(h:SqT X.K H a xs):∃its:List Value,Vals xs its/\IsTup s.heap a its.toArray/\xs.length<=sizeLine:=by
 rcases h with h|⟨o,its,n,hk,hc,hs,hz,r⟩
 ·obtain⟨z,its,r,p⟩:=h.ok I.hok
  exact⟨its,r,p,z⟩
 ·refine⟨its.toList,r,⟨o,I.kIn a o hk,hc,n,by simpa using hs⟩,?_⟩
  have e:=r.length
  simp only[Array.length_toList]at e
  lia
theorem Inv.list_inj(I:Inv X pins σ H s)(h:SqL X.K H a xs)(h':SqL X.K H a ys):xs=ys:=by
 obtain⟨its,r,⟨o,n,e,_,_,d⟩,_⟩:=I.list h
 obtain⟨its',r',⟨o',n',e',_,_,d'⟩,_⟩:=I.list h'
 rw[e]at e';cases e'
 rw[d]at d'
 injection d' with d1 _
 have:its=its':=by simpa using bS Array.toList d1
 subst this
 exact r.inj r'
theorem Inv.tuple_inj(I:Inv X pins σ H s)(h:SqT X.K H a xs)(h':SqT X.K H a ys):xs=ys:=by
 obtain⟨its,r,⟨o,e,_,n,d⟩,_⟩:=I.tuple h
 obtain⟨its',r',⟨o',e',_,n',d'⟩,_⟩:=I.tuple h'
 rw[e]at e';cases e'
 rw[d]at d'
 injection d' with d1 _
 have:its=its':=by simpa using bS Array.toList d1
 subst this
 exact r.inj r'
end
noncomputable abbrev Cx.wish(X:Cx)(E:Value->Shared->Prop):Cx:={X with xe:=E}
noncomputable abbrev Cx.nox(X:Cx):Cx:=X.wish fun _ _=>False
theorem Cx.Ok.wish{X:Cx}(ok:X.Ok)(E:Value->Shared->Prop):(X.wish E).Ok:=
 ⟨ok.mod,ok.kind,ok.glob,ok.blt,ok.above,ok.inj,ok.has,ok.cab,ok.hd,ok.frames,ok.stk,ok.exf,ok.bs,ok.bsz,ok.noex,ok.exfs,ok.funs,ok.frf⟩
theorem Cx.Ok.unwish{X:Cx}{E:Value->Shared->Prop}(ok:(X.wish E).Ok):X.Ok:=
 ⟨ok.mod,ok.kind,ok.glob,ok.blt,ok.above,ok.inj,ok.has,ok.cab,ok.hd,ok.frames,ok.stk,ok.exf,ok.bs,ok.bsz,ok.noex,ok.exfs,ok.funs,ok.frf⟩
section
variable{X:Cx}{pins:List (Addr×Obj)}{σ:St}{H:Hp}{s:Shared}{E:Value->Shared->Prop}
theorem Inv.wish(I:Inv X pins σ H s)(E:Value->Shared->Prop):Inv (X.wish E) pins σ H s:=⟨I.ok.wish E,I.os,I.bare,I.base,I.loc,I.cell,I.free,I.freeC,I.pin,I.hok,I.len⟩
theorem Inv.unwish(I:Inv (X.wish E) pins σ H s):Inv X pins σ H s:=⟨I.ok.unwish,I.os,I.bare,I.base,I.loc,I.cell,I.free,I.freeC,I.pin,I.hok,I.len⟩
theorem SP.unwish{D:Ends}{f:Flow}{s':Shared}(h:SP (X.wish E) pins D f s'):SP X pins D f s':=by
 cases f with
 |next=>obtain⟨σ',H',I,q⟩:=h;exact⟨σ',H',I.unwish,q⟩
 |brk=>obtain⟨σ',H',I,q⟩:=h;exact⟨σ',H',I.unwish,q⟩
 |cont=>obtain⟨σ',H',I,q⟩:=h;exact⟨σ',H',I.unwish,q⟩
 |ret u=>obtain⟨v,σ',H',I,r,q⟩:=h;exact⟨v,σ',H',I.unwish,r,q⟩
theorem PSs.nox{st:List Stmt}{t:TS}(h:PSs X.nox st t):PSs X st t:=fun pins s σ H D I hw=>
 cW (h pins s σ H D (I.wish _) hw) (fun _ _ q=>q.unwish) fun _ _ z=>False.elim z
end
section
variable{X:Cx}{st:Stmt}{rest:List Stmt}{t u:TS}{e:Expr}{te:TE}{pos:Pos}
def wL:TS:=fun D σ H=>D.nx σ H
def mY(t u:TS):TS:=fun D σ H=>t {D with nx:=u D} σ H
theorem j6:PSs X [] wL:=fun _ _ σ H _ I h=>fN ⟨σ,H,I,h⟩
theorem iH(h1:PS X st t)(h2:PSs X rest u):PSs X (st::rest) (mY t u):=by
 intro pins s σ H D I h
 refine wpAny_execs_cons (iJ (h1 pins s σ H {D with nx:=u D} I h) fun f s1 q=>?_)
 cases f with
 |next=>
  obtain⟨σ',H',I',q⟩:=q
  exact h2 pins s1 σ' H' D I' q
 |ret v=>exact q
 |brk=>exact q
 |cont=>exact q
theorem iO(h1:PS X st t):PSs X [st] t:=by
 intro pins s σ H D I h
 refine wpAny_execs_cons (iJ (h1 pins s σ H D I h) fun f s1 q=>?_)
 cases f with
 |next=>exact fN q
 |ret v=>exact q
 |brk=>exact q
 |cont=>exact q
theorem Inv.quiet{pins:List (Addr×Obj)}{σ:St}{H:Hp}{s:Shared}(I:Inv X pins σ H s):interactive X.env=false:=by simp[interactive,I.ok.kind]
def wU(te:TE):TS:=fun D σ H=>te σ H fun _ H1=>D.nx σ H1
theorem ke(he:PE X e te)(hs:swapsWith e none pos.line X.env=pure false:=by rfl):PS X (.Expr e pos) (wU te):=by
 intro pins s σ H D I h
 exact wpAny_Expr_any (iJ (he pins s σ H _ I h) fun v s1 ⟨x,H1,I1,r1,q1⟩=>⟨σ,H1,I1,q1⟩) I.quiet hs
def wH(te:TE):TS:=fun D σ H=>te σ H D.rt
theorem jc(he:PE X e te):PS X (.Return (some e) pos) (wH te):=by
 intro pins s σ H D I h
 exact wpAny_Return_some (iJ (he pins s σ H _ I h) fun v s1 ⟨x,H1,I1,r1,q1⟩=>⟨x,σ,H1,I1,r1,q1⟩)
def BX:TS:=fun D _ H=>D.rt .non H
def qy(c:TT)(t u:TS):TS:=fun D σ H=>c σ H fun b H1=>if b=true then t D σ H1 else u D σ H1
theorem j0{c:Expr}{a b:List Stmt}{tc:TT}(hc:PT X c tc)(ha:PSs X a t)(hb:PSs X b u):PS X (.If c a b pos) (qy tc t u):=by
 intro pins s σ H D I h
 refine wpAny_If (iJ (hc pins s σ H _ I h) fun d s1 ⟨H1,I1,q1⟩=>?_)
 cases d with
 |true=>exact ha pins s1 σ H1 D I1 q1
 |false=>exact hb pins s1 σ H1 D I1 q1
def BY:TS:=fun _ _ _=>False
theorem pZ:PS X st BY:=fun _ _ _ _ _ _ h=>h.elim
end
abbrev TG:=V->St->Hp->(St->Hp->Prop)->Prop
abbrev k8:=List V->St->Hp->(St->Hp->Prop)->Prop
def PG(X:Cx)(target:Expr)(t:TG):Prop:=
 ∀(pins:List (Addr×Obj)) (s:Shared) (σ:St) (H:Hp) (v:V) (u:Value) (Q:St->Hp->Prop),Inv X pins σ H s->RelV v u->t v σ H Q->
  wpAny (model X.prog X.w) X.A (assign target X.env u) (fun _ s'=>∃σ' H',Inv X pins σ' H' s'/\Q σ' H') X.xe s
def PGs(X:Cx)(ts:List Expr)(t:k8):Prop:=
 ∀(pins:List (Addr×Obj)) (s:Shared) (σ:St) (H:Hp) (vs:List V) (us:List Value) (Q:St->Hp->Prop),Inv X pins σ H s->Vals vs us->t vs σ H Q->
  wpAny (model X.prog X.w) X.A (assignInOrder ((assignEach ts X.env).map (·.2)) us) (fun _ s'=>∃σ' H',Inv X pins σ' H' s'/\Q σ' H') X.xe s
abbrev oh:=V->V->V->Hp->(Hp->Prop)->Prop
def PSet(X:Cx)(t:oh):Prop:=
 ∀(pins:List (Addr×Obj)) (s:Shared) (σ:St) (H:Hp) (o i v:V) (ov iv u:Value) (Q:Hp->Prop),Inv X pins σ H s->RelV o ov->RelV i iv->RelV v u->t o i v H Q->
  wpAny (model X.prog X.w) X.A (setItem ov iv u) (fun _ s'=>∃H',Inv X pins σ H' s'/\Q H') X.xe s
abbrev mD:=V->V->Hp->VK->Prop
def oi(X:Cx)(op:Operator)(t:mD):Prop:=
 ∀(pins:List (Addr×Obj)) (s:Shared) (σ:St) (H:Hp) (x y:V) (v u:Value) (Q:VK),Inv X pins σ H s->RelV x v->RelV y u->t x y H Q->
  wpAny (model X.prog X.w) X.A (inplaceOp op v u) (EP X pins σ Q) X.xe s
section
variable{X:Cx}{pos:Pos}
def mK(i:Nat):TG:=fun v σ H Q=>Q (σ.set i (some v)) H
theorem iV{i:Nat}{x:Str}(hN:X.N.Nodup)(hi:X.N[i]? =some x)(hx:Loc X.env.scope x)(hf:X.fn x=true\/X.env.scope.names.lookup x=some .local:=by first|exact .inl rfl|exact .inr rfl|assumption):PG X (.Name x pos) (mK i):=by
 intro pins s σ H v u Q I r h
 exact wpAny_assign_Name (vb I hN hi hx r (fun s' I'=>⟨_,H,I',h⟩) hf)
def Ic:k8:=fun vs σ H Q=>vs=[]/\Q σ H
def Ie(t:TG)(u:k8):k8:=fun vs σ H Q=>∃v r,vs=v::r/\t v σ H fun σ' H'=>u r σ' H' Q
theorem D4:PGs X [] Ic:=by
 intro pins s σ H vs us Q I r h
 obtain⟨e,h⟩:=h
 subst e
 cases r
 exact assignInOrder_nil ⟨σ,H,I,h⟩
theorem E6{e:Expr}{es:List Expr}{t:TG}{u:k8}(h1:PG X e t)(h2:PGs X es u)
  (hs:(assignEach (e::es) X.env).map (·.2)=assign e X.env::(assignEach es X.env).map (·.2):=by rfl):PGs X (e::es) (Ie t u):=by
 intro pins s σ H vs us Q I r h
 obtain⟨v,vr,e1,h⟩:=h
 subst e1
 cases r with
 |cons r rr=>
  rw[hs]
  refine assignInOrder_cons (iJ (h1 pins s σ H _ _ _ I r h) fun _ s1 ⟨σ1,H1,I1,q1⟩=>?_)
  exact h2 pins s1 σ1 H1 _ _ Q I1 rr q1
def Ia(K:PySem.W.Frag)(n:Nat)(t:k8):TG:=fun v σ H Q=>∃a xs,v= .ref a/\SqT K H a xs/\xs.length=n/\t xs σ H Q
theorem CS{es:List Expr}{k:Nat}{t:k8}{n:Nat}(hc:X.calm=true)(h:PGs X es t)
  (hn:(assignEach es X.env).length=n:=by rfl) (hst:(assignEach es X.env).findIdx? (·.1)=none:=by rfl):PG X (.Tuple es k pos) (Ia X.K n t):=by
 intro pins s σ H v u Q I r hw
 obtain⟨a,xs,e1,hq,hl,hw⟩:=hw
 subst e1
 cases r
 obtain⟨its,rv,ht,hz⟩:=I.tuple hq
 refine assign_Tuple_tuple (I.ok.hd hc) ht (by simp [hn,<- hl,rv.length]) hst fun h' hx=>?_
 have I1:Inv X pins σ H {s with heap:=h'}:=I.kept (t':=s.toks) fun b o e=>hx b o (aP (aD e)) e
 exact h pins _ σ H xs _ Q I1 (by simpa using rv) hw
def Bg(to ti:TE)(t:oh):TG:=fun v σ H Q=>to σ H fun o H1=>ti σ H1 fun i H2=>t o i v H2 fun H3=>Q σ H3
theorem rp{o i:Expr}{to ti:TE}{t:oh}(ho:PE X o to)(hi:PE X i ti)(hs:PSet X t)
  (ha:∀ v,assign (.Subscript o i pos) X.env v = (do
   let ov <- holding [v] (eval o X.env)
   let iv <- holding [v,ov] (eval i X.env)
   standAt pos
   holding [v,ov,iv] (setItem ov iv v)
   release [v,ov,iv] []):=by intro _;rfl):PG X (.Subscript o i pos) (Bg to ti t):=by
 intro pins s σ H v u Q I r h
 rw[ha]
 refine aa (bV (iJ (ho pins s σ H _ I h) fun ov s1 ⟨x,H1,I1,r1,q1⟩=>?_))
 refine aa (bV (iJ (hi pins s1 σ H1 _ I1 q1) fun iv s2 ⟨y,H2,I2,r2,q2⟩=>?_))
 refine aa (wpAny_standAt (aa (bV (iJ (hs pins s2 σ H2 x y v ov iv u _ I2 r1 r2 r q2) fun _ s3 ⟨H3,I3,q3⟩=>?_))))
 exact wpAny_release ⟨σ,H3,I3,q3⟩
def qA(te:TE)(g:TG):TS:=fun D σ H=>te σ H fun x H1=>g x σ H1 D.nx
theorem nk{tg e:Expr}{te:TE}{g:TG}(he:PE X e te)(hg:PG X tg g)(hs:swapsWithSole [tg] e pos.line X.env=pure false:=by rfl)(hw:swappedStores [tg] e X.env=pure none:=by rfl)
  (h1:(assignEach [tg] X.env).map (·.2)=[assign tg X.env]:=by rfl):PS X (.Assign [tg] e pos) (qA te g):=by
 intro pins s σ H D I h
 refine wpAny_Assign_stores (iJ (he pins s σ H _ I h) fun v s1 ⟨x,H1,I1,r1,q1⟩=>?_) hs hw
 rw[h1]
 exact iJ (hg pins s1 σ H1 x v _ I1 r1 q1) fun _ s2 q=>q
theorem iT{i:Nat}{x:Str}{e:Expr}{te:TE}{pos':Pos}(hN:X.N.Nodup)(hi:X.N[i]? =some x)(hx:Loc X.env.scope x)(he:PE X e te)(hs:swapsWith e (some (.Name x pos')) pos.line X.env=pure false:=by rfl)(hf:X.fn x=true\/X.env.scope.names.lookup x=some .local:=by first|exact .inl rfl|exact .inr rfl|assumption):
  PS X (.Assign [.Name x pos'] e pos) (qA te (mK i)):=by
 intro pins s σ H D I h
 refine wpAny_Assign_Name (iJ (he pins s σ H _ I h) fun v s1 ⟨y,H1,I1,r1,q1⟩=>?_) hs
 exact vb I1 hN hi hx r1 (fun s2 I2=>⟨_,H1,I2,q1⟩) hf
def B1(i:Nat)(te:TE)(ti:mD):TS:=fun D σ H=>∃x,σ[i]? =some (some x)/\te σ H fun y H1=>ti x y H1 fun z H2=>D.nx (σ.set i (some z)) H2
theorem CP{i:Nat}{x:Str}{e:Expr}{te:TE}{op:Operator}{ti:mD}{pos':Pos}(hN:X.N.Nodup)(hi:X.N[i]? =some x)(hx:Loc X.env.scope x)(he:PE X e te)(ho:oi X op ti)(hf:X.fn x=true\/X.env.scope.names.lookup x=some .local:=by first|exact .inl rfl|exact .inr rfl|assumption):
  PS X (.AugAssign (.Name x pos') op e pos) (B1 i te ti):=by
 intro pins s σ H D I h
 obtain⟨v,e1,h⟩:=h
 obtain⟨m,hn,hl⟩:=I.loc
 have vis:sO X.env.scope x:=by rcases hx with k|k;exact .inl k;exact .inr (.inl k)
 obtain⟨u,r,l⟩:=hl i x v hi e1 vis
 refine wpAny_AugAssign_Name ?_
 have go:wpAny (model X.prog X.w) X.A (eval e X.env) (fun w s₂=>wpAny (model X.prog X.w) X.A (inplaceOp op u w) (fun r s₃=>wpAny (model X.prog X.w) X.A (storeName X.env x r) (fun _=>SP X pins D .next) X.xe s₃) X.xe s₂) X.xe s:=by
  refine iJ (he pins s σ H _ I h) fun w s1 ⟨y,H1,I1,r1,q1⟩=>?_
  refine iJ (ho pins s1 σ H1 v y u w _ I1 r r1 q1) fun z s2 ⟨zv,H2,I2,r2,q2⟩=>?_
  exact vb I2 hN hi hx r2 (fun s3 I3=>⟨_,H2,I3,q2⟩) hf
 rcases l with⟨hk,hm⟩|⟨hk,c,hc,hcell⟩
 ·exact wpAny_loadName_local I.ok.kind hk hn hm go
 ·rcases hk with hk|hk
  ·exact wpAny_loadName_cell I.ok.kind hk hc hcell go
  ·rcases hx with k|k
   ·have:X.env.scope.names.lookup x=some .free:=hk
    rw[k]at this;cases this
   ·have:X.env.scope.names.lookup x=some .free:=hk
    rw[k]at this;cases this
def wW(to ti te:TE)(tget:V->V->Hp->VK->Prop)(tip:mD)(tset:oh):TS:=fun D σ H=>to σ H fun o H1=>ti σ H1 fun i H2=>tget o i H2 fun x H3=>te σ H3 fun y H4=>tip x y H4 fun z H5=>tset o i z H5 fun H6=>D.nx σ H6
def Bw(X:Cx)(t:V->V->Hp->VK->Prop):Prop:=
 ∀(pins:List (Addr×Obj)) (s:Shared) (σ:St) (H:Hp) (o i:V) (ov iv:Value) (Q:VK),Inv X pins σ H s->RelV o ov->RelV i iv->t o i H Q->
  wpAny (model X.prog X.w) X.A (getItem ov iv) (EP X pins σ Q) X.xe s
theorem yE{o i e:Expr}{to ti te:TE}{tget:V->V->Hp->VK->Prop}{tip:mD}{tset:oh}{op:Operator}{tpos:Pos}(ho:PE X o to)(hi:PE X i ti)(hg:Bw X tget)(he:PE X e te)(hp:oi X op tip)(hs:PSet X tset)
  (ha:∀ ov iv new,augStore i ov iv new = (do holding [new,ov,iv] (setItem ov iv new); release [new,ov,iv] []; pure .next):=by intros; rfl):PS X (.AugAssign (.Subscript o i tpos) op e pos) (wW to ti te tget tip tset):=by
 intro pins s σ H D I h
 refine wpAny_AugAssign_SubscriptAny (iJ (ho pins s σ H _ I h) fun ov s1 ⟨x1,H1,I1,r1,q1⟩=>?_) ha
 refine iJ (hi pins s1 σ H1 _ I1 q1) fun iv s2 ⟨x2,H2,I2,r2,q2⟩=>?_
 refine iJ (hg pins s2 σ H2 x1 x2 ov iv _ I2 r1 r2 q2) fun old s3 ⟨x3,H3,I3,r3,q3⟩=>?_
 refine iJ (he pins s3 σ H3 _ I3 q3) fun v s4 ⟨x4,H4,I4,r4,q4⟩=>?_
 refine iJ (hp pins s4 σ H4 x3 x4 old v _ I4 r3 r4 q4) fun new s5 ⟨x5,H5,I5,r5,q5⟩=>?_
 exact iJ (hs pins s5 σ H5 x1 x2 x5 ov iv new _ I5 r1 r2 r5 q5) fun _ s6 ⟨H6,I6,q6⟩=>⟨σ,H6,I6,q6⟩
end
section
variable{X:Cx}{pos:Pos}
def yd(c:TT)(tb:TS):TS:=fun D σ H=>∃W:Nat->St->Hp->Prop,(∃m,W m σ H)/\∀m σ H,W m σ H->
 c σ H fun b H1=>if b=true then ∃N:St->Hp->Prop,(∀σ' H',N σ' H'->∃m',m'<m/\W m' σ' H')/\tb {D with nx:=N,ct:=N,bk:=D.nx} σ H1 else D.nx σ H1
theorem uZ{c:Expr}{body:List Stmt}{tc:TT}{tb:TS}(hp:PassesOwn (model X.prog X.w) X.A X.env X.xe)(hc:PT X c tc)(hb:PSs X body tb):PS X (.While c body [] pos) (yd tc tb):=by
 intro pins s σ H D I h
 obtain⟨W,⟨m0,w0⟩,turn⟩:=h
 refine wpAny_While (codeAny_whileLoop (fun n s'=>∃σ' H',Inv X pins σ' H' s'/\W n σ' H') ?_ m0 ⟨σ,H,I,w0⟩)
 rintro n s1 ⟨σ1,H1,I1,w1⟩
 refine dw hp (iJ (hc pins s1 σ1 H1 _ I1 (turn n σ1 H1 w1)) fun b s2 ⟨H2,I2,q2⟩=>?_)
 cases b with
 | true=>
  obtain⟨N,hN,q2⟩:=q2
  rw[aq rfl]
  refine dw hp (iJ (hb pins s2 σ1 H2 _ I2 q2) fun f s3 q3=>?_)
  cases f with
  |next=>
   obtain⟨σ3,H3,I3,n3⟩:=q3
   obtain⟨m',hm,w3⟩:=hN σ3 H3 n3
   exact⟨m',hm,σ3,H3,I3,w3⟩
  |cont=>
   obtain⟨σ3,H3,I3,n3⟩:=q3
   obtain⟨m',hm,w3⟩:=hN σ3 H3 n3
   exact⟨m',hm,σ3,H3,I3,w3⟩
  |brk=>exact q3
  |ret v=>exact q3
 |false=>
  rw[ak aO]
  exact fN ⟨σ1,H2,I2,q2⟩
end
structure It where
 go:Nat->Hp->Prop
 yld:Nat->Hp->V->Hp->Prop
 stop:Nat->Hp->Prop
def lD(X:Cx)(pins:List (Addr×Obj))(H:Hp)(b:Addr):Prop:=
 H b=none/\b≠X.env.locals/\b∉X.fs/\(b∈X.ex\/X.s₀.heap.objs.size<=b)/\(∀x c,X.env.cells.lookup x=some c->c≠b)/\∀p∈X.pn++pins,p.1≠b
theorem Inv.fpOk{X:Cx}{pins:List (Addr×Obj)}{σ:St}{H H':Hp}{s:Shared}{b:Addr}(I:Inv X pins σ H s)(hb:s.heap.objs.size<=b)(hn:H' b=none):lD X pins H' b:=by
 refine⟨hn,dk (bf I.lt hb),I.nofs hb,.inr (bD I.sz hb),fun x c e z=>?_,fun p hp z=>?_⟩
 ·obtain⟨v,q⟩:=I.cell x c e
  exact absurd (bf q.lt (by rw[z];exact hb)) (cw _)
 ·exact absurd (bf (aD (I.pin p hp).1) (by rw[z];exact hb)) (cw _)
structure Turn(P:Program)(w:World)(K:PySem.W.Frag)(tg:Expr)(J:It)(fp:List Addr)(it:Addr)(tn:Nat->Heap->Prop):Prop where
 mem:it∈fp
 obj:∀i h,tn i h->∀b∈fp,∃o,h.get? b=some o/\∀v,o.data≠ .cell v
 keep:∀i h h',tn i h->(∀b∈fp,∀o,h.get? b=some o->h'.get? b=some o)->tn i h'
 item:∀(X:Cx),X.prog=P->X.w=w->X.K=K->X.calm=true->∀(i:Nat) (pins:List (Addr×Obj)) (s:Shared) (σ:St) (H:Hp) (E:Value->Shared->Prop),Inv X pins σ H s->(∀b∈fp,lD X pins H b)->tn i s.heap->J.go i H->
  wpAny (model P w) X.A (pyNext (.ref it)) (fun r s1=>∃u,r=some u/\
   wpAny (model P w) X.A (letOwnedTupleGo tg (.ref it) u) (fun _ s2=>∃x H',Inv X pins σ H' s2/\RelV x u/\J.yld i H x H'/\tn (i+1) s2.heap/\∀b∈fp,H' b=none) E s1) E s
 done:∀(X:Cx),X.prog=P->X.w=w->X.K=K->X.calm=true->∀(i:Nat) (pins:List (Addr×Obj)) (s:Shared) (σ:St) (H:Hp) (E:Value->Shared->Prop),Inv X pins σ H s->(∀b∈fp,lD X pins H b)->tn i s.heap->J.stop i H->
  wpAny (model P w) X.A (pyNext (.ref it)) (fun r s1=>r=none/\Inv X pins σ H s1) E s
 self:∀(A:Around) (i:Nat) (s:Shared) (Q:Value->Shared->Prop) (E:Value->Shared->Prop),tn i s.heap->Q (.ref it) s->wpAny (model P w) A (pyIter (.ref it)) Q E s
abbrev TI:=St->Hp->(It->Hp->Prop)->Prop
def wu(X:Cx)(pins:List (Addr×Obj))(σ:St)(tg:Expr)(R:It->Hp->Prop)(itv:Value)(s2:Shared):Prop:=
 ∃(it:Addr) (fp:List Addr) (tn:Nat->Heap->Prop) (J:It) (H':Hp),itv= .ref it/\Inv X pins σ H' s2/\Turn X.prog X.w X.K tg J fp it tn/\tn 0 s2.heap/\(∀b∈fp,lD X pins H' b)/\R J H'
def PI(X:Cx)(tg iter:Expr)(wi:TI):Prop:=
 ∀(pins:List (Addr×Obj)) (s:Shared) (σ:St) (H:Hp) (R:It->Hp->Prop),Inv X pins σ H s->wi σ H R->
  wpAny (model X.prog X.w) X.A (eval iter X.env) (fun v s1=>wpAny (model X.prog X.w) X.A (pyIter v) (wu X pins σ tg R) X.xe s1) X.xe s
theorem tL {M:Model}{A:Around}{E:Value->Shared->Prop}{s:Shared}{tg:Expr}{it:Addr}{u:Value}{o:Obj}{n:String}{vs:Array Value}{Q:Unit->Shared->Prop}(ho:s.heap.get? it=some o)(hc:o.cls= .type n)(hd:o.data= .fields vs)
    (hn:["enumerate","zip","dict_itemiterator","dict_reverseitemiterator","odict_iterator","itertools.zip_longest","itertools.pairwise"].contains n=false) (hQ:Q () s):wpAny M A (letOwnedTupleGo tg (.ref it) u) Q E s:=by
  unfold letOwnedTupleGo
  cases tg <;>first
    |exact ao hQ
    | (cases u<;>first
        |exact ao hQ
        | (refine aa (wpAny_load ho ?_)
           rw[hc,hd]
           show wpAny M A (if(["enumerate","zip","dict_itemiterator","dict_reverseitemiterator","odict_iterator","itertools.zip_longest","itertools.pairwise"].contains n&&vs[0]? ==some (rawInt _))=true then _ else _) Q E s
           rw[ak (by intro h;rw[hn,Bool.false_and]at h;cases h)]
           exact ao hQ))
noncomputable def jI(K:PySem.W.Frag)(a:Addr):It:=
 ⟨fun i H=>∃xs x,SqL K H a xs/\xs[i]? =some x,fun i H x H'=>H'=H/\∀xs,SqL K H a xs->xs[i]? =some x,fun i H=>∃xs,SqL K H a xs/\xs.length<=i⟩
noncomputable def wx(K:PySem.W.Frag)(a:Addr):It:=
 ⟨fun i H=>∃xs x,SqT K H a xs/\xs[i]? =some x,fun i H x H'=>H'=H/\∀xs,SqT K H a xs->xs[i]? =some x,fun i H=>∃xs,SqT K H a xs/\xs.length<=i⟩
noncomputable def lZ(lo:Int)(n:Nat):It:=⟨fun i _=>i<n,fun i H x H'=>H'=H/\x= .int (lo+i),fun i _=>n<=i⟩
theorem Gb{P:Program}{w:World}{K:PySem.W.Frag}{tg:Expr}(a it:Addr):Turn P w K tg (jI K a) [it] it (fun i h=>h.IsListIter it a i)where
 mem:=by simp
 obj:=fun i h st b hb=>by
  have e:b=it:=by simpa using hb
  subst e
  obtain⟨o,e,c,d⟩:=st
  exact⟨o,e,fun v z=>by rw[d]at z;cases z⟩
 keep:=fun i h h' st k=>st.at fun o e=>k it (by simp) o e
 item:=by
  intro X hP hw hK hc i pins s σ H E I hf st hg
  subst hP hw hK
  obtain⟨xs,x,hq,hx⟩:=hg
  obtain⟨its,rv,p,hz⟩:=I.list hq
  obtain⟨u,hu,ru⟩:=rv.get hx
  obtain⟨f0,f1,f2,f3,f4,f5⟩:=hf it (by simp)
  refine fF st p.isList (x:=u) (by simpa using hu) fun h' st' sb=>?_
  have I1:Inv X pins σ H {s with heap:=h'}:=I.turned (t':=s.toks) (fun b o hb e=>(sb.2 b hb).trans e) f0 f1 f3 f4 f5
  obtain⟨o,e,c,d⟩:=id st'
  exact⟨u,rfl,tL (s:={s with heap:=h'}) e c d (by decide) ⟨x,H,I1,ru,⟨rfl,fun ys hy=>by rw[I.list_inj hy hq];exact hx⟩,st',fun b hb=>(hf b hb).1⟩⟩
 done:=by
  intro X hP hw hK hc i pins s σ H E I hf st hg
  subst hP hw hK
  obtain⟨xs,hq,hx⟩:=hg
  obtain⟨its,rv,p,hz⟩:=I.list hq
  obtain⟨f0,f1,f2,f3,f4,f5⟩:=hf it (by simp)
  have hl:=rv.length
  exact fS (I.ok.hd hc) st p.isList (by simp;lia) fun h' eb=>⟨rfl,I.turned (t':=s.toks) (fun b o hb e=>eb b o hb e) f0 f1 f3 f4 f5⟩
 self:=fun _ _ _ _ _ st h=>wpAny_pyIter_listiter st h
theorem GK{P:Program}{w:World}{K:PySem.W.Frag}{tg:Expr}(a it:Addr):Turn P w K tg (wx K a) [it] it (fun i h=>h.IsTupleIter it a i)where
 mem:=by simp
 obj:=fun i h st b hb=>by
  have e:b=it:=by simpa using hb
  subst e
  obtain⟨o,e,c,d⟩:=st
  exact⟨o,e,fun v z=>by rw[d]at z;cases z⟩
 keep:=fun i h h' st k=>st.at fun o e=>k it (by simp) o e
 item:=by
  intro X hP hw hK hc i pins s σ H E I hf st hg
  subst hP hw hK
  obtain⟨xs,x,hq,hx⟩:=hg
  obtain⟨its,rv,p,hz⟩:=I.tuple hq
  obtain⟨u,hu,ru⟩:=rv.get hx
  obtain⟨f0,f1,f2,f3,f4,f5⟩:=hf it (by simp)
  refine wpAny_pyNext_tuple_item st (show s.heap.IsTuple a its.toArray from p) (x:=u) (by simpa using hu) fun h' st' sb=>?_
  have I1:Inv X pins σ H {s with heap:=h'}:=I.turned (t':=s.toks) (fun b o hb e=>(sb.2 b hb).trans e) f0 f1 f3 f4 f5
  obtain⟨o,e,c,d⟩:=id st'
  exact⟨u,rfl,tL (s:={s with heap:=h'}) e c d (by decide) ⟨x,H,I1,ru,⟨rfl,fun ys hy=>by rw[I.tuple_inj hy hq];exact hx⟩,st',fun b hb=>(hf b hb).1⟩⟩
 done:=by
  intro X hP hw hK hc i pins s σ H E I hf st hg
  subst hP hw hK
  obtain⟨xs,hq,hx⟩:=hg
  obtain⟨its,rv,p,hz⟩:=I.tuple hq
  obtain⟨f0,f1,f2,f3,f4,f5⟩:=hf it (by simp)
  have hl:=rv.length
  exact wpAny_pyNext_tuple_end (I.ok.hd hc) st (show s.heap.IsTuple a its.toArray from p) (by simp;lia) fun h' eb=>⟨rfl,I.turned (t':=s.toks) (fun b o hb e=>eb b o hb e) f0 f1 f3 f4 f5⟩
 self:=fun _ _ _ _ _ st h=>wpAny_pyIter_tupleiter st h
theorem GJ{P:Program}{w:World}{K:PySem.W.Frag}{tg:Expr}(it:Addr)(lo:Int)(n:Nat):Turn P w K tg (lZ lo n) [it] it (fun i h=>IsRangeIter h it (lo+(i:Nat)*1) ((n:Int)-(i:Nat)) 1)where
 mem:=by simp
 obj:=fun i h st b hb=>by
  have e:b=it:=by simpa using hb
  subst e
  exact⟨_,st,fun v z=>by
   have z':Data.fields _=Data.cell v:=z
   cases z'⟩
 keep:=fun i h h' st k=>k it (by simp) _ st
 item:=by
  intro X hP hw hK hc i pins s σ H E I hf st hg
  subst hP hw hK
  obtain⟨f0,f1,f2,f3,f4,f5⟩:=hf it (by simp)
  have W:=Walks.range (prog:=X.prog) (w:=X.w) (I.ok.hd hc) it lo 1 n
  refine W.item i s _ _ hg st fun v h' tk hv st' kk=>?_
  obtain⟨t,rfl⟩:=hv
  have I1:Inv X pins σ H {s with heap:=h',toks:=tk}:=I.turned (fun b o hb e=>kk b o (by simpa using hb) e) f0 f1 f3 f4 f5
  refine⟨_,rfl,tL (s:={s with heap:=h',toks:=tk}) (n:="range_iterator") st' rfl rfl (by decide) ⟨.int (lo+i),H,I1,⟨t,?_⟩,⟨rfl,rfl⟩,st',fun b hb=>(hf b hb).1⟩⟩
  rw[Int.mul_one]
 done:=by
  intro X hP hw hK hc i pins s σ H E I hf st hg
  subst hP hw hK
  obtain⟨f0,f1,f2,f3,f4,f5⟩:=hf it (by simp)
  exact wpAny_pyNext_range_end (I.ok.hd hc) st (by have:n<=i:=hg;lia) fun h' eb=>⟨rfl,I.turned (t':=s.toks) (fun b o hb e=>eb b o hb e) f0 f1 f3 f4 f5⟩
 self:=fun _ _ _ _ _ st h=>wpAny_pyIter_rangeiter st h
section
variable{X:Cx}{tg:Expr}
def jZ(K:PySem.W.Frag)(tl:TE):TI:=fun σ H R=>tl σ H fun x H1=>∃a,x= .ref a/\(∃xs,SqL K H1 a xs)/\R (jI K a) H1
def Bc(K:PySem.W.Frag)(tl:TE):TI:=fun σ H R=>tl σ H fun x H1=>∃a,x= .ref a/\(∃xs,SqT K H1 a xs)/\R (wx K a) H1
theorem kc{l:Expr}{tl:TE}(hl:PE X l tl):PI X tg l (jZ X.K tl):=by
 intro pins s σ H R I h
 refine iJ (hl pins s σ H _ I h) fun v s1 ⟨x,H1,I1,r1,q1⟩=>?_
 obtain⟨a,e,⟨xs,hq⟩,q⟩:=q1
 subst e
 cases r1
 obtain⟨its,rv,p,hz⟩:=I1.list hq
 refine dZ p.isList ?_
 refine⟨s1.heap.objs.size,[s1.heap.objs.size],_,_,H1,rfl,I1.kept (t':=s1.toks) fun b o e=>af _ e,Gb a _,⟨_,aI _ rfl,rfl,rfl⟩,fun b hb=>?_,q⟩
 have e:b=s1.heap.objs.size:=by simpa using hb
 subst e
 exact I1.fpOk (ai _) (I1.hok.fresh (ai _))
theorem CQ{l:Expr}{tl:TE}(hl:PE X l tl):PI X tg l (Bc X.K tl):=by
 intro pins s σ H R I h
 refine iJ (hl pins s σ H _ I h) fun v s1 ⟨x,H1,I1,r1,q1⟩=>?_
 obtain⟨a,e,⟨xs,hq⟩,q⟩:=q1
 subst e
 cases r1
 obtain⟨its,rv,p,hz⟩:=I1.tuple hq
 refine eP (show s1.heap.IsTuple a its.toArray from p) ?_
 refine⟨s1.heap.objs.size,[s1.heap.objs.size],_,_,H1,rfl,I1.kept (t':=s1.toks) fun b o e=>af _ e,GK a _,⟨_,aI _ rfl,rfl,rfl⟩,fun b hb=>?_,q⟩
 have e:b=s1.heap.objs.size:=by simpa using hb
 subst e
 exact I1.fpOk (ai _) (I1.hok.fresh (ai _))
theorem zI{pins:List (Addr×Obj)}{σ:St}{H:Hp}{s:Shared}{R:It->Hp->Prop}{E:Value->Shared->Prop}{lo hi:Int}{t u v:Tok}{tk:Nat}(I:Inv X pins σ H s)(h1:-(2^62)<=lo)(h2:lo<2^62)(h3:-(2^62)<=hi)(h4:hi<2^62)
  (q:R (lZ lo (hi-lo).toNat) H):wpAny (model X.prog X.w) X.A (pyIter (.ref s.heap.objs.size)) (wu X pins σ tg R) E {s with heap:=s.heap.push {cls:=.type "range",data:=.fields #[.int lo t,.int hi u,.int 1 v]},toks:=tk}:=by
 refine wpAny_pyIter_range (IsRange.new ..) (small_one h1 h2 h3 h4) ?_
 have I1:Inv X pins σ H {s with heap:=s.heap.push {cls:=.type "range",data:=.fields #[.int lo t,.int hi u,.int 1 v]},toks:=tk}:=I.kept fun b o e=>af _ e
 refine⟨(s.heap.push {cls:=.type "range",data:=.fields #[.int lo t,.int hi u,.int 1 v]}).objs.size,[(s.heap.push {cls:=.type "range",data:=.fields #[.int lo t,.int hi u,.int 1 v]}).objs.size],_,_,H,rfl,
  I1.kept (t':=tk) fun b o e=>af _ e,GJ _ lo (hi-lo).toNat,?_,fun b hb=>?_,q⟩
 ·have e1:lo+((0:Nat):Int)*1=lo:=by simp
  have e2:(((hi-lo).toNat:Nat):Int)-((0:Nat):Int)=Builtin.Range.rangeSize lo hi 1:=by rw[rangeSize_one];split<;>lia
  show IsRangeIter _ _ (lo+((0:Nat):Int)*1) ((((hi-lo).toNat:Nat):Int)-((0:Nat):Int)) 1
  rw[e1,e2]
  exact aI _ rfl
 ·have e:b=(s.heap.push {cls:=.type "range",data:=.fields #[.int lo t,.int hi u,.int 1 v]}).objs.size:=by simpa using hb
  subst e
  exact I1.fpOk (ai _) (I1.hok.fresh (ai _))
def pH(ta:TA):TI:=fun σ H R=>ta σ H fun vs H1=>∃j:Int,vs=[.int j]/\-(2^62)<=j/\j<2^62/\R (lZ 0 j.toNat) H1
def Be(ta:TA):TI:=fun σ H R=>ta σ H fun vs H1=>∃i j:Int,vs=[.int i,.int j]/\(-(2^62)<=i/\i<2^62/\-(2^62)<=j/\j<2^62)/\R (lZ i (j-i).toNat) H1
theorem se{a:Expr}{ta:TA}{p pos:Pos}(hg:Gl X "range")(hm:X.mg "range"=none)(ha:PA X [a] ta)(hs:starEach [a] X.env=[(false,eval a X.env)]:=by rfl):PI X tg (.Call (.Name "range" p) [a] [] pos) (pH ta):=by
 intro pins s σ H R I h
 refine Call_ (nS I hg hm boot_range (cJ (iJ (ha pos pins s σ H _ I h) fun us s1 ⟨vs,H1,I1,r1,q1⟩=>?_) hs rfl))
 obtain⟨j,e,q1,q2,q⟩:=q1
 subst e
 cases r1 with
 |cons r rr=>
  cases rr
  obtain⟨t,rfl⟩:=r
  exact call_range_1 (zI I1 (by lia) (by lia) q1 q2 (by simpa using q))
theorem F3{a b:Expr}{ta:TA}{p pos:Pos}(hg:Gl X "range")(hm:X.mg "range"=none)(ha:PA X [a,b] ta)(hs:starEach [a,b] X.env=[(false,eval a X.env),(false,eval b X.env)]:=by rfl)(hs2:starEach [b] X.env=[(false,eval b X.env)]:=by rfl):
  PI X tg (.Call (.Name "range" p) [a,b] [] pos) (Be ta):=by
 intro pins s σ H R I h
 refine Call_ (nS I hg hm boot_range (cJ (iJ (ha pos pins s σ H _ I h) fun us s1 ⟨vs,H1,I1,r1,q1⟩=>?_) (by rw[hs,hs2]) (by rw[hs2];rfl)))
 obtain⟨i,j,e,⟨q1,q2,q3,q4⟩,q⟩:=q1
 subst e
 cases r1 with
 | cons r rr=>
  cases rr with
  |cons r' rr=>
   cases rr
   obtain⟨t,rfl⟩:=r
   obtain⟨t',rfl⟩:=r'
   exact call_range_2 (zI I1 q1 q2 q3 q4 q)
def wR(wi:TI)(g:TG)(tb:TS):TS:=fun D σ H=>wi σ H fun J H1=>∃W:Nat->Nat->St->Hp->Prop,(∃m,W 0 m σ H1)/\∀i m σ H,W i m σ H->
 (J.stop i H/\D.nx σ H)\/(J.go i H/\∃N:St->Hp->Prop,(∀σ' H',N σ' H'->∃m',m'<m/\W (i+1) m' σ' H')/\∀x H',J.yld i H x H'->g x σ H' fun σ2 H2=>tb {D with nx:=N,ct:=N,bk:=D.nx} σ2 H2)
noncomputable def pN(fp:List Addr)(h:Heap):List (Addr×Obj):=fp.filterMap fun b=>(h.get? b).map fun o=>(b,o)
theorem sj{fp:List Addr}{h:Heap}{b:Addr}{o:Obj}(hb:b∈fp)(e:h.get? b=some o):(b,o)∈pN fp h:=List.mem_filterMap.mpr ⟨b,hb,by rw[e];rfl⟩
theorem FT{fp:List Addr}{h:Heap}{p:Addr×Obj}(hp:p∈pN fp h):p.1∈fp/\h.get? p.1=some p.2:=by
 obtain⟨b,hb,e⟩:=List.mem_filterMap.mp hp
 cases q:h.get? b with
 |none=>rw[q]at e;cases e
 |some o=>
  rw[q]at e
  have e':(b,o)=p:=az e
  subst e'
  exact⟨hb,q⟩
theorem Inv.pinned{pins:List (Addr×Obj)}{σ:St}{H:Hp}{s:Shared}{fp:List Addr}(I:Inv X pins σ H s)(hf:∀b∈fp,lD X pins H b)(ho:∀b∈fp,∃o,s.heap.get? b=some o/\∀v,o.data≠ .cell v):Inv X (pins++pN fp s.heap) σ H s:=
 I.pins_of fun p hp=>(bu.mp hp).elim (fun z=>I.pin p (bG _ z)) fun z=>by
  obtain⟨hb,e⟩:=FT z
  obtain⟨f0,f1,f2,_⟩:=hf p.1 hb
  obtain⟨o,e',d⟩:=ho p.1 hb
  rw[e]at e';cases e'
  exact⟨e,f0,f1,f2,d⟩
theorem Inv.unpinned{pins pl:List (Addr×Obj)}{σ:St}{H:Hp}{s:Shared}(I:Inv X (pins++pl) σ H s):Inv X pins σ H s:=I.pins_of fun p hp=>I.pin p (bG _ (gb _ hp))
theorem kR{iter:Expr}{body:List Stmt}{wi:TI}{g:TG}{tb:TS}{pos:Pos}(hp:PassesOwn (model X.prog X.w) X.A X.env X.xe)(hc:X.calm=true)(hi:PI X tg iter wi)(hg:PG X tg g)(hb:PSs X body tb)
  (hs:∀x,foldedSetIterable iter X.env x=pure x:=by intro _;rfl):PS X (.For tg iter body [] pos) (wR wi g tb):=by
 intro pins s σ H D I h
 refine wpAny_For (iJ (hi pins s σ H _ I h) fun v s1 h1=>iJ h1 fun itv s2 h2=>?_) hs
 obtain⟨it,fp,tn,J,H2,e,I2,T,st2,f2,W,⟨m0,w0⟩,turn⟩:=h2
 subst e
  -- what stays true of the iterator's objects through the loop
 have stat:∀{H':Hp},(∀b∈fp,H' b=none)->∀b∈fp,lD X pins H' b:=fun hn b hb=>⟨hn b hb,(f2 b hb).2⟩
 refine codeAny_forLoop_any (fun n s'=>∃i σ' H',Inv X pins σ' H' s'/\tn i s'.heap/\(∀b∈fp,H' b=none)/\W i n σ' H') ?_ m0 ⟨0,σ,H2,I2,st2,fun b hb=>(f2 b hb).1,w0⟩
 rintro n s3 ⟨i,σ3,H3,I3,st3,fr3,w3⟩
 rcases turn i n σ3 H3 w3 with⟨stop,qn⟩|⟨go,N,hN,step⟩
 ·refine dw hp (iJ (T.done X rfl rfl rfl hc i pins s3 σ3 H3 X.xe I3 (stat fr3) st3 stop) fun r s4 ⟨hr,I4⟩=>?_)
  subst hr
  exact fN ⟨σ3,H3,I4,qn⟩
 ·refine dw hp (iJ (T.item X rfl rfl rfl hc i pins s3 σ3 H3 X.xe I3 (stat fr3) st3 go) fun r s4 ⟨u,hr,h4⟩=>?_)
  subst hr
  refine dw hp (iJ h4 fun _ s5 ⟨x,H5,I5,r5,y5,st5,fr5⟩=>?_)
  have I5':=I5.pinned (stat fr5) (T.obj _ _ st5)
  refine dw hp (iJ (hg _ s5 σ3 H5 x u _ I5' r5 (step x H5 y5)) fun _ s6 ⟨σ6,H6,I6,q6⟩=>?_)
  refine dw hp (iJ (hb _ s6 σ6 H6 _ I6 q6) fun f s7 q7=>?_)
  have again:∀{σ7:St} {H7:Hp},Inv X (pins++pN fp s5.heap) σ7 H7 s7->N σ7 H7->∃m,m<n/\∃i σ' H',Inv X pins σ' H' s7/\tn i s7.heap/\(∀b∈fp,H' b=none)/\W i m σ' H':=fun{σ7 H7} I7 n7=>by
   obtain⟨m',hm,w7⟩:=hN σ7 H7 n7
   refine⟨m',hm,i+1,σ7,H7,I7.unpinned,T.keep _ _ _ st5 fun b hb o e=>(I7.pin (b,o) (bG _ (bG _ (sj hb e)))).1,fun b hb=>?_,w7⟩
   obtain⟨o,e,d⟩:=T.obj _ _ st5 b hb
   exact(I7.pin (b,o) (bG _ (bG _ (sj hb e)))).2.1
  cases f with
  |next=>obtain⟨σ7,H7,I7,n7⟩:=q7;exact again I7 n7
  |cont=>obtain⟨σ7,H7,I7,n7⟩:=q7;exact again I7 n7
  |brk=>obtain⟨σ7,H7,I7,q7⟩:=q7;exact⟨σ7,H7,I7.unpinned,q7⟩
  |ret v=>obtain⟨x7,σ7,H7,I7,r7,q7⟩:=q7;exact⟨x7,σ7,H7,I7.unpinned,r7,q7⟩
end
theorem nA{K:PySem.W.Frag}{a:Addr}{xs:List V}{g:TG}{tb:TS}{D:Ends}{σ:St}{H:Hp}(Pv:Nat->St->Hp->Prop)(h0:Pv 0 σ H)(hl:∀i σ H,i<=xs.length->Pv i σ H->SqL K H a xs)
  (hs:∀i x σ H,xs[i]? =some x->Pv i σ H->g x σ H fun σ2 H2=>tb {D with nx:=Pv (i+1),ct:=Pv (i+1),bk:=D.nx} σ2 H2) (hd:∀σ H,Pv xs.length σ H->D.nx σ H):
  ∃W:Nat->Nat->St->Hp->Prop,(∃m,W 0 m σ H)/\∀i m σ H,W i m σ H->
   ((jI K a).stop i H/\D.nx σ H)\/((jI K a).go i H/\∃N:St->Hp->Prop,(∀σ' H',N σ' H'->∃m',m'<m/\W (i+1) m' σ' H')/\∀x H',(jI K a).yld i H x H'->g x σ H' fun σ2 H2=>tb {D with nx:=N,ct:=N,bk:=D.nx} σ2 H2):=by
 refine⟨fun i m σ H=>m=xs.length-i/\i<=xs.length/\Pv i σ H,⟨xs.length,by simp,bj _,h0⟩,?_⟩
 rintro i m σ H ⟨rfl,hi,p⟩
 have q:=hl i σ H hi p
 by_cases hlt:i<xs.length
 ·refine .inr ⟨⟨xs,xs[i],q,by simp[hlt]⟩,Pv (i+1),fun σ' H' p'=>⟨xs.length-(i+1),by lia,rfl,hlt,p'⟩,fun x H' y=>?_⟩
  obtain⟨e,y⟩:=y
  subst e
  exact hs i x σ _ (y xs q) p
 ·have e:i=xs.length:=by lia
  subst e
  exact .inl ⟨⟨xs,q,ai _⟩,hd σ H p⟩
theorem rZ{lo:Int}{n:Nat}{g:TG}{tb:TS}{D:Ends}{σ:St}{H:Hp}(Pv:Nat->St->Hp->Prop)(h0:Pv 0 σ H)
  (hs:∀i σ H,i<n->Pv i σ H->g (.int (lo+i)) σ H fun σ2 H2=>tb {D with nx:=Pv (i+1),ct:=Pv (i+1),bk:=D.nx} σ2 H2) (hd:∀σ H,Pv n σ H->D.nx σ H):
  ∃W:Nat->Nat->St->Hp->Prop,(∃m,W 0 m σ H)/\∀i m σ H,W i m σ H->
   ((lZ lo n).stop i H/\D.nx σ H)\/((lZ lo n).go i H/\∃N:St->Hp->Prop,(∀σ' H',N σ' H'->∃m',m'<m/\W (i+1) m' σ' H')/\∀x H',(lZ lo n).yld i H x H'->g x σ H' fun σ2 H2=>tb {D with nx:=N,ct:=N,bk:=D.nx} σ2 H2):=by
 refine⟨fun i m σ H=>m=n-i/\i<=n/\Pv i σ H,⟨n,by simp,bj _,h0⟩,?_⟩
 rintro i m σ H ⟨rfl,hi,p⟩
 by_cases hlt:i<n
 ·refine .inr ⟨hlt,Pv (i+1),fun σ' H' p'=>⟨n-(i+1),by lia,rfl,hlt,p'⟩,fun x H' y=>?_⟩
  obtain⟨e,y⟩:=y
  subst e y
  exact hs i σ _ hlt p
 ·have e:i=n:=by lia
  subst e
  exact .inl ⟨ai _,hd σ H p⟩
theorem vg{c:TT}{tb:TS}{D:Ends}{σ:St}{H:Hp}(Pv:St->Hp->Prop)(μ:St->Hp->Nat)(h0:Pv σ H)
  (hs:∀σ H,Pv σ H->c σ H fun b H1=>if b=true then tb {D with nx:=fun σ' H'=>Pv σ' H'/\μ σ' H'<μ σ H,ct:=fun σ' H'=>Pv σ' H'/\μ σ' H'<μ σ H,bk:=D.nx} σ H1 else D.nx σ H1)
  (mono:∀σ H Q Q',(∀b H1,Q b H1->Q' b H1)->c σ H Q->c σ H Q'):yd c tb D σ H:=by
 refine⟨fun m σ H=>m=μ σ H/\Pv σ H,⟨_,rfl,h0⟩,?_⟩
 rintro m σ H ⟨rfl,p⟩
 refine mono σ H _ _ (fun b H1 q=>?_) (hs σ H p)
 cases b with
 |true=>exact⟨_,fun σ' H' ⟨p',l⟩=>⟨_,l,rfl,p'⟩,q⟩
 |false=>exact q
abbrev R2:=V->V->Hp->VK->Prop
def OpR(X:Cx)(f:Value->Value->Sem Value)(r:R2):Prop:=
 ∀(pins:List (Addr×Obj)) (s:Shared) (σ:St) (H:Hp) (x y:V) (v u:Value) (Q:VK),Inv X pins σ H s->RelV x v->RelV y u->r x y H Q->
  wpAny (model X.prog X.w) X.A (f v u) (EP X pins σ Q) X.xe s
def sP(X:Cx)(f:Value->Sem Value)(r:V->Hp->VK->Prop):Prop:=
 ∀(pins:List (Addr×Obj)) (s:Shared) (σ:St) (H:Hp) (x:V) (v:Value) (Q:VK),Inv X pins σ H s->RelV x v->r x H Q->
  wpAny (model X.prog X.w) X.A (f v) (EP X pins σ Q) X.xe s
def jc2(X:Cx)(f:Value)(r:List V->Hp->VK->Prop):Prop:=
 ∀(pins:List (Addr×Obj)) (s:Shared) (σ:St) (H:Hp) (xs:List V) (us:List Value) (Q:VK),Inv X pins σ H s->Vals xs us->r xs H Q->
  wpAny (model X.prog X.w) X.A (call f us) (EP X pins σ Q) X.xe s
def IP(X:Cx)(r:V->Hp->(Bool->Hp->Prop)->Prop):Prop:=
 ∀(pins:List (Addr×Obj)) (s:Shared) (σ:St) (H:Hp) (x:V) (v:Value) (Q:Bool->Hp->Prop),Inv X pins σ H s->RelV x v->r x H Q->
  wpAny (model X.prog X.w) X.A (truthy v) (TP X pins σ Q) X.xe s
def nI(r:R2)(ta tb:TE):TE:=fun σ H Q=>ta σ H fun x H1=>tb σ H1 fun y H2=>r x y H2 Q
def sX(r:V->Hp->VK->Prop)(ta:TE):TE:=fun σ H Q=>ta σ H fun x H1=>r x H1 Q
def rI(C:Int->Int->Prop)(g:Int->Int->V):R2:=fun x y H Q=>∃i j,x= .int i/\y= .int j/\C i j/\Q (g i j) H
def mn(g:Int->Int->V):R2:=fun x y H Q=>∃i j,x= .int i/\y= .int j/\Q (g i j) H
def rU(g:Int->V):V->Hp->VK->Prop:=fun x H Q=>∃i,x= .int i/\Q (g i) H
section
variable{X:Cx}{a b c:Expr}{ta tb tc:TE}{pos:Pos}
theorem wm(ha:PE X a ta)(hb:PE X b tb){pins:List (Addr×Obj)}{s:Shared}{σ:St}{H:Hp}{R:V->V->Hp->Prop}(I:Inv X pins σ H s)
  (h:ta σ H fun x H1=>tb σ H1 fun y H2=>R x y H2) {Q:Value->Shared->Prop} {f:Value->Value->Sem Value}
  (hf:∀v u s2 x y H2,Inv X pins σ H2 s2->RelV x v->RelV y u->R x y H2->wpAny (model X.prog X.w) X.A (f v u) Q X.xe s2):
  wpAny (model X.prog X.w) X.A (eval a X.env) (fun v s₁=>wpAny (model X.prog X.w) X.A (eval b X.env) (fun u s₂=>wpAny (model X.prog X.w) X.A (f v u) Q X.xe s₂) X.xe s₁) X.xe s:=by
 refine iJ (ha pins s σ H _ I h) fun v s1 ⟨x,H1,I1,r1,q1⟩=>?_
 refine iJ (hb pins s1 σ H1 _ I1 q1) fun u s2 ⟨y,H2,I2,r2,q2⟩=>?_
 exact hf v u s2 x y H2 I2 r1 r2 q2
theorem iR{op:Operator}{r:R2}(ho:OpR X (binaryOp op) r)(ha:PE X a ta)(hb:PE X b tb):PE X (.BinOp a op b pos) (nI r ta tb):=by
 intro pins s σ H Q I h
 exact wpAny_BinOp (wm ha hb I h fun v u s2 x y H2 I2 rx ry q=>ho pins s2 σ H2 x y v u Q I2 rx ry q)
theorem ng{op:UnaryOp}{r:V->Hp->VK->Prop}(ho:sP X (unaryOp op) r)(ha:PE X a ta):PE X (.UnaryOp op a pos) (sX r ta):=by
 intro pins s σ H Q I h
 exact UnaryOp_ (iJ (ha pins s σ H _ I h) fun v s1 ⟨x,H1,I1,r1,q1⟩=>ho pins s1 σ H1 x v Q I1 r1 q1)
theorem qJ{f:Value->Value->Sem Value}{C:Int->Int->Prop}{g:Int->Int->Int}
  (rule:∀(i j:Int) (t u:Tok) (s:Shared) (Q:Value->Shared->Prop) (E:Value->Shared->Prop),C i j->Q (.int (g i j) s.toks) {s with toks:=s.toks+1}->wpAny (model X.prog X.w) X.A (f (.int i t) (.int j u)) Q E s):
  OpR X f (rI C fun i j=>.int (g i j)):=by
 intro pins s σ H x y v u Q I rx ry h
 obtain⟨i,j,rfl,rfl,hc,q⟩:=h
 obtain⟨t,rfl⟩:=rx
 obtain⟨t',rfl⟩:=ry
 exact rule i j t t' s _ _ hc ⟨.int (g i j),H,I.tok _,⟨_,rfl⟩,q⟩
theorem tf{f:Value->Value->Sem Value}{g:Int->Int->Int}
  (rule:∀(i j:Int) (t u:Tok) (s:Shared) (Q:Value->Shared->Prop) (E:Value->Shared->Prop),Q (.int (g i j) s.toks) {s with toks:=s.toks+1}->wpAny (model X.prog X.w) X.A (f (.int i t) (.int j u)) Q E s):
  OpR X f (mn fun i j=>.int (g i j)):=by
 intro pins s σ H x y v u Q I rx ry h
 obtain⟨i,j,rfl,rfl,q⟩:=h
 obtain⟨t,rfl⟩:=rx
 obtain⟨t',rfl⟩:=ry
 exact rule i j t t' s _ _ ⟨.int (g i j),H,I.tok _,⟨_,rfl⟩,q⟩
theorem qK{f:Value->Value->Sem Value}{g:Int->Int->Bool}
  (rule:∀(i j:Int) (t u:Tok) (s:Shared) (Q:Value->Shared->Prop) (E:Value->Shared->Prop),Q (.bool (g i j)) s->wpAny (model X.prog X.w) X.A (f (.int i t) (.int j u)) Q E s):
  OpR X f (mn fun i j=>.bl (g i j)):=by
 intro pins s σ H x y v u Q I rx ry h
 obtain⟨i,j,rfl,rfl,q⟩:=h
 obtain⟨t,rfl⟩:=rx
 obtain⟨t',rfl⟩:=ry
 exact rule i j t t' s _ _ ⟨.bl (g i j),H,I,rfl,q⟩
def sU(i j:Int):Prop:=0<j/\j<1073741824
def sT(i j:Int):Prop:=0<=j/\j<=1000000/\i.natAbs<2^64
def CMul(i j:Int):Prop:=(-(2^64)<i/\i<2^64)\/(-(2^64)<j/\j<2^64)
theorem CMul.ok{i j:Int}(h:CMul i j):IntMulOk i j:=by
 rcases h with⟨h1,h2⟩|⟨h1,h2⟩
 ·exact .of_left (intBits_le_64 h1 h2)
 ·exact .of_right (intBits_le_64 h1 h2)
theorem Dd:OpR X (binaryOp .Add) (mn fun i j=>.int (i+j)):=tf fun _ _ _ _ _ _ _ q=>add_int q
theorem CZ:OpR X (binaryOp .Sub) (mn fun i j=>.int (i-j)):=tf fun _ _ _ _ _ _ _ q=>sub_int q
theorem C3:OpR X (binaryOp .Mult) (rI CMul fun i j=>.int (i*j)):=qJ fun _ _ _ _ _ _ _ hc q=>mul_int q hc.ok
theorem DY:OpR X (binaryOp .FloorDiv) (rI sU fun i j=>.int (i/j)):=qJ fun i j _ _ _ _ _ hc q=>by
 have h1:(0:Int)<j:=hc.1
 have h2:j<1073741824:=hc.2
 exact floordiv_int (by lia) (by rw[iq i (by lia)];exact q) (.inl (PyProof.noPylong_small (by lia)))
theorem C4:OpR X (binaryOp .Mod) (rI (fun _ j=>0<j) fun i j=>.int (i%j)):=qJ fun i j _ _ _ _ _ hc q=>by
 have h1:(0:Int)<j:=hc
 exact mod_int' (by lia) (by rw[Int.fmod_eq_emod_of_nonneg i (by lia)];exact q)
theorem C0:OpR X (binaryOp .Pow) (rI sT fun i j=>.int (i^j.toNat)):=qJ fun _ _ _ _ _ _ _ hc q=>pow_int_small hc.1 hc.2.1 hc.2.2 q
theorem DL:OpR X (inplaceOp .Add) (mn fun i j=>.int (i+j)):=tf fun _ _ _ _ _ _ _ q=>iadd_int q
theorem unI{f:Value->Sem Value}{g:Int->Int}
  (rule:∀(i:Int) (t:Tok) (s:Shared) (Q:Value->Shared->Prop) (E:Value->Shared->Prop),Q (.int (g i) s.toks) {s with toks:=s.toks+1}->wpAny (model X.prog X.w) X.A (f (.int i t)) Q E s):
  sP X f (rU fun i=>.int (g i)):=by
 intro pins s σ H x v Q I rx h
 obtain⟨i,rfl,q⟩:=h
 obtain⟨t,rfl⟩:=rx
 exact rule i t s _ _ ⟨.int (g i),H,I.tok _,⟨_,rfl⟩,q⟩
theorem BO:sP X (unaryOp .USub) (rU fun i=>.int (-i)):=unI fun _ _ _ _ _ q=>neg_int q
end
noncomputable def xa:V->V->Bool
 | .non,.non=>true| .non,.int _=>true| .int _,.non=>true| .non,.bl _=>true| .bl _,.non=>true| .non,.str _=>true| .str _,.non=>true
 | .int _,.int _=>true| .bl _,.bl _=>true| .str _,.str _=>true| .byt _,.byt _=>true
 | .int _,.str _=>true| .str _,.int _=>true| .bl _,.str _=>true| .str _,.bl _=>true
 |_,_=>false
def CC:R2:=fun x y H Q=>xa x y=true/\Q (.bl (decide (x=y))) H
def Cv:R2:=fun x y H Q=>xa x y=true/\Q (.bl (!decide (x=y))) H
theorem yp{i j:Int}:decide (V.int i=V.int j)=(i==j):=by
 rw[dW]
 simp
theorem xy{i j:Bool}:decide (V.bl i=V.bl j)=(i==j):=by
 rw[dW]
 simp
theorem yq{i j:Str}:decide (V.str i=V.str j)=(i==j):=by
 rw[dW]
 simp
theorem yo{i j:Array UInt8}:decide (V.byt i=V.byt j)=(i.toList==j.toList):=by
 rw[dW]
 cases i
 cases j
 simp
section
variable{X:Cx}{a b c:Expr}{ta tb tc:TE}{pos:Pos}
theorem jy{pins:List (Addr×Obj)}{σ:St}{H:Hp}{s:Shared}{Q:VK}{k k':Bool}(I:Inv X pins σ H s)(q:Q (.bl k) H)(e:k=k'):EP X pins σ Q (.bool k') s:=by
 subst e
 exact⟨.bl k,H,I,rfl,q⟩
theorem Da:OpR X (compareOp .Eq) CC:=by
 intro pins s σ H x y v u Q I rx ry h
 obtain⟨hs,q⟩:=h
 cases x with
 |non=>
  cases rx
  cases y with
  |non=>cases ry;exact PySem.EqNone.eq_none_none (jy I q (by simp))
  |bl j=>cases ry;exact PySem.EqNone.eq_none_bool (jy I q (by simp))
  |int j=>obtain⟨t',rfl⟩:=ry;exact PySem.EqNone.eq_none_int (jy I q (by simp))
  |str j=>obtain⟨t',rfl⟩:=ry;exact PySem.EqNone.eq_none_str (jy I q (by simp))
  |_=>exact absurd (show false=true from hs) aO
 |bl i=>
  cases rx
  cases y with
  |non=>cases ry;exact PySem.EqNone.eq_bool_none (jy I q (by simp))
  |bl j=>cases ry;exact eq_bool (jy I q xy)
  |str j=>obtain⟨t',rfl⟩:=ry;exact PySem.EqMixed.eq_bool_str (jy I q (by simp))
  |_=>exact absurd (show false=true from hs) aO
 |int i=>
  obtain⟨t,rfl⟩:=rx
  cases y with
  |non=>cases ry;exact PySem.EqNone.eq_int_none (jy I q (by simp))
  |int j=>obtain⟨t',rfl⟩:=ry;exact eq_int (jy I q yp)
  |str j=>obtain⟨t',rfl⟩:=ry;exact PySem.EqMixed.eq_int_str (jy I q (by simp))
  |_=>exact absurd (show false=true from hs) aO
 |str i=>
  obtain⟨t,rfl⟩:=rx
  cases y with
  |non=>cases ry;exact PySem.EqNone.eq_str_none (jy I q (by simp))
  |bl j=>cases ry;exact PySem.EqMixed.eq_str_bool (jy I q (by simp))
  |int j=>obtain⟨t',rfl⟩:=ry;exact PySem.EqMixed.eq_str_int (jy I q (by simp))
  |str j=>obtain⟨t',rfl⟩:=ry;exact eq_str (jy I q yq)
  |_=>exact absurd (show false=true from hs) aO
 |byt i=>
  obtain⟨t,rfl⟩:=rx
  cases y with
  |byt j=>obtain⟨t',rfl⟩:=ry;exact PySem.W.eq_bytes (jy I q yo)
  |_=>exact absurd (show false=true from hs) aO
 |_=>cases y<;>exact absurd (show false=true from hs) aO
theorem C1:OpR X (compareOp .NotEq) Cv:=by
 intro pins s σ H x y v u Q I rx ry h
 obtain⟨hs,q⟩:=h
 cases x with
 |non=>
  cases rx
  cases y with
  |non=>cases ry;exact PySem.EqNone.ne_none_none (jy I q (by simp))
  |bl j=>cases ry;exact PySem.EqNone.ne_none_bool (jy I q (by simp))
  |int j=>obtain⟨t',rfl⟩:=ry;exact PySem.EqNone.ne_none_int (jy I q (by simp))
  |str j=>obtain⟨t',rfl⟩:=ry;exact PySem.EqNone.ne_none_str (jy I q (by simp))
  |_=>exact absurd (show false=true from hs) aO
 |bl i=>
  cases rx
  cases y with
  |non=>cases ry;exact PySem.EqNone.ne_bool_none (jy I q (by simp))
  |bl j=>cases ry;exact ne_bool (jy I q (bS not xy))
  |str j=>obtain⟨t',rfl⟩:=ry;exact PySem.EqMixed.ne_bool_str (jy I q (by simp))
  |_=>exact absurd (show false=true from hs) aO
 |int i=>
  obtain⟨t,rfl⟩:=rx
  cases y with
  |non=>cases ry;exact PySem.EqNone.ne_int_none (jy I q (by simp))
  |int j=>obtain⟨t',rfl⟩:=ry;exact ne_int (jy I q (bS not yp))
  |str j=>obtain⟨t',rfl⟩:=ry;exact PySem.EqMixed.ne_int_str (jy I q (by simp))
  |_=>exact absurd (show false=true from hs) aO
 |str i=>
  obtain⟨t,rfl⟩:=rx
  cases y with
  |non=>cases ry;exact PySem.EqNone.ne_str_none (jy I q (by simp))
  |bl j=>cases ry;exact PySem.EqMixed.ne_str_bool (jy I q (by simp))
  |int j=>obtain⟨t',rfl⟩:=ry;exact PySem.EqMixed.ne_str_int (jy I q (by simp))
  |str j=>obtain⟨t',rfl⟩:=ry;exact ne_str (jy I q (bS not yq))
  |_=>exact absurd (show false=true from hs) aO
 |byt i=>
  obtain⟨t,rfl⟩:=rx
  cases y with
  |byt j=>obtain⟨t',rfl⟩:=ry;exact PySem.W.ne_bytes (jy I q (bS not yo))
  |_=>exact absurd (show false=true from hs) aO
 |_=>cases y<;>exact absurd (show false=true from hs) aO
theorem C6:OpR X (compareOp .Lt) (mn fun i j=>.bl (decide (i<j))):=qK fun _ _ _ _ _ _ _ q=>lt_int q
theorem C7:OpR X (compareOp .LtE) (mn fun i j=>.bl (decide (i<=j))):=qK fun _ _ _ _ _ _ _ q=>le_int q
theorem C8:OpR X (compareOp .Gt) (mn fun i j=>.bl (decide (j<i))):=qK fun _ _ _ _ _ _ _ q=>gt_int q
theorem C9:OpR X (compareOp .GtE) (mn fun i j=>.bl (decide (j<=i))):=qK fun _ _ _ _ _ _ _ q=>ge_int q
theorem DZ:OpR X (compareOp .IsNot) (fun x y H Q=>y= .non/\Q (.bl (!decide (x= .non))) H):=by
 intro pins s σ H x y v u Q I rx ry h
 obtain⟨rfl,q⟩:=h
 cases ry
 refine isnot_none_gen (jy I q ?_)
 cases x<;>first
  |(cases rx;rfl)
  |(obtain⟨t,rfl⟩:=rx;rfl)
theorem jz(b:Expr){op:CmpOp}(h:op≠ .In:=by decide)(h2:op≠ .NotIn:=by decide):behindInMarks op b=false:=by
 have e1:(op==CmpOp.In)=false:=by cases op<;>first|rfl|exact absurd rfl h
 have e2:(op==CmpOp.NotIn)=false:=by cases op<;>first|rfl|exact absurd rfl h2
 cases b<;>simp[behindInMarks,e1,e2]
theorem lp{op:CmpOp}{r:R2}(ho:OpR X (compareOp op) r)(ha:PE X a ta)(hb:PE X b tb)(hm:behindInMarks op b=false):PE X (.Compare a [op] [b] pos) (nI r ta tb):=by
 intro pins s σ H Q I h
 exact wpAny_Compare1 (wm ha hb I h fun v u s2 x y H2 I2 rx ry q=>ho pins s2 σ H2 x y v u Q I2 rx ry q) hm
def Bv(K:PySem.W.Frag)(x:V)(H:Hp)(k:Bool):Prop:=
 match x with
 | .non=>k=false
 | .bl b=>k=b
 | .int i=>k=(i !=0)
 | .str y=>y.length<=sizeLine/\k=((y.length:Int) !=0)
 | .byt y=>y.size<=sizeLine/\k=((y.size:Int) !=0)
 | .ref p=>(∃xs,SqL K H p xs/\k= !xs.isEmpty)\/(∃xs,SqT K H p xs/\k= !xs.isEmpty)\/∃kvs,H p=some (.dK kvs)/\k= !kvs.isEmpty
 |_=>False
theorem Gr{κ:Type}{kvs:List (κ×V)}{vs:List (κ×Value)}(r:KV kvs vs):(!vs.isEmpty)= !kvs.isEmpty:=by
 cases r<;>rfl
theorem AC{xs:List V}{its:List Value}(r:Vals xs its):(!its.toArray.isEmpty)= !xs.isEmpty:=by
 cases r<;>simp
theorem oE:(sizeLine:Nat)<2^63:=by rw[fc];decide
theorem BR:IP X (fun x H Q=>∃k,Bv X.K x H k/\Q k H):=by
 intro pins s σ H x v Q I rx h
 obtain⟨k,e,q⟩:=h
 have hl:=oE
 have hs:sizeLine=16777216:=fc
 cases x with
 |non=>
  cases rx
  have e':k=false:=e
  subst e'
  exact truthy_none ⟨H,I,q⟩
 |bl b=>
  cases rx
  have e':k=b:=e
  subst e'
  exact bR ⟨H,I,q⟩
 |int i=>
  obtain⟨t,rfl⟩:=rx
  have e':k=(i !=0):=e
  subst e'
  exact PySem.P.truthy_int ⟨H,I,q⟩
 |str y=>
  obtain⟨t,rfl⟩:=rx
  obtain⟨hy,e'⟩:y.length<=sizeLine/\k=((y.length:Int) !=0):=e
  subst e'
  exact PySem.P.truthy_str (by lia) ⟨H,I.tok _,q⟩
 |byt y=>
  obtain⟨t,rfl⟩:=rx
  obtain⟨hy,e'⟩:y.size<=sizeLine/\k=((y.size:Int) !=0):=e
  subst e'
  exact PySem.W.truthy_bytes (by lia) ⟨H,I.tok _,q⟩
 | ref p=>
  cases rx
  have e':(∃xs,SqL X.K H p xs/\k= !xs.isEmpty)\/(∃xs,SqT X.K H p xs/\k= !xs.isEmpty)\/∃kvs,H p=some (.dK kvs)/\k= !kvs.isEmpty:=e
  rcases e' with⟨xs,hx,e'⟩|⟨xs,hx,e'⟩|⟨kvs,hx,e'⟩
  ·subst e'
   obtain⟨its,r,pl,hz⟩:=I.list hx
   have hlen:=r.length
   exact wpAny_truthy_list pl.isList (by simp only[ah];lia) ⟨H,I.tok _,by rw[AC r];exact q⟩
  ·subst e'
   obtain⟨its,r,pl,hz⟩:=I.tuple hx
   have hlen:=r.length
   exact truthy_tuple pl (by simp only[ah];lia) ⟨H,I.tok _,by rw[AC r];exact q⟩
  ·subst e'
   obtain⟨hz,hS,vs,r,m⟩:kvs.length<=sizeLine/\(p==sysModules)=false/\∃vs,KV kvs vs/\s.heap.DictOf (jO X.prog X.w) p vs:=I.hok p _ hx
   have hlen:kvs.length=vs.length:=aw r
   exact wpAny_truthy_dict hS m (by lia) ⟨H,I.tok _,by rw[Gr r];exact q⟩
 |_=>exact(show False from e).elim
theorem Fc (ha:PE X a ta) (he:∀ whole,isTrue a X.env whole = (do let v <- whole; standAt a.pos; holding [v] (truthy v))) :
  PT X a (fun σ H Q=>ta σ H fun x H'=>∃k,Bv X.K x H' k/\Q k H'):=by
 intro pins s σ H Q I h
 exact isTrue_plain (iJ (ha pins s σ H _ I h) fun v s1 ⟨x,H1,I1,r1,q1⟩=>BR pins s1 σ H1 x v Q I1 r1 q1) (he _)
theorem mP{x:V}{us:List Value}(r:Vals [x] us):∃u,us=[u]/\RelV x u:=by
 cases r with
 |cons r1 r2=>cases r2;exact⟨_,rfl,r1⟩
theorem vals2{x y:V}{us:List Value}(r:Vals [x,y] us):∃u w',us=[u,w']/\RelV x u/\RelV y w':=by
 cases r with
 |cons r1 r2=>
  cases r2 with
  |cons r3 r4=>cases r4;exact⟨_,_,rfl,r1,r3⟩
theorem Ft(hc:X.calm=true):jc2 X (.builtin "max") (fun xs H Q=>∃i j,xs=[.int i,.int j]/\Q (.int (if j>i then j else i)) H):=by
 intro pins s σ H xs us Q I r h
 obtain⟨i,j,rfl,q⟩:=h
 obtain⟨u,w',rfl,⟨t,rfl⟩,⟨t',rfl⟩⟩:=vals2 r
 refine max_two_ints (I.ok.hd hc) fun h' tk k=>⟨_,H,I.kept k,?_,q⟩
 by_cases hj:j>i
 ·rw[aq hj,aq hj];exact⟨_,rfl⟩
 ·rw[ak hj,ak hj];exact⟨_,rfl⟩
theorem Fu(hc:X.calm=true):jc2 X (.builtin "min") (fun xs H Q=>∃i j,xs=[.int i,.int j]/\Q (.int (if j<i then j else i)) H):=by
 intro pins s σ H xs us Q I r h
 obtain⟨i,j,rfl,q⟩:=h
 obtain⟨u,w',rfl,⟨t,rfl⟩,⟨t',rfl⟩⟩:=vals2 r
 refine min_two_ints (I.ok.hd hc) fun h' tk k=>⟨_,H,I.kept k,?_,q⟩
 by_cases hj:j<i
 ·rw[aq hj,aq hj];exact⟨_,rfl⟩
 ·rw[ak hj,ak hj];exact⟨_,rfl⟩
theorem Fs:jc2 X (.type "int") (fun xs H Q=>(∃i,xs=[.int i]/\Q (.int i) H)\/∃k,xs=[.bl k]/\Q (.int (if k then 1 else 0)) H):=by
 intro pins s σ H xs us Q I r h
 rcases h with⟨i,rfl,q⟩|⟨k,rfl,q⟩
 ·obtain⟨u,rfl,t,rfl⟩:=mP r
  exact call_int_int ⟨.int i,H,I,⟨_,rfl⟩,q⟩
 ·obtain⟨u,rfl,r1⟩:=mP r
  cases r1
  exact call_int_bool ⟨.int (if k then 1 else 0),H,I.tok _,⟨_,rfl⟩,q⟩
end
structure ObjM(h:Heap)(x dx C:Addr)(mA:Str->Option Value):Prop where
 obj:h.get? x=some (PySem.W.instObj C dx)
 ns:h.Ns1 dx mA
 ne:dx≠x
theorem FO{h:Heap}{dx:Addr}{mA:Str->Option Value}(n:h.Ns1 dx mA):∃od,h.get? dx=some od/\∀name,PySem.W.lookIn name od=some (mA name):=by
 obtain⟨o,es,ep,ho,hd,hk,_,hm⟩:=n
 refine⟨o,ho,fun name=>?_⟩
 have e:=hm name
 unfold nsFind findBy at e
 rw [<- Array.find?_toList] at e
 unfold PySem.W.lookIn
 rw[hd]
 dsimp only
 split
 ·rename_i y q
  rw[q]at e
  exact bS some e
 ·rename_i q
  rw[q]at e
  have a:es.toList.any (·.refKey)=false:=by
   rw[List.any_eq_false]
   intro y hy
   obtain⟨z,t,hkey⟩:=hk y (Array.mem_toList_iff.mp hy)
   simp[DictEntry.refKey,hkey]
  have a':¬es.toList.any (·.refKey)=true:=by rw[a];exact aO
  rw[ak a']
  exact bS some e
theorem ObjM.look{h:Heap}{x dx C:Addr}{mA:Str->Option Value}(I:ObjM h x dx C mA):∃od,PySem.W.InstAt h x (PySem.W.instObj C dx) C (some od)/\∀name,PySem.W.lookIn name od=some (mA name):=
 let⟨od,ho,hl⟩:=FO I.ns
 ⟨od,⟨I.obj,rfl,rfl,ho⟩,hl⟩
section
variable{prog:Program}{w:World}{A:Around}{E:Value->Shared->Prop}{s:Shared}{K:PySem.W.Frag}{x dx C f:Addr}{mA:Str->Option Value}{name:Str}{v:Value}
theorem DJ{expr:Bool}{Q:Value->Shared->Prop}(X:K.In s.heap)(I:ObjM s.heap x dx C mA)(hg:PySem.W.plainGet K C name=true)(hh:PySem.W.hasDictIn K C=true)
  (ha:PySem.W.findIn K (.ref C) name=some none) (hv:mA name=some v) (hv':PySem.W.handedIn v=true) (h:Q v {s with toks:=s.toks+1}):
  wpAny (model prog w) A (getAttr (.ref x) name expr) Q E s:=by
 obtain⟨od,J,hl⟩:=I.look
 exact PySem.W.get_value X J (gg hg).1 (PySem.W.findObj_own hh ha rfl (by rw[hl,hv])) hv' h
theorem EB{pl:Sem Bool}{Q:Value×List Value->Shared->Prop}(X:K.In s.heap)(I:ObjM s.heap x dx C mA)(hg:PySem.W.plainGet K C name=true)
  (hf:PySem.W.findIn K (.ref C) name=some (some (.ref f))) (ht:PySem.W.isFn K (.ref f)=true) (hv:mA name=none) (h:Q (.ref f,[.ref x]) s):
  wpAny (model prog w) A (getMethod (.ref x) name pl) Q E s:=by
 obtain⟨od,J,hl⟩:=I.look
 exact PySem.W.method_fn X J (gg hg).1 (gg hg).2 hf (gq.mp ht) (by show(PySem.W.lookIn name od).map (·.isSome)=some false;rw[hl,hv];rfl) h
theorem Eb{ns:List Str}{Q:Unit->Shared->Prop}(X:K.In s.heap)(I:ObjM s.heap x dx C mA)
  (hs:PySem.W.findIn K (.ref C) "__setattr__"=some (some (.builtin "object.__setattr__"))) (hp:PySem.W.plainOver K C=true) (ht:PySem.W.takerIn K C name=some none) (hh:PySem.W.hasDictIn K C=true)
  (hw:PySem.Within mA ns) (hsz:ns.length<=sizeLine)
  (h:∀h',ObjM h' x dx C (fun y=>if y=name then some v else mA y)->Heap.SameBut dx s.heap h'->Q () {s with heap:=h',toks:=s.toks+2}):
  wpAny (model prog w) A (setAttr (.ref x) name v) Q E s:=by
 obtain⟨od,J,hl⟩:=I.look
 refine PySem.W.set_plain X J hs (PySem.W.osa_open (s:={s with toks:=s.toks+1}) (r:=none) X J hp ht fun b=>?_)
 obtain⟨cd,hc,hd'⟩:=PySem.W.any_some hh
 have hx:s.heap.get? x=some ⟨.ref C,some dx,.plain,#[]⟩:=I.obj
 refine aa (ao (aa (aa (wpAny_loadPart hx (aa (PySem.W.Looks.here (s:={s with toks:=s.toks+1}) (PySem.W.looks_clsIn X hc) ?_))))))
 rw[hd']
 refine ao (a:=some dx) (aa (ao (aa ?_)))
 refine wpAny_nsSet1 (s:={s with toks:=s.toks+1}) I.ns fun h' hn2 hs2=>?_
 obtain⟨oD,esD,epD,hoD,hdD,hcD⟩:=hn2.count (PySem.Within.cons name v hw)
 refine aa (wpAny_lookBehind hoD (by rw[hdD];exact pastItsLine_dict (bD hcD (by rw[List.length_cons];lia))) ?_)
 exact ao (h _ ⟨(hs2.2 _ (cX I.ne)).trans I.obj,hn2,I.ne⟩ hs2)
theorem EJ{R:Result->Shared->Prop}{vs:List Value}{kw:List (Str×Value)}(X:K.In s.heap)(hm:PySem.W.makesIn K C=true)
  (hi:PySem.W.findIn K (.ref C) "__init__"=some (some (.ref f))) (hf:PySem.W.typeIn K (.ref f)=some (.type "function"))
  (h:codeAny (model prog w) (A.under (.builtin "type.__call__" ⟨.ref C::vs,kw⟩)) (.call (.ref f) ⟨.ref (s.heap.objs.size+1)::vs,kw⟩) (PySem.W.InitBack (s.heap.objs.size+1) R)
   {s with heap:=(s.heap.push PySem.W.emptyDict).push (PySem.W.instObj C s.heap.objs.size)}):
  codeAny (model prog w) A (.call (.ref C) ⟨vs,kw⟩) R s:=by
 obtain⟨hh,g,d,t,os⟩:=s
 exact PySem.W.make_core (PySem.W.makes_of X hm) (PySem.W.looks_findIn X hi) (fun self=>PySem.W.bind_fn X self hf) (.inl rfl) h
end
noncomputable def jg(f:Str)(v:V):List (Str×V)->List (Str×V)
 |[]=>[(f,v)]
 |(g,x)::r=>if g=f then(g,v)::r else(g,x)::jg f v r
theorem AO(f g:Str)(v:V):∀fs:List (Str×V),(jg f v fs).lookup g=if g=f then some v else fs.lookup g
 | []=>by
  show List.lookup g [(f,v)]=_
  by_cases h:g=f
  ·have hb:(g==f)=true:=gq.mpr h
   simp only[List.lookup,hb,aq h]
  ·have hb:(g==f)=false:=bO.mpr h
   simp only[List.lookup,hb,ak h]
 | (k,x)::r=>by
  have ih:=AO f g v r
  rw[show jg f v ((k,x)::r)=(if k=f then(k,v)::r else(k,x)::jg f v r)from rfl]
  by_cases hk:k=f
  ·rw[aq hk]
   by_cases h:g=k
   ·have hb:(g==k)=true:=gq.mpr h
    simp only[List.lookup,hb,aq (h.trans hk)]
   ·have hb:(g==k)=false:=bO.mpr h
    simp only[List.lookup,hb,ak (fun e:g=f=>h (e.trans hk.symm))]
  ·rw[ak hk]
   by_cases h:g=k
   ·have hb:(g==k)=true:=gq.mpr h
    simp only[List.lookup,hb,ak (fun e:g=f=>hk (h.symm.trans e))]
   ·have hb:(g==k)=false:=bO.mpr h
    simp only[List.lookup,hb]
    exact ih
theorem vm(f:Str)(v:V):∀fs:List (Str×V),f∈(jg f v fs).map (·.1)/\∀g,g∈fs.map (·.1)->g∈(jg f v fs).map (·.1)
 |[]=>⟨by simp[jg],fun g h=>by simp at h⟩
 | (k,x)::r=>by
  obtain⟨i1,i2⟩:=vm f v r
  rw[show jg f v ((k,x)::r)=(if k=f then(k,v)::r else(k,x)::jg f v r)from rfl]
  by_cases hk:k=f
  ·rw[aq hk]
   subst hk
   exact⟨by simp,fun g h=>by simpa using h⟩
  ·rw[ak hk]
   refine⟨?_,fun g h=>?_⟩
   ·rw[ag]
    exact aF _ i1
   ·rw[ag]at h ⊢
    rcases aS.mp h with e|e
    ·exact aS.mpr (.inl e)
    ·exact aF _ (i2 g e)
theorem AN(f:Str)(v:V):∀fs:List (Str×V),(jg f v fs).length<=fs.length+1
 |[]=>by simp[jg]
 |(k,x)::r=>by
  have ih:=AN f v r
  rw[show jg f v ((k,x)::r)=(if k=f then(k,v)::r else(k,x)::jg f v r)from rfl]
  by_cases hk:k=f
  ·rw[aq hk,List.length_cons,List.length_cons];lia
  ·rw[ak hk,List.length_cons,List.length_cons];lia
theorem RelO.some_of{v:V}{o:Option Value}(r:RelO (some v) o):∃u,o=some u/\RelV v u:=by
 cases o with
 |none=>exact(show False from r).elim
 |some u=>exact⟨u,rfl,r⟩
theorem RelO.none_of{o:Option Value}(r:RelO none o):o=none:=by
 cases o with
 |none=>rfl
 |some u=>exact(show False from r).elim
theorem FH{v:V}{u:Value}(r:RelV v u):PySem.W.handedIn u=true:=by
 cases v with
 |non=>cases(show u=Value.none from r);rfl
 |bl b=>cases(show u=Value.bool b from r);rfl
 |int i=>obtain⟨t,e⟩:=(show ∃t,u=Value.int i t from r);cases e;rfl
 |str x=>obtain⟨t,e⟩:=(show ∃t,u=Value.str x t from r);cases e;rfl
 |byt b=>obtain⟨t,e⟩:=(show ∃t,u=Value.bytes b t from r);cases e;rfl
 |flt b=>obtain⟨t,e⟩:=(show ∃t,u=Value.float b t from r);cases e;rfl
 |ref a=>cases(show u=Value.ref a from r);rfl
 |ty n=>cases(show u=Value.type n from r);rfl
section
variable{P:Program}{w:World}{H H':Hp}{h h':Heap}{a C dx:Addr}{fs fs':List (Str×V)}
theorem rK(hok:HOk P w H h)(e:H a=some (.ins C dx fs)):∃mA,ObjM h a dx C mA/\(∀f,RelO (fs.lookup f) (mA f))/\PySem.Within mA (fs.map (·.1))/\fs.length<=1000/\H dx=some (.own a):=by
 obtain⟨d,z,ne,ob,mA,n,r,q⟩:=(show jbp P w H h a (.ins C dx fs)from hok a _ e)
 exact⟨mA,⟨ob,n,ne⟩,r,q,z,d⟩
end
structure Cls(K:PySem.W.Frag)(C:Addr):Prop where
 pg:PySem.W.plainGet K C Str.empty=true
 hd:PySem.W.hasDictIn K C=true
 po:PySem.W.plainOver K C=true
 sa:PySem.W.findIn K (.ref C) "__setattr__"=some (some (.builtin "object.__setattr__"))
theorem Cls.get{K:PySem.W.Frag}{C:Addr}(c:Cls K C)(f:Str):PySem.W.plainGet K C f=true:=c.pg
def jee(K:PySem.W.Frag)(C:Addr)(f:Str):Prop:=PySem.W.findIn K (.ref C) f=some none
theorem jee.taker{K:PySem.W.Frag}{C:Addr}{f:Str}(n:jee K C f):PySem.W.takerIn K C f=some none:=by
 unfold PySem.W.takerIn
 rw[show PySem.W.findIn K (.ref C) f=some none from n]
 rfl
structure Meth(K:PySem.W.Frag)(C:Addr)(m:Str)(f:Addr):Prop where
 at_:PySem.W.findIn K (.ref C) m=some (some (.ref f))
 fn:PySem.W.isFn K (.ref f)=true
 kp:PySem.W.keepIn K (.ref f)=true
section
variable{X:Cx}{pins:List (Addr×Obj)}{σ:St}{H:Hp}{s:Shared}{a C dx:Addr}{fs:List (Str×V)}{f:Str}{v:V}{A:Around}{E:Value->Shared->Prop}
theorem Gq{b:Bool}{Q:Value->Shared->Prop}(I:Inv X pins σ H s)(e:H a=some (.ins C dx fs))(c:Cls X.K C)(n:jee X.K C f)(l:fs.lookup f=some v)
  (h:∀u s',Inv X pins σ H s'->RelV v u->Q u s'):wpAny (model X.prog X.w) A (getAttr (.ref a) f b) Q E s:=by
 obtain⟨mA,O,r,_,_,_⟩:=rK I.hok e
 obtain ⟨u,hu,ru⟩:=RelO.some_of (v:=v) (o:=mA f) (by rw [<- l]; exact r f)
 exact DJ I.kIn O (c.get f) c.hd n hu (FH ru) (h u _ (I.tok _) ru)
theorem AB{m:Str}{g:Addr}{pl:Sem Bool}{Q:Value×List Value->Shared->Prop}(I:Inv X pins σ H s)(e:H a=some (.ins C dx fs))(c:Cls X.K C)(k:Meth X.K C m g)(l:fs.lookup m=none)
  (h:Q (.ref g,[.ref a]) s):wpAny (model X.prog X.w) A (getMethod (.ref a) m pl) Q E s:=by
 obtain⟨mA,O,r,_,_,_⟩:=rK I.hok e
 have hn:mA m = none:=RelO.none_of (by rw [<- l]; exact r m)
 exact EB I.kIn O (c.get m) k.at_ k.fn hn h
theorem GF{y:V}{u:Value}{Q:Unit->Shared->Prop}(I:Inv X pins σ H s)(e:H a=some (.ins C dx fs))(c:Cls X.K C)(n:jee X.K C f)(hl:fs.length<1000)(ry:RelV y u)
  (h:∀s',Inv X pins σ (upd H a (.ins C dx (jg f y fs))) s'->Q () s'):wpAny (model X.prog X.w) A (setAttr (.ref a) f u) Q E s:=by
 obtain⟨mA,O,r,wi,_,ho⟩:=rK I.hok e
 have hz:(fs.map (·.1)).length<=sizeLine:=by rw[ae,fc];lia
 refine Eb I.kIn O c.sa c.po n.taker c.hd wi hz fun h' O' sb=>h _ ?_
 have hd:∃o,h'.get? dx=some o:=let⟨o,_,_,e',_⟩:=O'.ns;⟨o,e'⟩
 refine I.write (x:=a) (e:=dx) (by rw[e];exact True.intro) (.inr ho) (fun b q hb z=>(sb.2 b hb).trans z) hd ?_
 refine⟨by rw[iL O.ne];exact ho,?_,O.ne,O'.obj,_,O'.ns,fun g=>?_,fun g hg=>?_⟩
 ·have:=AN f y fs;lia
 ·show RelO ((jg f y fs).lookup g) (if g=f then some u else mA g)
  rw[AO]
  by_cases q:g=f
  ·rw[aq q,aq q];exact ry
  ·rw[ak q,ak q];exact r g
 ·by_cases q:g=f
  ·rw[q];exact(vm f y fs).1
  ·refine(vm f y fs).2 g (wi g fun z=>hg ?_)
   show(if g=f then some u else mA g)=none
   rw[ak q];exact z
theorem Inv.made(I:Inv X pins σ H s):Inv X pins σ (upd (upd H s.heap.objs.size (.own (s.heap.objs.size+1))) (s.heap.objs.size+1) (.ins C s.heap.objs.size []))
  {s with heap:=(s.heap.push PySem.W.emptyDict).push (PySem.W.instObj C s.heap.objs.size)}:=by
 have e1:(s.heap.push PySem.W.emptyDict).get? s.heap.objs.size=some PySem.W.emptyDict:=aI s.heap rfl
 have e2:((s.heap.push PySem.W.emptyDict).push (PySem.W.instObj C s.heap.objs.size)).get? (s.heap.objs.size+1)=some (PySem.W.instObj C s.heap.objs.size):=by
  have:=aI (s.heap.push PySem.W.emptyDict) (o:=PySem.W.instObj C s.heap.objs.size) rfl
  rwa[dG]at this
 have e3:(s.heap.push PySem.W.emptyDict).Ns s.heap.objs.size (fun _=>none):=⟨PySem.W.emptyDict,#[],_,e1,rfl,(fun e he=>absurd he (by simp)),fun _=>rfl⟩
 have I1:=I.laid (a:=s.heap.objs.size) (o:=.own (s.heap.objs.size+1)) (h':=s.heap.push PySem.W.emptyDict) (t':=s.toks) (fun b u q=>af _ q) (ai _) ⟨_,e1⟩
 refine I1.laid (a:=s.heap.objs.size+1) (o:=.ins C s.heap.objs.size []) (t':=s.toks) (fun b u q=>af _ q) (Nat.le_of_eq (dG _ _)) ?_
 have ne:s.heap.objs.size≠s.heap.objs.size+1:=aP (gX _)
 refine⟨by rw[iL ne,iD],bj _,ne,e2,fun _=>none,(Heap.Ns1.of_empty e3).at fun o q=>af _ q,fun _=>True.intro,fun y hy=>absurd rfl hy⟩
theorem Dy{prog:Program}{w:World}{env:Env}{e:Expr}{f:Str}{pos:Pos}{s:Shared}{Q:Value->Shared->Prop}(hb:attributeBase e f env (eval e env)=eval e env)
  (h:wpAny (model prog w) A (eval e env) (fun o s₁=>wpAny (model prog w) A (getAttr o f true) Q E s₁) E s):wpAny (model prog w) A (eval (.Attribute e f pos) env) Q E s:=
 Attribute_any_ h (by rw[arm_eval_Attribute,hb])
end
section
variable{X:Cx}{o e value:Expr}{f:Str}{pos pos' tpos:Pos}{ta tv:TE}
end
section
variable{X:Cx}{pins:List (Addr×Obj)}{σ:St}{H:Hp}{s:Shared}{A:Around}{E:Value->Shared->Prop}{Q:Value->Shared->Prop}{c:Value}{b:Bool}
inductive TyOf(K:PySem.W.Frag)(H:Hp):V->Value->Prop where
 |non:TyOf K H .non (.type "NoneType")
 |bl (x:Bool):TyOf K H (.bl x) (.type "bool")
 |int (i:Int):TyOf K H (.int i) (.type "int")
 |str (x:Str):TyOf K H (.str x) (.type "str")
 |flt (x:UInt64):TyOf K H (.flt x) (.type "float")
 |lst {a:Addr} {xs:List V} (e:H a=some (.lst xs)):TyOf K H (.ref a) (.type "list")
 |frz {a:Addr} {o:Obj} {xs:List V} (e:H a=some (.frz o (.lst xs))):TyOf K H (.ref a) (.type "list")
 |tup {a:Addr} {xs:List V} (e:H a=some (.tup xs)):TyOf K H (.ref a) (.type "tuple")
 |dK {a:Addr} {kvs:List (iF×V)} (e:H a=some (.dK kvs)):TyOf K H (.ref a) (.type "dict")
 |dT {a:Addr} {kvs:List (List iF×V)} (e:H a=some (.dT kvs)):TyOf K H (.ref a) (.type "dict")
 | ins {a C dx:Addr} {fs:List (Str×V)} (e:H a=some (.ins C dx fs)) (cl:Cls K C) (ha:PySem.W.findIn K (.ref C) "__class__"=some (some (.builtin "object.__class__")))
   (hn:PySem.W.specialIn K (.builtin "object.__class__") "__get__"=some (some (.builtin "getset_descriptor.__get__"))) (htk:PySem.W.takesIn K (.builtin "object.__class__")=some true)
   (hm:PySem.W.mroIn K C (.type "object")=some true):TyOf K H (.ref a) (.ref C)
theorem FK{x:V}{u t:Value}(I:Inv X pins σ H s)(rx:RelV x u)(ty:TyOf X.K H x t)(e:PySem.W.kitOne X.K t c=some b)(h:∀tk,Q (.bool b) {s with toks:=tk}):
  wpAny (model X.prog X.w) A (call (.builtin "isinstance") [u,c]) Q E s:=by
 cases ty with
 |non=>cases(show u=Value.none from rx);exact cg PySem.W.kitx_none I.kIn True.intro e (fun z=>nomatch z) h
 |bl y=>cases(show u=Value.bool y from rx);exact cg PySem.W.kitx_bool I.kIn True.intro e (fun z=>nomatch z) h
 |int i=>obtain⟨t,q⟩:=(show ∃t,u=Value.int i t from rx);cases q;exact cg PySem.W.kitx_int I.kIn True.intro e (fun z=>nomatch z) h
 |str y=>obtain⟨t,q⟩:=(show ∃t,u=Value.str y t from rx);cases q;exact cg PySem.W.kitx_str I.kIn True.intro e (fun z=>nomatch z) h
 |flt y=>obtain⟨t,q⟩:=(show ∃t,u=Value.float y t from rx);cases q;exact cg PySem.W.kitx_float I.kIn True.intro e (fun z=>nomatch z) h
 | @lst a xs ea=>
  cases(show u=Value.ref a from rx)
  obtain⟨_,_,n,_,h1⟩:=(show jbp X.prog X.w H s.heap a (.lst xs)from I.hok a _ ea)
  exact cg PySem.W.kitx_list I.kIn ⟨_,h1,rfl⟩ e (fun z=>nomatch z) h
 | @frz a ob xs ea=>
  cases(show u=Value.ref a from rx)
  obtain⟨_,_,_,n,_,h1⟩:=(show jbp X.prog X.w H s.heap a (.frz ob (.lst xs))from I.hok a _ ea)
  exact cg PySem.W.kitx_list I.kIn ⟨_,h1,rfl⟩ e (fun z=>nomatch z) h
 | @tup a xs ea=>
  cases(show u=Value.ref a from rx)
  obtain⟨_,_,_,p⟩:=(show jbp X.prog X.w H s.heap a (.tup xs)from I.hok a _ ea)
  obtain⟨o,h1,h2,_⟩:=p
  exact cg PySem.W.kitx_tuple I.kIn ⟨o,h1,h2⟩ e (fun z=>nomatch z) h
 | @dK a kvs ea=>
  cases(show u=Value.ref a from rx)
  obtain⟨_,_,vs,_,p⟩:=(show jbp X.prog X.w H s.heap a (.dK kvs)from I.hok a _ ea)
  obtain⟨o,es,ep,h1,h2,_⟩:=p
  exact cg PySem.W.kitx_dict I.kIn ⟨o,h1,h2.1⟩ e (fun z=>nomatch z) h
 | @dT a kvs ea=>
  cases(show u=Value.ref a from rx)
  obtain⟨_,_,xs,_,o,es,ep,h1,h2,_⟩:=(show jbp X.prog X.w H s.heap a (.dT kvs)from I.hok a _ ea)
  exact cg PySem.W.kitx_dict I.kIn ⟨o,h1,h2.1⟩ e (fun z=>nomatch z) h
 | @ins a C dx fs ea cl ha hn htk hm=>
  cases(show u=Value.ref a from rx)
  obtain⟨mA,O,_⟩:=rK I.hok ea
  obtain⟨od,J,_⟩:=O.look
  exact cg (PySem.W.kitx_own (cl.get _) cl.hd ha hn htk hm) I.kIn J e (fun z=>nomatch z) h
end
structure Room(k:Nat)(A:Around):Prop where
 hd:A.handled=none
 dp:A.depth+3*k+5<recursionLimit
 un:A.units+16*k+200<cLine
 gd:A.guards=some []
theorem Room.mono{j k:Nat}{A:Around}(r:Room k A)(h:j<=k):Room j A:=⟨r.hd,by have:=r.dp;lia,by have:=r.un;lia,by first|exact r.gd|(simp only[Around.deeper,Around.in1,Around.under];exact r.gd)⟩
theorem Room.deeper{k:Nat}{A:Around}(r:Room (k+1) A)(env:Env):Room k (A.deeper env):=
 ⟨r.hd,by have:=r.dp;show A.depth+1+3*k+5<_;lia,by have:=r.un;show A.units+3+16*k+200<_;lia,by first|exact r.gd|(simp only[Around.deeper,Around.in1,Around.under];exact r.gd)⟩
theorem Gs{A:Around}{C:Addr}{us:List Value}{kw:List (Str×Value)}:(A.under (.builtin "type.__call__" ⟨.ref C::us,kw⟩)).depth=A.depth+1:=by
 first|rfl|simp[Around.under,Code.weight,Code.isCreation,Code.isGuard,Code.isCaller,Code.frames,Code.isFrame,guardIds]
theorem Gu{A:Around}{C:Addr}{us:List Value}{kw:List (Str×Value)}:(A.under (.builtin "type.__call__" ⟨.ref C::us,kw⟩)).units=A.units+1:=by
 first|rfl|simp[Around.under,Code.cUnits,Code.frames,Code.isFrame]
theorem Room.make{k:Nat}{A:Around}(r:Room (k+1) A)(C:Addr)(us:List Value)(kw:List (Str×Value)):Room k (A.under (.builtin "type.__call__" ⟨.ref C::us,kw⟩)):=
 ⟨r.hd,by have:=r.dp;rw[Gs];lia,by have:=r.un;rw[Gu];lia,by first|exact r.gd|(simp only[Around.deeper,Around.in1,Around.under];exact r.gd)⟩
theorem Room.depth{k:Nat}{A:Around}(r:Room k A):A.depth<recursionLimit:=by have:=r.dp;lia
theorem Room.units{k:Nat}{A:Around}(r:Room k A):A.units+64<cLine:=by have:=r.un;lia
def pj:TA:=fun _ H Q=>Q [] H
def tT(ta:TE)(tr:TA):TA:=fun σ H Q=>ta σ H fun x H1=>tr σ H1 fun xs H2=>Q (x::xs) H2
section
variable{X:Cx}{e:Expr}{es:List Expr}{te:TE}{t:TA}{pos:Pos}
theorem iC:PA X [] pj:=fun _ _ _ _ H Q I h=>gP ⟨[],H,I,.nil,h⟩
theorem iw(ha:PE X e te)(hr:PA X es t)(hs:starEach (e::es) X.env=(false,eval e X.env)::starEach es X.env:=by rfl):PA X (e::es) (tT te t):=by
 intro pos pins s σ H Q I h
 rw[hs]
 show wpAny _ _ (spliced ((false,eval e X.env)::backTo pos (starEach es X.env))) _ _ s
 refine eU (iJ (ha pins s σ H _ I h) fun u s1 ⟨x,H1,I1,r1,q1⟩=>?_)
 exact iJ (hr pos pins s1 σ H1 _ I1 q1) fun us s2 ⟨xs,H2,I2,r2,q2⟩=>⟨x::xs,H2,I2,.cons r1 r2,q2⟩
def wD(t:TA):TE:=fun σ H Q=>t σ H fun xs H1=>xs.length<=sizeLine/\∀p,H1 p=none->Q (.ref p) (upd H1 p (.tup xs))
def wN(t:TA):TE:=fun σ H Q=>t σ H fun xs H1=>xs.length<=sizeLine/\∀p,H1 p=none->Q (.ref p) (upd H1 p (.lst xs))
theorem jJ{x1}(h:PA X es t):PE X (.Tuple es x1 pos) (wD t):=by
 intro pins s σ H Q I hq
 refine wpAny_Tuple_spliced (iJ (h pos pins s σ H _ I hq) fun us s1 ⟨xs,H1,I1,r,z,q⟩=>⟨by rw [<- r.length]; exact z,?_⟩)
 have hf:H1 s1.heap.objs.size=none:=I1.hok.fresh (ai _)
 refine⟨.ref s1.heap.objs.size,upd H1 s1.heap.objs.size (.tup xs),I1.laid (t':=s1.toks) (fun b u e=>af _ e) (ai _) ?_,rfl,q _ hf⟩
 exact⟨z,us,r,⟨_,aI _ rfl,rfl,_,rfl⟩⟩
theorem ki(h:PA X es t):PE X (.List es pos) (wN t):=by
 intro pins s σ H Q I hq
 refine wpAny_List_spliced (iJ (h pos pins s σ H _ I hq) fun us s1 ⟨xs,H1,I1,r,z,q⟩=>⟨by rw [<- r.length]; exact z,?_⟩)
 have hf:H1 s1.heap.objs.size=none:=I1.hok.fresh (ai _)
 refine⟨.ref s1.heap.objs.size,upd H1 s1.heap.objs.size (.lst xs),I1.laid (t':=s1.toks) (fun b u e=>af _ e) (ai _) ?_,rfl,q _ hf⟩
 exact⟨z,us,0,r,aI _ rfl⟩
end
abbrev Sp:=List V->Hp->VK->XK->Prop
abbrev k9:=List Env->Hp->Shared->XK->Value->Shared->Prop
structure Env0(P:Program)(w:World)(K:PySem.W.Frag)(mg:Str->Option Value)(base:Heap)(A:Around)(outer:List Env)(s:Shared)(H:Hp):Prop where
 frames:A.frames=some outer
 mod:Mod K mg base
 bs:∀b o,base.get? b=some o->s.heap.get? b=some o/\H b=none
 bsz:base.objs.size<=s.heap.objs.size
 funs:s.heap.FunFrames base outer
 frf:∀b∈kX outer,H b=none
 hok:HOk P w H s.heap
 bare:AllBare s.gens
def CE(outer:List Env)(P:Program)(w:World)(H:Hp)(s:Shared)(Q:VK)(u:Value)(s':Shared):Prop:=
 ∃v H',s'.os=s.os/\AllBare s'.gens/\Un (kX outer) [] H H' s.heap s'.heap/\HOk P w H' s'.heap/\RelV v u/\Q v H'
def CR(CX:k9)(outer:List Env)(P:Program)(w:World)(H:Hp)(s:Shared)(Q:VK)(E:XK)(r:Result)(s':Shared):Prop:=
 match r with
 | .ok (.ret u)=>CE outer P w H s Q u s'
 | .ok _=>False
 | .error e=>CX outer H s E e s'
structure FnOk(P:Program)(w:World)(K:PySem.W.Frag)(mg:Str->Option Value)(base:Heap)(CX:k9)(k:Nat)(f:Addr)(fd:FuncData)(ps:List Str)(sp:Sp):Prop where
 len:∀vs H Q E,sp vs H Q E->vs.length=ps.length
 run:∀(A:Around) (outer:List Env) (s:Shared) (H:Hp) (args:Args) (us:List Value) (vs:List V) (Q:VK) (E:XK),Room k A->Env0 P w K mg base A outer s H->BindsTo s fd args (ps.zip us)->Vals vs us->sp vs H Q E->
  codeAny (model P w) A (.call (.ref f) args) (CR CX outer P w H s Q E) s
theorem FnOk.mono{P:Program}{w:World}{K:PySem.W.Frag}{mg:Str->Option Value}{base:Heap}{CX:k9}{j k:Nat}{f:Addr}{fd:FuncData}{ps:List Str}{sp:Sp}(F:FnOk P w K mg base CX j f fd ps sp)(h:j<=k):
  FnOk P w K mg base CX k f fd ps sp:=⟨F.len,fun A outer s H args us vs Q E hr=>F.run A outer s H args us vs Q E (hr.mono h)⟩
theorem Env0.make{P:Program}{w:World}{K:PySem.W.Frag}{mg:Str->Option Value}{base:Heap}{A:Around}{outer:List Env}{s:Shared}{H:Hp}(e:Env0 P w K mg base A outer s H)(C:Addr)(us:List Value)(kw:List (Str×Value)):
  Env0 P w K mg base (A.under (.builtin "type.__call__" ⟨.ref C::us,kw⟩)) outer s H:=⟨by first|exact e.frames|(simpa[Around.under,Code.envs,Code.isFrame,pushEnvs]using e.frames),e.mod,e.bs,e.bsz,e.funs,e.frf,e.hok,e.bare⟩
section
variable{X:Cx}{pins:List (Addr×Obj)}{σ:St}{H:Hp}{s s':Shared}
theorem Inv.env0(I:Inv X pins σ H s):Env0 X.prog X.w X.K X.mg X.base X.A X.stack s H:=
 ⟨I.ok.frames,I.ok.mod,I.bs,bD I.ok.bsz I.sz,I.stack,I.stkFree,I.hok,I.bare⟩
theorem Inv.after{Q:VK}{u:Value}(I:Inv X pins σ H s)(h:CE X.stack X.prog X.w H s Q u s'):EP X pins σ Q u s':=by
 obtain⟨v,H',os,bare,un,hok,r,q⟩:=h
 obtain⟨hh,g,d,t,os'⟩:=s'
 obtain rfl:os'=s.os:=os
 exact⟨v,H',I.call (h':=hh) (g':=g) (d':=d) (t':=t) (ch:=[]) un hok bare (fun b z=>absurd z (by simp)),r,q⟩
end
def wV(sp:Sp)(dvs:List V)(E:XK)(t:TA):TE:=fun σ H Q=>t σ H fun vs H1=>sp (vs++dvs) H1 Q E
def tU(C:Addr)(m:Str)(sp:Sp)(dvs:List V)(E:XK)(ta:TE)(t:TA):TE:=fun σ H Q=>ta σ H fun x H1=>∃a dx fs,x= .ref a/\H1 a=some (.ins C dx fs)/\fs.lookup m=none/\
 t σ H1 fun vs H2=>sp (x::(vs++dvs)) H2 Q E
def wM(C:Addr)(sp:Sp)(dvs:List V)(E:XK)(t:TA):TE:=fun σ H Q=>t σ H fun vs H1=>∀x dx,H1 x=none->H1 dx=none->dx≠x->
 sp (.ref x::(vs++dvs)) (upd (upd H1 dx (.own x)) x (.ins C dx [])) (fun v H2=>v= .non/\Q (.ref x) H2) E
def jf8(K:PySem.W.Frag)(fd:FuncData)(ps:List Str)(ds:List Value):Prop:=
 ∀(s:Shared) (us:List Value),K.In s.heap->(us++ds).length=ps.length->BindsTo s fd ⟨us,[]⟩ (ps.zip (us++ds))
theorem jf8.all{K:PySem.W.Frag}{fd:FuncData}{ps:List Str}(h:∀us:List Value,us.length=ps.length->bindArgs fd ⟨us,[]⟩=pure (ps.zip us)):jf8 K fd ps []:=fun s us _ hl=>by
 rw[bh]at hl ⊢
 exact .of_eq (h us hl)
def mQ(CX:k9)(X:Cx)(E:XK):Prop:=∀(pins:List (Addr×Obj)) (σ:St) (H:Hp) (s:Shared) (e:Value) (s':Shared),Inv X pins σ H s->CX X.stack H s E e s'->X.xe e s'
section
variable{X:Cx}{CX:k9}{k:Nat}{f C:Addr}{fd:FuncData}{ps:List Str}{sp:Sp}{dvs:List V}{ds:List Value}{E:XK}{x m:Str}{p pos apos:Pos}{e o:Expr}{es:List Expr}{ta:TE}{t:TA}
theorem uj{pins:List (Addr×Obj)}{σ:St}{H:Hp}{s:Shared}{Q:VK}{us:List Value}{vs:List V}(F:FnOk X.prog X.w X.K X.mg X.base CX k f fd ps sp)(hr:Room k X.A)(hb:jf8 X.K fd ps ds)(hd:Vals dvs ds)(hx:mQ CX X E)
  (I:Inv X pins σ H s) (r:Vals vs us) (h:sp (vs++dvs) H Q E):wpAny (model X.prog X.w) X.A (call (.ref f) us) (EP X pins σ Q) X.xe s:=by
 have r2:Vals (vs++dvs) (us++ds):=r.append hd
 have hl:(us ++ ds).length = ps.length:=by rw [<- r2.length]; exact F.len _ _ _ _ h
 refine wpAny_call (gH (F.run X.A X.stack s H ⟨us,[]⟩ (us++ds) (vs++dvs) Q E hr I.env0 (hb s us I.kIn hl) r2 h) fun r s' hq=>?_)
 cases r with
 |error e=>exact hx pins σ H s e s' I hq
 |ok fl=>
  cases fl with
  |ret u=>exact I.after hq
  |next=>exact False.elim hq
  |brk=>exact False.elim hq
  |cont=>exact False.elim hq
theorem i9(F:FnOk X.prog X.w X.K X.mg X.base CX k f fd ps sp)(hr:Room k X.A)(hg:Gl X x)(hm:X.mg x=some (.ref f))(hk:PySem.W.keepIn X.K (.ref f)=true)(hb:jf8 X.K fd ps ds)(hd:Vals dvs ds)(hx:mQ CX X E)
  (ha:PA X (e::es) t) (hdb:(x==("__debug__":Str))=false:=by decide) (he:starEach (e::es) X.env=(false,eval e X.env)::starEach es X.env:=by rfl) (hpl:(backTo pos (starEach es X.env)).any (·.1)=false:=by rfl):
  PE X (.Call (.Name x p) (e::es) [] pos) (wV sp dvs E t):=by
 intro pins s σ H Q I h
 refine eQ (uF I hg hm ?_ hdb)
 refine gv (h₀:=X.base) I.ok.mod.kin hk (iJ (ha pos pins s σ H _ I h) fun us s1 ⟨vs,H1,I1,r,q⟩=>⟨I1.kIn,?_⟩) he hpl
 exact uj F hr hb hd hx I1 r q
theorem D3{pl:Sem Bool}(he:PE X o ta)(c:Cls X.K C)(hm:Meth X.K C m f)(F:FnOk X.prog X.w X.K X.mg X.base CX k f fd ps sp)(hr:Room k X.A)(hb:jf8 X.K fd ps ds)(hd:Vals dvs ds)(hx:mQ CX X E)(ha:PA X (e::es) t)
  (hst:starEach (e::es) X.env=(false,eval e X.env)::starEach es X.env:=by rfl) (hpl:(backTo pos (starEach es X.env)).any (·.1)=false:=by rfl)
  (ht:eval (.Call (.Attribute o m apos) (e :: es) [] pos) X.env = (do
   let ov <- eval o X.env
   standAt apos.atName
   let (f,first) <- holding [ov] (getMethod ov m pl)
   callWith pos f first (backTo pos (starEach (e::es) X.env)) (backToKw pos (keywordEach [] X.env))):=by rfl):
  PE X (.Call (.Attribute o m apos) (e::es) [] pos) (tU C m sp dvs E ta t):=by
 intro pins s σ H Q I h
 refine PySem.W.methodCall_KW (pl:=pl) (iJ (he pins s σ H _ I h) fun u s1 ⟨x,H1,I1,rx,a,dx,fs,ex,ea,l,q⟩=>?_) ht
 subst ex
 obtain rfl:u=Value.ref a:=rx
 refine AB I1 ea c hm l ?_
 refine gv (first:=[.ref a]) (h₀:=X.base) I.ok.mod.kin hm.kp (iJ (ha pos pins s1 σ H1 _ I1 q) fun us s2 ⟨vs,H2,I2,r,q2⟩=>⟨I2.kIn,?_⟩) hst hpl
 exact uj (us:=.ref a::us) (vs:=.ref a::vs) F hr hb hd hx I2 (.cons rfl r) q2
theorem E5{pl:Sem Bool}(he:PE X o ta)(c:Cls X.K C)(hm:Meth X.K C m f)(F:FnOk X.prog X.w X.K X.mg X.base CX k f fd ps sp)(hr:Room k X.A)(hb:jf8 X.K fd ps ds)(hd:Vals dvs ds)(hx:mQ CX X E)
  (ht:eval (.Call (.Attribute o m apos) [] [] pos) X.env = (do
   let ov <- eval o X.env
   standAt apos.atName
   let (f,first) <- holding [ov] (getMethod ov m pl)
   callWith pos f first (backTo pos (starEach [] X.env)) (backToKw pos (keywordEach [] X.env))):=by rfl):
  PE X (.Call (.Attribute o m apos) [] [] pos) (tU C m sp dvs E ta pj):=by
 intro pins s σ H Q I h
 refine PySem.W.methodCall_KW (pl:=pl) (iJ (he pins s σ H _ I h) fun u s1 ⟨x,H1,I1,rx,a,dx,fs,ex,ea,l,q⟩=>?_) ht
 subst ex
 obtain rfl:u=Value.ref a:=rx
 refine AB I1 ea c hm l ?_
 exact PySem.W.callWith_K0 (first:=[.ref a]) I1.kIn hm.kp (uj (us:=[.ref a]) (vs:=[.ref a]) F hr hb hd hx I1 (.cons rfl .nil) q)
structure Mk(K:PySem.W.Frag)(C f:Addr):Prop where
 makes:PySem.W.makesIn K C=true
 init:PySem.W.findIn K (.ref C) "__init__"=some (some (.ref f))
 fn:PySem.W.isFn K (.ref f)=true
 kp:PySem.W.keepIn K (.ref C)=true
theorem Fh{pins:List (Addr×Obj)}{σ:St}{H:Hp}{s:Shared}{Q:VK}{us:List Value}{vs:List V}(M:Mk X.K C f)(F:FnOk X.prog X.w X.K X.mg X.base CX k f fd ps sp)(hr:Room (k+1) X.A)(hb:jf8 X.K fd ps ds)(hd:Vals dvs ds)
  (hx:mQ CX X E) (I:Inv X pins σ H s) (r:Vals vs us)
  (h:∀x dx,H x=none->H dx=none->dx≠x->sp (.ref x::(vs++dvs)) (upd (upd H dx (.own x)) x (.ins C dx [])) (fun v H2=>v= .non/\Q (.ref x) H2) E):
  wpAny (model X.prog X.w) X.A (call (.ref C) us) (EP X pins σ Q) X.xe s:=by
 have hq:=h (s.heap.objs.size+1) s.heap.objs.size (I.hok.fresh (fg _)) (I.hok.fresh (ai _)) (aP (gX _))
 have I2:=Inv.made (C:=C) I
 have r2:Vals (V.ref (s.heap.objs.size+1)::(vs++dvs)) (Value.ref (s.heap.objs.size+1)::(us++ds)):=.cons rfl (r.append hd)
 have hl:(Value.ref (s.heap.objs.size+1)::us++ds).length=ps.length:=by
  have e:=r2.length
  rw[F.len _ _ _ _ hq]at e
  exact e.symm
 refine wpAny_call (EJ (f:=f) I.kIn M.makes M.init (gq.mp M.fn) (gH (F.run _ X.stack _ _ ⟨Value.ref (s.heap.objs.size+1)::us,[]⟩ (Value.ref (s.heap.objs.size+1)::(us++ds)) _ _ E (hr.make C us [])
  (I2.env0.make C us []) (hb _ (Value.ref (s.heap.objs.size+1)::us) I2.kIn hl) r2 hq) fun r s' hq'=>?_))
 cases r with
 |error e=>exact hx pins σ _ _ e s' I2 hq'
 | ok fl=>
  cases fl with
  |ret u=>
   obtain⟨v,H',I3,rv,ev,q3⟩:=I2.after hq'
   subst ev
   exact⟨rv,⟨V.ref (s.heap.objs.size+1),H',I3,rfl,q3⟩⟩
  |next=>exact False.elim hq'
  |brk=>exact False.elim hq'
  |cont=>exact False.elim hq'
theorem D2(M:Mk X.K C f)(F:FnOk X.prog X.w X.K X.mg X.base CX k f fd ps sp)(hr:Room (k+1) X.A)(hg:Gl X x)(hm:X.mg x=some (.ref C))(hb:jf8 X.K fd ps ds)(hd:Vals dvs ds)(hx:mQ CX X E)
  (ha:PA X (e::es) t) (hdb:(x==("__debug__":Str))=false:=by decide) (he:starEach (e::es) X.env=(false,eval e X.env)::starEach es X.env:=by rfl) (hpl:(backTo pos (starEach es X.env)).any (·.1)=false:=by rfl):
  PE X (.Call (.Name x p) (e::es) [] pos) (wM C sp dvs E t):=by
 intro pins s σ H Q I h
 refine eQ (uF I hg hm ?_ hdb)
 refine gv (h₀:=X.base) I.ok.mod.kin M.kp (iJ (ha pos pins s σ H _ I h) fun us s1 ⟨vs,H1,I1,r,q⟩=>⟨I1.kIn,?_⟩) he hpl
 exact Fh M F hr hb hd hx I1 r q
end
section
variable{X:Cx}{CX:k9}{k:Nat}{f C:Addr}{fd:FuncData}{ps ks:List Str}{sp:Sp}{E:XK}{x m:Str}{p pos apos kpos:Pos}{e o:Expr}{es:List Expr}{kws:List Keyword}{te ta:TE}{t tk:TA}{nm:Option Str}
variable{g:List Value->List Value->List Value}{gV:List V->List V->List V}
end
structure FnScope(N P:List Str)(sc:Scope):Prop where
 kind:sc.kind= .function
 co:sc.isCoroutine=false
 gen:sc.isGenerator=false
 nd:N.Nodup
 pre:N.take P.length=P
 par:∀x∈P,sc.names.lookup x=some .local\/sc.names.lookup x=some .cell
 nofree:∀y∈sc.names,y.2≠ .free
theorem Ab{kindOf:Str->Option NameKind}{x:Str}:∀{binds:List (Str×Value)} {m:Str->Option Value},(∀v,(x,v)∉binds)->bindL kindOf binds m x=m x
 |[],_,_=>rfl
 | (n,v)::r,m,h=>by
  unfold bindL
  rw[Ab fun w hw=>h w (aF _ hw)]
  split
  ·have:x≠n:=by rintro rfl;exact h v aM
   simp[this]
  ·rfl
theorem z9{kindOf:Str->Option NameKind}{x:Str}:∀{binds:List (Str×Value)} {m:Str->Option Value},(∀v,(x,v)∉binds)->bindC kindOf binds m x=m x
 |[],_,_=>rfl
 | (n,v)::r,m,h=>by
  unfold bindC
  rw[z9 fun w hw=>h w (aF _ hw)]
  split
  ·rfl
  ·have:x≠n:=by rintro rfl;exact h v aM
   simp[this]
theorem Aa{kindOf:Str->Option NameKind}{x:Str}{v:Value}:∀{P:List Str} {vs:List Value} {i:Nat} {m:Str->Option Value},P.Nodup->P[i]? =some x->vs[i]? =some v->kindOf x=some .local->
  bindL kindOf (P.zip vs) m x=some v
 |[],_,_,_,_,h,_,_=>by simp at h
 |_::_,[],_,_,_,_,h,_=>by simp at h
 |p::P,w::vs,0,m,nd,h1,h2,hk=>by
  simp at h1 h2;subst h1;subst h2
  show bindL kindOf ((p,w)::P.zip vs) m p=_
  unfold bindL
  rw[Ab fun v hv=>(bt.mp nd).1 (hZ hv).1,aq hk]
  simp
 |p::P,w::vs,i+1,m,nd,h1,h2,hk=>by
  show bindL kindOf ((p,w)::P.zip vs) m x=_
  unfold bindL
  exact Aa (i:=i) (bt.mp nd).2 (by simpa using h1) (by simpa using h2) hk
theorem z8{kindOf:Str->Option NameKind}{x:Str}{v:Value}:∀{P:List Str} {vs:List Value} {i:Nat} {m:Str->Option Value},P.Nodup->P[i]? =some x->vs[i]? =some v->kindOf x≠some .local->
  bindC kindOf (P.zip vs) m x=some v
 |[],_,_,_,_,h,_,_=>by simp at h
 |_::_,[],_,_,_,_,h,_=>by simp at h
 |p::P,w::vs,0,m,nd,h1,h2,hk=>by
  simp at h1 h2;subst h1;subst h2
  show bindC kindOf ((p,w)::P.zip vs) m p=_
  unfold bindC
  rw[z9 fun v hv=>(bt.mp nd).1 (hZ hv).1,ak hk]
  simp
 |p::P,w::vs,i+1,m,nd,h1,h2,hk=>by
  show bindC kindOf ((p,w)::P.zip vs) m x=_
  unfold bindC
  exact z8 (i:=i) (bt.mp nd).2 (by simpa using h1) (by simpa using h2) hk
noncomputable def mO(N:List Str)(vs:List V):St:=vs.map some++List.replicate (N.length-vs.length) none
noncomputable def oW(CX:k9)(P:Program)(w:World)(K:PySem.W.Frag)(mg:Str->Option Value)(base:Heap)(N:List Str)(qual:Str)(scope:Scope)(f:Addr)(cd:Value)(A:Around)(outer:List Env)(s:Shared)(H:Hp)(E:XK):Cx where
 prog:=P
 w:=w
 K:=K
 mg:=mg
 base:=base
 A:=A.deeper (envOfC qual scope s.heap.objs.size f cd)
 N:=N
 s₀:=s
 H₀:=H
 env:=envOfC qual scope s.heap.objs.size f cd
 outer:=outer
 stack:=envOfC qual scope s.heap.objs.size f cd::outer
 ex:=[]
 calm:=true
 fn:=fun _=>true
 pn:=[]
 xe:=fun e s'=>wpAny (model P w) (A.deeper (envOfC qual scope s.heap.objs.size f cd)) (leaving (envOfC qual scope s.heap.objs.size f cd) e) (fun _ s''=>CX outer H s E e s'') (fun e' s''=>CX outer H s E e' s'') s'
theorem zi{sc:Scope}{n:Nat}{x:Str}(h:sc.names.lookup x=some .cell):∃c,(cellsFrom n sc.names []).lookup x=some c:=by
 have q:=PySem.W.cellsFrom_some sc.names n [] (.inl h)
 exact dQ.mp q
theorem FJ{CX:k9}{P:Program}{w:World}{K:PySem.W.Frag}{mg:Str->Option Value}{base:Heap}{N ps:List Str}{qual:Str}{scope:Scope}{f:Addr}{cd:Value}{A:Around}{outer:List Env}{s s1:Shared}{H:Hp}{E:XK}{us:List Value}{vs:List V}
  (S:FnScope N ps scope) (hd:A.handled=none) (e0:Env0 P w K mg base A outer s H) (hl:vs.length=ps.length) (r:Vals vs us)
  (x:InCallC s s.heap.objs.size (bindL (envOfC qual scope s.heap.objs.size f cd).kindOf (ps.zip us) fun _=>none) (cellsFrom (s.heap.objs.size+1) scope.names []) (bindC (envOfC qual scope s.heap.objs.size f cd).kindOf (ps.zip us) fun _=>none) s1):
  Inv (oW CX P w K mg base N qual scope f cd A outer s H E) [] (mO N vs) H s1:=by
 have hpl:ps.length<=N.length:=by have:=bS List.length S.pre;rw[aK]at this;lia
 obtain⟨h1,tk,rfl,hk⟩:=x.done
 have noA:∀b:Addr,b∉(oW CX P w K mg base N qual scope f cd A outer s H E).ex:=fun b z=>absurd (show b∈([]:List Addr)from z) (by simp)
 refine⟨⟨e0.mod,S.kind,rfl,rfl,ai _,fun y z c h1 h2=>?_,fun y hy=>?_,fun y c _ h=>?_,fun _=>hd,Around.frames_deeper e0.frames,.inr ⟨rfl,rfl⟩,fun b z=>absurd z (noA b),e0.bs,e0.bsz,fun b _ _=>noA b,fun b z=>absurd z (noA b),e0.funs,e0.frf⟩,
  rfl,e0.bare,Un.kept hk,⟨_,x.toInCall.ns,fun i y v h1 h2 h3=>?_⟩,fun y c h=>⟨_,x.cell y c h⟩,e0.hok.fresh (ai _),fun y c h=>?_,fun p hp=>absurd (show p∈([]:List (Addr×Obj))from hp) (by simp),e0.hok.kept hk,?_⟩
 ·exact name_of_addr x.apart (bY h1) (bY h2)
 ·have hy:scope.names.lookup y=some .cell\/scope.names.lookup y=some .free:=hy
  rcases hy with hy|hy
  ·exact zi hy
  ·exact absurd rfl (S.nofree _ (bY hy))
 ·exact dO (x.above y c (bY h))
 ·have hi:i<vs.length:=by
   unfold mO at h2
   by_cases hi:i<vs.length
   ·exact hi
   ·rw[cB (by simpa using hi)]at h2
    rw[List.getElem?_replicate]at h2
    split at h2<;>cases h2
  have ha:vs[i]? =some v:=by
   unfold mO at h2
   rw[bp (by simpa using hi),aE]at h2
   cases e:vs[i]? with
   |none=>rw[e]at h2;cases h2
   |some a=>rw[e]at h2;cases h2;rfl
  obtain⟨u,hu,rv⟩:=r.get ha
  have hp:ps[i]? =some y:=by
   rw [<- S.pre,List.getElem?_take_of_lt (by lia)]; exact h1
  have ndP:ps.Nodup:=by rw [<- S.pre]; exact S.nd.sublist (List.take_sublist _ _)
  refine⟨u,rv,?_⟩
  rcases S.par y (ay hp)with k|k
  ·exact .inl ⟨k,Aa ndP hp hu k⟩
  ·obtain⟨c,e⟩:=zi (n:=s.heap.objs.size+1) k
   refine .inr ⟨.inl k,c,e,?_⟩
   have q:=x.cell y c e
   rw[z8 ndP hp hu (by show scope.names.lookup y≠_;rw[k];decide)]at q
   exact q
 ·exact e0.hok.fresh (dO (x.above y c (bY h)))
 ·unfold mO
  show _=N.length
  rw[aB,ae,List.length_replicate]
  lia
theorem Ih{CX:k9}{P:Program}{w:World}{K:PySem.W.Frag}{mg:Str->Option Value}{base:Heap}{k:Nat}{f:Addr}{name qual:Str}{params:Arguments}{body:List Stmt}{scope:Scope}{dV kV doc pm cdv ct oc:Value}{an od:Option Addr}
  {osl:Array (Option Value)} {N ps:List Str} {sp:Sp} (lk:K.lookup f=some ⟨oc,od,.func (PySem.W.fnOf name qual params body scope dV kV doc pm an cdv ct),osl⟩) (hcd:PySem.W.codeIn K cdv qual=true) (S:FnScope N ps scope)
  (len:∀vs H Q E,sp vs H Q E->vs.length=ps.length)
  (hbody:∀(A:Around) (outer:List Env) (s:Shared) (H:Hp) (vs:List V) (Q:VK) (E:XK),Room k (A.deeper (envOfC qual scope s.heap.objs.size f cdv))->sp vs H Q E->
   ∃t,PSs (oW CX P w K mg base N qual scope f cdv A outer s H E) body t/\t {nx:=fun _ H'=>Q .non H',rt:=Q} (mO N vs) H):
  FnOk P w K mg base CX (k+1) f (PySem.W.fnOf name qual params body scope dV kV doc pm an cdv ct) ps sp:=by
 refine⟨len,fun A outer s H args us vs Q E hr e0 hb r hsp=>?_⟩
 have hl:=len _ _ _ _ hsp
 have KX:K.In s.heap:=e0.mod.kin.keeps fun b o e=>(e0.bs b o e).1
 have lim:s.heap.NoLimit:=e0.mod.nolimit.keeps fun b o e=>(e0.bs b o e).1
 have hkind:∀y∈ps.zip us,scope.names.lookup y.1=some .local\/(scope.names.lookup y.1=some .cell/\((cellsFrom (s.heap.objs.size+1) scope.names []).lookup y.1).isSome=true):=fun⟨n,v⟩ hy=>by
  rcases S.par n (hZ hy).1 with q|q
  ·exact .inl q
  ·exact .inr ⟨q,PySem.W.cellsFrom_some _ _ _ (.inl q)⟩
 refine codeAny_call_function hr.depth (KX _ _ lk) rfl S.co S.gen rfl (PySem.W.codeRec_of KX hcd) (hb _ _ _ _ ?_)
 refine wpAny_newFunctionEnv_cells S.kind hkind fun env he s1 x=>?_
 subst he
 refine⟨lim.keeps x.toInCall.keep,codeAny_func ?_⟩
 obtain⟨t,ht,hq⟩:=hbody A outer s H vs Q E (hr.deeper _) hsp
 have I:Inv (oW CX P w K mg base N qual scope f cdv A outer s H E) [] (mO N vs) H s1:=FJ S hr.hd e0 hl r x
 refine cW (ht [] s1 (mO N vs) H _ I hq) (fun fl s' hs=>?_) fun e s' hs=>hs
 have fin:∀{σ':St} {H':Hp} {v:V} {u:Value},Inv (oW CX P w K mg base N qual scope f cdv A outer s H E) [] σ' H' s'->RelV v u->Q v H'->CE outer P w H s Q u s':=
  fun{σ' H' v u} J rv q=>⟨v,H',J.os,J.bare,J.base,J.hok,rv,q⟩
 cases fl with
 |ret u=>
  obtain⟨v,σ',H',J,rv,q⟩:=hs
  exact fin J rv q
 |next=>
  obtain⟨σ',H',J,q⟩:=hs
  exact fin (v:=V.non) (u:=Value.none) J rfl q
 |brk=>
  obtain⟨_,_,_,q⟩:=hs
  exact False.elim q
 |cont=>
  obtain⟨_,_,_,q⟩:=hs
  exact False.elim q
section
variable{X:Cx}{x:Str}{p pos:Pos}{e:Expr}{es:List Expr}{t:TA}{id T:String}{r:List V->Hp->VK->Prop}
def qz(r:List V->Hp->VK->Prop)(t:TA):TE:=fun σ H Q=>t σ H fun vs H1=>r vs H1 Q
theorem jf(hc:jc2 X (.builtin id) r)(hg:Gl X x)(hm:X.mg x=none)(hv:bootBuiltins x=some (.builtin id))(ha:PA X (e::es) t)(hn:x≠"__name__":=by decide)(hdb:(x==("__debug__":Str))=false:=by decide)
  (he:starEach (e::es) X.env=(false,eval e X.env)::starEach es X.env:=by rfl) (hpl:(backTo pos (starEach es X.env)).any (·.1)=false:=by rfl):PE X (.Call (.Name x p) (e::es) [] pos) (qz r t):=by
 intro pins s σ H Q I h
 refine eQ (nS I hg hm hv ?_ hn hdb)
 exact PyProof.Rows.callWith_builtin1 (iJ (ha pos pins s σ H _ I h) fun us s1 ⟨vs,H1,I1,r1,q1⟩=>hc pins s1 σ H1 vs us Q I1 r1 q1) he hpl
theorem mf(hc:jc2 X (.type T) r)(hg:Gl X x)(hm:X.mg x=none)(hv:bootBuiltins x=some (.type T))(ha:PA X (e::es) t)(hn:x≠"__name__":=by decide)(hdb:(x==("__debug__":Str))=false:=by decide)
  (he:starEach (e::es) X.env=(false,eval e X.env)::starEach es X.env:=by rfl) (hpl:(backTo pos (starEach es X.env)).any (·.1)=false:=by rfl):PE X (.Call (.Name x p) (e::es) [] pos) (qz r t):=by
 intro pins s σ H Q I h
 refine eQ (nS I hg hm hv ?_ hn hdb)
 exact cJ (iJ (ha pos pins s σ H _ I h) fun us s1 ⟨vs,H1,I1,r1,q1⟩=>hc pins s1 σ H1 vs us Q I1 r1 q1) he hpl
end
end L2
namespace HT
open PySem PyProof.Rows
noncomputable def lexLt:List Int->List Int->Bool
 |[],[]=>false
 |[],_::_=>true
 |_::_,[]=>false
 |x::xs,y::ys=>if x=y then lexLt xs ys else decide (x<y)
theorem oy(x y:Int)(xs ys:List Int):lexLt (x::xs) (y::ys)=if x=y then lexLt xs ys else decide (x<y):=rfl
theorem Hg:lexLt [] []=false:=rfl
theorem Hr(y:Int)(ys:List Int):lexLt [] (y::ys)=true:=rfl
theorem Hq(x:Int)(xs:List Int):lexLt (x::xs) []=false:=rfl
theorem Et(A:Around)(s:Shared)(a:Int)(t:Tok)(c:Int)(u:Tok):∃e,SeqAt.EqAt A s (.int a t) (.int c u) e/\(e=true↔a=c):=
 ⟨(a==c),gu a t c u,by simp⟩
theorem Fg(A:Around)(s:Shared)(a:Int)(t:Tok)(c:Int)(u:Tok)(prog:Program)(w:World)(E:Value->Shared->Prop)(Q:Value->Shared->Prop)(h:Q (.bool (decide (a<c))) s):
  wpAny (model prog w) A (richCompare .Lt (.int a t) (.int c u)) Q E s:=
 (PyProof.Rows.lt_int h:wpAny (model prog w) A (compareOp .Lt (.int a t) (.int c u)) Q E s)
section
open PySem.SeqAt
open PySem.AutoSeq1 (wpAny_loadPart')
open PySem.MeetsSeq PySem.MeetsSeq2 PySem.MeetsSeq3
theorem Hn(l b:Addr)(items items2:Array Value)(n n2:Nat)(dd dd2:Option Addr)(sl mG:Array (Option Value))(ns ms:List Int)(hi:IntsAre items.toList ns)(hj:IntsAre items2.toList ms):
  Meets (Builtin.«tuple.__lt__» ⟨[.ref l,.ref b],[]⟩)
   (fun _ R s=>s.heap.get? l=some {cls:=.type "tuple",dict:=dd,data:=.seq items n,slots:=sl}/\s.heap.get? b=some {cls:=.type "tuple",dict:=dd2,data:=.seq items2 n2,slots:=mG}/\
    R (.ok (.ret (.bool (lexLt ns ms)))) s):=
 .of_wp fun prog w A R s h=>by
  obtain⟨hp,g,d,tk,os⟩:=s;obtain⟨hl,hb,h⟩:=h
  have f2:=AutoSeq1.sub_tuple_tuple
  have z1:items.size = ns.length:=by rw [<- hi.length]; simp
  have z2:items2.size = ms.length:=by rw [<- hj.length]; simp
  wp_walk using fM hl,fM hb,wpAny_forIn_list _ (fun rest b s'=>b.1=none/\s'=⟨hp,g,d,tk,os⟩/\∃(vs ws:List Value) (ns' ms':List Int),rest=vs.zip ws/\
   IntsAre vs ns'/\IntsAre ws ms'/\ns'.length+items2.size=ms'.length+items.size/\R (.ok (.ret (.bool (lexLt ns' ms')))) ⟨hp,g,d,tk,os⟩) _
  case turn=>
   rintro⟨y,x⟩ rest b s' ⟨hb',rfl,vs,ws,ns',ms',hz,hvi,hwi,hlen,hR⟩
   cases hvi with
   |nil=>rw[List.zip_nil_left]at hz;cases hz
   | cons a t hvi'=>
    cases hwi with
    |nil=>rw[List.zip_nil_right]at hz;cases hz
    | cons c u hwi'=>
     rw[List.zip_cons_cons]at hz
     injection hz with hyx hrest
     injection hyx with hy hx
     subst hy hx
     rw[oy]at hR
     simp only[List.length_cons]at hlen
     obtain⟨e,he,hiff⟩:=Et A.in1 ⟨hp,g,d,tk,os⟩ a t c u
     refine aa (he prog w _ _ ?_)
     cases e with
     |true=>
      rw[aq (hiff.mp rfl)]at hR
      wp_walk
      exact⟨rfl,rfl,_,_,_,_,hrest,hvi',hwi',by lia,hR⟩
     |false=>
      rw[ak (fun q=>absurd (hiff.mpr q) aO)]at hR
      have hri:=Fg A.in1 ⟨hp,g,d,tk,os⟩ a t c u prog w
      wp_walk using hri
      exact⟨_,rfl,by simpa using hR⟩
  case fin=>
   rintro⟨b1,b2⟩ s' ⟨hb',rfl,vs,ws,ns',ms',hz,hvi,hwi,hlen,hR⟩
   simp only at hb'
   subst hb'
   have hv:lexLt ns' ms'=decide (items.size<items2.size):=by
    cases hvi with
    | nil=>
     cases hwi with
     |nil=>
      simp only[List.length_nil]at hlen
      rw[Hg]
      exact(aJ (by lia)).symm
     |cons c u hw=>
      simp only[List.length_nil,List.length_cons]at hlen
      rw[Hr]
      exact(aG (by lia)).symm
    | cons a t hv=>
     cases hwi with
     |nil=>
      simp only[List.length_nil,List.length_cons]at hlen
      rw[Hq]
      exact(aJ (by lia)).symm
     |cons c u hw=>
      rw[List.zip_cons_cons]at hz
      cases hz
   rw[hv]at hR
   wp_walk
   exact⟨_,rfl,by simpa[Builtin.Tuple.tupleCompareSizes]using hR⟩
  case h=>
   exact⟨rfl,rfl,items.toList,items2.toList,ns,ms,rfl,hi,hj,by lia,h⟩
end
section
variable{prog:Program}{w:World}{A:Around}{E:Value->Shared->Prop}{s:Shared}
theorem Dl{l b:Addr}{items items2:Array Value}{ns ms:List Int}{Q:Value->Shared->Prop}(hl:IsTup s.heap l items)(hb:IsTup s.heap b items2)(hi:IntsAre items.toList ns)(hj:IntsAre items2.toList ms)
  (hu:A.units<cLine) (h:Q (.bool (lexLt ns ms)) s):wpAny (model prog w) A (compareOp .Lt (.ref l) (.ref b)) Q E s:=by
 obtain⟨⟨cls,dd,data,sl⟩,ho,hc,n,hd⟩:=id hl
 obtain⟨⟨cls2,dd2,data2,mG⟩,ho2,hc2,n2,hd2⟩:=id hb
 simp only at hc hd hc2 hd2
 subst hc hd hc2 hd2
 exact richCompare_meets_room (op:=.Lt) ⟨_,ho,rfl⟩ ⟨_,ho2,rfl⟩ PySem.F.slot_tuple_lt PySem.F.entry_tuple_lt (PySem.F.args_tuple_lt_2 _ _) (Hn l b items items2 n n2 dd dd2 sl mG ns ms hi hj)
  ⟨ho,ho2,show Value.bool (lexLt ns ms)≠Value.notImplemented/\Q (.bool (lexLt ns ms)) s from⟨(fun x=>nomatch x),h⟩⟩ hu
noncomputable def iZ(n d:Nat):Option Int->Nat
 |none=>d
 |some v=>if v<0 then(v+(n:Int)).toNat else min v.toNat n
theorem Cg(n d:Nat)(hd:d<=n)(o:Option Int):iZ n d o<=n:=by
 cases o with
 |none=>exact hd
 |some v=>
  show(if v<0 then(v+(n:Int)).toNat else min v.toNat n)<=n
  by_cases hv:v<0
  ·rw[aq hv];lia
  ·rw[ak hv];exact Nat.min_le_right _ _
theorem yj(v:Int)(n d:Nat):(if v<0 then max (v+(n:Int)) 0 else min v (n:Int))=((iZ n d (some v):Nat):Int):=by
 show(if v<0 then max (v+(n:Int)) 0 else min v (n:Int))=(((if v<0 then(v+(n:Int)).toNat else min v.toNat n):Nat):Int)
 by_cases hv:v<0
 ·simp only[aq hv];lia
 ·simp only[ak hv];lia
theorem Ge(lo hi:Option Int)(n:Nat):Builtin.Slice.sliceAdjust lo hi 1 (n:Int)=(((iZ n 0 lo:Nat):Int),((iZ n n hi:Nat):Int)):=by
 have h1:¬((1:Int)<0):=by lia
 unfold Builtin.Slice.sliceAdjust
 simp only[h1,if_false]
 refine fw ?_ ?_
 ·cases lo with
  |none=>rfl
  |some v=>exact yj v n 0
 ·cases hi with
  |none=>rfl
  |some v=>exact yj v n n
theorem GC(i j:Nat):Builtin.Slice.slicePlaces (i:Int) (j:Int) 1=j-i:=by
 unfold Builtin.Slice.slicePlaces
 have h1:(1:Int)>0:=by lia
 simp only[h1,if_true,Int.ediv_one]
 split<;>lia
theorem AG{v:Value}{o:Option Int}{Q:Option Int->Shared->Prop}(p:IsPart v o)(h:Q o s):wpAny (model prog w) A (Builtin.Slice.slicePartIndex v) Q E s:=by
 cases p with
 |none=>exact slicePart_none h
 |int i t=>exact slicePart_int h
theorem HI{sl:Addr}{vl vu:Value}{lo hi:Option Int}{n:Nat}{Q:Int×Int×Nat->Shared->Prop}(hs:s.heap.IsSliceOf sl vl vu .none)(pl:IsPart vl lo)(pu:IsPart vu hi)
  (h:Q (((iZ n 0 lo:Nat):Int),1,iZ n n hi-iZ n 0 lo) s):wpAny (model prog w) A (Builtin.Slice.sliceApplied (.ref sl) (pure (n:Int))) Q E s:=by
 obtain⟨os,hos,hcs,hds⟩:=id hs
 unfold Builtin.Slice.sliceApplied Builtin.Slice.sliceFields
 refine aa (aa (cq hos hds (x:=vl) rfl (aa (cq hos hds (x:=vu) rfl (aa (cq hos hds (x:=.none) rfl (ao ?_)))))))
 refine aa (slicePart_none ?_)
 show wpAny _ _ (if((1:Int)==0)=true then _ else _) _ _ s
 rw[ak (by decide)]
 refine aa (AG pl (aa (AG pu (aa (ao ?_)))))
 show wpAny _ _ (match Builtin.Slice.sliceAdjust lo hi 1 (n:Int)with |(lo,hi)=>pure (lo,(1:Int),Builtin.Slice.slicePlaces lo hi 1)) _ _ s
 rw[Ge lo hi n]
 show wpAny _ _ (pure (((iZ n 0 lo:Nat):Int),(1:Int),Builtin.Slice.slicePlaces ((iZ n 0 lo:Nat):Int) ((iZ n n hi:Nat):Int) 1)) _ _ s
 rw[GC]
 exact ao h
theorem E8(xs:Array Value)(i k:Nat):((List.range k).filterMap fun(m:Nat)=>xs[((i:Int)+(m:Int)*1).toNat]?).toArray=((xs.toList.drop i).take k).toArray:=by
 have e:(fun(m:Nat)=>xs[((i:Int)+(m:Int)*1).toNat]?)=fun m=>xs[i+m]?:=by
  funext m
  have:((i:Int)+(m:Int)*1).toNat=i+m:=by lia
  rw[this]
 rw[e]
 have:=pick_run xs i k
 rw[gB]at this
 have e2:((fun x=>xs[x]?)∘fun x=>i+x)=fun m=>xs[i+m]?:=rfl
 rw[e2]at this
 rw[this]
theorem H0{t sl:Addr}{items:Array Value}{vl vu:Value}{lo hi:Option Int}{Q:Value->Shared->Prop}(ht:IsTup s.heap t items)(hs:s.heap.IsSliceOf sl vl vu .none)(pl:IsPart vl lo)(pu:IsPart vu hi)
  (hw:¬(iZ items.size 0 lo=0/\iZ items.size items.size hi=items.size))
  (h:Q (.ref s.heap.objs.size) {s with heap:=s.heap.push {cls:=.type "tuple",data:=.seq ((items.toList.drop (iZ items.size 0 lo)).take (iZ items.size items.size hi-iZ items.size 0 lo)).toArray}})
  (hsz:items.size<=sizeLine):wpAny (model prog w) A (getItem (.ref t) (.ref sl)) Q E s:=by
 have htake:sizeOk (.seq ((items.toList.drop (iZ items.size 0 lo)).take (iZ items.size items.size hi-iZ items.size 0 lo)).toArray):=by
  show((items.toList.drop (iZ items.size 0 lo)).take (iZ items.size items.size hi-iZ items.size 0 lo)).toArray.size<=sizeLine
  rw[ah,aK,br,Array.length_toList]
  lia
 have hj:iZ items.size items.size hi<=items.size:=Cg _ _ (ai _) hi
 obtain⟨os,hos,hcs,hds⟩:=id hs
 have hTs:s.TypeIs (.ref sl) "slice":=⟨os,hos,hcs⟩
 unfold getItem
 try with_reducible refine bV ?_
 first|refine aa (ao ?_)|skip
 refine aa (wpAny_sequenceKey ht.typeIs (by decide) ?_)
 refine aa (cZ (name:=Str.ofString "__getitem__") ht.typeIs eC
  (cY eC ht.typeIs entry_tuple_getitem ?_ (args_tuple_getitem _ _)))
 show wpAny _ _ (Builtin.Tuple.tupleItemsOf (.ref t)>>=_) _ _ s
 refine aa (tupleItemsOf_ ht ?_)
 refine aa (dY hTs ?_)
 rw[aq (by decide)]
 refine aa (HI hs pl pu ?_)
 have hno:¬((((iZ items.size 0 lo:Nat):Int)==0&&(1:Int)==1&&(iZ items.size items.size hi-iZ items.size 0 lo)==items.size)=true):=by
  intro q
  rw[cu,cu]at q
  have q1:((iZ items.size 0 lo:Nat):Int)=0:=eq_of_beq q.1.1
  have q2:iZ items.size items.size hi-iZ items.size 0 lo=items.size:=eq_of_beq q.2
  exact hw ⟨by lia,by lia⟩
 show wpAny _ _ (if(((iZ items.size 0 lo:Nat):Int)==0&&(1:Int)==1&&(iZ items.size items.size hi-iZ items.size 0 lo)==items.size)=true then _ else _) _ _ s
 rw[ak hno,E8]
 first
  |exact aa (m:=Builtin.Tuple.tupleExact _) (cx (ao ⟨_,rfl,ao h⟩) htake)
  |exact aa (m:=Builtin.Tuple.tupleExact _) (cx (aa (ao (ao ⟨_,rfl,ao h⟩))) htake)
  |exact aa (aa (m:=Builtin.Tuple.tupleExact _) (cx (ao (ao ⟨_,rfl,ao h⟩)) htake))
  |exact aa (aa (m:=Builtin.Tuple.tupleExact _) (cx (ao ⟨_,rfl,ao h⟩) htake))
end
end HT
namespace L2
open PySem PySem.Spec PyProof.Rows
abbrev TO:=St->Hp->(Option Int->Hp->Prop)->Prop
def PO(X:Cx)(e:Option Expr)(t:TO):Prop:=
 ∀(pins:List (Addr×Obj)) (s:Shared) (σ:St) (H:Hp) (Q:Option Int->Hp->Prop),Inv X pins σ H s->t σ H Q->
  wpAny (model X.prog X.w) X.A (evalPart e X.env) (fun u s'=>∃o H',Inv X pins σ H' s'/\IsPart u o/\Q o H') X.xe s
def y6:TO:=fun _ H Q=>Q none H
theorem n6{ns:List Int}:∀{us:List Value},Vals (ns.map V.int) us->IntsAre us ns:=by
 induction ns with
 |nil=>intro us r;rw[cD]at r;cases r;exact .nil
 | cons n ns ih=>
  intro us r
  rw[ag]at r
  cases r with
  |cons r1 r2=>
   obtain⟨t,e⟩:=r1
   subst e
   exact .cons n t (ih r2)
section
variable{X:Cx}{e:Expr}{te:TE}{lo hi:Option Expr}{tl th:TO}{pos p2:Pos}
theorem lU:PO X none y6:=by
 intro pins s σ H Q I h
 rw[evalPart_none]
 exact ao ⟨none,H,I,.none,h⟩
def SlR(X:Cx)(r:V->Option Int->Option Int->Hp->VK->Prop):Prop:=
 ∀(pins:List (Addr×Obj)) (s:Shared) (σ:St) (H:Hp) (x:V) (v vl vu:Value) (lo hi:Option Int) (sl:Addr) (Q:VK),Inv X pins σ H s->RelV x v->s.heap.IsSliceOf sl vl vu .none->IsPart vl lo->IsPart vu hi->r x lo hi H Q->
  ∃T id,typeLookup (.type T) "__getitem__"=pure (some (.builtin id))/\s.TypeIs v T/\wpAny (model X.prog X.w) X.A (getItem v (.ref sl)) (EP X pins σ Q) X.xe s
def wG(r:V->Option Int->Option Int->Hp->VK->Prop)(te:TE)(tl th:TO):TE:=fun σ H Q=>te σ H fun x H1=>tl σ H1 fun l H2=>th σ H2 fun u H3=>r x l u H3 Q
theorem lW{r:V->Option Int->Option Int->Hp->VK->Prop}(hr:SlR X r)(he:PE X e te)(hl:PO X lo tl)(hu:PO X hi th):PE X (.Subscript e (.Slice lo hi none p2) pos) (wG r te tl th):=by
 intro pins s σ H Q I h
 refine gr (iJ (he pins s σ H _ I h) fun v s1 ⟨x,H1,I1,r1,q1⟩=>?_)
 refine wpAny_Slice (iJ (hl pins s1 σ H1 _ I1 q1) fun vl s2 ⟨l,H2,I2,pl,q2⟩=>iJ (hu pins s2 σ H2 _ I2 q2) fun vu s3 ⟨u,H3,I3,pu,q3⟩=>?_)
 rw[evalPart_none]
 refine ao ?_
 have I4:Inv X pins σ H3 {s3 with heap:=s3.heap.push {cls:=.type "slice",data:=.fields #[vl,vu,.none]}}:=I3.kept (t':=s3.toks) fun b ob q=>af _ q
 obtain⟨T,id,hT,ht,hg⟩:=hr pins {s3 with heap:=s3.heap.push {cls:=.type "slice",data:=.fields #[vl,vu,.none]}} σ H3 x v vl vu l u s3.heap.objs.size Q I4 r1 (gD ..) pl pu q3
 show wpAny (model X.prog X.w) X.A (subscriptTail e (.Slice lo hi none p2) v (.ref s3.heap.objs.size)) (EP X pins σ Q) X.xe {s3 with heap:=s3.heap.push {cls:=.type "slice",data:=.fields #[vl,vu,.none]}}
 exact tail_any (ops:=[.ref s3.heap.objs.size,v]) ht hT hg (by with_unfolding_all rfl)
noncomputable def kA(xs:List V)(lo hi:Option Int):List V:=(xs.drop (HT.iZ xs.length 0 lo)).take (HT.iZ xs.length xs.length hi-HT.iZ xs.length 0 lo)
theorem AM(xs:List V)(lo hi:Option Int):(kA xs lo hi).length<=xs.length:=by
 unfold kA
 rw[aK,br]
 lia
def Cs(K:PySem.W.Frag):V->Option Int->Option Int->Hp->VK->Prop:=fun x lo hi H Q=>∃a xs,x= .ref a/\SqT K H a xs/\
 ¬(HT.iZ xs.length 0 lo=0/\HT.iZ xs.length xs.length hi=xs.length)/\∀p,H p=none->Q (.ref p) (upd H p (.tup (kA xs lo hi)))
theorem B9:SlR X (Cs X.K):=by
 intro pins s σ H x v vl vu lo hi sl Q I rx hs pl pu h
 obtain⟨a,xs,rfl,hx,hw,q⟩:=h
 cases rx
 obtain⟨its,r,ht,hz⟩:=I.tuple hx
 have hlen:its.toArray.size=xs.length:=by rw[ah];exact r.length.symm
 refine⟨"tuple",_,eC.lookup,ht.typeIs,?_⟩
 refine HT.H0 ht hs pl pu (by rw[hlen];exact hw) ?_ (by rw[hlen];exact hz)
 rw[hlen]
 refine⟨.ref s.heap.objs.size,_,I.laid (t':=s.toks) (o:=.tup (kA xs lo hi)) (fun b ob q=>af _ q) (ai _) ?_,rfl,q _ (I.hok.fresh (ai _))⟩
 exact⟨bD (AM xs lo hi) hz,_,(r.drop (HT.iZ xs.length 0 lo)).take (HT.iZ xs.length xs.length hi-HT.iZ xs.length 0 lo),IsTup.new _ _⟩
def Cz(K:PySem.W.Frag):R2:=fun x y H Q=>∃a b ns ms,x= .ref a/\y= .ref b/\SqT K H a (ns.map V.int)/\SqT K H b (ms.map V.int)/\Q (.bl (HT.lexLt ns ms)) H
theorem C5(hu:X.A.units<cLine):OpR X (compareOp .Lt) (Cz X.K):=by
 intro pins s σ H x y v u Q I rx ry h
 obtain⟨a,b,ns,ms,rfl,rfl,ha,hb,q⟩:=h
 cases rx
 cases ry
 obtain⟨its,r1,p1,_⟩:=I.tuple ha
 obtain⟨its2,r2,p2,_⟩:=I.tuple hb
 have i1:IntsAre its.toArray.toList ns:=n6 r1
 have i2:IntsAre its2.toArray.toList ms:=n6 r2
 exact HT.Dl p1 p2 i1 i2 hu ⟨.bl (HT.lexLt ns ms),H,I,rfl,q⟩
end
noncomputable def kK(n:Nat)(i:Int):Option Nat:=if 0<=i then(if i<n then some i.toNat else none)else if -(n:Int)<=i then some (i+n).toNat else none
noncomputable def jl{α:Type}(xs:List α)(i:Int):Option α:=(kK xs.length i).bind fun j=>xs[j]?
theorem yv{n:Nat}{i:Int}{j:Nat}(h:kK n i=some j):seqIndex? i n=some j/\j<n/\-(n:Int)<=i/\i<n:=by
 unfold kK at h
 by_cases h0:0<=i
 ·rw[aq h0]at h
  by_cases h1:i<n
  ·rw[aq h1]at h
   have e:i.toNat=j:=az h
   exact⟨by rw[hJ h0 h1,e],by lia,by lia,h1⟩
  ·rw[ak h1]at h;cases h
 ·rw[ak h0]at h
  by_cases h1:-(n:Int)<=i
  ·rw[aq h1]at h
   have e:(i+n).toNat=j:=az h
   exact⟨by rw[seqIndex_neg (by lia) h1,e],by lia,h1,by lia⟩
  ·rw[ak h1]at h;cases h
theorem uw{α:Type}{xs:List α}{i:Int}{v:α}(h:jl xs i=some v):∃j,seqIndex? i xs.length=some j/\xs[j]? =some v/\j<xs.length/\-(xs.length:Int)<=i/\i<xs.length:=by
 unfold jl at h
 cases e:kK xs.length i with
 |none=>rw[e]at h;cases h
 |some j=>
  rw[e]at h
  obtain⟨h1,h2,h3,h4⟩:=yv e
  exact⟨j,h1,h,h2,h3,h4⟩
theorem ll{α:Type}{xs:List α}{j:Nat}{v:α}(h:xs[j]? =some v):jl xs (j:Int)=some v:=by
 have hj:j<xs.length:=(au.mp h).1
 have e:kK xs.length (j:Int)=some j:=by
  unfold kK
  rw[aq (by lia),aq (by lia)];simp
 unfold jl;rw[e];exact h
def Dv(b:Expr):Prop:=∀o i,subscripted b false o i=operate [o,i] (getItem o i)
def IxR(X:Cx)(r:R2):Prop:=
 ∀(value slice:Expr) (pins:List (Addr×Obj)) (s:Shared) (σ:St) (H:Hp) (x y:V) (v u:Value) (Q:VK),Inv X pins σ H s->RelV x v->RelV y u->r x y H Q->
  subscripted slice false v u=operate [v,u] (getItem v u)->wpAny (model X.prog X.w) X.A (subscriptTail value slice v u) (EP X pins σ Q) X.xe s
def MtR(X:Cx)(id:String)(r:V->List V->Hp->VK->Prop):Prop:=
 ∀(pins:List (Addr×Obj)) (s:Shared) (σ:St) (H:Hp) (x:V) (xs:List V) (v:Value) (us:List Value) (Q:VK),Inv X pins σ H s->RelV x v->Vals xs us->r x xs H Q->
  wpAny (model X.prog X.w) X.A (call (.builtin id) (v::us)) (EP X pins σ Q) X.xe s
section
variable{X:Cx}{a b:Expr}{ta tb:TE}{pos:Pos}
theorem IxR.or{r r':R2}(h:IxR X r)(h':IxR X r'):IxR X (fun x y H Q=>r x y H Q\/r' x y H Q):=by
 intro value slice pins s σ H x y v u Q I rx ry q hs
 rcases q with q|q
 ·exact h value slice pins s σ H x y v u Q I rx ry q hs
 ·exact h' value slice pins s σ H x y v u Q I rx ry q hs
theorem iM{r:R2}(hr:IxR X r)(ha:PE X a ta)(hb:PE X b tb)(hs:Dv b):PE X (.Subscript a b pos) (nI r ta tb):=by
 intro pins s σ H Q I h
 exact gr (wm ha hb I h fun v u s2 x y H2 I2 rx ry q=>hr a b pins s2 σ H2 x y v u Q I2 rx ry q (hs _ _))
def xg(K:PySem.W.Frag):R2:=fun x y H Q=>∃p xs i v,x= .ref p/\y= .int i/\SqL K H p xs/\jl xs i=some v/\Q v H
def CA(K:PySem.W.Frag):R2:=fun x y H Q=>∃p xs i v,x= .ref p/\y= .int i/\SqT K H p xs/\jl xs i=some v/\Q v H
theorem yw:IxR X (xg X.K):=by
 intro value slice pins s σ H x y v u Q I rx ry h hs
 obtain⟨p,xs,i,z,rfl,rfl,hq,he,q⟩:=h
 cases rx
 obtain⟨t,rfl⟩:=ry
 obtain⟨its,r,pl,hz⟩:=I.list hq
 obtain⟨j,h1,h2,h3,h4,h5⟩:=uw he
 obtain⟨w,ew,rw'⟩:=r.get h2
 have hl:=r.length
 have hn:=oE
 have fin:EP X pins σ Q w s:=⟨z,H,I,rw',q⟩
 by_cases h0:0<=i
 ·have hj:i.toNat=j:=by
   rw[hJ h0 h5]at h1
   exact az h1
  exact item_listR pl.isList h0 (by lia) (by rw[hj];simpa using ew) fin hs
 ·have hj:(i+(its.toArray.size:Int)).toNat=j:=by
   rw[seqIndex_neg (by lia) h4]at h1
   rw [ah,<- hl]
   exact az h1
  exact subscriptTail_builtinR (x:=w) pl.isList.typeIs eZ.lookup
   (wpAny_getItem_list_neg (Q:=fun r s'=>r=w/\EP X pins σ Q r s') pl.isList (by lia) (by rw[ah]<;>lia) (by lia) (by rw[hj];simpa using ew) ⟨rfl,fin⟩) hs
theorem HQ:IxR X (CA X.K):=by
 intro value slice pins s σ H x y v u Q I rx ry h hs
 obtain⟨p,xs,i,z,rfl,rfl,hq,he,q⟩:=h
 cases rx
 obtain⟨t,rfl⟩:=ry
 obtain⟨its,r,pl,hz⟩:=I.tuple hq
 obtain⟨j,h1,h2,h3,h4,h5⟩:=uw he
 obtain⟨w,ew,rw'⟩:=r.get h2
 have hl:=r.length
 have hn:=oE
 have fin:EP X pins σ Q w s:=⟨z,H,I,rw',q⟩
 exact subscriptTail_builtinR (x:=w) pl.typeIs slot_tuple_getitem.lookup
  (getItem_tuple (j:=j) (Q:=fun r s'=>r = w/\EP X pins σ Q r s') pl (by lia) (by lia) (by rw [ah,<- hl]; exact h1) (by simpa using ew) ⟨rfl,fin⟩) hs
theorem Gv(its:List Value)(n j:Nat)(u:Value):Obj.mapSeq (·.setIfInBounds j u) {cls:=.type "list",data:=.seq its.toArray n}={cls:=.type "list",data:=.seq (its.set j u).toArray n}:=by
 simp[Obj.mapSeq]
theorem Inv.lst{pins:List (Addr×Obj)}{σ:St}{H:Hp}{s:Shared}{p:Addr}{xs:List V}(I:Inv X pins σ H s)(h:H p=some (.lst xs)):
  ∃(its:List Value) (n:Nat),Vals xs its/\s.heap.get? p=some {cls:=.type "list",data:=.seq its.toArray n}/\xs.length<=sizeLine:=by
 obtain⟨z,its,n,r,e⟩:=I.hok p _ h
 exact⟨its,n,r,e,z⟩
theorem Inv.lstUpd{pins:List (Addr×Obj)}{σ:St}{H:Hp}{s:Shared}{p:Addr}{xs ys:List V}{its its':List Value}{n n':Nat}{f:Obj->Obj}(I:Inv X pins σ H s)(h:H p=some (.lst xs))
  (ho:s.heap.get? p=some {cls:=.type "list",data:=.seq its.toArray n}) (hf:f {cls:=.type "list",data:=.seq its.toArray n}={cls:=.type "list",data:=.seq its'.toArray n'}) (r:Vals ys its') (hz:ys.length<=sizeLine) (t:Nat):
  Inv X pins σ (upd H p (.lst ys)) {s with heap:=s.heap.update p f,toks:=t}:=by
 have e:(s.heap.update p f).get? p=some {cls:=.type "list",data:=.seq its'.toArray n'}:=by
  rw[cR f ho (by rw[hf]<;>rfl),hf]
 refine I.write (x:=p) (e:=p) (by rw[h];trivial) (.inl rfl) (fun b u hb q=>(bF _ _ (cX hb)).trans q) ⟨_,e⟩ ?_
 exact⟨hz,its',n',r,e⟩
def Cu:V->V->V->Hp->(Hp->Prop)->Prop:=fun o i v H Q=>∃p xs k j,o= .ref p/\i= .int k/\H p=some (.lst xs)/\kK xs.length k=some j/\Q (upd H p (.lst (xs.set j v)))
theorem Fj:PSet X Cu:=by
 intro pins s σ H o i v ov iv u Q I ro ri rv h
 obtain⟨p,xs,k,j,rfl,rfl,hp,hj,q⟩:=h
 cases ro
 obtain⟨t,rfl⟩:=ri
 obtain⟨its,n,r,ho,hz⟩:=I.lst hp
 obtain⟨h1,h2,h3,h4⟩:=yv hj
 have hl:=r.length
 have hn:=oE
 have I':Inv X pins σ (upd H p (.lst (xs.set j v))) {s with heap:=s.heap.update p (Obj.mapSeq (·.setIfInBounds j u))}:=
  I.lstUpd hp ho (Gv its n j u) (r.set rv j) (by rw[eK];exact hz) s.toks
 by_cases h0:0<=k
 ·have hk:k.toNat=j:=by
   rw[hJ h0 h4]at h1
   exact az h1
  exact PySem.W.ki_setAt ho h0 (by lia) (by rw [ah,<- hl]; exact h4) (by rw [hk]; exact ⟨_,I',q⟩)
 ·have hk:(k+(its.toArray.size:Int)).toNat=j:=by
   rw[seqIndex_neg (by lia) h3]at h1
   rw [ah,<- hl]
   exact az h1
  exact PySem.W.ki_setBack ho (by lia) (by rw [ah,<- hl]; exact h3) (by lia) (by rw [hk]; exact ⟨_,I',q⟩)
theorem He(lo hi:Option Int)(n:Nat):(sliceBounds lo hi none n).1=((HT.iZ n 0 lo:Nat):Int)/\(sliceBounds lo hi none n).2.1=((HT.iZ n n hi:Nat):Int)/\(sliceBounds lo hi none n).2.2=1:=by
 refine⟨?_,?_,rfl⟩
 ·cases lo with
  |none=>simp[sliceBounds,HT.iZ]
  |some i=>
   simp only[sliceBounds,HT.iZ,Option.getD_none,show(1:Int)>0 by decide,if_true]
   by_cases h:i<0
   ·simp only[h,if_true]<;>lia
   ·simp only[h,if_false]<;>lia
 ·cases hi with
  |none=>simp[sliceBounds,HT.iZ]
  |some i=>
   simp only[sliceBounds,HT.iZ,Option.getD_none,show(1:Int)>0 by decide,if_true]
   by_cases h:i<0
   ·simp only[h,if_true]<;>lia
   ·simp only[h,if_false]<;>lia
theorem Hm(its:List Value)(lo hi:Option Int):slicePick its.toArray lo hi none=((its.drop (HT.iZ its.length 0 lo)).take (HT.iZ its.length its.length hi-HT.iZ its.length 0 lo)).toArray:=by
 obtain⟨h1,h2,h3⟩:=He lo hi its.toArray.size
 unfold slicePick
 rw[h1,h2,h3]
 simp only[sliceRange_one,pick_run,ah]<;>rfl
def Ct(K:PySem.W.Frag):V->Option Int->Option Int->Hp->VK->Prop:=fun x lo hi H Q=>∃a xs,x= .ref a/\SqL K H a xs/\∀p,H p=none->Q (.ref p) (upd H p (.lst (kA xs lo hi)))
theorem Ec:SlR X (Ct X.K):=by
 intro pins s σ H x v vl vu lo hi sl Q I rx hs pl pu h
 obtain⟨a,xs,rfl,hx,q⟩:=h
 cases rx
 obtain⟨its,r,ht,hz⟩:=I.list hx
 have hlen:=r.length
 refine⟨"list",_,eZ.lookup,ht.isList.typeIs,?_⟩
 refine fm ht.isList hs pl pu .none (by simp) ?_ (by rw[ah]<;>lia)
 rw [Hm,<- hlen]
 refine⟨.ref s.heap.objs.size,_,I.laid (t':=s.toks) (o:=.lst (kA xs lo hi)) (fun b ob q=>af _ q) (ai _) ?_,rfl,q _ (I.hok.fresh (ai _))⟩
 exact⟨bD (AM xs lo hi) hz,_,0,(r.drop (HT.iZ xs.length 0 lo)).take (HT.iZ xs.length xs.length hi-HT.iZ xs.length 0 lo),aI _ rfl⟩
noncomputable def pG:V->Bool
 | .non=>true
 | .bl _=>true
 | .int _=>true
 | .str _=>true
 |_=>false
noncomputable def sL:V->V->Bool
 | .non,.non=>true
 | .bl a,.bl b=>a==b
 | .bl a,.int b=>(if a then 1 else 0)==b
 | .int a,.bl b=>a==(if b then 1 else 0)
 | .int a,.int b=>a==b
 | .str a,.str b=>a==b
 |_,_=>false
theorem Iw{A:Around}{s:Shared}{y x:V}{u v:Value}(ry:RelV y u)(rx:RelV x v)(fy:pG y=true)(fx:pG x=true):SeqAt.EqAt A s u v (sL y x):=by
 cases y with
 |non=>
  cases ry
  cases x with
  |non=>cases rx;exact hX _
  |bl b=>cases rx;exact SeqAt.EqAt.none_bool b
  |int b=>obtain⟨t,rfl⟩:=rx;exact SeqAt.EqAt.none_int b t
  |str b=>obtain⟨t,rfl⟩:=rx;exact SeqAt.EqAt.none_str b t
  |_=>exact absurd (show false=true from fx) aO
 |bl a=>
  cases ry
  cases x with
  |non=>cases rx;exact SeqAt.EqAt.bool_none a
  |bl b=>cases rx;exact SeqAt.EqAt.bool_bool a b
  |int b=>obtain⟨t,rfl⟩:=rx;exact SeqAt.EqAt.bool_int a b t
  |str b=>obtain⟨t,rfl⟩:=rx;exact SeqAt.EqAt.bool_str a b t
  |_=>exact absurd (show false=true from fx) aO
 |int a=>
  obtain⟨t',rfl⟩:=ry
  cases x with
  |non=>cases rx;exact SeqAt.EqAt.int_none a t'
  |bl b=>cases rx;exact SeqAt.EqAt.int_bool a t' b
  |int b=>obtain⟨t,rfl⟩:=rx;exact gu a t' b t
  |str b=>obtain⟨t,rfl⟩:=rx;exact SeqAt.EqAt.int_str a t' b t
  |_=>exact absurd (show false=true from fx) aO
 |str a=>
  obtain⟨t',rfl⟩:=ry
  cases x with
  |non=>cases rx;exact SeqAt.EqAt.str_none a t'
  |bl b=>cases rx;exact SeqAt.EqAt.str_bool a t' b
  |int b=>obtain⟨t,rfl⟩:=rx;exact SeqAt.EqAt.str_int a t' b t
  |str b=>obtain⟨t,rfl⟩:=rx;exact SeqAt.EqAt.str_str a t' b t
  |_=>exact absurd (show false=true from fx) aO
 |_=>exact absurd (show false=true from fy) aO
noncomputable def Bb(x:V)(xs:List V):Bool:=xs.any fun y=>sL y x
theorem vI:jc2 X (.builtin "len") (fun xs H Q=>∃p ys,xs=[.ref p]/\(SqL X.K H p ys\/SqT X.K H p ys)/\Q (.int ys.length) H):=by
 intro pins s σ H xs us Q I r h
 obtain⟨p,ys,rfl,hq,q⟩:=h
 obtain⟨u,rfl,rx⟩:=mP r
 cases rx
 have hn:=oE
 rcases hq with hq|hq
 ·obtain⟨its,r',pl,hz⟩:=I.list hq
  have hlen:=r'.length
  exact Calls.call_len_list pl.isList (by simp only[ah]<;>lia) ⟨.int ys.length,H,I.tok _,⟨s.toks+1,by rw[ah,hlen]⟩,q⟩
 ·obtain⟨its,r',pl,hz⟩:=I.tuple hq
  have hlen:=r'.length
  exact len_tuple pl (by simp only[ah]<;>lia) ⟨.int ys.length,H,I.tok _,⟨s.toks+1,by rw[ah,hlen]⟩,q⟩
theorem G6:jc2 X (.type "list") (fun xs H Q=>∃p ys,xs=[.ref p]/\(SqL X.K H p ys\/SqT X.K H p ys)/\∀l,H l=none->Q (.ref l) (upd H l (.lst ys))):=by
 intro pins s σ H xs us Q I r h
 obtain⟨p,ys,rfl,hq,q⟩:=h
 obtain⟨u,rfl,rx⟩:=mP r
 cases rx
 have fin:∀(its:List Value),Vals ys its->ys.length<=sizeLine->∀(h':Heap) (c':Nat),(∀b o',s.heap.get? b=some o'->h'.get? b=some o')->
   h'.get? s.heap.objs.size=some {cls:=.type "list",dict:=none,data:=.seq its.toArray c',slots:=#[]}->EP X pins σ Q (.ref s.heap.objs.size) {s with heap:=h'}:=fun its r' hz h' c' kp e=>
  ⟨.ref s.heap.objs.size,_,I.laid (t':=s.toks) kp (ai _) (show jbp X.prog X.w _ h' _ (.lst ys)from⟨hz,its,c',r',e⟩),rfl,q _ (I.hok.fresh (ai _))⟩
 rcases hq with hq|hq
 ·obtain⟨its,r',pl,hz⟩:=I.list hq
  have hlen:=r'.length
  obtain⟨o,ho,hc,n,hd⟩:=pl.isList
  exact call_list_seq p (.inl rfl) ho hc hd (fun h' c' kp e=>fin its r' hz h' c' kp e) (by simp only[ah]<;>lia)
 ·obtain⟨its,r',pl,hz⟩:=I.tuple hq
  have hlen:=r'.length
  obtain⟨o,ho,hc,n,hd⟩:=pl
  exact call_list_seq p (.inr rfl) ho hc hd (fun h' c' kp e=>fin its r' hz h' c' kp e) (by simp only[ah]<;>lia)
def BQ(K:PySem.W.Frag)(T:String)(x:V)(H:Hp):Prop:=match x with
 | .str _=>T="str"
 | .int _=>T="int"
 | .ref p=>(T="list"/\∃xs,SqL K H p xs)\/(T="tuple"/\∃o,K.lookup p=some o/\o.cls= .type "tuple"/\o.dict=none)\/
   (T="dict"/\((∃kvs,H p=some (.dK kvs))\/∃kvs,H p=some (.dT kvs)))\/(T="set"/\∃S n,H p=some (.set S n))
 |_=>False
theorem BP{pins:List (Addr×Obj)}{σ:St}{H:Hp}{s:Shared}{T:String}{x:V}{v:Value}(I:Inv X pins σ H s)(r:RelV x v)(ty:BQ X.K T x H):
  s.TypeIs v T/\∀a,v= .ref a->∃ob,s.heap.get? a=some ob/\ob.dict=none:=by
 cases x with
 |str z=>
  obtain⟨t,rfl⟩:=r
  cases(show T="str" from ty)
  exact⟨typeIs_str s z t,fun _ e=>nomatch e⟩
 |int i=>
  obtain⟨t,rfl⟩:=r
  cases(show T="int" from ty)
  exact⟨typeIs_int s i t,fun _ e=>nomatch e⟩
 | ref p=>
  cases r
  rcases ty with⟨rfl,xs,hq⟩|⟨rfl,o,hk,hc,hd⟩|⟨rfl,hk⟩|⟨rfl,S,n,hk⟩
  ·obtain⟨its,_,pl,_⟩:=I.list hq
   refine⟨pl.isList.typeIs,fun a e=>?_⟩
   cases e
   obtain⟨o,n,e,c,hd,_⟩:=pl
   exact⟨o,e,hd⟩
  ·refine⟨⟨o,I.kIn p o hk,hc⟩,fun a e=>?_⟩
   cases e
   exact⟨o,I.kIn _ o hk,hd⟩
  ·have z:∃o,s.heap.get? p=some o/\o.ExactDict:=by
    rcases hk with⟨kvs,hk⟩|⟨kvs,hk⟩
    ·obtain⟨_,_,_,_,o,_,_,e,ex,_⟩:=I.hok p _ hk
     exact⟨o,e,ex⟩
    ·obtain⟨_,_,_,_,o,_,_,e,ex,_⟩:=I.hok p _ hk
     exact⟨o,e,ex⟩
   obtain⟨o,e,ex⟩:=z
   refine⟨⟨o,e,ex.1⟩,fun a e2=>?_⟩
   cases e2
   exact⟨o,e,ex.2.1⟩
  ·obtain⟨o,_,_,_,e,ex,_⟩:=I.hok p _ hk
   refine⟨⟨o,e,ex.1⟩,fun a e2=>?_⟩
   cases e2
   exact⟨o,e,ex.2.1⟩
 |_=>exact False.elim ty
variable{o e:Expr}{es:List Expr}{to:TE}{t:TA}{name:Str}{apos cpos:Pos}{T id:String}{r:V->List V->Hp->VK->Prop}
/- xs.append(e),list.index on a module's tuple .. are MtR facts of 06m -/
end
def IR(X:Cx)(id:String)(r:V->List V->Hp->VK->Prop):Prop:=
 ∀(pins:List (Addr×Obj)) (s:Shared) (σ:St) (H:Hp) (x:V) (xs:List V) (v:Value) (us:List Value) (Q:VK),Inv X pins σ H s->RelV x v->Vals xs us->r x xs H Q->
  wpAny (model X.prog X.w) X.A (call (.builtin id) (v::us)) (EP X pins σ Q) X.xe s
theorem Vals.one:∀{x:V} {us:List Value},Vals [x] us->∃u,us=[u]/\RelV x u
 |_,_,.cons r .nil=>⟨_,rfl,r⟩
theorem Vals.two:∀{x y:V} {us:List Value},Vals [x,y] us->∃u v,us=[u,v]/\RelV x u/\RelV y v
 |_,_,_,.cons r (.cons q .nil)=>⟨_,_,rfl,r,q⟩
theorem Vals.rep{xs:List V}{us:List Value}(h:Vals xs us):∀k:Nat,Vals (List.replicate k xs).flatten (List.replicate k us).flatten
 |0=>.nil
 |k+1=>by
  rw[List.replicate_succ,List.replicate_succ,List.flatten_cons,List.flatten_cons]
  exact Vals.append h (Vals.rep h k)
section
variable{X:Cx}{pins:List (Addr×Obj)}{σ:St}{H:Hp}{s:Shared}{l b:Addr}{xs ys zs:List V}
theorem Inv.lset{its its':List Value}{n:Nat}{f:Array Value->Array Value}{t':Nat}(I:Inv X pins σ H s)(hH:H l=some (.lst xs))
  (e:s.heap.get? l=some {cls:=.type "list",data:=.seq its.toArray n}) (hf:f its.toArray=its'.toArray) (hv:Vals ys its') (hz:ys.length<=sizeLine):
  Inv X pins σ (upd H l (.lst ys)) {s with heap:=s.heap.update l (Obj.mapSeq f),toks:=t'}:=by
 have q:=PySem.IsL.update e f
 rw[hf]at q
 refine I.write (x:=l) (e:=l) (by rw[hH];exact trivial) (.inl rfl) (fun b' u hb hu=>(bF s.heap (Obj.mapSeq f) (cX hb)).trans hu) ⟨_,q⟩ ?_
 exact⟨hz,its',_,hv,q⟩
theorem Inv.lnew{its:List Value}{t':Nat}(I:Inv X pins σ H s)(hv:Vals ys its)(hz:ys.length<=sizeLine):
  Inv X pins σ (upd H s.heap.objs.size (.lst ys)) {s with heap:=s.heap.push {cls:=.type "list",data:=.seq its.toArray},toks:=t'}:=
 I.laid (fun _ _ q=>af _ q) (ai _) ⟨hz,its,0,hv,aI _ rfl⟩
theorem Inv.fresh(I:Inv X pins σ H s):H s.heap.objs.size=none:=I.hok.fresh (ai _)
theorem Inv.lstM(I:Inv X pins σ H s)(hH:H l=some (.lst xs)):xs.length<=sizeLine/\∃(its:List Value) (n:Nat),Vals xs its/\xs.length=its.length/\s.heap.get? l=some {cls:=.type "list",data:=.seq its.toArray n}:=by
 obtain⟨z,its,n,r,e⟩:=I.hok l _ hH
 exact⟨z,its,n,r,r.length,e⟩
theorem ES{n:Nat}(h:n<=sizeLine):Builtin.List.listTooLong n=false:=by
 unfold Builtin.List.listTooLong
 exact aJ (by lia)
end
section
variable{X:Cx}
def yI:V->List V->Hp->VK->Prop:=fun x vs H Q=>∃l xs y,x= .ref l/\vs=[y]/\H l=some (.lst xs)/\xs.length<sizeLine/\Q .non (upd H l (.lst (xs++[y])))
theorem Am:IR X "list.append" yI:=by
 intro pins s σ H x vs v us Q I rx rv h
 obtain⟨l,xs,y,rfl,rfl,hH,hz,q⟩:=h
 cases rx
 obtain⟨u,rfl,ru⟩:=rv.one
 obtain⟨z,its,n,r,hl,e⟩:=I.lstM hH
 refine call_meets F.slot_list_append ⟨_,e,rfl⟩ F.entry_list_append (F.args_list_append_2 _ _) (PySem.list_append l its.toArray n u (by rw[ah];lia)) ⟨e,?_⟩
 refine⟨.non,_,I.lset (its':=its++[u]) hH e (by simp) (r.append (.cons ru .nil)) ?_,rfl,q⟩
 rw[aB,List.length_singleton]
 lia
def CG:R2:=fun x y H Q=>∃l b xs zs,x= .ref l/\y= .ref b/\H l=some (.lst xs)/\H b=some (.lst zs)/\xs.length+zs.length<=sizeLine/\∀p,H p=none->Q (.ref p) (upd H p (.lst (xs++zs)))
theorem Dc:OpR X (binaryOp .Add) CG:=by
 intro pins s σ H x y v u Q I rx ry h
 obtain⟨l,b,xs,zs,rfl,rfl,hH,hB,hz,q⟩:=h
 cases rx
 cases ry
 obtain⟨z,its,n,r,hl,e⟩:=I.lstM hH
 obtain⟨z2,its2,n2,r2,hl2,e2⟩:=I.lstM hB
 refine PySem.P.add_list e e2 ?_ (by rw[ah,ah];lia)
 have ea:its.toArray++its2.toArray=(its++its2).toArray:=by simp
 rw[ea]
 exact⟨.ref _,_,I.lnew (t':=s.toks) (r.append r2) (by rw[aB];lia),rfl,q _ I.fresh⟩
end
section
variable{prog:Program}{w:World}{A:Around}{E:Value->Shared->Prop}{s:Shared}
end
section
variable{X:Cx}
end
end L2
namespace Att
open PySem PySem.W PySem.Calls PyProof.Rows
theorem Hx{P:Params}{h:Heap}:∀(ns:List Int) (vs:List Value),WellAll P h vs (ns.map WData.int)->IntsAre vs ns:=by
 intro ns
 induction ns with
 |nil=>
  intro vs w
  rw[cD]at w
  cases w
  exact .nil
 | cons n ns ih=>
  intro vs w
  rw[ag]at w
  cases w with
  |cons a b=>
   cases a
   exact .cons _ _ (ih _ b)
theorem F6{l:OpenLaw}{n:Nat}(hn:l.most=some n){P:Params}{h:Heap}{args:List WData}{vals:List Value}
  (hpre:l.row.toRowW.claim.pre args=true) (hwl:WellAll P h vals args):
  ∃a vs ns,vals=[Value.ref a]/\args=[WData.list (ns.map WData.int)]/\h.get? a=some {cls:=.type "list",data:=.seq vs.toArray}/\IntsAre vs ns/\ns.length<=n:=by
 have hsh:WShape.hasAll [] args [.list .int]=true:=(pre_splitW hpre).1
 have hc:l.pre.holds [] {args:=args}=true:=(pre_splitW hpre).2
 obtain⟨d,r,rfl,h1,h2⟩:=hasAllW_cons hsh
 obtain rfl:=hasAllW_nil h2
 obtain⟨xs,rfl,h3⟩:=hasW_list h1
 obtain⟨ns,rfl⟩:=items_int h3
 have hlen:ns.length<=n:=by
  unfold OpenLaw.pre at hc
  have h4:(WTm.not (.lt (.lit (.int (n:Int))) (.len (.arg 0)))).holds [] {args:=[.list (ns.map .int)]}=true:=by
   have h4:=(holds_andW hc).1
   rw[hn]at h4
   exact h4
  have h5:=condW_of h4 (w_not (w_lt w_lit (w_len_list (w_arg rfl))))
  rw[ae]at h5
  refine Nat.le_of_not_lt fun q=>?_
  have q':(n:Int)<((ns.length:Nat):Int):=by lia
  first
   |(rw[aG q']at h5;exact absurd h5 (by decide))
   |(simp at h5;lia)
 cases hwl with
 |cons w1 w2=>
  cases w2
  cases w1 with
  |list ho hall=>exact⟨_,_,ns,rfl,rfl,ho,Hx ns _ hall,hlen⟩
theorem F4(l:OpenLaw)(args:List WData):l.row.toRowW.claim.post args (.bool true) args=true:=
 postW_of (r:=l.row.toRowW) (X:=(true==true))
  (show WShape.has [] (.bool true) .bool=true by first|rfl|decide|simp[WShape.has,WShape.arms,WShape.armsAll])
  (show(WTm.eq .res (.lit (.bool true))).value [] {args:=args,res:=some (.bool true),after:=args}=some (.bool (true==true))from w_eq_bool (w_res rfl) w_lit) rfl
theorem IF{l:OpenLaw}{n:Nat}{q:Program}{loose:List Str}{XP:(Str->Option Value)->Heap->Prop}{YP:World->Heap->Prop}{d:DefRec}
  (hn:l.most=some n) (hdf:d.params.defaults=[])
  (call:∀(w:World) (s₀ s₁:Shared) (mg mb:Str->Option Value) (fa:Addr) (o:Obj) (pm cd doc:Value) (a:Addr) (vs:List Value) (ns:List Int),
   Ground q loose [] XP w s₀ mg mb s₁.heap->YP w s₁.heap->
   s₁.heap.get? fa=some o->o.data= .func (docDef d.name d.params d.body d.scope pm cd doc)->s₁.heap.CodeRec cd d.name->mg d.name=some (.ref fa)->
   s₁.heap.get? a=some {cls:=.type "list",data:=.seq vs.toArray}->IntsAre vs ns->ns.length<=n->s₁.gens= #[]->
   codeAny (model l.prog w) callerA (.call (.ref fa) ⟨[.ref a],[]⟩) (fun r s'=>r= .ok (.ret (.bool true))/\OldK s₁.heap s'.heap/\s'.os=s₁.os/\AllBare s'.gens) s₁):
  WalkO q loose XP YP l.row.toRowW d [] (fun f vs=>PySem.call f vs):=by
 intro w s₀ s₁ mg mb G Y fa o pm cd doc dV kV ho hd hcd hD hmg hg args vals as hpre hlay hrd hwl hlo
 obtain rfl:dV= .none:=Dflts.none hD hdf
 obtain rfl:kV= .none:=Dflts.noKw hD
 obtain⟨a,vs,ns,rfl,rfl,hobj,hints,hlen⟩:=F6 hn hpre hwl
 refine enter_call (gH (call w s₀ s₁ mg mb fa o pm cd doc a vs ns G Y ho (fd_plain hd) hcd hmg hobj hints hlen hg) fun r s' hq=>?_)
 obtain⟨rfl,h2,h3,h4⟩:=hq
 exact⟨.inl ⟨.bool true,.bool true,[],rfl,fun _=>rfl,.bool true,F4 l _,fun _=>⟨List.Pairwise.nil,fun _ hm=>(nomatch hm)⟩⟩,h2,h3,h4⟩
section
variable{prog:Program}{w:World}{A:Around}{E:Value->Shared->Prop}{s:Shared}{K:Frag}
end
end Att
namespace L2
open PySem PySem.Spec PyProof.Rows
theorem vw:∀{vs:List Value} {ns:List Int},IntsAre vs ns->Vals (ns.map V.int) vs
 |_,_,.nil=>.nil
 |_,_,.cons n t h=>.cons ⟨t,rfl⟩ (vw h)
def sS(H:Hp):Prop:=∀b,H b=none\/∃o xs,H b=some (.frz o (.lst xs))
theorem EH{P:Program}{w:World}{K:PySem.W.Frag}{mg mb:Str->Option Value}{CX:k9}{k:Nat}{fa a:Addr}{fd:FuncData}{x:Str}{sp:Sp}{s₁:Shared}{vs:List Value}{ns:List Int}
  (KX:K.In s₁.heap) (hns:s₁.heap.Ns mainGlobals mg) (hb:s₁.heap.Ns builtinsNs mb) (hbb:∀x:Str,x≠"__name__"->mb x=bootBuiltins x) (hlim:s₁.heap.NoLimit) (hg:s₁.gens= #[])
  (ha:s₁.heap.get? a=some {cls:=.type "list",data:=.seq vs.toArray}) (hi:IntsAre vs ns) (hl:ns.length<=sizeLine) (hr:Room k callerA)
  (F:∀base:Heap,K.In base->base.Ns mainGlobals mg->FnOk P w K mg base CX k fa fd [x] sp) (hbind:∀(s:Shared) (u:Value),BindsTo s fd ⟨[u],[]⟩ [(x,u)])
  (hsp:∀H:Hp,sS H->SqL K H a (ns.map V.int)->sp [.ref a] H (fun v _=>v= .bl true) fun _ _ _=>False)
  (hCX:∀H e s',CX [] H s₁ (fun _ _ _=>False) e s'->False):
  codeAny (model P w) callerA (.call (.ref fa) ⟨[.ref a],[]⟩) (fun r s'=>r= .ok (.ret (.bool true))/\OldK s₁.heap s'.heap/\s'.os=s₁.os/\AllBare s'.gens) s₁:=by
 have rv:=vw hi
 have lenV:=hi.length
  -- from an abstract heap in which nothing but the script may be tracked
 have core:∀H:Hp,sS H->SqL K H a (ns.map V.int)->HOk P w H s₁.heap->(∀b,H b≠none->b=a)->(H a≠none->K.lookup a=none)->
   codeAny (model P w) callerA (.call (.ref fa) ⟨[.ref a],[]⟩) (fun r s'=>r= .ok (.ret (.bool true))/\OldK s₁.heap s'.heap/\s'.os=s₁.os/\AllBare s'.gens) s₁:=by
  intro H hO hS hok hA hK
  have base_of:∀{b:Addr} {o:Obj},s₁.heap.get? b=some o->H b=none->(mU s₁.heap H).get? b=some o:=fun e n=>ED e n
  have noA:∀{b:Addr} {o:Obj} {es:Array DictEntry} {ep:Nat},s₁.heap.get? b=some o->o.data= .dict es ep->H b=none:=fun{b o es ep} e d=>by
   cases q:H b with
   |none=>rfl
   |some u=>
    have e':b=a:=hA b (by rw[q];simp)
    subst e'
    rw[ha]at e;cases e
    have d':Data.seq vs.toArray _=Data.dict es ep:=d
    cases d'
  have nsK:∀{b:Addr} {m:Str->Option Value},s₁.heap.Ns b m->(mU s₁.heap H).Ns b m:=fun{b m} ⟨o,es,ep,e,d,r⟩=>⟨o,es,ep,base_of e (noA e d),d,r⟩
  have hKb:K.In (mU s₁.heap H):=fun b o e=>base_of (KX b o e) (by
   cases q:H b with
   |none=>rfl
   |some u=>
    have e':b=a:=hA b (by rw[q];simp)
    subst e'
    rw[hK (by rw[q];simp)]at e;cases e)
  have hM:Mod K mg (mU s₁.heap H):=⟨hKb,nsK hns,⟨mb,nsK hb,hbb⟩,let⟨mc,h1,h2⟩:=hlim;⟨mc,nsK h1,h2⟩⟩
  have e0:Env0 P w K mg (mU s₁.heap H) callerA [] s₁ H:=⟨rfl,hM,fun b o e=>DU e,Nat.le_of_eq (FI _ _),trivial,fun b hb=>absurd (show b∈([]:List Addr)from hb) (by simp),hok,.of_eq hg⟩
  refine gH ((F _ hKb (nsK hns)).run callerA [] s₁ H ⟨[.ref a],[]⟩ [.ref a] [.ref a] _ _ hr e0 (hbind s₁ (.ref a)) (.cons rfl .nil) (hsp H hO hS)) fun r s' h=>?_
  cases r with
  |error e=>exact(hCX H e s' h).elim
  | ok fl=>
   cases fl with
   |next=>exact False.elim h
   |brk=>exact False.elim h
   |cont=>exact False.elim h
   | ret u=>
    obtain⟨v,H',os,bare,un,hok',r',q⟩:=h
    have q':v= .bl true:=q
    subst q'
    obtain rfl:u=Value.bool true:=r'
    refine⟨rfl,OldK.of_keep fun b o e=>?_,os,bare⟩
    cases q:H b with
    |none=>exact un.keep b o e q (by intro z;exact absurd (show b∈([]:List Addr)from z) (by simp)) (by simp)
    | some u=>
     rcases hO b with z|⟨ob,xs,z⟩
     ·rw[q]at z;cases z
     ·have z2:=un.frzs b ob _ z
      obtain⟨e1,_⟩:=hok b _ z
      obtain⟨e2,_⟩:=hok' b _ z2
      rw[e]at e1;cases e1
      exact e2
 cases hk:K.lookup a with
 | some o=>
    -- the script is one of the module's own objects
  have e:=KX a o hk
  rw[ha]at e
  cases e
  refine core (fun _=>none) (fun _=>.inl rfl) (.inr ⟨_,vs.toArray,_,hk,rfl,rfl,rfl,by rw[ah,lenV];exact hl,by simpa using rv⟩) (fun b u z=>by have z':(none:Option HO)=some u:=z;cases z') (fun b z=>absurd rfl z) fun z=>absurd rfl z
 | none=>
  refine core (fun b=>if b=a then some (.frz {cls:=.type "list",data:=.seq vs.toArray} (.lst (ns.map V.int)))else none) (fun b=>?_) (.inl (.inr ⟨{cls:=.type "list",data:=.seq vs.toArray},aq rfl⟩)) (fun b u z=>?_) (fun b z=>?_) fun _=>hk
  ·by_cases hb:b=a
   ·exact .inr ⟨_,_,aq hb⟩
   ·exact .inl (ak hb)
  ·by_cases hb:b=a
   ·have z':=(aq hb).symm.trans z
    cases z'
    subst hb
    exact⟨ha,by rw[ae];exact hl,vs,_,rv,ha⟩
   ·have z':=(ak hb).symm.trans z
    cases z'
  ·by_cases hb:b=a
   ·exact hb
   ·exact absurd (ak hb) z
noncomputable abbrev BA{K:PySem.W.Frag}{h:Heap}(_:K.In h):PySem.W.Frag:=K
theorem zg{l:PySem.W.OpenLaw}{n k:Nat}{q:Program}{loose:List Str}{XP:(Str->Option Value)->Heap->Prop}{YP:World->Heap->Prop}{d:DefRec}{K:Params->PySem.W.Frag}{CX:World->k9}{sp:World->Sp}{x:Str}
    (hn:l.most=some n) (hn2:n<=sizeLine) (hdf:d.params.defaults=[]) (hr:Room k callerA)
    (hY:∀(w:World) (h:Heap),YP w h->(K w.params).In h)
    (F:∀(w:World) (mg:Str->Option Value) (fa:Addr) (h:Heap),(K w.params).In h->h.Ns mainGlobals mg->mg d.name=some (.ref fa)->
      ∃fd:FuncData,(∀(s:Shared) (u:Value),BindsTo s fd ⟨[u],[]⟩ [(x,u)])/\
        ∀base:Heap,(K w.params).In base->base.Ns mainGlobals mg->FnOk l.prog w (K w.params) mg base (CX w) k fa fd [x] (sp w))
    (hsp:∀(w:World) (H:Hp) (a:Addr) (ns:List Int),ns.length<=n->sS H->SqL (K w.params) H a (ns.map V.int)->sp w [.ref a] H (fun v _=>v= .bl true) fun _ _ _=>False)
    (hCX:∀(w:World) (H:Hp) (s:Shared) (e:Value) (s':Shared),CX w [] H s (fun _ _ _=>False) e s'->False):
    PySem.W.WalkO q loose XP YP l.row.toRowW d [] (fun f vs=>PySem.call f vs):=by
  refine Att.IF hn hdf fun w s₀ s₁ mg mb fa o pm cd doc a vs ns G Y ho hd hcd hmg hobj hints hlen hg=>?_
  have KX:=hY w _ Y
  obtain⟨fd,hb,hF⟩:=F w mg fa _ KX G.T.g hmg
  exact EH KX G.T.g G.T.b G.T.builtins G.T.nolimit hg hobj hints (bD hlen hn2) hr hF hb (fun H hO hS=>hsp w H a ns hlen hO hS) fun H e s'=>hCX w H s₁ e s'
end L2
/- THE LAST THEOREM (shape;LID,My.*are yours):
   My.Adr:a structure of the addresses that your layer names (classes,functions);My.Txt K t:a structure (Prop) of the equations over K;
   My.txt_mk:{K} {implicit addresses ..} (e1:nsIn K mainGlobals "law"=some (some (.ref f))) (e2:K.lookup f=some ⟨oc,od,.func (fnOf "law" "law" params body scope dV kV doc pm an cdv ct),sl⟩) (e3:codeIn K cdv "law"=true) ..:∃t,My.Txt K t
set_option maxRecDepth 100000 in
set_option maxHeartbeats 0 in
theorem PySem.Challenge.cw_LID_holds:PySem.Challenge.rw_LID.Holds:=by
 w_on;o_law;k_head;(case hw=>w_witness2)
 k_fill
 refine L2.zg (l:=PySem.Challenge.rw_LID) (n:=63) (k:=40) (x:="script") (CX:=fun w=>..) (sp:=fun _=>My.sp_law) rfl (by decide) rfl ⟨rfl,by decide,by decide⟩ (fun w h Y=>PySem.W.kIn_of Y) ?F ?S ?C
 case F=>
  intro w mg fa h KX G hmg
  have T:∃t,My.Txt (L2.BA KX) t:=by
   dsimp only[L2.BA]                          -- K must stand as «<heap const>w.params» for k_is
   refine' My.txt_mk ?e1 ?e2 ?e3 ..
   (case e1=>PySem.W.k_is)                    -- in the order:a name->its address->its object->its parts
   (case e2=>PySem.W.k_is)
   ..
  obtain⟨t,T⟩:=T
  have e0:=hmg.symm.trans (cL KX G T.law)
  cases e0                                       -- fa is the law's own address
  exact⟨_,fun s u=>.of_eq rfl,fun base kb nb=>My.law_fn T kb nb⟩     -- if «.of_eq rfl» comes too early:refine' ⟨_,?b,fun base kb nb=>My.law_fn T kb nb⟩;exact fun s u=>.of_eq rfl
 case S=>exact fun w H a ns hl hO hS=>..
 case C=>exact ..
(the tactic k_is has no namespace:write k_is) -/
namespace L2
open PySem PySem.Spec PyProof.Rows
noncomputable def nT(s:Stmt):Arguments:=match s with
 | .FunctionDef _ a _ _ _ _ _ _ _ _=>a
 |_=>{posonlyargs:=[],args:=[],vararg:=none,kwonlyargs:=[],kw_defaults:=[],kwarg:=none,defaults:=[]}
noncomputable def nr(s:Stmt):List Stmt:=match s with
 | .FunctionDef _ _ b _ _ _ _ _ _ _=>b
 |_=>[]
noncomputable def jb(s:Stmt):Scope:=match s with
 | .FunctionDef _ _ _ _ _ _ sc _ _ _=>sc
 |_=>{kind:=.function,names:=[],isGenerator:=false,isCoroutine:=false}
abbrev iK:k9:=fun _ _ _ _ _ _=>False
abbrev E0:XK:=fun _ _ _=>False
theorem iW{X:Cx}:mQ iK X E0:=fun _ _ _ _ _ _ _ h=>h.elim
structure Fun(K:PySem.W.Frag)(x qual:Str)(st:Stmt)(f:Addr)(fd:FuncData):Prop where
 ex:∃(oc:Value) (od:Option Addr) (kV doc pm:Value) (an:Option Addr) (cdv ct:Value) (osl:Array (Option Value)),
  fd=PySem.W.fnOf x qual (nT st) (nr st) (jb st) .none kV doc pm an cdv ct/\K.lookup f=some ⟨oc,od,.func fd,osl⟩/\PySem.W.codeIn K cdv qual=true
 kp:PySem.W.keepIn K (.ref f)=true
section
variable{P:Program}{w:World}{K:PySem.W.Frag}{mg:Str->Option Value}{base:Heap}
theorem Fun.ok{x qual:Str}{st:Stmt}{f:Addr}{fd:FuncData}{N ps:List Str}{k:Nat}{sp:Sp}(F:Fun K x qual st f fd)(S:FnScope N ps (jb st))(len:∀vs H Q E,sp vs H Q E->vs.length=ps.length)
  (hbody:∀(cdv:Value) (A:Around) (outer:List Env) (s:Shared) (H:Hp) (vs:List V) (Q:VK) (E:XK),Room k (A.deeper (envOfC qual (jb st) s.heap.objs.size f cdv))->sp vs H Q E->
   ∃t,PSs (oW iK P w K mg base N qual (jb st) f cdv A outer s H E).nox (nr st) t/\t {nx:=fun _ H'=>Q .non H',rt:=Q} (mO N vs) H):FnOk P w K mg base iK (k+1) f fd ps sp:=by
 obtain⟨oc,od,kV,doc,pm,an,cdv,ct,osl,rfl,lk,hcd⟩:=F.ex
 refine Ih lk hcd S len fun A outer s H vs Q E hr hsp=>?_
 obtain⟨t,h,q⟩:=hbody cdv A outer s H vs Q E hr hsp
 exact⟨t,h.nox,q⟩
theorem xC{x qual:Str}{st:Stmt}{f:Addr}{oc:Value}{od an:Option Addr}{osl:Array (Option Value)}{kV doc pm cdv ct:Value}(l:K.lookup f=some ⟨oc,od,.func (PySem.W.fnOf x qual (nT st) (nr st) (jb st) .none kV doc pm an cdv ct),osl⟩)
  (c:PySem.W.codeIn K cdv qual=true) (k:PySem.W.keepIn K (.ref f)=true):Fun K x qual st f (PySem.W.fnOf x qual (nT st) (nr st) (jb st) .none kV doc pm an cdv ct):=⟨⟨oc,od,kV,doc,pm,an,cdv,ct,osl,rfl,l,c⟩,k⟩
end
theorem jh{A:Around}{k:Nat}(hr:Room k A):A.units+1<cLine:=Nat.lt_of_le_of_lt (Nat.add_le_add_left (by decide:1<=64) _) hr.units
section
variable{X:Cx}
end
theorem oa{c A B:Prop}[Decidable c](h1:c->A)(h2:¬c->B):if c then A else B:=by
 by_cases h:c
 ·rw[aq h]
  exact h1 h
 ·rw[ak h]
  exact h2 h
def Same(H H':Hp):Prop:=∀b o,H b=some o->H' b=some o
theorem Same.refl(H:Hp):Same H H:=fun _ _ h=>h
theorem Same.trans{H H1 H2:Hp}(a:Same H H1)(b:Same H1 H2):Same H H2:=fun c o h=>b c o (a c o h)
theorem Same.free{H H':Hp}(e:Same H H'){l:Addr}(h:H' l=Option.none):H l=Option.none:=by
 cases q:H l with
 |none=>rfl
 |some o=>
  rw[e l o q]at h
  cases h
end L2
set_option maxHeartbeats 8000000
namespace L2
open PySem PySem.Spec PyProof.Rows
section
variable{κ:Type}[DecidableEq κ]
noncomputable def i8(kvs:List (κ×V))(k:κ):Option V:=(kvs.find? fun kv=>decide (kv.1=k)).map (·.2)
noncomputable def jF(kvs:List (κ×V))(k:κ)(v:V):List (κ×V):=
 if(kvs.any fun kv=>decide (kv.1=k))=true then kvs.map (fun kv=>if kv.1=k then(kv.1,v)else kv)else kvs++[(k,v)]
theorem me{p:κ×V}{r:List (κ×V)}{k:κ}(e:p.1=k):i8 (p::r) k=some p.2:=by simp[i8,List.find?_cons,e]
theorem md{p:κ×V}{r:List (κ×V)}{k:κ}(e:¬p.1=k):i8 (p::r) k=i8 r k:=by simp[i8,List.find?_cons,e]
theorem qb(k:κ):∀kvs:List (κ×V),(kvs.any fun kv=>decide (kv.1=k))=(i8 kvs k).isSome
 |[]=>rfl
 |p::r=>by
  rw[List.any_cons]
  by_cases e:p.1=k
  ·simp only[me e,aG e,Bool.true_or,Option.isSome_some]
  ·rw[md e,aJ e,Bool.false_or];exact qb k r
theorem zS(k j:κ)(y:V):∀kvs:List (κ×V),i8 (kvs.map fun kv=>if kv.1=k then(kv.1,y)else kv) j=(i8 kvs j).map fun x=>if j=k then y else x
 |[]=>rfl
 | p::r=>by
  have ih:=zS k j y r
  rw[ag]
  by_cases h:p.1=k
  ·rw[aq h]
   by_cases e:p.1=j
   ·rw[me (p:=(p.1,y)) e,me e,Option.map_some,aq (e.symm.trans h)]
   ·rw[md (p:=(p.1,y)) e,md e,ih]
  ·rw[ak h]
   by_cases e:p.1=j
   ·rw[me (p:=p) e,me e,Option.map_some,ak (fun z=>h (e.trans z))]
   ·rw[md (p:=p) e,md e,ih]
theorem Ax(k j:κ)(y:V):∀kvs:List (κ×V),i8 kvs k=none->i8 (kvs++[(k,y)]) j=if j=k then some y else i8 kvs j
 |[],_=>by
  by_cases e:k=j
  ·rw[aq e.symm];exact me (p:=(k,y)) e
  ·rw[ak (fun z=>e z.symm)];exact md (p:=(k,y)) e
 |p::r,hn=>by
  rw[List.cons_append]
  have hk:¬p.1=k:=fun z=>by rw[me z]at hn;cases hn
  rw[md hk]at hn
  have ih:=Ax k j y r hn
  by_cases e:p.1=j
  ·rw[me e,me e,ak (fun z=>hk (e.trans z))]
  ·rw[md e,md e,ih]
theorem Fn(kvs:List (κ×V))(k j:κ)(y:V):i8 (jF kvs k y) j=if j=k then some y else i8 kvs j:=by
 unfold jF
 by_cases a:(kvs.any fun kv=>decide (kv.1=k))=true
 ·rw[aq a,zS]
  rw[qb]at a
  by_cases e:j=k
  ·obtain⟨x,hx⟩:=dQ.mp a
   rw[aq e,e,hx,Option.map_some,aq rfl]
  ·rw[ak e]
   cases i8 kvs j with
   |none=>rfl
   |some x=>rw[Option.map_some,ak e]
 ·rw[ak a]
  refine Ax k j y kvs ?_
  rw[qb]at a
  cases q:i8 kvs k with
  |none=>rfl
  |some x=>rw[q]at a;exact(a rfl).elim
theorem sk(kvs:List (κ×V))(k:κ)(v:V):(jF kvs k v).length<=kvs.length+1:=by
 unfold jF
 split
 ·rw[ae];lia
 ·rw[aB,List.length_cons,List.length_nil];lia
theorem Fd{kvs:List (κ×V)}{k:κ}(v:V)(h:i8 kvs k=none):jF kvs k v=kvs++[(k,v)]:=by
 unfold jF
 rw[qb,h]
 exact ak (by decide)
theorem RelO.isSome_eq{o:Option V}{u:Option Value}(r:RelO o u):o.isSome=u.isSome:=by
 cases o with
 |none=>cases u with
  |none=>rfl
  |some _=>exact(show False from r).elim
 |some _=>cases u with
  |none=>exact(show False from r).elim
  |some _=>rfl
theorem RelO.getD{o:Option V}{u:Option Value}{d:V}{d':Value}(r:RelO o u)(rd:RelV d d'):RelV (o.getD d) (u.getD d'):=by
 cases o with
 |none=>cases u with
  |none=>exact rd
  |some _=>exact(show False from r).elim
 |some _=>cases u with
  |none=>exact(show False from r).elim
  |some _=>exact r
theorem KV.val{kvs:List (κ×V)}{vs:List (κ×Value)}(r:KV kvs vs)(k:κ):RelO (i8 kvs k) (valueAt vs k):=by
 unfold KV at r
 induction r with
 |nil=>exact True.intro
 | @cons p q ps qs h t ih=>
  obtain⟨h1,h2⟩:=h
  by_cases e:p.1=k
  ·have e':q.1=k:=h1.symm.trans e
   have b:valueAt (q::qs) k=some q.2:=by simp[valueAt,List.find?_cons,e']
   rw[me e,b];exact h2
  ·have e':¬q.1=k:=fun z=>e (h1.trans z)
   have b:valueAt (q::qs) k=valueAt qs k:=by simp[valueAt,List.find?_cons,e']
   rw[md e,b];exact ih
theorem KV.any{kvs:List (κ×V)}{vs:List (κ×Value)}(r:KV kvs vs)(k:κ):(kvs.any fun kv=>decide (kv.1=k))=vs.any fun kv=>decide (kv.1=k):=by
 unfold KV at r
 induction r with
 |nil=>rfl
 |cons h t ih=>rw[List.any_cons,List.any_cons,ih,h.1]
theorem KV.repl{kvs:List (κ×V)}{vs:List (κ×Value)}(r:KV kvs vs)(k:κ){y:V}{u:Value}(ry:RelV y u):
  KV (kvs.map fun kv=>if kv.1=k then(kv.1,y)else kv) (vs.map fun kv=>if kv.1=k then(kv.1,u)else kv):=by
 unfold KV at r ⊢
 induction r with
 |nil=>exact .nil
 | @cons p q ps qs h t ih=>
  rw[ag,ag]
  refine .cons ?_ ih
  obtain⟨h1,h2⟩:=h
  by_cases e:p.1=k
  ·rw[aq e,aq (h1.symm.trans e)];exact⟨h1,ry⟩
  ·rw[ak e,ak (fun z=>e (h1.trans z))];exact⟨h1,h2⟩
theorem KV.put{kvs:List (κ×V)}{vs:List (κ×Value)}(r:KV kvs vs)(k:κ){y:V}{u:Value}(ry:RelV y u):KV (jF kvs k y) (stored vs k u):=by
 unfold jF stored
 rw[r.any k]
 by_cases e:(vs.any fun kv=>decide (kv.1=k))=true
 ·rw[aq e,aq e];exact r.repl k ry
 ·rw[ak e,ak e];exact Paired.snoc r ⟨rfl,ry⟩
theorem KV.keys{kvs:List (κ×V)}{vs:List (κ×Value)}(r:KV kvs vs):kvs.map (·.1)=vs.map (·.1):=by
 unfold KV at r
 induction r with
 |nil=>rfl
 |cons h t ih=>rw[ag,ag,ih,h.1]
theorem KV.length{kvs:List (κ×V)}{vs:List (κ×Value)}(r:KV kvs vs):kvs.length=vs.length:=aw r
end
theorem mL{P:Program}{w:World}{k:iF}{u:Value}(r:RelV (kV k) u):(jO P w).is k u=true:=by
 cases k with
 |inl i=>obtain⟨t,e⟩:=(show ∃t,u=Value.int i t from r);subst e;exact GP P w i t
 |inr x=>obtain⟨t,e⟩:=(show ∃t,u=Value.str x t from r);subst e;exact GQ P w x t
theorem Aj{P:Program}{w:World}:∀{ks:List iF} {us:List Value},Vals (ks.map kV) us->ItemsAre (jO P w) ks us
 |[],_,r=>by rw[cD]at r;cases r;exact .nil
 |k::ks,_,r=>by
  rw[ag]at r
  cases r with
  |cons h t=>exact .cons (mL h) (Aj t)
abbrev KT(H:Hp):List (List iF×V)->List (List iF×Addr×Value)->Prop:=Paired fun p q=>p.1=q.1/\H q.2.1=some (.tup (p.1.map kV))/\RelV p.2 q.2.2
theorem KT.val{H:Hp}{kvs:List (List iF×V)}{xs:List (List iF×Addr×Value)}(r:KT H kvs xs)(k:List iF):RelO (i8 kvs k) ((atKey xs k).map (·.2)):=by
 induction r with
 |nil=>exact True.intro
 | @cons p q ps qs h t ih=>
  obtain⟨h1,_,h2⟩:=h
  by_cases e:p.1=k
  ·have e':q.1=k:=h1.symm.trans e
   have b:atKey (q::qs) k=some q.2:=by simp[atKey,List.find?_cons,e']
   rw[me e,b];exact h2
  ·have e':¬q.1=k:=fun z=>e (h1.trans z)
   have b:atKey (q::qs) k=atKey qs k:=by simp[atKey,List.find?_cons,e']
   rw[md e,b];exact ih
theorem KT.repl{H:Hp}{kvs:List (List iF×V)}{xs:List (List iF×Addr×Value)}(r:KT H kvs xs)(k:List iF){y:V}{u:Value}(ry:RelV y u):
  KT H (kvs.map fun kv=>if kv.1=k then(kv.1,y)else kv) (xs.map (putAt k u)):=by
 induction r with
 |nil=>exact .nil
 | @cons p q ps qs h t ih=>
  rw[ag,ag]
  refine .cons ?_ ih
  obtain⟨h1,h2,h3⟩:=h
  unfold putAt
  by_cases e:p.1=k
  ·rw[aq e,aq (h1.symm.trans e)];exact⟨h1,h2,ry⟩
  ·rw[ak e,ak (fun z=>e (h1.trans z))];exact⟨h1,h2,h3⟩
theorem KT.put{H:Hp}{kvs:List (List iF×V)}{xs:List (List iF×Addr×Value)}(r:KT H kvs xs)(k:List iF){b:Addr}{y:V}{u:Value}(hb:H b=some (.tup (k.map kV)))(ry:RelV y u):
  KT H (jF kvs k y) (storedH xs k b u):=by
 have e:(kvs.any fun kv=>decide (kv.1=k))=(atKey xs k).isSome:=by
  rw[qb,(r.val k).isSome_eq,fe]
 unfold jF storedH
 rw[e]
 by_cases q:(atKey xs k).isSome=true
 ·rw[aq q,aq q];exact r.repl k ry
 ·rw[ak q,ak q];exact Paired.snoc r ⟨rfl,hb,ry⟩
theorem KT.keeps{H H':Hp}{kvs:List (List iF×V)}{xs:List (List iF×Addr×Value)}(r:KT H kvs xs)(ht:∀b ys,H b=some (.tup ys)->H' b=some (.tup ys)):KT H' kvs xs:=
 Paired.mapP r fun _ _ z=>⟨z.1,ht _ _ z.2.1,z.2.2⟩
section
variable{P:Program}{w:World}{H:Hp}{h:Heap}{a:Addr}
theorem xf{u:HO}(ok:HOk P w H h)(e:Rd H a u):jbp P w H h a u:=e.ok ok
theorem m8{kvs:List (iF×V)}(ok:HOk P w H h)(e:Rd H a (.dK kvs)):kvs.length<=sizeLine/\(a==sysModules)=false/\∃vs,KV kvs vs/\h.DictOf (jO P w) a vs:=
 show jbp P w H h a (.dK kvs)from xf ok e
theorem tF{kvs:List (iF×V)}(ok:HOk P w H h)(e:H a=some (.dK kvs)):kvs.length<=sizeLine/\(a==sysModules)=false/\∃vs,KV kvs vs/\h.DictOf (jO P w) a vs:=m8 ok (.inl e)
theorem nj{ks:List iF}(ok:HOk P w H h)(e:H a=some (.tup (ks.map kV))):(tupleKind (jO P w)).is h ks a:=by
 obtain⟨_,its,r,o,h1,h2,n,h3⟩:=(show jbp P w H h a (.tup (ks.map kV))from ok a _ e)
 exact⟨o,its.toArray,n,h1,h2,h3,by simpa using Aj r⟩
theorem m9{kvs:List (List iF×V)}(ok:HOk P w H h)(e:Rd H a (.dT kvs)):kvs.length<=sizeLine/\(a==sysModules)=false/\
  ∃xs,KT H kvs xs/\h.DictOfH (tupleKind (jO P w)) a xs:=by
 obtain⟨z,y,xs,r,o,es,ep,h1,h2,h3,h4,h5⟩:=(show jbp P w H h a (.dT kvs)from xf ok e)
 refine⟨z,y,xs,r,o,es,ep,h1,h2,h3,h4,fun x hx=>?_,h5⟩
 have all:∀{l:List (List iF×V)} {m:List (List iF×Addr×Value)},KT H l m->∀x∈m,(tupleKind (jO P w)).is h x.1 x.2.1:=by
  intro l m q
  induction q with
  |nil=>intro x hx;exact nomatch hx
  | @cons p q ps qs hq t ih=>
   intro x hx
   rcases aS.mp hx with e|hx
   ·subst e
    exact nj ok (by rw [<- hq.1]; exact hq.2.1)
   ·exact ih x hx
 exact all r x hx
theorem ID{kvs:List (List iF×V)}(ok:HOk P w H h)(e:H a=some (.dT kvs)):kvs.length<=sizeLine/\(a==sysModules)=false/\
  ∃xs,KT H kvs xs/\h.DictOfH (tupleKind (jO P w)) a xs:=m9 ok (.inl e)
end
def DGet(H:Hp)(a:Addr)(y:V)(r:Option V):Prop:=
 (∃kvs k,Rd H a (.dK kvs)/\y=kV k/\r=i8 kvs k)\/∃kvs k b,Rd H a (.dT kvs)/\y= .ref b/\H b=some (.tup (k.map kV))/\r=i8 kvs k
def DPut(H:Hp)(a:Addr)(y v:V)(H':Hp):Prop:=
 (∃kvs k,H a=some (.dK kvs)/\y=kV k/\kvs.length<sizeLine/\H'=upd H a (.dK (jF kvs k v)))\/
 ∃kvs k b,H a=some (.dT kvs)/\y= .ref b/\H b=some (.tup (k.map kV))/\kvs.length<sizeLine/\H'=upd H a (.dT (jF kvs k v))
theorem DGet.k{H:Hp}{a:Addr}{kvs:List (iF×V)}{k:iF}(e:H a=some (.dK kvs)):DGet H a (kV k) (i8 kvs k):=.inl ⟨kvs,k,.inl e,rfl,rfl⟩
theorem DGet.t{H:Hp}{a b:Addr}{kvs:List (List iF×V)}{k:List iF}(e:H a=some (.dT kvs))(eb:H b=some (.tup (k.map kV))):DGet H a (.ref b) (i8 kvs k):=.inr ⟨kvs,k,b,.inl e,rfl,eb,rfl⟩
theorem DPut.k{H:Hp}{a:Addr}{kvs:List (iF×V)}{k:iF}{v:V}(e:H a=some (.dK kvs))(hl:kvs.length<sizeLine):DPut H a (kV k) v (upd H a (.dK (jF kvs k v))):=.inl ⟨kvs,k,e,rfl,hl,rfl⟩
theorem DPut.t{H:Hp}{a b:Addr}{kvs:List (List iF×V)}{k:List iF}{v:V}(e:H a=some (.dT kvs))(eb:H b=some (.tup (k.map kV)))(hl:kvs.length<sizeLine):
  DPut H a (.ref b) v (upd H a (.dT (jF kvs k v))):=.inr ⟨kvs,k,b,e,rfl,eb,hl,rfl⟩
section
variable{X:Cx}{pins:List (Addr×Obj)}{σ:St}{H:Hp}{s:Shared}{a:Addr}{y v:V}{u r:Value}{o:Option V}{A:Around}{E:Value->Shared->Prop}
theorem Inv.big(I:Inv X pins σ H s):sysModules<s.heap.objs.size:=by
 have h:mainGlobals<s.heap.objs.size:=(I.mod.glob.keeps I.bk).lt
 exact Nat.lt_trans (by decide) h
theorem FA{Q:Value->Shared->Prop}(hu:A.units+1<cLine)(I:Inv X pins σ H s)(g:DGet H a y (some v))(ry:RelV y u)(h:∀w' s',Inv X pins σ H s'->RelV v w'->Q w' s'):
  wpAny (model X.prog X.w) A (getItem (.ref a) u) Q E s:=by
 rcases g with⟨kvs,k,e,ey,l⟩|⟨kvs,k,b,e,ey,eb,l⟩
 ·subst ey
  obtain⟨z,hd,vs,rel,dd⟩:=m8 I.hok e
  obtain⟨w',hw,rw'⟩:=RelO.some_of (v:=v) (o:=valueAt vs k) (by rw[l];exact rel.val k)
  exact wpAny_getItem_of (mL ry) dd.mapOf hw (h w' _ (I.tok _) rw')
 ·subst ey
  cases(show u=Value.ref b from ry)
  obtain⟨z,hd,xs,rel,dd⟩:=m9 I.hok e
  obtain⟨w',hw,rw'⟩:=RelO.some_of (v:=v) (o:=(atKey xs k).map (·.2)) (by rw[l];exact rel.val k)
  obtain⟨p,hp,hp2⟩:=dj.mp hw
  refine wpAny_getItem_heap (dh hu) (nj I.hok eb) dd hp ?_
  rw[hp2]
  exact h w' _ (I.tok _) rw'
theorem Iz{Q:Value->Shared->Prop}(hu:A.units+1<cLine)(I:Inv X pins σ H s)(g:DGet H a y o)(ry:RelV y u)(h:∀s',Inv X pins σ H s'->Q (.bool o.isSome) s'):
  wpAny (model X.prog X.w) A (compareOp .In u (.ref a)) Q E s:=by
 rcases g with⟨kvs,k,e,ey,l⟩|⟨kvs,k,b,e,ey,eb,l⟩
 ·subst ey
  obtain⟨z,hd,vs,rel,dd⟩:=m8 I.hok e
  refine wpAny_in_of (mL ry) hd dd.mapOf ?_
  rw [<- (rel.val k).isSome_eq,<- l]
  exact h _ (I.tok _)
 ·subst ey
  cases(show u=Value.ref b from ry)
  obtain⟨z,hd,xs,rel,dd⟩:=m9 I.hok e
  refine wpAny_in_heap (dh hu) (nj I.hok eb) hd dd ?_
  have q:=(rel.val k).isSome_eq
  rw[fe]at q
  rw [<- q,<- l]
  exact h _ (I.tok _)
theorem yn{Q:Value->Shared->Prop}(hu:A.units+1<cLine)(I:Inv X pins σ H s)(g:DGet H a y o)(ry:RelV y u)(h:∀s',Inv X pins σ H s'->Q (.bool (!o.isSome)) s'):
  wpAny (model X.prog X.w) A (compareOp .NotIn u (.ref a)) Q E s:=by
 rcases g with⟨kvs,k,e,ey,l⟩|⟨kvs,k,b,e,ey,eb,l⟩
 ·subst ey
  obtain⟨z,hd,vs,rel,dd⟩:=m8 I.hok e
  refine wpAny_notIn_of (mL ry) hd dd.mapOf ?_
  rw [<- (rel.val k).isSome_eq,<- l]
  exact h _ (I.tok _)
 ·subst ey
  cases(show u=Value.ref b from ry)
  obtain⟨z,hd,xs,rel,dd⟩:=m9 I.hok e
  refine wpAny_notIn_heap (dh hu) (nj I.hok eb) hd dd ?_
  have q:=(rel.val k).isSome_eq
  rw[fe]at q
  rw [<- q,<- l]
  exact h _ (I.tok _)
theorem uz{h':Heap}{t':Nat}{ob:HO}(I:Inv X pins σ H s)(mu:qr (H a))(hs:Heap.SameBut a s.heap h')(he:∃q,h'.get? a=some q)(new:jbp X.prog X.w (upd H a ob) h' a ob):
  Inv X pins σ (upd H a ob) {s with heap:=h',toks:=t'}:=
 I.write (x:=a) (e:=a) mu (.inl rfl) (fun b q hb z=>(hs.2 b hb).trans z) he new
theorem tW{P:Program}{w:World}{H':Hp}{h':Heap}{kvs:List (iF×V)}{vs:List (iF×Value)}(z:kvs.length<=sizeLine)(hd:(a==sysModules)=false)(rel:KV kvs vs)(dd:h'.DictOf (jO P w) a vs):
  jbp P w H' h' a (.dK kvs):=⟨z,hd,vs,rel,dd⟩
theorem FB{H':Hp}{Q:Unit->Shared->Prop}(hu:A.units+1<cLine)(I:Inv X pins σ H s)(g:DPut H a y v H')(ry:RelV y u)(rv:RelV v r)(h:∀s',Inv X pins σ H' s'->Q () s'):
  wpAny (model X.prog X.w) A (setItem (.ref a) u r) Q E s:=by
 rcases g with⟨kvs,k,e,ey,l,eH⟩|⟨kvs,k,b,e,ey,eb,l,eH⟩
 ·subst ey eH
  obtain⟨z,hd,vs,rel,dd⟩:=tF I.hok e
  have hz:vs.length <= sizeLine:=by rw [<- rel.length]; exact z
  have hl:(jF kvs k v).length<=sizeLine:=by have:=sk kvs k v;lia
  refine wpAny_setItem_pairs (hsz:=hz) (mL ry) dd fun h' dd' hs=>h _ ?_
  have he:∃q,h'.get? a=some q:=let⟨q,_,_,hq,_⟩:=dd';⟨q,hq⟩
  exact uz I (by rw[e];exact True.intro) hs he (tW hl hd (rel.put k rv) dd')
 ·subst ey eH
  cases(show u=Value.ref b from ry)
  obtain⟨z,hd,xs,rel,dd⟩:=ID I.hok e
  have hz:xs.length <= sizeLine:=by rw [<- aw rel]; exact z
  have hl:(jF kvs k v).length<=sizeLine:=by have:=sk kvs k v;lia
  refine wpAny_setItem_heap (hsz:=hz) (dh hu) (nj I.hok eb) dd fun h' dd' hs=>h _ ?_
  obtain⟨q,es,ep,hq,h2,h3,h4,_,h5⟩:=dd'
  refine uz I (by rw[e];exact True.intro) hs ⟨q,hq⟩ ⟨hl,hd,_,(rel.put k eb rv).keeps fun c ys ec=>?_,q,es,ep,hq,h2,h3,h4,h5⟩
  rw[iL (nO ec e (fun z=>nomatch z))]
  exact ec
end
section
variable{X:Cx}{pins:List (Addr×Obj)}{σ:St}{H:Hp}{s:Shared}{a:Addr}{kvs:List (iF×V)}{k:iF}{u:Value}{A:Around}{E:Value->Shared->Prop}
end
def By(i:Expr):Prop:=∀ov iv,subscripted i false ov iv=operate [ov,iv] (getItem ov iv)
theorem Ed{prog:Program}{w:World}{A:Around}{E:Value->Shared->Prop}{s:Shared}{env:Env}{value slice:Expr}{pos:Pos}{T id:String}{Q:Value->Shared->Prop}
  (hl:typeLookup (.type T) "__getitem__"=pure (some (.builtin id))) (hs:By slice)
  (h:wpAny (model prog w) A (eval value env) (fun o s₁=>wpAny (model prog w) A (eval slice env) (fun i s₂=>s₂.TypeIs o T/\wpAny (model prog w) A (getItem o i) Q E s₂) E s₁) E s):
  wpAny (model prog w) A (eval (.Subscript value slice pos) env) Q E s:=by
 refine gr (cW h (fun o s₁ h₁=>cW h₁ (fun i s₂ h₂=>?_) fun _ _ x=>x) fun _ _ x=>x)
 obtain⟨hT,h₂⟩:=h₂
 unfold subscriptTail
 refine aa ?_
 rw[getitemInPython_of_ne hT.not_modules]
 refine aa (wpAny_specialOf hT hl ?_)
 have fin:wpAny (model prog w) A (subscripted slice false o i) (fun r s₃=>wpAny (model prog w) A (letTemporaryGo value o r>>=fun _=>pure r) Q E s₃) E s₂:=by
  rw[hs o i]
  exact wpAny_operating (cW h₂ (fun r s₃ h₃=>aa (wpAny_letTemporaryGo (ao h₃))) fun _ _ x=>x)
 first
  |exact ao (aa fin)
  |exact aa (ao (aa fin))
  |exact aa fin
theorem GO{X:Cx}{pins:List (Addr×Obj)}{σ:St}{H:Hp}{s:Shared}{a:Addr}{y:V}{o:Option V}(I:Inv X pins σ H s)(g:DGet H a y o):s.TypeIs (.ref a) "dict":=by
 rcases g with⟨kvs,k,e,_,_⟩|⟨kvs,k,b,e,_,_,_⟩
 ·obtain⟨_,_,vs,_,dd⟩:=m8 I.hok e
  exact dd.typeIs
 ·obtain⟨_,_,xs,_,dd⟩:=m9 I.hok e
  exact dd.typeIs
def y4(ty td:TE):TE:=fun σ H Q=>ty σ H fun y H1=>td σ H1 fun x H2=>∃a o,x= .ref a/\DGet H2 a y o/\Q (.bl (!o.isSome)) H2
section
variable{X:Cx}{o i e value:Expr}{pos pos' tpos:Pos}{td ty tv:TE}
theorem FZ(hu:X.A.units+1<cLine)(hi:PE X i ty)(ho:PE X o td):PC X .NotIn i o (y4 ty td):=by
 intro pins s σ H Q I h
 refine iJ (hi pins s σ H _ I h) fun iv s1 ⟨y,H1,I1,ry,q1⟩=>iJ (ho pins s1 σ H1 _ I1 q1) fun u s2 ⟨x,H2,I2,rx,a,ov,ex,g,q2⟩=>?_
 subst ex
 obtain rfl:u=Value.ref a:=rx
 exact yn hu I2 g ry fun s3 I3=>⟨.bl (!ov.isSome),H2,I3,rfl,q2⟩
end
theorem zo{P:Program}{w:World}{H:Hp}(h:Heap)(hb:sysModules<h.objs.size):jbp P w H (h.push {cls:=.type "dict",data:=.dict #[]}) h.objs.size (.dK []):=
 ⟨bj _,bO.mpr (cX (aP hb)),[],.nil,Heap.DictOf.new h⟩
def yc:TE:=fun _ H Q=>∀p,H p=none->Q (.ref p) (upd H p (.dK []))
section
variable{X:Cx}{pos:Pos}
theorem E4:PE X (.Dict [] [] pos) yc:=fun pins s σ H Q I h=>
 wpAny_Dict_empty ⟨.ref s.heap.objs.size,_,I.laid (a:=s.heap.objs.size) (o:=.dK []) (t':=s.toks) (fun _ _ q=>af _ q) (ai _) (zo s.heap I.big),rfl,h _ (I.hok.fresh (ai _))⟩
end
def ur:List (TE×TE)->St->Hp->(List (V×V)->Hp->Prop)->Prop
 |[],_,H,Q=>Q [] H
 |(tk,tv)::r,σ,H,Q=>tk σ H fun x H1=>tv σ H1 fun y H2=>ur r σ H2 fun ps H3=>Q ((x,y)::ps) H3
abbrev VV:List (V×V)->List (Value×Value)->Prop:=Paired fun p q=>RelV p.1 q.1/\RelV p.2 q.2
def sR(X:Cx)(pos:Pos)(keys:List (Option Expr))(values:List Expr)(trs:List (TE×TE)):Prop:=
 ∀(pins:List (Addr×Obj)) (s:Shared) (σ:St) (H:Hp) (Q:List (V×V)->Hp->Prop),Inv X pins σ H s->ur trs σ H Q->
  wpAny (model X.prog X.w) X.A (evalPairs (pairTrees keys values X.env pos)) (fun vs s'=>∃ps H',Inv X pins σ H' s'/\VV ps vs/\Q ps H') X.xe s
theorem D5{X:Cx}{pos:Pos}:sR X pos [] [] []:=fun pins s σ H Q I h=>pairTrees_nil_walk ⟨[],H,I,.nil,h⟩
theorem Fb{X:Cx}{pos:Pos}{k v:Expr}{ks:List (Option Expr)}{vs:List Expr}{tk tv:TE}{trs:List (TE×TE)}(hk:PE X k tk)(hv:PE X v tv)(hr:sR X pos ks vs trs):
  sR X pos (some k::ks) (v::vs) ((tk,tv)::trs):=fun pins s σ H Q I h=>
 pairTrees_cons_walk (iJ (hk pins s σ H _ I h) fun u s1 ⟨x,H1,I1,rx,q1⟩=>iJ (hv pins s1 σ H1 _ I1 q1) fun w2 s2 ⟨y,H2,I2,ry,q2⟩=>
  iJ (hr pins s2 σ H2 _ I2 q2) fun ws s3 ⟨ps,H3,I3,rel,q3⟩=>⟨(x,y)::ps,H3,I3,.cons ⟨rx,ry⟩ rel,q3⟩)
noncomputable def pL(kvs more:List (iF×V)):List (iF×V):=more.foldl (fun acc kv=>jF acc kv.1 kv.2) kvs
theorem KV.merge:∀{more:List (iF×V)} {rs:List (iF×Value)} {kvs:List (iF×V)} {vs:List (iF×Value)},KV more rs->KV kvs vs->KV (pL kvs more) (merged vs rs):=by
 intro more rs kvs vs r
 unfold KV at r
 induction r generalizing kvs vs with
 |nil=>intro q;exact q
 | @cons p q ps qs h t ih=>
  intro r0
  have e:KV (jF kvs p.1 p.2) (stored vs q.1 q.2):=by
   have:=r0.put p.1 h.2
   rw [<- h.1]; exact this
  exact ih e
theorem A5:∀(more kvs:List (iF×V)),(pL kvs more).length<=kvs.length+more.length
 |[],kvs=>by show kvs.length<=kvs.length+0;lia
 |p::r,kvs=>by
  have h1:=A5 r (jF kvs p.1 p.2)
  have h2:=sk kvs p.1 p.2
  show(pL (jF kvs p.1 p.2) r).length<=_
  rw[List.length_cons];lia
theorem AA{P:Program}{w:World}:∀{kvs:List (iF×V)} {ws:List (Value×Value)},VV (kvs.map fun kv=>(kV kv.1,kv.2)) ws->∃rs,Carries (jO P w) ws rs/\KV kvs rs
 |[],_,r=>by rw[cD]at r;cases r;exact⟨[],True.intro,.nil⟩
 | p::kvs,_,r=>by
  rw[ag]at r
  cases r with
  | @cons a b as bs h t=>
   obtain⟨rs,c,q⟩:=AA (P:=P) (w:=w) t
   obtain⟨b1,b2⟩:=b
   exact⟨(p.1,b2)::rs,⟨mL h.1,rfl,c⟩,.cons ⟨rfl,h.2⟩ q⟩
def BZ(trs:List (TE×TE)):TE:=fun σ H Q=>∀p,H p=none->ur trs σ (upd H p (.dK [])) fun ps H2=>H2 p=some (.dK [])/\∃kvs:List (iF×V),ps=kvs.map (fun kv=>(kV kv.1,kv.2))/\kvs.length<=15/\Q (.ref p) (upd H2 p (.dK (pL [] kvs)))
theorem D1{X:Cx}{pos:Pos}{keys:List (Option Expr)}{values:List Expr}{trs:List (TE×TE)}(h:sR X pos keys values trs)(hall:keys.all (·.isSome)=true)(hl:keys.length=values.length)(h0:keys≠[])
  (h15:keys.length<=15):PE X (.Dict keys values pos) (BZ trs):=by
 intro pins s σ H Q I q
 have hn:=I.hok.fresh (ai s.heap.objs.size)
 have I1:=I.laid (a:=s.heap.objs.size) (o:=.dK []) (h':=s.heap.push {cls:=.type "dict",data:=.dict #[]}) (t':=s.toks) (fun _ _ q=>af _ q) (ai _) (zo s.heap I.big)
 refine wpAny_Dict_walk (knd:=jO X.prog X.w) hall hl h0 h15 (iJ (h pins _ σ _ _ I1 (q _ hn)) fun ws s2 ⟨ps,H2,I2,rel,e,kvs,ep,lk,q2⟩=>?_)
 subst ep
 obtain⟨rs,c,rk⟩:=AA (P:=X.prog) (w:=X.w) rel
 obtain⟨z,hd,vs0,r0,dd⟩:=tF I2.hok e
 cases r0
 refine⟨rs,c,dd,fun h' dd' hs=>⟨.ref s.heap.objs.size,_,?_,rfl,q2⟩⟩
 have hz:(pL [] kvs).length<=sizeLine:=by
  have h1:=A5 kvs []
  rw[List.length_nil]at h1
  rw[fc];lia
 have he:∃q,h'.get? s.heap.objs.size=some q:=let⟨q,_,_,hq,_⟩:=dd';⟨q,hq⟩
 exact uz I2 (by rw[e];exact True.intro) hs he (tW hz hd (rk.merge .nil) dd')
structure M1(X:Cx)(o:Expr)(m:Str)(apos:Pos)(e:Expr)(cpos:Pos):Prop where
 base:attributeBase o m X.env (eval o X.env)=eval o X.env
 few:((backTo cpos (starEach [e] X.env)).all (fun x=>!x.1)&&(backToKw cpos (keywordEach [] X.env)).all (fun x=>x.1.isSome)
  &&decide (([e]:List Expr).length+([]:List Keyword).length+(if([]:List Keyword).isEmpty then 0 else 1)<30))=true
 line:(apos.endLine==cpos.line)=true
 trees:backTo cpos (starEach [e] X.env)=[(false,eval e X.env)]
structure M2(X:Cx)(o:Expr)(m:Str)(apos:Pos)(e f:Expr)(cpos:Pos):Prop where
 base:attributeBase o m X.env (eval o X.env)=eval o X.env
 few:((backTo cpos (starEach [e,f] X.env)).all (fun x=>!x.1)&&(backToKw cpos (keywordEach [] X.env)).all (fun x=>x.1.isSome)
  &&decide (([e,f]:List Expr).length+([]:List Keyword).length+(if([]:List Keyword).isEmpty then 0 else 1)<30))=true
 line:(apos.endLine==cpos.line)=true
 trees:backTo cpos (starEach [e,f] X.env)=[(false,eval e X.env),(false,eval f X.env)]
def IS(H:Hp)(a:Addr):Prop:=(∃kvs,Rd H a (.dK kvs))\/∃kvs,Rd H a (.dT kvs)
theorem xE{X:Cx}{pins:List (Addr×Obj)}{σ:St}{H:Hp}{s:Shared}{a:Addr}(I:Inv X pins σ H s)(d:IS H a):
  s.TypeIs (.ref a) "dict"/\(∀b,Value.ref a= .ref b->∃ob,s.heap.get? b=some ob/\ob.dict=none)/\(a==sysModules)=false:=by
 rcases d with⟨kvs,e⟩|⟨kvs,e⟩
 ·obtain⟨_,hd,vs,_,dd⟩:=m8 I.hok e
  refine⟨dd.typeIs,fun b q=>?_,hd⟩
  cases q
  obtain⟨ob,_,_,h1,h2,_⟩:=dd
  exact⟨ob,h1,h2.2.1⟩
 ·obtain⟨_,hd,xs,_,dd⟩:=m9 I.hok e
  refine⟨dd.typeIs,fun b q=>?_,hd⟩
  cases q
  obtain⟨ob,_,_,h1,h2,_⟩:=dd
  exact⟨ob,h1,h2.2.1⟩
section
variable{X:Cx}{pins:List (Addr×Obj)}{σ:St}{H:Hp}{s:Shared}{a:Addr}{y d:V}{u r:Value}{o:Option V}{A:Around}{E:Value->Shared->Prop}
theorem IB{Q:Value->Shared->Prop}(hu:A.units+1<cLine)(I:Inv X pins σ H s)(g:DGet H a y o)(ry:RelV y u)(h:∀w' s',Inv X pins σ H s'->RelV (o.getD .non) w'->Q w' s'):
  wpAny (model X.prog X.w) A (call (.builtin "dict.get") [.ref a,u]) Q E s:=by
 rcases g with⟨kvs,k,e,ey,l⟩|⟨kvs,k,b,e,ey,eb,l⟩
 ·subst ey
  obtain⟨z,hd,vs,rel,dd⟩:=m8 I.hok e
  refine gI cN dd.typeIs eg (PySem.F.args_dict_get_2 _ _) (meets_dict_get (jO X.prog X.w) a (mL ry) hd) ⟨_,dd.mapOf,h _ _ (I.tok _) ?_⟩
  rw[l]
  exact(rel.val k).getD rfl
 ·subst ey
  cases(show u=Value.ref b from ry)
  obtain⟨z,hd,xs,rel,dd⟩:=m9 I.hok e
  refine gI cN dd.typeIs eg (PySem.F.args_dict_get_2 _ _) (meetsH_dict_get (tupleKind (jO X.prog X.w)) a b hd) ⟨dh hu,k,xs,nj I.hok eb,dd,h _ _ (I.tok _) ?_⟩
  rw[l]
  exact(rel.val k).getD rfl
theorem IA{Q:Value->Shared->Prop}(hu:A.units+1<cLine)(I:Inv X pins σ H s)(g:DGet H a y o)(ry:RelV y u)(rd:RelV d r)(h:∀w' s',Inv X pins σ H s'->RelV (o.getD d) w'->Q w' s'):
  wpAny (model X.prog X.w) A (call (.builtin "dict.get") [.ref a,u,r]) Q E s:=by
 rcases g with⟨kvs,k,e,ey,l⟩|⟨kvs,k,b,e,ey,eb,l⟩
 ·subst ey
  obtain⟨z,hd,vs,rel,dd⟩:=m8 I.hok e
  refine gI cN dd.typeIs eg (PySem.F.args_dict_get_3 _ _ _) (meets_dict_get_default (jO X.prog X.w) a (mL ry) hd r) ⟨_,dd.mapOf,h _ _ (I.tok _) ?_⟩
  rw[l]
  exact(rel.val k).getD rd
 ·subst ey
  cases(show u=Value.ref b from ry)
  obtain⟨z,hd,xs,rel,dd⟩:=m9 I.hok e
  refine gI cN dd.typeIs eg (PySem.F.args_dict_get_3 _ _ _) (meetsH_dict_get_default (tupleKind (jO X.prog X.w)) a b hd r) ⟨dh hu,k,xs,nj I.hok eb,dd,h _ _ (I.tok _) ?_⟩
  rw[l]
  exact(rel.val k).getD rd
end
section
variable{X:Cx}{o e f:Expr}{apos cpos:Pos}{td ty tx:TE}
end
section
variable{X:Cx}{pins:List (Addr×Obj)}{σ:St}{H:Hp}{s:Shared}{a:Addr}{kvs:List (iF×V)}{A:Around}{E:Value->Shared->Prop}
end
section
variable{X:Cx}{pins:List (Addr×Obj)}{σ:St}{H:Hp}{s:Shared}{a:Addr}{y:V}{u:Value}{A:Around}{E:Value->Shared->Prop}
end
section
variable{κ:Type}[DecidableEq κ]
end
noncomputable def kx(env:Env):List (Str×NameKind)->List (Str×Addr)->List (Str×Addr)
 |[],acc=>acc
 |(n,k)::r,acc=>kx env r (if k== .free then(n,(env.cells.lookup n).getD 0)::acc else acc)
theorem A9{scope:Scope}{env:Env}(h:∀y∈scope.names,y.2= .free->∃c,env.cells.lookup y.1=some c):
    closureFor scope env=pure (kx env scope.names []):=by
  have key:∀(l:List (Str×NameKind)) (acc:List (Str×Addr)),(∀y∈l,y.2= .free->∃c,env.cells.lookup y.1=some c)->
      (forIn l acc fun(x:Str×NameKind) (r:List (Str×Addr))=>
        (if x.2 == NameKind.free then do
          let c <- cellOf env x.1
          pure (ForInStep.yield ((x.1,c)::r))
        else pure (ForInStep.yield r):Sem (ForInStep (List (Str×Addr)))))=pure (kx env l acc):=by
    intro l
    induction l with
    |nil=>intro acc _;rfl
    | cons y r ih=>
      intro acc hy
      obtain⟨n,k⟩:=y
      rw[h8]
      by_cases hk:k= .free
      · subst hk
        obtain⟨c,hc⟩:=hy (n,.free) aM rfl
        have e1:cellOf env n=pure c:=by unfold cellOf;rw[hc]
        simp only[fu,if_true]
        rw[e1]
        show(pure c>>=fun c=>pure (ForInStep.yield ((n,c)::acc)))>>=_=_
        have e2:kx env ((n,NameKind.free)::r) acc=kx env r ((n,c)::acc):=by
          have hc':env.cells.lookup n=some c:=hc
          show kx env r (if(NameKind.free==NameKind.free)=true then(n,(env.cells.lookup n).getD 0)::acc else acc)=_
          rw[hc']
          rfl
        rw[e2]
        exact ih _ fun z hz=>hy z (aF _ hz)
      · have hb:(k==NameKind.free)=false:=by simpa using hk
        simp only[hb,aW,if_false]
        have e2:kx env ((n,k)::r) acc=kx env r acc:=by
          show kx env r (if(k==NameKind.free)=true then _ else acc)=_
          rw[hb];rfl
        rw[e2]
        exact ih _ fun z hz=>hy z (aF _ hz)
  unfold closureFor
  have e:=key scope.names [] h
  have e3:∀ (f:Str × NameKind->List (Str × Addr)->Sem (ForInStep (List (Str × Addr)))),(f = fun x r=>(if x.2 == NameKind.free then do
          let c <- cellOf env x.1
          pure (ForInStep.yield ((x.1,c)::r))
        else pure (ForInStep.yield r)))->(forIn scope.names [] f>>=fun r=>pure r)=(pure (kx env scope.names []):Sem (List (Str×Addr))):=by
    intro f hf
    rw[hf,e]
    rfl
  exact e3 _ rfl
theorem A4{env:Env}{x:Str}:∀(l:List (Str×NameKind)) (acc:List (Str×Addr)) (c:Addr),(kx env l acc).lookup x=some c->
  ((∃y∈l,y.1=x/\y.2= .free)/\(env.cells.lookup x).getD 0=c)\/acc.lookup x=some c
 |[],acc,c,h=>.inr h
 | (n,k)::r,acc,c,h=>by
  rcases A4 r _ c h with⟨⟨y,hy,e⟩,q⟩|q
  ·exact .inl ⟨⟨y,aF _ hy,e⟩,q⟩
  ·by_cases hk:k= .free
   ·subst hk
    have q':List.lookup x ((n,(env.cells.lookup n).getD 0)::acc)=some c:=q
    rw[List.lookup_cons]at q'
    cases hx:x==n with
    |true=>
     rw[hx]at q'
     have hx':x=n:=by simpa using hx
     subst hx'
     exact .inl ⟨⟨_,aM,rfl,rfl⟩,az q'⟩
    |false=>rw[hx]at q';exact .inr q'
   ·have hb:(k==NameKind.free)=false:=by simpa using hk
    rw[hb]at q
    exact .inr q
theorem vA{env:Env}{x:Str}:∀(l:List (Str×NameKind)) (acc:List (Str×Addr)),((∃y∈l,y.1=x/\y.2= .free)\/(acc.lookup x).isSome)->((kx env l acc).lookup x).isSome
 |[],acc,h=>by
  rcases h with⟨y,hy,_⟩|h
  ·cases hy
  ·exact h
 | (n,k)::r,acc,h=>by
  show((kx env r (if(k==NameKind.free)=true then _ else acc)).lookup x).isSome
  refine vA r _ ?_
  rcases h with⟨y,hy,e1,e2⟩|h
  ·rcases aS.mp hy with rfl|hy
   ·have e2':k= .free:=e2
    have e1':n=x:=e1
    subst e2' e1'
    refine .inr ?_
    simp[List.lookup_cons]
   ·exact .inl ⟨y,hy,e1,e2⟩
  ·refine .inr ?_
   split
   ·rw[List.lookup_cons]
    split
    ·rfl
    ·exact h
   ·exact h
structure CpScope(X:Cx)(scope:Scope)(N:List Str)(src:List (Option Nat)):Prop where
 kind:scope.kind= .function
 nocell:∀y∈scope.names,y.2≠ .cell
 locs:∀y∈scope.names,y.2= .local->scope.names.lookup y.1=some .local
 frees:∀y∈scope.names,y.2= .free->scope.names.lookup y.1=some .free/\X.env.scope.names.lookup y.1=some .cell
 nd:N.Nodup
 len:src.length=N.length
 cap:∀(i j:Nat),src[i]? =some (some j)->X.N[j]? =N[i]?/\(N[i]?).elim False (fun x=>scope.names.lookup x=some .free)
noncomputable def sN(src:List (Option Nat))(σ:St):St:=src.map fun o=>o.bind fun j=>(σ[j]?).join
theorem Ba{env:Env}(hk:env.scope.kind= .function):∀{names:List (Str×NameKind)} {x:Str},names.lookup x=some .free->env.kindOf x=some .cell->
  (names.map fun(n,k)=>if(k==NameKind.free&&env.scope.kind== .function&&env.kindOf n==some .cell)then(n,NameKind.cell)else(n,k)).lookup x=some .cell
 |[],_,h,_=>by simp at h
 | (n,k)::r,x,h,hc=>by
  have ih:=@Ba env hk r x
  show List.lookup x ((if(k==NameKind.free&&env.scope.kind== .function&&env.kindOf n==some .cell)=true then(n,NameKind.cell)else(n,k))::_)=_
  cases hx:x==n with
  |true=>
   simp only[List.lookup_cons,hx]at h
   cases h
   have hx':x=n:=by simpa using hx
   subst hx'
   rw[aq (by rw[hk,hc];rfl)]
   simp[List.lookup_cons]
  |false=>
   simp only[List.lookup_cons,hx]at h
   by_cases hq:(k==NameKind.free&&env.scope.kind== .function&&env.kindOf n==some .cell)=true
   ·rw[aq hq];simp only[List.lookup_cons,hx];exact ih h hc
   ·rw[ak hq];simp only[List.lookup_cons,hx];exact ih h hc
theorem vM{env:Env}:∀{names:List (Str×NameKind)} {x:Str} {k':NameKind},
  (names.map fun(n,k)=>if(k==NameKind.free&&env.scope.kind== .function&&env.kindOf n==some .cell)then(n,NameKind.cell)else(n,k)).lookup x=some k'->
   names.lookup x=some k'\/(names.lookup x=some .free/\k'= .cell)
 |[],_,_,h=>by simp at h
 | (n,k)::r,x,k',h=>by
  have ih:=@vM env r x k'
  have h:List.lookup x ((if(k==NameKind.free&&env.scope.kind== .function&&env.kindOf n==some .cell)=true then(n,NameKind.cell)else(n,k))::_)=_:=h
  cases hx:x==n with
  | true=>
   by_cases hq:(k==NameKind.free&&env.scope.kind== .function&&env.kindOf n==some .cell)=true
   ·rw[aq hq]at h
    have h1:=h
    simp only[List.lookup_cons,hx]
    have:k= .free:=by
     have:=(cu _ _▸(cu _ _▸hq).1).1
     simpa using this
    subst this
    refine .inr ⟨rfl,?_⟩
    have h2:List.lookup x ((n,NameKind.cell)::(r.map fun(n,k)=>if(k==NameKind.free&&env.scope.kind== .function&&env.kindOf n==some .cell)then(n,NameKind.cell)else(n,k)))=some k':=h1
    simp only[List.lookup_cons,hx]at h2
    exact(az h2).symm
   ·rw[ak hq]at h
    simp only[List.lookup_cons,hx]at h ⊢
    exact .inl h
  | false=>
   have h':List.lookup x (r.map fun(n,k)=>if(k==NameKind.free&&env.scope.kind== .function&&env.kindOf n==some .cell)then(n,NameKind.cell)else(n,k))=some k':=by
    by_cases hq:(k==NameKind.free&&env.scope.kind== .function&&env.kindOf n==some .cell)=true
    ·rw[aq hq]at h
     simpa only[List.lookup_cons,hx]using h
    ·rw[ak hq]at h
     simpa only[List.lookup_cons,hx]using h
   simp only[List.lookup_cons,hx]
   exact ih h'
noncomputable def Cx.block(X:Cx)(scope:Scope)(N:List Str)(fp:List Addr)(s₀:Shared)(H₀:Hp)(C:Addr):Cx where
 prog:=X.prog
 w:=X.w
 K:=X.K
 mg:=X.mg
 base:=X.base
 A:=X.A
 N:=N
 s₀:=s₀
 H₀:=H₀
 env:=compEnvC scope (kx X.env scope.names []) C X.env
 outer:=X.stack
 stack:=X.stack
 ex:=fp
 calm:=X.calm
 fn:=fun _=>false
 pn:=[]
 xe:=fun _ _=>False
theorem FL{o:Option (Option V)}{v:V}(h:o.join=some v):o=some (some v):=by
 cases o with
 |none=>cases h
 |some z=>cases z with
  |none=>cases h
  |some z=>rw[show z=v from az h]
theorem Inv.enter{X:Cx}{scope:Scope}{N:List Str}{src:List (Option Nat)}{pins:List (Addr×Obj)}{σ:St}{H:Hp}{s s4:Shared}{fp:List Addr}(S:CpScope X scope N src)(I:Inv X pins σ H s)
  (f2:∀b∈fp,lD X pins H b) (lt:∀b∈fp,b<s.heap.objs.size) (hns:s4.heap.Ns s.heap.objs.size fun _=>none) (hk:∀b o,s.heap.get? b=some o->s4.heap.get? b=some o) (hos:s4.os=s.os) (hg:s4.gens=s.gens):
  Inv (X.block scope N fp s H s.heap.objs.size) [] (sN src σ) H s4:=by
 have cells:∀x c,(kx X.env scope.names []).lookup x=some c->X.env.cells.lookup x=some c:=fun x c e=>by
  rcases A4 _ _ _ e with⟨⟨y,hy,e1,e2⟩,q⟩|q
  ·obtain⟨c',hc'⟩:=I.ok.has y.1 (.inl (S.frees y hy e2).2)
   rw[e1]at hc'
   rw[hc']at q ⊢
   exact bS some q
  ·cases q
 refine⟨⟨I.mod,S.kind,I.ok.glob,I.ok.blt,ai _,fun x y c h1 h2=>I.ok.inj x y c (cells x c h1) (cells y c h2),fun x hx=>?_,fun x c h=>absurd (show false=true from h) aO,I.ok.hd,I.ok.frames,.inl rfl,fun b hb=>?_,I.bs,
   bD I.ok.bsz I.sz,fun b o e hb=>?_,fun b hb z=>?_,I.stack,I.stkFree⟩,hos,?_,Un.kept hk,⟨fun _=>none,hns,fun i x v h1 h2 h3=>?_⟩,fun x c e=>?_,I.fresh,fun x c e=>I.freeC x c (cells x c e),fun p hp=>?_,I.hok.kept hk,?_⟩
 ·have hx':(scope.names.map fun(n,k)=>if(k==NameKind.free&&X.env.scope.kind== .function&&X.env.kindOf n==some .cell)then(n,NameKind.cell)else(n,k)).lookup x=some .cell\/(scope.names.map fun(n,k)=>if(k==NameKind.free&&X.env.scope.kind== .function&&X.env.kindOf n==some .cell)then(n,NameKind.cell)else(n,k)).lookup x=some .free:=hx
  have hf:scope.names.lookup x=some .free:=by
   rcases hx' with h|h
   ·rcases vM h with h|h
    ·exact absurd rfl (S.nocell _ (bY h))
    ·exact h.1
   ·rcases vM h with h|h
    ·exact h
    ·cases h.2
  have hsome:=vA (env:=X.env) (x:=x) scope.names [] (.inl ⟨_,bY hf,rfl,rfl⟩)
  exact dQ.mp hsome
 ·exact⟨aP (lt b hb),fun x c e=>(f2 b hb).2.2.2.2.1 x c (cells x c e)⟩
 ·have hb':b∈fp:=hb
  rcases(f2 b hb').2.2.2.1 with z|z
  ·exact I.ok.noex b o e z
  ·exact absurd (bf (aD e) (bD I.ok.bsz z)) (cw _)
 ·have hb':b∈fp:=hb
  have z':b∈kX X.stack:=z
  rcases aS.mp (I.stkSub b z')with e|e
  ·exact(f2 b hb').2.1 e
  ·exact(f2 b hb').2.2.1 e
 ·rw[hg];exact I.bare
 ·have h2':(src.map fun o=>o.bind fun j=>(σ[j]?).join)[i]? =some (some v):=h2
  rw[aE]at h2'
  cases e:src[i]? with
  |none=>rw[e]at h2';cases h2'
  | some o=>
   rw[e]at h2'
   cases o with
   |none=>cases h2'
   | some j=>
    have h4:(σ[j]?).join=some v:=az h2'
    have h5:=FL h4
    obtain⟨c1,c2⟩:=S.cap i j e
    have h1':N[i]? =some x:=h1
    rw[h1']at c1 c2
    have c2':scope.names.lookup x=some .free:=c2
    have c3:=(S.frees _ (bY c2') rfl).2
    obtain⟨m,hn,hl⟩:=I.loc
    obtain⟨u,r,l⟩:=hl j x v c1 h5 (.inr (.inl c3))
    refine⟨u,r,?_⟩
    have c3':X.env.kindOf x=some .cell:=c3
    rcases l with⟨k,_⟩|⟨_,c,e1,z⟩
    ·rw[c3']at k;cases k
    ·refine .inr ⟨.inl (Ba I.ok.kind c2' c3'),c,?_,?_⟩
     ·have hs:=vA (env:=X.env) (x:=x) scope.names [] (.inl ⟨_,bY c2',rfl,rfl⟩)
      obtain⟨c',hc'⟩:=dQ.mp hs
      have:=cells x c' hc'
      rw[e1]at this
      cases this
      exact hc'
     ·obtain⟨o,ho,hd⟩:=z
      exact⟨o,hk c o ho,hd⟩
 ·obtain⟨v,o,ho,hd⟩:=I.cell x c (cells x c e)
  exact⟨v,o,hk c o ho,hd⟩
 ·exact absurd (show p∈([]:List (Addr×Obj))from hp) (by simp)
 ·show(src.map _).length=N.length
  rw[ae]
  exact S.len
def qp(X:Cx)(ifs:List Expr)(t:TT):Prop:=
 ∀(pins:List (Addr×Obj)) (s:Shared) (σ:St) (H:Hp) (Q:Bool->Hp->Prop),Inv X pins σ H s->t σ H Q->
  wpAny (model X.prog X.w) X.A (forIn ifs true fun c r=>if r = true then do let ok <- isTrue c X.env (eval c X.env); pure (ForInStep.yield ok) else pure (ForInStep.yield r)) (TP X pins σ Q) X.xe s
def wF:TT:=fun _ H Q=>Q true H
theorem kJ{X:Cx}:qp X [] wF:=fun pins s σ H Q I h=>wpAny_tests_nil ⟨H,I,h⟩
theorem yC{X:Cx}{c:Expr}{t:TT}(h:PT X c t):qp X [c] t:=fun pins s σ H Q I hq=>wpAny_tests_one (h pins s σ H Q I hq)
def pB(J:It)(src:List (Option Nat))(g:TG)(tc:TT)(te:TE)(Q:VK)(σ:St)(H:Hp)(l:Addr):Prop:=
 ∃W:Nat->Nat->St->Hp->Prop,(∃m,W 0 m (sN src σ) (upd H l (.lst [])))/\∀i m σ' H,W i m σ' H->
  (J.stop i H/\Q (.ref l) H)\/(J.go i H/\∃N:St->Hp->Prop,(∀σ' H',N σ' H'->∃m',m'<m/\W (i+1) m' σ' H')/\∀x H',J.yld i H x H'->g x σ' H' fun σ2 H2=>tc σ2 H2 fun b H3=>
   if b=true then te σ2 H3 fun v H4=>∃xs,H4 l=some (.lst xs)/\xs.length<sizeLine/\N σ2 (upd H4 l (.lst (xs++[v])))else N σ2 H3)
theorem kz{J:It}{src:List (Option Nat)}{g:TG}{tc:TT}{te:TE}{Q:VK}{σ:St}{H:Hp}{l:Addr}(n:Nat)(Iv:Nat->St->Hp->Prop)(h0:Iv 0 (sN src σ) (upd H l (.lst [])))
  (hs:∀i σ' Hc,i<n->Iv i σ' Hc->J.go i Hc/\∀x H',J.yld i Hc x H'->g x σ' H' fun σ2 H2=>tc σ2 H2 fun b H3=>
   if b=true then te σ2 H3 fun v H4=>∃xs,H4 l=some (.lst xs)/\xs.length<sizeLine/\Iv (i+1) σ2 (upd H4 l (.lst (xs++[v])))else Iv (i+1) σ2 H3)
  (hd:∀σ' Hc,Iv n σ' Hc->J.stop n Hc/\Q (.ref l) Hc):pB J src g tc te Q σ H l:=by
 refine⟨fun i m σ' Hc=>m=n-i/\i<=n/\Iv i σ' Hc,⟨n,by simp,bj _,h0⟩,?_⟩
 rintro i m σ' Hc ⟨rfl,hi,p⟩
 by_cases hlt:i<n
 ·obtain⟨go,step⟩:=hs i σ' Hc hlt p
  exact .inr ⟨go,Iv (i+1),fun σ2 H2 p'=>⟨n-(i+1),by lia,rfl,hlt,p'⟩,step⟩
 ·have e:i=n:=by lia
  subst e
  exact .inl (hd σ' Hc p)
theorem Ad{X:Cx}{elt tg iter:Expr}{ifs:List Expr}{scope:Scope}{pos:Pos}{N:List Str}{src:List (Option Nat)}{g:TG}{tc:TT}{te:TE}{pins:List (Addr×Obj)}{σ:St}{H2:Hp}{s2:Shared}
  {fp:List Addr} {it:Addr} {tn:Nat->Heap->Prop} {J:It} {Q:VK} {E:Value->Shared->Prop} {RR:Value->Addr->Result->Shared->Prop} (S:CpScope X scope N src) (hc:X.calm=true)
  (hg:∀fp s₀ H₀ C,PG (X.block scope N fp s₀ H₀ C) tg g) (ht:∀fp s₀ H₀ C,qp (X.block scope N fp s₀ H₀ C) ifs tc) (he:∀fp s₀ H₀ C,PE (X.block scope N fp s₀ H₀ C) elt te)
  (I2:Inv X pins σ H2 s2) (T:Turn X.prog X.w X.K tg J fp it tn) (st2:tn 0 s2.heap) (f2:∀b∈fp,lD X pins H2 b) (hw:∀l,H2 l=none->pB J src g tc te Q σ H2 l)
  (hRR:∀l C H' s',Inv X pins σ H' s'->(∃m,s'.heap.Ns C m)->lD X pins H' C->Q (.ref l) H'->RR (.ref l) C (.ok .next) s'):
  wpAny (model X.prog X.w) X.A (newList []) (fun acc s₃=>wpAny (model X.prog X.w) X.A (newFunctionEnv scope X.env.globals (kx X.env scope.names []) [] X.env.qual none .none (some X.env)) (fun cenv s₄=>
   codeAny (model X.prog X.w) X.A (.compStart (.ListComp elt [⟨tg,iter,ifs,0⟩] scope pos) 0 (.ref it) acc {cenv with scope:=relabel scope X.env}) (RR acc cenv.locals) s₄) E s₃) E s2:=by
 have hl0:H2 s2.heap.objs.size=none:=I2.fresh
 have I3:Inv X pins σ (upd H2 s2.heap.objs.size (.lst [])) {s2 with heap:=s2.heap.push {cls:=.type "list",data:=.seq ([]:List Value).toArray}}:=I2.lnew (ys:=[]) (its:=[]) (t':=s2.toks) .nil (bj _)
 have ltf:∀b∈fp,b<s2.heap.objs.size:=fun b hb=>by
  obtain⟨o,e,_⟩:=T.obj _ _ st2 b hb
  exact aD e
 have f3:∀b∈fp,lD X pins (upd H2 s2.heap.objs.size (.lst [])) b:=fun b hb=>⟨by rw[iL (aP (ltf b hb))];exact(f2 b hb).1,(f2 b hb).2⟩
 obtain⟨W,⟨m0,w0⟩,turn⟩:=hw _ hl0
 refine cx (wpAny_newFunctionEnv S.nocell (by intro y hy;simp at hy) (fun h₁ hns₁ hsb₁=>?_) S.kind)
 dsimp only at hns₁ hsb₁ ⊢
 revert I3 f3
 intro I3 f3
 have st1:tn 0 (s2.heap.push {cls:=.type "list",data:=.seq ([]:List Value).toArray}):=T.keep _ _ _ st2 fun b hb o e=>af _ e
 have lt3:∀b∈fp,b<(s2.heap.push {cls:=.type "list",data:=.seq ([]:List Value).toArray}).objs.size:=fun b hb=>by rw[dG];exact cU (ltf b hb)
 generalize hH:s2.heap.push {cls:=.type "list",data:=.seq ([]:List Value).toArray}=h3 at I3 st1 lt3 hns₁ hsb₁ ⊢
 have hk:∀b o,h3.get? b=some o->h₁.get? b=some o:=fun b o e=>hsb₁.extBut b o (aP (aD e)) (af _ e)
 have Ib:Inv (X.block scope N fp {s2 with heap:=h3} (upd H2 s2.heap.objs.size (.lst [])) h3.objs.size) [] (sN src σ) (upd H2 s2.heap.objs.size (.lst [])) {s2 with heap:=h₁,toks:=s2.toks+([]:List (Str×Value)).length}:=
  Inv.enter (s:={s2 with heap:=h3}) S I3 f3 lt3 hns₁ hk rfl rfl
 have fpB:∀{H':Hp},(∀b∈fp,H' b=none)->∀b∈fp,lD (X.block scope N fp {s2 with heap:=h3} (upd H2 s2.heap.objs.size (.lst [])) h3.objs.size) [] H' b:=fun hn b hb=>
  ⟨hn b hb,(Ib.ok.exf b hb).1,Ib.ok.exfs b hb,.inl hb,(Ib.ok.exf b hb).2,fun p hp=>absurd (show p∈([]:List (Addr×Obj))from hp) (by simp)⟩
 have tn1:tn 0 h₁:=T.keep _ _ _ st1 fun b _ o e=>hk b o e
 have loop:∀s₃:Shared,s₃={s2 with heap:=h₁,toks:=s2.toks+([]:List (Str×Value)).length}->
   codeAny (model X.prog X.w) X.A (.compLoop (.ListComp elt [⟨tg,iter,ifs,0⟩] scope pos) 0 (.ref it) (.ref s2.heap.objs.size) (compEnvC scope (kx X.env scope.names []) h3.objs.size X.env))
    (RR (.ref s2.heap.objs.size) h3.objs.size) s₃:=by
  rintro s₃ rfl
  refine codeAny_loop rfl (fun n s'=>∃i σ' H',Inv (X.block scope N fp {s2 with heap:=h3} (upd H2 s2.heap.objs.size (.lst [])) h3.objs.size) [] σ' H' s'/\tn i s'.heap/\(∀b∈fp,H' b=none)/\W i n σ' H') ?_ m0
   ⟨0,_,_,Ib,tn1,fun b hb=>(f3 b hb).1,w0⟩
  rintro n s5 ⟨i,σ5,H5,I5,st5,fr5,w5⟩
  show wpAny _ X.A ((compTurn (.ListComp elt [⟨tg,iter,ifs,0⟩] scope pos) 0 (.ref it) (.ref s2.heap.objs.size) (compEnvC scope (kx X.env scope.names []) h3.objs.size X.env)).onRaise (fun x=>do noteFrame x (compEnvC scope (kx X.env scope.names []) h3.objs.size X.env); theTreesLotGoes x)) _ _ s5
  refine wpAny_noted ?_
  rw[compTurn_list]
  refine aa (wpAny_standAt (aa ?_))
  rcases turn i n σ5 H5 w5 with⟨stop,qn⟩|⟨go,N',hN',step⟩
  ·refine iJ (T.done (X.block scope N fp {s2 with heap:=h3} (upd H2 s2.heap.objs.size (.lst [])) h3.objs.size) rfl rfl rfl hc i [] s5 σ5 H5 _ I5 (fpB fr5) st5 stop) fun r s6 ⟨hr,I6⟩=>?_
   subst hr
   refine ao ?_
   have u6:Un (kX X.stack) fp (upd H2 s2.heap.objs.size (.lst [])) H5 h3 s6.heap:=I6.base
   have hf6:H5 h3.objs.size=none:=I6.free
   have I7:Inv X pins σ H5 s6:=I3.call' (ch:=fp) I6.os u6 I6.hok I6.bare fun b hb=>⟨(f3 b hb).2.2.2.1,(f3 b hb).2.1,(f3 b hb).2.2.2.2.1,(f3 b hb).2.2.2.2.2⟩
   obtain⟨m,hm,_⟩:=I6.loc
   exact hRR _ _ H5 s6 I7 ⟨m,hm⟩ (I3.fpOk (ai _) hf6) qn
  ·refine iJ (T.item (X.block scope N fp {s2 with heap:=h3} (upd H2 s2.heap.objs.size (.lst [])) h3.objs.size) rfl rfl rfl hc i [] s5 σ5 H5 _ I5 (fpB fr5) st5 go) fun r s6 ⟨u,hr,h6⟩=>?_
   subst hr
   refine aa (iJ h6 fun _ s7 ⟨x,H7,I7,r7,y7,st7,fr7⟩=>?_)
   have I7':=I7.pinned (fpB fr7) (T.obj _ _ st7)
   have fin:∀{σ9:St} {H9:Hp} {s9:Shared},Inv (X.block scope N fp {s2 with heap:=h3} (upd H2 s2.heap.objs.size (.lst [])) h3.objs.size) ([]++pN fp s7.heap) σ9 H9 s9->N' σ9 H9->
     ∃m,m<n/\∃i σ' H',Inv (X.block scope N fp {s2 with heap:=h3} (upd H2 s2.heap.objs.size (.lst [])) h3.objs.size) [] σ' H' s9/\tn i s9.heap/\(∀b∈fp,H' b=none)/\W i m σ' H':=fun{σ9 H9 s9} I9 n9=>by
    obtain⟨m',hm,w9⟩:=hN' σ9 H9 n9
    refine⟨m',hm,i+1,σ9,H9,I9.unpinned,T.keep _ _ _ st7 fun b hb o e=>(I9.pin (b,o) (bG _ (bG _ (sj hb e)))).1,fun b hb=>?_,w9⟩
    obtain⟨o,e,d⟩:=T.obj _ _ st7 b hb
    exact(I9.pin (b,o) (bG _ (bG _ (sj hb e)))).2.1
   refine aa (cW (hg fp _ _ _ _ s7 σ5 H7 x u _ I7' r7 (step x H7 y7)) (fun _ s8 ⟨σ8,H8,I8,q8⟩=>?_) fun _ _ z=>False.elim z)
   refine aa (cW (ht fp _ _ _ _ s8 σ8 H8 _ I8 q8) (fun ok s9 ⟨H9,I9,q9⟩=>?_) fun _ _ z=>False.elim z)
   cases ok with
   |false=>exact ao ⟨rfl,fin I9 q9⟩
   | true=>
    refine aa (aa (cW (he fp _ _ _ _ s9 σ8 H9 _ I9 q9) (fun v s10 ⟨y,H10,I10,r10,xs,hx,hz,q10⟩=>?_) fun _ _ z=>False.elim z))
    refine aa (cW (Am (X:=X.block scope N fp {s2 with heap:=h3} (upd H2 s2.heap.objs.size (.lst [])) h3.objs.size) _ s10 σ8 H10 (.ref s2.heap.objs.size) [y] _ [v] (fun _ H11=>N' σ8 H11) I10 rfl (.cons r10 .nil) ⟨_,xs,y,rfl,rfl,hx,hz,q10⟩)
     (fun _ s11 ⟨_,H11,I11,_,q11⟩=>ao (ao ⟨rfl,fin I11 q11⟩)) fun _ _ z=>False.elim z)
 exact codeAny_compStart_list (loop _ rfl) (T.self _ 0 _ _ _ tn1 (loop _ rfl))
def rf(src:List (Option Nat))(wi:TI)(g:TG)(tc:TT)(te:TE):TE:=fun σ H Q=>wi σ H fun J H1=>∀l,H1 l=none->pB J src g tc te Q σ H1 l
theorem kI{X:Cx}{elt tg iter:Expr}{ifs:List Expr}{scope:Scope}{pos:Pos}{N:List Str}{src:List (Option Nat)}{wi:TI}{g:TG}{tc:TT}{te:TE}(S:CpScope X scope N src)(hc:X.calm=true)
  (hi:PI X tg iter wi) (hg:∀fp s₀ H₀ C,PG (X.block scope N fp s₀ H₀ C) tg g) (ht:∀fp s₀ H₀ C,qp (X.block scope N fp s₀ H₀ C) ifs tc) (he:∀fp s₀ H₀ C,PE (X.block scope N fp s₀ H₀ C) elt te)
  (hs:∀x,foldedSetIterable iter X.env x=pure x:=by intro _;rfl):PE X (.ListComp elt [⟨tg,iter,ifs,0⟩] scope pos) (rf src wi g tc te):=by
 intro pins s σ H Q I h
 rw[eval_ListComp]
 refine wpAny_comprehension_free (use:=none) rfl hs (A9 fun y hy e=>I.ok.has y.1 (.inl (S.frees y hy e).2)) S.kind S.locs ?_
 refine iJ (hi pins s σ H _ I h) fun v s1 h1=>iJ h1 fun itv s2 h2=>?_
 obtain⟨it,fp,tn,J,H2,e,I2,T,st2,f2,hw⟩:=h2
 subst e
 refine Ad (RR:=fun acc C=>compPost (model X.prog X.w) X.A X.xe none (EP X pins σ Q) acc C) S hc hg ht he I2 T st2 f2 hw ?_
 intro l C H' s' I' hm fC q
 obtain⟨m,hm⟩:=hm
 refine⟨m,hm,fun h' hs'=>?_⟩
 exact⟨.ref l,H',I'.turned (t':=s'.toks) (fun b o hb e=>hs'.extBut b o hb e) fC.1 fC.2.1 fC.2.2.2.1 fC.2.2.2.2.1 fC.2.2.2.2.2,rfl,q⟩
theorem yF{X:Cx}{i:Nat}{x:Str}{pos' spos:Pos}{elt tg iter:Expr}{ifs:List Expr}{scope:Scope}{pos:Pos}{N:List Str}{src:List (Option Nat)}{wi:TI}{g:TG}{tc:TT}{te:TE}(hN:X.N.Nodup)(hix:X.N[i]? =some x)(hx:Loc X.env.scope x)
  (S:CpScope X scope N src) (hc:X.calm=true)
  (hi:PI X tg iter wi) (hg:∀fp s₀ H₀ C,PG (X.block scope N fp s₀ H₀ C) tg g) (ht:∀fp s₀ H₀ C,qp (X.block scope N fp s₀ H₀ C) ifs tc) (he:∀fp s₀ H₀ C,PE (X.block scope N fp s₀ H₀ C) elt te)
  (hsw:swapsWith (.ListComp elt [⟨tg,iter,ifs,0⟩] scope pos) (some (.Name x pos')) spos.line X.env=pure true:=by rfl)
  (hs:∀x,foldedSetIterable iter X.env x=pure x:=by intro _;rfl) (hf:X.fn x=true\/X.env.scope.names.lookup x=some .local:=by first|exact .inl rfl|exact .inr rfl|assumption):
  PS X (.Assign [.Name x pos'] (.ListComp elt [⟨tg,iter,ifs,0⟩] scope pos) spos) (qA (rf src wi g tc te) (mK i)):=by
 intro pins s σ H D I h
 rw[exec_Assign_Name_used _ _ _ _ hsw]
 refine aa (wpAny_standAt (aa ?_))
 show wpAny _ X.A (do let _ <- comprehension (.ListComp elt [⟨tg,iter,ifs,0⟩] scope pos) scope X.env _ (newList []) false (eval iter X.env) (some (assign (.Name x pos') X.env))) _ _ s
 refine aa (cW (wpAny_comprehension_free (use:=some (assign (.Name x pos') X.env)) (Q:=fun _ s'=>SP X pins D .next s') rfl hs (A9 fun y hy e=>I.ok.has y.1 (.inl (S.frees y hy e).2)) S.kind S.locs
  (iJ (hi pins s σ H _ I h) fun v s1 h1=>iJ h1 fun itv s2 h2=>?_)) (fun _ s' hq=>ao (ao hq)) fun _ _ e=>e)
 obtain⟨it,fp,tn,J,H2,e,I2,T,st2,f2,hw⟩:=h2
 subst e
 refine Ad (Q:=fun v H'=>D.nx (σ.set i (some v)) H') (RR:=fun acc C=>compPost (model X.prog X.w) X.A X.xe (some (assign (.Name x pos') X.env)) (fun _ s'=>SP X pins D .next s') acc C) S hc hg ht he I2 T st2 f2 hw ?_
 intro l C H' s' I' hm fC q
 obtain⟨m,hm⟩:=hm
 show wpAny _ X.A (assign (.Name x pos') X.env (.ref l)) _ _ _
 refine wpAny_assign_Name (Aq I' hN hix hx (v:=.ref l) rfl (fun s'' I'' ⟨a,sb,ha⟩=>?_) hf)
 have hCa:C≠a:=by
  rcases ha with rfl|ha
  ·exact fC.2.1
  ·exact fun z=>fC.2.2.2.2.1 x a ha z.symm
 refine⟨m,hm.sameBut sb hCa,fun h' hs'=>?_⟩
 exact⟨_,H',I''.turned (t':=s''.toks) (fun b o hb e=>hs'.extBut b o hb e) fC.1 fC.2.1 fC.2.2.2.1 fC.2.2.2.2.1 fC.2.2.2.2.2,q⟩
theorem Inv.turnedNew{X:Cx}{pins:List (Addr×Obj)}{σ:St}{H:Hp}{s:Shared}{h':Heap}{ch:List Addr}{t:Addr}{o:HO}{t':Nat}(I:Inv X pins σ H s)(hsz:s.heap.objs.size<=t)
  (k:∀b ob,b∉ch->s.heap.get? b=some ob->h'.get? b=some ob) (hch:∀b∈ch,lD X pins H b) (new:jbp X.prog X.w (upd H t o) h' t o):
  Inv X pins σ (upd H t o) {s with heap:=h',toks:=t'}:=by
 have hn:H t=none:=I.hok.fresh hsz
 have nt:∀{b ob},s.heap.get? b=some ob->b≠t:=fun q=>aP (bf (aD q) hsz)
 have u:Un (kX X.stack) ch H (upd H t o) s.heap h':=
  ⟨fun b ob q _ _ hx=>k b ob hx q,fun b ob q _ _ hx=>⟨ob.slots,k b ob hx q⟩,fun b ob q n _=>by rw[iL (nt q)];exact n,fun b ob q hx=>⟨ob,k b ob hx q⟩,
   fun b xs q=>by rw[iL (iX q hn)];exact q,fun b ob xs q=>by rw[iL (iX q hn)];exact q,fun b ps q=>⟨#[],by rw[iL (iX q hn),q];simp⟩⟩
 refine I.call (g':=s.gens) (t':=t') (d':=s.drawn) u (fun b ob e=>?_) I.bare fun b hb=>⟨(hch b hb).2.2.2.1,(hch b hb).2.1,(hch b hb).2.2.2.2.1,(hch b hb).2.2.2.2.2⟩
 by_cases hb:b=t
 ·subst hb;rw[iD]at e;cases e;exact new
 ·rw[iL hb]at e
  have ntr:∀{c u},H c=some u->c∉ch:=fun q z=>by rw[(hch _ z).1]at q;cases q
  refine(I.hok b ob e).stay (fun c v hc q=>k c v ?_ q) (fun c q=>by rw[iL (iX q hn)];exact q) fun c xs q=>by rw[iL (iX q hn)];exact q
  rcases hc with z|z
  ·rw[z];exact ntr e
  ·exact ntr z
theorem Inv.turnedAll{X:Cx}{pins:List (Addr×Obj)}{σ:St}{H:Hp}{s:Shared}{h':Heap}{ch:List Addr}{t':Nat}(I:Inv X pins σ H s)
  (k:∀b ob,b∉ch->s.heap.get? b=some ob->h'.get? b=some ob) (hch:∀b∈ch,lD X pins H b):Inv X pins σ H {s with heap:=h',toks:=t'}:=by
 have u:Un (kX X.stack) ch H H s.heap h':=
  ⟨fun b ob q _ _ hx=>k b ob hx q,fun b ob q _ _ hx=>⟨ob.slots,k b ob hx q⟩,fun b ob q n _=>n,fun b ob q hx=>⟨ob,k b ob hx q⟩,fun b xs q=>q,fun b ob xs q=>q,fun b ps q=>⟨#[],by rw[q];simp⟩⟩
 refine I.call (g':=s.gens) (t':=t') (d':=s.drawn) u (fun b ob e=>?_) I.bare fun b hb=>⟨(hch b hb).2.2.2.1,(hch b hb).2.1,(hch b hb).2.2.2.2.1,(hch b hb).2.2.2.2.2⟩
 have ntr:∀{c u},H c=some u->c∉ch:=fun q z=>by rw[(hch _ z).1]at q;cases q
 refine(I.hok b ob e).stay (fun c v hc q=>k c v ?_ q) (fun c q=>q) fun c xs q=>q
 rcases hc with z|z
 ·rw[z];exact ntr e
 ·exact ntr z
noncomputable def oj(K:PySem.W.Frag)(a:Addr):It:=
 ⟨fun i H=>∃xs x,SqL K H a xs/\xs[i]? =some x,fun i H x H'=>∃t y,H t=none/\x= .ref t/\H'=upd H t (.tup [.int i,y])/\∀xs,SqL K H a xs->xs[i]? =some y,fun i H=>∃xs,SqL K H a xs/\xs.length<=i⟩
theorem Ga{P:Program}{w:World}{K:PySem.W.Frag}{elts:List Expr}{x1:Nat}{pos:Pos}(a e it:Addr)(hne:e≠it):
  Turn P w K (.Tuple elts x1 pos) (oj K a) [e,it] e (fun i h=>(∃old,IsEnum h e it i old)/\h.IsListIter it a i)where
 mem:=by simp
 obj:=fun i h st b hb=>by
  obtain⟨⟨old,he⟩,hit⟩:=st
  have q:b=e\/b=it:=by simpa using hb
  rcases q with rfl|rfl
  ·exact⟨_,he,fun v z=>by
    have z':Data.fields _=Data.cell v:=z
    cases z'⟩
  ·obtain⟨o,e1,c,d⟩:=hit
   exact⟨o,e1,fun v z=>by rw[d]at z;cases z⟩
 keep:=fun i h h' st k=>by
  obtain⟨⟨old,he⟩,hit⟩:=st
  exact⟨⟨old,k e (by simp) _ he⟩,hit.at fun o z=>k it (by simp) o z⟩
 item:=by
  intro X hP hw hK hc i pins s σ H E I hf st hg
  subst hP hw hK
  obtain⟨⟨old,he⟩,hit⟩:=st
  obtain⟨xs,x,hq,hx⟩:=hg
  obtain⟨its,rv,p,hz⟩:=I.list hq
  obtain⟨u,hu,ru⟩:=rv.get hx
  have elt:e<s.heap.objs.size:=aD he
  have ilt:it<s.heap.objs.size:=by obtain⟨_,z,_⟩:=hit;exact aD z
  refine wpAny_pyNext_enum_item he hit p.isList (x:=u) (by simpa using hu) hne fun h1 ho hit1 hT hsz1 hk1=>?_
  refine⟨_,rfl,wpAny_letOwnedTupleGo_enum ho fun h2 he2 hs2=>?_⟩
  replace hs2:Heap.SameBut e h1 h2:=hs2
  have kk:∀b ob,b∉[e,it]->s.heap.get? b=some ob->h2.get? b=some ob:=fun b ob hb q=>by
   have hb':b≠e/\b≠it:=by simpa using hb
   exact hs2.extBut b ob hb'.1 (hk1 b ob hb'.1 hb'.2 q)
  have hT2:h2.get? s.heap.objs.size=some {cls:=.type "tuple",data:=.seq #[.int i s.toks,u]}:=(hs2.2 _ (dk elt)).trans hT
  refine⟨.ref s.heap.objs.size,upd H s.heap.objs.size (.tup [.int i,x]),I.turnedNew (ch:=[e,it]) (ai _) kk hf ?_,rfl,⟨_,x,I.fresh,rfl,rfl,fun ys hy=>by rw[I.list_inj hy hq];exact hx⟩,⟨⟨u,by simpa using he2⟩,hit1.at fun o z=>(hs2.2 it hne.symm).trans z⟩,fun b hb=>?_⟩
  ·exact⟨by show 2<=sizeLine;decide,[.int i s.toks,u],.cons ⟨_,rfl⟩ (.cons ru .nil),⟨_,hT2,rfl,_,rfl⟩⟩
  ·have hb':b=e\/b=it:=by simpa using hb
   have:b≠s.heap.objs.size:=by
    rcases hb' with rfl|rfl
    ·exact aP elt
    ·exact aP ilt
   rw[iL this]
   exact(hf b hb).1
 done:=by
  intro X hP hw hK hc i pins s σ H E I hf st hg
  subst hP hw hK
  obtain⟨⟨old,he⟩,hit⟩:=st
  obtain⟨xs,hq,hx⟩:=hg
  obtain⟨its,rv,p,hz⟩:=I.list hq
  have hl:=rv.length
  refine wpAny_pyNext_enum_end (I.ok.hd hc) he hit p.isList (by simp;lia) fun h' eb=>⟨rfl,I.turnedAll (ch:=[e,it]) (t':=s.toks) (fun b o hb q=>eb b o (fun z=>hb (by simp[z])) q) hf⟩
 self:=fun _ _ _ _ _ st h=>by
  obtain⟨⟨old,he⟩,_⟩:=st
  exact wpAny_pyIter_enum he h
def tM(K:PySem.W.Frag)(ta:TA):TI:=fun σ H R=>ta σ H fun vs H1=>∃a,vs=[.ref a]/\(∃xs,SqL K H1 a xs)/\R (oj K a) H1
theorem rM{X:Cx}{elts:List Expr}{x1:Nat}{tpos:Pos}{a:Expr}{ta:TA}{p pos:Pos}(hg:Gl X "enumerate")(hm:X.mg "enumerate"=none)(ha:PA X [a] ta)(hs:starEach [a] X.env=[(false,eval a X.env)]:=by rfl):
  PI X (.Tuple elts x1 tpos) (.Call (.Name "enumerate" p) [a] [] pos) (tM X.K ta):=by
 intro pins s σ H R I h
 refine Call_ (nS I hg hm boot_enumerate (cJ (iJ (ha pos pins s σ H _ I h) fun us s1 ⟨vs,H1,I1,r1,q1⟩=>?_) hs rfl))
 obtain⟨a,e,⟨xs,hq⟩,q⟩:=q1
 subst e
 cases r1 with
 |cons r rr=>
  cases rr
  cases r
  obtain⟨its,rv,pl,hz⟩:=I1.list hq
  refine call_enumerate_list pl.isList fun h' he hit hsz hk=>?_
  refine wpAny_pyIter_enum he ?_
  have I2:Inv X pins σ H1 {s1 with heap:=h'}:=I1.kept (t':=s1.toks) fun b o q=>hk b o q
  refine⟨_,[s1.heap.objs.size+1,s1.heap.objs.size],_,_,H1,rfl,I2,Ga a _ _ (gW _),⟨⟨_,he⟩,hit⟩,fun b hb=>?_,q⟩
  have hb':b=s1.heap.objs.size+1\/b=s1.heap.objs.size:=by simpa using hb
  rcases hb' with rfl|rfl
  ·exact I1.fpOk (fg _) (I1.hok.fresh (fg _))
  ·exact I1.fpOk (ai _) (I1.hok.fresh (ai _))
section
variable{prog:Program}{w:World}{A:Around}{E:Value->Shared->Prop}{s:Shared}
theorem Gw{j t:Addr}{k:Nat}{ar:Array Value}{x:Value}{Q:Value->Shared->Prop}(hj:s.heap.IsTupleIter j t k)(ht:s.heap.IsTuple t ar)(hx:ar[k]? =some x)
  (hQ:∀h',h'.IsTupleIter j t (k+1)->Heap.SameBut j s.heap h'->Q x {s with heap:=h'}):wpAny (model prog w) A (Builtin.SmallTypes.nextOf (.ref j)) Q E s:=by
 obtain⟨ob,e0,hcl,hdt⟩:=id hj
 obtain⟨ot,e1,_,nt,hdl⟩:=ht
 unfold Builtin.SmallTypes.nextOf
 refine aa (cZ (name:=Str.ofString "__next__") hj.typeIs dH (cY dH hj.typeIs ij ?_ (ie _)))
 show wpAny _ _ (field (.ref j) 0>>=_) _ _ s
 refine aa (cq e0 hdt (x:=.ref t) rfl ?_)
 show wpAny _ _ (if(Value.ref t==Value.none)=true then _ else _) _ _ s
 rw[ak (show ¬((Value.ref t==Value.none)=true)from aO)]
 show wpAny _ _ (field (.ref j) 1>>=_) _ _ s
 refine aa (cq e0 hdt (x:=.int k 0) rfl ?_)
 show wpAny _ _ (seqItems? (.ref t)>>=_) _ _ s
 refine aa (bM e1 hdl ?_)
 simp only[Int.toNat_natCast,hx]
 refine aa (wpAny_setField e0 hdt (by simp) (ao ⟨x,rfl,ao (hQ _ ?_ (Heap.SameBut.update ..))⟩))
 exact⟨_,cR _ e0 (Obj.isFreed_of_fields (Obj.data_mapFields hdt _)),(Obj.cls_mapFields ..).trans hcl,by rw[Obj.data_mapFields hdt];simp[rawInt]⟩
theorem Hs{j t:Addr}{k:Nat}{ar:Array Value}{Q:Value->Shared->Prop}(hh:A.handled=none)(hj:s.heap.IsTupleIter j t k)(ht:s.heap.IsTuple t ar)(hx:ar[k]? =none)
  (hE:∀h' e,Heap.ExtBut j s.heap h'->(∃o,h'.get? e=some o/\o.cls= .type "StopIteration")->E (.ref e) {s with heap:=h'}):wpAny (model prog w) A (Builtin.SmallTypes.nextOf (.ref j)) Q E s:=by
 obtain⟨ob,e0,hcl,hdt⟩:=id hj
 obtain⟨ot,e1,_,nt,hdl⟩:=ht
 unfold Builtin.SmallTypes.nextOf
 refine aa (cZ (name:=Str.ofString "__next__") hj.typeIs dH (cY dH hj.typeIs ij ?_ (ie _)))
 show wpAny _ _ (field (.ref j) 0>>=_) _ _ s
 refine aa (cq e0 hdt (x:=.ref t) rfl ?_)
 show wpAny _ _ (if(Value.ref t==Value.none)=true then _ else _) _ _ s
 rw[ak (show ¬((Value.ref t==Value.none)=true)from aO)]
 show wpAny _ _ (field (.ref j) 1>>=_) _ _ s
 refine aa (cq e0 hdt (x:=.int k 0) rfl ?_)
 show wpAny _ _ (seqItems? (.ref t)>>=_) _ _ s
 refine aa (bM e1 hdl ?_)
 simp only[Int.toNat_natCast,hx]
 refine aa (cM (aa (wpAny_setField e0 hdt (by simp) ?_)))
 show wpAny _ _ (newExc (.type "StopIteration") []>>=_) _ _ _
 refine aa ?_
 simp only[newExc,newTuple]
 refine aa (cx ?_ (by size_fits))
 refine aa (m:=firstArgMember _ _) (eY (a:=Value.none) (by first|rfl|(simp only[firstArgMember];rfl)) ?_)
 refine cx ?_ (by size_fits)
 simp only[raiseNew]
 refine aa (wpAny_handled ?_)
 first|rw[show A.in1.handled=none from hh]|rw[hh]
 refine aa (ao (wpAny_throw ?_))
 exact hE _ _ (((Heap.SameBut.update ..).extBut.push _).push _) ⟨_,aI _ rfl,rfl⟩
def IsSq(b:Bool)(h:Heap)(l:Addr)(ar:Array Value):Prop:=if b=true then h.IsList l ar else h.IsTuple l ar
def jbo(b:Bool)(h:Heap)(j l:Addr)(k:Nat):Prop:=if b=true then h.IsListIter j l k else h.IsTupleIter j l k
theorem IsSq.at'{b:Bool}{h h':Heap}{l:Addr}{ar:Array Value}(x:IsSq b h l ar)(k:∀o,h.get? l=some o->h'.get? l=some o):IsSq b h' l ar:=by
 cases b with
 |true=>obtain⟨o,e,r⟩:=(show h.IsList l ar from x);exact(show h'.IsList l ar from⟨o,k o e,r⟩)
 |false=>obtain⟨o,e,r⟩:=(show h.IsTuple l ar from x);exact(show h'.IsTuple l ar from⟨o,k o e,r⟩)
theorem jbo.at'{b:Bool}{h h':Heap}{j l:Addr}{i:Nat}(x:jbo b h j l i)(k:∀o,h.get? j=some o->h'.get? j=some o):jbo b h' j l i:=by
 cases b with
 |true=>obtain⟨o,e,r⟩:=(show h.IsListIter j l i from x);exact(show h'.IsListIter j l i from⟨o,k o e,r⟩)
 |false=>obtain⟨o,e,r⟩:=(show h.IsTupleIter j l i from x);exact(show h'.IsTupleIter j l i from⟨o,k o e,r⟩)
theorem jbo.obj{b:Bool}{h:Heap}{j l:Addr}{i:Nat}(x:jbo b h j l i):∃o,h.get? j=some o/\∀v,o.data≠ .cell v:=by
 cases b with
 |true=>obtain⟨o,e,_,d⟩:=(show h.IsListIter j l i from x);exact⟨o,e,fun v z=>by rw[d]at z;cases z⟩
 |false=>obtain⟨o,e,_,d⟩:=(show h.IsTupleIter j l i from x);exact⟨o,e,fun v z=>by rw[d]at z;cases z⟩
theorem vn{b:Bool}{j l:Addr}{k:Nat}{ar:Array Value}{x:Value}{Q:Value->Shared->Prop}(hj:jbo b s.heap j l k)(hl:IsSq b s.heap l ar)(hx:ar[k]? =some x)
  (hQ:∀h',jbo b h' j l (k+1)->Heap.SameBut j s.heap h'->Q x {s with heap:=h'}):wpAny (model prog w) A (Builtin.SmallTypes.nextOf (.ref j)) Q E s:=by
 cases b with
 |true=>exact wpAny_nextOf_list_item (show s.heap.IsListIter j l k from hj) (show s.heap.IsList l ar from hl) hx fun h' a b=>hQ h' a b
 |false=>exact Gw (show s.heap.IsTupleIter j l k from hj) (show s.heap.IsTuple l ar from hl) hx fun h' a b=>hQ h' a b
theorem A6{b:Bool}{j l:Addr}{k:Nat}{ar:Array Value}{Q:Value->Shared->Prop}(hh:A.handled=none)(hj:jbo b s.heap j l k)(hl:IsSq b s.heap l ar)(hx:ar[k]? =none)
  (hE:∀h' e,Heap.ExtBut j s.heap h'->(∃o,h'.get? e=some o/\o.cls= .type "StopIteration")->E (.ref e) {s with heap:=h'}):wpAny (model prog w) A (Builtin.SmallTypes.nextOf (.ref j)) Q E s:=by
 cases b with
 |true=>exact wpAny_nextOf_list_end hh (show s.heap.IsListIter j l k from hj) (show s.heap.IsList l ar from hl) hx hE
 |false=>exact Hs hh (show s.heap.IsTupleIter j l k from hj) (show s.heap.IsTuple l ar from hl) hx hE
theorem Hf{b:Bool}{z TI TO i1 i2 l1 l2:Addr}{k1 k2:Nat}{xs ys:Array Value}{x y v0 v1:Value}{Q:Value->Shared->Prop}(D:ZipApart z TI TO i1 i2 l1 l2)
  (hz:IsZip s.heap z TI TO .none) (hTI:IsPair s.heap TI (.ref i1) (.ref i2)) (hTO:IsPair s.heap TO v0 v1)
  (h1:jbo b s.heap i1 l1 k1) (h2:jbo b s.heap i2 l2 k2) (hl1:IsSq b s.heap l1 xs) (hl2:IsSq b s.heap l2 ys) (hx:xs[k1]? =some x) (hy:ys[k2]? =some y)
  (hQ:∀h',IsZip h' z TI TO (rawInt s.heap.objs.size)->IsPair h' TO x y->jbo b h' i1 l1 (k1+1)->jbo b h' i2 l2 (k2+1)->IsPair h' s.heap.objs.size x y->
   (∀c o,c≠z->c≠TO->c≠i1->c≠i2->s.heap.get? c=some o->h'.get? c=some o)->Q (.ref s.heap.objs.size) {s with heap:=h'}):
  wpAny (model prog w) A (Builtin.«zip.__next__» ⟨[.ref z],[]⟩) (fun fin s'=>∃v,fin= .done (.ret v)/\Q v s') E s:=by
 show wpAny _ _ (field (.ref z) 2>>=_) _ _ _
 refine aa (cq hz rfl (x:=.bool false) rfl ?_)
 show wpAny _ _ (field (.ref z) 3>>=_) _ _ _
 refine aa (cq hz rfl (x:=.ref TI) rfl ?_)
 refine aa (bM hTI rfl ?_)
 show wpAny _ _ (Builtin.SmallTypes.ownedTupleIsFree (.ref z)>>=_) _ _ _
 refine aa ?_
 unfold Builtin.SmallTypes.ownedTupleIsFree
 refine aa (cq hz rfl (x:=.none) rfl (ao ?_))
 simp only[if_true]
 refine aa (cM ?_)
 refine aa (cq hz rfl (x:=.ref TO) rfl ?_)
 refine aa (dg hz (by simp) fun g1 hzA sA=>?_)
 replace hzA:IsZip g1 z TI TO .ellipsis:=hzA
 refine aa ?_
 simp only[List.zipIdx_cons,List.zipIdx_nil,h8,List.forIn_nil]
 refine aa (aa (gj ?_))
 show wpAny _ _ (Builtin.SmallTypes.nextOf (.ref i1)>>=_) _ _ _
 refine aa (vn (b:=b) (h1.at' fun o e=>sA.extBut _ o D.i1z e) (hl1.at' fun o e=>sA.extBut _ o D.l1z e) hx fun g2 h1B sB=>ao ?_)
 have TOB:IsPair g2 TO v0 v1:=sB.extBut _ _ D.TOi1 (sA.extBut _ _ D.TOz hTO)
 refine aa (bM TOB rfl ?_)
 refine aa (fZ TOB fun g3 TOC sC=>?_)
 replace TOC:IsPair g3 TO x v1:=TOC
 refine aa (eI (ao ?_))
 refine aa (aa (gj ?_))
 show wpAny _ _ (Builtin.SmallTypes.nextOf (.ref i2)>>=_) _ _ _
 refine aa (vn (b:=b) (h2.at' fun o e=>sC.extBut _ o D.TOi2.symm (sB.extBut _ o D.i12.symm (sA.extBut _ o D.i2z e))) (hl2.at' fun o e=>sC.extBut _ o D.l2TO (sB.extBut _ o D.l2i1 (sA.extBut _ o D.l2z e))) hy fun g4 h2D sD=>ao ?_)
 have TOD:IsPair g4 TO x v1:=sD.extBut _ _ D.TOi2 TOC
 refine aa (bM TOD rfl ?_)
 refine aa (fZ TOD fun g5 TOE sE=>?_)
 replace TOE:IsPair g5 TO x y:=TOE
 refine aa (eI (ao (ao ?_)))
 refine aa (bM TOE rfl ?_)
 refine aa (wpAny_newTuple ?_)
 have hsz:g5.objs.size=s.heap.objs.size:=by rw[sE.1,sD.1,sC.1,sB.1,sA.1]
 have hzE:IsZip g5 z TI TO .ellipsis:=sE.extBut _ _ D.TOz.symm (sD.extBut _ _ D.i2z.symm (sC.extBut _ _ D.TOz.symm (sB.extBut _ _ D.i1z.symm hzA)))
 have hkE:∀c o,c≠z->c≠TO->c≠i1->c≠i2->s.heap.get? c=some o->g5.get? c=some o:=fun c o c1 c2 c3 c4 e=>sE.extBut _ _ c2 (sD.extBut _ _ c4 (sC.extBut _ _ c2 (sB.extBut _ _ c3 (sA.extBut _ _ c1 e))))
 have h1E:jbo b g5 i1 l1 (k1+1):=h1B.at' fun o e=>sE.extBut _ o D.TOi1.symm (sD.extBut _ o D.i12 (sC.extBut _ o D.TOi1.symm e))
 have h2E:jbo b g5 i2 l2 (k2+1):=h2D.at' fun o e=>sE.extBut _ o D.TOi2.symm e
 have zlt:z<g5.objs.size:=aD hzE
 show wpAny _ _ (Builtin.SmallTypes.ownedTupleHandOut (.ref z) (.ref g5.objs.size)>>=_) _ _ _
 refine aa ?_
 unfold Builtin.SmallTypes.ownedTupleHandOut
 have hzF:IsZip (g5.push {cls:=.type "tuple",data:=.seq #[x,y]}) z TI TO .ellipsis:=af _ hzE
 refine aa (dg hzF (by simp) fun g7 hzG sG=>?_)
 replace hzG:IsZip g7 z TI TO (rawInt g5.objs.size):=hzG
 refine dg hzG (by simp) fun g8 hzI sI=>?_
 replace hzI:IsZip g8 z TI TO (rawInt g5.objs.size):=hzI
 have up:∀c o,c≠z->g5.get? c=some o->g8.get? c=some o:=fun c o c1 e=>sI.extBut _ _ c1 (sG.extBut _ _ c1 (af _ e))
 have hTI8:IsPair g8 g5.objs.size x y:=sI.extBut _ _ (dk zlt) (sG.extBut _ _ (dk zlt) (aI _ rfl))
 rw[hsz]at hzI hTI8
 refine ao ⟨_,rfl,?_⟩
 show Q (.ref g5.objs.size) _
 rw[hsz]
 exact hQ g8 hzI (up _ _ D.TOz TOE) (h1E.at' fun o e=>up _ o D.i1z e) (h2E.at' fun o e=>up _ o D.i2z e) hTI8 fun c o c1 c2 c3 c4 e=>up c o c1 (hkE c o c1 c2 c3 c4 e)
theorem G3{b:Bool}{z TI TO i1 i2 l1 l2:Addr}{k1 k2:Nat}{xs ys:Array Value}{v0 v1:Value}{Q:Fin->Shared->Prop}(hh:A.handled=none)(D:ZipApart z TI TO i1 i2 l1 l2)
  (hz:IsZip s.heap z TI TO .none) (hTI:IsPair s.heap TI (.ref i1) (.ref i2)) (hTO:IsPair s.heap TO v0 v1)
  (h1:jbo b s.heap i1 l1 k1) (h2:jbo b s.heap i2 l2 k2) (hl1:IsSq b s.heap l1 xs) (hl2:IsSq b s.heap l2 ys) (hend:xs[k1]? =none\/ys[k2]? =none)
  (hE:∀h' e,(∀c o,c≠z->c≠TO->c≠i1->c≠i2->s.heap.get? c=some o->h'.get? c=some o)->(∃o,h'.get? e=some o/\o.cls= .type "StopIteration")->E (.ref e) {s with heap:=h'}):
  wpAny (model prog w) A (Builtin.«zip.__next__» ⟨[.ref z],[]⟩) Q E s:=by
 show wpAny _ _ (field (.ref z) 2>>=_) _ _ _
 refine aa (cq hz rfl (x:=.bool false) rfl ?_)
 show wpAny _ _ (field (.ref z) 3>>=_) _ _ _
 refine aa (cq hz rfl (x:=.ref TI) rfl ?_)
 refine aa (bM hTI rfl ?_)
 show wpAny _ _ (Builtin.SmallTypes.ownedTupleIsFree (.ref z)>>=_) _ _ _
 refine aa ?_
 unfold Builtin.SmallTypes.ownedTupleIsFree
 refine aa (cq hz rfl (x:=.none) rfl (ao ?_))
 simp only[if_true]
 refine aa (cM ?_)
 refine aa (cq hz rfl (x:=.ref TO) rfl ?_)
 refine aa (dg hz (by simp) fun g1 hzA sA=>?_)
 replace hzA:IsZip g1 z TI TO .ellipsis:=hzA
 refine aa ?_
 simp only[List.zipIdx_cons,List.zipIdx_nil,h8,List.forIn_nil]
 refine aa (aa (gj ?_))
 show wpAny _ _ (Builtin.SmallTypes.nextOf (.ref i1)>>=_) _ _ _
 cases hx:xs[k1]? with
 |none=>
  refine aa (A6 (b:=b) hh (h1.at' fun o e=>sA.extBut _ o D.i1z e) (hl1.at' fun o e=>sA.extBut _ o D.l1z e) hx fun g2 ex sB he=>?_)
  obtain⟨oe,hoe,hce⟩:=he
  have hzB:IsZip g2 z TI TO .ellipsis:=sB _ _ D.i1z.symm hzA
  have hez:ex≠z:=fun q=>by subst q;rw[hzB]at hoe;cases hoe;simp at hce
  refine dg hzB (by simp) fun g3 _ sC=>hE g3 ex (fun c o c1 _ c3 _ q=>sC.extBut _ _ c1 (sB _ _ c3 (sA.extBut _ _ c1 q))) ⟨oe,sC.extBut _ _ hez hoe,hce⟩
 |some x=>
  have hy:ys[k2]? =none:=by rcases hend with h|h;rw[hx]at h;cases h;exact h
  refine aa (vn (b:=b) (h1.at' fun o e=>sA.extBut _ o D.i1z e) (hl1.at' fun o e=>sA.extBut _ o D.l1z e) hx fun g2 h1B sB=>ao ?_)
  have TOB:IsPair g2 TO v0 v1:=sB.extBut _ _ D.TOi1 (sA.extBut _ _ D.TOz hTO)
  refine aa (bM TOB rfl ?_)
  refine aa (fZ TOB fun g3 TOC sC=>?_)
  refine aa (eI (ao ?_))
  refine aa (aa (gj ?_))
  show wpAny _ _ (Builtin.SmallTypes.nextOf (.ref i2)>>=_) _ _ _
  refine aa (A6 (b:=b) hh (h2.at' fun o e=>sC.extBut _ o D.TOi2.symm (sB.extBut _ o D.i12.symm (sA.extBut _ o D.i2z e))) (hl2.at' fun o e=>sC.extBut _ o D.l2TO (sB.extBut _ o D.l2i1 (sA.extBut _ o D.l2z e))) hy fun g4 ex sD he=>?_)
  obtain⟨oe,hoe,hce⟩:=he
  have hzD:IsZip g4 z TI TO .ellipsis:=sD _ _ D.i2z.symm (sC.extBut _ _ D.TOz.symm (sB.extBut _ _ D.i1z.symm hzA))
  have hez:ex≠z:=fun q=>by subst q;rw[hzD]at hoe;cases hoe;simp at hce
  refine dg hzD (by simp) fun g5 _ sE=>hE g5 ex (fun c o c1 c2 c3 c4 q=>sE.extBut _ _ c1 (sD _ _ c4 (sC.extBut _ _ c2 (sB.extBut _ _ c3 (sA.extBut _ _ c1 q))))) ⟨oe,sE.extBut _ _ hez hoe,hce⟩
end
noncomputable abbrev o8(b:Bool)(l:Addr):Obj:={cls:=.type (if b=true then "list_iterator" else "tuple_iterator"),data:=.fields #[.ref l,.int 0 0]}
noncomputable abbrev qw(b:Bool)(h:Heap)(l1 l2:Addr):Heap:=(h.push (o8 b l1)).push (o8 b l2)
noncomputable abbrev qu(b:Bool)(h:Heap)(l1 l2:Addr):Heap:=(qw b h l1 l2).push {cls:=.type "tuple",data:=.seq #[.ref h.objs.size,.ref (h.push (o8 b l1)).objs.size]}
noncomputable abbrev qt(b:Bool)(h:Heap)(l1 l2:Addr):Heap:=(qu b h l1 l2).push {cls:=.type "tuple",data:=.seq #[.none,.none]}
noncomputable abbrev oo(b:Bool)(h:Heap)(l1 l2:Addr):Heap:=(qt b h l1 l2).push {cls:=.type "zip",data:=.fields #[.none,.bool false,.bool false,.ref (qw b h l1 l2).objs.size,.ref (qu b h l1 l2).objs.size]}
theorem Gd(l1 l2:Addr)(xs ys:Array Value):
  Meets (Builtin.«zip.__new__» ⟨[.type "zip",.ref l1,.ref l2],[]⟩) (fun _ R s=>s.heap.IsTuple l1 xs/\s.heap.IsTuple l2 ys/\R (.ok (.ret (.ref (qt false s.heap l1 l2).objs.size))) {s with heap:=oo false s.heap l1 l2}):=
 .of_wp fun prog w A R s h=>by
  obtain⟨hp,g,d,tk,os⟩:=s;obtain⟨hl1,hl2,h⟩:=h
  have hsub:=sub_zip
  have hL1:Heap.IsTuple (Shared.heap ⟨hp,g,d,tk,os⟩) l1 xs:=hl1
  have hL2:Heap.IsTuple (Shared.heap ⟨hp.push {cls:=.type "tuple_iterator",data:=.fields #[.ref l1,.int 0 0]},g,d,tk,os⟩) l2 ys:=Heap.IsTuple.push hl2 _
  wp_walk using eP hL1,eP hL2
  exact⟨_,rfl,h⟩
section
variable{prog:Program}{w:World}{A:Around}{E:Value->Shared->Prop}{s:Shared}
theorem DA{b:Bool}{l1 l2:Addr}{xs ys:Array Value}{Q:Value->Shared->Prop}(hl1:IsSq b s.heap l1 xs)(hl2:IsSq b s.heap l2 ys)
  (h:∀h',IsZip h' (s.heap.objs.size+4) (s.heap.objs.size+2) (s.heap.objs.size+3) .none->IsPair h' (s.heap.objs.size+2) (.ref s.heap.objs.size) (.ref (s.heap.objs.size+1))->
   IsPair h' (s.heap.objs.size+3) .none .none->jbo b h' s.heap.objs.size l1 0->jbo b h' (s.heap.objs.size+1) l2 0->(∀c o,s.heap.get? c=some o->h'.get? c=some o)->Q (.ref (s.heap.objs.size+4)) {s with heap:=h'}):
  wpAny (model prog w) A (call (.type "zip") [.ref l1,.ref l2]) Q E s:=by
 cases b with
 |true=>exact call_zip_2 (show s.heap.IsList l1 xs from hl1) (show s.heap.IsList l2 ys from hl2) fun h' a1 a2 a3 a4 a5 _ a7=>h h' a1 a2 a3 a4 a5 a7
 | false=>
  refine callType_new F.called_zip (by decide) (F.typeCall_zip_2 _ _) (F.newCall_zip_2 _ _) (fun obj=>F.args_object_init_3 obj _ _) F.entry_zip_new (Gd l1 l2 xs ys) ⟨hl1,hl2,?_⟩
  have q1:(s.heap.push (o8 false l1)).objs.size=s.heap.objs.size+1:=dG ..
  have q2:(qw false s.heap l1 l2).objs.size=s.heap.objs.size+2:=by rw[dG,q1]
  have q3:(qu false s.heap l1 l2).objs.size=s.heap.objs.size+3:=by rw[dG,q2]
  have q4:(qt false s.heap l1 l2).objs.size=s.heap.objs.size+4:=by rw[dG,q3]
  have p5:(oo false s.heap l1 l2).get? (qt false s.heap l1 l2).objs.size=some _:=aI _ rfl
  have p4:(oo false s.heap l1 l2).get? (qu false s.heap l1 l2).objs.size=some _:=af _ (aI _ rfl)
  have p3:(oo false s.heap l1 l2).get? (qw false s.heap l1 l2).objs.size=some _:=af _ (af _ (aI _ rfl))
  have p2:(oo false s.heap l1 l2).get? (s.heap.push (o8 false l1)).objs.size=some _:=af _ (af _ (af _ (aI _ rfl)))
  have p1:(oo false s.heap l1 l2).get? s.heap.objs.size=some _:=af _ (af _ (af _ (af _ (aI _ rfl))))
  show _/\_
  rw[q2,q3,q4]at p5
  rw[q1,q2]at p3
  rw[q3]at p4
  rw[q1]at p2
  rw[q4]
  exact⟨⟨_,p5,rfl⟩,h _ p5 p3 p4 (show Heap.IsTupleIter _ _ _ _ from⟨_,p1,rfl,rfl⟩) (show Heap.IsTupleIter _ _ _ _ from⟨_,p2,rfl,rfl⟩) fun c o x=>
   af _ (af _ (af _ (af _ (af _ x))))⟩
end
def jW(b:Bool)(K:PySem.W.Frag)(H:Hp)(a:Addr)(xs:List V):Prop:=if b=true then SqL K H a xs else SqT K H a xs
theorem Inv.sqB{X:Cx}{pins:List (Addr×Obj)}{σ:St}{H:Hp}{s:Shared}{b:Bool}{a:Addr}{xs:List V}(I:Inv X pins σ H s)(h:jW b X.K H a xs):∃its:List Value,Vals xs its/\IsSq b s.heap a its.toArray/\xs.length<=sizeLine:=by
 cases b with
 |true=>
  obtain⟨its,r,p,z⟩:=I.list (show SqL X.K H a xs from h)
  exact⟨its,r,p.isList,z⟩
 |false=>
  obtain⟨its,r,p,z⟩:=I.tuple (show SqT X.K H a xs from h)
  exact⟨its,r,(show s.heap.IsTuple a its.toArray from p),z⟩
theorem Inv.sqB_inj{X:Cx}{pins:List (Addr×Obj)}{σ:St}{H:Hp}{s:Shared}{b:Bool}{a:Addr}{xs ys:List V}(I:Inv X pins σ H s)(h:jW b X.K H a xs)(h':jW b X.K H a ys):xs=ys:=by
 cases b with
 |true=>exact I.list_inj (show SqL X.K H a xs from h) (show SqL X.K H a ys from h')
 |false=>exact I.tuple_inj (show SqT X.K H a xs from h) (show SqT X.K H a ys from h')
noncomputable def mX(b:Bool)(K:PySem.W.Frag)(a c:Addr):It:=
  ⟨fun i H=>∃xs ys x y,jW b K H a xs/\jW b K H c ys/\xs[i]? =some x/\ys[i]? =some y,
   fun i H v H'=>∃t x y,H t=none/\v= .ref t/\H'=upd H t (.tup [x,y])/\(∀xs,jW b K H a xs->xs[i]? =some x)/\∀ys,jW b K H c ys->ys[i]? =some y,
   fun i H=>∃xs ys,jW b K H a xs/\jW b K H c ys/\(xs.length<=i\/ys.length<=i)⟩
theorem kO{X:Cx}{pins:List (Addr×Obj)}{σ:St}{H:Hp}{s:Shared}{b:Bool}{a j:Addr}{xs:List V}(I:Inv X pins σ H s)(h:jW b X.K H a xs)(f:lD X pins H j):a≠j:=by
 intro e
 subst e
 have key:∀{o},X.K.lookup a=some o->False:=fun{o} q=>by
  have q1:=I.mod.kin a o q
  rcases f.2.2.2.1 with z|z
  ·exact I.ok.noex a o q1 z
  ·exact absurd (bf (aD q1) (bD I.ok.bsz z)) (cw _)
 cases b with
 |true=>
  rcases(show SqL X.K H a xs from h)with(h|⟨o,h⟩)|⟨o,its,n,hk,_⟩
  ·rw[f.1]at h;cases h
  ·rw[f.1]at h;cases h
  ·exact key hk
 |false=>
  rcases(show SqT X.K H a xs from h)with(h|⟨o,h⟩)|⟨o,its,n,hk,_⟩
  ·rw[f.1]at h;cases h
  ·rw[f.1]at h;cases h
  ·exact key hk
structure ZpA(z TI TO i1 i2:Addr):Prop where
 TIz:TI≠z
 TOz:TO≠z
 i1z:i1≠z
 i2z:i2≠z
 TITO:TI≠TO
 TIi1:TI≠i1
 TIi2:TI≠i2
 TOi1:TO≠i1
 TOi2:TO≠i2
 i12:i1≠i2
theorem Fk{P:Program}{w:World}{K:PySem.W.Frag}{elts:List Expr}{x1:Nat}{pos:Pos}(b:Bool)(a c z TI TO i1 i2:Addr)(D0:ZpA z TI TO i1 i2):
  Turn P w K (.Tuple elts x1 pos) (mX b K a c) [z,TI,TO,i1,i2] z (fun i h=>IsZip h z TI TO .none/\IsPair h TI (.ref i1) (.ref i2)/\(∃u v,IsPair h TO u v)/\jbo b h i1 a i/\jbo b h i2 c i)where
 mem:=by simp
 obj:=fun i h st d hd=>by
  obtain⟨hz,hTI,⟨u,v,hTO⟩,h1,h2⟩:=st
  have q:d=z\/d=TI\/d=TO\/d=i1\/d=i2:=by simpa using hd
  rcases q with rfl|rfl|rfl|rfl|rfl
  ·exact⟨_,hz,fun v z=>by
    have z':Data.fields _=Data.cell v:=z
    cases z'⟩
  ·exact⟨_,hTI,fun v z=>by
    have z':Data.seq _ _=Data.cell v:=z
    cases z'⟩
  ·exact⟨_,hTO,fun v z=>by
    have z':Data.seq _ _=Data.cell v:=z
    cases z'⟩
  ·exact h1.obj
  ·exact h2.obj
 keep:=fun i h h' st k=>by
  obtain⟨hz,hTI,⟨u,v,hTO⟩,h1,h2⟩:=st
  exact⟨k z (by simp) _ hz,k TI (by simp) _ hTI,⟨u,v,k TO (by simp) _ hTO⟩,h1.at' fun o e=>k i1 (by simp) o e,h2.at' fun o e=>k i2 (by simp) o e⟩
 item:=by
  intro X hP hw hK hc i pins s σ H E I hf st hg
  subst hP hw hK
  obtain⟨hz,hTI,⟨u0,v0,hTO⟩,h1,h2⟩:=st
  obtain⟨xs,ys,x,y,hq1,hq2,hx,hy⟩:=hg
  obtain⟨its1,rv1,p1,hz1⟩:=I.sqB hq1
  obtain⟨its2,rv2,p2,hz2⟩:=I.sqB hq2
  obtain⟨u1,hu1,ru1⟩:=rv1.get hx
  obtain⟨u2,hu2,ru2⟩:=rv2.get hy
  have D:ZipApart z TI TO i1 i2 a c:=⟨D0.TIz,D0.TOz,D0.i1z,D0.i2z,D0.TITO,D0.TIi1,D0.TIi2,D0.TOi1,D0.TOi2,D0.i12,
   kO I hq1 (hf z (by simp)),kO I hq1 (hf TO (by simp)),kO I hq1 (hf i1 (by simp)),kO I hq1 (hf i2 (by simp)),kO I hq2 (hf z (by simp)),kO I hq2 (hf TO (by simp)),kO I hq2 (hf i1 (by simp)),kO I hq2 (hf i2 (by simp))⟩
  have zlt:z<s.heap.objs.size:=aD hz
  have hT:s.TypeIs (.ref z) "zip":=⟨_,hz,rfl⟩
  unfold pyNext
  refine aa (gk (cZ (name:=Str.ofString "__next__") hT fQ (cY fQ hT F.entry_zip_next
   (Hf (b:=b) D hz hTI hTO h1 h2 p1 p2 (x:=u1) (y:=u2) (by simpa using hu1) (by simpa using hu2) fun h' a1 a2 a3 a4 a5 a7=>ao ?_) (F.args_zip_next_1 _))))
  refine⟨_,rfl,wpAny_letOwnedTupleGo_zip a1 fun g hz' hs'=>?_⟩
  replace hs':Heap.SameBut z h' g:=hs'
  have kk:∀d ob,d∉[z,TI,TO,i1,i2]->s.heap.get? d=some ob->g.get? d=some ob:=fun d ob hd q=>by
   have hd':d≠z/\d≠TI/\d≠TO/\d≠i1/\d≠i2:=by simpa using hd
   exact hs'.extBut _ _ hd'.1 (a7 d ob hd'.1 hd'.2.2.1 hd'.2.2.2.1 hd'.2.2.2.2 q)
  have hT2:g.get? s.heap.objs.size=some {cls:=.type "tuple",data:=.seq #[u1,u2]}:=hs'.extBut _ _ (dk zlt) a5
  refine⟨.ref s.heap.objs.size,upd H s.heap.objs.size (.tup [x,y]),I.turnedNew (ch:=[z,TI,TO,i1,i2]) (t':=s.toks) (ai _) kk hf ?_,rfl,
   ⟨_,x,y,I.fresh,rfl,rfl,fun zs hq=>by rw[I.sqB_inj hq hq1];exact hx,fun zs hq=>by rw[I.sqB_inj hq hq2];exact hy⟩,
   ⟨hz',hs'.extBut _ _ D.TIz (a7 _ _ D.TIz D.TITO D.TIi1 D.TIi2 hTI),⟨_,_,hs'.extBut _ _ D.TOz a2⟩,a3.at' fun o e=>hs'.extBut _ _ D.i1z e,a4.at' fun o e=>hs'.extBut _ _ D.i2z e⟩,fun d hd=>?_⟩
  ·exact⟨by show 2<=sizeLine;decide,[u1,u2],.cons ru1 (.cons ru2 .nil),⟨_,hT2,rfl,_,rfl⟩⟩
  ·have dlt:d<s.heap.objs.size:=by
    have q:d=z\/d=TI\/d=TO\/d=i1\/d=i2:=by simpa using hd
    rcases q with rfl|rfl|rfl|rfl|rfl
    ·exact zlt
    ·exact aD hTI
    ·exact aD hTO
    ·obtain⟨o,e,_⟩:=h1.obj;exact aD e
    ·obtain⟨o,e,_⟩:=h2.obj;exact aD e
   rw[iL (aP dlt)]
   exact(hf d hd).1
 done:=by
  intro X hP hw hK hc i pins s σ H E I hf st hg
  subst hP hw hK
  obtain⟨hz,hTI,⟨u0,v0,hTO⟩,h1,h2⟩:=st
  obtain⟨xs,ys,hq1,hq2,hlen⟩:=hg
  obtain⟨its1,rv1,p1,hz1⟩:=I.sqB hq1
  obtain⟨its2,rv2,p2,hz2⟩:=I.sqB hq2
  have e1:=rv1.length
  have e2:=rv2.length
  have D:ZipApart z TI TO i1 i2 a c:=⟨D0.TIz,D0.TOz,D0.i1z,D0.i2z,D0.TITO,D0.TIi1,D0.TIi2,D0.TOi1,D0.TOi2,D0.i12,
   kO I hq1 (hf z (by simp)),kO I hq1 (hf TO (by simp)),kO I hq1 (hf i1 (by simp)),kO I hq1 (hf i2 (by simp)),kO I hq2 (hf z (by simp)),kO I hq2 (hf TO (by simp)),kO I hq2 (hf i1 (by simp)),kO I hq2 (hf i2 (by simp))⟩
  have hT:s.TypeIs (.ref z) "zip":=⟨_,hz,rfl⟩
  unfold pyNext
  refine aa (gk (cZ (name:=Str.ofString "__next__") hT fQ (cY fQ hT F.entry_zip_next
   (G3 (b:=b) (I.ok.hd hc) D hz hTI hTO h1 h2 p1 p2 (by rcases hlen with h|h;exact .inl (by simp;lia);exact .inr (by simp;lia)) fun h' e hk he=>?_) (F.args_zip_next_1 _))))
  obtain⟨o,ho,hcl⟩:=he
  refine aa (gS (T:="StopIteration") (b:=true) ⟨o,ho,hcl⟩ isSubtype_stop ?_)
  exact ao ⟨rfl,I.turnedAll (ch:=[z,TI,TO,i1,i2]) (t':=s.toks) (fun d ob hd q=>by
   have hd':d≠z/\d≠TI/\d≠TO/\d≠i1/\d≠i2:=by simpa using hd
   exact hk d ob hd'.1 hd'.2.2.1 hd'.2.2.2.1 hd'.2.2.2.2 q) hf⟩
 self:=fun _ _ _ _ _ st h=>wpAny_pyIter_zip st.1 h
theorem G4{X:Cx}{b:Bool}{elts:List Expr}{x1:Nat}{tpos:Pos}{pins:List (Addr×Obj)}{σ:St}{H1:Hp}{s1:Shared}{R:It->Hp->Prop}{a c:Addr}{xs ys:List V}(I1:Inv X pins σ H1 s1)(hq1:jW b X.K H1 a xs)(hq2:jW b X.K H1 c ys)(q:R (mX b X.K a c) H1):
  wpAny (model X.prog X.w) X.A (call (.type "zip") [.ref a,.ref c]) (fun v s2=>wpAny (model X.prog X.w) X.A (pyIter v) (wu X pins σ (.Tuple elts x1 tpos) R) X.xe s2) X.xe s1:=by
 obtain⟨its1,rv1,p1,hz1⟩:=I1.sqB hq1
 obtain⟨its2,rv2,p2,hz2⟩:=I1.sqB hq2
 refine DA p1 p2 fun h' a1 a2 a3 a4 a5 hk=>?_
 refine wpAny_pyIter_zip a1 ?_
 have I2:Inv X pins σ H1 {s1 with heap:=h'}:=I1.kept (t':=s1.toks) fun b o q=>hk b o q
 have ne:∀i j:Nat,i≠j->s1.heap.objs.size+i≠s1.heap.objs.size+j:=fun i j h e=>h (Nat.add_left_cancel e)
 refine⟨_,[s1.heap.objs.size+4,s1.heap.objs.size+2,s1.heap.objs.size+3,s1.heap.objs.size,s1.heap.objs.size+1],_,_,H1,rfl,I2,Fk b a c _ _ _ _ _ ⟨ne 2 4 (by decide),ne 3 4 (by decide),ne 0 4 (by decide),ne 1 4 (by decide),ne 2 3 (by decide),ne 2 0 (by decide),ne 2 1 (by decide),ne 3 0 (by decide),ne 3 1 (by decide),ne 0 1 (by decide)⟩,
  ⟨a1,a2,⟨_,_,a3⟩,a4,a5⟩,fun d hd=>?_,q⟩
 have hd':d=s1.heap.objs.size+4\/d=s1.heap.objs.size+2\/d=s1.heap.objs.size+3\/d=s1.heap.objs.size\/d=s1.heap.objs.size+1:=by simpa using hd
 have hle:s1.heap.objs.size<=d:=by
  rcases hd' with e|e|e|e|e<;>rw[e]
  ·exact fD _ _
  ·exact fD _ _
  ·exact fD _ _
  ·exact ai _
  ·exact fD _ _
 exact I1.fpOk hle (I1.hok.fresh hle)
def qU(K:PySem.W.Frag)(ta:TA):TI:=fun σ H R=>ta σ H fun vs H1=>∃(b:Bool) (a c:Addr),vs=[.ref a,.ref c]/\(∃xs,jW b K H1 a xs)/\(∃ys,jW b K H1 c ys)/\R (mX b K a c) H1
theorem uG{X:Cx}{elts:List Expr}{x1:Nat}{tpos:Pos}{a c:Expr}{ta:TA}{p pos:Pos}(hg:Gl X "zip")(hm:X.mg "zip"=none)(ha:PA X [a,c] ta)(hs:starEach [a,c] X.env=[(false,eval a X.env),(false,eval c X.env)]:=by rfl)(hs2:starEach [c] X.env=[(false,eval c X.env)]:=by rfl):
  PI X (.Tuple elts x1 tpos) (.Call (.Name "zip" p) [a,c] [] pos) (qU X.K ta):=by
 intro pins s σ H R I h
 refine Call_ (nS I hg hm boot_zip (cJ (iJ (ha pos pins s σ H _ I h) fun us s1 ⟨vs,H1,I1,r1,q1⟩=>?_) (by rw[hs,hs2]) (by rw[hs2];rfl)))
 obtain⟨b,a,c,e,⟨xs,hq1⟩,⟨ys,hq2⟩,q⟩:=q1
 subst e
 cases r1 with
 | cons r rr=>
  cases rr with
  |cons r' rr=>
   cases rr
   cases r
   cases r'
   exact G4 I1 hq1 hq2 q
theorem G7:typeLookup (.type "list") "keys"=pure none:=by rw[typeLookup_type,builtinLookup_eq_fast];kernel_rfl
theorem Hy:typeLookup (.type "list") "__getattr__"=pure none:=by rw[typeLookup_type,builtinLookup_eq_fast];kernel_rfl
theorem vc:isSubtype (.type "AttributeError") (.type "AttributeError")=pure true:=by rw[isSubtype_type];kernel_rfl
section
variable{prog:Program}{w:World}{A:Around}{E:Value->Shared->Prop}{h:Heap}{g:Array GenState}{d:Drawn}{t:Nat}{os:OsState}{a:Addr}{o:Obj}
theorem GD{α:Type}{Q:α->Shared->Prop}{u:Value}{x msg:Str}(hh:A.handled=none)(hm:msg.length<=sizeLine)
  (hE:∀h' e tk,(∀b o,h.get? b=some o->h'.get? b=some o)->(∃o,h'.get? e=some o/\o.cls= .type "AttributeError")->E (.ref e) ⟨h',g,d,tk,os⟩):
  wpAny (model prog w) A (raiseAttrError u x msg:Sem α) Q E ⟨h,g,d,t,os⟩:=by
 unfold raiseAttrError
 refine aa (wpAny_mkStr ?_ hm)
 simp only[newExc,newTuple]
 refine aa (aa (cx ?_ (by size_fits)))
 refine aa (m:=firstArgMember _ _) (eY (a:=Value.none) (by first|rfl|(simp only[firstArgMember];rfl)) ?_)
 refine cx ?_ (by size_fits)
 refine aa (wpAny_mkText ?_)
 dsimp only
 refine aa ?_
 unfold noteAttr
 generalize hh1:h.push {cls:=.type "tuple",data:=.seq #[.str msg t]}=h1
 have k1:∀ b o,h.get? b = some o->h1.get? b = some o:=fun b o q=>by rw [<- hh1]; exact af _ q
 have hg:(h1.push {cls:=.type "AttributeError",data:=.fields #[.ref h.objs.size,.none,.none,.none,.bool false,.none,unsetMember,unsetMember]}).get? h1.objs.size=some _:=aI _ rfl
 have k2:∀b o,h.get? b=some o->(h1.push {cls:=.type "AttributeError",data:=.fields #[.ref h.objs.size,.none,.none,.none,.bool false,.none,unsetMember,unsetMember]}).get? b=some o:=fun b o q=>af _ (k1 b o q)
 have nb:∀b o,h.get? b=some o->b≠h1.objs.size:=fun b o q=>aP (aD (k1 b o q))
 show wpAny _ _ (lacksNameAndObj (.ref h1.objs.size)>>=_) _ _ ⟨h1.push {cls:=.type "AttributeError",data:=.fields #[.ref h.objs.size,.none,.none,.none,.bool false,.none,unsetMember,unsetMember]},g,d,t+1+1,os⟩
 generalize hh2:h1.push {cls:=.type "AttributeError",data:=.fields #[.ref h.objs.size,.none,.none,.none,.bool false,.none,unsetMember,unsetMember]}=h2 at hg k2
 generalize h1.objs.size=e at hg nb
 clear hh2 k1 hh1
 have hT:(⟨h2,g,d,t+1+1,os⟩:Shared).TypeIs (.ref e) "AttributeError":=⟨_,hg,rfl⟩
 refine aa ?_
 unfold lacksNameAndObj
 refine aa (gS hT vc ?_)
 simp only[eG,aW,if_false]
 refine aa (wpAny_load hg ?_)
 show wpAny _ _ (pure true) _ _ _
 refine ao ?_
 simp only[if_true]
 refine aa (cM (aa (dY hT ?_)))
 show wpAny _ _ (layMembers e 6 #[_,u]) _ _ _
 unfold layMembers
 refine aa (wpAny_load hg ?_)
 show wpAny _ _ (update e _) _ _ _
 refine wpAny_update hg ?_
 refine wpAny_raiseNew_none hh (hE _ _ _ (fun b o q=>?_) ⟨_,cR _ hg rfl,rfl⟩)
 exact(bF _ _ (nb b o q).symm).trans (k2 b o q)
theorem G8{tk:Tok}{Q:PySem.Fin->Shared->Prop}{its:Array Value}{n:Nat}(hx:h.get? a=some {cls:=.type "list",dict:=none,data:=.seq its n,slots:=#[]})(hh:A.handled=none)
  (hE:∀h' e tk,(∀b o,h.get? b=some o->h'.get? b=some o)->(∃o,h'.get? e=some o/\o.cls= .type "AttributeError")->E (.ref e) ⟨h',g,d,tk,os⟩):
  wpAny (model prog w) A (Builtin.«object.__getattribute__» ⟨[.ref a,.str "keys" tk],[]⟩) Q E ⟨h,g,d,t,os⟩:=by
 have hT:(⟨h,g,d,t,os⟩:Shared).TypeIs (.ref a) "list":=⟨_,hx,rfl⟩
 have f4:=G7
 repeat(any_goals (first|assumption|wp_step))
 refine GD hh (by decide+kernel) hE
theorem FS{tk:Tok}{Q:Value->Shared->Prop}{its:Array Value}{n:Nat}(hx:h.get? a=some {cls:=.type "list",dict:=none,data:=.seq its n,slots:=#[]})(hh:A.handled=none)
  (hE:∀h' e tk,(∀b o,h.get? b=some o->h'.get? b=some o)->(∃o,h'.get? e=some o/\o.cls= .type "AttributeError")->E (.ref e) ⟨h',g,d,tk,os⟩):
  wpAny (model prog w) A (getAttrBy (.ref a) (.str "keys" tk) false) Q E ⟨h,g,d,t,os⟩:=by
 have hT:(⟨h,g,d,t,os⟩:Shared).TypeIs (.ref a) "list":=⟨_,hx,rfl⟩
 have f2:=dR.lookup
 have f3:=dR.bind (.ref a)
 repeat(any_goals (first|assumption|wp_step))
 refine codeAny_call_builtin dR.plain F.entry_list_ga (dR.check _ _ _ _ _ _ _ _ (show(⟨h,g,d,t,os⟩:Shared).TypeIs (.ref a) "list" from⟨_,hx,rfl⟩) (F.args_list_getattribute_2 _ _) (G8 hx ?_ ?_))
 ·exact hh
 ·intro h' e tk k q
  obtain⟨oe,he,hc⟩:=q
  have hT2:(⟨h',g,d,tk,os⟩:Shared).TypeIs (.ref e) "AttributeError":=⟨_,he,hc⟩
  have f5:=vc
  have f6:=Hy
  show wpAny _ A (getattributeRaised (Value.ref a) _ (Value.type "list") (.ref e) none false false) _ _ _
  have done:=hE h' e tk k ⟨oe,he,hc⟩
  unfold getattributeRaised
  repeat(any_goals (first|assumption|wp_step))
theorem xH{Q:Option Value->Shared->Prop}{its:Array Value}{n:Nat}(hx:h.get? a=some {cls:=.type "list",dict:=none,data:=.seq its n,slots:=#[]})(hh:A.handled=none)
  (hq:∀h' tk,(∀b o,h.get? b=some o->h'.get? b=some o)->Q none ⟨h',g,d,tk,os⟩):wpAny (model prog w) A (getAttr? (.ref a) "keys") Q E ⟨h,g,d,t,os⟩:=by
 unfold getAttr? getAttrBy?
 refine aa (wpAny_mkText (aa (gk (FS hx hh fun h' e tk k q=>?_))))
 obtain⟨oe,he,hc⟩:=q
 refine aa (gS (T:="AttributeError") (b:=true) ⟨_,he,hc⟩ vc ?_)
 exact ao (hq h' tk k)
end
theorem sm:entryFor table "dict.update.loop"=some Builtin.«dict.update.loop»:=entryFor_of_fast (by kernel_rfl)
theorem nD:plainId "dict.update.loop"=true:=by decide+kernel
theorem GG{K:Type}[DecidableEq K](kvs:List (K×Value))(k:K)(v:Value):(stored kvs k v).length<=kvs.length+1:=by
 unfold stored
 split
 ·rw[ae];lia
 ·rw[aB];exact ai _
section
variable{prog:Program}{w:World}{A:Around}{E:Value->Shared->Prop}{K:Type}[DecidableEq K]{knd:KeyKind prog w K}{R:Result->Shared->Prop}
theorem FC{d it l:Addr}{its:Array Value}{more:List (K×Value)}(hh:A.handled=none)(hlen:more.length=its.size)(hsz:its.size<=1000)(hdl:l≠d)(hdi:it≠d)(hil:l≠it):
  ∀(k i:Nat) (tk0:Tok) (s:Shared) (kvs:List (K×Value)),its.size-i=k->i<=its.size->kvs.length<=i->s.heap.IsListIter it l i->s.heap.IsList l its->s.heap.DictOf knd d kvs->
   (∀(j:Nat) (q:K×Value),more[j]? =some q->∃t kv,its[j]? =some (.ref t)/\s.heap.IsTuple t #[kv,q.2]/\knd.is q.1 kv=true)->
   (∀h' tk,h'.DictOf knd d (merged kvs (more.drop i))->(∀b o,b≠d->b≠it->s.heap.get? b=some o->h'.get? b=some o)->R (.ok (.ret .none)) {s with heap:=h',toks:=tk})->
   codeAny (model prog w) A (.builtin "dict.update.loop" ⟨[.ref d,.ref it,.int i tk0,.none],[]⟩) R s:=by
 intro k
 induction k with
 |zero=>
  intro i tk0 s kvs hk hi hkl hit hl hd hp hR
  have e:i=its.size:=by lia
  subst e
  refine cS sm ?_
  rw[cv nD _]
  show wpAny _ A.in1 (pyNext (.ref it)>>=_) _ _ s
  refine aa (fS hh hit hl (by simp) fun h' eb=>?_)
  show wpAny _ A.in1 (Builtin.Dict.addKeywords d []>>=_) _ _ _
  refine aa (ao (ao ?_))
  refine hR h' s.toks ?_ fun b o _ hb q=>eb b o hb q
  rw[dq (by lia)]
  exact hd.extBut eb hdi.symm
 | succ k ih=>
  intro i tk0 s kvs hk hi hkl hit hl hd hp hR
  have hlt:i<its.size:=by lia
  have hlm:i<more.length:=by lia
  obtain⟨t,kv,hu,ht,hkey⟩:=hp i more[i] (by simp[hlm])
  refine cS sm ?_
  rw[cv nD _]
  show wpAny _ A.in1 (pyNext (.ref it)>>=_) _ _ s
  refine aa (fF hit hl hu fun h1 hit1 sb1=>?_)
  have nti:t≠it:=fun z=>by
   subst z
   obtain⟨o,e1,c1,_⟩:=ht
   obtain⟨o',e2,c2,_⟩:=hit
   rw[e1]at e2;cases e2;rw[c1]at c2;exact absurd c2 (by decide)
  have ntd:t≠d:=fun z=>by
   subst z
   obtain⟨o,e1,c1,_⟩:=ht
   obtain⟨o',_,_,e2,c2,_⟩:=hd
   rw[e1]at e2;cases e2;rw[c2.1]at c1;exact absurd c1 (by decide)
  have ht1:h1.IsTuple t #[kv,more[i].2]:=ht.extBut sb1.extBut nti
  have hd1:h1.DictOf knd d kvs:=hd.extBut sb1.extBut hdi.symm
  show wpAny _ A.in1 (holding [.ref t] _>>=_) _ _ _
  refine aa (bV ?_)
  refine aa (m:=(Builtin.Dict.pairItems (.ref t)).tryCatch _) ?_
  refine dD ?_
  unfold Builtin.Dict.pairItems
  refine aa (dY ht1.typeIs ?_)
  obtain⟨ot,e1,c1,n1,d1⟩:=id ht1
  rw[aq (by decide)]
  refine aa (bM e1 d1 ?_)
  refine ao ?_
  show wpAny _ A.in1 (holding [kv,more[i].2] (dictSet d kv more[i].2)) _ _ _
  refine bV (wpAny_dictSet_pairs hkey hd1 (fun h2 hd2 sb2=>?_) (by have:=(by decide:1000<=sizeLine);lia))
  replace sb2:Heap.SameBut d h1 h2:=sb2
  have kk:∀b o,b≠d->b≠it->s.heap.get? b=some o->h2.get? b=some o:=fun b o b1 b2 q=>sb2.extBut b o b1 (sb1.extBut b o b2 q)
  refine ao ⟨cK nD _,?_⟩
  have hik:((i:Int)+1)=((i+1:Nat):Int):=by lia
  show codeAny _ _ (.builtin "dict.update.loop" ⟨[.ref d,.ref it,rawInt ((i:Int)+1),.none],[]⟩) _ _
  rw[hik]
  refine ih (i+1) 0 _ (stored kvs more[i].1 more[i].2) (by lia) (by lia) ?_ (hit1.extBut sb2.extBut hdi) ((hl.extBut sb1.extBut hil).extBut sb2.extBut hdl) hd2 ?_ ?_
  ·have:=GG kvs more[i].1 more[i].2
   lia
  ·intro j q hq
   obtain⟨t',kv',a1,a2,a3⟩:=hp j q hq
   have n1:t'≠it:=fun z=>by
    subst z
    obtain⟨o,e1,c1,_⟩:=a2
    obtain⟨o',e2,c2,_⟩:=hit
    rw[e1]at e2;cases e2;rw[c1]at c2;exact absurd c2 (by decide)
   have n2:t'≠d:=fun z=>by
    subst z
    obtain⟨o,e1,c1,_⟩:=a2
    obtain⟨o',_,_,e2,c2,_⟩:=hd
    rw[e1]at e2;cases e2;rw[c2.1]at c1;exact absurd c1 (by decide)
   exact⟨t',kv',a1,(a2.extBut sb1.extBut n1).extBut sb2.extBut n2,a3⟩
  ·intro h' tk hd' k'
   refine hR h' tk ?_ fun b o b1 b2 q=>k' b o b1 b2 (kk b o b1 b2 q)
   rw[cC hlm]
   exact hd'
theorem Ho{l:Addr}{its:Array Value}{c:Nat}{more:List (K×Value)}{s:Shared}{Q:Value->Shared->Prop}(hh:A.handled=none)(hl:s.heap.get? l=some {cls:=.type "list",dict:=none,data:=.seq its c,slots:=#[]})(hlen:more.length=its.size)(hsz:its.size<=1000)
  (hp:∀(j:Nat) (q:K×Value),more[j]? =some q->∃t kv,its[j]? =some (.ref t)/\s.heap.IsTuple t #[kv,q.2]/\knd.is q.1 kv=true)
  (h:∀h' tk,h'.DictOf knd s.heap.objs.size (merged [] more)->(∀b o,s.heap.get? b=some o->h'.get? b=some o)->Q (.ref s.heap.objs.size) {s with heap:=h',toks:=tk}):
  wpAny (model prog w) A (call (.type "dict") [.ref l]) Q E s:=by
 refine callType_codes (Q₁:=fun obj s₁=>obj= .ref s.heap.objs.size/\s₁={s with heap:=s.heap.push {cls:=.type "dict",data:=.dict #[]}}) F.kt_called_dict (F.kt_typeCall_dict_1 _) F.entry_dict_init (kt_code_dict_new _ ⟨rfl,rfl⟩) ?_
 rintro obj s₁ ⟨rfl,rfl⟩
 have hnew:(s.heap.push {cls:=.type "dict",data:=.dict #[]}).DictOf knd s.heap.objs.size []:=Heap.DictOf.new s.heap
 have hl1:(s.heap.push {cls:=.type "dict",data:=.dict #[]}).get? l=some {cls:=.type "list",dict:=none,data:=.seq its c,slots:=#[]}:=af _ hl
 have k1:∀b o,s.heap.get? b=some o->(s.heap.push {cls:=.type "dict",data:=.dict #[]}).get? b=some o:=fun b o q=>af _ q
 have llt:l<s.heap.objs.size:=aD hl
 generalize s.heap.push {cls:=.type "dict",data:=.dict #[]}=h1 at hnew hl1 k1
 refine⟨hnew.typeIs,F.args_dict_init_2 _ _,?_⟩
 unfold Builtin.«dict.__init__»
 refine aa ?_
 unfold Builtin.Dict.selfAndRest
 refine aa (wpAny_notOrdered_dict hnew.typeIs ?_)
 show wpAny _ _ (pure (s.heap.objs.size,[Value.ref l])) _ _ _
 refine ao ?_
 show wpAny _ _ (Builtin.Dict.updateFrom "dict.__init__" s.heap.objs.size (.ref l) [] .none) _ _ _
 unfold Builtin.Dict.updateFrom
 refine aa (dY (T:="list") ⟨_,hl1,rfl⟩ ?_)
 rw[aq (by decide)]
 refine aa (xH hl1 hh fun h2 tk2 k2=>?_)
 have hl2:=k2 _ _ hl1
 have hd2:h2.DictOf knd s.heap.objs.size []:=let⟨o,es,ep,ho,r⟩:=hnew;⟨o,es,ep,k2 _ _ ho,r⟩
 have dlt:s.heap.objs.size<h2.objs.size:=by obtain⟨_,_,_,ho,_⟩:=hd2;exact aD ho
 simp only[Option.isNone_none,if_true]
 refine aa (cM ?_)
 have hL:Heap.IsList h2 l its:=⟨_,hl2,rfl,_,rfl⟩
 refine aa (dZ (s:={s with heap:=h2,toks:=tk2}) hL ?_)
 refine ao ⟨cK nD _,?_⟩
 have hit:(h2.push {cls:=.type "list_iterator",data:=.fields #[.ref l,.int 0 0]}).IsListIter h2.objs.size l 0:=⟨_,aI _ rfl,rfl,rfl⟩
 refine FC (A:=A.in1) (knd:=knd) (more:=more) hh hlen hsz (aP llt) (dk dlt) (aP (Nat.lt_trans llt dlt)) its.size 0 0 {s with heap:=h2.push {cls:=.type "list_iterator",data:=.fields #[.ref l,.int 0 0]},toks:=tk2} [] rfl (bj _) (ai _) hit (hL.push _) (hd2.push _) ?_ ?_
 ·intro j q hq
  obtain⟨t,kv,a1,a2,a3⟩:=hp j q hq
  obtain⟨o,e,r⟩:=a2
  exact⟨t,kv,a1,⟨o,af _ (k2 _ _ (k1 _ _ e)),r⟩,a3⟩
 ·intro h' tk hd' k'
  rw[dE]at hd'
  refine⟨rfl,h h' tk hd' fun b o q=>k' b o (aP (aD q)) (aP (aD (k2 _ _ (k1 _ _ q)))) (af _ (k2 _ _ (k1 _ _ q)))⟩
end
def PairAt(H:Hp)(v:V)(p:iF×V):Prop:=∃t,v= .ref t/\H t=some (.tup [kV p.1,p.2])
def CF(K:PySem.W.Frag):List V->Hp->VK->Prop:=fun vs H Q=>∃l xs kvs,vs=[.ref l]/\H l=some (.lst xs)/\Paired (PairAt H) xs kvs/\xs.length<=1000/\(kvs.map (·.1)).Nodup/\∀d,H d=none->Q (.ref d) (upd H d (.dK kvs))
theorem AE{X:Cx}{pins:List (Addr×Obj)}{σ:St}{H:Hp}{s:Shared}(I:Inv X pins σ H s):∀{xs:List V} {kvs:List (iF×V)} {its:List Value},Paired (PairAt H) xs kvs->Vals xs its->
  ∃more:List (iF×Value),KV kvs more/\∀(j:Nat) (q:iF×Value),more[j]? =some q->∃t kv,its[j]? =some (.ref t)/\s.heap.IsTuple t #[kv,q.2]/\(jO X.prog X.w).is q.1 kv=true
 |_,_,_,.nil,.nil=>⟨[],.nil,fun j q h=>by simp at h⟩
 | _,_,_,.cons hp tp,.cons rv tr=>by
  obtain⟨more,hk,hm⟩:=AE I tp tr
  obtain⟨t,rfl,ht⟩:=hp
  cases rv
  obtain⟨_,its',rt,hi⟩:=I.hok t _ ht
  obtain⟨u1,u2,rfl,r1,r2⟩:=rt.two
  refine⟨(_,u2)::more,.cons ⟨rfl,r2⟩ hk,fun j q h=>?_⟩
  cases j with
  |zero=>
   simp at h
   subst h
   exact⟨t,u1,rfl,hi,mL r1⟩
  |succ j=>
   obtain⟨t',kv,a1,a2,a3⟩:=hm j q (by simpa using h)
   exact⟨t',kv,by simpa using a1,a2,a3⟩
theorem Gh{X:Cx}(hc:X.calm=true):jc2 X (.type "dict") (CF X.K):=by
 intro pins s σ H vs us Q I rv h
 obtain⟨l,xs,kvs,rfl,hl,hp,hz,hn,q⟩:=h
 obtain⟨u,rfl,ru⟩:=rv.one
 cases ru
 obtain⟨z,its,n,r,hlen,e⟩:=I.lstM hl
 obtain⟨more,hkv,hm⟩:=AE I hp r
 have hlm:kvs.length=more.length:=aw hkv
 have hlx:xs.length=kvs.length:=aw hp
 refine Ho (knd:=jO X.prog X.w) (more:=more) (I.ok.hd hc) e (by rw[ah];lia) (by rw[ah];lia) (fun j q hj=>?_) fun h' tk dd k=>?_
 ·obtain⟨t,kv,a1,a2,a3⟩:=hm j q hj
  exact⟨t,kv,by simpa using a1,a2,a3⟩
 ·refine⟨.ref s.heap.objs.size,upd H s.heap.objs.size (.dK kvs),I.laid k (ai _) ?_,rfl,q _ I.fresh⟩
  rw [merged_nil_of_nodup more (by rw [<- hkv.keys]; exact hn)] at dd
  exact tW (by have:=(by decide:1000<=sizeLine);lia) (by have:=I.big;exact beq_false_of_ne (dk this)) hkv dd
def xT(f:List Bool->Bool):List V->Hp->VK->Prop:=fun vs H Q=>∃l bs,vs=[.ref l]/\H l=some (.lst (bs.map V.bl))/\Q (.bl (f bs)) H
theorem Fp{bs:List Bool}{tr:Nat->Bool}(h:∀i b,bs[i]? =some b->tr i=b):(List.range bs.length).all tr=bs.all id:=by
 rw[dW,eF,eF]
 constructor
 ·intro q b hb
  obtain⟨i,hi,e⟩:=bq.mp hb
  have:=q i (aU.mpr hi)
  rw[h i b (by rw[gE hi,e])]at this
  exact this
 ·intro q i hi
  have hi':=aU.mp hi
  rw[h i bs[i] (gE hi')]
  exact q _ (df hi')
theorem zd:∀{bs:List Bool} {us:List Value},Vals (bs.map V.bl) us->us=bs.map Value.bool
 |[],_,.nil=>rfl
 |b::r,_,.cons q t=>by
  cases(show _=Value.bool b from q)
  rw[zd t]
  rfl
theorem En{X:Cx}(hc:X.calm=true):jc2 X (.builtin "all") (xT fun bs=>bs.all id):=by
 intro pins s σ H vs us Q I rv h
 obtain⟨l,bs,rfl,hl,q⟩:=h
 obtain⟨u,rfl,ru⟩:=rv.one
 cases ru
 obtain⟨z,its,n,r,hlen,e⟩:=I.lstM hl
 have e2:=zd r
 subst e2
 have llt:l<s.heap.objs.size:=aD e
 have hL:s.heap.IsList l (bs.map Value.bool).toArray:=⟨_,e,rfl,_,rfl⟩
 refine call_all_walk (dZ hL ⟨s.heap.objs.size,[s.heap.objs.size,l],[s.heap.objs.size],_,_,_,fun i=>bs[i]?.getD true,rfl,Walks.list (A:=X.A.in1) (show X.A.in1.handled=none from I.ok.hd hc) s.heap.objs.size l (aP llt) (bs.map Value.bool).toArray,
  (show Heap.IsListIter _ _ _ _/\Heap.IsList _ _ _ from⟨⟨_,aI _ rfl,rfl,rfl⟩,hL.push _⟩),fun i v s' Q' E' hv hq=>?_,fun h' tk k=>?_⟩)
 ·have hv':(bs.map Value.bool)[i]? =some v:=by simpa using hv
  rw[aE]at hv'
  cases eb:bs[i]? with
  |none=>rw[eb]at hv';cases hv'
  |some b=>
   rw[eb]at hv'
   cases hv'
   have hq':Q' b s':=by dsimp only at hq;rw[eb]at hq;exact hq
   exact ao hq'
 ·have ez:((bs.map Value.bool).toArray).size=bs.length:=by simp
  rw[ez,Fp (bs:=bs) (tr:=fun i=>bs[i]?.getD true) (fun i b hb=>by rw[hb];rfl)]
  refine⟨.bl _,H,I.kept fun b o qq=>k b o ?_ (af _ qq),rfl,q⟩
  intro hb
  have:b=s.heap.objs.size:=by simpa using hb
  subst this
  exact absurd (aD qq) (cw _)
inductive Knd(H:Hp):V->String->Prop where
 |non:Knd H .non "NoneType"
 |bl {x:Bool}:Knd H (.bl x) "bool"
 |int {i:Int}:Knd H (.int i) "int"
 |str {x:Str}:Knd H (.str x) "str"
 |lst {a:Addr} {xs:List V} (e:H a=some (.lst xs)):Knd H (.ref a) "list"
 |tup {a:Addr} {xs:List V} (e:H a=some (.tup xs)):Knd H (.ref a) "tuple"
 |dK {a:Addr} {kvs:List (iF×V)} (e:H a=some (.dK kvs)):Knd H (.ref a) "dict"
theorem Knd.ty{K:PySem.W.Frag}{H:Hp}{v:V}{n:String}(h:Knd H v n):TyOf K H v (.type n):=by
 cases h with
 |non=>exact .non
 |bl=>exact .bl _
 |int=>exact .int _
 |str=>exact .str _
 |lst e=>exact .lst e
 |tup e=>exact .tup e
 |dK e=>exact .dK e
noncomputable def vN(a b:String):Bool:=a==b||(a=="bool"&&b=="int")
noncomputable def mM:List String:=["NoneType","bool","int","str","list","tuple","dict"]
theorem DQ{K:PySem.W.Frag}:∀a∈mM,∀b∈mM,PySem.W.kitOne K (.type a) (.type b)=some (vN a b):=by
 intro a ha b hb
 have ha':a="NoneType"\/a="bool"\/a="int"\/a="str"\/a="list"\/a="tuple"\/a="dict":=by simpa[mM]using ha
 have hb':b="NoneType"\/b="bool"\/b="int"\/b="str"\/b="list"\/b="tuple"\/b="dict":=by simpa[mM]using hb
 rcases ha' with rfl|rfl|rfl|rfl|rfl|rfl|rfl<;>rcases hb' with rfl|rfl|rfl|rfl|rfl|rfl|rfl<;>rfl
def CB:List V->Hp->VK->Prop:=fun vs H Q=>∃x n T,vs=[x,.ty T]/\Knd H x n/\T∈mM/\Q (.bl (vN n T)) H
theorem Knd.mem{H:Hp}{v:V}{n:String}(h:Knd H v n):n∈mM:=by cases h<;>simp[mM]
theorem Eo{X:Cx}:jc2 X (.builtin "isinstance") CB:=by
 intro pins s σ H vs us Q I rv h
 obtain⟨x,n,T,rfl,hk,hT,q⟩:=h
 obtain⟨u1,u2,rfl,r1,r2⟩:=rv.two
 cases(show u2=Value.type T from r2)
 exact FK I r1 hk.ty (DQ n hk.mem T hT) fun tk=>⟨.bl _,H,I.tok tk,rfl,q⟩
section
variable{X:Cx}{e a b c o i:Expr}{es:List Expr}{t t' ta tb tc td te:TE}{pos p p2:Pos}
theorem PE.imp(h:PE X e t)(hi:∀σ H Q,t' σ H Q->t σ H Q):PE X e t':=fun pins s σ H Q I q=>h pins s σ H Q I (hi σ H Q q)
theorem PG.imp{t t':TG}(h:PG X e t)(hi:∀v σ H Q,t' v σ H Q->t v σ H Q):PG X e t':=fun pins s σ H v u Q I r q=>h pins s σ H v u Q I r (hi v σ H Q q)
theorem PGs.imp{t t':k8}(h:PGs X es t)(hi:∀v σ H Q,t' v σ H Q->t v σ H Q):PGs X es t':=fun pins s σ H v u Q I r q=>h pins s σ H v u Q I r (hi v σ H Q q)
theorem OpR.imp{f:Value->Value->Sem Value}{r r':R2}(h:OpR X f r)(hi:∀x y H Q,r' x y H Q->r x y H Q):OpR X f r':=fun pins s σ H x y v u Q I rx ry q=>h pins s σ H x y v u Q I rx ry (hi x y H Q q)
theorem jc2.imp{f:Value}{r r':List V->Hp->VK->Prop}(h:jc2 X f r)(hi:∀vs H Q,r' vs H Q->r vs H Q):jc2 X f r':=fun pins s σ H xs us Q I rv q=>h pins s σ H xs us Q I rv (hi xs H Q q)
theorem IxR.imp{r r':R2}(h:IxR X r)(hi:∀x y H Q,r' x y H Q->r x y H Q):IxR X r':=fun value slice pins s σ H x y v u Q I rx ry q hs=>h value slice pins s σ H x y v u Q I rx ry (hi x y H Q q) hs
theorem MtR.imp{id:String}{r r':V->List V->Hp->VK->Prop}(h:MtR X id r)(hi:∀x vs H Q,r' x vs H Q->r x vs H Q):MtR X id r':=fun pins s σ H x xs v us Q I rx rv q=>h pins s σ H x xs v us Q I rx rv (hi x xs H Q q)
theorem PSet.imp{t t':oh}(h:PSet X t)(hi:∀o i v H Q,t' o i v H Q->t o i v H Q):PSet X t':=fun pins s σ H o i v ov iv u Q I r1 r2 r3 q=>h pins s σ H o i v ov iv u Q I r1 r2 r3 (hi o i v H Q q)
theorem SlR.imp{r r':V->Option Int->Option Int->Hp->VK->Prop}(h:SlR X r)(hi:∀x l u H Q,r' x l u H Q->r x l u H Q):SlR X r':=fun pins s σ H x v vl vu lo hi' sl Q I rx hs pl pu q=>h pins s σ H x v vl vu lo hi' sl Q I rx hs pl pu (hi x lo hi' H Q q)
noncomputable def kf(i:Nat):TE:=fun σ H Q=>match σ[i]? with
 |some (some v)=>Q v H
 |_=>False
theorem qv(i:Nat){x:Str}{pos:Pos}(hN:X.N[i]? =some x:=by rfl)(hv:sO X.env.scope x:=by first|exact Or.inl rfl|exact Or.inr (Or.inl rfl)|exact Or.inr (Or.inr rfl))(hd:(x==("__debug__":Str))=false:=by decide)
  (hcd:(x==("__classdict__":Str))=false:=by decide):PE X (.Name x pos) (kf i):=(CT hN hv hd hcd).imp fun σ H Q q=>by
 unfold kf at q
 split at q
 ·rename_i v e;exact⟨v,e,q⟩
 ·exact q.elim
noncomputable def fI(g:Int->Int->V):R2:=fun x y H Q=>match x,y with
 | .int i,.int j=>Q (g i j) H
 |_,_=>False
def fIC(C:Int->Int->Prop)(g:Int->Int->V):R2:=fun x y H Q=>match x,y with
 | .int i,.int j=>C i j/\Q (g i j) H
 |_,_=>False
theorem fI.r{g:Int->Int->V}{x y:V}{H:Hp}{Q:VK}(h:fI g x y H Q):mn g x y H Q:=by
 unfold fI at h
 split at h
 ·exact⟨_,_,rfl,rfl,h⟩
 ·exact h.elim
theorem fIC.r{C:Int->Int->Prop}{g:Int->Int->V}{x y:V}{H:Hp}{Q:VK}(h:fIC C g x y H Q):rI C g x y H Q:=by
 unfold fIC at h
 split at h
 ·exact⟨_,_,rfl,rfl,h.1,h.2⟩
 ·exact h.elim
theorem jv:OpR X (binaryOp .Add) (fI fun i j=>.int (i+j)):=Dd.imp fun _ _ _ _=>fI.r
theorem qY:OpR X (binaryOp .Sub) (fI fun i j=>.int (i-j)):=CZ.imp fun _ _ _ _=>fI.r
theorem lK:OpR X (binaryOp .Mult) (fIC CMul fun i j=>.int (i*j)):=C3.imp fun _ _ _ _=>fIC.r
theorem nQ:OpR X (binaryOp .Mod) (fIC (fun _ j=>0<j) fun i j=>.int (i%j)):=C4.imp fun _ _ _ _=>fIC.r
theorem xQ:OpR X (binaryOp .FloorDiv) (fIC sU fun i j=>.int (i/j)):=DY.imp fun _ _ _ _=>fIC.r
theorem qX:OpR X (binaryOp .Pow) (fIC sT fun i j=>.int (i^j.toNat)):=C0.imp fun _ _ _ _=>fIC.r
theorem ow:OpR X (compareOp .Lt) (fI fun i j=>.bl (decide (i<j))):=C6.imp fun _ _ _ _=>fI.r
theorem nK:OpR X (compareOp .LtE) (fI fun i j=>.bl (decide (i<=j))):=C7.imp fun _ _ _ _=>fI.r
theorem qG:OpR X (compareOp .Gt) (fI fun i j=>.bl (decide (i>j))):=C8.imp fun _ _ _ _=>fI.r
theorem sZ:OpR X (compareOp .GtE) (fI fun i j=>.bl (decide (i ≥ j))):=C9.imp fun _ _ _ _=>fI.r
theorem ui:oi X .Add (fI fun i j=>.int (i+j)):=fun pins s σ H x y v u Q I rx ry q=>DL pins s σ H x y v u Q I rx ry q.r
noncomputable def vS:V->Hp->VK->Prop:=fun x H Q=>match x with
 | .int i=>Q (.int (-i)) H
 |_=>False
theorem ni:sP X (unaryOp .USub) vS:=fun pins s σ H x v Q I rx q=>by
 cases x<;>first
  |exact False.elim q
  |exact BO pins s σ H _ v Q I rx ⟨_,rfl,q⟩
noncomputable def wb:R2:=fun x y H Q=>match x,y with
 | .int i,.int j=>Q (.bl (decide (i=j))) H
 | .bl i,.bl j=>Q (.bl (decide (i=j))) H
 | .str i,.str j=>Q (.bl (decide (i=j))) H
 |_,_=>False
def vT:R2:=fun x y H Q=>match x,y with
 | .int i,.int j=>Q (.bl (!decide (i=j))) H
 | .bl i,.bl j=>Q (.bl (!decide (i=j))) H
 | .str i,.str j=>Q (.bl (!decide (i=j))) H
 |_,_=>False
theorem dI(i j:Int):decide (V.int i=V.int j)=decide (i=j):=by simp
theorem dB(i j:Bool):decide (V.bl i=V.bl j)=decide (i=j):=by simp
theorem dS(i j:Str):decide (V.str i=V.str j)=decide (i=j):=by simp
theorem qH:OpR X (compareOp .Eq) wb:=Da.imp fun x y H Q h=>by
 unfold wb at h
 split at h
 ·exact⟨rfl,by rw[dI];exact h⟩
 ·exact⟨rfl,by rw[dB];exact h⟩
 ·exact⟨rfl,by rw[dS];exact h⟩
 ·exact h.elim
theorem qF:OpR X (compareOp .NotEq) vT:=C1.imp fun x y H Q h=>by
 unfold vT at h
 split at h
 ·exact⟨rfl,by rw[dI];exact h⟩
 ·exact⟨rfl,by rw[dB];exact h⟩
 ·exact⟨rfl,by rw[dS];exact h⟩
 ·exact h.elim
noncomputable def pI:V->Bool
 | .non=>true
 |_=>false
def sF(f:Bool->Bool):R2:=fun x y H Q=>match y with
 | .non=>Q (.bl (f (pI x))) H
 |_=>False
theorem dN(x:V):decide (x=V.non)=pI x:=by cases x<;>simp[pI]
theorem CH:OpR X (compareOp .IsNot) (sF not):=DZ.imp fun x y H Q h=>by
 unfold sF at h
 split at h
 ·exact⟨rfl,by rw[dN];exact h⟩
 ·exact h.elim
noncomputable def Bo(ta tb:TE):TE:=fun σ H Q=>ta σ H fun x H1=>match x with
 | .bl c=>if c=true then tb σ H1 Q else Q (.bl false) H1
 |_=>False
def Ii(ta tb:TE):TE:=fun σ H Q=>ta σ H fun x H1=>match x with
 | .bl c=>if c=true then Q (.bl true) H1 else tb σ H1 Q
 |_=>False
def Bk(ta:TE):TE:=fun σ H Q=>ta σ H fun x H1=>match x with
 | .bl c=>Q (.bl (!c)) H1
 |_=>False
def fB(t:TE):TT:=fun σ H Q=>t σ H fun x H1=>match x with
 | .bl c=>Q c H1
 |_=>False
variable{rest:List Expr}
theorem lh(ha:PE X a ta)(hb:PE X (.BoolOp .And (b::rest) pos) tb):PE X (.BoolOp .And (a::b::rest) pos) (Bo ta tb):=by
  intro pins s σ H Q I h
  refine BoolOp_and (iJ (ha pins s σ H _ I h) fun v s1 ⟨x,H1,I1,r1,q1⟩=>?_)
  cases x<;>first
    |exact False.elim q1
    | (rename_i c
       cases r1
       refine bR ?_
       cases c with
       |true=>exact hb pins s1 σ H1 Q I1 q1
       |false=>exact⟨.bl false,H1,I1,rfl,q1⟩)
theorem CI(ha:PE X a ta):PE X (.UnaryOp .Not a pos) (Bk ta):=by
  intro pins s σ H Q I h
  refine UnaryOp_ (iJ (ha pins s σ H _ I h) fun v s1 ⟨x,H1,I1,r1,q1⟩=>?_)
  cases x<;>first
    |exact False.elim q1
    | (rename_i c
       cases r1
       exact not_of (bR ⟨.bl (!c),H1,I1,rfl,q1⟩))
theorem kU {t:TE} (h:PE X e t) (he:∀ whole,isTrue e X.env whole = (do let v <- whole; standAt e.pos; holding [v] (truthy v)):=by intro _; rfl):PT X e (fB t):=by
  intro pins s σ H Q I hw
  refine isTrue_plain (iJ (h pins s σ H _ I hw) fun v s1 ⟨x,H1,I1,r1,q1⟩=>?_) (he _)
  cases x<;>first
    |exact False.elim q1
    | (cases r1
       exact bR ⟨H1,I1,q1⟩)
theorem kH{op:CmpOp}{r:R2}(ho:OpR X (compareOp op) r)(ha:PE X a ta)(hb:PE X b tb)(hm:behindInMarks op b=false):PT X (.Compare a [op] [b] pos) (fB (nI r ta tb)):=by
  intro pins s σ H Q I h
  refine fT (iJ (ha pins s σ H _ I h) fun v s1 ⟨x,H1,I1,r1,q1⟩=>iJ (hb pins s1 σ H1 _ I1 q1) fun u s2 ⟨y,H2,I2,r2,q2⟩=>
    iJ (ho pins s2 σ H2 x y v u _ I2 r1 r2 q2) fun c s3 ⟨z,H3,I3,r3,q3⟩=>?_) hm
  cases z<;>first
    |exact False.elim q3
    | (cases r3
       exact bR ⟨H3,I3,q3⟩)
theorem tS{op:CmpOp}{t:TE}(h:PC X op a b t)(h1:behindInMarks op b=false:=by first|exact uX _ (by decide) (by decide)|rfl):PT X (.Compare a [op] [b] pos) (fB t):=by
  intro pins s σ H Q I hw
  refine fT (iJ (h pins s σ H _ I hw) fun v s1 h1=>iJ h1 fun u s2 h2=>iJ h2 fun c s3 ⟨x,H1,I1,r1,q1⟩=>?_) h1
  cases x<;>first
    |exact False.elim q1
    | (cases r1
       exact bR ⟨H1,I1,q1⟩)
def tZ(r r':R2)(ta tb tc:TE):TE:=fun σ H Q=>ta σ H fun x H1=>tb σ H1 fun y H2=>r x y H2 fun z H3=>match z with
 | .bl k=>(if k=true then tc σ H3 fun w' H4=>r' y w' H4 Q else Q (.bl false) H3)
 |_=>False
theorem yG{op op':CmpOp}{g:Int->Int->Bool}{r':R2}(ho:OpR X (compareOp op) (fI fun i j=>.bl (g i j)))(ho':OpR X (compareOp op') r')(ha:PE X a ta)(hb:PE X b tb)(hc:PE X c tc)
  (hm:lastMarks [op,op'] [b,c]=false:=by with_unfolding_all rfl):PE X (.Compare a [op,op'] [b,c] pos) (tZ (fI fun i j=>.bl (g i j)) r' ta tb tc):=by
 intro pins s σ H Q I h
 refine Compare_chain (iJ (ha pins s σ H _ I h) fun v s1 ⟨x,H1,I1,r1,q1⟩=>chain_link (iJ (hb pins s1 σ H1 _ I1 q1) fun u s2 ⟨y,H2,I2,r2,q2⟩=>
  iJ (ho pins s2 σ H2 x y v u (fun z H3=>∃k,z= .bl k/\(if k=true then tc σ H3 fun w' H4=>r' y w' H4 Q else Q (.bl false) H3)) I2 r1 r2 ?_) fun d s3 ⟨z,H3,I3,r3,k,e,q3⟩=>?_)) hm
 ·dsimp only at q2
  unfold fI at q2 ⊢
  cases x<;>cases y<;>first
   |exact q2.elim
   |exact⟨_,rfl,q2⟩
 ·subst e
  cases r3
  refine bR ?_
  cases k with
  |false=>exact ite_ff ⟨.bl false,H3,I3,rfl,q3⟩
  |true=>exact ite_tt (chain_last (iJ (hc pins s3 σ H3 _ I3 q3) fun w' s4 ⟨z',H4,I4,r4,q4⟩=>ho' pins s4 σ H4 y z' u w' Q I4 r2 r4 q4))
noncomputable def iS(H:Hp)(p:Addr):Option (List V):=match H p with
 |some (.lst xs)=>some xs
 |some (.tup xs)=>some xs
 |some (.frz _ (.lst xs))=>some xs
 |_=>none
theorem u9{K:PySem.W.Frag}{H:Hp}{p:Addr}{xs:List V}(h:iS H p=some xs):SqL K H p xs\/SqT K H p xs:=by
 unfold iS at h
 split at h
 ·rename_i ys e;cases h;exact .inl (.inl (.inl e))
 ·rename_i ys e;cases h;exact .inr (SqT.of e)
 ·rename_i o ys e;cases h;exact .inl (.inl (.inr ⟨_,e⟩))
 ·cases h
noncomputable def vY:R2:=fun x y H Q=>match x,y with
 | .ref p,.int i=>match iS H p with
  |some xs=>match jl xs i with
   |some v=>Q v H
   |none=>False
  |none=>False
 |_,_=>False
theorem iN:IxR X vY:=(yw.or HQ).imp fun x y H Q h=>by
 unfold vY at h
 split at h
 ·split at h
  ·rename_i xs e
   split at h
   ·rename_i v ev
    rcases u9 (K:=X.K) e with z|z
    ·exact .inl ⟨_,_,_,_,rfl,rfl,z,ev,h⟩
    ·exact .inr ⟨_,_,_,_,rfl,rfl,z,ev,h⟩
   ·exact h.elim
  ·exact h.elim
 ·exact h.elim
noncomputable def sv:List V->Hp->VK->Prop:=fun vs H Q=>match vs with
 |[.ref p]=>match iS H p with
  |some xs=>Q (.int xs.length) H
  |none=>False
 |_=>False
theorem k6:jc2 X (.builtin "len") sv:=vI.imp fun vs H Q h=>by
 unfold sv at h
 split at h
 ·split at h
  ·rename_i xs e;exact⟨_,xs,rfl,u9 e,h⟩
  ·exact h.elim
 ·exact h.elim
def uC:List V->Hp->VK->Prop:=fun vs H Q=>match vs with
 |[.ref p]=>match iS H p with
  |some xs=>∀l,H l=none->Q (.ref l) (upd H l (.lst xs))
  |none=>False
 |_=>False
theorem zH:jc2 X (.type "list") uC:=G6.imp fun vs H Q h=>by
 unfold uC at h
 split at h
 ·split at h
  ·rename_i xs e;exact⟨_,xs,rfl,u9 e,h⟩
  ·exact h.elim
 ·exact h.elim
noncomputable def vU:List V->Hp->VK->Prop:=fun vs H Q=>match vs with
 |[.int i,.int j]=>Q (.int (if j<i then j else i)) H
 |_=>False
theorem tQ(hc:X.calm=true):jc2 X (.builtin "min") vU:=(Fu hc).imp fun vs H Q h=>by
 unfold vU at h
 split at h
 ·exact⟨_,_,rfl,h⟩
 ·exact h.elim
noncomputable def vR:V->Option Int->Option Int->Hp->VK->Prop:=fun x lo hi H Q=>match x with
 | .ref a=>match H a with
  |some (.lst xs)=>∀p,H p=none->Q (.ref p) (upd H p (.lst (kA xs lo hi)))
  |_=>False
 |_=>False
theorem mN:SlR X vR:=Ec.imp fun x l u H Q h=>by
 unfold vR at h
 split at h
 ·split at h
  ·rename_i xs e;exact⟨_,xs,rfl,SqL.of e,h⟩
  ·exact h.elim
 ·exact h.elim
noncomputable def uB:V->List V->Hp->VK->Prop:=fun x vs H Q=>match x,vs with
 | .ref l,[y]=>match H l with
  |some (.lst xs)=>xs.length<sizeLine/\Q .non (upd H l (.lst (xs++[y])))
  |_=>False
 |_,_=>False
theorem lr:MtR X "list.append" uB:=MtR.imp (r:=yI) (fun pins s σ H x xs v us Q I rx rv q=>Am pins s σ H x xs v us Q I rx rv q) fun x vs H Q h=>by
 unfold uB at h
 split at h
 ·split at h
  ·rename_i xs e;exact⟨_,xs,_,rfl,rfl,e,h.1,h.2⟩
  ·exact h.elim
 ·exact h.elim
def Bn(r:V->List V->Hp->VK->Prop)(to:TE)(t:TA):TE:=fun σ H Q=>to σ H fun x H1=>(∃a xs,x= .ref a/\H1 a=some (.lst xs))/\t σ H1 fun xs H2=>r x xs H2 Q
noncomputable def tJ:oh:=fun o i v H Q=>match o,i with
 | .ref p,.int k=>match H p with
  |some (.lst xs)=>match kK xs.length k with
   |some j=>Q (upd H p (.lst (xs.set j v)))
   |none=>False
  |_=>False
 |_,_=>False
theorem oF:PSet X tJ:=Fj.imp fun o i v H Q h=>by
 unfold tJ at h
 split at h
 ·split at h
  ·rename_i xs e
   split at h
   ·rename_i j ej;exact⟨_,xs,_,j,rfl,rfl,e,ej,h⟩
   ·exact h.elim
  ·exact h.elim
 ·exact h.elim
noncomputable def qP:k8:=fun vs σ H Q=>match vs with
 |[]=>Q σ H
 |_=>False
noncomputable def rj(t:TG)(u:k8):k8:=fun vs σ H Q=>match vs with
 |v::r=>t v σ H fun σ' H'=>u r σ' H' Q
 |[]=>False
theorem jT:PGs X [] qP:=D4.imp fun v σ H Q h=>by
 unfold qP at h
 split at h
 ·exact⟨rfl,h⟩
 ·exact h.elim
theorem ja{t:TG}{u:k8}(h1:PG X e t)(h2:PGs X es u)(hs:(assignEach (e::es) X.env).map (·.2)=assign e X.env::(assignEach es X.env).map (·.2):=by rfl):PGs X (e::es) (rj t u):=(E6 h1 h2 hs).imp fun v σ H Q h=>by
 unfold rj at h
 split at h
 ·exact⟨_,_,rfl,h⟩
 ·exact h.elim
noncomputable def qQ(n:Nat)(t:k8):TG:=fun v σ H Q=>match v with
 | .ref a=>match H a with
  |some (.tup xs)=>xs.length=n/\t xs σ H Q
  |_=>False
 |_=>False
theorem jS{k:Nat}{t:k8}{n:Nat}(hc:X.calm=true)(h:PGs X es t)(hn:(assignEach es X.env).length=n:=by rfl)(hst:(assignEach es X.env).findIdx? (·.1)=none:=by rfl):PG X (.Tuple es k pos) (qQ n t):=
 (CS hc h hn hst).imp fun v σ H Q q=>by
  unfold qQ at q
  split at q
  ·split at q
   ·rename_i xs e;exact⟨_,xs,rfl,SqT.of e,q.1,q.2⟩
   ·exact q.elim
  ·exact q.elim
noncomputable def wc(f:Bool->Bool)(ty td:TE):TE:=fun σ H Q=>ty σ H fun y H1=>td σ H1 fun x H2=>match y,x with
 | .int n,.ref a=>match H2 a with
  |some (.dK kvs)=>Q (.bl (f (i8 kvs (Sum.inl n:iF)).isSome)) H2
  |_=>False
 |_,_=>False
def Bm(td ty:TE):TE:=fun σ H Q=>td σ H fun x H1=>ty σ H1 fun y H2=>match x,y with
 | .ref a,.int n=>match H2 a with
  |some (.dK kvs)=>match i8 kvs (Sum.inl n:iF)with
   |some v=>Q v H2
   |none=>False
  |_=>False
 |_,_=>False
end
section
variable{X:Cx}{o i:Expr}{td ty:TE}{pos:Pos}
theorem xB{f:Bool->Bool}{H2:Hp}{Q:VK}{y x:V}(h:(match y,x with
  | .int n,.ref a=>match H2 a with
    |some (.dK kvs)=>Q (.bl (f (i8 kvs (Sum.inl n:iF)).isSome)) H2
    |_=>False
  |_,_=>False)):∃a ov,x= .ref a/\DGet H2 a y ov/\Q (.bl (f ov.isSome)) H2:=by
  cases y<;>cases x<;>first
    |exact h.elim
    | (rename_i n a
       dsimp only at h
       split at h
       · rename_i kvs e;exact⟨a,_,rfl,DGet.k (k:=Sum.inl n) e,h⟩
       · exact h.elim)
theorem qW(hu:X.A.units+1<cLine)(hi:PE X i ty)(ho:PE X o td):PC X .In i o (wc id ty td):=by
 intro pins s σ H Q I h
 refine iJ (hi pins s σ H _ I h) fun iv s1 ⟨y,H1,I1,ry,q1⟩=>iJ (ho pins s1 σ H1 _ I1 q1) fun u s2 ⟨x,H2,I2,rx,q2⟩=>?_
 obtain⟨a,ov,ex,g,q3⟩:=xB q2
 subst ex
 obtain rfl:u=Value.ref a:=rx
 exact Iz hu I2 g ry fun s' I3=>⟨.bl ov.isSome,H2,I3,rfl,q3⟩
theorem Fe(hu:X.A.units+1<cLine)(hi:PE X i ty)(ho:PE X o td):PC X .NotIn i o (wc not ty td):=by
 intro pins s σ H Q I h
 refine iJ (hi pins s σ H _ I h) fun iv s1 ⟨y,H1,I1,ry,q1⟩=>iJ (ho pins s1 σ H1 _ I1 q1) fun u s2 ⟨x,H2,I2,rx,q2⟩=>?_
 obtain⟨a,ov,ex,g,q3⟩:=xB q2
 subst ex
 obtain rfl:u=Value.ref a:=rx
 exact yn hu I2 g ry fun s' I3=>⟨.bl (!ov.isSome),H2,I3,rfl,q3⟩
theorem lS (hu:X.A.units+1<cLine)(ho:PE X o td)(hi:PE X i ty)(hs:By i):PE X (.Subscript o i pos) (Bm td ty):=by
  intro pins s σ H Q I h
  refine Ed PySem.F.slot_dict_getitem.lookup hs (iJ (ho pins s σ H _ I h) fun u s1 ⟨x,H1,I1,rx,q1⟩=>iJ (hi pins s1 σ H1 _ I1 q1) fun iv s2 ⟨y,H2,I2,ry,q2⟩=>?_)
  cases x <;>cases y<;>first
    |exact False.elim q2
    | (dsimp only at q2
       split at q2
       · rename_i kvs e
         split at q2
         · rename_i v ev
           cases rx
           have g:∀{a:Addr} {n:Int},H2 a=some (.dK kvs)->i8 kvs (Sum.inl n:iF)=some v->DGet H2 a (.int n) (some v):=fun e1 e2=>e2▸DGet.k (k:=Sum.inl _) e1
           have g:=g e ev
           exact⟨GO I2 g,FA hu I2 g ry fun w' s3 I3 rw'=>⟨v,H2,I3,rw',q2⟩⟩
         · exact q2.elim
       · exact q2.elim)
theorem kY{e:Expr}{es:List Expr}{to:TE}{t:TA}{name:Str}{apos cpos:Pos}{id:String}{r:V->List V->Hp->VK->Prop}(pa:PlainAttrs "list")(slot:Slot "list" name id)(hty:typeOf (.builtin id)=pure (.type "method_descriptor"))(hm:MtR X id r)(ho:PE X o to)(ha:PA X (e::es) t)
  (hbase:attributeBase o name X.env (eval o X.env)=eval o X.env:=by rfl)
  (hfew:((backTo cpos (starEach (e::es) X.env)).all (fun x=>!x.1)&&(backToKw cpos (keywordEach [] X.env)).all (fun x=>x.1.isSome)
   &&decide ((e::es).length+([]:List Keyword).length+(if([]:List Keyword).isEmpty then 0 else 1)<30))=true:=by rfl)
  (hline:(apos.endLine==cpos.line)=true:=by rfl) (hs:starEach (e::es) X.env=(false,eval e X.env)::starEach es X.env:=by rfl) (hplain:(backTo cpos (starEach es X.env)).any (·.1)=false:=by rfl):
  PE X (.Call (.Attribute o name apos) (e::es) [] cpos) (Bn r to t):=by
 intro pins s σ H Q I h
 refine wpAny_Call_method_late hbase hfew hline rfl (iJ (ho pins s σ H _ I h) fun v s1 ⟨x,H1,I1,r1,⟨a,xs,ex,ea⟩,q1⟩=>?_)
 subst ex
 obtain⟨h1,h2⟩:=BP (T:="list") I1 r1 (.inl ⟨rfl,_,SqL.of ea⟩)
 refine⟨"list",id,pa,slot,hty,h1,h2,?_⟩
 have hA:=ha cpos pins s1 σ H1 _ I1 q1
 rw[hs]at hA ⊢
 refine fJ (by show(false||(backTo cpos (starEach es X.env)).any (·.1))=false;rw[hplain]<;>rfl) (gf ?_)
 exact iJ hA fun us s2 ⟨vs,H2,I2,r2,q2⟩=>hm pins s2 σ H2 _ vs v us Q I2 r1 r2 q2
end
inductive Kd where
 |non|bl|int|str|lst|tup|dct
 deriving DecidableEq
noncomputable def Kd.nm:Kd->String
 | .non=>"NoneType"
 | .bl=>"bool"
 | .int=>"int"
 | .str=>"str"
 | .lst=>"list"
 | .tup=>"tuple"
 | .dct=>"dict"
noncomputable def kd(H:Hp)(v:V):Option Kd:=match v with
 | .non=>some .non
 | .bl _=>some .bl
 | .int _=>some .int
 | .str _=>some .str
 | .ref a=>match H a with
  |some (.lst _)=>some .lst
  |some (.tup _)=>some .tup
  |some (.dK _)=>some .dct
  |_=>none
 |_=>none
noncomputable def k7(a b:Kd):Bool:=match a,b with
 | .bl,.int=>true
 | .non,.non=>true
 | .bl,.bl=>true
 | .int,.int=>true
 | .str,.str=>true
 | .lst,.lst=>true
 | .tup,.tup=>true
 | .dct,.dct=>true
 |_,_=>false
theorem Du{H:Hp}{v:V}{k:Kd}(h:kd H v=some k):Knd H v k.nm:=by
 unfold kd at h
 split at h
 ·cases h;exact .non
 ·cases h;exact .bl
 ·cases h;exact .int
 ·cases h;exact .str
 ·split at h
  ·rename_i e;cases h;exact .lst e
  ·rename_i e;cases h;exact .tup e
  ·rename_i e;cases h;exact .dK e
  ·cases h
 ·cases h
theorem HV(a b:Kd):vN a.nm b.nm=k7 a b:=by cases a<;>cases b<;>rfl
theorem Kd.mem(b:Kd):b.nm∈mM:=by cases b<;>simp[mM,Kd.nm]
noncomputable def vZ(T:Kd):List V->Hp->VK->Prop:=fun vs H Q=>match vs with
 |[x,y]=>y= .ty T.nm/\match kd H x with
  |some k=>Q (.bl (k7 k T)) H
  |none=>False
 |_=>False
theorem nP{X:Cx}(T:Kd):jc2 X (.builtin "isinstance") (vZ T):=Eo.imp fun vs H Q h=>by
 unfold vZ at h
 split at h
 ·obtain⟨rfl,h⟩:=h
  split at h
  ·rename_i k e
   exact⟨_,_,_,rfl,Du e,Kd.mem T,by rw[HV];exact h⟩
  ·exact h.elim
 ·exact h.elim
def we(i:Nat)(te:TE)(ti:mD):TS:=fun D σ H=>match σ[i]? with
 |some (some x)=>te σ H fun y H1=>ti x y H1 fun z H2=>D.nx (σ.set i (some z)) H2
 |_=>False
theorem rq{X:Cx}{pos:Pos}{i:Nat}{x:Str}{e:Expr}{te:TE}{op:Operator}{ti:mD}{pos':Pos}(hN:X.N.Nodup)(hi:X.N[i]? =some x)(hx:Loc X.env.scope x)(he:PE X e te)(ho:oi X op ti)(hf:X.fn x=true\/X.env.scope.names.lookup x=some .local:=by first|exact .inl rfl|exact .inr rfl|assumption):
  PS X (.AugAssign (.Name x pos') op e pos) (we i te ti):=fun pins s σ H D I h=>CP hN hi hx he ho hf pins s σ H D I (by
 unfold we at h
 split at h
 ·rename_i x e;exact⟨x,e,h⟩
 ·exact h.elim)
def Bj(t:TE):TO:=fun σ H Q=>t σ H fun x H1=>match x with
 | .int i=>Q (some i) H1
 |_=>False
theorem lV{X:Cx}{e:Expr}{te:TE}(h:PE X e te):PO X (some e) (Bj te):=by
  intro pins s σ H Q I hw
  rw[evalPart_some]
  refine iJ (h pins s σ H _ I hw) fun u s1 ⟨x,H1,I1,r1,q1⟩=>?_
  cases x<;>first
    |exact False.elim q1
    | (obtain⟨t,rfl⟩:=r1
       exact⟨some _,H1,I1,.int _ t,q1⟩)
def rh(f:List Bool->Bool):List V->Hp->VK->Prop:=fun vs H Q=>match vs with
 |[.ref l]=>match H l with
  |some (.lst xs)=>∃bs:List Bool,xs=bs.map V.bl/\Q (.bl (f bs)) H
  |_=>False
 |_=>False
theorem Ez{f:List Bool->Bool}{vs:List V}{H:Hp}{Q:VK}(h:rh f vs H Q):xT f vs H Q:=by
 unfold rh at h
 split at h
 ·split at h
  ·rename_i xs e
   obtain⟨bs,rfl,h⟩:=h
   exact⟨_,bs,rfl,e,h⟩
  ·exact h.elim
 ·exact h.elim
theorem tP{X:Cx}(hc:X.calm=true):jc2 X (.builtin "all") (rh fun bs=>bs.all id):=(En hc).imp fun _ _ _=>Ez
def t8:List V->Hp->VK->Prop:=fun vs H Q=>match vs with
 |[.ref l]=>match H l with
  |some (.lst xs)=>∃kvs:List (iF×V),Paired (PairAt H) xs kvs/\xs.length<=1000/\(kvs.map (·.1)).Nodup/\∀d,H d=none->Q (.ref d) (upd H d (.dK kvs))
  |_=>False
 |_=>False
theorem oJ{X:Cx}(hc:X.calm=true):jc2 X (.type "dict") t8:=(Gh hc).imp fun vs H Q h=>by
 unfold t8 at h
 split at h
 ·split at h
  ·rename_i xs e
   obtain⟨kvs,h1,h2,h3,h4⟩:=h
   exact⟨_,xs,kvs,rfl,e,h1,h2,h3,h4⟩
  ·exact h.elim
 ·exact h.elim
noncomputable def vW:R2:=fun x y H Q=>match x,y with
 | .ref a,.ref b=>match H a,H b with
  |some (.tup [.int i,.int j]),some (.tup [.int k,.int l])=>Q (.bl (HT.lexLt [i,j] [k,l])) H
  |_,_=>False
 |_,_=>False
theorem CJ{X:Cx}(hu:X.A.units<cLine):OpR X (compareOp .Lt) vW:=(C5 hu).imp fun x y H Q h=>by
 unfold vW at h
 split at h
 ·split at h
  ·rename_i a b _ _ i j k l e1 e2
   exact⟨a,b,[i,j],[k,l],rfl,rfl,SqT.of e1,SqT.of e2,h⟩
  ·exact h.elim
 ·exact h.elim
noncomputable def qm(XN:List Str)(names:List (Str×NameKind)):List Str->List (Option Nat)->Bool
 |[],[]=>true
 |x::N,none::r=>qm XN names N r
 |x::N,some j::r=>(XN[j]? ==some x)&&(names.lookup x==some .free)&&qm XN names N r
 |_,_=>false
theorem uy{XN:List Str}{names:List (Str×NameKind)}:∀{N:List Str} {src:List (Option Nat)},qm XN names N src=true->src.length=N.length/\∀(i j:Nat),src[i]? =some (some j)->XN[j]? =N[i]?/\(N[i]?).elim False (fun x=>names.lookup x=some .free)
 |[],[],_=>⟨rfl,fun i j e=>by simp at e⟩
 |x::N,none::r,h=>by
  obtain⟨h1,h2⟩:=uy (N:=N) (src:=r) h
  refine⟨by simp[h1],fun i j e=>?_⟩
  cases i with
  |zero=>simp at e
  |succ i=>exact h2 i j (by simpa using e)
 | x::N,some k::r,h=>by
  have h':((XN[k]? ==some x)&&(names.lookup x==some .free)&&qm XN names N r)=true:=h
  rw[cu,cu]at h'
  obtain⟨h1,h2⟩:=uy (N:=N) (src:=r) h'.2
  refine⟨by simp[h1],fun i j e=>?_⟩
  cases i with
  |zero=>
   have e':k=j:=by simpa using e
   subst e'
   exact⟨by simpa using h'.1.1,by simpa using h'.1.2⟩
  |succ i=>exact h2 i j (by simpa using e)
noncomputable def rn:List Str->Bool
 |[]=>true
 |x::r=>!(r.contains x)&&rn r
theorem jn:∀{l:List Str},rn l=true->l.Nodup
 |[],_=>eS
 |x::r,h=>by
  have h':(!(r.contains x)&&rn r)=true:=h
  rw[cu]at h'
  exact bt.mpr ⟨by simpa using h'.1,jn h'.2⟩
noncomputable def Br(XN:List Str)(outer:List (Str×NameKind))(scope:Scope)(N:List Str)(src:List (Option Nat)):Bool:=
 (scope.kind== .function)&&scope.names.all (fun y=>y.2 != .cell)&&scope.names.all (fun y=>y.2 != .local||scope.names.lookup y.1==some .local)&&
  scope.names.all (fun y=>y.2 != .free||(scope.names.lookup y.1==some .free&&outer.lookup y.1==some .cell))&&rn N&&qm XN scope.names N src
theorem CpScope.of{X:Cx}{scope:Scope}{N:List Str}{src:List (Option Nat)}(h:Br X.N X.env.scope.names scope N src=true):CpScope X scope N src:=by
 unfold Br at h
 simp only[cu]at h
 obtain⟨⟨⟨⟨⟨h1,h2⟩,h3⟩,h4⟩,h5⟩,h6⟩:=h
 rw[eF]at h2 h3 h4
 obtain⟨l,c⟩:=uy h6
 refine⟨by simpa using h1,fun y hy=>by simpa using h2 y hy,fun y hy e=>?_,fun y hy e=>?_,jn h5,l,c⟩
 ·have:=h3 y hy
  rw[e]at this
  simpa using this
 ·have:=h4 y hy
  rw[e]at this
  simpa using this
theorem uQ{K:PySem.W.Frag}{a:Addr}{xs:List V}{g:TG}{tb:TS}{D:Ends}{σ:St}{H:Hp}(Pv:Nat->St->Hp->Prop)(h0:Pv 0 σ H)(hl:∀i σ H,i<=xs.length->Pv i σ H->SqL K H a xs)
  (hs:∀i x σ H t,xs[i]? =some x->Pv i σ H->H t=none->g (.ref t) σ (upd H t (.tup [.int i,x])) fun σ2 H2=>tb {D with nx:=Pv (i+1),ct:=Pv (i+1),bk:=D.nx} σ2 H2) (hd:∀σ H,Pv xs.length σ H->D.nx σ H):
  ∃W:Nat->Nat->St->Hp->Prop,(∃m,W 0 m σ H)/\∀i m σ H,W i m σ H->
   ((oj K a).stop i H/\D.nx σ H)\/((oj K a).go i H/\∃N:St->Hp->Prop,(∀σ' H',N σ' H'->∃m',m'<m/\W (i+1) m' σ' H')/\∀x H',(oj K a).yld i H x H'->g x σ H' fun σ2 H2=>tb {D with nx:=N,ct:=N,bk:=D.nx} σ2 H2):=by
 refine⟨fun i m σ H=>m=xs.length-i/\i<=xs.length/\Pv i σ H,⟨xs.length,by simp,bj _,h0⟩,?_⟩
 rintro i m σ H ⟨rfl,hi,p⟩
 have q:=hl i σ H hi p
 by_cases hlt:i<xs.length
 ·refine .inr ⟨⟨xs,xs[i],q,by simp[hlt]⟩,Pv (i+1),fun σ' H' p'=>⟨xs.length-(i+1),by lia,rfl,hlt,p'⟩,fun x H' y=>?_⟩
  obtain⟨t,z,ht,e1,e2,y⟩:=y
  subst e1 e2
  exact hs i z σ _ t (y xs q) p ht
 ·have e:i=xs.length:=by lia
  subst e
  exact .inl ⟨⟨xs,q,ai _⟩,hd σ H p⟩
theorem lu{wi:TI}{g:TG}{tb:TS}{D:Ends}{σ:St}{H:Hp}(J:It)(H1:Hp)(h1:∀R:It->Hp->Prop,R J H1->wi σ H R)
  (h2:∃W:Nat->Nat->St->Hp->Prop,(∃m,W 0 m σ H1)/\∀i m σ H,W i m σ H->(J.stop i H/\D.nx σ H)\/(J.go i H/\∃N:St->Hp->Prop,(∀σ' H',N σ' H'->∃m',m'<m/\W (i+1) m' σ' H')/\∀x H',J.yld i H x H'->g x σ H' fun σ2 H2=>tb {D with nx:=N,ct:=N,bk:=D.nx} σ2 H2)):
  wR wi g tb D σ H:=h1 _ h2
theorem kE{src:List (Option Nat)}{wi:TI}{g:TG}{tc:TT}{te:TE}{Q:VK}{σ:St}{H:Hp}(J:It)(H1:Hp)(h1:∀R:It->Hp->Prop,R J H1->wi σ H R)(h2:∀l,H1 l=none->pB J src g tc te Q σ H1 l):rf src wi g tc te σ H Q:=h1 _ h2
theorem iI{H:Hp}{p:Addr}(h:H p=none)(o:HO):Same H (upd H p o):=fun b u q=>by rw[iL (iX q h)];exact q
theorem jD{H H':Hp}{p:Addr}{o:HO}(s:Same H H')(h:H p=none):Same H (upd H' p o):=fun b u q=>by rw[iL (iX q h)];exact s b u q
def Pr(H:Hp)(v:V)(p:Int×Int):Prop:=∃t,v= .ref t/\H t=some (.tup [.int p.1,.int p.2])
theorem Pr.same{H H':Hp}{v:V}{p:Int×Int}(h:Pr H v p)(s:Same H H'):Pr H' v p:=let⟨t,e,q⟩:=h;⟨t,e,s _ _ q⟩
noncomputable def tN:HO->Bool
 | .tup _=>true
 | .frz _ _=>true
 |_=>false
def TupS(H H':Hp):Prop:=∀b o,tN o=true->H b=some o->H' b=some o
theorem Same.tups{H H':Hp}(s:Same H H'):TupS H H':=fun b o _ q=>s b _ q
theorem TupS.trans{H H1 H2:Hp}(a:TupS H H1)(b:TupS H1 H2):TupS H H2:=fun c o i q=>b c o i (a c o i q)
theorem kW{H:Hp}{l:Addr}{xs ys:List V}(h:H l=some (.lst xs)):TupS H (upd H l (.lst ys)):=fun b o i q=>by
 have:b≠l:=fun z=>by rw[z,h]at q;cases q;cases i
 rw[iL this]
 exact q
theorem Pr.tups{H H':Hp}{v:V}{p:Int×Int}(h:Pr H v p)(s:TupS H H'):Pr H' v p:=let⟨t,e,q⟩:=h;⟨t,e,s _ _ rfl q⟩
def Scr(K:PySem.W.Frag)(H:Hp)(a:Addr)(ns:List Int):Prop:=
 (∃o,H a=some (.frz o (.lst (ns.map V.int))))\/∃(o:Obj) (its:Array Value) (n:Nat),K.lookup a=some o/\o.cls= .type "list"/\o.dict=none/\o.data= .seq its n/\its.size<=sizeLine/\Vals (ns.map V.int) its.toList
theorem Scr.sq{K:PySem.W.Frag}{H:Hp}{a:Addr}{ns:List Int}(h:Scr K H a ns):SqL K H a (ns.map V.int):=h.elim (fun⟨o,q⟩=>.inl (.inr ⟨o,q⟩)) .inr
theorem Scr.of{K:PySem.W.Frag}{H:Hp}{a:Addr}{ns:List Int}(h:SqL K H a (ns.map V.int))(o:sS H):Scr K H a ns:=by
 rcases h with(h|⟨ob,h⟩)|h
 ·rcases o a with z|⟨ob,xs,z⟩
  ·rw[h]at z;cases z
  ·rw[h]at z;cases z
 ·exact .inl ⟨ob,h⟩
 ·exact .inr h
theorem Scr.tups{K:PySem.W.Frag}{H H':Hp}{a:Addr}{ns:List Int}(h:Scr K H a ns)(s:TupS H H'):Scr K H' a ns:=h.elim (fun⟨o,q⟩=>.inl ⟨o,s _ _ rfl q⟩) .inr
abbrev Prs(H:Hp):List V->List (Int×Int)->Prop:=Paired (Pr H)
theorem Prs.tups{H H':Hp}(s:TupS H H'){xs:List V}{ps:List (Int×Int)}(h:Prs H xs ps):Prs H' xs ps:=Paired.mapP h fun _ _ q=>q.tups s
theorem Prs.same{H H':Hp}(s:Same H H'){xs:List V}{ps:List (Int×Int)}(h:Prs H xs ps):Prs H' xs ps:=Prs.tups s.tups h
theorem ko{α β:Type}{F:α->β->Prop}:∀{xs:List α} {ys:List β} {i:Nat} {x:α},Paired F xs ys->xs[i]? =some x->∃y,ys[i]? =some y/\F x y
 |_,_,_,_,.nil,e=>by simp at e
 |_,_,0,_,.cons r _,e=>by simp at e;subst e;exact⟨_,rfl,r⟩
 |_,_,i+1,y,.cons _ t,e=>by
  obtain⟨u,h1,h2⟩:=ko (i:=i) t (by simpa using e)
  exact⟨u,by simpa using h1,h2⟩
theorem lX{α β:Type}{F:α->β->Prop}:∀{xs:List α} {ys:List β} {i:Nat} {y:β},Paired F xs ys->ys[i]? =some y->∃x,xs[i]? =some x/\F x y
 |_,_,_,_,.nil,e=>by simp at e
 |_,_,0,_,.cons r _,e=>by simp at e;subst e;exact⟨_,rfl,r⟩
 |_,_,i+1,y,.cons _ t,e=>by
  obtain⟨u,h1,h2⟩:=lX (i:=i) t (by simpa using e)
  exact⟨u,by simpa using h1,h2⟩
theorem kF{α β:Type}{F:α->β->Prop}{a:α}{b:β}{l₁:List α}{l₂:List β}(h:Paired F l₁ l₂)(r:F a b):Paired F (l₁++[a]) (l₂++[b]):=Paired.snoc h r
theorem nX{α:Type}{l:List α}{i:Nat}{x:α}(h:l[i]? =some x):l.drop i=x::l.drop (i+1):=by
 obtain⟨h1,h2⟩:=au.mp h
 rw[cC h1,h2]
theorem jH{α:Type}{l:List α}{i:Nat}{x:α}(h:l[i]? =some x):l.take (i+1)=l.take i++[x]:=by
 obtain⟨h1,h2⟩:=au.mp h
 rw[List.take_succ,h]
 rfl
inductive Dt where
 |non
 |bl (b:Bool)
 |int (i:Int)
 |str (x:Str)
 |tup (ds:List Dt)
 |lst (ds:List Dt)
mutual
noncomputable def Rep(H:Hp):Dt->V->Prop
 | .non,v=>v= .non
 | .bl b,v=>v= .bl b
 | .int i,v=>v= .int i
 | .str x,v=>v= .str x
 | .tup ds,v=>∃a vs,v= .ref a/\H a=some (.tup vs)/\Reps H ds vs
 | .lst ds,v=>∃a vs,v= .ref a/\H a=some (.lst vs)/\Reps H ds vs
noncomputable def Reps(H:Hp):List Dt->List V->Prop
 |[],vs=>vs=[]
 |d::ds,vs=>∃v r,vs=v::r/\Rep H d v/\Reps H ds r
end
mutual
theorem Rep.same{H H':Hp}(s:Same H H'):∀(d:Dt) {v:V},Rep H d v->Rep H' d v
 | .non,_,h=>by rw[Rep]at*;exact h
 | .bl _,_,h=>by rw[Rep]at*;exact h
 | .int _,_,h=>by rw[Rep]at*;exact h
 | .str _,_,h=>by rw[Rep]at*;exact h
 | .tup ds,_,h=>by
  rw[Rep]at*
  obtain⟨a,vs,e,q,r⟩:=h
  exact⟨a,vs,e,s _ _ q,Reps.same s ds r⟩
 | .lst ds,_,h=>by
  rw[Rep]at*
  obtain⟨a,vs,e,q,r⟩:=h
  exact⟨a,vs,e,s _ _ q,Reps.same s ds r⟩
theorem Reps.same{H H':Hp}(s:Same H H'):∀(ds:List Dt) {vs:List V},Reps H ds vs->Reps H' ds vs
 |[],_,h=>by rw[Reps]at*;exact h
 |d::ds,_,h=>by
  rw[Reps]at*
  obtain⟨v,r,e,h1,h2⟩:=h
  exact⟨v,r,e,Rep.same s d h1,Reps.same s ds h2⟩
end
theorem Reps.len{H:Hp}:∀{ds:List Dt} {vs:List V},Reps H ds vs->vs.length=ds.length
 |[],_,h=>by rw[Reps]at h;subst h;rfl
 |d::ds,_,h=>by
  rw[Reps]at h
  obtain⟨v,r,e,h1,h2⟩:=h
  rw[e,List.length_cons,List.length_cons,Reps.len h2]
theorem Reps.at{H:Hp}:∀{ds:List Dt} {vs:List V} {i:Nat} {v:V},Reps H ds vs->vs[i]? =some v->∃d,ds[i]? =some d/\Rep H d v
 |[],_,i,v,h,e=>by rw[Reps]at h;rw[h]at e;simp at e
 | d::ds,_,i,v,h,e=>by
  rw[Reps]at h
  obtain⟨w,r,e1,h1,h2⟩:=h
  subst e1
  cases i with
  |zero=>simp at e;subst e;exact⟨d,rfl,h1⟩
  |succ i=>
   obtain⟨d',q1,q2⟩:=Reps.at h2 (i:=i) (by simpa using e)
   exact⟨d',by simpa using q1,q2⟩
noncomputable def jN(p:Int×Int):Dt:=.tup [.int p.1,.int p.2]
theorem Pr.rep{H:Hp}{v:V}{p:Int×Int}(h:Pr H v p):Rep H (jN p) v:=by
 obtain⟨t,e,q⟩:=h
 rw[jN,Rep]
 refine⟨t,_,e,q,?_⟩
 rw[Reps]
 refine⟨_,_,rfl,(by rw[Rep]),?_⟩
 rw[Reps]
 exact⟨_,_,rfl,(by rw[Rep]),(by rw[Reps])⟩
theorem Prs.reps{H:Hp}:∀{xs:List V} {ps:List (Int×Int)},Prs H xs ps->Reps H (ps.map jN) xs
 |_,_,.nil=>by rw[cD,Reps]
 |_,_,.cons r t=>by rw[ag,Reps];exact⟨_,_,rfl,r.rep,Prs.reps t⟩
def vV:List V->Hp->VK->Prop:=fun vs H Q=>match vs with
 |[.int i,.int j]=>Q (.int (if i<j then j else i)) H
 |_=>False
theorem xj{X:Cx}(hc:X.calm=true):jc2 X (.builtin "max") vV:=(Ft hc).imp fun vs H Q h=>by
 unfold vV at h
 split at h
 ·refine⟨_,_,rfl,?_⟩
  first|exact h|(rename_i i j;by_cases c:i<j<;>simp_all)
 ·exact h.elim
def Ik(neg:Bool):R2:=fun x y H Q=>match y with
 | .ref p=>match iS H p with
  |some xs=>pG x=true/\xs.all pG=true/\Q (.bl (if neg=true then !Bb x xs else Bb x xs)) H
  |none=>False
 |_=>False
theorem Ak{P:Program}{w:World}:∀{kvs:List (iF×V)} {vs:List (iF×Value)} {ns:List Int},KV kvs vs->kvs.map (·.1)=ns.map Sum.inl->∀{us:List Value},us.length=vs.length->(∀(j:Nat) (v:Value),us[j]? =some v->∃k x,vs[j]? =some (k,x)/\(jO P w).is k v=true)->IntsAre us ns
 | [],_,ns,.nil,hk,us,hl,_=>by
  cases ns with
  |nil=>cases us with
   |nil=>exact .nil
   |cons _ _=>simp at hl
  |cons _ _=>simp at hk
 | kv::kvs,_,ns,.cons (b:=b) r t,hk,us,hl,hv=>by
  cases ns with
  |nil=>simp at hk
  | cons n ns=>
   cases us with
   |nil=>simp at hl
   | cons u us=>
    rw[ag,ag]at hk
    injection hk with hk1 hk2
    obtain⟨k,x,e1,e2⟩:=hv 0 u rfl
    simp only[List.getElem?_cons_zero,cG]at e1
    have hkn:k = Sum.inl n:=by rw [<- hk1,r.1,e1]
    rw[hkn]at e2
    rcases mz (show nM (Sum.inl n) u=true from e2)with⟨i,t',ei,ev⟩|⟨y,t',ei,ev⟩
    ·cases ei
     rw[ev]
     refine .cons n t' (Ak (P:=P) (w:=w) t hk2 (by simpa using hl) fun j v hj=>?_)
     obtain⟨k',x',z1,z2⟩:=hv (j+1) v (by simpa using hj)
     exact⟨k',x',by simpa using z1,z2⟩
    ·cases ei
mutual
noncomputable def jq:Dt->Dt->Bool
 | .non,.non=>true
 | .bl a,.bl b=>a==b
 | .bl a,.int b=>(if a then 1 else 0)==b
 | .int a,.bl b=>a==(if b then 1 else 0)
 | .int a,.int b=>a==b
 | .str a,.str b=>a==b
 | .tup a,.tup b=>lB a b
 | .lst a,.lst b=>lB a b
 |_,_=>false
noncomputable def lB:List Dt->List Dt->Bool
 |[],[]=>true
 |a::r,b::t=>jq a b&&lB r t
 |_,_=>false
end
mutual
noncomputable def kM:Dt->Nat
 | .tup a=>kn a+1
 | .lst a=>kn a+1
 |_=>0
noncomputable def kn:List Dt->Nat
 |[]=>0
 |a::r=>max (kM a) (kn r)
end
noncomputable def lI(a b:List Dt)(j:Nat):Bool:=match a[j]?,b[j]? with
 |some x,some y=>jq x y
 |_,_=>false
theorem oK:∀{a b:List Dt},a.length≠b.length->lB a b=false
 |[],[],h=>absurd rfl h
 |[],_::_,_=>by simp[lB]
 |_::_,[],_=>by simp[lB]
 |x::a,y::b,h=>by
  rw[lB,oK (by simpa using h),dJ]
theorem F5:∀(n:Nat) (f:Nat->Bool),(List.range (n+1)).all f=(f 0&&(List.range n).all fun j=>f (j+1)):=fun n f=>by
 rw[List.range_succ_eq_map,List.all_cons,gN]
 rfl
theorem oS:∀{a b:List Dt},a.length=b.length->lB a b=(List.range a.length).all (lI a b)
 |[],[],_=>by rw[lB];rfl
 |[],_::_,h=>by simp at h
 |_::_,[],h=>by simp at h
 |x::a,y::b,h=>by
  rw[lB,oS (a:=a) (b:=b) (by simpa using h),List.length_cons,F5]
  rfl
theorem uP:∀{a:List Dt} {j:Nat} {d:Dt},a[j]? =some d->kM d<=kn a
 |[],_,_,h=>by simp at h
 |x::a,0,d,h=>by
  simp at h;subst h
  rw[kn];lia
 |x::a,j+1,d,h=>by
  have:=uP (a:=a) (j:=j) (by simpa using h)
  rw[kn];lia
noncomputable def ka:Dt->Option V
 | .non=>some .non
 | .bl b=>some (.bl b)
 | .int i=>some (.int i)
 | .str x=>some (.str x)
 |_=>none
theorem Eu{d e:Dt}{x y:V}(hd:ka d=some x)(he:ka e=some y):jq d e=sL x y:=by
 cases d<;>cases e<;>simp only[ka,cG,reduceCtorEq]at hd he<;>subst hd<;>subst he<;>simp[jq,sL]
theorem u5{H:Hp}{d:Dt}{x v:V}(hd:ka d=some x)(h:Rep H d v):v=x/\pG x=true:=by
 cases d<;>simp only[ka,cG,reduceCtorEq]at hd<;>subst hd<;>rw[Rep]at h<;>exact⟨h,rfl⟩
section
variable{X:Cx}{pins:List (Addr×Obj)}{σ:St}{H:Hp}{s:Shared}
theorem Inv.tupE(I:Inv X pins σ H s){a:Addr}{vs:List V}(e:H a=some (.tup vs)):∃its:List Value,Vals vs its/\s.heap.IsTuple a its.toArray:=by
 obtain⟨its,r,p,_⟩:=I.tuple (SqT.of e)
 exact⟨its,r,p⟩
theorem Inv.lstE(I:Inv X pins σ H s){a:Addr}{vs:List V}(e:H a=some (.lst vs)):∃its:List Value,Vals vs its/\s.heap.IsList a its.toArray:=by
 obtain⟨its,r,p,_⟩:=I.list (SqL.of e)
 exact⟨its,r,p.isList⟩
mutual
theorem pY:∀d:Dt,jq d d=true
 | .non=>by simp[jq]
 | .bl _=>by simp[jq]
 | .int _=>by simp[jq]
 | .str _=>by simp[jq]
 | .tup a=>by rw[jq];exact vi a
 | .lst a=>by rw[jq];exact vi a
theorem vi:∀a:List Dt,lB a a=true
 |[]=>by rw[lB]
 |d::r=>by rw[lB,pY d,vi r];rfl
end
mutual
theorem Rep.inj{H:Hp}:∀{d e:Dt} {v:V},Rep H d v->Rep H e v->d=e
 | .non,e,v,h1,h2=>by rw[Rep]at h1;subst h1;cases e<;>simp[Rep]at h2 ⊢
 | .bl _,e,v,h1,h2=>by rw[Rep]at h1;subst h1;cases e<;>simp[Rep]at h2 ⊢;exact h2
 | .int _,e,v,h1,h2=>by rw[Rep]at h1;subst h1;cases e<;>simp[Rep]at h2 ⊢;exact h2
 | .str _,e,v,h1,h2=>by rw[Rep]at h1;subst h1;cases e<;>simp[Rep]at h2 ⊢;exact h2
 | .tup ds,e,v,h1,h2=>by
  rw[Rep]at h1
  obtain⟨a,vs,rfl,q,r⟩:=h1
  cases e with
  |tup es=>
   rw[Rep]at h2
   obtain⟨a',vs',e',q',r'⟩:=h2
   cases e'
   rw[q]at q';cases q'
   rw[Reps.inj r r']
  |lst es=>
   rw[Rep]at h2
   obtain⟨a',vs',e',q',r'⟩:=h2
   cases e'
   rw[q]at q';cases q'
  |non=>rw[Rep]at h2;cases h2
  |bl _=>rw[Rep]at h2;cases h2
  |int _=>rw[Rep]at h2;cases h2
  |str _=>rw[Rep]at h2;cases h2
 | .lst ds,e,v,h1,h2=>by
  rw[Rep]at h1
  obtain⟨a,vs,rfl,q,r⟩:=h1
  cases e with
  |lst es=>
   rw[Rep]at h2
   obtain⟨a',vs',e',q',r'⟩:=h2
   cases e'
   rw[q]at q';cases q'
   rw[Reps.inj r r']
  |tup es=>
   rw[Rep]at h2
   obtain⟨a',vs',e',q',r'⟩:=h2
   cases e'
   rw[q]at q';cases q'
  |non=>rw[Rep]at h2;cases h2
  |bl _=>rw[Rep]at h2;cases h2
  |int _=>rw[Rep]at h2;cases h2
  |str _=>rw[Rep]at h2;cases h2
theorem Reps.inj{H:Hp}:∀{ds es:List Dt} {vs:List V},Reps H ds vs->Reps H es vs->ds=es
 |[],es,vs,h1,h2=>by
  rw[Reps]at h1;subst h1
  cases es with
  |nil=>rfl
  |cons e es=>rw[Reps]at h2;obtain⟨_,_,z,_⟩:=h2;cases z
 | d::ds,es,vs,h1,h2=>by
  rw[Reps]at h1
  obtain⟨v,r,rfl,q1,q2⟩:=h1
  cases es with
  |nil=>rw[Reps]at h2;cases h2
  |cons e es=>
   rw[Reps]at h2
   obtain⟨v',r',z,p1,p2⟩:=h2
   cases z
   rw[Rep.inj q1 p1,Reps.inj q2 p2]
end
theorem A0{d e:Dt}(hd:ka d=none){y:V}(he:ka e=some y):jq d e=false/\jq e d=false:=by
 cases d<;>cases e<;>simp only[ka,cG,reduceCtorEq]at hd he<;>simp[jq]
theorem Iy:∀(n:Nat) {A:Around} (I:Inv X pins σ H s) {d e:Dt} {x y:V} {u v:Value},kM d<=n->A.units+n<cLine->Rep H d x->Rep H e y->RelV x u->RelV y v->SeqAt.EqAt A s u v (jq d e):=by
 intro n
 induction n with
 | zero=>
  intro A I d e x y u v hn hu rd re rx ry
  have hf:∃z,ka d=some z:=by
   cases d<;>simp only[kM,ka]at hn ⊢ <;>first|exact⟨_,rfl⟩|lia
  obtain⟨z,hz⟩:=hf
  obtain⟨rfl,fz⟩:=u5 hz rd
  cases he:ka e with
  |some y'=>
   obtain⟨rfl,fy⟩:=u5 he re
   rw[Eu hz he]
   exact Iw rx ry fz fy
  | none=>
   rw[(A0 he hz).2]
   have hu0:A.units<cLine:=by lia
   cases e<;>simp only[ka,reduceCtorEq]at he
   ·rw[Rep]at re
    obtain⟨a,vs,rfl,q,_⟩:=re
    cases ry
    obtain⟨its,_,p⟩:=I.tupE q
    cases d<;>simp only[ka,cG,reduceCtorEq]at hz<;>subst hz
    ·cases rx;exact SeqAt.EqAt.none_tuple p hu0
    ·cases rx;exact SeqAt.EqAt.bool_tuple _ p hu0
    ·obtain⟨t,rfl⟩:=rx;exact SeqAt.EqAt.int_tuple _ _ p hu0
    ·obtain⟨t,rfl⟩:=rx;exact SeqAt.EqAt.str_tuple _ _ p hu0
   ·rw[Rep]at re
    obtain⟨a,vs,rfl,q,_⟩:=re
    cases ry
    obtain⟨its,_,p⟩:=I.lstE q
    cases d<;>simp only[ka,cG,reduceCtorEq]at hz<;>subst hz
    ·cases rx;exact SeqAt.EqAt.none_list p hu0
    ·cases rx;exact SeqAt.EqAt.bool_list _ p hu0
    ·obtain⟨t,rfl⟩:=rx;exact SeqAt.EqAt.int_list _ _ p hu0
    ·obtain⟨t,rfl⟩:=rx;exact SeqAt.EqAt.str_list _ _ p hu0
 | succ n ih=>
  intro A I d e x y u v hn hu rd re rx ry
  have hu0:A.units<cLine:=by lia
  have items:∀{ds es:List Dt} {vs ws:List V} {its its2:List Value},kn ds<=n->Reps H ds vs->Reps H es ws->Vals vs its->Vals ws its2->
    ∀j (h1:j<its.toArray.size) (h2:j<its2.toArray.size),SeqAt.EqAt A.in1 s its.toArray[j] its2.toArray[j] (lI ds es j):=by
   intro ds es vs ws its its2 hdp r1 r2 w1 w2 j h1 h2
   rw[ah]at h1 h2
   have l1:=w1.length
   have l2:=w2.length
   obtain⟨u',e1,q1⟩:=w1.get (i:=j) (x:=vs[j]'(by lia)) (gE _)
   obtain⟨v',e2,q2⟩:=w2.get (i:=j) (x:=ws[j]'(by lia)) (gE _)
   obtain⟨d',f1,g1⟩:=r1.at (i:=j) (gE (by lia))
   obtain⟨e',f2,g2⟩:=r2.at (i:=j) (gE (by lia))
   rw[gE h1]at e1
   rw[gE h2]at e2
   cases e1;cases e2
   have hj:lI ds es j=jq d' e':=by unfold lI;rw[f1,f2]
   rw[hj]
   have:=uP f1
   exact ih (A:=A.in1) I (by lia) (by show A.units+1+n<cLine;lia) g1 g2 q1 q2
  cases hf:ka d with
  |some z=>
   refine ih I ?_ (by lia) rd re rx ry
   cases d<;>simp only[ka,reduceCtorEq]at hf<;>simp[kM]
  | none =>
   cases he:ka e with
   | some y'=>
    rw[(A0 hf he).1]
    obtain⟨rfl,fy⟩:=u5 he re
    cases d<;>simp only[ka,reduceCtorEq]at hf
    ·rw[Rep]at rd
     obtain⟨a,vs,rfl,q,_⟩:=rd
     cases rx
     obtain⟨its,_,p⟩:=I.tupE q
     cases e<;>simp only[ka,cG,reduceCtorEq]at he<;>subst he
     ·cases ry;exact SeqAt.EqAt.tuple_none p hu0
     ·cases ry;exact SeqAt.EqAt.tuple_bool _ p hu0
     ·obtain⟨t,rfl⟩:=ry;exact SeqAt.EqAt.tuple_int _ _ p hu0
     ·obtain⟨t,rfl⟩:=ry;exact SeqAt.EqAt.tuple_str _ _ p hu0
    ·rw[Rep]at rd
     obtain⟨a,vs,rfl,q,_⟩:=rd
     cases rx
     obtain⟨its,_,p⟩:=I.lstE q
     cases e<;>simp only[ka,cG,reduceCtorEq]at he<;>subst he
     ·cases ry;exact SeqAt.EqAt.list_none p hu0
     ·cases ry;exact SeqAt.EqAt.list_bool _ p hu0
     ·obtain⟨t,rfl⟩:=ry;exact SeqAt.EqAt.list_int _ _ p hu0
     ·obtain⟨t,rfl⟩:=ry;exact SeqAt.EqAt.list_str _ _ p hu0
   | none=>
    cases d<;>simp only[ka,reduceCtorEq]at hf<;>cases e<;>simp only[ka,reduceCtorEq]at he
    ·rename_i ds es
     have hn':kn ds<=n:=by rw[kM]at hn;lia
     have rd0:=rd
     have re0:=re
     rw[Rep]at rd
     rw[Rep]at re
     obtain⟨a,vs,rfl,q,r1⟩:=rd
     obtain⟨b,ws,rfl,q2,r2⟩:=re
     cases rx;cases ry
     by_cases hab:a=b
     ·subst hab
      rw[Rep.inj rd0 re0,pY]
      exact hX _
     ·obtain⟨its,w1,p1⟩:=I.tupE q
      obtain⟨its2,w2,p2⟩:=I.tupE q2
      have k:=SeqAt.RcAt.tuples p1 p2 hu0 (items hn' r1 r2 w1 w2)
      have e0:((List.range (min its.toArray.size its2.toArray.size)).all (lI ds es)&&its.toArray.size==its2.toArray.size)=jq (.tup ds) (.tup es):=by
       have l1:=w1.length
       have l2:=w2.length
       have l3:=r1.len
       have l4:=r2.len
       rw[jq,ah,ah]
       by_cases hl:ds.length=es.length
       ·rw [oS hl,<- l1,<- l2,l3,l4,hl,Nat.min_self]
        simp
       ·rw[oK hl]
        have:(its.length==its2.length)=false:=by
         rw[bO];lia
        rw[this,dJ]
      rw[e0]at k
      exact .of_refs hab k
    ·rename_i ds es
     rw[Rep]at rd
     rw[Rep]at re
     obtain⟨a,vs,rfl,q,r1⟩:=rd
     obtain⟨b,ws,rfl,q2,r2⟩:=re
     cases rx;cases ry
     obtain⟨its,w1,p1⟩:=I.tupE q
     obtain⟨its2,w2,p2⟩:=I.lstE q2
     have:jq (.tup ds) (.lst es)=false:=by simp[jq]
     rw[this]
     exact SeqAt.EqAt.tuple_list p1 p2 hu0
    ·rename_i ds es
     rw[Rep]at rd
     rw[Rep]at re
     obtain⟨a,vs,rfl,q,r1⟩:=rd
     obtain⟨b,ws,rfl,q2,r2⟩:=re
     cases rx;cases ry
     obtain⟨its,w1,p1⟩:=I.lstE q
     obtain⟨its2,w2,p2⟩:=I.tupE q2
     have:jq (.lst ds) (.tup es)=false:=by simp[jq]
     rw[this]
     exact SeqAt.EqAt.list_tuple p1 p2 hu0
    ·rename_i ds es
     have hn':kn ds<=n:=by rw[kM]at hn;lia
     have rd0:=rd
     have re0:=re
     rw[Rep]at rd
     rw[Rep]at re
     obtain⟨a,vs,rfl,q,r1⟩:=rd
     obtain⟨b,ws,rfl,q2,r2⟩:=re
     cases rx;cases ry
     by_cases hab:a=b
     ·subst hab
      rw[Rep.inj rd0 re0,pY]
      exact hX _
     ·obtain⟨its,w1,p1⟩:=I.lstE q
      obtain⟨its2,w2,p2⟩:=I.lstE q2
      have l1:=w1.length
      have l2:=w2.length
      have l3:=r1.len
      have l4:=r2.len
      refine .of_refs hab ?_
      rw[jq]
      by_cases hl:ds.length=es.length
      ·rw[oS hl]
       have k:=SeqAt.RcAt.lists p1 p2 (by rw[ah,ah];lia) hu0 (items hn' r1 r2 w1 w2)
       rw [ah,<- l1,l3] at k
       exact k
      ·rw[oK hl]
       exact SeqAt.RcAt.lists_lengths p1 p2 (by rw[ah,ah];simp;lia) hu0
end
section
variable{prog:Program}{w:World}{A:Around}{R:Result->Shared->Prop}{I:Addr}{fp wr:List Addr}{n:Nat}{P:Nat->Value->Prop}{St:Nat->Heap->Prop}
def Best(val:Nat->Int)(n:Nat)(m:Int):Prop:=(∃i,i<n/\m=val i)/\∀i,i<n->val i<=m
theorem Best.keep{val:Nat->Int}{j:Nat}{m:Int}(h:Best val j m)(hb:¬val j>m):Best val (j+1) m:=
 ⟨let⟨i,hi,e⟩:=h.1;⟨i,cU hi,e⟩,fun i hi=>by
  rcases fo.mp hi with z|z
  ·exact h.2 i z
  ·rw[z];lia⟩
end
section
variable{X:Cx}
def B0(r:List V->List V->Hp->VK->Prop)(t tk:TA):TE:=fun σ H Q=>t σ H fun vs H1=>tk σ H1 fun zs H2=>r vs zs H2 Q
end
section
variable{X:Cx}{pins:List (Addr×Obj)}{σ:St}{H:Hp}{s:Shared}
theorem rL(n:Nat){A:Around}(I:Inv X pins σ H s){ds es:List Dt}{vs ws:List V}{its its2:List Value}(hdp:kn ds<=n)(hu:A.units+n<cLine)(r1:Reps H ds vs)(r2:Reps H es ws)(w1:Vals vs its)(w2:Vals ws its2):
  ∀j (h1:j<its.toArray.size) (h2:j<its2.toArray.size),SeqAt.EqAt A s its.toArray[j] its2.toArray[j] (lI ds es j):=by
 intro j h1 h2
 rw[ah]at h1 h2
 have l1:=w1.length
 have l2:=w2.length
 obtain⟨u',e1,q1⟩:=w1.get (i:=j) (x:=vs[j]'(by lia)) (gE _)
 obtain⟨v',e2,q2⟩:=w2.get (i:=j) (x:=ws[j]'(by lia)) (gE _)
 obtain⟨d',f1,g1⟩:=r1.at (i:=j) (gE (by lia))
 obtain⟨e',f2,g2⟩:=r2.at (i:=j) (gE (by lia))
 rw[gE h1]at e1
 rw[gE h2]at e2
 cases e1;cases e2
 have hj:lI ds es j=jq d' e':=by unfold lI;rw[f1,f2]
 rw[hj]
 have:=uP f1
 exact Iy n I (by lia) hu g1 g2 q1 q2
theorem AL{ds es:List Dt}{vs ws:List V}{its its2:List Value}(r1:Reps H ds vs)(r2:Reps H es ws)(w1:Vals vs its)(w2:Vals ws its2):
  ((List.range (min its.toArray.size its2.toArray.size)).all (lI ds es)&&its.toArray.size==its2.toArray.size)=lB ds es:=by
 have l1:=w1.length
 have l2:=w2.length
 have l3:=r1.len
 have l4:=r2.len
 rw[ah,ah]
 by_cases hl:ds.length=es.length
 ·rw [oS hl,<- l1,<- l2,l3,l4,hl,Nat.min_self]
  simp
 ·rw[oK hl]
  have:(its.length==its2.length)=false:=by
   rw[bO];lia
  rw[this,dJ]
def xh(neg:Bool):R2:=fun x y H Q=>∃d e,Rep H d x/\Rep H e y/\kM d<=20/\((∃ds es,d= .lst ds/\e= .lst es)\/∃ds es,d= .tup ds/\e= .tup es)/\Q (.bl (if neg=true then !jq d e else jq d e)) H
theorem xK(hu:X.A.units+64<cLine):OpR X (compareOp .Eq) (xh false):=by
 intro pins s σ H x y v u Q I rx ry h
 obtain⟨d,e,rd,re,hd,hk,q⟩:=h
 have hu0:X.A.units<cLine:=by lia
 rcases hk with⟨ds,es,rfl,rfl⟩|⟨ds,es,rfl,rfl⟩
 ·have hn':kn ds<=20:=by rw[kM]at hd;lia
  rw[Rep]at rd re
  obtain⟨a,vs,rfl,q1,r1⟩:=rd
  obtain⟨b,ws,rfl,q2,r2⟩:=re
  cases rx;cases ry
  obtain⟨its,w1,p1⟩:=I.lstE q1
  obtain⟨its2,w2,p2⟩:=I.lstE q2
  have l1:=w1.length
  have l2:=w2.length
  have l3:=r1.len
  have l4:=r2.len
  by_cases hl:ds.length=es.length
  ·refine SeqAt.RcAt.lists (e:=lI ds es) p1 p2 (by rw[ah,ah];lia) hu0 (rL 20 I hn' (by show X.A.units+1+20<cLine;lia) r1 r2 w1 w2) _ _ _ _ ⟨.bl _,H,I,rfl,?_⟩
   rw [ah,<- l1,l3,<- oS hl]
   rw[jq]at q
   exact q
  ·refine SeqAt.RcAt.lists_lengths p1 p2 (by rw[ah,ah];simp;lia) hu0 _ _ _ _ ⟨.bl _,H,I,rfl,?_⟩
   rw[jq,oK hl]at q
   exact q
 ·have hn':kn ds<=20:=by rw[kM]at hd;lia
  rw[Rep]at rd re
  obtain⟨a,vs,rfl,q1,r1⟩:=rd
  obtain⟨b,ws,rfl,q2,r2⟩:=re
  cases rx;cases ry
  obtain⟨its,w1,p1⟩:=I.tupE q1
  obtain⟨its2,w2,p2⟩:=I.tupE q2
  refine SeqAt.RcAt.tuples (e:=lI ds es) p1 p2 hu0 (rL 20 I hn' (by show X.A.units+1+20<cLine;lia) r1 r2 w1 w2) _ _ _ _ ⟨.bl _,H,I,rfl,?_⟩
  rw[AL r1 r2 w1 w2]
  rw[jq]at q
  exact q
theorem xM(hu:X.A.units+64<cLine):OpR X (compareOp .NotEq) (xh true):=by
 intro pins s σ H x y v u Q I rx ry h
 obtain⟨d,e,rd,re,hd,hk,q⟩:=h
 have hu0:X.A.units<cLine:=by lia
 rcases hk with⟨ds,es,rfl,rfl⟩|⟨ds,es,rfl,rfl⟩
 ·have hn':kn ds<=20:=by rw[kM]at hd;lia
  rw[Rep]at rd re
  obtain⟨a,vs,rfl,q1,r1⟩:=rd
  obtain⟨b,ws,rfl,q2,r2⟩:=re
  cases rx;cases ry
  obtain⟨its,w1,p1⟩:=I.lstE q1
  obtain⟨its2,w2,p2⟩:=I.lstE q2
  have l1:=w1.length
  have l2:=w2.length
  have l3:=r1.len
  have l4:=r2.len
  by_cases hl:ds.length=es.length
  ·refine SeqAt.RcNeAt.lists (e:=lI ds es) p1 p2 (by rw[ah,ah];lia) hu0 (rL 20 I hn' (by show X.A.units+1+20<cLine;lia) r1 r2 w1 w2) _ _ _ _ ⟨.bl _,H,I,rfl,?_⟩
   rw [ah,<- l1,l3,<- oS hl]
   rw[jq]at q
   exact q
  ·refine SeqAt.RcNeAt.lists_lengths p1 p2 (by rw[ah,ah];simp;lia) hu0 _ _ _ _ ⟨.bl _,H,I,rfl,?_⟩
   rw[jq,oK hl]at q
   exact q
 ·have hn':kn ds<=20:=by rw[kM]at hd;lia
  rw[Rep]at rd re
  obtain⟨a,vs,rfl,q1,r1⟩:=rd
  obtain⟨b,ws,rfl,q2,r2⟩:=re
  cases rx;cases ry
  obtain⟨its,w1,p1⟩:=I.tupE q1
  obtain⟨its2,w2,p2⟩:=I.tupE q2
  refine SeqAt.RcNeAt.tuples (e:=lI ds es) p1 p2 hu0 (rL 20 I hn' (by show X.A.units+1+20<cLine;lia) r1 r2 w1 w2) _ _ _ _ ⟨.bl _,H,I,rfl,?_⟩
  rw[AL r1 r2 w1 w2]
  rw[jq]at q
  exact q
end
section
variable{X:Cx}{o i e f value:Expr}{td ty tv tx:TE}{pos pos' apos cpos:Pos}
def xV(td ty tv:TE):TS:=fun D σ H=>tv σ H fun v H1=>td σ H1 fun x H2=>ty σ H2 fun y H3=>match x,y with
 | .ref a,.int n=>match H3 a with
  |some (.dK kvs)=>kvs.length<sizeLine/\D.nx σ (upd H3 a (.dK (jF kvs (Sum.inl n:iF) v)))
  |_=>False
 |_,_=>False
theorem IE{x y:V}{H3:Hp}{R:List (iF×V)->Addr->Int->Prop}(h:match x,y with
 | .ref a,.int n=>match H3 a with
  |some (.dK kvs)=>R kvs a n
  |_=>False
 |_,_=>False):∃a n kvs,x= .ref a/\y= .int n/\H3 a=some (.dK kvs)/\R kvs a n:=by
 split at h
 ·split at h
  ·rename_i e;exact⟨_,_,_,rfl,rfl,e,h⟩
  ·exact h.elim
 ·exact h.elim
theorem DE{y:V}{a:Addr}{H3:Hp}{R:List (iF×V)->Int->Prop}(h:match y with
 | .int n=>match H3 a with
  |some (.dK kvs)=>R kvs n
  |_=>False
 |_=>False):∃n kvs,y= .int n/\H3 a=some (.dK kvs)/\R kvs n:=by
 split at h
 ·split at h
  ·rename_i e;exact⟨_,_,rfl,e,h⟩
  ·exact h.elim
 ·exact h.elim
theorem uh(hu:X.A.units+1<cLine)(ho:PE X o td)(hi:PE X i ty)(hv:PE X value tv)(hs:swapsWith value (some (.Subscript o i pos')) pos.line X.env=pure false:=by rfl):
  PS X (.Assign [.Subscript o i pos'] value pos) (xV td ty tv):=by
 intro pins s σ H D I h
 refine wpAny_Assign_Subscript (iJ (hv pins s σ H _ I h) fun r s1 ⟨v,H1,I1,rv,q1⟩=>iJ (ho pins s1 σ H1 _ I1 q1) fun u s2 ⟨x,H2,I2,rx,q2⟩=>iJ (hi pins s2 σ H2 _ I2 q2) fun iv s3 ⟨y,H3,I3,ry,q3⟩=>?_) hs
 obtain⟨a,n,kvs,rfl,rfl,ea,q4,q5⟩:=IE (R:=fun kvs a n=>kvs.length<sizeLine/\D.nx σ (upd H3 a (.dK (jF kvs (Sum.inl n:iF) v)))) q3
 obtain rfl:u=Value.ref a:=rx
 exact FB hu I3 (DPut.k (k:=Sum.inl n) ea q4) ry rv fun s4 I4=>⟨σ,_,I4,q5⟩
def xA(td ty tx:TE):TE:=fun σ H Q=>td σ H fun x H1=>match x with
 | .ref a=>(∃kvs,H1 a=some (.dK kvs))/\ty σ H1 fun y H2=>tx σ H2 fun z H3=>match y with
  | .int n=>match H3 a with
   |some (.dK kvs)=>Q ((i8 kvs (Sum.inl n:iF)).getD z) H3
   |_=>False
  |_=>False
 |_=>False
theorem uK(hu:X.A.units+1<cLine)(ho:PE X o td)(he:PE X e ty)(hf:PE X f tx)(m:M2 X o "get" apos e f cpos:=by exact⟨rfl,rfl,rfl,rfl⟩):PE X (.Call (.Attribute o "get" apos) [e,f] [] cpos) (xA td ty tx):=by
  intro pins s σ H Q I h
  refine wpAny_Call_method m.base m.few m.line PySem.F.plainAttrs_dict cN PySem.F.type_dict_get (iJ (ho pins s σ H _ I h) fun u s1 ⟨x,H1,I1,rx,q1⟩=>?_)
  cases x<;>first
    |exact False.elim q1
    | (rename_i a
       dsimp only at q1
       obtain⟨⟨kvs0,e0⟩,q1⟩:=q1
       obtain rfl:u=Value.ref a:=rx
       obtain⟨t1,t2,_⟩:=xE I1 (.inl ⟨kvs0,.inl e0⟩)
       refine⟨t1,t2,?_⟩
       rw[m.trees]
       refine fJ rfl (gf (eU (iJ (he pins s1 σ H1 _ I1 q1) fun iv s2 ⟨y,H2,I2,ry,q2⟩=>
         eU (iJ (hf pins s2 σ H2 _ I2 q2) fun fv s3 ⟨z,H3,I3,rz,q3⟩=>gP ?_))))
       obtain⟨n,kvs,rfl,ea,q4⟩:=DE (R:=fun kvs n=>Q ((i8 kvs (Sum.inl n:iF)).getD z) H3) q3
       exact IA hu I3 (DGet.k (k:=Sum.inl n) ea) ry rz fun w' s4 I4 rw'=>⟨_,H3,I4,rw',q4⟩)
noncomputable def wd:R2:=fun x y H Q=>match x,y with
 | .ref l,.ref b=>match H l,H b with
  |some (.lst xs),some (.lst zs)=>xs.length+zs.length<=sizeLine/\∀p,H p=none->Q (.ref p) (upd H p (.lst (xs++zs)))
  |_,_=>False
 |_,_=>False
theorem oB:OpR X (binaryOp .Add) wd:=Dc.imp fun x y H Q h=>by
 unfold wd at h
 split at h
 ·split at h
  ·rename_i e1 e2;exact⟨_,_,_,_,rfl,rfl,e1,e2,h.1,h.2⟩
  ·exact h.elim
 ·exact h.elim
noncomputable def Im:V->List V->Hp->VK->Prop:=fun x vs H Q=>match x,vs with
 | .ref l,[]=>match H l with
  |some (.lst _)=>Q .non (upd H l (.lst []))
  |_=>False
 |_,_=>False
def Io(r:V->List V->Hp->VK->Prop)(to:TE):TE:=fun σ H Q=>to σ H fun x H1=>(∃a xs,x= .ref a/\H1 a=some (.lst xs))/\r x [] H1 Q
def vQ:V->Option Int->Option Int->Hp->VK->Prop:=fun x lo hi H Q=>match x with
 | .ref a=>match H a with
  |some (.tup xs)=>¬(HT.iZ xs.length 0 lo=0/\HT.iZ xs.length xs.length hi=xs.length)/\∀p,H p=none->Q (.ref p) (upd H p (.tup (kA xs lo hi)))
  |_=>False
 |_=>False
theorem tR:SlR X vQ:=B9.imp fun x l u H Q h=>by
 unfold vQ at h
 split at h
 ·split at h
  ·rename_i xs e;exact⟨_,xs,rfl,SqT.of e,h.1,h.2⟩
  ·exact h.elim
 ·exact h.elim
noncomputable def tI:List V->Hp->VK->Prop:=fun vs H Q=>match vs with
 |[.bl k]=>Q (.int (if k=true then 1 else 0)) H
 |[.int i]=>Q (.int i) H
 |_=>False
theorem xR:jc2 X (.type "int") tI:=Fs.imp fun vs H Q h=>by
 unfold tI at h
 split at h
 ·exact .inr ⟨_,rfl,h⟩
 ·exact .inl ⟨_,rfl,h⟩
 ·exact h.elim
end
section
variable{prog:Program}{w:World}{A:Around}{E:Value->Shared->Prop}
end
section
variable{X:Cx}{es:List Expr}{pos:Pos}
def Il(n:Nat)(t:k8):TG:=fun v σ H Q=>match v with
 | .ref a=>match H a with
  |some (.lst xs)=>xs.length=n/\t xs σ H Q
  |_=>False
 |_=>False
end
def IQ(h B:Heap)(x:Addr)(cl:Value)(dd:Option Addr)(fl:Value):Prop:=
 ∃ox ws T oT ts,h.get? x=some ox/\ox.cls=cl/\ox.dict=dd/\ox.data= .fields ws/\ws[1]? =some (.ref T)/\B.get? T=none/\T≠x/\h.get? T=some oT/\oT.data= .fields ts/\ts[3]? =some fl/\(dd≠none->ws[2]? =some .none)
structure FlyD(B:Heap)(l:List Env)(x:Addr)(cl:Value)(dd:Option Addr)(fl:Value)(h:Heap):Prop where
 stays:B.StaysIn h
 new:B.get? x=none
 funs:h.FunFrames B l
 tr:IQ h B x cl dd fl
theorem FlyD.there{B:Heap}{l:List Env}{x:Addr}{cl:Value}{dd:Option Addr}{fl:Value}{h:Heap}(f:FlyD B l x cl dd fl h):∃ox ws,h.get? x=some ox/\ox.cls=cl/\ox.dict=dd/\ox.data= .fields ws:=by
 obtain⟨ox,ws,_,_,_,h1,h2,h3,h4,_⟩:=f.tr
 exact⟨ox,ws,h1,h2,h3,h4⟩
section
variable{M:Model}{A:Around}{E:Value->Shared->Prop}{s:Shared}{B:Heap}{env:Env}{l:List Env}{L x:Addr}{cl:Value}{dd:Option Addr}{Q:Unit->Shared->Prop}
end
structure Df(X:Cx):Prop where
 stk:X.stack=X.env::X.outer
 fr:X.env.frame=some X.env.locals
 ex:X.ex=[]
 fn:∀x,X.fn x=true
structure Cov(X:Cx)(B:Heap)(H:Hp)(h:Heap):Prop where
 tr:∀b o,H b=some o->∃q,h.get? b=some q/\B.get? b=some q
 old:∀b o,X.s₀.heap.get? b=some o->b∉kX X.stack->∃q,h.get? b=some q/\B.get? b=some q
 pin:∀p∈X.pn,B.get? p.1=some p.2
 cel:∀x c,X.env.cells.lookup x=some c->∃q,h.get? c=some q/\B.get? c=some q
section
variable{X:Cx}{σ:St}{H:Hp}{s:Shared}{B h':Heap}
end
inductive Md(B:Heap)(l:List Env)(L x:Addr)(cl:Value)(dd:Option Addr)(h:Heap):Prop where
 |new {ox:Obj} {ws:Array Value}:h.get? x=some ox->ox.cls=cl->ox.dict=dd->ox.data= .fields ws->ws[1]? =some .none->(dd≠none->ws[2]? =some .none)->B.StaysIn h->B.get? x=none->h.FunFrames B l->Md B l L x cl dd h
 |fly:FlyD B l x cl dd .none h->Md B l L x cl dd h
 |held:FlyD B l x cl dd (rawInt L) h->Md B l L x cl dd h
theorem Md.stays{B:Heap}{l:List Env}{L x:Addr}{cl:Value}{dd:Option Addr}{h:Heap}(m:Md B l L x cl dd h):B.StaysIn h:=by
 cases m with
 |new _ _ _ _ _ _ s _ _=>exact s
 |fly f=>exact f.stays
 |held f=>exact f.stays
def XT(X:Cx)(EX:St->XK):Value->Shared->Prop:=fun e s'=>∃(x:Addr) (cl:Value) (dd:Option Addr) (σ:St) (H:Hp) (B:Heap),e= .ref x/\Inv X [] σ H s'/\H x=none/\X.s₀.heap.objs.size<=x/\Cov X B H s'.heap/\EX σ cl dd H/\Md B X.stack X.env.locals x cl dd s'.heap
noncomputable def Cx.tr(X:Cx)(pins:List (Addr×Obj))(EX:St->XK):Cx:={X with pn:=X.pn++pins,xe:=XT {X with pn:=X.pn++pins} EX}
theorem Cx.Ok.pn{X:Cx}(ok:X.Ok)(pn:List (Addr×Obj))(E:Value->Shared->Prop):({X with pn:=pn,xe:=E}:Cx).Ok:=
 ⟨ok.mod,ok.kind,ok.glob,ok.blt,ok.above,ok.inj,ok.has,ok.cab,ok.hd,ok.frames,ok.stk,ok.exf,ok.bs,ok.bsz,ok.noex,ok.exfs,ok.funs,ok.frf⟩
theorem Inv.tr{X:Cx}{pins:List (Addr×Obj)}{σ:St}{H:Hp}{s:Shared}(I:Inv X pins σ H s)(EX:St->XK):Inv (X.tr pins EX) [] σ H s:=
 ⟨I.ok.pn _ _,I.os,I.bare,I.base,I.loc,I.cell,I.free,I.freeC,fun p hp=>I.pin p (by
  have:p∈(X.pn++pins)++[]:=hp
  simpa using this),I.hok,I.len⟩
theorem Df.tr{X:Cx}(d:Df X)(pins:List (Addr×Obj))(EX:St->XK):Df (X.tr pins EX):=⟨d.stk,d.fr,d.ex,d.fn⟩
section
variable{X:Cx}{CX:k9}{k:Nat}{f:Addr}{fd:FuncData}{ps:List Str}{sp:Sp}{EX:St->XK}{x:Str}{p pos:Pos}{e:Expr}{es:List Expr}{t:TA}{ds:List Value}{dvs:List V}
end
section
variable{P:Program}{w:World}{K:PySem.W.Frag}{mg:Str->Option Value}{base:Heap}
end
section
variable{prog:Program}{w:World}{A:Around}{E:Value->Shared->Prop}{h:Heap}{g:Array GenState}{d:Drawn}{t:Nat}{os:OsState}
variable{nm q:Str}{C N:Addr}{bs bm bmB:List Value}{hdct:Bool}{sn:List Str}{sub:List Value}{ab:Bool}{col:Option Bool}{dd:Option Addr}{k0 k1 k2 k3 k5:Option Value}{B newId initId:String}
end
end L2
namespace L2
open PySem PySem.Spec PyProof.Rows Builtin Builtin.ObjectAttr
section
variable{prog:Program}{w:World}{A:Around}{E:Value->Shared->Prop}{h:Heap}{g:Array GenState}{d:Drawn}{t:Nat}{os:OsState}{C:Addr}{bmB:List Value}{B newId initId:String}
end
noncomputable def ju9:Value->Bool
 | .ref _=>true
 |_=>false
theorem ju9.ex{v:Value}(h:ju9 v=true):∃a,v= .ref a:=by
 cases v<;>first|exact⟨_,rfl⟩|cases h
section
variable{prog:Program}{w:World}{A:Around}{E:Value->Shared->Prop}{s:Shared}{K:PySem.W.Frag}{x C t0:Addr}{dz:Option Addr}{name:Str}{v:Value}{Q:Unit->Shared->Prop}
end
section
variable{P:Program}{w:World}{H:Hp}{h:Heap}{a C:Addr}{dd:Option Addr}{fs:List (Str×V)}
end
section
variable{X:Cx}{pins:List (Addr×Obj)}{σ:St}{H:Hp}{s:Shared}{h':Heap}{x dx:Addr}{φ:Heap->Prop}{o1 o2:HO}{t':Nat}
end
section
variable{X:Cx}{o value e:Expr}{es:List Expr}{f x:Str}{p pos pos' apos:Pos}{ta tv:TE}{t:TA}{C T:Addr}{bmB:List Value}{B newId initId:String}{fI:Addr}
end
section
variable{X:Cx}{EX:St->XK}{k:Nat}{fI C:Addr}{fd:FuncData}{ps:List Str}{sp:Sp}{x:Str}{p cpos pos:Pos}{e:Expr}{es:List Expr}{t:TA}{bmB:List Value}{B newId initId:String}
end
section
variable{X:Cx}{pins:List (Addr×Obj)}{σ:St}{H:Hp}{s:Shared}{x:Addr}{o:HO}
end
section
variable{X:Cx}{x n:Str}{np hpos pos:Pos}{body suite:List Stmt}{b0:Stmt}{C:Addr}{mt:Value->Prop}{i:Nat}{tb:(St->XK)->TS}{th:TS}
end
section
variable{X:Cx}{C dx a:Addr}{fs:List (Str×V)}{H:Hp}{s:Shared}
end
end L2
namespace L2
open PySem PySem.Spec PyProof.Rows Builtin Builtin.ObjectAttr
structure XG(K:PySem.W.Frag)(C:Addr):Prop where
 ga:PySem.W.findIn K (.ref C) "__getattribute__"=some (some (.builtin "BaseException.__getattribute__"))
 gt:PySem.W.findIn K (.ref C) "__getattr__"=some none
 sub:PySem.W.mroIn K C (.type "BaseException")=some true
section
variable{prog:Program}{w:World}{A:Around}{E:Value->Shared->Prop}{s:Shared}{K:PySem.W.Frag}{x C:Addr}{ox:Obj}{od:Option Obj}{name:Str}{v:Value}
end
structure XY(K:PySem.W.Frag)(C:Addr):Prop where
 g:XG K C
 hd:PySem.W.hasDictIn K C=true
 ha:PySem.W.findIn K (.ref C) "__class__"=some (some (.builtin "object.__class__"))
 hn:PySem.W.specialIn K (.builtin "object.__class__") "__get__"=some (some (.builtin "getset_descriptor.__get__"))
 ht:PySem.W.takesIn K (.builtin "object.__class__")=some true
 hm:PySem.W.mroIn K C (.type "object")=some true
theorem XY.cls{K:PySem.W.Frag}{C:Addr}(y:XY K C):∃c d cd sl,K.lookup C=some ⟨c,d,.cls cd,sl⟩:=by
 obtain⟨cd,hc,_⟩:=PySem.W.any_some y.hd
 unfold PySem.W.clsIn at hc
 split at hc
 ·rename_i ho
  exact⟨_,_,_,_,ho⟩
 ·cases hc
section
variable{X:Cx}{C dx a:Addr}{fs:List (Str×V)}{H:Hp}{s:Shared}
end
section
variable{X:Cx}
end
structure RoomH(k:Nat)(A:Around):Prop where
 dp:A.depth+3*k+5<recursionLimit
 un:A.units+16*k+200<cLine
theorem Room.h{j k:Nat}{A:Around}(r:Room k A)(h:j<=k):RoomH j A:=⟨(r.mono h).dp,(r.mono h).un⟩
theorem Room.hm{j k:Nat}{A:Around}{o:Option Value}(r:Room k A)(h:j<=k):RoomH j (A.mark o):=⟨(r.mono h).dp,(r.mono h).un⟩
theorem RoomH.mono{j k:Nat}{A:Around}(r:RoomH k A)(h:j<=k):RoomH j A:=⟨by have:=r.dp;lia,by have:=r.un;lia⟩
section
variable{P:Program}{w:World}{K:PySem.W.Frag}{mg:Str->Option Value}{base:Heap}
end
section
variable{X:Cx}{k:Nat}{f:Addr}{fd:FuncData}{ps:List Str}{sp:Sp}{x:Str}{p pos:Pos}{e:Expr}{es:List Expr}{t:TA}
end
section
variable{X:Cx}{C:Addr}
end
section
variable{X:Cx}{x n:Str}{np hpos pos:Pos}{body suite:List Stmt}{b0:Stmt}{C:Addr}{mt:Value->Prop}{tb:(St->XK)->TS}{th:TS}
end
section
variable{prog:Program}{w:World}{A:Around}{E:Value->Shared->Prop}{s:Shared}{C a:Addr}{bmB:List Value}{newId:String}
end
section
variable{prog:Program}{w:World}{A:Around}{E:Value->Shared->Prop}{h:Heap}{g:Array GenState}{d:Drawn}{t:Nat}{os:OsState}
variable{C:Addr}{bmB:List Value}{B newId initId:String}
end
section
variable{X:Cx}{x y:Str}{np hpos pos p cpos rpos cp:Pos}{kk:Nat}{body:List Stmt}{C D':Addr}{mt:Value->Prop}{tb:(St->XK)->TS}{EX:St->XK}{e:Expr}{es:List Expr}{t:TA}{bmB:List Value}{B newId initId:String}
end
open PySem.Builtin.ObjectAttr
section
variable{X:Cx}{C a:Addr}{H:Hp}{s:Shared}
end
def BD(i j:Int):Prop:=0<j/\j<1000000000000000000
section
variable{X:Cx}
theorem yH:OpR X (binaryOp .FloorDiv) (fIC BD fun i j=>.int (i/j)):=by
 intro pins s σ H x y v u Q I rx ry h
 unfold fIC at h
 split at h
 ·rename_i i j
  obtain⟨⟨h1,h2⟩,q⟩:=h
  obtain⟨t,rfl⟩:=rx
  obtain⟨t',rfl⟩:=ry
  refine floordiv_int (by lia) ?_ (.inl (PyProof.noPylong_of_log2 ?_))
  ·rw[iq i (by lia)]
   exact⟨.int (i/j),H,I.tok _,⟨_,rfl⟩,q⟩
  ·by_cases h0:j.natAbs=0
   ·rw[h0];decide
   ·exact bf ((Nat.log2_lt h0).mpr (show j.natAbs<2^60 by lia)) (by decide)
 ·exact h.elim
end
theorem iQ{a b:TS}{D:Ends}{σ:St}{H:Hp}(h:∀R,R=b->mY a R D σ H):mY a b D σ H:=h b rfl
section
variable{X:Cx}
end
end L2
namespace So
open PySem PyProof.Rows
noncomputable def kv(R:Keyed->Int)(xs:Array Keyed)(i:Nat):Int:=(xs[i]?.map R).getD 0
theorem mw{R:Keyed->Int}{xs ys:Array Keyed}{i j:Nat}(h:xs[i]? =ys[j]?):kv R xs i=kv R ys j:=by unfold kv;rw[h]
theorem kv_at{R:Keyed->Int}{xs:Array Keyed}{i:Nat}{x:Keyed}(h:xs[i]? =some x):kv R xs i=R x:=by unfold kv;rw[h];rfl
def Up(R:Keyed->Int)(xs:Array Keyed)(a b:Nat):Prop:=∀i j,a<=i->i<=j->j<b->kv R xs i<=kv R xs j
def Dn(R:Keyed->Int)(xs:Array Keyed)(a b:Nat):Prop:=∀i j,a<=i->i<=j->j<b->kv R xs j<=kv R xs i
def Fore(lo:Nat)(xs ys:Array Keyed):Prop:=∀i,i<lo->ys[i]? =xs[i]?
theorem Fore.rfl'{lo:Nat}{xs:Array Keyed}:Fore lo xs xs:=fun _ _=>rfl
theorem Fore.tr{lo:Nat}{xs ys zs:Array Keyed}(a:Fore lo xs ys)(b:Fore lo ys zs):Fore lo xs zs:=fun i h=>(b i h).trans (a i h)
theorem Up.one{R:Keyed->Int}{xs:Array Keyed}{a b:Nat}(h:b<=a+1):Up R xs a b:=fun i j h1 h2 h3=>by
 have e:i=j:=by lia
 rw[e];exact bA _
theorem Up.grow{R:Keyed->Int}{xs:Array Keyed}{a b:Nat}(h:Up R xs a b)(h2:a<b)(hl:kv R xs (b-1)<=kv R xs b):Up R xs a (b+1):=fun i j h3 h4 h5=>by
 by_cases hj:j<b
 ·exact h i j h3 h4 hj
 ·have e:j=b:=by lia
  rw[e]at h4 ⊢
  by_cases hi:i=b
  ·rw[hi];exact bA _
  ·exact cn (h i (b-1) h3 (by lia) (by lia)) hl
theorem Dn.grow{R:Keyed->Int}{xs:Array Keyed}{a b:Nat}(h:Dn R xs a b)(h2:a<b)(hl:kv R xs b<=kv R xs (b-1)):Dn R xs a (b+1):=fun i j h3 h4 h5=>by
 by_cases hj:j<b
 ·exact h i j h3 h4 hj
 ·have e:j=b:=by lia
  rw[e]at h4 ⊢
  by_cases hi:i=b
  ·rw[hi];exact bA _
  ·exact cn hl (h i (b-1) h3 (by lia) (by lia))
theorem Dn.like{R:Keyed->Int}{xs ys:Array Keyed}{a b:Nat}(h:Dn R xs a b)(e:∀k,kv R ys k=kv R xs k):Dn R ys a b:=fun i j h1 h2 h3=>by rw[e,e];exact h i j h1 h2 h3
theorem uE{R:Keyed->Int}{xs:Array Keyed}{i j:Nat}(hj:j<=xs.size)(k:Nat):
  kv R (mirror xs i j ((j-i)/2)) k=if i<=k/\k<j then kv R xs (i+j-1-k)else kv R xs k:=by
 have e:=getElem?_mirror_all (i:=i) hj k
 by_cases c:i<=k/\k<j
 ·rw[aq c]at e ⊢;exact mw e
 ·rw[ak c]at e ⊢;exact mw e
theorem vJ{R:Keyed->Int}{xs:Array Keyed}{i j:Nat}(hj:j<=xs.size)(q:∀k,i<=k->k<j->kv R xs k=kv R xs (j-1))(k:Nat):
  kv R (mirror xs i j ((j-i)/2)) k=kv R xs k:=by
 rw[uE hj]
 split
 ·rename_i c;rw[q _ (by lia) (by lia),q k c.1 c.2]
 ·rfl
theorem sd{lo:Nat}{xs:Array Keyed}{i j:Nat}(hj:j<=xs.size)(hi:lo<=i):Fore lo xs (mirror xs i j ((j-i)/2)):=fun k hk=>by
 rw[getElem?_mirror_all hj,ak (by lia)]
theorem yx{R:Keyed->Int}{xs:Array Keyed}{src d:Nat}(hs:src<xs.size)(hd:d<=src)(k:Nat):
  kv R (bubble xs src d) k=if k=src-d then kv R xs src else if src-d<k/\k<=src then kv R xs (k-1)else kv R xs k:=by
 have e:=getElem?_bubble hs d hd k
 by_cases c:k=src-d
 ·rw[aq c]at e ⊢;exact mw e
 ·rw[ak c]at e ⊢
  by_cases c2:src-d<k/\k<=src
  ·rw[aq c2]at e ⊢;exact mw e
  ·rw[ak c2]at e ⊢;exact mw e
theorem FF{lo:Nat}{xs:Array Keyed}{src d:Nat}(hs:src<xs.size)(hd:lo+d<=src):Fore lo xs (bubble xs src d):=fun k hk=>by
 rw[getElem?_bubble hs d (by lia),ak (by lia),ak (by lia)]
structure Bs(κ:SortKind)(a₀:Array Keyed)(pd:Array (Nat×Nat×Nat))(st:SortSt):Prop where
 perm:(arrOf st).Perm a₀
 kind:kindOf st=κ
 ok:failedOf st=none
 pend:pendingOf st=pd
section
variable{prog:Program}{w:World}{A:Around}{E:Value->Shared->Prop}{s:Shared}{R:Keyed->Int}{κ:SortKind}{a₀:Array Keyed}{pd:Array (Nat×Nat×Nat)}
theorem Bs.size{st:SortSt}(b:Bs κ a₀ pd st):(arrOf st).size=a₀.size:=b.perm.size_eq
theorem Bs.put{st:SortSt}(b:Bs κ a₀ pd st){xs:Array Keyed}(p:xs.Perm (arrOf st)):Bs κ a₀ pd (setArr st xs):=⟨p.trans b.perm,b.kind,b.ok,b.pend⟩
theorem Bs.get{st:SortSt}(b:Bs κ a₀ pd st){i:Nat}(hi:i<a₀.size):∃x,(arrOf st)[i]? =some x/\x∈a₀.toList:=by
 have h1:i<(arrOf st).size:=by rw[b.size];exact hi
 exact⟨(arrOf st)[i],cy _ i h1,(dM.mp b.perm).mem_iff.mp (by simp)⟩
def Cm(prog:Program)(w:World)(A:Around)(s:Shared)(R:Keyed->Int)(κ:SortKind)(a₀:Array Keyed):Prop:=
 ∀x y,x∈a₀.toList->y∈a₀.toList->∀(Q:Bool->Shared->Prop) (E:Value->Shared->Prop),Q (decide (R x<R y)) s->wpAny (model prog w) A (keyLt' κ x.1 y.1) Q E s
theorem w_lt(C:Cm prog w A s R κ a₀){st:SortSt}{x y:Keyed}(hk:kindOf st=κ)(hx:x∈a₀.toList)(hy:y∈a₀.toList){Q:Option Bool->SortSt->Prop}(h:Q (some (decide (R x<R y))) st):
  wpS (model prog w) A E s (lt' x y) Q st:=by
 rw[lt'_eq]
 refine aA (eO ?_)
 rw[hk]
 refine aA (fY (gk (C x y hx hy _ _ ⟨rfl,?_⟩)))
 exact aH h
theorem j5{st:SortSt}{xs:Array Keyed}{i:Nat}{x:Keyed}(e:xs[i]? =some x){Q:Keyed->SortSt->Prop}(h:Q x st):wpS (model prog w) A E s (elem' xs i) Q st:=by
 rw[elem'_eq,e];exact aH h
theorem pP(C:Cm prog w A s R κ a₀){st:SortSt}(b:Bs κ a₀ pd st){i j:Nat}(hi:i<a₀.size)(hj:j<a₀.size){Q:Option Bool->SortSt->Prop}
  (h:Q (some (decide (kv R (arrOf st) i<kv R (arrOf st) j))) st):wpS (model prog w) A E s (ltAt' i j) Q st:=by
 obtain⟨x,e1,m1⟩:=b.get hi
 obtain⟨y,e2,m2⟩:=b.get hj
 rw[ltAt'_eq]
 refine aA (eO (aA (j5 e1 (aA (j5 e2 (w_lt C b.kind m1 m2 ?_))))))
 rw[kv_at e1,kv_at e2]at h
 exact h
abbrev wt:=Option (Option Nat)×Nat
abbrev wy:=Option (Option Nat)×Nat×Nat
noncomputable def qj(lo a nrem:Nat):StateT SortSt Sem wt:=
 forIn [a:nrem] ((none,a):wt) fun _ c=>do
  let z <- ltAt' (lo + c.snd) (lo + c.snd - 1)
  match z with
  |some less=>if less=true then pure (.done (none,c.snd))else pure (.yield (none,c.snd+1))
  |_=>pure (.done (some none,c.snd))
noncomputable def pK (lo n nrem:Nat):StateT SortSt Sem (Option Nat):=do
 reverseSlice' lo (lo+n)
 let c <- qj lo n nrem
 match c.fst with
 |some r=>pure r
 |none=>pure (some c.snd)
noncomputable def su(lo n nrem:Nat):StateT SortSt Sem wy:=
 forIn [n:nrem] ((none,n,0):wy) fun _ c=>do
  let z <- ltAt' (lo + c.snd.fst) (lo + c.snd.fst - 1)
  match z with
  | some less=>
   if less=true then
    if c.snd.snd > 0 then do
     reverseSlice' (lo+c.snd.fst-(c.snd.snd+1)) (lo+c.snd.fst)
     pure (.yield (none,c.snd.fst+1,0))
    else pure (.yield (none,c.snd.fst+1,0))
   else do
    let y <- ltAt' (lo + c.snd.fst - 1) (lo + c.snd.fst)
    match y with
    |some more=>if more=true then pure (.done (none,c.snd.fst,c.snd.snd))else pure (.yield (none,c.snd.fst+1,c.snd.snd+1))
    |_=>pure (.done (some none,c.snd.fst,c.snd.snd))
  |_=>pure (.done (some none,c.snd.fst,c.snd.snd))
noncomputable def pD (lo n nrem:Nat):StateT SortSt Sem (Option Nat):=do
 liftM (rule "list.sort.descending-run")
 let c <- su lo (n + 1) nrem
 match c.fst with
 |some r=>pure r
 | none=>
  if c.snd.snd > 0 then do
   reverseSlice' (lo+c.snd.fst-(c.snd.snd+1)) (lo+c.snd.fst)
   pK lo c.snd.fst nrem
  else pK lo c.snd.fst nrem
theorem Ep (lo nrem:Nat):countRun' lo nrem = (do
    let c <- qj lo 1 nrem
    match c.fst with
    |some r=>pure r
    | none =>
      if(c.snd==nrem)=true then pure (some c.snd)
      else if c.snd > 1 then do
        let z <- ltAt' lo (lo + c.snd - 1)
        match z with
        | some rose=>if rose = true then pure (some c.snd) else do
            reverseSlice' lo (lo+c.snd)
            pD lo c.snd nrem
        |_=>pure none
      else pD lo c.snd nrem):=by
  rw[countRun'_eq]
  unfold pD pK su qj
  dsimp only
  congr 1
  funext c
  obtain⟨r,n⟩:=c
  cases r with
  |some r=>rfl
  | none =>
    dsimp only
    split
    · rfl
    · split
      · congr 1
        funext z
        cases z with
        |none=>rfl
        | some rose=>
          dsimp only
          split
          · rfl
          · congr 1
            funext _r
            (congr 1;funext _u;congr 1;congr 1;funext c2;obtain⟨r2,n2,q2⟩:=c2;cases r2 with
            |some r2=>rfl
            | none=>
              dsimp only
              split
              · congr 1;funext _t;congr 1;funext _v;congr 1;funext c3;obtain⟨r3,n3⟩:=c3;cases r3<;>rfl
              · congr 1;funext _v;congr 1;funext c3;obtain⟨r3,n3⟩:=c3;cases r3<;>rfl)
      · (congr 1;funext _u;congr 1;congr 1;funext c2;obtain⟨r2,n2,q2⟩:=c2;cases r2 with
            |some r2=>rfl
            | none=>
              dsimp only
              split
              · congr 1;funext _t;congr 1;funext _v;congr 1;funext c3;obtain⟨r3,n3⟩:=c3;cases r3<;>rfl
              · congr 1;funext _v;congr 1;funext c3;obtain⟨r3,n3⟩:=c3;cases r3<;>rfl)
theorem rE{st:SortSt}{i j:Nat}{Q:Unit->SortSt->Prop}(h:Q () (setArr st (mirror (arrOf st) i j ((j-i)/2)))):
  wpS (model prog w) A E s (reverseSlice' i j) Q st:=by
 rw[reverseSlice'_eq];exact eD h
theorem yf(C:Cm prog w A s R κ a₀){st:SortSt}{lo a nrem:Nat}{Q:wt->SortSt->Prop}(hn:lo+nrem<=a₀.size)(ha:1<=a)(han:a<=nrem)(b:Bs κ a₀ pd st)(u:Up R (arrOf st) lo (lo+a))
  (h:∀n,a<=n->n<=nrem->Up R (arrOf st) lo (lo+n)->(n=nrem\/kv R (arrOf st) (lo+n)<kv R (arrOf st) (lo+n-1))->Q (none,n) st):
  wpS (model prog w) A E s (qj lo a nrem) Q st:=by
 unfold qj
 refine bQ (I:=fun x c st'=>st'=st/\c=(none,x)/\Up R (arrOf st) lo (lo+x)) ?step ?fin ⟨rfl,rfl,u⟩
 case fin=>
  rintro c st' ⟨rfl,rfl,u'⟩
  rw[show max a nrem=nrem by lia]at u' ⊢
  exact h nrem han (ai _) u' (.inl rfl)
 case step=>
  rintro x c st' hax hxn ⟨rfl,rfl,u'⟩
  dsimp only
  refine aA (pP C b (by lia) (by lia) ?_)
  by_cases c:kv R (arrOf st') (lo+x)<kv R (arrOf st') (lo+x-1)
  ·simp only[c,cT,if_true]
   exact aH (h x hax (by lia) u' (.inr c))
  ·simp only[c,fG,aW,if_false]
   exact aH ⟨rfl,rfl,u'.grow (by lia) (by lia)⟩
theorem zV(C:Cm prog w A s R κ a₀){st:SortSt}{lo n nrem:Nat}{Q:Option Nat->SortSt->Prop}(hn:lo+nrem<=a₀.size)(h1:1<=n)(hnn:n<=nrem)(b:Bs κ a₀ pd st)(d:Dn R (arrOf st) lo (lo+n))
  (h:∀m st',Bs κ a₀ pd st'->Fore lo (arrOf st) (arrOf st')->1<=m->m<=nrem->Up R (arrOf st') lo (lo+m)->Q (some m) st'):
  wpS (model prog w) A E s (pK lo n nrem) Q st:=by
 unfold pK
 have hsz:lo+n<=(arrOf st).size:=by rw[b.size];lia
 refine aA (rE ?_)
 have b':=b.put (hU (arrOf st) lo (lo+n) ((lo+n-lo)/2))
 refine aA (yf C hn h1 hnn b' ?_ fun m hm1 hm2 u _=>aH (h m _ b' (sd hsz (ai _)) (by lia) hm2 u))
 intro i j h3 h4 h5
 show kv R (mirror (arrOf st) lo (lo+n) _) i<=kv R (mirror (arrOf st) lo (lo+n) _) j
 rw[uE hsz,uE hsz,aq (by lia),aq (by lia)]
 exact d _ _ (by lia) (by lia) (by lia)
theorem BN(C:Cm prog w A s R κ a₀){st:SortSt}{lo n nrem:Nat}{Q:wy->SortSt->Prop}(hn:lo+nrem<=a₀.size)(h1:1<=n)(hnn:n<=nrem)(b:Bs κ a₀ pd st)(d:Dn R (arrOf st) lo (lo+n))
  (h:∀m q st',Bs κ a₀ pd st'->Fore lo (arrOf st) (arrOf st')->n<=m->m<=nrem->Dn R (arrOf st') lo (lo+m)->q+1<=m->(∀i,lo+m-(q+1)<=i->i<lo+m->kv R (arrOf st') i=kv R (arrOf st') (lo+m-1))->Q (none,m,q) st'):
  wpS (model prog w) A E s (su lo n nrem) Q st:=by
 unfold su
 refine bQ (I:=fun x c st'=>∃q,c=(none,x,q)/\Bs κ a₀ pd st'/\Fore lo (arrOf st) (arrOf st')/\Dn R (arrOf st') lo (lo+x)/\q+1<=x/\
   (∀i,lo+x-(q+1)<=i->i<lo+x->kv R (arrOf st') i=kv R (arrOf st') (lo+x-1))) ?step ?fin ⟨0,rfl,b,Fore.rfl',d,by lia,fun i h1 h2=>by congr 1;lia⟩
 case fin=>
  rintro c st' ⟨q,rfl,b',f,d',hq,he⟩
  rw[show max n nrem=nrem by lia]at d' hq he ⊢
  exact h nrem q st' b' f hnn (ai _) d' hq he
 case step=>
  rintro x c st' hax hxn ⟨q,rfl,b',f,d',hq,he⟩
  dsimp only
  have hsz:lo+x<=(arrOf st').size:=by rw[b'.size];lia
  refine aA (pP C b' (by lia) (by lia) ?_)
  by_cases c:kv R (arrOf st') (lo+x)<kv R (arrOf st') (lo+x-1)
  ·simp only[c,cT,if_true]
   have g:=d'.grow (by lia) (bU c)
   by_cases hq0:q>0
   ·rw[aq hq0]
    exact aA (rE (aH ⟨0,rfl,b'.put (hU _ _ _ _),f.tr (sd hsz (by lia)),g.like (vJ hsz he),by lia,fun i h1 h2=>by congr 1;lia⟩))
   ·rw[ak hq0]
    exact aH ⟨0,rfl,b',f,g,by lia,fun i h1 h2=>by congr 1;lia⟩
  ·simp only[c,fG,aW,if_false]
   refine aA (pP C b' (by lia) (by lia) ?_)
   by_cases c2:kv R (arrOf st') (lo+x-1)<kv R (arrOf st') (lo+x)
   ·simp only[c2,cT,if_true]
    exact aH (h x q st' b' f hax (by lia) d' hq he)
   ·simp only[c2,fG,aW,if_false]
    have e2:kv R (arrOf st') (lo+x)=kv R (arrOf st') (lo+x-1):=by lia
    refine aH ⟨q+1,rfl,b',f,d'.grow (by lia) (by lia),by lia,fun i h1 h2=>?_⟩
    rw[show lo+(x+1)-1=lo+x by lia]
    by_cases hix:i=lo+x
    ·rw[hix]
    ·rw[e2];exact he i (by lia) (by lia)
theorem zf(C:Cm prog w A s R κ a₀){st:SortSt}{lo n nrem:Nat}{Q:Option Nat->SortSt->Prop}(hn:lo+nrem<=a₀.size)(hnn:n+1<=nrem)(b:Bs κ a₀ pd st)(d:Dn R (arrOf st) lo (lo+(n+1)))
  (h:∀m st',Bs κ a₀ pd st'->Fore lo (arrOf st) (arrOf st')->1<=m->m<=nrem->Up R (arrOf st') lo (lo+m)->Q (some m) st'):
  wpS (model prog w) A E s (pD lo n nrem) Q st:=by
 unfold pD
 refine aA (fY (cM ⟨rfl,?_⟩))
 refine aA (BN C hn (by lia) hnn b d fun m q st' b' f hm1 hm2 d' hq he=>?_)
 dsimp only
 have hsz:lo+m<=(arrOf st').size:=by rw[b'.size];lia
 by_cases hq0:q>0
 ·rw[aq hq0]
  exact aA (rE (zV C hn (by lia) hm2 (b'.put (hU _ _ _ _)) (d'.like (vJ hsz he)) fun m2 st2 a1 a2=>h m2 st2 a1 ((f.tr (sd hsz (by lia))).tr a2)))
 ·rw[ak hq0]
  exact zV C hn (by lia) hm2 b' d' fun m2 st2 a1 a2=>h m2 st2 a1 (f.tr a2)
theorem Ej(C:Cm prog w A s R κ a₀){st:SortSt}{lo nrem:Nat}{Q:Option Nat->SortSt->Prop}(hn:lo+nrem<=a₀.size)(h1:1<=nrem)(b:Bs κ a₀ pd st)
  (h:∀m st',Bs κ a₀ pd st'->Fore lo (arrOf st) (arrOf st')->1<=m->m<=nrem->Up R (arrOf st') lo (lo+m)->Q (some m) st'):
  wpS (model prog w) A E s (countRun' lo nrem) Q st:=by
 rw[Ep]
 refine aA (yf C hn (ai 1) h1 b (Up.one (ai _)) fun n hn1 hn2 u hor=>?_)
 dsimp only
 by_cases c:n=nrem
 ·rw[aq (by simpa using c)]
  exact aH (h n st b Fore.rfl' hn1 hn2 u)
 ·rw [ak (by simpa using c)]
  have hlt:=hor.resolve_left c
  by_cases hgt:n>1
  ·rw[aq hgt]
   refine aA (pP C b (by lia) (by lia) ?_)
   by_cases c2:kv R (arrOf st) lo<kv R (arrOf st) (lo+n-1)
   ·simp only[c2,cT,if_true]
    exact aH (h n st b Fore.rfl' hn1 hn2 u)
   ·simp only[c2,fG,aW,if_false]
    have hsz:lo+n<=(arrOf st).size:=by rw[b.size];lia
    have hall:∀k,lo<=k->k<lo+n->kv R (arrOf st) k=kv R (arrOf st) (lo+n-1):=by
     intro k h2 h3
     have a1:=u lo k (ai _) h2 h3
     have a2:=u k (lo+n-1) h2 (by lia) (by lia)
     lia
    have d:Dn R (arrOf st) lo (lo+n):=fun i j h3 h4 h5=>by rw[hall i h3 (by lia),hall j (by lia) h5];exact bA _
    have g:Dn R (arrOf st) lo (lo+(n+1)):=d.grow (by lia) (bU hlt)
    exact aA (rE (zf C hn (by lia) (b.put (hU _ _ _ _)) (g.like (vJ hsz hall)) fun m st' a1 a2=>h m st' a1 ((sd hsz (ai _)).tr a2)))
  ·rw[ak hgt]
   have e:n=1:=by lia
   subst e
   have d:Dn R (arrOf st) lo (lo+1):=fun i j h3 h4 h5=>by
    have e:i=j:=by lia
    rw[e];exact bA _
   exact zf C hn (by lia) b (d.grow (by lia) (bU hlt)) h
theorem BM(C:Cm prog w A s R κ a₀){st:SortSt}{lo n ok:Nat}{Q:Bool->SortSt->Prop}(hn:lo+n<=a₀.size)(hok:ok<=n)(b:Bs κ a₀ pd st)(u:Up R (arrOf st) lo (lo+ok))
  (h:∀st',Bs κ a₀ pd st'->Fore lo (arrOf st) (arrOf st')->Up R (arrOf st') lo (lo+n)->Q true st'):wpS (model prog w) A E s (binarySort' lo n ok) Q st:=by
 rw[binarySort'_eq]
 refine aA (du (bQ (I:=fun k c st'=>c=(none,())/\Bs κ a₀ pd st'/\Fore lo (arrOf st) (arrOf st')/\Up R (arrOf st') lo (lo+min k n))
  (Q:=fun c st'=>c=(none,())/\Bs κ a₀ pd st'/\Fore lo (arrOf st) (arrOf st')/\Up R (arrOf st') lo (lo+n)) ?step ?fin ?init) ?post)
 case post=>
  rintro c st' ⟨rfl,b',f,u'⟩
  exact aH (h st' b' f u')
 case init=>
  refine⟨rfl,b,Fore.rfl',fun i j h1 h2 h3=>?_⟩
  by_cases c:ok=0
  ·have e:i=j:=by lia
   rw[e];exact bA _
  ·exact u i j h1 h2 (by lia)
 case fin=>
  rintro c st' ⟨hc,b',f,u'⟩
  rw[show min (max (max ok 1) n) n=n by lia]at u'
  exact⟨hc,b',f,u'⟩
 case step=>
  rintro k c st' hak hkn ⟨rfl,b',f,u'⟩
  rw[show min k n=k by lia]at u'
  refine aA (du (bQ (I:=fun x c st2=>st2=st'/\∃l r,c=(none,l,r)/\l<=r/\r<=k/\r-l<=k-x/\
    (∀i,i<l->kv R (arrOf st') (lo+i)<=kv R (arrOf st') (lo+k))/\(∀i,r<=i->i<k->kv R (arrOf st') (lo+k)<kv R (arrOf st') (lo+i)))
   (Q:=fun c st2=>st2=st'/\∃l r,c=(none,l,r)/\l<=k/\
    (∀i,i<l->kv R (arrOf st') (lo+i)<=kv R (arrOf st') (lo+k))/\(∀i,l<=i->i<k->kv R (arrOf st') (lo+k)<kv R (arrOf st') (lo+i))) ?istep ?ifin ?iinit) ?ipost)
  case iinit=>exact⟨rfl,0,k,rfl,by lia,by lia,by lia,fun i hi=>by lia,fun i h1 h2=>by lia⟩
  case ifin=>
   rintro c st2 ⟨rfl,l,r,rfl,hlr,hrk,hm,hlo,hhi⟩
   have e:l=r:=by lia
   subst e
   exact⟨rfl,l,l,rfl,hrk,hlo,hhi⟩
  case istep=>
   rintro x c st2 _ hxk ⟨rfl,l,r,rfl,hlr,hrk,hm,hlo,hhi⟩
   dsimp only
   by_cases hge:l ≥ r
   ·rw[aq hge]
    have e:l=r:=by lia
    subst e
    exact aH ⟨rfl,l,l,rfl,hrk,hlo,hhi⟩
   ·rw[ak hge]
    refine aA (pP C b' (by lia) (by lia) ?_)
    by_cases c:kv R (arrOf st2) (lo+k)<kv R (arrOf st2) (lo+(l+r)/2)
    ·simp only[c,cT,if_true]
     exact aH ⟨rfl,l,(l+r)/2,rfl,by lia,by lia,by lia,hlo,fun i h1 h2=>dX c (u' _ _ (by lia) (by lia) (by lia))⟩
    ·simp only[c,fG,aW,if_false]
     exact aH ⟨rfl,(l+r)/2+1,r,rfl,by lia,by lia,by lia,fun i h1=>cn (u' (lo+i) (lo+(l+r)/2) (by lia) (by lia) (by lia)) (Int.not_lt.mp c),hhi⟩
  case ipost=>
   rintro c st2 ⟨rfl,l,r,rfl,hlk,hlo,hhi⟩
   show wpS _ _ _ _ (do moveDown' (lo + k) (lo + l); pure (ForInStep.yield (none,()))) _ _
   rw[moveDown'_eq]
   have hks:lo+k<(arrOf st2).size:=by rw[b'.size];lia
   refine aA (eD (aH ⟨rfl,b'.put (bubble_perm _ _ _),f.tr (FF hks (by lia)),?_⟩))
   rw[show min (k+1) n=k+1 by lia]
   intro i j h1 h2 h3
   show kv R (bubble (arrOf st2) (lo+k) (lo+k-(lo+l))) i<=kv R (bubble (arrOf st2) (lo+k) (lo+k-(lo+l))) j
   rw[yx hks (by lia),yx hks (by lia),show lo+k-(lo+k-(lo+l))=lo+l by lia]
   have lowof:∀i,lo<=i->i<lo+l->kv R (arrOf st2) i<=kv R (arrOf st2) (lo+k):=fun i a1 a2=>by
    have z:=hlo (i-lo) (by lia)
    rwa[show lo+(i-lo)=i by lia]at z
   have highof:∀i,lo+l<=i->i<lo+k->kv R (arrOf st2) (lo+k)<kv R (arrOf st2) i:=fun i a1 a2=>by
    have z:=hhi (i-lo) (by lia) (by lia)
    rwa[show lo+(i-lo)=i by lia]at z
   repeat' split
   all_goals first
    |(exfalso;lia)
    |exact bA _
    |exact lowof _ (by lia) (by lia)
    |exact bU (highof _ (by lia) (by lia))
    |exact u' _ _ (by lia) (by lia) (by lia)
end
end So
namespace So
open PySem PyProof.Rows
noncomputable def yt:Bool->Keyed->Array Keyed->Nat->Nat->Nat->StateT SortSt Sem (Option Nat):=sortPriv%PySem.Builtin.gallop
noncomputable def gl(R:Keyed->Int)(left:Bool)(key:Keyed)(v:Int):Bool:=if left=true then decide (v<R key)else !decide (R key<v)
theorem HZ{R:Keyed->Int}{left:Bool}{key:Keyed}{u v:Int}(h:gl R left key v=true)(huv:u<=v):gl R left key u=true:=by
 unfold gl at h ⊢
 cases left
 ·simp only[aW,if_false,Bool.not_eq_true',de]at h ⊢;lia
 ·simp only[if_true,cF]at h ⊢;lia
section
variable{prog:Program}{w:World}{A:Around}{E:Value->Shared->Prop}{s:Shared}{R:Keyed->Int}{κ:SortKind}{a₀:Array Keyed}{pd:Array (Nat×Nat×Nat)}
abbrev oZ:=Option (Option Nat)×Nat×Nat
theorem wA{st:SortSt}{n:Nat}{g:Nat->Bool}{M:Model}{f:Nat->oZ->StateT SortSt Sem (ForInStep oZ)}{z:oZ->StateT SortSt Sem (Option Nat)}
  (up:∀i j,i<=j->j<n->g j=true->g i=true) {Q:Option Nat->SortSt->Prop} (h:∀k,k<=n->(∀i,i<k->g i=true)->(∀i,k<=i->i<n->g i=false)->Q (some k) st)
  (hf:∀x l r (Q':ForInStep oZ->SortSt->Prop),l<r->r<=n->(g (l+(r-l)/2)=true->Q' (.yield (none,l+(r-l)/2+1,r)) st)->(g (l+(r-l)/2)=false->Q' (.yield (none,l,l+(r-l)/2)) st)->wpS M A E s (f x (none,l,r)) Q' st)
  (hf0:∀x l (Q':ForInStep oZ->SortSt->Prop),Q' (.done (none,l,l)) st->wpS M A E s (f x (none,l,l)) Q' st)
  (hz:∀l (Q':Option Nat->SortSt->Prop),Q' (some l) st->wpS M A E s (z (none,l,l)) Q' st)
  {lo hi:Nat} (h1:lo<=hi) (h2:hi<=n) (h3:∀i,i<lo->g i=true) (h4:∀i,hi<=i->i<n->g i=false):
  wpS M A E s (forIn [0:n] ((none,lo,hi):oZ) f>>=z) Q st:=by
 refine aA (du (bQ (I:=fun x c st'=>st'=st/\∃l r,c=(none,l,r)/\l<=r/\r<=n/\r-l<=n-x/\(∀i,i<l->g i=true)/\(∀i,r<=i->i<n->g i=false))
  (Q:=fun c st'=>st'=st/\∃r,c=(none,r,r)/\r<=n/\(∀i,i<r->g i=true)/\(∀i,r<=i->i<n->g i=false)) ?step ?fin ⟨rfl,lo,hi,rfl,h1,h2,by lia,h3,h4⟩) ?post)
 case post=>
  rintro c st' ⟨rfl,r,rfl,a1,a2,a3⟩
  exact hz r Q (h r a1 a2 a3)
 case fin=>
  rintro c st' ⟨rfl,l,r,rfl,a1,a2,a3,a4,a5⟩
  have e:l=r:=by lia
  subst e
  exact⟨rfl,l,rfl,a2,a4,a5⟩
 case step=>
  rintro x c st' _ hx ⟨rfl,l,r,rfl,a1,a2,a3,a4,a5⟩
  by_cases hge:l=r
  ·subst hge
   exact hf0 x l _ ⟨rfl,l,rfl,a2,a4,a5⟩
  ·refine hf x l r _ (by lia) a2 (fun hg=>?_) fun hg=>?_
   ·exact⟨rfl,_,r,rfl,by lia,a2,by lia,fun i hi=>up i (l+(r-l)/2) (by lia) (by lia) hg,a5⟩
   ·refine⟨rfl,l,_,rfl,by lia,by lia,by lia,a4,fun i hi1 hi2=>?_⟩
    cases hgi:g i with
    |false=>rfl
    |true=>rw[up _ i hi1 hi2 hgi]at hg;cases hg
theorem oQ(C:Cm prog w A s R κ a₀){st:SortSt}(hk:kindOf st=κ){left:Bool}{key:Keyed}{arr:Array Keyed}{base n hint:Nat}(hkey:key∈a₀.toList)(harr:∀i,i<n->∃x,arr[base+i]? =some x/\x∈a₀.toList)
  (hh:hint<n) (u:Up R arr base (base+n)) {Q:Option Nat->SortSt->Prop}
  (h:∀k,k<=n->(∀i,i<k->gl R left key (kv R arr (base+i))=true)->(∀i,k<=i->i<n->gl R left key (kv R arr (base+i))=false)->Q (some k) st):
  wpS (model prog w) A E s (yt left key arr base n hint) Q st:=by
 have bey:∀(i:Nat),i<n->∀(Q':Option Bool->SortSt->Prop),Q' (some (gl R left key (kv R arr (base+i)))) st->
   wpS (model prog w) A E s (do let x <- elem' arr (base + i); if left = true then lt' x key else do let z <- lt' key x; pure (z.map (!·))) Q' st:=by
  intro i hi Q' hq
  obtain⟨x,e,m⟩:=harr i hi
  rw[kv_at e]at hq
  refine aA (j5 e ?_)
  unfold gl at hq
  cases left
  ·simp only[aW,if_false]at hq ⊢
   exact aA (w_lt C hk hkey m (aH hq))
  ·simp only[if_true]at hq ⊢
   exact w_lt C hk m hkey hq
 have up:∀i j,i<=j->j<n->gl R left key (kv R arr (base+j))=true->gl R left key (kv R arr (base+i))=true:=fun i j h1 h2 h3=>HZ h3 (u _ _ (by lia) (by lia) (by lia))
 have dn:∀i j,i<=j->j<n->gl R left key (kv R arr (base+i))=false->gl R left key (kv R arr (base+j))=false:=fun i j h1 h2 h3=>by
  cases hj:gl R left key (kv R arr (base+j))with
  |false=>rfl
  |true=>rw[up i j h1 h2 hj]at h3;cases h3
 clear u harr hkey
 generalize hg:(fun i=>gl R left key (kv R arr (base+i)))=g at*
 have hgi:∀ i,gl R left key (kv R arr (base + i)) = g i:=fun i=>by rw [<- hg]
 simp only[hgi]at h bey up dn
 unfold yt
 refine aA (bey hint hh _ ?_)
 cases hgh:g hint with
 | true=>
  dsimp only
  rw[aq rfl]
  refine aA (du (bQ (I:=fun x c st'=>st'=st/\∃l o,c=(none,l,o)/\l<o/\x<o/\hint+l<n/\g (hint+l)=true)
   (Q:=fun c st'=>st'=st/\∃l o,c=(none,l,o)/\l<o/\hint+l<n/\g (hint+l)=true/\(n-hint<=o\/g (hint+o)=false)) ?step ?fin ⟨rfl,0,1,rfl,by lia,by lia,by lia,hgh⟩) ?post)
  case fin=>
   rintro c st' ⟨rfl,l,o,rfl,a1,a2,a3,a4⟩
   exact⟨rfl,l,o,rfl,a1,a3,a4,.inl (by lia)⟩
  case step=>
   rintro x c st' _ hx ⟨rfl,l,o,rfl,a1,a2,a3,a4⟩
   dsimp only
   by_cases hge:o ≥ n-hint
   ·rw[aq hge]
    exact aH ⟨rfl,l,o,rfl,a1,a3,a4,.inl hge⟩
   ·rw[ak hge]
    refine aA (bey _ (by lia) _ ?_)
    cases hgo:g (hint+o)with
    |true=>exact aH ⟨rfl,o,_,rfl,by lia,by lia,by lia,hgo⟩
    |false=>exact aH ⟨rfl,l,o,rfl,a1,a3,a4,.inr hgo⟩
  case post=>
   rintro c st' ⟨rfl,l,o,rfl,a1,a2,a3,a4⟩
   dsimp only
   refine wA up h (fun x l r Q' c1 c2 y1 y2=>?hf) (fun x l Q' q=>?hf0) (fun l Q' q=>aH q) (lo:=hint+l+1) (hi:=hint+min o (n-hint)) (by lia) (by lia) (fun i hi=>up i (hint+l) (by lia) (by lia) a3) fun i hi1 hi2=>?_
   case hf=>
    dsimp only
    rw[ak (by lia)]
    refine aA (bey _ (by lia) _ ?_)
    cases hg:g (l+(r-l)/2)with
    |true=>exact aH (y1 hg)
    |false=>exact aH (y2 hg)
   case hf0=>
    dsimp only
    rw[aq (ai _)]
    exact aH q
   rcases a4 with a4|a4
   ·lia
   ·exact dn _ i (by lia) hi2 a4
 | false=>
  dsimp only
  rw[ak (by simp)]
  refine aA (du (bQ (I:=fun x c st'=>st'=st/\∃l o,c=(none,l,o)/\l<o/\x<o/\l<=hint/\g (hint-l)=false)
   (Q:=fun c st'=>st'=st/\∃l o,c=(none,l,o)/\l<o/\l<=hint/\g (hint-l)=false/\(hint+1<=o\/g (hint-o)=true)) ?step2 ?fin2 ⟨rfl,0,1,rfl,by lia,by lia,by lia,hgh⟩) ?post2)
  case fin2=>
   rintro c st' ⟨rfl,l,o,rfl,a1,a2,a3,a4⟩
   exact⟨rfl,l,o,rfl,a1,a3,a4,.inl (by lia)⟩
  case step2=>
   rintro x c st' _ hx ⟨rfl,l,o,rfl,a1,a2,a3,a4⟩
   dsimp only
   by_cases hge:o ≥ hint+1
   ·rw[aq hge]
    exact aH ⟨rfl,l,o,rfl,a1,a3,a4,.inl hge⟩
   ·rw[ak hge]
    refine aA (bey _ (by lia) _ ?_)
    cases hgo:g (hint-o)with
    |true=>exact aH ⟨rfl,l,o,rfl,a1,a3,a4,.inr hgo⟩
    |false=>exact aH ⟨rfl,o,_,rfl,by lia,by lia,by lia,hgo⟩
  case post2=>
   rintro c st' ⟨rfl,l,o,rfl,a1,a2,a3,a4⟩
   dsimp only
   refine wA up h (fun x l r Q' c1 c2 y1 y2=>?hf2) (fun x l Q' q=>?hf02) (fun l Q' q=>aH q) (lo:=hint+1-min o (hint+1)) (hi:=hint-l) (by lia) (by lia) (fun i hi=>?_) fun i hi1 hi2=>dn (hint-l) i (by lia) hi2 a3
   case hf2=>
    dsimp only
    rw[ak (by lia)]
    refine aA (bey _ (by lia) _ ?_)
    cases hg:g (l+(r-l)/2)with
    |true=>exact aH (y1 hg)
    |false=>exact aH (y2 hg)
   case hf02=>
    dsimp only
    rw[aq (ai _)]
    exact aH q
   rcases a4 with a4|a4
   ·lia
   ·exact up i (hint-o) (by lia) (by lia) a4
end
end So
namespace So
open PySem PyProof.Rows
def Le(R:Keyed->Int):Keyed->Keyed->Prop:=fun x y=>R x<=R y
def MS(R:Keyed->Int)(o la lb tot:List Keyed):Prop:=(o++la).Pairwise (Le R)/\(o++lb).Pairwise (Le R)/\(o++(la++lb)).Perm tot
def Fi(R:Keyed->Int)(l tot:List Keyed):Prop:=l.Pairwise (Le R)/\l.Perm tot
section
variable{R:Keyed->Int}{o la lb tot xs:List Keyed}
theorem MS.a(h:MS R o (xs++la) lb tot)(hx:∀x∈xs,∀y∈lb,R x<=R y):MS R (o++xs) la lb tot:=by
 obtain⟨h1,h2,h3⟩:=h
 refine ⟨by rw [aQ]; exact h1,?_,by rw [aQ,<- aQ xs]; exact h3⟩
 rw[aQ,bE]
 rw[bE]at h1 h2
 obtain⟨o1,o2,o3⟩:=h1
 obtain⟨p1,p2,p3⟩:=h2
 rw[bE]at o2
 refine⟨o1,bE.mpr ⟨o2.1,p2,hx⟩,fun x m y n=>?_⟩
 rcases bu.mp n with n|n
 ·exact o3 x m y (gb _ n)
 ·exact p3 x m y n
theorem MS.b(h:MS R o la (xs++lb) tot)(hx:∀x∈xs,∀y∈la,R x<=R y):MS R (o++xs) la lb tot:=by
 have z:MS R o (xs++lb) la tot:=⟨h.2.1,h.1,(dC _ cQ).trans h.2.2⟩
 have q:=z.a hx
 exact⟨q.2.1,q.1,(dC _ cQ).trans q.2.2⟩
theorem MS.endA(h:MS R o la [] tot):Fi R (o++la) tot:=⟨h.1,by have z:=h.2.2;rwa[bh]at z⟩
theorem MS.endB(h:MS R o [] lb tot):Fi R (o++lb) tot:=⟨h.2.1,h.2.2⟩
theorem MS.last(h:MS R o la lb tot)(hx:∀y∈lb,∀x∈la,R y<=R x):Fi R (o++lb++la) tot:=by
 obtain⟨h1,h2,h3⟩:=h
 refine⟨?_,?_⟩
 ·rw[aQ,bE]
  rw[bE]at h1 h2
  refine⟨h1.1,bE.mpr ⟨h2.2.1,h1.2.1,hx⟩,fun x m y n=>?_⟩
  rcases bu.mp n with n|n
  ·exact h2.2.2 x m y n
  ·exact h1.2.2 x m y n
 ·rw[aQ];exact(dC _ cQ).trans h3
end
section
variable{a:Array Keyed}{R:Keyed->Int}{i k:Nat}
theorem uA{x:Keyed}(e:a[i]? =some x):a.toList.drop i=x::a.toList.drop (i+1):=by
 have hi:i<a.toList.length:=by
  rw[Array.length_toList]
  exact(eV.mp e).1
 rw[cC hi]
 congr 1
 obtain⟨h1,h2⟩:=eV.mp e
 rw [<- h2,Array.getElem_toList]
theorem ny(a:Array Keyed)(i k:Nat):(a.extract i k).toList=(a.toList.drop i).take (k-i):=by
 rw[Array.toList_extract]
theorem rG(a:Array Keyed)(i:Nat):(a.extract i a.size).toList=a.toList.drop i:=by
 rw[ny]
 apply bL
 rw[br,Array.length_toList]
 exact ai _
theorem zp(a:Array Keyed)(i k:Nat):a.toList.drop i=(a.extract i (i+k)).toList++a.toList.drop (i+k):=by
 rw [ny,fE,<- il,cc]
theorem yz{x:Keyed}(h:x∈(a.extract i (i+k)).toList):∃j,j<k/\a[i+j]? =some x:=by
 rw[ny,fE]at h
 obtain⟨j,hj,e⟩:=eN h
 rw[gL,gM]at e
 rw[aK]at hj
 refine⟨j,by lia,?_⟩
 rw [<- e,<- bH]
 exact gE _
theorem nB{x:Keyed}(h:x∈a.toList.drop i):∃j,i<=j/\j<a.size/\a[j]? =some x:=by
 obtain⟨j,hj,e⟩:=eN h
 rw[gM]at e
 rw[br,Array.length_toList]at hj
 refine⟨i+j,by lia,by lia,?_⟩
 rw [<- e,<- bH]
 exact gE _
theorem jR(h:i<a.size):∃x,a[i]? =some x/\x∈a.toList:=⟨a[i],cy _ i h,by simp⟩
theorem Up.le(u:Up R a 0 a.size){j:Nat}{x y:Keyed}(hx:a[i]? =some x)(hy:a[j]? =some y)(h:i<=j):R x<=R y:=by
 have z:=u i j (bj _) h (eV.mp hy).1
 rwa[kv_at hx,kv_at hy]at z
end
theorem uD{R:Keyed->Int}{key:Keyed}{v:Int}(h:gl R true key v=true):v<R key:=by unfold gl at h;simpa using h
theorem uT{R:Keyed->Int}{key:Keyed}{v:Int}(h:gl R true key v=false):R key<=v:=by unfold gl at h;simpa using h
theorem uS{R:Keyed->Int}{key:Keyed}{v:Int}(h:gl R false key v=true):v<=R key:=by unfold gl at h;simpa using h
theorem vj{R:Keyed->Int}{key:Keyed}{v:Int}(h:gl R false key v=false):R key<v:=by unfold gl at h;simpa using h
section
variable{M:Model}{A:Around}{E:Value->Shared->Prop}{s:Shared}{σ α:Type}
theorem jk{c:Prop}[Decidable c]{m n:StateT σ Sem α}{Q:α->σ->Prop}{st:σ}(h1:c->wpS M A E s m Q st)(h2:¬c->wpS M A E s n Q st):wpS M A E s (if c then m else n) Q st:=by
 by_cases h:c
 ·rw[aq h];exact h1 h
 ·rw[ak h];exact h2 h
end
structure Lk(st st':SortSt):Prop where
 kind:kindOf st'=kindOf st
 arr:arrOf st'=arrOf st
 pend:pendingOf st'=pendingOf st
 ok:failedOf st'=failedOf st
theorem Lk.refl(st:SortSt):Lk st st:=⟨rfl,rfl,rfl,rfl⟩
theorem Lk.setg{st st':SortSt}(l:Lk st st')(g:Nat):Lk st (SortSt.mk' (kindOf st') (arrOf st') (pendingOf st') g (failedOf st')):=⟨l.kind,l.arr,l.pend,l.ok⟩
noncomputable def setg:Nat->StateT SortSt Sem Unit:=sortPriv%PySem.Builtin.setMinGallop
section
variable{R:Keyed->Int}{a b out:Array Keyed}{ia ib k:Nat}{tot:List Keyed}
theorem xk(m:MS R out.toList (a.toList.drop ia) (b.toList.drop ib) tot){x:Keyed}(e:b[ib]? =some x)(h:∀y∈a.toList.drop ia,R x<=R y):MS R (out.push x).toList (a.toList.drop ia) (b.toList.drop (ib+1)) tot:=by
 rw[uA e]at m
 rw[eB]
 refine MS.b (xs:=[x]) m fun z hz y hy=>?_
 rw[aV.mp hz];exact h y hy
theorem xl(m:MS R out.toList (a.toList.drop ia) (b.toList.drop ib) tot){x:Keyed}(e:a[ia]? =some x)(h:∀y∈b.toList.drop ib,R x<=R y):MS R (out.push x).toList (a.toList.drop (ia+1)) (b.toList.drop ib) tot:=by
 rw[uA e]at m
 rw[eB]
 refine MS.a (xs:=[x]) m fun z hz y hy=>?_
 rw[aV.mp hz];exact h y hy
theorem IK(m:MS R out.toList (a.toList.drop ia) (b.toList.drop ib) tot)(h:∀x∈(a.extract ia (ia+k)).toList,∀y∈b.toList.drop ib,R x<=R y):MS R (out++a.extract ia (ia+k)).toList (a.toList.drop (ia+k)) (b.toList.drop ib) tot:=by
 rw[zp a ia k]at m
 rw[bB]
 exact MS.a m h
theorem IJ(m:MS R out.toList (a.toList.drop ia) (b.toList.drop ib) tot)(h:∀x∈(b.extract ib (ib+k)).toList,∀y∈a.toList.drop ia,R x<=R y):MS R (out++b.extract ib (ib+k)).toList (a.toList.drop ia) (b.toList.drop (ib+k)) tot:=by
 rw[zp b ib k]at m
 rw[bB]
 exact MS.b m h
end
noncomputable def xt:Array Keyed->Array Keyed->StateT SortSt Sem (Array Keyed):=sortPriv%PySem.Builtin.mergeLo
noncomputable def xu:Array Keyed->Array Keyed->StateT SortSt Sem (Array Keyed):=sortPriv%PySem.Builtin.mergeHi
section
variable{prog:Program}{w:World}{A:Around}{E:Value->Shared->Prop}{s:Shared}{R:Keyed->Int}{κ:SortKind}{a₀:Array Keyed}{pd:Array (Nat×Nat×Nat)}
theorem rD{st st':SortSt}{g:Nat}{Q:Unit->SortSt->Prop}(l:Lk st st')(h:∀st2,Lk st st2->Q () st2):wpS (model prog w) A E s (setg g) Q st':=eD (h _ (l.setg g))
theorem BL{M:Model}{α β:Type}(jp:Unit->α->StateT SortSt Sem β)(C:α->SortSt->Prop){B:StateT SortSt Sem β}{Q:β->SortSt->Prop}{st:SortSt}(h1:∀x st',C x st'->wpS M A E s (jp () x) Q st')(h2:(∀x st',C x st'->wpS M A E s (jp () x) Q st')->wpS M A E s B Q st):wpS M A E s B Q st:=h2 h1
theorem wz{M:Model}{α γ β:Type}(jp:Unit->α->γ->StateT SortSt Sem β)(C:α->γ->SortSt->Prop){B:StateT SortSt Sem β}{Q:β->SortSt->Prop}{st:SortSt}(h1:∀x y st',C x y st'->wpS M A E s (jp () x y) Q st')(h2:(∀x y st',C x y st'->wpS M A E s (jp () x y) Q st')->wpS M A E s B Q st):wpS M A E s B Q st:=h2 h1
abbrev Bz:=Option (Array Keyed)×Array Keyed×Nat×Nat×Nat
theorem BJ(C:Cm prog w A s R κ a₀){st:SortSt}(hk:kindOf st=κ){a b:Array Keyed}{tot:List Keyed}(ha:∀x∈a.toList,x∈a₀.toList)(hb:∀x∈b.toList,x∈a₀.toList)(ua:Up R a 0 a.size)(ub:Up R b 0 b.size)
  (na:1<=a.size) (nb:1<=b.size) (h0:∀x y,b[0]? =some x->a[0]? =some y->R x<R y) (hl:∀x y,x∈b.toList->a[a.size-1]? =some y->R x<R y) (ht:(a.toList++b.toList).Perm tot)
  {Q:Array Keyed->SortSt->Prop} (h:∀m st',Lk st st'->Fi R m.toList tot->Q m st'):wpS (model prog w) A E s (xt a b) Q st:=by
 obtain⟨b0,eb0,mb0⟩:=jR (a:=b) (i:=0) nb
 obtain⟨a0,ea0,ma0⟩:=jR (a:=a) (i:=0) na
 have m0:MS R [b0] (a.toList.drop 0) (b.toList.drop 1) tot:=by
  have e:=uA eb0
  have z:MS R [] (a.toList.drop 0) ([b0]++b.toList.drop 1) tot:=by
   refine⟨?_,?_,?_⟩
   ·rw[List.nil_append,dE,bX]
    intro i j hi hj hij
    rw[Array.length_toList]at hi hj
    exact ua.le (cy a i hi) (cy a j hj) (dO hij)
   ·rw [List.nil_append,List.singleton_append,<- e,dE,bX]
    intro i j hi hj hij
    rw[Array.length_toList]at hi hj
    exact ub.le (cy b i hi) (cy b j hj) (dO hij)
   ·rw [List.nil_append,List.singleton_append,<- e,dE,dE]; exact ht
  refine z.b fun x hx y hy=>?_
  rw[aV]at hx
  subst hx
  obtain⟨j,j1,j2,j3⟩:=nB hy
  exact bU (dX (h0 _ _ eb0 ea0) (ua.le ea0 j3 (bj _)))
 have dn:∀(out:Array Keyed) (ia ib:Nat),MS R out.toList (a.toList.drop ia) (b.toList.drop ib) tot->(ia=a.size\/ib=b.size)->Fi R (out++a.extract ia a.size++b.extract ib b.size).toList tot:=by
  intro out ia ib m hor
  rw[bB,bB,rG,rG]
  rcases hor with e|e
  ·have e2:a.toList.drop ia=[]:=by rw[e];apply List.drop_of_length_le;rw[Array.length_toList];exact ai _
   rw[e2]at m ⊢
   rw[bh];exact m.endB
  ·have e2:b.toList.drop ib=[]:=by rw[e];apply List.drop_of_length_le;rw[Array.length_toList];exact ai _
   rw[e2]at m ⊢
   rw[bh];exact m.endA
 have ls:∀(out:Array Keyed) (ia ib:Nat),MS R out.toList (a.toList.drop ia) (b.toList.drop ib) tot->ia+1=a.size->Fi R (out++b.extract ib b.size++a.extract ia a.size).toList tot:=by
  intro out ia ib m e
  rw[bB,bB,rG,rG]
  refine m.last fun y hy x hx=>?_
  obtain⟨j,j1,j2,j3⟩:=nB hx
  have ej:j=a.size-1:=by lia
  rw[ej]at j3
  exact bU (hl _ _ (List.mem_of_mem_drop hy) j3)
 unfold xt
 refine aA (fY (cM ⟨rfl,?_⟩))
 refine aA (j5 eb0 ?_)
 refine jk (fun c=>aH (h _ _ (.refl _) (dn _ _ _ m0 (.inr (by simpa using c))))) fun c1=>?_
 refine jk (fun c=>aH (h _ _ (.refl _) (ls _ _ _ m0 (by simpa using c)))) fun c2=>?_
 have c1':1<b.size:=by simp at c1;lia
 have c2':1<a.size:=by simp at c2;lia
 refine aA (eO ?_)
 refine aA (du (bQ (I:=fun x (c:Bz) st'=>Lk st st'/\∃out ia ib mg,c=(none,out,ia,ib,mg)/\MS R out.toList (a.toList.drop ia) (b.toList.drop ib) tot/\ia+1<a.size/\ib<b.size/\x<ia+ib)
  (Q:=fun(c:Bz) st'=>Lk st st'/\∃m out ia ib mg,c=(some m,out,ia,ib,mg)/\Fi R m.toList tot) ?step ?fin ⟨.refl _,#[b0],0,1,_,rfl,m0,by lia,by lia,by lia⟩) ?post)
 case fin=>
  rintro c st' ⟨l,out,ia,ib,mg,rfl,m,d1,d2,d3⟩
  lia
 case post=>
  rintro c st' ⟨l,m,out,ia,ib,mg,rfl,f⟩
  exact aH (h m st' l f)
 case step=>
  rintro x c st' _ hx ⟨l,out,ia,ib,mg,rfl,m,d1,d2,d3⟩
  refine aA (du (bQ (I:=fun y (c:Option (Array Keyed)×Array Keyed×Nat×Nat×Nat×Nat) st2=>st2=st'/\∃out ia ib ac bc,c=(none,out,ia,ib,ac,bc)/\MS R out.toList (a.toList.drop ia) (b.toList.drop ib) tot/\ia+1<a.size/\ib<b.size/\x+min y 1<ia+ib)
   (Q:=fun(c:Option (Array Keyed)×Array Keyed×Nat×Nat×Nat×Nat) st2=>st2=st'/\((∃m out ia ib ac bc,c=(some m,out,ia,ib,ac,bc)/\Fi R m.toList tot)\/
    (∃out ia ib ac bc,c=(none,out,ia,ib,ac,bc)/\MS R out.toList (a.toList.drop ia) (b.toList.drop ib) tot/\ia+1<a.size/\ib<b.size/\x+1<ia+ib))) ?s1 ?f1 ⟨rfl,out,ia,ib,0,0,rfl,m,d1,d2,by lia⟩) ?p1)
  case f1=>
   rintro c st2 ⟨rfl,out,ia,ib,ac,bc,rfl,m,d1,d2,d3⟩
   exact⟨rfl,.inr ⟨out,ia,ib,ac,bc,rfl,m,d1,d2,by lia⟩⟩
  case s1=>
   rintro y c st2 _ hy ⟨rfl,out,ia,ib,ac,bc,rfl,m,d1,d2,d3⟩
   obtain⟨bx,eb,mb⟩:=jR (a:=b) d2
   obtain⟨ax,ea,ma⟩:=jR (a:=a) (i:=ia) (by lia)
   refine aA (j5 eb ?_)
   refine aA (j5 ea ?_)
   refine aA (w_lt C (l.kind.trans hk) (hb _ mb) (ha _ ma) ?_)
   by_cases hlt:R bx<R ax
   ·rw[aG hlt]
    refine aA (j5 eb ?_)
    have m2:=xk m eb fun z hz=>by
     obtain⟨j,j1,j2,j3⟩:=nB hz
     exact bU (dX hlt (ua.le ea j3 j1))
    refine jk (fun c=>aH ⟨rfl,.inl ⟨_,_,_,_,_,_,rfl,dn _ _ _ m2 (.inr (by simpa using c))⟩⟩) fun c=>?_
    have c':ib+1<b.size:=by simp at c;lia
    have n1:x+1<ia+(ib+1):=by lia
    have n2:x+min (y+1) 1<ia+(ib+1):=by lia
    exact jk (fun _=>aH ⟨rfl,.inr ⟨_,_,_,_,_,rfl,m2,d1,c',n1⟩⟩) fun _=>aH ⟨rfl,_,_,_,_,_,rfl,m2,d1,c',n2⟩
   ·rw[aJ hlt]
    refine aA (j5 ea ?_)
    have m2:=xl m ea fun z hz=>by
     obtain⟨j,j1,j2,j3⟩:=nB hz
     exact cn (Int.not_lt.mp hlt) (ub.le eb j3 j1)
    refine jk (fun c=>aH ⟨rfl,.inl ⟨_,_,_,_,_,_,rfl,ls _ _ _ m2 (by simpa using c)⟩⟩) fun c=>?_
    have c':ia+1+1<a.size:=by simp at c;lia
    have n1:x+1<ia+1+ib:=by lia
    have n2:x+min (y+1) 1<ia+1+ib:=by lia
    exact jk (fun _=>aH ⟨rfl,.inr ⟨_,_,_,_,_,rfl,m2,c',d2,n1⟩⟩) fun _=>aH ⟨rfl,_,_,_,_,_,rfl,m2,c',d2,n2⟩
  case p1=>
   rintro c st2 ⟨rfl,⟨m',out,ia,ib,ac,bc,rfl,f⟩|⟨out,ia,ib,ac,bc,rfl,m,d1,d2,d3⟩⟩
   ·exact aH ⟨l,m',_,_,_,_,rfl,f⟩
   ·refine aA (fY (cM ⟨rfl,?_⟩))
    refine aA (du (bQ (I:=fun y (c:Option (Array Keyed)×Array Keyed×Nat×Nat×Nat×Nat×Nat) st2=>Lk st st2/\∃out ia ib mg ac bc,c=(none,out,ia,ib,mg,ac,bc)/\MS R out.toList (a.toList.drop ia) (b.toList.drop ib) tot/\ia+1<a.size/\ib<b.size/\x+1<ia+ib)
     (Q:=fun(c:Option (Array Keyed)×Array Keyed×Nat×Nat×Nat×Nat×Nat) st2=>Lk st st2/\((∃m out ia ib mg ac bc,c=(some m,out,ia,ib,mg,ac,bc)/\Fi R m.toList tot)\/
      (∃out ia ib mg ac bc,c=(none,out,ia,ib,mg,ac,bc)/\MS R out.toList (a.toList.drop ia) (b.toList.drop ib) tot/\ia+1<a.size/\ib<b.size/\x+1<ia+ib))) ?s2 ?f2 ⟨l,out,ia,ib,_,ac,bc,rfl,m,d1,d2,d3⟩) ?p2)
    case f2=>
     rintro c st3 ⟨l3,out,ia,ib,mg,ac,bc,rfl,m,d1,d2,d3⟩
     exact⟨l3,.inr ⟨out,ia,ib,mg,ac,bc,rfl,m,d1,d2,d3⟩⟩
    case p2=>
     rintro c st3 ⟨l3,⟨m',out,ia,ib,mg,ac,bc,rfl,f⟩|⟨out,ia,ib,mg,ac,bc,rfl,m,d1,d2,d3⟩⟩
     ·exact aH ⟨l3,m',_,_,_,_,rfl,f⟩
     ·exact aA (rD l3 fun st4 l4=>aH ⟨l4,_,_,_,_,rfl,m,d1,d2,d3⟩)
    case s2=>
     rintro y c st3 _ hy ⟨l2,out,ia,ib,mg,ac,bc,rfl,m,d1,d2,d3⟩
     obtain⟨bx,eb,mb⟩:=jR (a:=b) d2
     extract_lets+onlyGivenNames _ _ _ _ _ _ _ _ _ _ _ _ jp
     refine BL jp (fun _ st'=>Lk st st') (fun mg' st' l2'=>?_) (fun hj=>jk (fun _=>hj _ _ l2) fun _=>hj _ _ l2)
     clear l2
     refine aA (rD l2' fun st4 l3=>?_)
     refine aA (j5 eb ?_)
     refine aA (oQ (base:=ia) (n:=a.size-ia) (hint:=0) C (l3.kind.trans hk) (hb _ mb) (fun i hi=>by
      obtain⟨z,z1,z2⟩:=jR (a:=a) (i:=ia+i) (by lia)
      exact⟨z,z1,ha _ z2⟩) (by lia) (fun i j q1 q2 q3=>ua i j (bj _) q2 (by lia)) fun k k1 k2 k3=>?_)
     have lowA:∀x∈(a.extract ia (ia+k)).toList,∀y∈b.toList.drop ib,R x<=R y:=fun x hx y hy=>by
      obtain⟨j,j1,j2⟩:=yz hx
      obtain⟨i,i1,i2,i3⟩:=nB hy
      have q:=uS (k2 j j1)
      rw[kv_at j2]at q
      exact cn q (ub.le eb i3 i1)
     have upA:∀y∈a.toList.drop (ia+k),R bx<=R y:=fun y hy=>by
      obtain⟨i,i1,i2,i3⟩:=nB hy
      have q:=vj (k3 (i-ia) (by lia) (by lia))
      rw[show ia+(i-ia)=i by lia,kv_at i3]at q
      exact bU q
     have mk:=IK m lowA
     dsimp -zeta only
     extract_lets+onlyGivenNames _ jp1
     refine wz jp1 (fun o' i' st'=>st'=st4/\MS R o'.toList (a.toList.drop i') (b.toList.drop ib) tot/\i'+1<a.size/\(∀y∈a.toList.drop i',R bx<=R y)/\x+1<i'+ib) (fun out' ia' st' hj=>?_) (fun hj=>?_)
     rotate_left
     ·refine jk (fun ck=>?_) fun ck=>hj _ _ _ (by
       obtain rfl:k=0:=by lia
       exact⟨rfl,m,d1,upA,d3⟩)
      refine jk (fun c=>aH ⟨l3,.inl ⟨_,_,_,_,_,_,_,rfl,ls _ _ _ mk (by simpa using c)⟩⟩) fun(c3:¬(ia+k+1==a.size)=true)=>?_
      refine jk (fun c=>aH ⟨l3,.inl ⟨_,_,_,_,_,_,_,rfl,dn _ _ _ mk (.inl (by simpa using c))⟩⟩) fun(c4:¬(ia+k==a.size)=true)=>?_
      exact hj (out++a.extract ia (ia+k)) (ia+k) _ ⟨rfl,mk,by simp at c3 c4;lia,upA,by lia⟩
     clear mk lowA upA m d1 d3
     obtain⟨rfl,mk,d4,upA,d3⟩:=hj
     obtain⟨ax,ea,ma⟩:=jR (a:=a) (i:=ia') (by lia)
     refine aA (j5 eb ?_)
     have m3:=xk mk eb upA
     refine jk (fun c=>aH ⟨l3,.inl ⟨_,_,_,_,_,_,_,rfl,dn _ _ _ m3 (.inr (by simpa using c))⟩⟩) fun(c5:¬(ib+1==b.size)=true)=>?_
     have d5:ib+1<b.size:=by simp at c5;lia
     refine aA (j5 ea ?_)
     refine aA (oQ (base:=ib+1) (n:=b.size-(ib+1)) (hint:=0) C (l3.kind.trans hk) (ha _ ma) (fun i hi=>by
      obtain⟨z,z1,z2⟩:=jR (a:=b) (i:=ib+1+i) (by lia)
      exact⟨z,z1,hb _ z2⟩) (by lia) (fun i j q1 q2 q3=>ub i j (bj _) q2 (by lia)) fun k' j1 j2 j3=>?_)
     have m4:=IJ (k:=k') m3 fun x hx y hy=>by
      obtain⟨j,i1,i2⟩:=yz hx
      obtain⟨i,i3,i4,i5⟩:=nB hy
      have q:=uD (j2 j i1)
      rw[kv_at i2]at q
      exact bU (dX q (ua.le ea i5 i3))
     have upB:∀y∈b.toList.drop (ib+1+k'),R ax<=R y:=fun y hy=>by
      obtain⟨i,i1,i2,i3⟩:=nB hy
      have q:=uT (j3 (i-(ib+1)) (by lia) (by lia))
      rwa[show ib+1+(i-(ib+1))=i by lia,kv_at i3]at q
     dsimp -zeta only
     extract_lets+onlyGivenNames _ _ jp2
     refine wz jp2 (fun o' i' st5=>st5=st'/\MS R o'.toList (a.toList.drop ia') (b.toList.drop i') tot/\i'<b.size/\(∀y∈b.toList.drop i',R ax<=R y)/\x<ia'+i') (fun out2 ib' st5 hj=>?_) (fun hj=>?_)
     rotate_left
     ·refine jk (fun ck=>?_) fun ck=>hj (out'.push bx) (ib+1) _ (by
       obtain rfl:k'=0:=by lia
       exact⟨rfl,m3,d5,upB,by lia⟩)
      refine jk (fun c=>aH ⟨l3,.inl ⟨_,_,_,_,_,_,_,rfl,dn _ _ _ m4 (.inr (by simpa using c))⟩⟩) fun(c6:¬(ib+1+k'==b.size)=true)=>?_
      exact hj (out'.push bx++b.extract (ib+1) (ib+1+k')) (ib+1+k') _ ⟨rfl,m4,by simp at c6;lia,upB,by lia⟩
     clear m4 upB m3 mk
     obtain⟨rfl,m4,d6,upB,d7⟩:=hj
     refine aA (j5 ea ?_)
     have m5:=xl m4 ea upB
     refine jk (fun c=>aH ⟨l3,.inl ⟨_,_,_,_,_,_,_,rfl,ls _ _ _ m5 (by simpa using c)⟩⟩) fun(c7:¬(ia'+1+1==a.size)=true)=>?_
     have d8:=Nat.lt_of_le_of_ne (Nat.succ_le_of_lt d4) (by simpa using c7)
     have n2:x+1<ia'+1+ib':=by lia
     exact jk (fun _=>aH ⟨l3,.inr ⟨_,_,_,_,_,_,rfl,m5,d8,d6,n2⟩⟩) fun _=>aH ⟨l3,_,_,_,_,_,_,rfl,m5,d8,d6,n2⟩
end
end So
namespace So
open PySem PyProof.Rows
def MH(R:Keyed->Int)(la lb o tot:List Keyed):Prop:=(la++o).Pairwise (Le R)/\(lb++o).Pairwise (Le R)/\(la++(lb++o)).Perm tot
section
variable{R:Keyed->Int}{o la lb tot xs:List Keyed}
theorem MH.a(h:MH R (la++xs) lb o tot)(hx:∀x∈xs,∀y∈lb,R y<=R x):MH R la lb (xs++o) tot:=by
 obtain⟨h1,h2,h3⟩:=h
 refine ⟨by rw [<- aQ]; exact h1,?_,?_⟩
 ·rw[aQ,bE]at h1
  rw[bE]at h2 ⊢
  refine⟨h2.1,h1.2.1,fun y hy x hx2=>?_⟩
  rcases bu.mp hx2 with n|n
  ·exact hx x n y hy
  ·exact h2.2.2 y hy x n
 ·refine List.Perm.trans ?_ h3
  rw[aQ]
  refine dC _ ?_
  rw [<- aQ,<- aQ]
  exact fH _ cQ
theorem MH.swap(h:MH R la lb o tot):MH R lb la o tot:=by
 refine⟨h.2.1,h.1,List.Perm.trans ?_ h.2.2⟩
 rw [<- aQ,<- aQ]
 exact fH _ cQ
theorem MH.b(h:MH R la (lb++xs) o tot)(hx:∀x∈xs,∀y∈la,R y<=R x):MH R la lb (xs++o) tot:=(h.swap.a hx).swap
theorem MH.endB(h:MH R [] lb o tot):Fi R (lb++o) tot:=⟨h.2.1,h.2.2⟩
theorem MH.endA(h:MH R la [] o tot):Fi R (la++o) tot:=⟨h.1,h.2.2⟩
theorem MH.first(h:MH R la lb o tot)(hx:∀y∈lb,∀x∈la,R y<=R x):Fi R (lb++la++o) tot:=by
 obtain⟨h1,h2,h3⟩:=h.swap
 refine⟨?_,by rw[aQ];exact h3⟩
 rw[aQ]
 rw[bE]at h1 h2 ⊢
 refine⟨h1.1,bE.mpr h2,fun y hy x hx2=>?_⟩
 rcases bu.mp hx2 with n|n
 ·exact hx y hy x n
 ·exact h1.2.2 y hy x n
end
section
variable{a:Array Keyed}{R:Keyed->Int}{i k n:Nat}
theorem y8{x:Keyed}(h:0<n)(e:a[n-1]? =some x):a.toList.take n=a.toList.take (n-1)++[x]:=by
 have e2:a.toList[n-1]? =some x:=by rw[bH];exact e
 have z:a.toList.take (n-1+1)=a.toList.take (n-1)++a.toList[n-1]?.toList:=List.take_succ
 rw[e2,Nat.sub_add_cancel h]at z
 exact z
theorem zP(h:i<=n):a.toList.take n=a.toList.take i++(a.extract i n).toList:=by
 rw[ny]
 have z:a.toList.take (i+(n-i))=a.toList.take i++(a.toList.drop i).take (n-i):=List.take_add
 rwa[Nat.add_sub_cancel' h]at z
theorem sJ(a:Array Keyed)(n:Nat):(a.extract 0 n).toList=a.toList.take n:=by rw[ny];rfl
theorem nC{x:Keyed}(h:x∈a.toList.take n):∃j,j<n/\j<a.size/\a[j]? =some x:=by
 obtain⟨j,hj,e⟩:=eN h
 rw[gL]at e
 rw[aK,Array.length_toList]at hj
 refine⟨j,by lia,by lia,?_⟩
 rw [<- e,<- bH]
 exact gE _
theorem n5{x:Keyed}(h:x∈(a.extract i n).toList):∃j,i<=j/\j<n/\a[j]? =some x:=by
 rw[ny]at h
 obtain⟨j,hj,e⟩:=eN h
 rw[gL,gM]at e
 rw[aK]at hj
 refine⟨i+j,by lia,by lia,?_⟩
 rw [<- e,<- bH]
 exact gE _
end
section
variable{R:Keyed->Int}{a b out:Array Keyed}{na nb k:Nat}{tot:List Keyed}
abbrev j7(R:Keyed->Int)(a b:Array Keyed)(tot:List Keyed)(na nb:Nat)(out:Array Keyed):Prop:=MH R (a.toList.take na) (b.toList.take nb) out.toList.reverse tot
theorem ud(m:j7 R a b tot na nb out)(h:0<na){x:Keyed}(e:a[na-1]? =some x)(hx:∀y∈b.toList.take nb,R y<=R x):j7 R a b tot (na-1) nb (out.push x):=by
 unfold j7 at m ⊢
 rw[y8 h e]at m
 rw[eB,eL]
 exact m.a (xs:=[x]) fun z hz=>by rw[aV.mp hz];exact hx
theorem xD(m:j7 R a b tot na nb out)(h:0<nb){x:Keyed}(e:b[nb-1]? =some x)(hx:∀y∈a.toList.take na,R y<=R x):j7 R a b tot na (nb-1) (out.push x):=by
 unfold j7 at m ⊢
 rw[y8 h e]at m
 rw[eB,eL]
 exact m.b (xs:=[x]) fun z hz=>by rw[aV.mp hz];exact hx
theorem HY(m:j7 R a b tot na nb out)(h:k<=na)(hx:∀x∈(a.extract k na).toList,∀y∈b.toList.take nb,R y<=R x):j7 R a b tot k nb (out++(a.extract k na).reverse):=by
 unfold j7 at m ⊢
 rw[zP h]at m
 rw[bB,eL,eJ,List.reverse_reverse]
 exact m.a hx
theorem HX(m:j7 R a b tot na nb out)(h:k<=nb)(hx:∀x∈(b.extract k nb).toList,∀y∈a.toList.take na,R y<=R x):j7 R a b tot na k (out++(b.extract k nb).reverse):=by
 unfold j7 at m ⊢
 rw[zP h]at m
 rw[bB,eL,eJ,List.reverse_reverse]
 exact m.b hx
end
section
variable{prog:Program}{w:World}{A:Around}{E:Value->Shared->Prop}{s:Shared}{R:Keyed->Int}{κ:SortKind}{a₀:Array Keyed}{pd:Array (Nat×Nat×Nat)}
abbrev BC:=Option (Array Keyed)×Nat×Nat×Array Keyed×Nat
theorem BK(C:Cm prog w A s R κ a₀){st:SortSt}(hk:kindOf st=κ){a b:Array Keyed}{tot:List Keyed}(ha:∀x∈a.toList,x∈a₀.toList)(hb:∀x∈b.toList,x∈a₀.toList)(ua:Up R a 0 a.size)(ub:Up R b 0 b.size)
  (na1:1<=a.size) (nb1:1<=b.size) (h0:∀x y,b[0]? =some x->a[0]? =some y->R x<R y) (hl:∀x y,x∈b.toList->a[a.size-1]? =some y->R x<R y) (ht:(a.toList++b.toList).Perm tot)
  {Q:Array Keyed->SortSt->Prop} (h:∀m st',Lk st st'->Fi R m.toList tot->Q m st'):wpS (model prog w) A E s (xu a b) Q st:=by
 obtain⟨al,eal,mal⟩:=jR (a:=a) (i:=a.size-1) (by lia)
 obtain⟨b0,eb0,mb0⟩:=jR (a:=b) (i:=0) nb1
 obtain⟨a0,ea0,ma0⟩:=jR (a:=a) (i:=0) na1
 have alla:a.toList.take a.size=a.toList:=bL (by rw[Array.length_toList];exact ai _)
 have allb:b.toList.take b.size=b.toList:=bL (by rw[Array.length_toList];exact ai _)
 have m0:j7 R a b tot (a.size-1) b.size #[al]:=by
  have z:j7 R a b tot a.size b.size #[]:=by
   refine⟨?_,?_,?_⟩
   ·rw[show(#[]:Array Keyed).toList.reverse=[]from rfl,bh,alla,bX]
    intro i j hi hj hij
    rw[Array.length_toList]at hi hj
    exact ua.le (cy a i hi) (cy a j hj) (dO hij)
   ·rw[show(#[]:Array Keyed).toList.reverse=[]from rfl,bh,allb,bX]
    intro i j hi hj hij
    rw[Array.length_toList]at hi hj
    exact ub.le (cy b i hi) (cy b j hj) (dO hij)
   ·rw[show(#[]:Array Keyed).toList.reverse=[]from rfl,bh,alla,allb];exact ht
  refine ud z (by lia) eal fun y hy=>?_
  rw[allb]at hy
  exact bU (hl _ _ hy eal)
 have dn:∀(na nb:Nat) (out:Array Keyed),j7 R a b tot na nb out->(na=0\/nb=0)->Fi R (a.extract 0 na++b.extract 0 nb++out.reverse).toList tot:=by
  intro na nb out m hor
  unfold j7 at m
  rw[bB,bB,sJ,sJ,eJ]
  rcases hor with e|e
  ·rw[e,List.take_zero]at m ⊢
   exact m.endB
  ·rw[e,List.take_zero]at m ⊢
   rw[bh];exact m.endA
 have fs:∀(na nb:Nat) (out:Array Keyed),j7 R a b tot na nb out->nb=1->Fi R (b.extract 0 nb++a.extract 0 na++out.reverse).toList tot:=by
  intro na nb out m e
  unfold j7 at m
  rw[bB,bB,sJ,sJ,eJ]
  refine m.first fun y hy x hx=>?_
  obtain⟨j,j1,j2,j3⟩:=nC hy
  obtain⟨i,i1,i2,i3⟩:=nC hx
  have ej:j=0:=by lia
  rw[ej]at j3
  exact bU (dX (h0 _ _ j3 ea0) (ua.le ea0 i3 (bj _)))
 unfold xu
 refine aA (fY (cM ⟨rfl,?_⟩))
 refine aA (j5 eal ?_)
 refine jk (fun c=>aH (h _ _ (.refl _) (dn _ _ _ m0 (.inl (by simpa using c))))) fun c1=>?_
 refine jk (fun c=>aH (h _ _ (.refl _) (fs _ _ _ m0 (by simpa using c)))) fun c2=>?_
 have c1':0<a.size-1:=by
  rcases gw (a.size-1)with z|z
  ·exact absurd (by rw[z];rfl) c1
  ·exact z
 have c2':1<b.size:=by simp at c2;lia
 refine aA (eO ?_)
 refine aA (du (bQ (I:=fun x (c:BC) st'=>Lk st st'/\∃na nb out mg,c=(none,na,nb,out,mg)/\j7 R a b tot na nb out/\0<na/\na<=a.size/\1<nb/\nb<=b.size/\x+na+nb<a.size+b.size)
  (Q:=fun(c:BC) st'=>Lk st st'/\∃m na nb out mg,c=(some m,na,nb,out,mg)/\Fi R m.toList tot) ?step ?fin ⟨.refl _,a.size-1,b.size,#[al],_,rfl,m0,c1',by lia,c2',ai _,by lia⟩) ?post)
 case fin=>
  rintro c st' ⟨l,na,nb,out,mg,rfl,m,d1,d2,d3,d4,d5⟩
  lia
 case post=>
  rintro c st' ⟨l,m,na,nb,out,mg,rfl,f⟩
  exact aH (h m st' l f)
 case step=>
  rintro x c st' _ hx ⟨l,na,nb,out,mg,rfl,m,d1,d2,d3,d4,d5⟩
  refine aA (du (bQ (I:=fun y (c:Option (Array Keyed)×Nat×Nat×Array Keyed×Nat×Nat) st2=>st2=st'/\∃na nb out ac bc,c=(none,na,nb,out,ac,bc)/\j7 R a b tot na nb out/\0<na/\na<=a.size/\1<nb/\nb<=b.size/\x+min y 1+na+nb<a.size+b.size)
   (Q:=fun(c:Option (Array Keyed)×Nat×Nat×Array Keyed×Nat×Nat) st2=>st2=st'/\((∃m na nb out ac bc,c=(some m,na,nb,out,ac,bc)/\Fi R m.toList tot)\/
    (∃na nb out ac bc,c=(none,na,nb,out,ac,bc)/\j7 R a b tot na nb out/\0<na/\na<=a.size/\1<nb/\nb<=b.size/\x+1+na+nb<a.size+b.size))) ?s1 ?f1 ⟨rfl,na,nb,out,0,0,rfl,m,d1,d2,d3,d4,by lia⟩) ?p1)
  case f1=>
   rintro c st2 ⟨rfl,na,nb,out,ac,bc,rfl,m,d1,d2,d3,d4,d5⟩
   exact⟨rfl,.inr ⟨na,nb,out,ac,bc,rfl,m,d1,d2,d3,d4,by lia⟩⟩
  case s1=>
   rintro y c st2 _ hy ⟨rfl,na,nb,out,ac,bc,rfl,m,d1,d2,d3,d4,d5⟩
   obtain⟨bx,eb,mb⟩:=jR (a:=b) (i:=nb-1) (by lia)
   obtain⟨ax,ea,ma⟩:=jR (a:=a) (i:=na-1) (by lia)
   refine aA (j5 eb ?_)
   refine aA (j5 ea ?_)
   refine aA (w_lt C (l.kind.trans hk) (hb _ mb) (ha _ ma) ?_)
   by_cases hlt:R bx<R ax
   ·rw[aG hlt]
    refine aA (j5 ea ?_)
    have m2:=ud m d1 ea fun z hz=>by
     obtain⟨j,j1,j2,j3⟩:=nC hz
     exact cn (ub.le j3 eb (by lia)) (bU hlt)
    refine jk (fun c=>aH ⟨rfl,.inl ⟨_,_,_,_,_,_,rfl,dn _ _ _ m2 (.inl (by simpa using c))⟩⟩) fun c=>?_
    have c':0<na-1:=by
     rcases gw (na-1)with z|z
     ·exact absurd (by rw[show(none,na,nb,out,ac,bc).snd.fst=na from rfl,z];rfl) c
     ·exact z
    have n0:na-1<=a.size:=by lia
    have n1:x+1+(na-1)+nb<a.size+b.size:=by lia
    have n2:x+min (y+1) 1+(na-1)+nb<a.size+b.size:=by lia
    exact jk (fun _=>aH ⟨rfl,.inr ⟨_,_,_,_,_,rfl,m2,c',n0,d3,d4,n1⟩⟩) fun _=>aH ⟨rfl,_,_,_,_,_,rfl,m2,c',n0,d3,d4,n2⟩
   ·rw[aJ hlt]
    refine aA (j5 eb ?_)
    have m2:=xD m (by lia) eb fun z hz=>by
     obtain⟨j,j1,j2,j3⟩:=nC hz
     exact cn (ua.le j3 ea (by lia)) (Int.not_lt.mp hlt)
    refine jk (fun c=>aH ⟨rfl,.inl ⟨_,_,_,_,_,_,rfl,fs _ _ _ m2 (by simpa using c)⟩⟩) fun c=>?_
    have c':1<nb-1:=by
     have z:nb-1≠1:=fun z=>c (by rw[show(none,na,nb,out,ac,bc).snd.snd.fst=nb from rfl,z];rfl)
     lia
    have n0:nb-1<=b.size:=by lia
    have n1:x+1+na+(nb-1)<a.size+b.size:=by lia
    have n2:x+min (y+1) 1+na+(nb-1)<a.size+b.size:=by lia
    exact jk (fun _=>aH ⟨rfl,.inr ⟨_,_,_,_,_,rfl,m2,d1,d2,c',n0,n1⟩⟩) fun _=>aH ⟨rfl,_,_,_,_,_,rfl,m2,d1,d2,c',n0,n2⟩
  case p1 =>
   rintro c st2 ⟨rfl,⟨m',na,nb,out,ac,bc,rfl,f⟩|⟨na,nb,out,ac,bc,rfl,m,d1,d2,d3,d4,d5⟩⟩
   ·exact aH ⟨l,m',_,_,_,_,rfl,f⟩
   ·refine aA (fY (cM ⟨rfl,?_⟩))
    refine aA (du (bQ (I:=fun y (c:Option (Array Keyed)×Nat×Nat×Array Keyed×Nat×Nat×Nat) st2=>Lk st st2/\∃na nb out mg ac bc,c=(none,na,nb,out,mg,ac,bc)/\j7 R a b tot na nb out/\0<na/\na<=a.size/\1<nb/\nb<=b.size/\x+1+na+nb<a.size+b.size)
     (Q:=fun(c:Option (Array Keyed)×Nat×Nat×Array Keyed×Nat×Nat×Nat) st2=>Lk st st2/\((∃m na nb out mg ac bc,c=(some m,na,nb,out,mg,ac,bc)/\Fi R m.toList tot)\/
      (∃na nb out mg ac bc,c=(none,na,nb,out,mg,ac,bc)/\j7 R a b tot na nb out/\0<na/\na<=a.size/\1<nb/\nb<=b.size/\x+1+na+nb<a.size+b.size))) ?s2 ?f2 ⟨l,na,nb,out,_,ac,bc,rfl,m,d1,d2,d3,d4,d5⟩) ?p2)
    case f2=>
     rintro c st3 ⟨l3,na,nb,out,mg,ac,bc,rfl,m,d⟩
     exact⟨l3,.inr ⟨na,nb,out,mg,ac,bc,rfl,m,d⟩⟩
    case p2=>
     rintro c st3 ⟨l3,⟨m',na,nb,out,mg,ac,bc,rfl,f⟩|⟨na,nb,out,mg,ac,bc,rfl,m,d⟩⟩
     ·exact aH ⟨l3,m',_,_,_,_,rfl,f⟩
     ·exact aA (rD l3 fun st4 l4=>aH ⟨l4,_,_,_,_,rfl,m,d⟩)
    case s2=>
     rintro y c st3 _ hy ⟨l2,na,nb,out,mg,ac,bc,rfl,m,d1,d2,d3,d4,d5⟩
     obtain⟨bx,eb,mb⟩:=jR (a:=b) (i:=nb-1) (by lia)
     refine jk (fun _=>?_) fun _=>?_
     all_goals
      refine aA (rD l2 fun st4 l3=>?_)
      refine aA (j5 eb ?_)
      refine aA (oQ (base:=0) (n:=na) (hint:=na-1) C (l3.kind.trans hk) (hb _ mb) (fun i hi=>by
       obtain⟨z,z1,z2⟩:=jR (a:=a) (i:=0+i) (by lia)
       exact⟨z,z1,ha _ z2⟩) (by lia) (fun i j q1 q2 q3=>ua i j (bj _) q2 (by lia)) fun k k1 k2 k3=>?_)
      have upA:∀y∈a.toList.take k,R y<=R bx:=fun y hy=>by
       obtain⟨j,j1,j2,j3⟩:=nC hy
       have q:=uS (k2 j j1)
       rwa[gJ,kv_at j3]at q
      have mk:=HY m k1 fun x hx y hy=>by
       obtain⟨j,j1,j2,j3⟩:=n5 hx
       obtain⟨i,i1,i2,i3⟩:=nC hy
       have q:=vj (k3 j j1 j2)
       rw[gJ,kv_at j3]at q
       exact cn (ub.le i3 eb (by lia)) (bU q)
      refine jk (fun ck=>?_) fun ck=>?_
      case' refine_1=>
       refine jk (fun c=>aH ⟨l3,.inl ⟨_,_,_,_,_,_,_,rfl,dn _ _ _ mk (.inl (by simpa using c))⟩⟩) fun c3=>?_
       have e1:0<k:=by simp at c3;lia
       have e2:k<=a.size:=by lia
       have n1:∀z,z<=nb-1->x+1+(k-1)+z<a.size+b.size:=fun z hz=>by lia
       obtain⟨ax,ea,ma⟩:=jR (a:=a) (i:=k-1) (by lia)
       have e3:∀i,i<k->i<=k-1:=fun i hi=>by lia
      case' refine_2=>
       have e0:k=na:=by
        have ck':¬na-k>0:=ck
        lia
       subst e0
       have e1:=d1
       have e2:=d2
       have n1:∀z,z<=nb-1->x+1+(k-1)+z<a.size+b.size:=fun z hz=>by lia
       replace mk:=m
       obtain⟨ax,ea,ma⟩:=jR (a:=a) (i:=k-1) (by lia)
       have e3:∀i,i<k->i<=k-1:=fun i hi=>by lia
      all_goals
       refine aA (j5 eb ?_)
       have m3:=xD mk (by lia) eb upA
       refine jk (fun c=>aH ⟨l3,.inl ⟨_,_,_,_,_,_,_,rfl,fs _ _ _ m3 (by simpa using c)⟩⟩) fun c5=>?_
       have d6:1<nb-1:=by
        have z:nb-1≠1:=fun z=>c5 (by
         show(nb-1==1)=true
         rw[z];rfl)
        lia
       refine aA (j5 ea ?_)
       refine aA (oQ (base:=0) (n:=nb-1) (hint:=nb-1-1) C (l3.kind.trans hk) (ha _ ma) (fun i hi=>by
        obtain⟨z,z1,z2⟩:=jR (a:=b) (i:=0+i) (by lia)
        exact⟨z,z1,hb _ z2⟩) (by lia) (fun i j q1 q2 q3=>ub i j (bj _) q2 (by lia)) fun k' j1 j2 j3=>?_)
       have upB:∀y∈b.toList.take k',R y<=R ax:=fun y hy=>by
        obtain⟨i,i1,i2,i3⟩:=nC hy
        have q:=uD (j2 i i1)
        rw[gJ,kv_at i3]at q
        exact bU q
       have m4:=HX m3 j1 fun x hx y hy=>by
        obtain⟨j,i1,i2,i3⟩:=n5 hx
        obtain⟨i,i4,i5,i6⟩:=nC hy
        have q:=uT (j3 j i1 i2)
        rw[gJ,kv_at i3]at q
        exact cn (ua.le i6 ea (e3 i i4)) q
       refine jk (fun ck2=>?_) fun ck2=>?_
       case' refine_1=>
        refine jk (fun c=>aH ⟨l3,.inl ⟨_,_,_,_,_,_,_,rfl,fs _ _ _ m4 (by simpa using c)⟩⟩) fun c6=>?_
        refine jk (fun c=>aH ⟨l3,.inl ⟨_,_,_,_,_,_,_,rfl,dn _ _ _ m4 (.inr (by simpa using c))⟩⟩) fun c7=>?_
        have d7:1<k':=by simp at c6 c7;lia
        have d8:k'<=b.size:=by lia
        have n2:=n1 k' j1
       case' refine_2=>
        have e0:k'=nb-1:=by
         have ck':¬nb-1-k'>0:=ck2
         lia
        subst e0
        replace m4:=m3
        have d7:=d6
        have d8:nb-1<=b.size:=by lia
        have n2:=n1 (nb-1) (ai _)
       all_goals
        refine aA (j5 ea ?_)
        have m5:=ud m4 e1 ea upB
        refine jk (fun c=>aH ⟨l3,.inl ⟨_,_,_,_,_,_,_,rfl,dn _ _ _ m5 (.inl (by simpa using c))⟩⟩) fun c8=>?_
        have d9:0<k-1:=by
         rcases gw (k-1)with z|z
         ·refine absurd ?_ c8
          show(k-1==0)=true
          rw[z];rfl
         ·exact z
        have d10:k-1<=a.size:=by lia
        exact jk (fun _=>aH ⟨l3,.inr ⟨_,_,_,_,_,_,rfl,m5,d9,d10,d7,d8,n2⟩⟩) fun _=>aH ⟨l3,_,_,_,_,_,_,rfl,m5,d9,d10,d7,d8,n2⟩
end
end So
namespace So
open PySem PyProof.Rows
noncomputable def lj(off:Nat)(l:List (Keyed×Nat))(xs:Array Keyed):Array Keyed:=l.foldl (fun a p=>a.setIfInBounds (off+p.2) p.1) xs
theorem vD(off:Nat):∀(m:List Keyed) (j:Nat) (xs:Array Keyed),off+j+m.length<=xs.size->∀i,
  (lj off (m.zipIdx j) xs)[i]? =if off+j<=i/\i<off+j+m.length then m[i-(off+j)]? else xs[i]?
 |[],j,xs,_,i=>by rw[ak (by simp)];rfl
 | p::m,j,xs,h,i=>by
  rw[List.zipIdx_cons]
  show(lj off (m.zipIdx (j+1)) (xs.setIfInBounds (off+j) p))[i]? =_
  rw[List.length_cons]at h ⊢
  rw[vD off m (j+1) _ (by rw[Array.size_setIfInBounds];lia) i]
  by_cases c:i=off+j
  ·rw[ak (by lia),aq (by lia),c,gK,List.getElem?_cons_zero,ig]
   rw[aq rfl,aq (by lia)]
  ·by_cases c2:off+j<=i/\i<off+j+(m.length+1)
   ·rw[aq (by lia),aq c2,show i-(off+j)=i-(off+(j+1))+1 by lia,List.getElem?_cons_succ]
   ·rw[ak (by lia),ak c2,ig,ak (by lia)]
theorem GW{off:Nat}{m:List Keyed}{xs:Array Keyed}(h:off+m.length<=xs.size)(hp:m.Perm ((xs.toList.drop off).take m.length)):(lj off (m.zipIdx 0) xs).Perm xs:=by
 rw[dM]
 have e:(lj off (m.zipIdx 0) xs).toList=xs.toList.take off++(m++xs.toList.drop (off+m.length)):=by
  apply cV
  intro i
  have hlen:xs.toList.length=xs.size:=Array.length_toList
  rw[bH,vD off m 0 xs (by lia),List.getElem?_append,aK,hlen,fO (by lia)]
  by_cases c:i<off
  ·rw[ak (by lia),aq c,List.getElem?_take,aq c,bH]
  ·rw[ak c,List.getElem?_append]
   by_cases c2:i<off+m.length
   ·rw[aq (by lia),aq (by lia),Nat.add_zero]
   ·rw[ak (by lia),ak (by lia),List.getElem?_drop,bH,show off+m.length+(i-off-m.length)=i by lia]
 rw[e]
 have e2:xs.toList=xs.toList.take off++((xs.toList.drop off).take m.length++xs.toList.drop (off+m.length)):=by
  rw [<- il,cc,cc]
 conv=>rhs;rw[e2]
 exact dC _ (fH _ hp)
section
variable{prog:Program}{w:World}{A:Around}{E:Value->Shared->Prop}{s:Shared}{R:Keyed->Int}{κ:SortKind}{a₀:Array Keyed}{pd:Array (Nat×Nat×Nat)}
theorem BI{σ:Type}{M:Model}{st0:σ}{Q:PUnit->σ->Prop}{st:σ}(h:Q ⟨⟩ st0):wpS M A E s (set st0:StateT σ Sem PUnit) Q st:=by
 unfold wpS;exact ao ⟨rfl,h⟩
theorem Up.ext{xs:Array Keyed}{lo hi:Nat}(u:Up R xs lo hi)(h:hi<=xs.size):Up R (xs.extract lo hi) 0 (xs.extract lo hi).size:=fun i j _ h2 h3=>by
 rw[gF]at h3
 have e:∀k,k<hi-lo->(xs.extract lo hi)[k]? =xs[lo+k]?:=fun k hk=>by
  rw[fK]
  rw[aq (by lia)]
 rw[mw (e i (by lia)),mw (e j (by lia))]
 exact u _ _ (by lia) (by lia) (by lia)
theorem Gc(C:Cm prog w A s R κ a₀){st:SortSt}(b:Bs κ a₀ pd st){i:Nat}{sa na pa nb pb:Nat}(hp1:pd[i]? =some (sa,na,pa))(hp2:pd[i+1]? =some (sa+na,nb,pb))
  (h1:1<=na) (h2:1<=nb) (hs:sa+na+nb<=a₀.size) (ua:Up R (arrOf st) sa (sa+na)) (ub:Up R (arrOf st) (sa+na) (sa+na+nb)) {Q:Bool->SortSt->Prop}
  (h:∀st',Bs κ a₀ ((pd.setIfInBounds i (sa,na+nb,pa)).eraseIdxIfInBounds (i+1)) st'->(∀j,(j<sa\/sa+na+nb<=j)->(arrOf st')[j]? =(arrOf st)[j]?)->Up R (arrOf st') sa (sa+na+nb)->Q true st'):
  wpS (model prog w) A E s (mergeAt' i) Q st:=by
 rcases st with⟨kd,xs,pn,mg,fl⟩
 have e1:pn=pd:=b.pend
 have e2:kd=κ:=b.kind
 have e3:fl=none:=b.ok
 subst e1 e2 e3
 have hsz:xs.size=a₀.size:=b.size
 have hin:∀x,x∈xs.toList->x∈a₀.toList:=fun x hx=>(dM.mp (show xs.Perm a₀ from b.perm)).mem_iff.mp hx
 change Up R xs sa (sa+na)at ua
 change Up R xs (sa+na) (sa+na+nb)at ub
 change ∀st',_->(∀j,_->(arrOf st')[j]? =xs[j]?)->_ at h
 generalize hpd':(pn.setIfInBounds i (sa,na+nb,pa)).eraseIdxIfInBounds (i+1)=pd' at h
 have hle:∀{i j:Nat} {x y:Keyed},xs[i]? =some x->xs[j]? =some y->kv R xs i<=kv R xs j->R x<=R y:=fun q1 q2 q3=>by rwa[kv_at q1,kv_at q2]at q3
 unfold mergeAt'
 refine aA (eO ?_)
 dsimp only
 rw[hp1,hp2]
 refine aA (BI ?_)
 rw[hpd']
 have st1:Bs kd a₀ pd' (SortSt.mk' kd xs pd' mg none):=⟨b.perm,rfl,rfl,rfl⟩
 obtain⟨b0,eb0,mb0⟩:=jR (a:=xs) (i:=sa+na) (by lia)
 refine aA (j5 eb0 ?_)
 refine aA (oQ (base:=sa) (n:=na) (hint:=0) C rfl (hin _ mb0) (fun i hi=>by
  obtain⟨z,z1,z2⟩:=jR (a:=xs) (i:=sa+i) (by lia)
  exact⟨z,z1,hin _ z2⟩) (by lia) ua fun k k1 k2 k3=>?_)
 have lowk:∀j,sa<=j->j<sa+k->kv R xs j<=R b0:=fun j q1 q2=>by
  have q:=uS (k2 (j-sa) (by lia))
  rwa[show sa+(j-sa)=j by lia]at q
 have upk:∀j,sa+k<=j->j<sa+na->R b0<kv R xs j:=fun j q1 q2=>by
  have q:=vj (k3 (j-sa) (by lia) (by lia))
  rwa[show sa+(j-sa)=j by lia]at q
 have upb:∀j,sa+na<=j->j<sa+na+nb->R b0<=kv R xs j:=fun j q1 q2=>by
  have q:=ub (sa+na) j (ai _) q1 q2
  rwa[kv_at eb0]at q
 refine jk (fun c=>aH (h _ st1 (fun _ _=>rfl) ?_)) fun c1=>?_
 ·have ek:k=na:=by
   have c':na-k=0:=by simpa using c
   lia
  intro i j q1 q2 q3
  show kv R xs i<=kv R xs j
  by_cases cj:j<sa+na
  ·exact ua i j q1 q2 cj
  ·by_cases ci:i<sa+na
   ·exact cn (lowk i q1 (by lia)) (upb j (by lia) q3)
   ·exact ub i j (by lia) q2 q3
 have c1':k<na:=by
  have c':na-k≠0:=by simpa using c1
  lia
 obtain⟨al,eal,mal⟩:=jR (a:=xs) (i:=sa+k+(na-k)-1) (by lia)
 refine aA (j5 eal ?_)
 refine aA (oQ (base:=sa+na) (n:=nb) (hint:=nb-1) C rfl (hin _ mal) (fun i hi=>by
  obtain⟨z,z1,z2⟩:=jR (a:=xs) (i:=sa+na+i) (by lia)
  exact⟨z,z1,hin _ z2⟩) (by lia) ub fun n2 j1 j2 j3=>?_)
 rw[show sa+k+(na-k)-1=sa+na-1 by lia]at eal
 have lastA:∀j,sa<=j->j<sa+na->kv R xs j<=R al:=fun j q1 q2=>by
  have q:=ua j (sa+na-1) q1 (by lia) (by lia)
  rwa[kv_at eal]at q
 have lowB:∀j,sa+na<=j->j<sa+na+n2->kv R xs j<R al:=fun j q1 q2=>by
  have q:=uD (j2 (j-(sa+na)) (by lia))
  rwa[show sa+na+(j-(sa+na))=j by lia]at q
 have upB:∀j,sa+na+n2<=j->j<sa+na+nb->R al<=kv R xs j:=fun j q1 q2=>by
  have q:=uT (j3 (j-(sa+na)) (by lia) (by lia))
  rwa[show sa+na+(j-(sa+na))=j by lia]at q
 refine jk (fun c=>aH (h _ st1 (fun _ _=>rfl) ?_)) fun c2=>?_
 ·have e2:n2=0:=by simpa using c
  intro i j q1 q2 q3
  show kv R xs i<=kv R xs j
  by_cases cj:j<sa+na
  ·exact ua i j q1 q2 cj
  ·by_cases ci:i<sa+na
   ·exact cn (lastA i q1 ci) (upB j (by lia) q3)
   ·exact ub i j (by lia) q2 q3
 have c2':1<=n2:=by
  have c':n2≠0:=by simpa using c2
  lia
 have hx:Up R (xs.extract (sa+k) (sa+na)) 0 (xs.extract (sa+k) (sa+na)).size:=Up.ext (fun i j q1 q2 q3=>ua i j (by lia) q2 q3) (by lia)
 have hy:Up R (xs.extract (sa+na) (sa+na+n2)) 0 (xs.extract (sa+na) (sa+na+n2)).size:=Up.ext (fun i j q1 q2 q3=>ub i j (by lia) q2 (by lia)) (by lia)
 have sx:(xs.extract (sa+k) (sa+na)).size=na-k:=by rw[gF];lia
 have sy:(xs.extract (sa+na) (sa+na+n2)).size=n2:=by rw[gF];lia
 have gx:∀j,j<na-k->(xs.extract (sa+k) (sa+na))[j]? =xs[sa+k+j]?:=fun j hj=>by rw[fK,aq (by lia)]
 have gy:∀j,j<n2->(xs.extract (sa+na) (sa+na+n2))[j]? =xs[sa+na+j]?:=fun j hj=>by rw[fK,aq (by lia)]
 have ix:∀z∈(xs.extract (sa+k) (sa+na)).toList,z∈a₀.toList:=fun z hz=>by
  obtain⟨j,q1,q2,q3⟩:=n5 hz
  obtain⟨v,v1,v2⟩:=jR (a:=xs) (i:=j) (by lia)
  rw[q3]at v1
  cases v1
  exact hin _ v2
 have iy:∀z∈(xs.extract (sa+na) (sa+na+n2)).toList,z∈a₀.toList:=fun z hz=>by
  obtain⟨j,q1,q2,q3⟩:=n5 hz
  obtain⟨v,v1,v2⟩:=jR (a:=xs) (i:=j) (by lia)
  rw[q3]at v1
  cases v1
  exact hin _ v2
 have p0:∀x y,(xs.extract (sa+na) (sa+na+n2))[0]? =some x->(xs.extract (sa+k) (sa+na))[0]? =some y->R x<R y:=fun x y q1 q2=>by
  rw[gy 0 (by lia)]at q1
  rw[gx 0 (by lia)]at q2
  have q:=upk (sa+k+0) (by lia) (by lia)
  rw[kv_at q2]at q
  have e:x=b0:=by
   rw[Nat.add_zero,eb0]at q1
   cases q1;rfl
  rw[e];exact q
 have pl:∀x y,x∈(xs.extract (sa+na) (sa+na+n2)).toList->(xs.extract (sa+k) (sa+na))[(xs.extract (sa+k) (sa+na)).size-1]? =some y->R x<R y:=fun x y q1 q2=>by
  rw[sx,gx _ (by lia),show sa+k+(na-k-1)=sa+na-1 by lia,eal]at q2
  cases q2
  obtain⟨j,r1,r2,r3⟩:=n5 q1
  have q:=lowB j r1 r2
  rwa[kv_at r3]at q
 have fini:∀(m:Array Keyed) (st':SortSt),Lk (SortSt.mk' kd xs pd' mg none) st'->Fi R m.toList ((xs.extract (sa+k) (sa+na)).toList++(xs.extract (sa+na) (sa+na+n2)).toList)->
   Q true (SortSt.mk' (kindOf st') (lj (sa+k) (m.toList.zipIdx 0) (arrOf st')) (pendingOf st') (gallopOf st') (failedOf st'))/\failedOf st'=none:=by
  intro m st' l f
  have ea:arrOf st'=xs:=l.arr
  have hml:m.toList.length=na-k+n2:=by
   rw[f.2.length_eq,aB,Array.length_toList,Array.length_toList,sx,sy]
  have hmz:∀z∈m.toList,∃j,sa+k<=j/\j<sa+na+n2/\xs[j]? =some z:=fun z hz=>by
   rcases bu.mp (f.2.mem_iff.mp hz)with q|q
   ·obtain⟨j,q1,q2,q3⟩:=n5 q
    exact⟨j,q1,by lia,q3⟩
   ·obtain⟨j,q1,q2,q3⟩:=n5 q
    exact⟨j,by lia,q2,q3⟩
  have hperm:(lj (sa+k) (m.toList.zipIdx 0) xs).Perm xs:=by
   refine GW (by lia) (f.2.trans ?_)
   rw[hml,List.take_add,ny,ny,il,show sa+na-(sa+k)=na-k by lia,show sa+k+(na-k)=sa+na by lia,show sa+na+n2-(sa+na)=n2 by lia]
  have hget:=vD (sa+k) m.toList 0 xs (by lia)
  rw[hml]at hget
  refine⟨h _ ⟨?_,l.kind,l.ok,l.pend⟩ ?_ ?_,l.ok⟩
  ·show(lj (sa+k) (m.toList.zipIdx 0) (arrOf st')).Perm a₀
   rw[ea];exact hperm.trans b.perm
  ·intro j hj
   show(lj (sa+k) (m.toList.zipIdx 0) (arrOf st'))[j]? =xs[j]?
   rw[ea,hget,ak (by lia)]
  ·intro i j q1 q2 q3
   show kv R (lj (sa+k) (m.toList.zipIdx 0) (arrOf st')) i<=kv R (lj (sa+k) (m.toList.zipIdx 0) (arrOf st')) j
   rw[ea]
   have out:∀i,¬(sa+k<=i/\i<sa+na+n2)->kv R (lj (sa+k) (m.toList.zipIdx 0) xs) i=kv R xs i:=fun i hi=>mw (by rw[hget,ak (by lia)])
   have ins:∀i,sa+k<=i->i<sa+na+n2->∃z,m.toList[i-(sa+k)]? =some z/\z∈m.toList/\kv R (lj (sa+k) (m.toList.zipIdx 0) xs) i=R z:=fun i hi1 hi2=>by
    have hlt:i-(sa+k)<m.toList.length:=by lia
    refine⟨m.toList[i-(sa+k)],gE hlt,df _,kv_at ?_⟩
    rw[hget,aq (by lia),Nat.add_zero]
    exact gE hlt
   by_cases ci:sa+k<=i/\i<sa+na+n2
   ·obtain⟨z,z1,z2,z3⟩:=ins i ci.1 ci.2
    obtain⟨iz,y1,y2,y3⟩:=hmz z z2
    by_cases cj:sa+k<=j/\j<sa+na+n2
    ·obtain⟨v,v1,v2,v3⟩:=ins j cj.1 cj.2
     rw[z3,v3]
     by_cases eij:i=j
     ·rw[eij]at z1
      rw[z1]at v1
      cases v1
      exact bA _
     ·have hlt1:i-(sa+k)<m.toList.length:=by lia
      have hlt2:j-(sa+k)<m.toList.length:=by lia
      have q:=bX.mp f.1 (i-(sa+k)) (j-(sa+k)) hlt1 hlt2 (by lia)
      rw[gE hlt1]at z1
      rw[gE hlt2]at v1
      cases z1
      cases v1
      exact q
    ·rw [z3,out j cj,<- kv_at (R:=R) y3]
     have hj2:sa+na+n2<=j:=by lia
     refine cn ?_ (upB j hj2 q3)
     by_cases cz:iz<sa+na
     ·exact lastA iz (by lia) cz
     ·exact bU (lowB iz (by lia) y2)
   ·rw[out i ci]
    by_cases cj:sa+k<=j/\j<sa+na+n2
    ·obtain⟨v,v1,v2,v3⟩:=ins j cj.1 cj.2
     obtain⟨iz,y1,y2,y3⟩:=hmz v v2
     rw [v3,<- kv_at (R:=R) y3]
     refine cn (lowk i q1 (by lia)) ?_
     by_cases cz:iz<sa+na
     ·exact bU (upk iz y1 cz)
     ·exact upb iz (by lia) (by lia)
    ·rw[out j cj]
     by_cases c3:j<sa+na
     ·exact ua i j q1 q2 c3
     ·by_cases c4:i<sa+na
      ·exact cn (lowk i q1 (by lia)) (upb j (by lia) q3)
      ·exact ub i j (by lia) q2 q3
 have close:∀(m:Array Keyed) (st':SortSt),Lk (SortSt.mk' kd xs pd' mg none) st'->Fi R m.toList ((xs.extract (sa+k) (sa+na)).toList++(xs.extract (sa+na) (sa+na+n2)).toList)->
   Q (failedOf (SortSt.mk' (kindOf st') (lj (sa+k) (m.toList.zipIdx 0) (arrOf st')) (pendingOf st') (gallopOf st') (failedOf st'))).isNone (SortSt.mk' (kindOf st') (lj (sa+k) (m.toList.zipIdx 0) (arrOf st')) (pendingOf st') (gallopOf st') (failedOf st')):=by
  intro m st' l f
  obtain⟨z1,z2⟩:=fini m st' l f
  show Q (failedOf st').isNone _
  rw[z2]at z1 ⊢
  exact z1
 refine jk (fun c=>?_) fun c=>?_
 ·exact aA (BJ C rfl ix iy hx hy (by lia) (by lia) p0 pl (List.Perm.refl _) fun m st' l f=>aA (eD (aA (eO (aH (close m st' l f))))))
 ·exact aA (BK C rfl ix iy hx hy (by lia) (by lia) p0 pl (List.Perm.refl _) fun m st' l f=>aA (eD (aA (eO (aH (close m st' l f))))))
end
end So
namespace So
open PySem PyProof.Rows
noncomputable def two(pd:Array (Nat×Nat×Nat)):List (Nat×Nat):=pd.toList.map fun t=>(t.1,t.2.1)
def Ch(R:Keyed->Int)(xs:Array Keyed):Nat->List (Nat×Nat)->Nat->Prop
 |p,[],q=>p=q
 |p,(s,n)::r,q=>s=p/\1<=n/\Up R xs s (s+n)/\Ch R xs (s+n) r q
section
variable{R:Keyed->Int}{xs ys:Array Keyed}
theorem Ch.app:∀{l1 l2:List (Nat×Nat)} {p q:Nat},Ch R xs p (l1++l2) q↔∃m,Ch R xs p l1 m/\Ch R xs m l2 q
 |[],l2,p,q=>⟨fun h=>⟨p,rfl,h⟩,fun⟨m,e,h⟩=>by rw[show p=m from e];exact h⟩
 |(s,n)::l1,l2,p,q=>by
  show s=p/\1<=n/\Up R xs s (s+n)/\Ch R xs (s+n) (l1++l2) q↔_
  rw[Ch.app (l1:=l1)]
  exact⟨fun⟨a,b,c,m,d,e⟩=>⟨m,⟨a,b,c,d⟩,e⟩,fun⟨m,⟨a,b,c,d⟩,e⟩=>⟨a,b,c,m,d,e⟩⟩
theorem Ch.le:∀{l:List (Nat×Nat)} {p q:Nat},Ch R xs p l q->p+l.length<=q
 |[],p,q,h=>by rw[show p=q from h];exact ai _
 |(s,n)::l,p,q,⟨a,b,c,d⟩=>by
  have z:=Ch.le d
  rw[List.length_cons];lia
theorem Up.like{lo hi:Nat}(u:Up R xs lo hi)(h:∀i,lo<=i->i<hi->ys[i]? =xs[i]?):Up R ys lo hi:=fun i j h1 h2 h3=>by
 rw[mw (h i h1 (by lia)),mw (h j (by lia) h3)]
 exact u i j h1 h2 h3
theorem Ch.like:∀{l:List (Nat×Nat)} {p q:Nat},Ch R xs p l q->(∀i,p<=i->i<q->ys[i]? =xs[i]?)->Ch R ys p l q
 |[],p,q,h,_=>h
 |(s,n)::l,p,q,⟨a,b,c,d⟩,e=>by
  have z:=Ch.le d
  exact⟨a,b,c.like fun i h1 h2=>e i (by lia) (by lia),d.like fun i h1 h2=>e i (by lia) h2⟩
end
theorem B6{α:Type}{l:List α}{i:Nat}(h:i+1<l.length):∃P x y S,l=P++x::y::S/\P.length=i/\l[i]? =some x/\l[i+1]? =some y:=by
 refine⟨l.take i,l[i],l[i+1],l.drop (i+2),?_,by rw[aK];lia,gE _,gE _⟩
 rw [<- cC,<- cC,cc]
theorem xr{α:Type}{P S:List α}{x y v:α}:((P++x::y::S).set P.length v).eraseIdx (P.length+1)=P++v::S:=by
 rw[List.set_append_right _ _ (ai _),gK,List.set_cons_zero,List.eraseIdx_append_of_length_le (fg _),show P.length.succ-P.length=1 by lia]
 rfl
section
variable{prog:Program}{w:World}{A:Around}{E:Value->Shared->Prop}{s:Shared}{R:Keyed->Int}{κ:SortKind}{a₀:Array Keyed}{pd:Array (Nat×Nat×Nat)}
theorem Az(C:Cm prog w A s R κ a₀){st:SortSt}(b:Bs κ a₀ pd st){i lo:Nat}(ch:Ch R (arrOf st) 0 (two pd) lo)(hlo:lo<=a₀.size)(hi:i+1<pd.size){Q:Bool->SortSt->Prop}
  (h:∀st' pd',Bs κ a₀ pd' st'->pd'.size+1=pd.size->Ch R (arrOf st') 0 (two pd') lo->(∀j,lo<=j->(arrOf st')[j]? =(arrOf st)[j]?)->Q true st'):wpS (model prog w) A E s (mergeAt' i) Q st:=by
 obtain⟨P,x,y,S,e1,e2,e3,e4⟩:=B6 (l:=pd.toList) (i:=i) (by rw[Array.length_toList];exact hi)
 obtain⟨s1,n1,p1⟩:=x
 obtain⟨s2,n2,p2⟩:=y
 rw[bH]at e3 e4
 unfold two at ch
 rw[e1,aj,Ch.app]at ch
 obtain⟨m,c1,c2⟩:=ch
 rw[ag,ag]at c2
 obtain⟨z1,z2,z3,z4,z5,z6,z7⟩:=c2
 have z1':s1=m:=z1
 have z4':s2=s1+n1:=z4
 subst z1' z4'
 have z5':1<=n2:=z5
 have le2:=Ch.le z7
 have le2':s1+n1+n2+(S.map fun t=>(t.1,t.2.1)).length<=lo:=le2
 have le1:=Ch.le c1
 refine Gc C b e3 e4 z2 z5' (by lia) z3 z6 fun st' b' hout u=>h st' _ b' ?_ ?_ fun j hj=>hout j (.inr (by lia))
 ·have q:((pd.setIfInBounds i (s1,n1+n2,p1)).eraseIdxIfInBounds (i+1)).toList.length+1=pd.toList.length:=by
   rw [gR,iu,e1,<- e2,xr]
   simp only[aB,List.length_cons]
   lia
  rwa[Array.length_toList,Array.length_toList]at q
 ·unfold two
  rw [gR,iu,e1,<- e2,xr,aj,Ch.app]
  refine⟨s1,c1.like fun k q1 q2=>hout k (.inl q2),rfl,by show 1<=n1+n2;lia,?_,?_⟩
  ·show Up R (arrOf st') s1 (s1+(n1+n2))
   rw [<- gp]; exact u
  ·show Ch R (arrOf st') (s1+(n1+n2)) _ lo
   rw [<- gp]
   exact z7.like fun k q1 q2=>hout k (.inr q1)
theorem Fm(x:Nat×Nat×Nat):two (pd.push x)=two pd++[(x.1,x.2.1)]:=by
 unfold two;rw[eB,aj];rfl
theorem Eh(i p:Nat):two (pd.modify i fun x=>match x with |(a,n,_)=>(a,n,p))=two pd:=by
 unfold two
 rw[Array.toList_modify]
 apply cV
 intro j
 rw[aE,aE,List.getElem?_modify]
 cases pd.toList[j]? with
 |none=>rfl
 |some t=>
  obtain⟨a,n,q⟩:=t
  by_cases c:i=j<;>simp[c]
theorem BH(C:Cm prog w A s R κ a₀){st:SortSt}(b:Bs κ a₀ #[] st)(h1:1<=a₀.size){Q:Unit->SortSt->Prop}
  (h:∀st',(arrOf st').Perm a₀->failedOf st'=none->Up R (arrOf st') 0 a₀.size->Q () st'):wpS (model prog w) A E s sortRuns' Q st:=by
 have pn:∀{st:SortSt} {pd:Array (Nat×Nat×Nat)},Bs κ a₀ pd st->(sortPriv%PySem.Builtin.SortState.pending) st=pd:=fun b=>b.pend
 have sz:(sortPriv%PySem.Builtin.SortState.a) st=arrOf st:=rfl
 unfold sortRuns'
 refine aA (eO ?_)
 rw[sz,b.size]
 refine aA (du (bQ (I:=fun x (c:Option Unit×Nat) st'=>∃lo pd,c=(none,lo)/\Bs κ a₀ pd st'/\Ch R (arrOf st') 0 (two pd) lo/\lo<=a₀.size/\min x a₀.size<=lo)
  (Q:=fun(c:Option Unit×Nat) st'=>∃pd,c=(none,a₀.size)/\Bs κ a₀ pd st'/\Ch R (arrOf st') 0 (two pd) a₀.size) ?step ?fin ⟨0,#[],rfl,b,rfl,bj _,by lia⟩) ?post)
 case fin=>
  rintro c st' ⟨lo,pd,rfl,b',ch,q1,q2⟩
  have e:lo=a₀.size:=by lia
  subst e
  exact⟨pd,rfl,b',ch⟩
 case post=>
  rintro c st' ⟨pd,rfl,b',ch⟩
  refine aA (du (bQ (I:=fun x (c:Option Unit×Unit) st'=>∃pd,c=(none,())/\Bs κ a₀ pd st'/\Ch R (arrOf st') 0 (two pd) a₀.size/\(pd.size+x<=a₀.size\/pd.size<=1))
   (Q:=fun(c:Option Unit×Unit) st'=>∃pd,c=(none,())/\Bs κ a₀ pd st'/\Ch R (arrOf st') 0 (two pd) a₀.size/\pd.size<=1) ?s2 ?f2 ⟨pd,rfl,b',ch,?_⟩) ?p2)
  case f2=>
   rintro c st2 ⟨pd,rfl,b2,ch2,q⟩
   exact⟨pd,rfl,b2,ch2,by lia⟩
  case p2=>
   rintro c st2 ⟨pd,rfl,b2,ch2,q⟩
   refine aH (h st2 b2.perm b2.ok ?_)
   match hl:two pd,ch2 with
   |[],e=>exact absurd (show 0=a₀.size from e) (by lia)
   |[(p1,n1)],⟨e1,e2,e3,e4⟩=>
    have e1':p1=0:=e1
    have e4':p1+n1=a₀.size:=e4
    rw[e4']at e3
    rw[e1']at e3
    exact e3
   |x::y::r,_=>
    have z:(two pd).length=pd.size:=by unfold two;rw[ae,Array.length_toList]
    rw[hl,List.length_cons,List.length_cons]at z
    lia
  case s2=>
   rintro x c st2 _ hx ⟨pd,rfl,b2,ch2,q⟩
   refine aA (eO ?_)
   rw[pn b2]
   refine jk (fun c=>aH ⟨pd,rfl,b2,ch2,c⟩) fun c=>?_
   refine aA (Az C b2 ch2 (ai _) ?_ fun st3 pd3 b3 q3 ch3 _=>?_)
   ·exact(fun(c:Prop) [Decidable c]=>(by split<;>lia:(if c then pd.size-2-1 else pd.size-2)+1<pd.size)) _
   ·exact jk (fun c=>by cases c) fun _=>aH ⟨pd3,rfl,b3,ch3,by lia⟩
  ·have z:=Ch.le ch
   unfold two at z
   rw[ae,Array.length_toList]at z
   lia
 case step=>
  rintro x c st' _ hx ⟨lo,pd,rfl,b',ch,q1,q2⟩
  refine jk (fun c=>?_) fun c=>?_
  ·have e:lo=a₀.size:=by
    have c':lo ≥ a₀.size:=c
    lia
   subst e
   exact aH ⟨pd,rfl,b',ch⟩
  have c':lo<a₀.size:=Nat.lt_of_not_le c
  refine aA (Ej (lo:=lo) (nrem:=a₀.size-lo) C (by lia) (by lia) b' fun m st2 b2 f2 m1 m2 u2=>?_)
  have ch2:Ch R (arrOf st2) 0 (two pd) lo:=ch.like fun i _ hi=>f2 i hi
  have push:∀(n:Nat) (st4:SortSt) (pd4:Array (Nat×Nat×Nat)),Bs κ a₀ pd4 st4->Ch R (arrOf st4) 0 (two pd4) lo->Up R (arrOf st4) lo (lo+n)->1<=n->lo+n<=a₀.size->
    ∃lo' pd',((none,lo+n):Option Unit×Nat)=(none,lo')/\Bs κ a₀ pd' (SortSt.mk' (kindOf st4) (arrOf st4) ((pendingOf st4).push (lo,n,0)) (gallopOf st4) (failedOf st4))/\Ch R (arrOf st4) 0 (two pd') lo'/\lo'<=a₀.size/\min (x+1) a₀.size<=lo':=by
   intro n st4 pd4 b4 ch4 u4 n1 n2
   refine⟨lo+n,pd4.push (lo,n,0),rfl,⟨b4.perm,b4.kind,b4.ok,?_⟩,?_,n2,by lia⟩
   ·show(pendingOf st4).push (lo,n,0)=_
    rw[b4.pend]
   ·rw[Fm,Ch.app]
    exact⟨lo,ch4,rfl,n1,u4,rfl⟩
  refine jk (fun cm=>?_) fun cm=>?_
  case' refine_1=>
   refine aA (fY (cM ⟨rfl,?_⟩))
   refine aA (BM (lo:=lo) (n:=min (a₀.size-lo) (minRun' a₀.size a₀.size 0)) (ok:=m) C (by lia) (by
    have cm':m<minRun' a₀.size a₀.size 0:=cm
    lia) b2 u2 fun st3 b3 f3 u3=>?_)
   refine jk (fun c=>by cases c) fun _=>?_
   have ch3:Ch R (arrOf st3) 0 (two pd) lo:=ch2.like fun i _ hi=>f3 i hi
   have n1:1<=min (a₀.size-lo) (minRun' a₀.size a₀.size 0):=by
    have cm':m<minRun' a₀.size a₀.size 0:=cm
    lia
   have n2:lo+min (a₀.size-lo) (minRun' a₀.size a₀.size 0)<=a₀.size:=by lia
   obtain⟨n,hn⟩:∃n,n=min (a₀.size-lo) (minRun' a₀.size a₀.size 0):=⟨_,rfl⟩
  case' refine_2=>
   have ch3:=ch2
   have b3:=b2
   have u3:=u2
   have n1:=m1
   have n2:lo+m<=a₀.size:=by lia
   obtain⟨n,hn⟩:∃n,n=m:=⟨_,rfl⟩
  all_goals
   refine aA (eO ?_)
   rw[pn b3]
   cases hb:pd.back? with
   |none=>exact aA (eD (aH (push _ _ _ b3 ch3 u3 n1 n2)))
   | some t=>
    obtain⟨s1,k1,p1⟩:=t
    rw [<- hn] at u3
    refine aA (du (bQ (I:=fun y (c:Option Unit×Unit) st4=>c=(none,())/\∃pd4,Bs κ a₀ pd4 st4/\Ch R (arrOf st4) 0 (two pd4) lo/\Up R (arrOf st4) lo (lo+n))
     (Q:=fun(c:Option Unit×Unit) st4=>c=(none,())/\∃pd4,Bs κ a₀ pd4 st4/\Ch R (arrOf st4) 0 (two pd4) lo/\Up R (arrOf st4) lo (lo+n)) ?s4 (fun _ _ z=>z) ⟨rfl,pd,b3,ch3,u3⟩) ?p4)
    case s4=>
     rintro y c st4 _ hy ⟨rfl,pd4,b4,ch4,u4⟩
     refine aA (eO ?_)
     rw[pn b4]
     dsimp only
     by_cases c4:pd4.size>1
     ·have e:(if pd4.size>1 then pd4[pd4.size-2]? else none)=some (pd4[pd4.size-2]'(by lia)):=by rw[aq c4];exact cy _ _ (by lia)
      rw[e]
      obtain⟨v1,v2,v3⟩:=pd4[pd4.size-2]'(by lia)
      refine jk (fun _=>aH ⟨rfl,pd4,b4,ch4,u4⟩) fun _=>?_
      refine aA (Az C b4 ch4 (by lia) (by lia) fun st5 pd5 b5 _ ch5 o5=>?_)
      exact jk (fun c=>by cases c) fun _=>aH ⟨rfl,pd5,b5,ch5,u4.like fun i h1 _=>o5 i h1⟩
     ·rw[ak c4]
      exact aH ⟨rfl,pd4,b4,ch4,u4⟩
    case p4=>
     rintro c st4 ⟨rfl,pd4,b4,ch4,u4⟩
     rw[hn]at u4
     refine aA (eD (aA (eD (aH ?_))))
     refine push _ _ _ ⟨b4.perm,b4.kind,b4.ok,rfl⟩ ?_ u4 n1 n2
     refine(bS (fun z=>Ch R (arrOf st4) 0 z lo) (Eh (pd:=pendingOf st4) _ _)).mpr ?_
     rw[b4.pend]
     exact ch4
end
end So
namespace So
open PySem PyProof.Rows
section
variable{prog:Program}{w:World}{A:Around}{E:Value->Shared->Prop}{s:Shared}
theorem zX(vs:List Value):vs.zip vs=vs.map fun v=>(v,v):=by
 induction vs with
 |nil=>rfl
 |cons v vs ih=>rw[List.zip_cons_cons,ih,ag]
theorem Up.all{R:Keyed->Int}{xs:Array Keyed}(u:Up R xs 0 xs.size):xs.toList.Pairwise (Le R):=by
 rw[bX]
 intro i j hi hj hij
 rw[Array.length_toList]at hi hj
 exact u.le (cy xs i hi) (cy xs j hj) (dO hij)
theorem CY{R:Keyed->Int}{vs:List Value}{xs:Array Keyed}(p:xs.Perm (pairsOf vs))(u:Up R xs 0 xs.size):(xs.map (·.2)).toList.Perm vs/\(xs.map (·.2)).toList.Pairwise fun a b=>R (a,a)<=R (b,b):=by
 have hp:xs.toList.Perm (vs.map fun v=>(v,v)):=by rw [<- zX,<- pairsOf_toList]; exact dM.mp p
 rw[Array.toList_map]
 refine⟨?_,?_⟩
 ·have z:=hp.map (·.2)
  rw[bz]at z
  have e:vs.map ((fun x:Keyed=>x.2)∘fun v=>(v,v))=vs:=by
   rw[show((fun x:Keyed=>x.2)∘fun v=>(v,v))=id from rfl,List.map_id]
  rwa[e]at z
 ·rw[bK]
  refine fq ?_ u.all
  intro a b ha hb hab
  obtain⟨v,_,rfl⟩:=aL.mp (hp.mem_iff.mp ha)
  obtain⟨u',_,rfl⟩:=aL.mp (hp.mem_iff.mp hb)
  exact hab
def sV(prog:Program)(w:World)(s:Shared)(vs:List Value)(R:Keyed->Int)(κ:SortKind):Prop:=
 ∀(A:Around) (h':Heap),(∀b o,s.heap.get? b=some o->h'.get? b=some o)->
  (∀(Q:SortKind->Shared->Prop) (E:Value->Shared->Prop),Q κ {s with heap:=h'}->wpAny (model prog w) A (keyKind' vs.toArray) Q E {s with heap:=h'})/\Cm prog w A {s with heap:=h'} R κ (pairsOf vs)
theorem yL{a:Addr}{vs:List Value}{n:Nat}{P:PySem.Fin->Shared->Prop}{R:Keyed->Int}{κ:SortKind}{h₁:Heap}(ho:s.heap.get? a=some (seqObj "list" vs.toArray n))(hz:vs.length<=sizeLine)
  (hold:∀b o,h₁.get? b=some o->b≠a/\s.heap.get? b=some o) (hk:2<=vs.length->sV prog w {s with heap:=h₁} vs R κ)
  (h:∀out:Array Value,out.toList.Perm vs->out.toList.Pairwise (fun a b=>R (a,a)<=R (b,b))->P (.done (.ret .none)) {s with heap:=sortedHeap s.heap a vs out}):
  wpAny (model prog w) A (Builtin.«list.sort» ⟨[.ref a],[]⟩) P E s:=by
 rw[list_sort_plain]
 have ha:a<s.heap.objs.size:=aD ho
 have hz1:vs.toArray.size<=sizeLine:=by rw[ah];exact hz
 refine aa (listItems_at ho rfl (aa (listUpdate_at ho rfl ?_ hz1 (bj _))))
 obtain⟨e1,ho1⟩:∃e1,(s.heap.update a (Obj.mapSeq fun _=>(#[]:Array Value))).get? a=some (seqObj "list" #[] e1):=⟨_,get?_update_seq ho fun _=>#[]⟩
 refine aa (seqEpoch_at ho1 rfl (aa (wpAny_newTuple (aa (fk (bV ?_) (bj _))) hz)))
 have keep:∀b o,b≠a->s.heap.get? b=some o->(((s.heap.update a (Obj.mapSeq fun _=>(#[]:Array Value))).push (seqObj "tuple" vs.toArray 0)).push (seqObj "list" #[] 0)).get? b=some o:=fun b o hne q=>
  af _ (af _ (by rw[Heap.get?_update_ne _ _ _ _ hne];exact q))
 have ho6:(((s.heap.update a (Obj.mapSeq fun _=>(#[]:Array Value))).push (seqObj "tuple" vs.toArray 0)).push (seqObj "list" #[] 0)).get? a=some (seqObj "list" #[] e1):=af _ (af _ ho1)
 show wpAny (model prog w) A _ P E {s with heap:=((s.heap.update a (Obj.mapSeq fun _=>(#[]:Array Value))).push (seqObj "tuple" vs.toArray 0)).push (seqObj "list" #[] 0)}
 dsimp only
 have fin:∀st':SortSt,(arrOf st').Perm (pairsOf vs)->Up R (arrOf st') 0 (arrOf st').size->P (.done (.ret .none)) {s with heap:=sortedHeap s.heap a vs ((arrOf st').map (·.2))}:=fun st' p u=>by
  obtain⟨z1,z2⟩:=CY p u
  exact h _ z1 z2
 by_cases c2:vs.toArray.size<2
 ·rw[aq c2,aq c2]
  refine aa (ao ?_)
  rw[StateT.run_pure]
  refine aa (ao (aa (seqEpoch_at ho6 rfl (aa (listUpdate_at ho6 rfl ?_ (bj _) (by rw[Array.size_map];show(pairsOf vs).size<=_;rw[gG];exact Nat.le_succ_of_le hz))))))
  simp only[bne_self_eq_false,aW,if_false]
  refine ao (fin (SortSt.mk' general' (vs.toArray.zip vs.toArray) #[] 7 none) (Array.Perm.refl _) (Up.one ?_))
  show(pairsOf vs).size<=1
  rw[gG]
  rw[ah]at c2
  lia
 ·rw[ak c2,ak c2]
  rw[ah]at c2
  obtain⟨k1,k2⟩:=hk (by lia) A _ fun b o q=>keep b o (hold b o q).1 (hold b o q).2
  refine aa (k1 _ _ ?_)
  have k3:=BH (E:=E) (st:=SortSt.mk' κ (pairsOf vs) #[] 7 none) (Q:=fun _ st'=>(arrOf st').Perm (pairsOf vs)/\failedOf st'=none/\Up R (arrOf st') 0 (pairsOf vs).size) k2 ⟨Array.Perm.refl _,rfl,rfl,rfl⟩ (by rw[gG];lia) fun st' a1 a2 a3=>⟨a1,a2,a3⟩
  refine aa (cW k3 ?_ fun _ _ e=>e)
  rintro⟨⟨⟩,st'⟩ s' ⟨rfl,hp,hf,hs⟩
  dsimp only
  refine aa (seqEpoch_at ho6 rfl (aa (listUpdate_at ho6 rfl ?_ (bj _) (by refine bD (Nat.le_of_eq ((Array.size_map ..).trans (hp.size_eq.trans (gG _)))) (Nat.le_succ_of_le hz)))))
  rw[hf]
  simp only[bne_self_eq_false,aW,if_false]
  rw [<- hp.size_eq] at hs
  exact ao (fin st' hp hs)
theorem F8{l:Addr}{vs:List Value}{Q:Value->Shared->Prop}{R:Keyed->Int}{κ:SortKind}(hl:s.heap.IsList l vs.toArray)(hz:vs.length<=sizeLine)(hk:2<=vs.length->sV prog w s vs R κ)
  (h:∀out:Array Value,out.toList.Perm vs->out.toList.Pairwise (fun a b=>R (a,a)<=R (b,b))->Q (.ref (s.heap.objs.size+1)) {s with heap:=sortedAll s.heap vs out}):
  wpAny (model prog w) A (call (.builtin "sorted") [.ref l]) Q E s:=by
 refine Calls.call_function_entry kind_sorted plain_sorted entry_sorted (args_sorted1 _) ?_
 unfold Builtin.«sorted»
 refine aa (m:=checkCount "sorted" 1 1 _) (ao (aa (collect_list hl (aa (fk ?_ hz)) hz)))
 have hsz:((s.heap.push (seqObj "list" #[] 0)).update s.heap.objs.size (Obj.mapSeq (·++vs.toArray))).objs.size=s.heap.objs.size+1:=by rw[Heap.size_update,ik]
 generalize hh:((s.heap.push (seqObj "list" #[] 0)).update s.heap.objs.size (Obj.mapSeq (·++vs.toArray))).push (seqObj "list" vs.toArray 0)=h2
 have hoL:h2.get? (s.heap.objs.size + 1) = some (seqObj "list" vs.toArray 0):=by rw [<- hh,<- hsz]; exact aI _ rfl
 have keep:∀b o,s.heap.get? b=some o->b≠s.heap.objs.size+1/\h2.get? b=some o:=fun b o q=>by
  have hlt:b<s.heap.objs.size:=aD q
  refine⟨aP (cU hlt),?_⟩
  rw [<- hh]
  exact af _ (by rw[Heap.get?_update_ne _ _ _ _ (aP hlt)];exact af _ q)
 show wpAny _ _ _ _ _ {s with heap:=h2}
 rw[hsz]
 refine aa (bV (cY slot_list_sort ⟨_,hoL,rfl⟩ entry_list_sort (yL (s:={s with heap:=h2}) (h₁:=s.heap) hoL hz keep hk fun out p1 p2=>⟨_,rfl,?_⟩) (args_list_sort _)))
 refine ao ⟨_,rfl,?_⟩
 have z:=h out p1 p2
 unfold sortedAll at z
 rw[hh]at z
 exact z
theorem Fq{vs:List Value}{ns:List Int}(hI:IntsAre vs ns)(h2:2<=vs.length):sV prog w s vs (fun k=>numOf k.1) oneType':=by
 intro A h' _
 refine⟨fun Q E q=>?_,fun x y hx hy Q E q=>?_⟩
 ·obtain⟨v₁,v₂,rest,rfl⟩:∃v₁ v₂ rest,vs=v₁::v₂::rest:=by
   match vs,h2 with
   |v₁::v₂::rest,_=>exact⟨v₁,v₂,rest,rfl⟩
  rw[keyKind_ints hI]
  exact ao q
 ·obtain⟨a,t,e1⟩:=hI.intKeys x hx
  obtain⟨b,u,e2⟩:=hI.intKeys y hy
  rcases x with⟨x,x'⟩
  rcases y with⟨y,y'⟩
  dsimp only at e1 e2
  subst e1 e2
  rw[keyLt'_oneType]
  exact oneLt_int q
def PairAt(h:Heap)(v:Value)(x y:Int):Prop:=∃a o t u n,v= .ref a/\h.get? a=some o/\o.cls= .type "tuple"/\o.data= .seq #[.int x t,.int y u] n
theorem Ag{h:Heap}:∀{vs:List Value},(∀v∈vs,∃x y,PairAt h v x y)->∃fs,PySem.W.KatTups h vs fs/\fs.length=vs.length/\∀f∈fs,∃i t,f= .int i t
 |[],_=>⟨[],trivial,rfl,fun _ q=>by cases q⟩
 |v::vs,hv=>by
  obtain⟨fs,h1,h2,h3⟩:=Ag (vs:=vs) fun v m=>hv v (.tail _ m)
  obtain⟨x,y,a,o,t,u,n,rfl,e1,e2,e3⟩:=hv v (.head _)
  refine⟨.int x t::fs,.cons e1 e2 e3 rfl h1,by rw[List.length_cons,List.length_cons,h2],fun f m=>?_⟩
  rcases aS.mp m with rfl|m
  ·exact⟨x,t,rfl⟩
  ·exact h3 f m
theorem yy{B x y x' y':Int}(h1:0<=y)(h2:y<B)(h3:0<=y')(h4:y'<B):x*B+y<x'*B+y'↔x<x'\/(x=x'/\y<y'):=by
 constructor
 ·intro h
  rcases Int.lt_trichotomy x x' with c|c|c
  ·exact .inl c
  ·subst c;exact .inr ⟨rfl,by lia⟩
  ·exfalso
   have q:(x'+1)*B<=x*B:=gZ (by lia) (by lia)
   rw[hV,gc]at q
   lia
 ·rintro(c|⟨rfl,c⟩)
  ·have q:(x+1)*B<=x'*B:=gZ (by lia) (by lia)
   rw[hV,gc]at q
   lia
  ·lia
theorem Gf{vs:List Value}{R:Keyed->Int}{B:Int}(hv:∀v∈vs,∃x y,PairAt s.heap v x y/\R (v,v)=x*B+y/\0<=y/\y<B)(h2:2<=vs.length):sV prog w s vs R (tuples' true):=by
 intro A h' keep
 refine⟨fun Q E q=>?_,fun x y hx hy Q E q=>?_⟩
 ·obtain⟨fs,k1,k2,k3⟩:=Ag (h:=h') (vs:=vs) fun v m=>by
   obtain⟨x,y,⟨a,o,t,u,n,e0,e1,e2⟩,_⟩:=hv v m
   exact⟨x,y,a,o,t,u,n,e0,keep _ _ e1,e2⟩
  refine PySem.W.kat_kind (T:=.type "int") k1 (by lia) (fun f m=>?_) rfl q
  obtain⟨i,t,rfl⟩:=k3 f m
  exact PySem.W.Looks.of_pure rfl
 ·rw[pairsOf_toList,zX]at hx hy
  obtain⟨v,mv,rfl⟩:=aL.mp hx
  obtain⟨u,mu,rfl⟩:=aL.mp hy
  obtain⟨x1,y1,⟨a,o,t1,t2,n,rfl,e1,e2,e3⟩,r1,r2,r3⟩:=hv v mv
  obtain⟨x2,y2,⟨b,p,t3,t4,m,rfl,e4,e5,e6⟩,r4,r5,r6⟩:=hv u mu
  rw[r1,r4]at q
  have lx:=yy (x:=x1) (x':=x2) r2 r3 r5 r6
  refine PySem.W.kat_lt (b:=true) (s:={s with heap:=h'}) (keep _ _ e1) e3 (keep _ _ e4) e6 ?_
  refine PySem.W.kat_cons (gT ?_)
  by_cases c:x1=x2
  ·rw[show(x1==x2)=true by rw[c];exact fu _]
   refine PySem.W.kat_yes (PySem.W.kat_cons (gT ?_))
   by_cases c2:y1=y2
   ·rw[show(y1==y2)=true by rw[c2];exact fu _]
    refine PySem.W.kat_yes (PySem.W.kat_nil ?_)
    rw[show decide (x1*B+y1<x2*B+y2)=false by rw[de,lx];lia]at q
    exact q
   ·rw[show(y1==y2)=false by rw[bO];exact c2]
    refine PySem.W.kat_no (PySem.W.kat_one _ _ (lt_int ?_))
    rw[show decide (x1*B+y1<x2*B+y2)=decide (y1<y2) by rw[gU,lx];lia]at q
    exact q
  ·rw[show(x1==x2)=false by rw[bO];exact c]
   refine PySem.W.kat_no (oneLt_int ?_)
   rw[show decide (x1*B+y1<x2*B+y2)=decide (x1<x2) by rw[gU,lx];lia]at q
   exact q
end
end So
namespace L2
open PySem PySem.Spec PyProof.Rows
def lJ(a b:Int×Int):Prop:=a.1<b.1\/(a.1=b.1/\a.2<=b.2)
noncomputable def kg(H:Hp):Value->Int×Int
 | .ref a=>match H a with
  |some (.tup [.int x,.int y])=>(x,y)
  |_=>(0,0)
 |_=>(0,0)
noncomputable def nH:Value->V
 | .ref a=>.ref a
 |_=>.non
def Cr:List V->Hp->VK->Prop:=fun vs H Q=>∃(p:Addr) (xs:List V) (ps:List (Int×Int)) (B:Int),vs=[.ref p]/\H p=some (.lst xs)/\Prs H xs ps/\xs.length<=1000/\(∀q∈ps,0<=q.2/\q.2<B)/\
 ∀(l:Addr) (ys:List V) (qs:List (Int×Int)),H l=none->Prs H ys qs->qs.Perm ps->qs.Pairwise lJ->Q (.ref l) (upd H l (.lst ys))
theorem ze{H:Hp}:∀{xs:List V} {its:List Value} {ps:List (Int×Int)},Vals xs its->Prs H xs ps->its.map (kg H)=ps/\∀v∈its,RelV (nH v) v/\Pr H (nH v) (kg H v)
 |_,_,_,.nil,.nil=>⟨rfl,fun _ m=>by cases m⟩
 | _,_,_,.cons r t,.cons q u=>by
  obtain⟨e1,e2⟩:=ze t u
  obtain⟨a,rfl,ea⟩:=q
  cases r
  rename_i b _
  have e:kg H (.ref a)=b:=by unfold kg;dsimp only;rw[ea]
  refine⟨?_,fun v m=>?_⟩
  ·rw[ag,e1,e]
  ·rcases aS.mp m with rfl|m
   ·rw[e];exact⟨rfl,a,rfl,ea⟩
   ·exact e2 v m
theorem yi{H:Hp}:∀{us:List Value},(∀v∈us,RelV (nH v) v/\Pr H (nH v) (kg H v))->Vals (us.map nH) us/\Prs H (us.map nH) (us.map (kg H))
 |[],_=>⟨.nil,.nil⟩
 |v::us,h=>by
  obtain⟨a,b⟩:=yi (us:=us) fun v m=>h v (.tail _ m)
  obtain⟨c,d⟩:=h v (.head _)
  exact⟨.cons c a,.cons d b⟩
theorem vz{X:Cx}:jc2 X (.builtin "sorted") Cr:=by
 intro pins s σ H xs us Q I r h
 obtain⟨p,xs,ps,B,rfl,e,pp,hz,hB,q⟩:=h
 obtain⟨u,rfl,rx⟩:=mP r
 cases rx
 obtain⟨its,r',pl,_⟩:=I.list (SqL.of e)
 have hlen:=r'.length
 obtain⟨m1,m2⟩:=ze r' pp
 have hz2:(1000:Nat)<=sizeLine:=by decide
 have hpv:∀ v ∈ its,kg H v ∈ ps:=fun v m=>by rw [<- m1]; exact bP m
 refine So.F8 (R:=fun k=>(kg H k.1).1*B+(kg H k.1).2) pl.isList (by lia) (fun h2=>So.Gf (B:=B) (fun v m=>?_) h2) fun out o1 o2=>?_
 ·obtain⟨a,ea,eh⟩:=(m2 v m).2
  have ev:v= .ref a:=by
   have z:=(m2 v m).1
   rw[ea]at z
   exact z
  obtain⟨_,is2,rv,ob,eo,ec,n,en⟩:=I.hok _ _ eh
  match is2,rv with
  |_,.cons ⟨t1,e1⟩ (.cons ⟨t2,e2⟩ .nil)=>
   subst e1 e2
   exact⟨(kg H v).1,(kg H v).2,⟨a,ob,t1,t2,n,ev,eo,ec,en⟩,rfl,hB _ (hpv v m)⟩
 ·obtain⟨c,hc⟩:=sortedAll_at s.heap its out
  obtain⟨b1,b2⟩:=yi (H:=H) (us:=out.toList) fun v m=>m2 v (o1.mem_iff.mp m)
  have hol:=o1.length_eq
  refine⟨.ref (s.heap.objs.size+1),_,I.laid (t':=s.toks) (fun _ _=>sortedAll_old) (fg _) (show jbp X.prog X.w _ _ _ (.lst (out.toList.map nH))from⟨?_,out.toList,c,b1,?_⟩),rfl,q _ _ (out.toList.map (kg H)) (I.hok.fresh (fg _)) b2 ?_ ?_⟩
  ·rw[ae];lia
  ·rw[hc]
  ·have z:=o1.map (kg H)
   rwa[m1]at z
  ·rw[bK]
   refine fq ?_ o2
   intro u v mu mv huv
   have g1:=hB _ (hpv u (o1.mem_iff.mp mu))
   have g2:=hB _ (hpv v (o1.mem_iff.mp mv))
   have z:=So.yy (x:=(kg H v).1) (x':=(kg H u).1) g2.1 g2.2 g1.1 g1.2
   have z2:¬((kg H v).1<(kg H u).1\/((kg H v).1=(kg H u).1/\(kg H v).2<(kg H u).2)):=fun w=>by
    have:=z.mpr w
    dsimp only at huv
    lia
   unfold lJ
   lia
def Cq:List V->Hp->VK->Prop:=fun vs H Q=>∃(p:Addr) (ns:List Int),vs=[.ref p]/\H p=some (.lst (ns.map V.int))/\Q (.int ns.sum) H
theorem pJ{X:Cx}(hc:X.calm=true):jc2 X (.builtin "sum") Cq:=by
 intro pins s σ H xs us Q I r h
 obtain⟨p,ns,rfl,e,q⟩:=h
 obtain⟨u,rfl,rx⟩:=mP r
 cases rx
 obtain⟨its,r',pl,_⟩:=I.list (SqL.of e)
 have hI:=n6 r'
 obtain⟨zs,hz⟩:=hI.allInts.items
 have hn:=hI.numsOf
 have hl:=pl.isList
 rw[hz]at hl
 refine sum_intListG (I.ok.hd hc) hl fun h' tk t' hk=>?_
 have e2:preSum (numAt zs) zs.size=ns.sum:=by
  rw [preSum_eq,bL (by simp),<- hn,<- nums_intItems,<- hz]
 rw[e2]
 exact⟨.int ns.sum,H,I.kept hk,⟨t',rfl⟩,q⟩
noncomputable def sH(f:Bool->Bool):R2:=fun x y H Q=>match x,y with
 | .bl a,.bl b=>Q (.bl (f (a==b))) H
 |_,_=>False
theorem Ij{f:Bool->Bool}{x y:V}{H:Hp}{Q:VK}(h:sH f x y H Q):∃a b,x= .bl a/\y= .bl b/\Q (.bl (f (a==b))) H:=by
 unfold sH at h
 split at h
 ·exact⟨_,_,rfl,rfl,h⟩
 ·exact h.elim
theorem xS{X:Cx}:OpR X (compareOp .IsNot) (sH not):=by
 intro pins s σ H x y v u Q I rx ry h
 obtain⟨a,b,rfl,rfl,q⟩:=Ij h
 cases rx
 cases ry
 exact isnot_bool (jy I q rfl)
theorem kv_at{kvs:List (iF×V)}{vs:List (iF×Value)}(r:KV kvs vs){i:Nat}{k:iF}{x:Value}(e:vs[i]? =some (k,x)):∃kv,kvs[i]? =some kv/\kv.1=k:=by
 obtain⟨kv,e1,e2⟩:=lX r e
 exact⟨kv,e1,e2.1⟩
section
variable{X:Cx}
noncomputable def pE:V->List V->Hp->VK->Prop:=fun x vs H Q=>match x,vs with
 | .ref l,[.int k,y]=>match H l with
  |some (.lst xs)=>(0<=k/\k<=xs.length/\xs.length<1000)/\Q .non (upd H l (.lst (xs.take k.toNat++y::xs.drop k.toNat)))
  |_=>False
 |_,_=>False
theorem EF(its:List Value)(k:Int)(u:Value)(h0:0<=k)(h1:k<=its.length):
  (fun xs:Array Value=>have j:=if k<0 then(k+(xs.size:Int)).toNat else min k.toNat xs.size;(xs.extract 0 j).push u++xs.extract j) its.toArray=(its.take k.toNat++u::its.drop k.toNat).toArray:=by
 have e:(if k<0 then(k+(its.toArray.size:Int)).toNat else min k.toNat its.toArray.size)=k.toNat:=by
  rw[ak (by lia),ah]
  lia
 show((its.toArray.extract 0 (if k<0 then(k+(its.toArray.size:Int)).toNat else min k.toNat its.toArray.size)).push u++its.toArray.extract (if k<0 then(k+(its.toArray.size:Int)).toNat else min k.toNat its.toArray.size))=_
 rw[e]
 apply Array.ext'
 simp
 exact bL (by rw[br];lia)
theorem CL:MtR X "list.insert" pE:=by
 intro pins s σ H x vs v us Q I rx rv h
 unfold pE at h
 split at h
 ·rename_i l k y
  split at h
  ·rename_i xs hH
   obtain⟨⟨h0,h1,hz⟩,q⟩:=h
   cases rx
   obtain⟨u1,u2,rfl,r1,r2⟩:=rv.two
   obtain⟨t,rfl⟩:=r1
   obtain⟨z,its,n,r,hl,e⟩:=I.lstM hH
   have hsz:its.toArray.size<=sizeLine:=by rw[ah,fc];lia
   refine call_meets F.slot_list_insert ⟨_,e,rfl⟩ F.entry_list_insert (F.args_list_insert_3 _ _ _) (PySem.AutoSeq1.list_insert_list_int_val_1 l its.toArray n k t u2 (by unfold Builtin.List.listFitsIndex;simp;lia) hsz) ⟨e,?_⟩
   refine⟨.non,_,I.lset (its':=its.take k.toNat++u2::its.drop k.toNat) hH e (EF its k u2 h0 (by lia)) (Vals.append (r.take _) (.cons r2 (r.drop _))) ?_,rfl,q⟩
   rw[aB,List.length_cons,aK,br,fc]
   lia
  ·exact h.elim
 ·exact h.elim
end
noncomputable def mJ(C:Addr)(o:Option HO)(f:Str):Option V:=match o with
 |some (.ins C' _ fs)=>if C'=C then fs.lookup f else none
 |_=>none
noncomputable def lQ(C:Addr)(o:Option HO)(m:Str):Bool:=match o with
 |some (.ins C' _ fs)=>decide (C'=C)&&(fs.lookup m).isNone
 |_=>false
def Bl(C:Addr)(f:Str)(ta:TE):TE:=fun σ H Q=>ta σ H fun x H1=>match x with
 | .ref a=>match mJ C (H1 a) f with
  |some v=>Q v H1
  |none=>False
 |_=>False
def xb(C:Addr)(f:Str)(ta tv:TE):TS:=fun D σ H=>tv σ H fun y H1=>ta σ H1 fun x H2=>match x with
 | .ref a=>match H2 a with
  |some (.ins C' dx fs)=>C'=C/\fs.length<1000/\D.nx σ (upd H2 a (.ins C dx (jg f y fs)))
  |_=>False
 |_=>False
def qR(C:Addr)(m:Str)(sp:Sp)(dvs:List V)(E:XK)(ta:TE)(t:TA):TE:=fun σ H Q=>ta σ H fun x H1=>match x with
 | .ref a=>lQ C (H1 a) m=true/\t σ H1 fun vs H2=>sp (.ref a::(vs++dvs)) H2 Q E
 |_=>False
section
variable{X:Cx}{C:Addr}
theorem EA{o:Option HO}{f:Str}{v:V}(h:mJ C o f=some v):∃dx fs,o=some (.ins C dx fs)/\fs.lookup f=some v:=by
 unfold mJ at h
 split at h
 ·split at h
  ·rename_i c;subst c;exact⟨_,_,rfl,h⟩
  ·cases h
 ·cases h
theorem ER{o:Option HO}{m:Str}(h:lQ C o m=true):∃dx fs,o=some (.ins C dx fs)/\fs.lookup m=none:=by
 unfold lQ at h
 split at h
 ·rw[cu]at h
  have c:=bZ h.1
  subst c
  exact⟨_,_,rfl,Option.isNone_iff_eq_none.mp h.2⟩
 ·cases h
theorem lT{e:Expr}{f:Str}{pos:Pos}{ta:TE}(c:Cls X.K C)(n:jee X.K C f)(he:PE X e ta)(hb:attributeBase e f X.env (eval e X.env)=eval e X.env):PE X (.Attribute e f pos) (Bl C f ta):=by
 intro pins s σ H Q I h
 refine Dy hb (iJ (he pins s σ H _ I h) fun u s1 ⟨x,H1,I1,rx,q⟩=>?_)
 dsimp only at q
 split at q
 ·rename_i a
  split at q
  ·rename_i v hv
   obtain⟨dx,fs,ea,l⟩:=EA hv
   obtain rfl:u=Value.ref a:=rx
   exact Gq I1 ea c n l fun u' s2 I2 ru=>⟨v,H1,I2,ru,q⟩
  ·exact q.elim
 ·exact q.elim
theorem uJ{o value:Expr}{f:Str}{pos pos':Pos}{ta tv:TE}(c:Cls X.K C)(n:jee X.K C f)(ha:PE X o ta)(hv:PE X value tv)(hs:swapsWith value (some (.Attribute o f pos')) pos.line X.env=pure false):PS X (.Assign [.Attribute o f pos'] value pos) (xb C f ta tv):=by
 intro pins s σ H D I h
 refine plainObj_wpAny_Assign_Attribute (iJ (hv pins s σ H _ I h) fun u s1 ⟨y,H1,I1,ry,q⟩=>iJ (ha pins s1 σ H1 _ I1 q) fun ov s2 ⟨x,H2,I2,rx,q2⟩=>?_) hs
 dsimp only at q2
 split at q2
 ·rename_i a
  split at q2
  ·rename_i C' dx fs ea
   obtain⟨rfl,l,q2⟩:=q2
   obtain rfl:ov=Value.ref a:=rx
   exact GF I2 ea c n l ry fun s3 I3=>⟨σ,_,I3,q2⟩
  ·exact q2.elim
 ·exact q2.elim
theorem zw{m:Str}{sp:Sp}{dvs:List V}{E:XK}{ta:TE}{t:TA}{ex:Expr}(h:PE X ex (tU C m sp dvs E ta t))(hmono:∀pins s σ H Q Q',Inv X pins σ H s->(∀x H1,Q x H1->Q' x H1)->ta σ H Q->ta σ H Q'):PE X ex (qR C m sp dvs E ta t):=by
 intro pins s σ H Q I q
 refine h pins s σ H Q I (hmono pins s σ H _ _ I (fun x H1 q=>?_) q)
 split at q
 ·rename_i a
  obtain⟨dx,fs,e,l⟩:=ER q.1
  exact⟨a,dx,fs,rfl,e,l,q.2⟩
 ·exact q.elim
theorem uW{i:Nat}:∀(pins:List (Addr×Obj)) s σ H Q Q',Inv X pins σ H s->(∀x H1,Q x H1->Q' x H1)->kf i σ H Q->kf i σ H Q':=by
 intro pins s σ H Q Q' _ h q
 unfold kf at q ⊢
 split
 ·rename_i v e
  rw[e]at q
  exact h _ _ q
 ·rename_i hne
  split at q
  ·rename_i v e;exact absurd e (hne v)
  ·exact q
theorem mS{CX:k9}{k:Nat}{f:Addr}{fd:FuncData}{ps:List Str}{sp:Sp}{dvs:List V}{ds:List Value}{E:XK}{m:Str}{pos apos:Pos}{e o:Expr}{es:List Expr}{i:Nat}{t:TA}{pl:Sem Bool}
  (he:PE X o (kf i)) (c:Cls X.K C) (hm:Meth X.K C m f) (F:FnOk X.prog X.w X.K X.mg X.base CX k f fd ps sp) (hr:Room k X.A) (hb:jf8 X.K fd ps ds) (hd:Vals dvs ds) (hx:mQ CX X E) (ha:PA X (e::es) t)
  (hst:starEach (e::es) X.env=(false,eval e X.env)::starEach es X.env:=by rfl) (hpl:(backTo pos (starEach es X.env)).any (·.1)=false:=by rfl)
  (ht:eval (.Call (.Attribute o m apos) (e :: es) [] pos) X.env = (do
   let ov <- eval o X.env
   standAt apos.atName
   let (f,first) <- holding [ov] (getMethod ov m pl)
   callWith pos f first (backTo pos (starEach (e::es) X.env)) (backToKw pos (keywordEach [] X.env))):=by rfl):
  PE X (.Call (.Attribute o m apos) (e::es) [] pos) (qR C m sp dvs E (kf i) t):=
 zw (D3 (pl:=pl) he c hm F hr hb hd hx ha hst hpl ht) uW
theorem F0{CX:k9}{k:Nat}{f:Addr}{fd:FuncData}{ps:List Str}{sp:Sp}{dvs:List V}{ds:List Value}{E:XK}{m:Str}{pos apos:Pos}{o:Expr}{i:Nat}{pl:Sem Bool}
  (he:PE X o (kf i)) (c:Cls X.K C) (hm:Meth X.K C m f) (F:FnOk X.prog X.w X.K X.mg X.base CX k f fd ps sp) (hr:Room k X.A) (hb:jf8 X.K fd ps ds) (hd:Vals dvs ds) (hx:mQ CX X E)
  (ht:eval (.Call (.Attribute o m apos) [] [] pos) X.env = (do
   let ov <- eval o X.env
   standAt apos.atName
   let (f,first) <- holding [ov] (getMethod ov m pl)
   callWith pos f first (backTo pos (starEach [] X.env)) (backToKw pos (keywordEach [] X.env))):=by rfl):
  PE X (.Call (.Attribute o m apos) [] [] pos) (qR C m sp dvs E (kf i) pj):=
 zw (E5 (pl:=pl) he c hm F hr hb hd hx ht) uW
end
section
variable{X:Cx}
def t7(td ty:TE):TE:=fun σ H Q=>td σ H fun x H1=>match x with
 | .ref a=>(∃kvs,H1 a=some (.dK kvs))/\ty σ H1 fun y H2=>match y with
  | .int n=>match H2 a with
   |some (.dK kvs)=>Q ((i8 kvs (Sum.inl n:iF)).getD .non) H2
   |_=>False
  |_=>False
 |_=>False
theorem D9{o e:Expr}{apos cpos:Pos}{td ty:TE}(hu:X.A.units+1<cLine)(ho:PE X o td)(he:PE X e ty)(m:M1 X o "get" apos e cpos:=by exact⟨rfl,rfl,rfl,rfl⟩):PE X (.Call (.Attribute o "get" apos) [e] [] cpos) (t7 td ty):=by
 intro pins s σ H Q I h
 refine wpAny_Call_method m.base m.few m.line PySem.F.plainAttrs_dict cN PySem.F.type_dict_get (iJ (ho pins s σ H _ I h) fun u s1 ⟨x,H1,I1,rx,q1⟩=>?_)
 dsimp only at q1
 split at q1
 ·rename_i a
  obtain⟨⟨kvs0,e0⟩,q1⟩:=q1
  obtain rfl:u=Value.ref a:=rx
  obtain⟨t1,t2,_⟩:=xE I1 (.inl ⟨kvs0,.inl e0⟩)
  refine⟨t1,t2,?_⟩
  rw[m.trees]
  refine fJ rfl (gf (eU (iJ (he pins s1 σ H1 _ I1 q1) fun iv s2 ⟨y,H2,I2,ry,q2⟩=>gP ?_)))
  dsimp only at q2
  split at q2
  ·rename_i n
   split at q2
   ·rename_i kvs ea
    exact IB hu I2 (DGet.k (k:=Sum.inl n) ea) ry fun w' s3 I3 rw'=>⟨_,H2,I3,rw',q2⟩
   ·exact q2.elim
  ·exact q2.elim
 ·exact q1.elim
noncomputable def uc(i:Nat):TE:=fun σ H Q=>match σ[i]? with
 |some (some (.int n))=>∀p,H p=none->Q (.ref p) (upd H p (.dK [(Sum.inl n,.non)]))
 |_=>False
theorem Ei{H:Hp}{p:Addr}{a b:HO}:upd (upd H p a) p b=upd H p b:=by
 funext x
 by_cases c:x=p
 ·rw[c,iD,iD]
 ·rw[iL c,iL c,iL c]
theorem E3{pos:Pos}{k v:Expr}{i:Nat}(hk:PE X k (kf i))(hv:PE X v (tC .non)):PE X (.Dict [some k] [v] pos) (uc i):=by
 intro pins s σ H Q I q
 refine D1 (Fb hk hv D5) rfl rfl (fun z=>nomatch z) (cP rfl) pins s σ H Q I ?_
 intro p hp
 unfold uc at q
 split at q
 ·rename_i n e
  show kf i σ (upd H p (.dK [])) _
  unfold kf
  rw[e]
  show tC V.non σ _ _
  refine⟨iD,[(Sum.inl n,.non)],rfl,cP rfl,?_⟩
  rw[Ei]
  exact q p hp
 ·exact q.elim
def tK:V->V->Hp->VK->Prop:=fun o i H Q=>match o,i with
 | .ref p,.int k=>match H p with
  |some (.lst xs)=>0<=k/\match jl xs k with
   |some v=>Q v H
   |none=>False
  |_=>False
 |_,_=>False
theorem Ah:Bw X tK:=by
 intro pins s σ H o i ov iv Q I ro ri h
 unfold tK at h
 split at h
 ·rename_i p k
  split at h
  ·rename_i xs hp
   obtain⟨k0,h⟩:=h
   split at h
   ·rename_i v hv
    cases ro
    obtain⟨t,rfl⟩:=ri
    obtain⟨its,r,pl,hz⟩:=I.list (SqL.of hp)
    obtain⟨j,h1,h2,h3,h4,h5⟩:=uw hv
    obtain⟨w,ew,rw'⟩:=r.get h2
    have hn:=oE
    have hj:k.toNat=j:=by
     rw[hJ k0 h5]at h1
     exact az h1
    exact wpAny_getItem_list pl.isList k0 (by lia) (by rw[hj];simpa using ew) ⟨v,H,I,rw',h⟩
   ·exact h.elim
  ·exact h.elim
 ·exact h.elim
def tH:mD:=fun x y H Q=>match x,y with
 | .int i,.int j=>Q (.int (i-j)) H
 |_,_=>False
def tG:mD:=fun x y H Q=>match x,y with
 | .int i,.int j=>Q (.int (i+j)) H
 |_,_=>False
theorem DO:oi X .Sub tH:=by
 intro pins s σ H x y v u Q I r1 r2 h
 unfold tH at h
 split at h
 ·rename_i i j
  obtain⟨t,rfl⟩:=(show ∃t,v=Value.int i t from r1)
  obtain⟨t',rfl⟩:=(show ∃t,u=Value.int j t from r2)
  exact PyProof.Rows.isub_int ⟨.int (i-j),H,I.tok _,⟨_,rfl⟩,h⟩
 ·exact h.elim
theorem DM:oi X .Add tG:=by
 intro pins s σ H x y v u Q I r1 r2 h
 unfold tG at h
 split at h
 ·rename_i i j
  obtain⟨t,rfl⟩:=(show ∃t,v=Value.int i t from r1)
  obtain⟨t',rfl⟩:=(show ∃t,u=Value.int j t from r2)
  exact PyProof.Rows.iadd_int ⟨.int (i+j),H,I.tok _,⟨_,rfl⟩,h⟩
 ·exact h.elim
def vP:R2:=fun x y H Q=>match x,y with
 | .int i,.int j=>Q (.int (Builtin.bitXor i j)) H
 |_,_=>False
theorem xi:OpR X (binaryOp .BitXor) vP:=by
 intro pins s σ H x y v u Q I r1 r2 h
 unfold vP at h
 split at h
 ·rename_i i j
  obtain⟨t,rfl⟩:=(show ∃t,v=Value.int i t from r1)
  obtain⟨t',rfl⟩:=(show ∃t,u=Value.int j t from r2)
  exact PyProof.Rows.xor_int ⟨.int (Builtin.bitXor i j),H,I.tok _,⟨_,rfl⟩,h⟩
 ·exact h.elim
theorem El(w:Nat):Builtin.bitXor (w:Int) 1=((if w%2=0 then w+1 else w-1:Nat):Int):=by
 have h1:(w|||1:Nat)=2*(w/2)+1:=by
  have a:=Nat.or_div_two (a:=w) (b:=1)
  have b:(w|||1)%2=1:=by rw[Nat.or_mod_two_eq_one];right;rfl
  rw[show 1/2=0 from rfl,Nat.or_zero]at a
  lia
 have h2:(w&&& 1:Nat)=w%2:=Nat.and_one_is_mod w
 have n1:¬(0:Int)<= -(w:Int)-1:=by lia
 have e:Builtin.bitXor (w:Int) 1=((w|||1:Nat):Int)-((w&&& 1:Nat):Int):=by
  unfold Builtin.bitXor Builtin.bitOr Builtin.bitAnd Builtin.bitNot
  simp only[aJ n1,show decide ((0:Int)<= -(1:Int)-1)=false from rfl,show decide ((0:Int)<=(w:Int))=true from aG (by lia),show decide ((0:Int)<=1)=true from rfl]
  simp only[show(-(-(w:Int)-1)-1).toNat=w by lia,show(-(-(1:Int)-1)-1).toNat=1 from rfl,show((w:Int)).toNat=w from rfl,show((1:Int)).toNat=1 from rfl]
  lia
 rw[e,h1,h2]
 split<;>lia
noncomputable def jd{α:Type}:Bool->List α->List α
 |_,[]=>[]
 |true,x::xs=>x::jd false xs
 |false,_::xs=>jd true xs
def Bp(b:Bool)(te:TE):TE:=fun σ H Q=>te σ H fun x H1=>match x with
 | .ref a=>match H1 a with
  |some (.lst xs)=>∀p,H1 p=none->Q (.ref p) (upd H1 p (.lst (jd b xs)))
  |_=>False
 |_=>False
theorem vf:∀(b:Bool) {vs:List V} {us:List Value},Vals vs us->Vals (jd b vs) (jd b us)
 |_,_,_,.nil=>by cases ‹Bool›<;>exact .nil
 |true,_,_,.cons r t=>.cons r (vf false t)
 |false,_,_,.cons _ t=>vf true t
theorem uv{α:Type}:∀(b:Bool) (xs:List α),(jd b xs).length<=xs.length
 |true,[]=>ai _
 |false,[]=>ai _
 |true,x::xs=>by have:=uv false xs;show(jd false xs).length+1<=xs.length+1;lia
 |false,x::xs=>by have:=uv true xs;show(jd true xs).length<=xs.length+1;lia
theorem nR{α:Type}:∀(b:Bool) (xs:List α) (i:Nat),(jd b xs)[i]? =xs[2*i+(if b then 0 else 1)]?
 |true,[],i=>by simp[jd]
 |false,[],i=>by simp[jd]
 |true,x::xs,0=>rfl
 |true,x::xs,i+1=>by
  show(jd false xs)[i]? =_
  rw[nR false xs i,aq rfl,ak (by decide),show 2*(i+1)+0=(2*i+1)+1 by lia,List.getElem?_cons_succ]
 |false,x::xs,i=>by
  show(jd true xs)[i]? =_
  rw[nR true xs i,aq rfl,ak (by decide),List.getElem?_cons_succ]
  rfl
theorem E7(its:List Value)(b:Bool)(hb:b=false->0<its.length):slicePick its.toArray (some (if b then 0 else 1)) none (some 2)=(jd b its).toArray:=by
 unfold slicePick
 congr 1
 have h1:sliceBounds (some (if b then 0 else 1)) none (some 2) its.toArray.size=(((if b then 0 else 1:Nat):Int),(its.length:Int),2):=by
  cases b
  ·have:=hb rfl
   simp[sliceBounds]
   lia
  ·simp[sliceBounds]
   lia
 rw[h1]
 dsimp only
 have h2:∀c:Nat,sliceRange ((c:Nat):Int) (its.length:Int) 2=(List.range ((its.length+1-c)/2)).map fun k=>c+2*k:=fun c=>by
  unfold sliceRange
  dsimp only
  rw[aq (by decide)]
  have e:(if(c:Int)<(its.length:Int)then((its.length:Int)-c+2-1)/2 else 0).toNat=(its.length+1-c)/2:=by
   split<;>lia
  rw[e]
  exact gh fun k _=>by lia
 rw[h2,gB]
 have h3:∀(l:List Nat),(∀k∈l,(if b then 0 else 1)+2*k<its.length)->l.filterMap ((fun x=>its.toArray[x]?)∘fun k=>(if b then 0 else 1)+2*k)=l.map fun k=>its.getD ((if b then 0 else 1)+2*k) .none:=fun l=>by
  induction l with
  |nil=>intro _;rfl
  | cons k r ih=>
   intro hk
   have hk0:=hk k (.head _)
   rw[List.filterMap_cons]
   have e:((fun x=>its.toArray[x]?)∘fun k=>(if b then 0 else 1)+2*k) k=some (its.getD ((if b then 0 else 1)+2*k) .none):=by
    show its.toArray[(if b then 0 else 1)+2*k]? =_
    rw[List.getElem?_toArray,aC,gE hk0]
    rfl
   rw[e]
   dsimp only
   rw[ag,ih fun j hj=>hk j (.tail _ hj)]
 rw[h3 _ fun k hk=>by have:=aU.mp hk;cases b<;>simp only[if_true,if_false,aW]at this ⊢ <;>lia]
 apply cV
 intro i
 rw[nR,aE]
 by_cases c:2*i+(if b then 0 else 1)<its.length
 ·rw[cH (by cases b<;>simp only[if_true,if_false,aW]at c ⊢ <;>lia)]
  show some (its.getD _ .none)=_
  rw[aC,Nat.add_comm,gE c]
  rfl
 ·rw[ba (by rw[bg];cases b<;>simp only[if_true,if_false,aW]at c ⊢ <;>lia),ba (by lia)]
  rfl
theorem ug{b:Bool}{c:Int}(hc:c=if b then 0 else 1){e:Expr}{te:TE}{k k2:Nat}{z1 z2 p2 pos:Pos}(he:PE X e te):PE X (.Subscript e (.Slice (some (.Constant (.int c) k2 z2)) none (some (.Constant (.int 2) k z1)) p2) pos) (Bp b te):=by
 intro pins s σ H Q I h
 refine gr (iJ (he pins s σ H _ I h) fun v s1 ⟨x,H1,I1,r1,q1⟩=>?_)
 refine wpAny_Slice ?_
 simp only[evalPart_none]
 rw[evalPart_some]
 refine iJ ((iE (i:=c) (j:=k2) (pos:=z2):PE X _ _) pins s1 σ H1 (fun y H2=>y= .int c/\H2=H1) I1 ⟨rfl,rfl⟩) fun st s2 ⟨y,H2,I2,r2,ey,eh⟩=>?_
 subst ey eh
 obtain⟨t1,rfl⟩:=r2
 refine ao ?_
 rw[evalPart_some]
 refine iJ ((iE (i:=2) (j:=k) (pos:=z1):PE X _ _) pins s2 σ H2 (fun y H3=>y= .int 2/\H3=H2) I2 ⟨rfl,rfl⟩) fun st s3 ⟨y,H3,I3,r3,ey,eh⟩=>?_
 subst ey eh
 obtain⟨t2,rfl⟩:=r3
 split at q1
 ·rename_i a
  split at q1
  ·rename_i xs ea
   cases r1
   have I4:Inv X pins σ H3 {s3 with heap:=s3.heap.push {cls:=.type "slice",data:=.fields #[.int c t1,.none,.int 2 t2]}}:=I3.kept (t':=s3.toks) fun b ob q=>af _ q
   obtain⟨its,r,ht,hz⟩:=I4.list (SqL.of ea)
   have hlen:=r.length
   show wpAny (model X.prog X.w) X.A (subscriptTail e (.Slice (some (.Constant (.int c) k2 z2)) none (some (.Constant (.int 2) k z1)) p2) (.ref a) (.ref s3.heap.objs.size)) (EP X pins σ Q) X.xe {s3 with heap:=s3.heap.push {cls:=.type "slice",data:=.fields #[.int c t1,.none,.int 2 t2]}}
   refine tail_any (ops:=[.ref a,.ref s3.heap.objs.size]) ht.isList.typeIs eZ.lookup ?_ (by with_unfolding_all rfl)
   refine fm ht.isList (gD ..) (.int _ t1) .none (.int 2 t2) (by decide) ?_ (by rw[ah]<;>lia)
   by_cases hb:b=false->0<its.length
   ·rw[show slicePick its.toArray (some c) none (some 2)=(jd b its).toArray from by rw[hc];exact E7 _ _ hb]
    refine⟨.ref _,_,I4.laid (t':=s3.toks) (o:=.lst (jd b xs)) (fun b ob q=>af _ q) (ai _) ?_,rfl,q1 _ (I4.hok.fresh (ai _))⟩
    exact⟨by have:=uv b xs;lia,_,0,vf b r,aI _ rfl⟩
   ·have hi:its=[]:=eX fun z=>hb fun _=>List.length_pos_iff.mpr z
    have hx:xs=[]:=List.length_eq_zero_iff.mp (by rw[hi]at hlen;exact hlen)
    subst hi hx
    have e2:jd b ([]:List V)=[]:=by cases b<;>rfl
    rw[e2]at q1
    have e3:slicePick ([]:List Value).toArray (some c) none (some 2)=([]:List Value).toArray:=by rw[hc];cases b<;>rfl
    rw[e3]
    refine⟨.ref _,_,I4.laid (t':=s3.toks) (o:=.lst []) (fun b ob q=>af _ q) (ai _) ?_,rfl,q1 _ (I4.hok.fresh (ai _))⟩
    exact⟨bj _,_,0,.nil,aI _ rfl⟩
  ·exact q1.elim
 ·exact q1.elim
def pF(ta:TE):TT:=fun σ H Q=>ta σ H fun x H1=>match x with
 | .ref a=>match H1 a with
  |some (.lst xs)=>Q (!xs.isEmpty) H1
  |_=>False
 |_=>False
theorem D7 {a:Expr} {i:Nat} (ha:PE X a (kf i)) (he:∀ whole,isTrue a X.env whole = (do let v <- whole; standAt a.pos; holding [v] (truthy v)):=by exact fun _=>rfl):PT X a (pF (kf i)):=by
 intro pins s σ H Q I h
 refine Fc ha he pins s σ H Q I ?_
 show kf i σ H _
 have h:kf i σ H _:=h
 refine uW pins s σ H _ _ I (fun x H1 q=>?_) h
 split at q
 ·rename_i a
  split at q
  ·rename_i xs e
   exact⟨_,.inl ⟨xs,SqL.of e,rfl⟩,q⟩
  ·exact q.elim
 ·exact q.elim
end
end L2
namespace My
open PySem L2
theorem Ce:(0<=sizeLine)=True:=eq_true (by decide)
theorem Cd:(1<=sizeLine)=True:=eq_true (by decide)
theorem mG:(2<=sizeLine)=True:=eq_true (by decide)
theorem Cc:(3<=sizeLine)=True:=eq_true (by decide)
theorem Ca:(4<=sizeLine)=True:=eq_true (by decide)
end My
local macro_rules | `(tactic| walk_at "SC") => `(tactic| exact ⟨rfl,rfl,rfl,by decide +kernel,rfl,by decide +kernel,by decide +kernel⟩)
local macro_rules | `(tactic| simp_arith [$args,*]) => do
 let l<-("L2.pE L2.sH L2.mY L2.wL L2.wU L2.wH L2.BX L2.qy L2.qA L2.mK L2.we L2.nI L2.sX L2.tC L2.kf L2.fI L2.fIC L2.vS L2.wb L2.vT L2.sF L2.pI L2.Bo L2.Ii L2.Bk L2.fB L2.wK L2.wX L2.wJ L2.tZ L2.vY L2.sv L2.uC L2.vU L2.vV L2.Ik L2.vR L2.wG L2.Bj L2.y6 L2.uB L2.Bn L2.tJ L2.Bg L2.qP L2.rj L2.qQ L2.Il L2.xA L2.xV L2.yc L2.wd L2.Im L2.Io L2.vQ L2.tI L2.B0 L2.wc L2.Bm L2.vZ L2.rh L2.t8 L2.vW L2.wV L2.qz L2.tT L2.pj L2.wD L2.wN L2.wQ L2.wF L2.Kd.nm L2.mO ag cD List.length_cons List.length_nil Nat.reduceAdd Nat.reduceSub List.replicate_succ List.replicate_zero List.getElem?_cons_zero List.getElem?_cons_succ List.set_cons_zero List.set_cons_succ bh List.nil_append List.cons_append eq_self true_and and_true if_true aW if_false eG Bool.not_false id_eq My.Ce My.Cd My.mG My.Cc My.Ca L2.pF L2.xb L2.vP L2.wM L2.t7 L2.qR L2.Bp L2.tH L2.wW L2.tK L2.uc L2.Bl L2.tG".splitOn " ").toArray.mapM fun s=>`(Lean.Parser.Tactic.simpLemma| $(Lean.mkIdent s.toName):ident)
 `(tactic| try simp only [$l,*,$args,*])
local macro_rules | `(tactic| walk_at "D") => `(tactic| simp_arith [L2.pE])
namespace My
open PySem L2
theorem nJ{n:Nat}(h:n<=1000):n<=sizeLine:=bD h (by decide)
theorem jr{n:Nat}(h:n<=1000):n<sizeLine:=Nat.lt_of_le_of_lt h (by decide)
noncomputable def iG(i:Nat):Stmt:=PySem.Challenge.pw_touchall_k25_halves_along_strings.main.body.getD i (.Pass ⟨0,0,0,0⟩)
structure DefAt(K:PySem.W.Frag)(mg:Str->Option Value)(x:Str)(st:Stmt)(ps:List Str)(f:Addr)(fd:FuncData):Prop where
 F:Fun K x x st f fd
 b:jf8 K fd ps []
 m:mg x=some (.ref f)
structure Blt(mg:Str->Option Value):Prop where
 len:mg "len"=none
 isinstance:mg "isinstance"=none
 all:mg "all"=none
 min:mg "min"=none
 list:mg "list"=none
 dict:mg "dict"=none
 int:mg "int"=none
 bool:mg "bool"=none
 str:mg "str"=none
 tuple:mg "tuple"=none
 range:mg "range"=none
 enumerate:mg "enumerate"=none
 zip:mg "zip"=none
 max:mg "max"=none
 any:mg "any"=none
 sum:mg "sum"=none
 sorted:mg "sorted"=none
 set:mg "set"=none
structure Cst(mg:Str->Option Value)(t1 t2 t3 t4:Tok):Prop where
 MOST_PLACES:mg "MOST_PLACES"=some (.int 40 t1)
 MOST_TIES:mg "MOST_TIES"=some (.int 120 t2)
 LAST_PLACE:mg "LAST_PLACE"=some (.int 999 t3)
 MOST_PRICE:mg "MOST_PRICE"=some (.int 1000000000000 t4)
section
variable{P:Program}{w:World}{K:PySem.W.Frag}{mg:Str->Option Value}{base:Heap}{c1 c2 c3 c4:Tok}
theorem jm{α:Type}{x:α}{r:List α}:jl (x::r) 0=some x:=by
 have e:jl (x::r) ((0:Nat):Int)=some x:=ll rfl
 exact e
theorem jK{α:Type}{x y:α}{r:List α}:jl (x::y::r) 1=some y:=by
 have e:jl (x::y::r) ((1:Nat):Int)=some y:=ll rfl
 exact e
theorem wq{α:Type}{x y z:α}{r:List α}:jl (x::y::z::r) 2=some z:=by
 have e:jl (x::y::z::r) ((2:Nat):Int)=some z:=ll rfl
 exact e
noncomputable def nq:Kd->Bool
 | .int=>true
 |_=>false
def rR:Sp:=fun vs H Q _=>∃x k,vs=[x]/\kd H x=some k/\Q (.bl (nq k)) H
def vt:Sp:=fun vs H Q _=>∃a xs m,vs=[.ref a,.int m]/\H a=some (.tup xs)/\Q (.bl (decide ((xs.length:Int)=m))) H
def vF:Sp:=fun vs H Q _=>∃a xs m,vs=[.ref a,.int m]/\H a=some (.lst xs)/\Q (.bl (decide ((xs.length:Int)<=m))) H
def uo:Sp:=fun vs H Q _=>∃x p,vs=[x]/\Pr H x p/\Q (.bl true) H
def A7:Sp:=fun vs H Q _=>∃x p l s,vs=[x,.int l,.int s]/\Pr H x p/\(l<p.1/\p.1<=999/\1<=p.2/\p.2<=1000000000000-s)/\Q (.bl true) H
noncomputable def jB(kvs:List (iF×V))(n:Int):Bool:=(i8 kvs (Sum.inl n:iF)).isSome
def AX:Sp:=fun vs H Q _=>∃x p y q d kvs,vs=[x,y,.ref d]/\Pr H x p/\Pr H y q/\H d=some (.dK kvs)/\(HT.lexLt [q.1,q.2] [p.1,p.2]=true/\p.1<p.2/\jB kvs p.1=true/\jB kvs p.2=true)/\Q (.bl true) H
theorem GS(B:Blt mg)(D:DefAt K mg "is_whole" (iG 7) ["thing"] f fd):FnOk P w K mg base iK 1 f fd ["thing"] rR:=by
 have sc:FnScope ["thing"] ["thing"] (jb (iG 7)):=by walk_at "SC"
 refine D.F.ok sc (fun vs H Q E h=>?_) (fun cdv A outer s H vs Q E hr h=>?_)
 ·obtain⟨x,k,rfl,_⟩:=h
  rfl
 obtain⟨x,k,rfl,ek,h⟩:=h
 have hu:=jh hr
 have hu0:_<PySem.cLine:=av hu
 refine⟨_,(iO (jc (lh (jf (nP .int) rfl B.isinstance bN (iw (qv 0) (iw (nV (v:=.ty "int") rfl B.int fU rfl) iC))) (mR (CI (jf (nP .bl) rfl B.isinstance bN (iw (qv 0) (iw (nV (v:=.ty "bool") rfl B.bool PyProof.Rows.boot_bool rfl) iC)))))))),?_⟩
 simp_arith[ek]
 cases k<;>simpa only[k7,nq,if_true,if_false,aW,eG,Bool.not_false]using h
theorem Ht(B:Blt mg)(D:DefAt K mg "is_tuple_of" (iG 8) ["thing","many"] f fd):FnOk P w K mg base iK 1 f fd ["thing","many"] vt:=by
 have sc:FnScope ["thing","many"] ["thing","many"] (jb (iG 8)):=by walk_at "SC"
 refine D.F.ok sc (fun vs H Q E h=>?_) (fun cdv A outer s H vs Q E hr h=>?_)
 ·obtain⟨a,xs,m,rfl,_⟩:=h
  rfl
 obtain⟨a,xs,m,rfl,ea,h⟩:=h
 have hu:=jh hr
 have hu0:_<PySem.cLine:=av hu
 refine⟨_,(iO (jc (lh (jf (nP .tup) rfl B.isinstance bN (iw (qv 0) (iw (nV (v:=.ty "tuple") rfl B.tuple PyProof.Rows.boot_tuple rfl) iC))) (mR (lp qH (jf k6 rfl B.len bw (iw (qv 0) iC)) (qv 1) (jz _)))))),?_⟩
 simp_arith[kd,ea,iS,k7]
 exact h
theorem HH(B:Blt mg)(D:DefAt K mg "is_list_up_to" (iG 10) ["thing","most"] f fd):FnOk P w K mg base iK 1 f fd ["thing","most"] vF:=by
 have sc:FnScope ["thing","most"] ["thing","most"] (jb (iG 10)):=by walk_at "SC"
 refine D.F.ok sc (fun vs H Q E h=>?_) (fun cdv A outer s H vs Q E hr h=>?_)
 ·obtain⟨a,xs,m,rfl,_⟩:=h
  rfl
 obtain⟨a,xs,m,rfl,ea,h⟩:=h
 have hu:=jh hr
 have hu0:_<PySem.cLine:=av hu
 refine⟨_,(iO (jc (lh (jf (nP .lst) rfl B.isinstance bN (iw (qv 0) (iw (nV (v:=.ty "list") rfl B.list di rfl) iC))) (mR (lp nK (jf k6 rfl B.len bw (iw (qv 0) iC)) (qv 1) (jz _)))))),?_⟩
 simp_arith[kd,ea,iS,k7]
 exact h
theorem HN(B:Blt mg)(D:DefAt K mg "is_pair_of_wholes" (iG 9) ["thing"] f fd)(Dqa:DefAt K mg "is_tuple_of" (iG 8) ["thing","many"] fqa dqa)(Gqa:FnOk P w K mg base iK 1 fqa dqa ["thing","many"] vt)(Dqc:DefAt K mg "is_whole" (iG 7) ["thing"] fqc dqc)(Gqc:FnOk P w K mg base iK 1 fqc dqc ["thing"] rR):FnOk P w K mg base iK 2 f fd ["thing"] uo:=by
 have sc:FnScope ["thing"] ["thing"] (jb (iG 9)):=by walk_at "SC"
 refine D.F.ok sc (fun vs H Q E h=>?_) (fun cdv A outer s H vs Q E hr h=>?_)
 ·obtain⟨x,p,rfl,_⟩:=h
  rfl
 obtain⟨x,p,rfl,⟨a,rfl,ea⟩,h⟩:=h
 have hu:=jh hr
 have hu0:_<PySem.cLine:=av hu
 refine⟨_,(iO (jc (lh (i9 Gqa (hr.mono (by decide)) rfl Dqa.m Dqa.F.kp Dqa.b .nil iW (iw (qv 0) (iw iE iC))) (lh (i9 Gqc (hr.mono (by decide)) rfl Dqc.m Dqc.F.kp Dqc.b .nil iW (iw (iM iN (qv 0) iE (fun _ _=>rfl)) iC)) (mR (i9 Gqc (hr.mono (by decide)) rfl Dqc.m Dqc.F.kp Dqc.b .nil iW (iw (iM iN (qv 0) iE (fun _ _=>rfl)) iC))))))),?_⟩
 simp_arith[iS,ea,jm,jK]
 refine⟨a,_,2,rfl,ea,?_⟩
 simp_arith[iS,ea,jm,jK,Int.cast_ofNat_Int,cT]
 refine⟨_,.int,rfl,rfl,?_⟩
 simp_arith[nq,iS,ea,jm,jK]
 exact⟨_,.int,rfl,rfl,h⟩
theorem HF(B:Blt mg)(C:Cst mg c1 c2 c3 c4)(D:DefAt K mg "place_stands" (iG 20) ["thing","last","spent"] f fd)(Dqd:DefAt K mg "is_pair_of_wholes" (iG 9) ["thing"] fqd dqd)(Gqd:FnOk P w K mg base iK 2 fqd dqd ["thing"] uo):FnOk P w K mg base iK 3 f fd ["thing","last","spent"] A7:=by
 have sc:FnScope ["thing","last","spent"] ["thing","last","spent"] (jb (iG 20)):=by walk_at "SC"
 refine D.F.ok sc (fun vs H Q E h=>?_) (fun cdv A outer s H vs Q E hr h=>?_)
 ·obtain⟨x,p,l,s,rfl,_⟩:=h
  rfl
 obtain⟨x,p,l,sp,rfl,hp,⟨b1,b2,b3,b4⟩,h⟩:=h
 obtain⟨a,rfl,ea⟩:=id hp
 have hu:=jh hr
 have hu0:_<PySem.cLine:=av hu
 refine⟨_,(iH (j0 (kS (kU (i9 Gqd (hr.mono (by decide)) rfl Dqd.m Dqd.F.kp Dqd.b .nil iW (iw (qv 0) iC)))) (iO (jc kQ)) j6) (iO (jc (lh (yG ow nK (qv 1) (iM iN (qv 0) iE (fun _ _=>rfl)) (lL (v:=.int 999) rfl C.LAST_PLACE ⟨_,rfl⟩)) (mR (yG nK nK iE (iM iN (qv 0) iE (fun _ _=>rfl)) (iR qY (lL (v:=.int 1000000000000) rfl C.MOST_PRICE ⟨_,rfl⟩) (qv 2)))))))),?_⟩
 walk_at "D"
 refine⟨_,p,rfl,hp,?_⟩
 simp_arith[iS,ea,jm,jK,aG b1,aG b2,aG b3,aG b4]
 exact h
theorem Hk(B:Blt mg)(D:DefAt K mg "tie_stands" (iG 21) ["thing","last","prices"] f fd)(Dqd:DefAt K mg "is_pair_of_wholes" (iG 9) ["thing"] fqd dqd)(Gqd:FnOk P w K mg base iK 2 fqd dqd ["thing"] uo):FnOk P w K mg base iK 3 f fd ["thing","last","prices"] AX:=by
 have sc:FnScope ["thing","last","prices"] ["thing","last","prices"] (jb (iG 21)):=by walk_at "SC"
 refine D.F.ok sc (fun vs H Q E h=>?_) (fun cdv A outer s H vs Q E hr h=>?_)
 ·obtain⟨x,p,y,q,d,kvs,rfl,_⟩:=h
  rfl
 obtain⟨x,p,y,q,d,kvs,rfl,hp,hq,hd,⟨b1,b2,b3,b4⟩,h⟩:=h
 obtain⟨a,rfl,ea⟩:=id hp
 obtain⟨b,rfl,eb⟩:=id hq
 unfold jB at b3 b4
 have hu:=jh hr
 have hu0:_<PySem.cLine:=av hu
 refine⟨_,(iH (j0 (kS (kU (i9 Gqd (hr.mono (by decide)) rfl Dqd.m Dqd.F.kp Dqd.b .nil iW (iw (qv 0) iC)))) (iO (jc kQ)) j6) (iO (jc (lh (lp (CJ hu0) (qv 1) (qv 0) (jz _)) (lh (lp ow (iM iN (qv 0) iE (fun _ _=>rfl)) (iM iN (qv 0) iE (fun _ _=>rfl)) (jz _)) (lh (xN (qW hu (iM iN (qv 0) iE (fun _ _=>rfl)) (qv 2))) (mR (xN (qW hu (iM iN (qv 0) iE (fun _ _=>rfl)) (qv 2)))))))))),?_⟩
 walk_at "D"
 refine⟨_,p,rfl,hp,?_⟩
 simp_arith[iS,ea,eb,hd,jm,jK,b1,aG b2,b3,b4]
 exact h
def PlOk:Int->Int->List (Int×Int)->Prop
 |_,_,[]=>True
 |l,s,p::r=>(l<p.1/\p.1<=999/\1<=p.2/\p.2<=1000000000000-s)/\PlOk p.1 (s+p.2) r
noncomputable def jj(ps:List (Int×Int)):List (iF×V):=ps.map fun p=>(Sum.inl p.1,V.int p.2)
def TiOk(kvs:List (iF×V)):Int×Int->List (Int×Int)->Prop
 |_,[]=>True
 |q,p::r=>(HT.lexLt [q.1,q.2] [p.1,p.2]=true/\p.1<p.2/\jB kvs p.1=true/\jB kvs p.2=true)/\TiOk kvs p r
structure WebOk(ps ts:List (Int×Int)):Prop where
 pl:ps.length<=40
 p:PlOk (-1) 0 ps
 tl:ts.length<=120
 t:TiOk (jj ps) (-1,-1) ts
def jd3(H:Hp)(v:V)(ps ts:List (Int×Int)):Prop:=
 ∃u pa ta xs ys,v= .ref u/\H u=some (.tup [.ref pa,.ref ta])/\H pa=some (.lst xs)/\H ta=some (.lst ys)/\Prs H xs ps/\Prs H ys ts
theorem jd3.same{H H':Hp}{v:V}{ps ts:List (Int×Int)}(h:jd3 H v ps ts)(s:Same H H'):jd3 H' v ps ts:=by
 obtain⟨u,pa,ta,xs,ys,e,h1,h2,h3,h4,h5⟩:=h
 exact⟨u,pa,ta,xs,ys,e,s _ _ h1,s _ _ h2,s _ _ h3,Prs.same s h4,Prs.same s h5⟩
theorem PlOk.gt:∀{ps:List (Int×Int)} {l s:Int},PlOk l s ps->∀p∈ps,l<p.1
 |[],_,_,_,_,h=>by cases h
 | q::r,l,s,h,p,hp=>by
  rcases aS.mp hp with e|hp
  ·rw[e];exact h.1.1
  ·have:=PlOk.gt h.2 p hp
   have:=h.1.1
   lia
theorem PlOk.nodup:∀{ps:List (Int×Int)} {l s:Int},PlOk l s ps->(ps.map (·.1)).Nodup
 |[],_,_,_=>eS
 |q::r,l,s,h=>by
  rw[ag]
  refine bt.mpr ⟨fun hm=>?_,PlOk.nodup h.2⟩
  obtain⟨p,hp,e⟩:=aL.mp hm
  have:=PlOk.gt h.2 p hp
  lia
theorem qe{ps:List (Int×Int)}(h:(ps.map (·.1)).Nodup):((jj ps).map (·.1)).Nodup:=by
 unfold jj
 rw[bz]
 have e:((fun(x:iF×V)=>x.1)∘fun(p:Int×Int)=>((Sum.inl p.1:iF),V.int p.2))=(fun(n:Int)=>(Sum.inl n:iF))∘fun(p:Int×Int)=>p.1:=rfl
 rw [e,<- bz]
 unfold List.Nodup at h ⊢
 rw[bK]
 exact h.imp fun q z=>q (cE z)
theorem oN{H:Hp}:∀{xs:List V} {ps:List (Int×Int)},Prs H xs ps->Paired (PairAt H) xs (jj ps)
 |_,_,.nil=>.nil
 |_,_,.cons r t=>by
  obtain⟨a,e,q⟩:=r
  exact .cons ⟨a,e,q⟩ (oN t)
theorem nW:∀{ps:List (Int×Int)} {p:Int×Int},(ps.map (·.1)).Nodup->p∈ps->i8 (jj ps) (Sum.inl p.1:iF)=some (.int p.2)
 |[],_,_,h=>by cases h
 | q::r,p,hn,h=>by
  rw[ag]at hn
  unfold jj i8
  rw[ag,List.find?_cons]
  rcases aS.mp h with e|h
  ·rw[e]
   simp
  ·have hne:q.1≠p.1:=fun z=>(bt.mp hn).1 (by rw[z];exact bP h)
   have hd:decide ((Sum.inl q.1:iF)=Sum.inl p.1)=false:=aJ fun z=>hne (cE z)
   dsimp only
   rw[hd]
   exact nW (bt.mp hn).2 h
theorem DK{ps:List (Int×Int)}{p:Int×Int}(hn:(ps.map (·.1)).Nodup)(h:p∈ps):jB (jj ps) p.1=true:=by
 unfold jB
 rw[nW hn h]
 rfl
def A2:Sp:=fun vs H Q _=>∃a xs ps,vs=[.ref a]/\H a=some (.lst xs)/\Prs H xs ps/\ps.length<=40/\PlOk (-1) 0 ps/\∀H',Same H H'->Q .non H'
def AH:Sp:=fun vs H Q _=>∃a d xs ts kvs,vs=[.ref a,.ref d]/\H a=some (.lst xs)/\H d=some (.dK kvs)/\Prs H xs ts/\ts.length<=120/\TiOk kvs (-1,-1) ts/\∀H',Same H H'->Q .non H'
def vq:Sp:=fun vs H Q _=>∃v ps ts,vs=[v]/\jd3 H v ps ts/\WebOk ps ts/\∀H',Same H H'->Q .non H'
theorem HM(B:Blt mg)(C:Cst mg c1 c2 c3 c4)(D:DefAt K mg "look_at_places" (iG 22) ["places"] f fd)(Dqf:DefAt K mg "is_list_up_to" (iG 10) ["thing","most"] fqf dqf)(Gqf:FnOk P w K mg base iK 1 fqf dqf ["thing","most"] vF)(Dq5:DefAt K mg "place_stands" (iG 20) ["thing","last","spent"] fq5 dq5)(Gq5:FnOk P w K mg base iK 3 fq5 dq5 ["thing","last","spent"] A7):FnOk P w K mg base iK 4 f fd ["places"] A2:=by
 have sc:FnScope ["places","last","spent","number","thing"] ["places"] (jb (iG 22)):=by walk_at "SC"
 refine D.F.ok sc (fun vs H Q E h=>?_) (fun cdv A outer s H vs Q E hr h=>?_)
 ·obtain⟨a,xs,ps,rfl,_⟩:=h
  rfl
 obtain⟨a,xs,ps,rfl,ea,hp,hl,ok,h⟩:=h
 have hlx:xs.length=ps.length:=aw hp
 have hu:=jh hr
 have hu0:_<PySem.cLine:=av hu
 refine⟨_,(iH (j0 (kS (kU (i9 Gqf (hr.mono (by decide)) rfl Dqf.m Dqf.F.kp Dqf.b .nil iW (iw (qv 0) (iw (lL (v:=.int 40) rfl C.MOST_PLACES ⟨_,rfl⟩) iC))))) (iO pZ) j6) (iH (iT (i:=1) sc.nd rfl (Or.inl rfl) (ng ni iE)) (iH (iT (i:=2) sc.nd rfl (Or.inl rfl) iE) (iO (kR bo rfl (rM rfl B.enumerate (iw (qv 0) iC)) (jS (n:=2) rfl (ja (iV (i:=3) sc.nd rfl (Or.inl rfl)) (ja (iV (i:=4) sc.nd rfl (Or.inl rfl)) jT))) (iH (j0 (kS (kU (i9 Gq5 (hr.mono (by decide)) rfl Dq5.m Dq5.F.kp Dq5.b .nil iW (iw (qv 4) (iw (qv 1) (iw (qv 2) iC)))))) (iO pZ) j6) (iH (iT (i:=1) sc.nd rfl (Or.inl rfl) (iM iN (qv 4) iE (fun _ _=>rfl))) (iO (rq (i:=2) sc.nd rfl (Or.inl rfl) (iM iN (qv 4) iE (fun _ _=>rfl)) ui))))))))),?_⟩
 walk_at "D"
 refine⟨a,xs,40,rfl,ea,?_⟩
 rw[aG (show(xs.length:Int)<=40 by lia)]
 walk_at "D"
 refine⟨a,rfl,⟨xs,SqL.of ea⟩,uQ (K:=K) (a:=a) (xs:=xs) (fun i σ H1=>∃l sp nb th,σ=[some (.ref a),some (.int l),some (.int sp),nb,th]/\Same H H1/\PlOk l sp (ps.drop i)) ⟨-1,0,none,none,rfl,Same.refl _,ok⟩ (fun i σ H1 _ ⟨_,_,_,_,_,s1,_⟩=>SqL.of (s1 _ _ ea)) ?_ ?_⟩
 ·rintro i x σ H1 t hi ⟨l,sp,nb,th,rfl,s1,ok1⟩ ht
  obtain⟨p,hpi,px⟩:=ko hp hi
  rw[nX hpi]at ok1
  have s2:Same H (upd H1 t (.tup [.int i,x])):=s1.trans (iI ht _)
  have px2:=px.same s2
  obtain⟨u,rfl,eu⟩:=id px2
  simp_arith[iD]
  refine⟨_,p,l,sp,rfl,px2,ok1.1,?_⟩
  simp_arith[iS,eu,jm,jK]
  exact⟨_,_,_,_,rfl,s2,ok1.2⟩
 ·rintro σ H1 ⟨l,sp,nb,th,rfl,s1,_⟩
  exact h H1 s1
theorem HD(B:Blt mg)(C:Cst mg c1 c2 c3 c4)(D:DefAt K mg "look_at_ties" (iG 23) ["ties","prices"] f fd)(Dqf:DefAt K mg "is_list_up_to" (iG 10) ["thing","most"] fqf dqf)(Gqf:FnOk P w K mg base iK 1 fqf dqf ["thing","most"] vF)(Dq6:DefAt K mg "tie_stands" (iG 21) ["thing","last","prices"] fq6 dq6)(Gq6:FnOk P w K mg base iK 3 fq6 dq6 ["thing","last","prices"] AX):FnOk P w K mg base iK 4 f fd ["ties","prices"] AH:=by
 have sc:FnScope ["ties","prices","last","number","thing"] ["ties","prices"] (jb (iG 23)):=by walk_at "SC"
 refine D.F.ok sc (fun vs H Q E h=>?_) (fun cdv A outer s H vs Q E hr h=>?_)
 ·obtain⟨a,d,xs,ts,kvs,rfl,_⟩:=h
  rfl
 obtain⟨a,d,xs,ts,kvs,rfl,ea,ed,hp,hl,ok,h⟩:=h
 have hlx:xs.length=ts.length:=aw hp
 have hu:=jh hr
 have hu0:_<PySem.cLine:=av hu
 refine⟨_,(iH (j0 (kS (kU (i9 Gqf (hr.mono (by decide)) rfl Dqf.m Dqf.F.kp Dqf.b .nil iW (iw (qv 0) (iw (lL (v:=.int 120) rfl C.MOST_TIES ⟨_,rfl⟩) iC))))) (iO pZ) j6) (iH (iT (i:=2) sc.nd rfl (Or.inl rfl) (jJ (iw (ng ni iE) (iw (ng ni iE) iC)))) (iO (kR bo rfl (rM rfl B.enumerate (iw (qv 0) iC)) (jS (n:=2) rfl (ja (iV (i:=3) sc.nd rfl (Or.inl rfl)) (ja (iV (i:=4) sc.nd rfl (Or.inl rfl)) jT))) (iH (j0 (kS (kU (i9 Gq6 (hr.mono (by decide)) rfl Dq6.m Dq6.F.kp Dq6.b .nil iW (iw (qv 4) (iw (qv 2) (iw (qv 1) iC)))))) (iO pZ) j6) (iO (iT (i:=2) sc.nd rfl (Or.inl rfl) (qv 4)))))))),?_⟩
 walk_at "D"
 refine⟨a,xs,120,rfl,ea,?_⟩
 rw[aG (show(xs.length:Int)<=120 by lia)]
 walk_at "D"
 intro t0 ht0
 refine⟨a,rfl,⟨xs,SqL.of (iI ht0 _ _ _ ea)⟩,uQ (K:=K) (a:=a) (xs:=xs) (fun i σ H1=>∃lv q nb th,σ=[some (.ref a),some (.ref d),some lv,nb,th]/\Same H H1/\Pr H1 lv q/\TiOk kvs q (ts.drop i)) ⟨_,(-1,-1),none,none,rfl,iI ht0 _,⟨t0,rfl,iD⟩,ok⟩ (fun i σ H1 _ ⟨_,_,_,_,_,s1,_⟩=>SqL.of (s1 _ _ ea)) ?_ ?_⟩
 ·rintro i x σ H1 t hi ⟨lv,q,nb,th,rfl,s1,pq,ok1⟩ ht
  obtain⟨p,hpi,px⟩:=ko hp hi
  rw[nX hpi]at ok1
  have s2:Same H (upd H1 t (.tup [.int i,x])):=s1.trans (iI ht _)
  have px2:=px.same s2
  simp_arith[iD]
  refine⟨_,p,_,q,d,kvs,rfl,px2,pq.same (iI ht _),s2 _ _ ed,ok1.1,?_⟩
  walk_at "D"
  exact⟨_,_,_,_,rfl,s2,px2,ok1.2⟩
 ·rintro σ H1 ⟨lv,q,nb,th,rfl,s1,_⟩
  exact h H1 s1
theorem Hv(B:Blt mg)(D:DefAt K mg "look_at_web" (iG 24) ["thing"] f fd)(Dqa:DefAt K mg "is_tuple_of" (iG 8) ["thing","many"] fqa dqa)(Gqa:FnOk P w K mg base iK 1 fqa dqa ["thing","many"] vt)(Dq2:DefAt K mg "look_at_places" (iG 22) ["places"] fq2 dq2)(Gq2:FnOk P w K mg base iK 4 fq2 dq2 ["places"] A2)(Dq3:DefAt K mg "look_at_ties" (iG 23) ["ties","prices"] fq3 dq3)(Gq3:FnOk P w K mg base iK 4 fq3 dq3 ["ties","prices"] AH):FnOk P w K mg base iK 5 f fd ["thing"] vq:=by
 have sc:FnScope ["thing"] ["thing"] (jb (iG 24)):=by walk_at "SC"
 refine D.F.ok sc (fun vs H Q E h=>?_) (fun cdv A outer s H vs Q E hr h=>?_)
 ·obtain⟨v,ps,ts,rfl,_⟩:=h
  rfl
 obtain⟨v,ps,ts,rfl,hw,ok,h⟩:=h
 obtain⟨u,pa,ta,xs,ys,rfl,eu,ep,et,pp,pt⟩:=hw
 have hlx:xs.length=ps.length:=aw pp
 have okl:=ok.pl
 have hu:=jh hr
 have hu0:_<PySem.cLine:=av hu
 refine⟨_,(iH (j0 (kS (kU (i9 Gqa (hr.mono (by decide)) rfl Dqa.m Dqa.F.kp Dqa.b .nil iW (iw (qv 0) (iw iE iC))))) (iO pZ) j6) (iH (ke (i9 Gq2 (hr.mono (by decide)) rfl Dq2.m Dq2.F.kp Dq2.b .nil iW (iw (iM iN (qv 0) iE (fun _ _=>rfl)) iC))) (iO (ke (i9 Gq3 (hr.mono (by decide)) rfl Dq3.m Dq3.F.kp Dq3.b .nil iW (iw (iM iN (qv 0) iE (fun _ _=>rfl)) (iw (mf (oJ rfl) rfl B.dict cA (iw (iM iN (qv 0) iE (fun _ _=>rfl)) iC)) iC))))))),?_⟩
 walk_at "D"
 refine⟨u,_,2,rfl,eu,?_⟩
 simp_arith[iS,eu,jm,jK,Int.cast_ofNat_Int,cT]
 refine⟨pa,xs,ps,rfl,ep,pp,ok.pl,ok.p,fun H1 s1=>?_⟩
 simp_arith[iS,s1 _ _ eu,s1 _ _ ep,jm,jK]
 refine⟨jj ps,oN (Prs.same s1 pp),by lia,qe ok.p.nodup,fun d hd=>?_⟩
 have s2:Same H (upd H1 d (.dK (jj ps))):=s1.trans (iI hd _)
 exact⟨ta,d,ys,ts,_,rfl,s2 _ _ et,iD,Prs.same s2 pt,ok.tl,ok.t,fun H3 s3=>h H3 (s2.trans s3)⟩
theorem HU:kK 3 0=some 0:=rfl
theorem HS:kK 3 1=some 1:=rfl
theorem HR:kK 3 2=some 2:=rfl
def StO(o:HO):Prop:=∃c st fl,o= .lst [.int c,.int st,.bl fl]/\0<=st/\st<4294967296
theorem StO.imm{o:HO}(h:StO o):tN o=false:=by obtain⟨_,_,_,rfl,_⟩:=h;rfl
def yN(K:PySem.W.Frag):Sp:=fun vs H Q _=>∃a k ns,vs=[.ref a,.int k]/\Scr K H a ns/\0<=k/\k<=1000/\∀s o,H s=none->StO o->Q (.ref s) (upd H s o)
def uq:Sp:=fun vs H Q _=>∃s o m,vs=[.ref s,.int m]/\H s=some o/\StO o/\1<=m/\m<1000000000000000000/\∀d o,0<=d->d<m->StO o->Q (.int d) (upd H s o)
theorem qk{i j:Int}(h1:-(2^64)<j)(h2:j<2^64):CMul i j:=.inr ⟨h1,h2⟩
theorem mC{i j:Int}(h1:-(2^64)<i)(h2:i<2^64):CMul i j:=.inl ⟨h1,h2⟩
def But(s:Addr)(H H':Hp):Prop:=∀b o,b≠s->H b=some o->H' b=some o
theorem But.trans{s:Addr}{H H1 H2:Hp}(a:But s H H1)(b:But s H1 H2):But s H H2:=fun c o n q=>b c o n (a c o n q)
theorem But.at (s:Addr)(H:Hp)(o:HO):But s H (upd H s o):=fun b u n q=>by rw[iL n];exact q
theorem But.new{s t:Addr}{H:Hp}{o:HO}(h:H t=none):But s H (upd H t o):=fun b u n q=>by rw[iL (iX q h)];exact q
theorem But.tups{s:Addr}{H H':Hp}(h:But s H H'){o:HO}(e:H s=some o)(i:tN o=false):TupS H H':=fun b u z q=>h b u (fun x=>by rw[x,e]at q;cases q;rw[i]at z;cases z) q
def jrj(H H':Hp)(t:Addr)(ps ts:List (Int×Int)):Prop:=∃l1 l2 xs ys,H l1=none/\H l2=none/\l1≠l2/\H' t=some (.tup [.ref l1,.ref l2])/\H' l1=some (.lst xs)/\H' l2=some (.lst ys)/\Prs H' xs ps/\Prs H' ys ts
def uk:Sp:=fun vs H Q _=>∃v ps ts,vs=[v]/\jd3 H v ps ts/\∀t H',Same H H'->jrj H H' t ps ts->Q (.ref t) H'
theorem GU(B:Blt mg)(D:DefAt K mg "_law_take" (iG 41) ["_law_state","_law_many"] f fd):FnOk P w K mg base iK 1 f fd ["_law_state","_law_many"] uq:=by
 have sc:FnScope ["_law_state","_law_many","_law_digit","_law_number"] ["_law_state","_law_many"] (jb (iG 41)):=by walk_at "SC"
 refine D.F.ok sc (fun vs H Q E h=>?_) (fun cdv A outer s H vs Q E hr h=>?_)
 ·obtain⟨s,o,m,rfl,_⟩:=h
  rfl
 obtain⟨st,o,m,rfl,es,⟨c,x,fl,rfl,x0,x1⟩,m0,m1,h⟩:=h
 have hu:=jh hr
 have hu0:_<PySem.cLine:=av hu
 refine⟨_,(iH (j0 (kU (iM iN (qv 0) iE (fun _ _=>rfl))) (iH (iT (i:=2) sc.nd rfl (Or.inl rfl) (iR nQ (iM iN (qv 0) iE (fun _ _=>rfl)) (qv 1))) (iH (nk (iR yH (iM iN (qv 0) iE (fun _ _=>rfl)) (qv 1)) (rp (qv 0) iE oF)) (iH (nk (lp qG (iM iN (qv 0) iE (fun _ _=>rfl)) iE (jz _)) (rp (qv 0) iE oF)) (iO (jc (qv 2)))))) j6) (iH (nk (iR nQ (iR jv (iR lK (iM iN (qv 0) iE (fun _ _=>rfl)) iE) iE) iE) (rp (qv 0) iE oF)) (iH (iT (i:=3) sc.nd rfl (Or.inl rfl) (iR xQ (iR nQ (iR lK (iM iN (qv 0) iE (fun _ _=>rfl)) (iM iN (qv 0) iE (fun _ _=>rfl))) iE) iE)) (iH (j0 (kH qG (qv 1) (iR qX iE iE) (jz _)) (iH (nk (iR nQ (iR jv (iR lK (iM iN (qv 0) iE (fun _ _=>rfl)) iE) iE) iE) (rp (qv 0) iE oF)) (iO (iT (i:=3) sc.nd rfl (Or.inl rfl) (iR jv (iR lK (qv 3) iE) (iM iN (qv 0) iE (fun _ _=>rfl)))))) j6) (iO (jc (iR nQ (qv 3) (qv 1)))))))),?_⟩
 simp_arith[iS,es,jm,jK,wq,HU,HS,HR,iD,zc]
 have lo:∀n:Int,0<=n%m:=fun n=>fP _ (by lia)
 have hi:∀n:Int,n%m<m:=fun n=>eT _ (by lia)
 have y0:0<=(x*48271+39373)%2147483647:=fP _ (by decide)
 have y1:(x*48271+39373)%2147483647<2147483647:=eT _ (by decide)
 generalize (x*48271+39373)%2147483647=y at y0 y1
 have z0:0<=(y*48271+39373)%2147483647:=fP _ (by decide)
 have z1:(y*48271+39373)%2147483647<2147483647:=eT _ (by decide)
 generalize (y*48271+39373)%2147483647=z at z0 z1
 have cd:BD c m:=⟨by lia,by lia⟩
 have cd2:∀n:Int,sU n 16:=fun n=>⟨by decide,by decide⟩
 have cp:sT 10 6:=⟨by decide,by decide,by decide⟩
 refine oa (fun _=>⟨by lia,cd,h _ _ (lo _) (hi _) ⟨_,_,_,rfl,x0,x1⟩⟩) (fun _=>⟨qk (by decide) (by decide),by decide,mC (by lia) (by lia),by decide,cd2 _,cp,?_⟩)
 refine oa (fun _=>⟨qk (by decide) (by decide),by decide,qk (by decide) (by decide),by lia,h _ _ (lo _) (hi _) ⟨_,_,_,rfl,z0,by lia⟩⟩) (fun _=>⟨by lia,h _ _ (lo _) (hi _) ⟨_,_,_,rfl,y0,by lia⟩⟩)
theorem Hb(B:Blt mg)(D:DefAt K mg "_law_begun" (iG 40) ["_law_script","_law_k"] f fd):FnOk P w K mg base iK 1 f fd ["_law_script","_law_k"] (yN K):=by
 have sc:FnScope ["_law_script","_law_k","_law_cell","_law_mixed"] ["_law_script","_law_k"] (jb (iG 40)):=by walk_at "SC"
 refine D.F.ok sc (fun vs H Q E h=>?_) (fun cdv A outer s H vs Q E hr h=>?_)
 ·obtain⟨a,k,ns,rfl,_⟩:=h
  rfl
 obtain⟨a,k,ns,rfl,hs,k0,k1,h⟩:=h
 have hu:=jh hr
 have hu0:_<PySem.cLine:=av hu
 refine⟨_,(iH (iT (i:=2) sc.nd rfl (Or.inl rfl) iE) (iH (j0 (kH ow (qv 1) (jf vI rfl B.len bw (iw (qv 0) iC)) (jz _)) (iO (iT (i:=2) sc.nd rfl (Or.inl rfl) (iM yw (qv 0) (qv 1) (fun _ _=>rfl)))) j6) (iH (iT (i:=3) sc.nd rfl (Or.inl rfl) (iR jv (iR jv (iR nQ (qv 2) iE) (iR lK iE (qv 1))) (iR lK iE (iR xQ (qv 1) iE)))) (iO (jc (ki (iw (qv 2) (iw (iR nQ (qv 3) iE) (iw (lp sZ (qv 2) (iR qX iE iE) (jz _)) iC))))))))),?_⟩
 walk_at "D"
 refine⟨a,_,rfl,.inl hs.sq,?_⟩
 simp_arith[ae,xg]
 have q0:∀n:Int,0<=n%2147483629:=fun n=>fP _ (by decide)
 have q1:∀n:Int,n%2147483629<2147483629:=fun n=>eT _ (by decide)
 have cp:sT 10 18:=⟨by decide,by decide,by decide⟩
 have cd:sU k 7:=⟨by decide,by decide⟩
 refine oa (fun c=>?_) (fun c=>?_)
 ·have c':k<(ns.length:Int):=bZ c
  have hk:k.toNat<ns.length:=by lia
  have e1:jl (ns.map V.int) ((k.toNat:Nat):Int)=some (.int ns[k.toNat]):=ll (by rw[aE,gE hk];rfl)
  rw[show((k.toNat:Nat):Int)=k by lia]at e1
  refine⟨a,_,k,_,rfl,rfl,hs.sq,e1,?_⟩
  walk_at "D"
  exact⟨by decide,mC (by decide) (by decide),cd,mC (by decide) (by decide),by decide,cp,fun p hp=>h p _ hp ⟨_,_,_,rfl,q0 _,by have:=q1 (ns[k.toNat]%2147483629+104729*k+7919*(k/7));lia⟩⟩
 ·exact⟨by decide,mC (by decide) (by decide),cd,mC (by decide) (by decide),by decide,cp,fun p hp=>h p _ hp ⟨_,_,_,rfl,q0 _,by have:=q1 (0%2147483629+104729*k+7919*(k/7));lia⟩⟩
end
end My
namespace So
open PySem PyProof.Rows
section
variable{prog:Program}{w:World}{A:Around}{E:Value->Shared->Prop}{s:Shared}
section
variable{prog:Program}{w:World}{A:Around}{E:Value->Shared->Prop}{s:Shared}{R:Keyed->Int}{κ:SortKind}{a₀:Array Keyed}{pd:Array (Nat×Nat×Nat)}
end
section
variable{prog:Program}{w:World}{A:Around}{E:Value->Shared->Prop}{s:Shared}
end
end
end So
namespace L2
open PySem PySem.Spec PyProof.Rows
end L2
namespace So
open PySem PySem.Spec PyProof.Rows
section
variable{prog:Program}{w:World}{s:Shared}
end
end So
namespace L2
open PySem PySem.Spec PyProof.Rows
def Tp(H:Hp)(v:V)(p:Int×Int×Int):Prop:=∃a,v= .ref a/\H a=some (.tup [.int p.1,.int p.2.1,.int p.2.2])
abbrev kj(H:Hp)(xs:List V)(ps:List (Int×Int×Int)):Prop:=Paired (Tp H) xs ps
section
variable{X:Cx}
end
theorem DI{K:PySem.W.Frag}{a c:Addr}{xs ys:List V}{g:TG}{tb:TS}{D:Ends}{σ:St}{H:Hp}(Pv:Nat->St->Hp->Prop)(hxy:xs.length=ys.length)(h0:Pv 0 σ H)(hl:∀i σ H,i<=xs.length->Pv i σ H->SqL K H a xs/\SqL K H c ys)
  (hs:∀i x y σ H t,xs[i]? =some x->ys[i]? =some y->Pv i σ H->H t=none->g (.ref t) σ (upd H t (.tup [x,y])) fun σ2 H2=>tb {D with nx:=Pv (i+1),ct:=Pv (i+1),bk:=D.nx} σ2 H2) (hd:∀σ H,Pv xs.length σ H->D.nx σ H):
  ∃W:Nat->Nat->St->Hp->Prop,(∃m,W 0 m σ H)/\∀i m σ H,W i m σ H->
   ((mX true K a c).stop i H/\D.nx σ H)\/((mX true K a c).go i H/\∃N:St->Hp->Prop,(∀σ' H',N σ' H'->∃m',m'<m/\W (i+1) m' σ' H')/\∀x H',(mX true K a c).yld i H x H'->g x σ H' fun σ2 H2=>tb {D with nx:=N,ct:=N,bk:=D.nx} σ2 H2):=by
 refine⟨fun i m σ H=>m=xs.length-i/\i<=xs.length/\Pv i σ H,⟨xs.length,by simp,bj _,h0⟩,?_⟩
 rintro i m σ H ⟨rfl,hi,p⟩
 obtain⟨q1,q2⟩:=hl i σ H hi p
 have q1':jW true K H a xs:=by unfold jW;rw[aq rfl];exact q1
 have q2':jW true K H c ys:=by unfold jW;rw[aq rfl];exact q2
 by_cases hlt:i<xs.length
 ·refine .inr ⟨⟨xs,ys,xs[i],ys[i]'(by lia),q1',q2',by simp[hlt],by simp[show i<ys.length by lia]⟩,Pv (i+1),fun σ' H' p'=>⟨xs.length-(i+1),by lia,rfl,hlt,p'⟩,fun x H' y=>?_⟩
  obtain⟨t,z1,z2,ht,e1,e2,y1,y2⟩:=y
  subst e1 e2
  exact hs i z1 z2 σ _ t (y1 xs q1') (y2 ys q2') p ht
 ·have e:i=xs.length:=by lia
  subst e
  exact .inl ⟨⟨xs,ys,q1',q2',.inl (ai _)⟩,hd σ H p⟩
section
variable{prog:Program}{w:World}{A:Around}{E:Value->Shared->Prop}{s:Shared}
end
noncomputable def oI{K:Type}[DecidableEq K](xs:List (K×Addr×Value)):List (K×Addr×Value)->List (K×Addr×Value)
 |[]=>xs
 |q::r=>oI (storedH xs q.1 q.2.1 q.2.2) r
theorem GX{K:Type}[DecidableEq K](xs:List (K×Addr×Value))(k:K)(a:Addr)(v:Value):(storedH xs k a v).length<=xs.length+1:=by
 unfold storedH
 split
 ·rw[ae];lia
 ·rw[aB];exact ai _
section
variable{prog:Program}{w:World}{A:Around}{E:Value->Shared->Prop}{R:Result->Shared->Prop}
noncomputable abbrev TK(prog:Program)(w:World):HeapKind prog w (List iF):=tupleKind (jO prog w)
theorem sg{h h':Heap}{d:Addr}{xs:List (List iF×Addr×Value)}(hd:h.DictOfH (TK prog w) d xs)(k0:∀o,h.get? d=some o->h'.get? d=some o)(k1:∀b o,o.cls= .type "tuple"->h.get? b=some o->h'.get? b=some o):h'.DictOfH (TK prog w) d xs:=by
 obtain⟨o,es,ep,e1,e2,e3,e4,e5,e6⟩:=hd
 refine⟨o,es,ep,k0 _ e1,e2,e3,e4,fun x hx=>?_,e6⟩
 obtain⟨o2,its,n,f1,f2,f3⟩:=e5 x hx
 exact⟨o2,its,n,k1 _ _ f2 f1,f2,f3⟩
theorem Gm{d it l:Addr}{its:Array Value}{more:List (List iF×Addr×Value)}(hh:A.handled=none)(hu:A.in1.units<cLine)(hlen:more.length=its.size)(hsz:its.size<=1000)(hdl:l≠d)(hdi:it≠d)(hil:l≠it):
  ∀(k i:Nat) (tk0:Tok) (s:Shared) (kvs:List (List iF×Addr×Value)),its.size-i=k->i<=its.size->kvs.length<=i->s.heap.IsListIter it l i->s.heap.IsList l its->s.heap.DictOfH (TK prog w) d kvs->
   (∀(j:Nat) (q:List iF×Addr×Value),more[j]? =some q->∃t,its[j]? =some (.ref t)/\s.heap.IsTuple t #[.ref q.2.1,q.2.2]/\(TK prog w).is s.heap q.1 q.2.1)->
   (∀h' tk,h'.DictOfH (TK prog w) d (oI kvs (more.drop i))->(∀b o,b≠d->b≠it->s.heap.get? b=some o->h'.get? b=some o)->R (.ok (.ret .none)) {s with heap:=h',toks:=tk})->
   codeAny (model prog w) A (.builtin "dict.update.loop" ⟨[.ref d,.ref it,.int i tk0,.none],[]⟩) R s:=by
 intro k
 induction k with
 |zero=>
  intro i tk0 s kvs hk hi hkl hit hl hd hp hR
  have e:i=its.size:=by lia
  subst e
  refine cS sm ?_
  rw[cv nD _]
  show wpAny _ A.in1 (pyNext (.ref it)>>=_) _ _ s
  refine aa (fS hh hit hl (by simp) fun h' eb=>?_)
  show wpAny _ A.in1 (Builtin.Dict.addKeywords d []>>=_) _ _ _
  refine aa (ao (ao ?_))
  refine hR h' s.toks ?_ fun b o _ hb q=>eb b o hb q
  rw[dq (by lia)]
  refine sg hd (fun o q=>eb d o hdi.symm q) fun b o c q=>eb b o (fun z=>?_) q
  subst z
  obtain⟨o',e2,c2,_⟩:=hit
  rw[q]at e2;cases e2;rw[c]at c2;exact absurd c2 (by decide)
 | succ k ih=>
  intro i tk0 s kvs hk hi hkl hit hl hd hp hR
  have hlt:i<its.size:=by lia
  have hlm:i<more.length:=by lia
  obtain⟨t,hu',ht,hkey⟩:=hp i more[i] (by simp[hlm])
  have nit:∀{b:Addr} {o:Obj},o.cls= .type "tuple"->s.heap.get? b=some o->b≠it:=fun{b o} c q z=>by
   subst z
   obtain⟨o',e2,c2,_⟩:=hit
   rw[q]at e2;cases e2;rw[c]at c2;exact absurd c2 (by decide)
  have nd:∀{b:Addr} {o:Obj},o.cls= .type "tuple"->s.heap.get? b=some o->b≠d:=fun{b o} c q z=>by
   subst z
   obtain⟨o',_,_,e2,c2,_⟩:=hd
   rw[q]at e2;cases e2;rw[c2.1]at c;exact absurd c (by decide)
  refine cS sm ?_
  rw[cv nD _]
  show wpAny _ A.in1 (pyNext (.ref it)>>=_) _ _ s
  refine aa (fF hit hl hu' fun h1 hit1 sb1=>?_)
  obtain⟨ot0,et0,ct0,_⟩:=id ht
  have ht1:h1.IsTuple t #[.ref more[i].2.1,more[i].2.2]:=ht.extBut sb1.extBut (nit ct0 et0)
  have keep1:∀b o,o.cls= .type "tuple"->s.heap.get? b=some o->h1.get? b=some o:=fun b o c q=>sb1.extBut b o (nit c q) q
  have hd1:h1.DictOfH (TK prog w) d kvs:=sg hd (fun o q=>sb1.extBut d o hdi.symm q) keep1
  have hkey1:(TK prog w).is h1 more[i].1 more[i].2.1:=by
   obtain⟨o2,its2,n2,f1,f2,f3⟩:=hkey
   exact⟨o2,its2,n2,keep1 _ _ f2 f1,f2,f3⟩
  show wpAny _ A.in1 (holding [.ref t] _>>=_) _ _ _
  refine aa (bV ?_)
  refine aa (m:=(Builtin.Dict.pairItems (.ref t)).tryCatch _) ?_
  refine dD ?_
  unfold Builtin.Dict.pairItems
  refine aa (dY ht1.typeIs ?_)
  obtain⟨ot,e1,c1,n1,d1⟩:=id ht1
  rw[aq (by decide)]
  refine aa (bM e1 d1 ?_)
  refine ao ?_
  show wpAny _ A.in1 (holding [.ref more[i].2.1,more[i].2.2] (dictSet d (.ref more[i].2.1) more[i].2.2)) _ _ _
  refine bV (wpAny_dictSet_heap (knd:=TK prog w) hu hkey1 hd1 (fun h2 hd2 sb2=>?_) (by have:=(by decide:1000<=sizeLine);lia))
  replace sb2:Heap.SameBut d h1 h2:=sb2
  have kk:∀b o,b≠d->b≠it->s.heap.get? b=some o->h2.get? b=some o:=fun b o b1 b2 q=>sb2.extBut b o b1 (sb1.extBut b o b2 q)
  refine ao ⟨cK nD _,?_⟩
  have hik:((i:Int)+1)=((i+1:Nat):Int):=by lia
  show codeAny _ _ (.builtin "dict.update.loop" ⟨[.ref d,.ref it,rawInt ((i:Int)+1),.none],[]⟩) _ _
  rw[hik]
  refine ih (i+1) 0 _ (storedH kvs more[i].1 more[i].2.1 more[i].2.2) (by lia) (by lia) ?_ (hit1.extBut sb2.extBut hdi) ((hl.extBut sb1.extBut hil).extBut sb2.extBut hdl) hd2 ?_ ?_
  ·have:=GX kvs more[i].1 more[i].2.1 more[i].2.2
   lia
  ·intro j q hq
   obtain⟨t',a1,a2,a3⟩:=hp j q hq
   obtain⟨o3,f1,f2,f3⟩:=a2
   obtain⟨o4,its4,n4,g1,g2,g3⟩:=a3
   exact⟨t',a1,⟨o3,kk _ _ (nd f2 f1) (nit f2 f1) f1,f2,f3⟩,⟨o4,its4,n4,kk _ _ (nd g2 g1) (nit g2 g1) g1,g2,g3⟩⟩
  ·intro h' tk hd' k'
   refine hR h' tk ?_ fun b o b1 b2 q=>k' b o b1 b2 (kk b o b1 b2 q)
   rw[cC hlm]
   exact hd'
theorem Hw{l:Addr}{its:Array Value}{c:Nat}{more:List (List iF×Addr×Value)}{s:Shared}{Q:Value->Shared->Prop}(hh:A.handled=none)(hu:A.in1.in1.units<cLine)(hl:s.heap.get? l=some {cls:=.type "list",dict:=none,data:=.seq its c,slots:=#[]})(hlen:more.length=its.size)(hsz:its.size<=1000)
  (hp:∀(j:Nat) (q:List iF×Addr×Value),more[j]? =some q->∃t,its[j]? =some (.ref t)/\s.heap.IsTuple t #[.ref q.2.1,q.2.2]/\(TK prog w).is s.heap q.1 q.2.1)
  (h:∀h' tk,h'.DictOfH (TK prog w) s.heap.objs.size (oI [] more)->(∀b o,s.heap.get? b=some o->h'.get? b=some o)->Q (.ref s.heap.objs.size) {s with heap:=h',toks:=tk}):
  wpAny (model prog w) A (call (.type "dict") [.ref l]) Q E s:=by
 refine callType_codes (Q₁:=fun obj s₁=>obj= .ref s.heap.objs.size/\s₁={s with heap:=s.heap.push {cls:=.type "dict",data:=.dict #[]}}) F.kt_called_dict (F.kt_typeCall_dict_1 _) F.entry_dict_init (kt_code_dict_new _ ⟨rfl,rfl⟩) ?_
 rintro obj s₁ ⟨rfl,rfl⟩
 have hnew:(s.heap.push {cls:=.type "dict",data:=.dict #[]}).DictOfH (TK prog w) s.heap.objs.size []:=Heap.DictOfH.new s.heap
 have hl1:(s.heap.push {cls:=.type "dict",data:=.dict #[]}).get? l=some {cls:=.type "list",dict:=none,data:=.seq its c,slots:=#[]}:=af _ hl
 have k1:∀b o,s.heap.get? b=some o->(s.heap.push {cls:=.type "dict",data:=.dict #[]}).get? b=some o:=fun b o q=>af _ q
 have llt:l<s.heap.objs.size:=aD hl
 generalize s.heap.push {cls:=.type "dict",data:=.dict #[]}=h1 at hnew hl1 k1
 refine⟨hnew.typeIs,F.args_dict_init_2 _ _,?_⟩
 unfold Builtin.«dict.__init__»
 refine aa ?_
 unfold Builtin.Dict.selfAndRest
 refine aa (wpAny_notOrdered_dict hnew.typeIs ?_)
 show wpAny _ _ (pure (s.heap.objs.size,[Value.ref l])) _ _ _
 refine ao ?_
 show wpAny _ _ (Builtin.Dict.updateFrom "dict.__init__" s.heap.objs.size (.ref l) [] .none) _ _ _
 unfold Builtin.Dict.updateFrom
 refine aa (dY (T:="list") ⟨_,hl1,rfl⟩ ?_)
 rw[aq (by decide)]
 refine aa (xH hl1 hh fun h2 tk2 k2=>?_)
 have hl2:=k2 _ _ hl1
 have hd2:h2.DictOfH (TK prog w) s.heap.objs.size []:=sg hnew (fun o q=>k2 _ _ q) fun b o _ q=>k2 _ _ q
 have dlt:s.heap.objs.size<h2.objs.size:=by obtain⟨_,_,_,ho,_⟩:=hd2;exact aD ho
 simp only[Option.isNone_none,if_true]
 refine aa (cM ?_)
 have hL:Heap.IsList h2 l its:=⟨_,hl2,rfl,_,rfl⟩
 refine aa (dZ (s:={s with heap:=h2,toks:=tk2}) hL ?_)
 refine ao ⟨cK nD _,?_⟩
 have hit:(h2.push {cls:=.type "list_iterator",data:=.fields #[.ref l,.int 0 0]}).IsListIter h2.objs.size l 0:=⟨_,aI _ rfl,rfl,rfl⟩
 refine Gm (A:=A.in1) (more:=more) hh hu hlen hsz (aP llt) (dk dlt) (aP (Nat.lt_trans llt dlt)) its.size 0 0 {s with heap:=h2.push {cls:=.type "list_iterator",data:=.fields #[.ref l,.int 0 0]},toks:=tk2} [] rfl (bj _) (ai _) hit (hL.push _) (sg hd2 (fun o q=>af _ q) fun b o _ q=>af _ q) ?_ ?_
 ·intro j q hq
  obtain⟨t,a1,a2,a3⟩:=hp j q hq
  obtain⟨o,e,r⟩:=a2
  obtain⟨o4,its4,n4,g1,g2,g3⟩:=a3
  exact⟨t,a1,⟨o,af _ (k2 _ _ (k1 _ _ e)),r⟩,⟨o4,its4,n4,af _ (k2 _ _ (k1 _ _ g1)),g2,g3⟩⟩
 ·intro h' tk hd' k'
  rw[dE]at hd'
  refine⟨rfl,h h' tk hd' fun b o q=>k' b o (aP (aD q)) (aP (aD (k2 _ _ (k1 _ _ q)))) (af _ (k2 _ _ (k1 _ _ q)))⟩
end
theorem Gg{K:Type}[DecidableEq K]{xs:List (K×Addr×Value)}{k:K}(h:k∉xs.map (·.1)):(atKey xs k).isSome=false:=by
 unfold atKey
 rw[fe]
 refine gQ.mpr fun z=>?_
 rw[List.find?_isSome]at z
 obtain⟨x,hx,e⟩:=z
 exact h (by rw [<- bZ e]; exact bP hx)
theorem AR{K:Type}[DecidableEq K]:∀(more xs:List (K×Addr×Value)),((xs++more).map (·.1)).Nodup->oI xs more=xs++more
 |[],xs,_=>by rw[oI,bh]
 | q::r,xs,h=>by
  have hq:q.1∉xs.map (·.1):=by
   rw[aj,fj]at h
   intro z
   exact h.2.2 _ z _ (bP (aM ..)) rfl
  rw[oI]
  have e:storedH xs q.1 q.2.1 q.2.2=xs++[q]:=by
   unfold storedH
   rw[Gg hq,ak aO]
  rw[e,AR r (xs++[q]) (by rw[aQ];exact h),aQ]
  rfl
def jiq(H:Hp)(v:V)(p:List iF×V):Prop:=∃t b,v= .ref t/\H t=some (.tup [.ref b,p.2])/\H b=some (.tup (p.1.map kV))
def CD:List V->Hp->VK->Prop:=fun vs H Q=>∃l xs kvs,vs=[.ref l]/\H l=some (.lst xs)/\Paired (jiq H) xs kvs/\xs.length<=1000/\(kvs.map (·.1)).Nodup/\∀d,H d=none->Q (.ref d) (upd H d (.dT kvs))
theorem AW{X:Cx}{pins:List (Addr×Obj)}{σ:St}{H:Hp}{s:Shared}(I:Inv X pins σ H s):∀{xs:List V} {kvs:List (List iF×V)} {its:List Value},Paired (jiq H) xs kvs->Vals xs its->
  ∃more:List (List iF×Addr×Value),KT H kvs more/\∀(j:Nat) (q:List iF×Addr×Value),more[j]? =some q->∃t,its[j]? =some (.ref t)/\s.heap.IsTuple t #[.ref q.2.1,q.2.2]/\(TK X.prog X.w).is s.heap q.1 q.2.1
 |_,_,_,.nil,.nil=>⟨[],.nil,fun j q h=>by simp at h⟩
 | _,_,_,.cons hp tp,.cons rv tr=>by
  obtain⟨more,hk,hm⟩:=AW I tp tr
  obtain⟨t,b,rfl,ht,hb⟩:=hp
  cases rv
  obtain⟨_,its',rt,hi⟩:=I.hok t _ ht
  obtain⟨u1,u2,rfl,r1,r2⟩:=rt.two
  cases(show u1=Value.ref b from r1)
  refine⟨(_,b,u2)::more,.cons ⟨rfl,hb,r2⟩ hk,fun j q h=>?_⟩
  cases j with
  |zero=>
   have e:=(show some _=some q from h)
   cases e
   exact⟨t,rfl,hi,nj I.hok hb⟩
  |succ j=>
   obtain⟨t2,a1,a2,a3⟩:=hm j q (by simpa using h)
   exact⟨t2,by simpa using a1,a2,a3⟩
theorem yg{H:Hp}:∀{kvs:List (List iF×V)} {xs:List (List iF×Addr×Value)},KT H kvs xs->kvs.map (·.1)=xs.map (·.1)
 |_,_,.nil=>rfl
 |_,_,.cons r t=>by rw[ag,ag,r.1,yg t]
theorem Gi{X:Cx}(hc:X.calm=true)(hu:X.A.units+64<cLine):jc2 X (.type "dict") CD:=by
 intro pins s σ H vs us Q I rv h
 obtain⟨l,xs,kvs,rfl,hl,hp,hz,hn,q⟩:=h
 obtain⟨u,rfl,ru⟩:=rv.one
 cases ru
 obtain⟨z,its,n,r,hlen,e⟩:=I.lstM hl
 obtain⟨more,hkv,hm⟩:=AW I hp r
 have hlm:kvs.length=more.length:=aw hkv
 have hlx:xs.length=kvs.length:=aw hp
 refine Hw (more:=more) (I.ok.hd hc) (show X.A.units+1+1<cLine by lia) e (by rw[ah];lia) (by rw[ah];lia) (fun j q hj=>?_) fun h' tk dd k=>?_
 ·obtain⟨t,a1,a2,a3⟩:=hm j q hj
  exact⟨t,by simpa using a1,a2,a3⟩
 ·rw [AR more [] (by rw [List.nil_append,<- yg hkv]; exact hn),List.nil_append] at dd
  obtain⟨o,es,ep,h1,h2,h3,h4,_,h5⟩:=dd
  refine⟨.ref s.heap.objs.size,upd H s.heap.objs.size (.dT kvs),I.laid k (ai _) (show jbp X.prog X.w _ _ _ (.dT kvs)from⟨by have:=(by decide:1000<=sizeLine);lia,by have:=I.big;exact beq_false_of_ne (dk this),more,hkv.keeps fun b ys eb=>?_,o,es,ep,h1,h2,h3,h4,h5⟩),rfl,q _ I.fresh⟩
  rw[iL (iX eb I.fresh)]
  exact eb
noncomputable def l9:List Int->List Int->Bool
 |[],_=>true
 |_::_,[]=>false
 |x::xs,y::ys=>if x=y then l9 xs ys else decide (x<=y)
theorem ue(x y:Int)(xs ys:List Int):l9 (x::xs) (y::ys)=if x=y then l9 xs ys else decide (x<=y):=rfl
theorem Cp(A:Around)(s:Shared)(a:Int)(t:Tok)(c:Int)(u:Tok)(prog:Program)(w:World)(E Q:Value->Shared->Prop)(h:Q (.bool (decide (a<=c))) s):
  wpAny (model prog w) A (richCompare .LtE (.int a t) (.int c u)) Q E s:=
 (PyProof.Rows.le_int h:wpAny (model prog w) A (compareOp .LtE (.int a t) (.int c u)) Q E s)
section
open PySem.SeqAt
open PySem.AutoSeq1 (wpAny_loadPart')
open PySem.MeetsSeq PySem.MeetsSeq2 PySem.MeetsSeq3
theorem EL(l b:Addr)(is js:Array Value)(n n2:Nat)(dd dd2:Option Addr)(sl mG:Array (Option Value))(ns ms:List Int)(hi:IntsAre is.toList ns)(hj:IntsAre js.toList ms):
  Meets (Builtin.«tuple.__le__» ⟨[.ref l,.ref b],[]⟩)
   (fun _ R s=>s.heap.get? l=some {cls:=.type "tuple",dict:=dd,data:=.seq is n,slots:=sl}/\s.heap.get? b=some {cls:=.type "tuple",dict:=dd2,data:=.seq js n2,slots:=mG}/\R (.ok (.ret (.bool (l9 ns ms)))) s):=
 .of_wp fun prog w A R s h=>by
  obtain⟨hp,g,d,tk,os⟩:=s
  obtain⟨hl,hb,h⟩:=h
  have f2:=AutoSeq1.sub_tuple_tuple
  have z1:is.size = ns.length:=by rw [<- hi.length]; simp
  have z2:js.size = ms.length:=by rw [<- hj.length]; simp
  wp_walk using fM hl,fM hb,wpAny_forIn_list _ (fun rest b s'=>b.1=none/\s'=⟨hp,g,d,tk,os⟩/\∃(vs ws:List Value) (k m:List Int),rest=vs.zip ws/\IntsAre vs k/\IntsAre ws m/\k.length+js.size=m.length+is.size/\R (.ok (.ret (.bool (l9 k m)))) ⟨hp,g,d,tk,os⟩) _
  case turn=>
   rintro⟨y,x⟩ rest b s' ⟨q0,rfl,vs,ws,k,m,hz,q1,q2,q3,q4⟩
   cases q1 with
   |nil=>rw[List.zip_nil_left]at hz;cases hz
   | cons a t q1=>
    cases q2 with
    |nil=>rw[List.zip_nil_right]at hz;cases hz
    | cons c u q2=>
     rw[List.zip_cons_cons]at hz
     injection hz with p1 p2
     injection p1 with p3 p4
     subst p3 p4
     rw[ue]at q4
     simp only[List.length_cons]at q3
     refine aa (gu a t c u prog w _ _ ?_)
     by_cases e:a=c
     ·rw[aq e]at q4
      rw[show(a==c)=true by rw[e];exact fu _]
      wp_walk
      exact⟨rfl,rfl,_,_,_,_,p2,q1,q2,by lia,q4⟩
     ·rw[ak e]at q4
      rw[show(a==c)=false by rw[bO];exact e]
      have hri:=Cp A.in1 ⟨hp,g,d,tk,os⟩ a t c u prog w
      wp_walk using hri
      exact⟨_,rfl,by simpa using q4⟩
  case fin=>
   rintro⟨b1,b2⟩ s' ⟨q0,rfl,vs,ws,k,m,hz,q1,q2,q3,q4⟩
   simp only at q0
   subst q0
   have hv:l9 k m=decide (is.size<=js.size):=by
    cases q1 with
    |nil=>
     simp only[List.length_nil]at q3
     rw[show l9 [] m=true by cases m<;>rfl]
     exact(aG (by lia)).symm
    | cons a t q1=>
     cases q2 with
     |nil=>
      simp only[List.length_nil,List.length_cons]at q3
      exact(aJ (by lia)).symm
     |cons c u q2=>
      rw[List.zip_cons_cons]at hz
      cases hz
   rw[hv]at q4
   wp_walk
   exact⟨_,rfl,by simpa[Builtin.Tuple.tupleCompareSizes]using q4⟩
  case h=>
   exact⟨rfl,rfl,is.toList,js.toList,ns,ms,rfl,hi,hj,by lia,h⟩
end
section
variable{X:Cx}{a b c:Expr}{ta tb tc:TE}{pos:Pos}
theorem Ff {op op':CmpOp}{g:Int->Int->Bool}{r':R2}(ho:OpR X (compareOp op) (fI fun i j=>.bl (g i j)))(ho':OpR X (compareOp op') r')(ha:PE X a ta)(hb:PE X b tb)(hc:PE X c tc)
    (hm:lastMarks [op,op'] [b,c]=false:=by with_unfolding_all rfl):PT X (.Compare a [op,op'] [b,c] pos) (fB (tZ (fI fun i j=>.bl (g i j)) r' ta tb tc)):=by
  intro pins s σ H Q I h
  refine isTrue_chain (iJ (ha pins s σ H _ I h) fun v s1 ⟨x,H1,I1,r1,q1⟩=>test_link (iJ (hb pins s1 σ H1 _ I1 q1) fun u s2 ⟨y,H2,I2,r2,q2⟩=>
    iJ (ho pins s2 σ H2 x y v u (fun z H3=>∃k,z= .bl k/\(if k=true then tc σ H3 fun w' H4=>r' y w' H4 fun z2 H5=>match z2 with | .bl q=>Q q H5|_=>False else Q false H3)) I2 r1 r2 ?_) fun d s3 ⟨z,H3,I3,r3,k,e,q3⟩=>?_)) hm
  · dsimp only at q2
    unfold fI at q2 ⊢
    cases x<;>cases y<;>first
      |exact q2.elim
      |exact⟨_,rfl,q2⟩
  · subst e
    cases r3
    refine bR ?_
    cases k with
    |false=>exact ite_ff ⟨H3,I3,q3⟩
    | true =>
      refine ite_tt (test_last (iJ (hc pins s3 σ H3 _ I3 q3) fun w' s4 ⟨z',H4,I4,r4,q4⟩=>iJ (ho' pins s4 σ H4 y z' u w' _ I4 r2 r4 q4) fun d2 s5 ⟨z2,H5,I5,r5,q5⟩=>?_))
      cases z2<;>first
        |exact False.elim q5
        | (cases r5
           exact bR ⟨H5,I5,q5⟩)
end
def vX:R2:=fun x y H Q=>match x,y with
 | .ref a,.ref b=>match H a,H b with
  |some (.tup [.int i,.int j]),some (.tup [.int k,.int l])=>Q (.bl (l9 [i,j] [k,l])) H
  |_,_=>False
 |_,_=>False
theorem CK{X:Cx}(hu:X.A.units<cLine):OpR X (compareOp .LtE) vX:=by
 intro pins s σ H x y v u Q I rx ry h
 unfold vX at h
 split at h
 ·split at h
  ·rename_i a b _ _ i j k l e1 e2
   cases rx
   cases ry
   obtain⟨its,r1,p1,_⟩:=I.tuple (SqT.of e1)
   obtain⟨its2,r2,p2,_⟩:=I.tuple (SqT.of e2)
   have i1:IntsAre its.toArray.toList [i,j]:=n6 r1
   have i2:IntsAre its2.toArray.toList [k,l]:=n6 r2
   obtain⟨⟨cls,dd,data,sl⟩,ho,hc,n,hd⟩:=id p1
   obtain⟨⟨cls2,dd2,data2,mG⟩,ho2,hc2,n2,hd2⟩:=id p2
   simp only at hc hd hc2 hd2
   subst hc hd hc2 hd2
   exact richCompare_meets_room (op:=.LtE) ⟨_,ho,rfl⟩ ⟨_,ho2,rfl⟩ PySem.F.slot_tuple_le PySem.F.entry_tuple_le (PySem.F.args_tuple_le_2 _ _) (EL _ _ _ _ n n2 dd dd2 sl mG _ _ i1 i2)
    ⟨ho,ho2,(fun z=>nomatch z),.bl _,H,I,rfl,h⟩ hu
  ·exact h.elim
 ·exact h.elim
end L2
namespace My
open PySem L2
section
variable{P:Program}{w:World}{K:PySem.W.Frag}{mg:Str->Option Value}{base:Heap}{c1 c2 c3 c4:Tok}{C_NoWeb fql:Addr}{dI:FuncData}
noncomputable def mq:Dt->Option (Int×Int)
 | .tup [.int x,.int y]=>some (x,y)
 |_=>none
def Bx(H:Hp)(x:V)(o:Option (Int×Int)):Prop:=∃d,Rep H d x/\mq d=o
theorem zE{d:Dt}{p:Int×Int}(h:mq d=some p):d=jN p:=by
 unfold mq at h
 split at h
 ·cases h;rfl
 ·cases h
theorem zz{H:Hp}{x:V}{p:Int×Int}(h:Rep H (jN p) x):Pr H x p:=by
 rw[jN,Rep]at h
 obtain⟨a,vs,rfl,ea,r⟩:=h
 rw[Reps]at r
 obtain⟨v,r1,rfl,e1,r⟩:=r
 rw[Reps]at r
 obtain⟨v2,r2,rfl,e2,r⟩:=r
 rw[Reps]at r
 subst r
 rw[Rep]at e1 e2
 subst e1 e2
 exact⟨a,rfl,ea⟩
theorem Pr.o{H:Hp}{x:V}{p:Int×Int}(h:Pr H x p):Bx H x (some p):=⟨jN p,h.rep,rfl⟩
noncomputable def kC:Dt->Kd
 | .non=>.non
 | .bl _=>.bl
 | .int _=>.int
 | .str _=>.str
 | .tup _=>.tup
 | .lst _=>.lst
theorem oG{H:Hp}{d:Dt}{x:V}(h:Rep H d x):L2.kd H x=some (kC d):=by
 cases d with
 |non=>rw[Rep]at h;subst h;rfl
 |bl b=>rw[Rep]at h;subst h;rfl
 |int b=>rw[Rep]at h;subst h;rfl
 |str b=>rw[Rep]at h;subst h;rfl
 |tup ds=>rw[Rep]at h;obtain⟨a,vs,rfl,e,_⟩:=h;unfold L2.kd;dsimp only;rw[e];rfl
 |lst ds=>rw[Rep]at h;obtain⟨a,vs,rfl,e,_⟩:=h;unfold L2.kd;dsimp only;rw[e];rfl
noncomputable def lE(m:Int):Dt->Bool
 | .tup ds=>decide ((ds.length:Int)=m)
 |_=>false
def rC:Sp:=fun vs H Q _=>∃x d m,vs=[x,.int m]/\Rep H d x/\Q (.bl (lE m d)) H
def yV:Sp:=fun vs H Q _=>∃x o,vs=[x]/\Bx H x o/\Q (.bl o.isSome) H
noncomputable def pe:Dt->Option (Int×Int×Int)
 | .tup [.int x,.int y,.int z]=>some (x,y,z)
 |_=>none
noncomputable def jG(d:Int×Int×Int):Dt:=.tup [.int d.1,.int d.2.1,.int d.2.2]
theorem zQ{d:Dt}{p:Int×Int×Int}(h:pe d=some p):d=jG p:=by
 unfold pe at h
 split at h
 ·cases h;rfl
 ·cases h
theorem ve{H:Hp}{x:V}{p:Int×Int×Int}(h:Rep H (jG p) x):Tp H x p:=by
 rw[jG,Rep]at h
 obtain⟨a,vs,rfl,ea,r⟩:=h
 rw[Reps]at r
 obtain⟨v,r1,rfl,e1,r⟩:=r
 rw[Reps]at r
 obtain⟨v2,r2,rfl,e2,r⟩:=r
 rw[Reps]at r
 obtain⟨v3,r3,rfl,e3,r⟩:=r
 rw[Reps]at r
 subst r
 rw[Rep]at e1 e2 e3
 subst e1 e2 e3
 exact⟨a,rfl,ea⟩
noncomputable def lY(d:Dt):Option (Int×Int×Int):=match pe d with
 |some p=>if 1<=p.2.2 then some p else none
 |none=>none
def yS:Sp:=fun vs H Q _=>∃x d,vs=[x]/\Rep H d x/\∀H',Same H H'->Q (.bl (lY d).isSome) H'
noncomputable def rF(ds:List Dt):Bool:=ds.all fun d=>nq (kC d)
theorem FE{ds:List Dt}(h:ds.length=3)(hw:rF ds=true):∃p:Int×Int×Int,ds=[.int p.1,.int p.2.1,.int p.2.2]:=by
 match ds,h with
 | [a,b,c],_=>
  unfold rF at hw
  simp only[List.all_cons,List.all_nil,Bool.and_true,cu]at hw
  obtain⟨h1,h2,h3⟩:=hw
  cases a with
  | int x=>cases b with
   |int y=>cases c with
    |int z=>exact⟨(x,y,z),rfl⟩
    |_=>cases h3
   |_=>cases h2
  |_=>cases h1
theorem ye{ds:List Dt}(h:¬ds.length=3\/rF ds=false):pe (.tup ds)=none:=by
 unfold pe
 split
 ·rename_i e
  cases e
  rcases h with h|h
  ·exact absurd rfl h
  ·cases h
 ·rfl
noncomputable def ku(ds:List (Int×Int×Int))(n:Int):Int:=(ds.map fun d=>(if d.1=n then d.2.2 else 0)+(if d.2.1=n then d.2.2 else 0)).sum
def jll(kvs:List (iF×V))(ds:List (Int×Int×Int)):Prop:=∀n:Int,(i8 kvs (Sum.inl n:iF)=none/\ku ds n=0)\/i8 kvs (Sum.inl n:iF)=some (.int (ku ds n))
theorem jll.get{kvs:List (iF×V)}{ds:List (Int×Int×Int)}(h:jll kvs ds)(n:Int):(i8 kvs (Sum.inl n:iF)).getD (.int 0)= .int (ku ds n):=by
 rcases h n with⟨e,f⟩|e
 ·rw[e,f];rfl
 ·rw[e];rfl
def yP:Sp:=fun vs H Q _=>∃l zs ds,vs=[.ref l]/\H l=some (.lst zs)/\kj H zs ds/\ds.length<=200/\∀d kvs H',Same H H'->H' d=some (.dK kvs)->jll kvs ds->Q (.ref d) H'
theorem Tp.tups{H H':Hp}{v:V}{p:Int×Int×Int}(h:Tp H v p)(s:TupS H H'):Tp H' v p:=let⟨a,e,q⟩:=h;⟨a,e,s _ _ rfl q⟩
theorem jA{H H':Hp}(s:TupS H H'):∀{xs:List V} {ps:List (Int×Int×Int)},kj H xs ps->kj H' xs ps
 |_,_,.nil=>.nil
 |_,_,.cons r t=>.cons (Tp.tups r s) (jA s t)
theorem zG(kvs:List (iF×V))(k:iF)(v:V):(jF kvs k v).length<=kvs.length+1:=sk kvs k v
theorem Hz(B:Blt mg)(D:DefAt K mg "is_tuple_of" (iG 8) ["thing","many"] f fd):FnOk P w K mg base iK 1 f fd ["thing","many"] rC:=by
 have sc:FnScope ["thing","many"] ["thing","many"] (jb (iG 8)):=by walk_at "SC"
 refine D.F.ok sc (fun vs H Q E h=>?_) (fun cdv A outer s H vs Q E hr h=>?_)
 ·obtain⟨x,d,m,rfl,_⟩:=h
  rfl
 obtain⟨x,d,m,rfl,hd,h⟩:=h
 have hk:=oG hd
 have hu:=jh hr
 have hu0:_<PySem.cLine:=av hu
 refine⟨_,(iO (jc (lh (jf (nP .tup) rfl B.isinstance bN (iw (qv 0) (iw (nV (v:=.ty "tuple") rfl B.tuple PyProof.Rows.boot_tuple rfl) iC))) (mR (lp qH (jf k6 rfl B.len bw (iw (qv 0) iC)) (qv 1) (jz _)))))),?_⟩
 cases d with
 |tup ds=>
  rw[Rep]at hd
  obtain⟨a,vs,rfl,ea,r⟩:=hd
  simp_arith[kd,ea,iS,k7]
  rw[r.len]
  exact h
 |non=>simp_arith[hk,k7,kC];exact h
 |bl b=>simp_arith[hk,k7,kC];exact h
 |int b=>simp_arith[hk,k7,kC];exact h
 |str b=>simp_arith[hk,k7,kC];exact h
 |lst b=>simp_arith[hk,k7,kC];exact h
theorem HP(B:Blt mg)(D:DefAt K mg "is_pair_of_wholes" (iG 9) ["thing"] f fd)(Dqa:DefAt K mg "is_tuple_of" (iG 8) ["thing","many"] fqa dqa)(Gqa:FnOk P w K mg base iK 1 fqa dqa ["thing","many"] rC)(Dqc:DefAt K mg "is_whole" (iG 7) ["thing"] fqc dqc)(Gqc:FnOk P w K mg base iK 1 fqc dqc ["thing"] rR):FnOk P w K mg base iK 2 f fd ["thing"] yV:=by
 have sc:FnScope ["thing"] ["thing"] (jb (iG 9)):=by walk_at "SC"
 refine D.F.ok sc (fun vs H Q E h=>?_) (fun cdv A outer s H vs Q E hr h=>?_)
 ·obtain⟨x,o,rfl,_⟩:=h
  rfl
 obtain⟨x,o,rfl,ho,h⟩:=h
 obtain⟨d,hd,rfl⟩:=ho
 have hu:=jh hr
 have hu0:_<PySem.cLine:=av hu
 refine⟨_,(iO (jc (lh (i9 Gqa (hr.mono (by decide)) rfl Dqa.m Dqa.F.kp Dqa.b .nil iW (iw (qv 0) (iw iE iC))) (lh (i9 Gqc (hr.mono (by decide)) rfl Dqc.m Dqc.F.kp Dqc.b .nil iW (iw (iM iN (qv 0) iE (fun _ _=>rfl)) iC)) (mR (i9 Gqc (hr.mono (by decide)) rfl Dqc.m Dqc.F.kp Dqc.b .nil iW (iw (iM iN (qv 0) iE (fun _ _=>rfl)) iC))))))),?_⟩
 walk_at "D"
 refine⟨_,d,2,rfl,hd,?_⟩
 cases d with
 | tup ds=>
  rw[Rep]at hd
  obtain⟨a,vs,rfl,ea,r⟩:=hd
  match ds,r,h with
  |[],r,h=>
   rw[show lE 2 (.tup [])=false from rfl]
   walk_at "D"
   exact h
  |[d1],r,h=>
   have e2:mq (.tup [d1])=none:=by cases d1<;>rfl
   rw[e2]at h
   rw[show lE 2 (.tup [d1])=false from rfl]
   walk_at "D"
   exact h
  | d1::d2::d3::ds,r,h=>
   have e:lE 2 (.tup (d1::d2::d3::ds))=false:=by
    unfold lE
    refine aJ ?_
    rw[List.length_cons,List.length_cons,List.length_cons]
    lia
   have e2:mq (.tup (d1::d2::d3::ds))=none:=by cases d1<;>cases d2<;>rfl
   rw[e2]at h
   rw[e]
   walk_at "D"
   exact h
  | [d1,d2],r,h=>
   rw[Reps]at r
   obtain⟨v1,r1,rfl,e1,r⟩:=r
   rw[Reps]at r
   obtain⟨v2,r2,rfl,e2,r⟩:=r
   rw[Reps]at r
   subst r
   rw[show lE 2 (.tup [d1,d2])=true from rfl]
   simp_arith[iS,ea,jm,jK]
   refine⟨_,kC d1,rfl,oG e1,?_⟩
   cases d1 with
   |int i=>
    simp_arith[kC,nq,iS,ea,jm,jK]
    refine⟨_,kC d2,rfl,oG e2,?_⟩
    cases d2<;>exact h
   |_=>simp_arith[kC,nq];exact h
 |_=>simp_arith[lE];exact h
theorem FV(B:Blt mg)(D:DefAt K mg "is_due" (iG 27) ["thing"] f fd)(Dqa:DefAt K mg "is_tuple_of" (iG 8) ["thing","many"] fqa dqa)(Gqa:FnOk P w K mg base iK 1 fqa dqa ["thing","many"] rC)(Dqc:DefAt K mg "is_whole" (iG 7) ["thing"] fqc dqc)(Gqc:FnOk P w K mg base iK 1 fqc dqc ["thing"] rR):FnOk P w K mg base iK 2 f fd ["thing"] yS:=by
 have sc:FnScope ["thing"] ["thing"] (jb (iG 27)):=by walk_at "SC"
 refine D.F.ok sc (fun vs H Q E h=>?_) (fun cdv A outer s H vs Q E hr h=>?_)
 ·obtain⟨x,d,rfl,_⟩:=h
  rfl
 obtain⟨x,d,rfl,hd,h⟩:=h
 have hu:=jh hr
 have hu0:_<PySem.cLine:=av hu
 refine⟨_,(iO (jc (lh (i9 Gqa (hr.mono (by decide)) rfl Dqa.m Dqa.F.kp Dqa.b .nil iW (iw (qv 0) (iw iE iC))) (lh (jf (tP rfl) rfl B.all fV (iw (kI (CpScope.of (N:=["part"]) (src:=[none]) (by rfl)) rfl (CQ (qv 0)) (fun _ _ _ _=>(iV (i:=0) (jn (l:=["part"]) (by rfl)) rfl (Or.inl rfl))) (fun _ _ _ _=>kJ) (fun _ _ _ _=>(i9 Gqc (hr.mono (by decide)) rfl Dqc.m Dqc.F.kp Dqc.b .nil iW (iw (qv 0) iC)))) iC)) (mR (lp sZ (iM iN (qv 0) iE (fun _ _=>rfl)) iE (jz _))))))),?_⟩
 walk_at "D"
 refine⟨_,d,3,rfl,hd,?_⟩
 cases d with
 | tup ds=>
  have hd0:=hd
  rw[Rep]at hd
  obtain⟨a,vs,rfl,ea,r⟩:=hd
  have hlv:=r.len
  by_cases c3:ds.length=3
  ·rw[show lE 3 (.tup ds)=true from aG (by lia)]
   walk_at "D"
   refine kE (wx K a) H (fun R hR=>?_) (fun z hz0=>kz ds.length (fun i σ' Hc=>∃w1,σ'=[w1]/\Same H Hc/\Hc z=some (.lst (((ds.take i).map fun d=>nq (kC d)).map V.bl))) ⟨none,rfl,iI hz0 _,iD⟩ ?_ ?_)
   ·unfold Bc
    walk_at "D"
    exact⟨a,rfl,⟨_,SqT.of ea⟩,hR⟩
   ·rintro i σ' Hc hi ⟨w1,rfl,s2,ez⟩
    have x1:vs[i]? =some (vs[i]'(by lia)):=gE _
    refine⟨⟨_,_,SqT.of (s2 _ _ ea),x1⟩,?_⟩
    rintro y H' ⟨rfl,hy⟩
    have E1:=az (x1.symm.trans (hy _ (SqT.of (s2 _ _ ea))))
    subst E1
    obtain⟨dt,hdt,rdt⟩:=r.at x1
    walk_at "D"
    refine⟨_,kC dt,rfl,oG (Rep.same s2 _ rdt),?_⟩
    refine⟨_,ez,?_,_,rfl,jD s2 hz0,?_⟩
    ·rw[ae,ae,aK]
     exact jr (by lia)
    ·rw[iD,jH hdt,aj,aj]
     rfl
   rintro σ' H1 ⟨w1,rfl,s1,ez⟩
   refine⟨⟨_,SqT.of (s1 _ _ ea),by lia⟩,?_⟩
   rw[aR]at ez
   simp_arith[ez]
   refine⟨_,rfl,?_⟩
   have ew:(ds.map fun d=>nq (kC d)).all id=rF ds:=by rw[gN];rfl
   refine oa (fun c=>?_) (fun c=>?_)
   ·have c:=ew.symm.trans c
    obtain⟨p,hp⟩:=FE c3 c
    subst hp
    obtain⟨a',ea',e3⟩:=ve (p:=p) hd0
    cases ea'
    simp_arith[iS,s1 _ _ e3,wq]
    have e9:(lY (jG p)).isSome=decide (p.2.2 ≥ 1):=by
     unfold lY
     show(match some (p.1,p.2.1,p.2.2)with |some p=>if 1<=p.2.2 then some p else none|none=>none).isSome=_
     dsimp only
     by_cases c9:1<=p.2.2
     ·rw[aq c9,aG c9];rfl
     ·rw[ak c9,aJ c9];rfl
    have:=h H1 s1
    rw[show(Dt.tup [.int p.1,.int p.2.1,.int p.2.2])=jG p from rfl,e9]at this
    exact this
   ·have c:=ew.symm.trans (gQ.mpr c)
    have:=h H1 s1
    unfold lY at this
    rw[ye (.inr c)]at this
    exact this
  ·rw[show lE 3 (.tup ds)=false from aJ (by lia)]
   walk_at "D"
   have:=h H (Same.refl _)
   unfold lY at this
   rw[ye (.inl c3)]at this
   exact this
 |_=>simp_arith[lE];exact h H (Same.refl _)
noncomputable def lG(ts:List (Int×Int)):List (List iF×V):=ts.map fun t=>([Sum.inl t.1,Sum.inl t.2],V.bl true)
theorem yB:∀(ts:List (Int×Int)) (t:Int×Int),(i8 (lG ts) ([Sum.inl t.1,Sum.inl t.2]:List iF)).isSome=decide (t∈ts)
 |[],t=>by simp[lG,i8]
 | u::r,t=>by
  have ih:=yB r t
  unfold lG i8 at ih ⊢
  rw[ag,List.find?_cons]
  by_cases h:u=t
  ·subst h;simp
  ·have hne:¬(([Sum.inl u.1,Sum.inl u.2]:List iF)=[Sum.inl t.1,Sum.inl t.2]):=fun z=>by
    injection z with z1 z2
    injection z2 with z2 _
    exact h (fw (cE z1) (cE z2))
   dsimp only
   rw[aJ hne]
   dsimp only
   rw[ih]
   have hn:¬t=u:=fun z=>h z.symm
   simp[hn]
def yU:Sp:=fun vs H Q _=>∃u zs ts,vs=[.ref u]/\H u=some (.lst zs)/\Prs H zs ts/\ts.Nodup/\ts.length<=120/\∀d H',H d=none->Same H H'->H' d=some (.dT (lG ts))->Q (.ref d) H'
theorem jiq.tups{H H':Hp}{v:V}{p:List iF×V}(h:jiq H v p)(s:TupS H H'):jiq H' v p:=let⟨t,b,e,q,r⟩:=h;⟨t,b,e,s _ _ rfl q,s _ _ rfl r⟩
theorem vH{H H':Hp}(s:TupS H H'):∀{xs:List V} {ps:List (List iF×V)},Paired (jiq H) xs ps->Paired (jiq H') xs ps
 |_,_,.nil=>.nil
 |_,_,.cons r t=>.cons (jiq.tups r s) (vH s t)
theorem GB{ds:List (Int×Int×Int)}{i:Nat}{d:Int×Int×Int}(h:ds[i]? =some d)(n:Int):ku (ds.take (i+1)) n=ku (ds.take i) n+((if d.1=n then d.2.2 else 0)+(if d.2.1=n then d.2.2 else 0)):=by
 unfold ku
 rw[jH h,aj,bI]
 simp
theorem jll.put{kvs:List (iF×V)}{f:Int->Int}(h:∀n:Int,(i8 kvs (Sum.inl n:iF)=none/\f n=0)\/i8 kvs (Sum.inl n:iF)=some (.int (f n)))(m a:Int):∀n:Int,(i8 (jF kvs (Sum.inl m:iF) (.int (f m+a))) (Sum.inl n:iF)=none/\f n+(if m=n then a else 0)=0)\/i8 (jF kvs (Sum.inl m:iF) (.int (f m+a))) (Sum.inl n:iF)=some (.int (f n+(if m=n then a else 0))):=fun n=>by
 rw[Fn]
 by_cases c:m=n
 ·subst c
  rw[aq rfl,aq rfl]
  exact .inr rfl
 ·rw[ak (fun z=>c (cE z).symm),ak c,eA]
  exact h n
theorem FU(B:Blt mg)(D:DefAt K mg "due_at" (iG 28) ["dues"] f fd):FnOk P w K mg base iK 1 f fd ["dues"] yP:=by
 have sc:FnScope ["dues","paid","one","other","amount"] ["dues"] (jb (iG 28)):=by walk_at "SC"
 refine D.F.ok sc (fun vs H Q E h=>?_) (fun cdv A outer s H vs Q E hr h=>?_)
 ·obtain⟨l,zs,ds,rfl,_⟩:=h
  rfl
 obtain⟨l,zs,ds,rfl,el,pz,h200,h⟩:=h
 have hlz:zs.length=ds.length:=aw pz
 have hu:=jh hr
 have hu0:_<PySem.cLine:=av hu
 refine⟨_,(iH (iT (i:=1) sc.nd rfl (Or.inl rfl) E4) (iH (kR bo rfl (kc (qv 0)) (jS (n:=3) rfl (ja (iV (i:=2) sc.nd rfl (Or.inl rfl)) (ja (iV (i:=3) sc.nd rfl (Or.inl rfl)) (ja (iV (i:=4) sc.nd rfl (Or.inl rfl)) jT)))) (iH (uh hu (qv 1) (qv 2) (iR jv (uK hu (qv 1) (qv 2) iE) (qv 4))) (iO (uh hu (qv 1) (qv 3) (iR jv (uK hu (qv 1) (qv 3) iE) (qv 4)))))) (iO (jc (qv 1))))),?_⟩
 refine iQ fun R hR=>?_
 walk_at "D"
 intro d hd
 have s1:=iI hd (.dK [])
 have ed:upd H d (.dK []) d=some (.dK []):=iD
 generalize upd H d (.dK [])=H1 at s1 ed
 walk_at "D"
 subst hR
 refine iQ fun R hR=>?_
 refine lu (jI K l) H1 (fun R' hR'=>?_) (nA (K:=K) (a:=l) (xs:=zs) (fun i σ H2=>∃v1 v2 v3 kvs,σ=[some (.ref l),some (.ref d),v1,v2,v3]/\Same H H2/\H2 d=some (.dK kvs)/\jll kvs (ds.take i)/\kvs.length<=2*i) ⟨none,none,none,[],rfl,s1,ed,fun n=>.inl ⟨rfl,rfl⟩,bj _⟩ (fun i σ H2 _ ⟨_,_,_,_,_,s2,_⟩=>SqL.of (s2 _ _ el)) ?_ ?_)
 ·unfold jZ
  walk_at "D"
  exact⟨l,rfl,⟨_,SqL.of (s1 _ _ el)⟩,hR'⟩
 ·rintro i x σ H2 hx ⟨v1,v2,v3,kvs,rfl,s2,ed2,pd,hkl⟩
  obtain⟨p,hp,px⟩:=ko pz hx
  obtain⟨t,rfl,ht⟩:=Tp.tups px s2.tups
  have hil:=(au.mp hp).1
  simp_arith[ht,ed2,pd.get]
  have q1:=jll.put (f:=ku (ds.take i)) pd p.1 p.2.2
  have kl1:=zG kvs (Sum.inl p.1:iF) (.int (ku (ds.take i) p.1+p.2.2))
  refine⟨⟨_,rfl⟩,jr (by lia),⟨_,iD⟩,?_⟩
  generalize jF kvs (Sum.inl p.1:iF) (.int (ku (ds.take i) p.1+p.2.2))=k1 at q1 kl1 ⊢
  have g2:(i8 k1 (Sum.inl p.2.1:iF)).getD (.int 0)= .int (ku (ds.take i) p.2.1+(if p.1=p.2.1 then p.2.2 else 0)):=by
   rcases q1 p.2.1 with⟨e,z⟩|e
   ·rw[e,z];rfl
   ·rw[e];rfl
  have q2:=jll.put (f:=fun n=>ku (ds.take i) n+(if p.1=n then p.2.2 else 0)) q1 p.2.1 p.2.2
  have kl2:=zG k1 (Sum.inl p.2.1:iF) (.int (ku (ds.take i) p.2.1+(if p.1=p.2.1 then p.2.2 else 0)+p.2.2))
  rw[iD]
  dsimp only
  rw[g2]
  dsimp only
  refine⟨jr (by lia),_,_,_,_,rfl,?_,iD,?_,by lia⟩
  ·exact jD (jD s2 hd) hd
  ·intro n
   rw [GB hp n,<- Int.add_assoc]
   exact q2 n
 ·rintro σ H2 ⟨v1,v2,v3,kvs,rfl,s2,ed2,pd,hkl⟩
  rw[hlz,aR]at pd
  subst hR
  walk_at "D"
  exact h d kvs H2 s2 ed2 pd
theorem FW(B:Blt mg)(D:DefAt K mg "marked" (iG 11) ["places"] f fd):FnOk P w K mg base iK 1 f fd ["places"] yU:=by
 have sc:FnScope ["places"] ["places"] (jb (iG 11)):=by walk_at "SC"
 refine D.F.ok sc (fun vs H Q E h=>?_) (fun cdv A outer s H vs Q E hr h=>?_)
 ·obtain⟨u,zs,ts,rfl,_⟩:=h
  rfl
 obtain⟨u,zs,ts,rfl,eu,pz,nd,h120,h⟩:=h
 have hlz:zs.length=ts.length:=aw pz
 have hu:=jh hr
 have hu0:_<PySem.cLine:=av hu
 refine⟨_,(iO (jc (mf (Gi rfl hr.units) rfl B.dict cA (iw (kI (CpScope.of (N:=["place"]) (src:=[none]) (by rfl)) rfl (kc (qv 0)) (fun _ _ _ _=>(iV (i:=0) (jn (l:=["place"]) (by rfl)) rfl (Or.inl rfl))) (fun _ _ _ _=>kJ) (fun _ _ _ _=>(jJ (iw (qv 0) (iw kQ iC))))) iC)))),?_⟩
 walk_at "D"
 refine kE (jI K u) H (fun R hR=>?_) (fun l hl0=>kz ts.length (fun i σ' Hc=>∃w1 vs,σ'=[w1]/\Same H Hc/\Hc l=some (.lst vs)/\Paired (jiq Hc) vs (lG (ts.take i))) ⟨none,[],rfl,iI hl0 _,iD,.nil⟩ ?_ ?_)
 ·unfold jZ
  walk_at "D"
  exact⟨u,rfl,⟨_,SqL.of eu⟩,hR⟩
 ·rintro i σ' Hc hi ⟨w1,vs,rfl,s2,ev,pv⟩
  have z1:SqL K Hc u zs:=SqL.of (s2 _ _ eu)
  have x1:zs[i]? =some (zs[i]'(by lia)):=gE _
  refine⟨⟨_,_,z1,x1⟩,?_⟩
  rintro y H' ⟨rfl,hy⟩
  obtain⟨q,hq,pq⟩:=ko pz (hy _ z1)
  obtain⟨b,rfl,hb⟩:=pq.same s2
  have hvl:vs.length<=120:=by
   have:=aw pv
   unfold lG at this
   rw[ae,aK]at this
   lia
  walk_at "D"
  intro t ht
  have q3:=iI ht (.tup [.ref b,.bl true])
  have ett:upd H' t (.tup [.ref b,.bl true]) t=some (.tup [.ref b,.bl true]):=iD
  have ev2:=q3 _ _ ev
  have hb2:=q3 _ _ hb
  generalize upd H' t (.tup [.ref b,.bl true])=H3 at q3 ett ev2 hb2
  have t6:=kW (ys:=vs++[.ref t]) ev2
  refine⟨vs,ev2,jr (by lia),_,vs++[.ref t],rfl,jD (s2.trans q3) hl0,(by first|rfl|exact iD),?_⟩
  have em:lG (ts.take (i+1))=lG (ts.take i)++[([Sum.inl q.1,Sum.inl q.2],V.bl true)]:=by
   unfold lG
   rw[jH hq,aj]
   rfl
  rw[em]
  exact kF (vH t6 (vH q3.tups pv)) ⟨t,b,rfl,t6 _ _ rfl ett,t6 _ _ rfl hb2⟩
 ·rintro σ' Hc ⟨w1,vs,rfl,s2,ev,pv⟩
  refine⟨⟨_,SqL.of (s2 _ _ eu),by lia⟩,?_⟩
  rw[aR]at pv
  have hvl:vs.length<=120:=by
   have:=aw pv
   unfold lG at this
   rw[ae]at this
   lia
  refine⟨l,vs,lG ts,rfl,ev,pv,by lia,?_,fun d hd=>h d _ (s2.free hd) (s2.trans (iI hd _)) iD⟩
  unfold lG
  rw[bz]
  unfold List.Nodup at nd ⊢
  rw[bK]
  refine nd.imp fun{x y} hne e=>hne ?_
  have e:([Sum.inl x.1,Sum.inl x.2]:List iF)=[Sum.inl y.1,Sum.inl y.2]:=e
  injection e with e1 e2
  injection e2 with e2 _
  exact fw (cE e1) (cE e2)
noncomputable def jY(ts:List (Int×Int)):Int×Int->List Dt->Option (List (Int×Int×Int))
 |_,[]=>some []
 |q,d::r=>match lY d with
  |some p=>if(p.1,p.2.1)∈ts/\l9 [p.1,p.2.1] [q.1,q.2]=false then(jY ts (p.1,p.2.1) r).map (p::·)else none
  |none=>none
noncomputable def mx(ps:List (Int×Int))(qs:List (Int×Int×Int)):Bool:=ps.all fun p=>decide (ku qs p.1<=2*p.2)
noncomputable def oz(ps ts:List (Int×Int)):Dt->Bool
 | .lst ds=>match jY ts (-1,-1) ds with
  |some qs=>mx ps qs
  |none=>false
 |_=>false
def xX(d:Dt):Prop:=∀ds,d= .lst ds->ds.length<=200
def x6:Sp:=fun vs H Q _=>∃v ps ts y d,vs=[v,y]/\jd3 H v ps ts/\WebOk ps ts/\Rep H d y/\xX d/\∀H',Same H H'->Q (.bl (oz ps ts d)) H'
theorem uV{a b c d:Int}(h:HT.lexLt [a,b] [c,d]=true):a<c\/(a=c/\b<d):=by
 rw[HT.oy]at h
 by_cases e:a=c
 ·rw[aq e,HT.oy]at h
  by_cases e2:b=d
  ·rw[aq e2]at h
   cases h
  ·rw[ak e2]at h
   exact .inr ⟨e,bZ h⟩
 ·rw[ak e]at h
  exact .inl (bZ h)
theorem uf{a b c d:Int}(h:a<c):HT.lexLt [a,b] [c,d]=true:=by
 rw[HT.oy,ak (by lia)]
 exact aG h
theorem xF{a b d:Int}(h:b<d):HT.lexLt [a,b] [a,d]=true:=by
 rw[HT.oy,aq rfl,HT.oy,ak (by lia)]
 exact aG h
theorem sh{ps ts:List (Int×Int)}{ds:List Dt}(h:jY ts (-1,-1) ds=none):oz ps ts (.lst ds)=false:=by
 show(match jY ts (-1,-1) ds with |some qs=>mx ps qs|none=>false)=false
 rw[h]
theorem vB{ps ts:List (Int×Int)}{ds:List Dt}{qs:List (Int×Int×Int)}(h:jY ts (-1,-1) ds=some qs):oz ps ts (.lst ds)=mx ps qs:=by
 show(match jY ts (-1,-1) ds with |some qs=>mx ps qs|none=>false)=_
 rw[h]
theorem wg(a b c:V):kA [a,b,c] none (some 2)=[a,b]:=rfl
theorem tE(a b c:V):¬(HT.iZ [a,b,c].length 0 none=0/\HT.iZ [a,b,c].length [a,b,c].length (some 2)=[a,b,c].length):=fun h=>by cases h.2
theorem FP{a b c d e f:Int}(h:HT.lexLt [a,b] [c,d]=true)(g:HT.lexLt [c,d] [e,f]=true):HT.lexLt [a,b] [e,f]=true:=by
 have h:=uV h
 have g:=uV g
 by_cases c:a<e
 ·exact uf c
 ·have:a=e:=by lia
  subst this
  exact xF (by lia)
theorem TiOk.lt{kvs:List (iF×V)}:∀{ts:List (Int×Int)} {q:Int×Int},TiOk kvs q ts->∀p∈ts,HT.lexLt [q.1,q.2] [p.1,p.2]=true
 |[],_,_,_,h=>by cases h
 |u::r,q,h,p,hp=>by
  rcases aS.mp hp with e|hp
  ·rw[e];exact h.1.1
  ·exact FP h.1.1 (TiOk.lt h.2 p hp)
theorem TiOk.nodup{kvs:List (iF×V)}:∀{ts:List (Int×Int)} {q:Int×Int},TiOk kvs q ts->ts.Nodup
 |[],_,_=>eS
 |u::r,q,h=>by
  refine bt.mpr ⟨fun hm=>?_,TiOk.nodup h.2⟩
  have:=TiOk.lt h.2 u hm
  simp[HT.lexLt]at this
theorem Hh(B:Blt mg)(D:DefAt K mg "dues_stand" (iG 29) ["web","thing"] f fd)(Dqx:DefAt K mg "is_due" (iG 27) ["thing"] fqx dqx)(Gqx:FnOk P w K mg base iK 2 fqx dqx ["thing"] yS)(Dqh:DefAt K mg "marked" (iG 11) ["places"] fqh dqh)(Gqh:FnOk P w K mg base iK 1 fqh dqh ["places"] yU)(Dqr:DefAt K mg "due_at" (iG 28) ["dues"] fqr dqr)(Gqr:FnOk P w K mg base iK 1 fqr dqr ["dues"] yP):FnOk P w K mg base iK 4 f fd ["web","thing"] x6:=by
 have sc:FnScope ["web","thing","ties","last","due","paid"] ["web","thing"] (jb (iG 29)):=by walk_at "SC"
 refine D.F.ok sc (fun vs H Q E h=>?_) (fun cdv A outer s H vs Q E hr h=>?_)
 ·obtain⟨v,ps,ts,y,d,rfl,_⟩:=h
  rfl
 obtain⟨v,ps,ts,y,d,rfl,hw,wk,hd,hs,h⟩:=h
 obtain⟨u,pa,ta,xs,ys,rfl,hu1,hpa,hta,hxs,hys⟩:=hw
 have hu:=jh hr
 have hu0:_<PySem.cLine:=av hu
 refine⟨_,(iH (j0 (kS (kU (jf (nP .lst) rfl B.isinstance bN (iw (qv 1) (iw (nV (v:=.ty "list") rfl B.list di rfl) iC))))) (iO (jc kQ)) j6) (iH (iT (i:=2) sc.nd rfl (Or.inl rfl) (i9 Gqh (hr.mono (by decide)) rfl Dqh.m Dqh.F.kp Dqh.b .nil iW (iw (iM iN (qv 0) iE (fun _ _=>rfl)) iC))) (iH (iT (i:=3) sc.nd rfl (Or.inl rfl) (jJ (iw (ng ni iE) (iw (ng ni iE) iC)))) (iH (kR bo rfl (kc (qv 1)) (iV (i:=4) sc.nd rfl (Or.inl rfl)) (iH (j0 (PW.pt (nh (kS (kU (i9 Gqx (hr.mono (by decide)) rfl Dqx.m Dqx.F.kp Dqx.b .nil iW (iw (qv 4) iC)))) (nh (CO (FZ hu (lW tR (qv 4) lU (lV iE)) (qv 2))) (pO (kH (CK hu0) (lW tR (qv 4) lU (lV iE)) (qv 3) (jz _)))))) (iO (jc kQ)) j6) (iO (iT (i:=3) sc.nd rfl (Or.inl rfl) (lW tR (qv 4) lU (lV iE)))))) (iH (iT (i:=5) sc.nd rfl (Or.inr rfl) (i9 Gqr (hr.mono (by decide)) rfl Dqr.m Dqr.F.kp Dqr.b .nil iW (iw (qv 1) iC))) (iO (jc (jf (tP rfl) rfl B.all fV (iw (kI (CpScope.of (N:=["place","price","paid"]) (src:=[none,none,some 5]) (by rfl)) rfl (kc (iM iN (qv 0) iE (fun _ _=>rfl))) (fun _ _ _ _=>(jS (n:=2) rfl (ja (iV (i:=0) (jn (l:=["place","price","paid"]) (by rfl)) rfl (Or.inl rfl)) (ja (iV (i:=1) (jn (l:=["place","price","paid"]) (by rfl)) rfl (Or.inl rfl)) jT)))) (fun _ _ _ _=>kJ) (fun _ _ _ _=>(lp nK (uK hu (qv 2) (qv 0) iE) (iR lK iE (qv 1)) (jz _)))) iC))))))))),?_⟩
 have hkd:=oG hd
 simp_arith[hkd]
 cases d with
 | lst ds=>
  rw[Rep]at hd
  obtain⟨l,zs,rfl,el,r⟩:=hd
  have hlv:=r.len
  simp_arith[kC,k7,iS,hu1,jK]
  refine⟨ta,ys,ts,rfl,hta,hys,wk.t.nodup,wk.tl,fun m H1 hm0 s1 em p hp=>?_⟩
  have s2:=s1.trans (iI hp (.tup [.int (-1),.int (-1)]))
  have em2:=iI hp (.tup [.int (-1),.int (-1)]) _ _ em
  have ep:upd H1 p (.tup [.int (-1),.int (-1)]) p=some (.tup [.int (-1),.int (-1)]):=iD
  generalize upd H1 p (.tup [.int (-1),.int (-1)])=H2 at s2 em2 ep
  refine lu (jI K l) H2 (fun R' hR'=>?_) (nA (K:=K) (a:=l) (xs:=zs) (fun i σ Hc=>∃v4 pl q qs,σ=[some (.ref u),some (.ref l),some (.ref m),some (.ref pl),v4,none]/\Same H Hc/\Hc m=some (.dT (lG ts))/\Hc pl=some (.tup [.int q.1,.int q.2])/\jY ts (-1,-1) ds=(jY ts q (ds.drop i)).map (qs++·)/\kj H (zs.take i) qs) ⟨none,p,(-1,-1),[],rfl,s2,em2,ep,by simp,.nil⟩ (fun i σ Hc _ ⟨_,_,_,_,_,s3,_⟩=>SqL.of (s3 _ _ el)) ?_ ?_)
  ·unfold jZ
   walk_at "D"
   exact⟨l,rfl,⟨_,SqL.of (s2 _ _ el)⟩,hR'⟩
  ·rintro i x σ Hc hx ⟨v4,pl,q,qs,rfl,s3,em3,epl,hdo,hq⟩
   obtain⟨dt,hdt,rdt⟩:=r.at hx
   have hdr:ds.drop i=dt::ds.drop (i+1):=nX hdt
   walk_at "D"
   refine⟨_,dt,rfl,Rep.same s3 _ rdt,fun H4 s4=>?_⟩
   have s5:=s3.trans s4
   have em4:=s4 _ _ em3
   have ep4:=s4 _ _ epl
   cases hdu:lY dt with
   |none=>
    simp_arith[Option.isSome]
    have hb:=h H4 s5
    rw[sh (by rw[hdo,hdr,jY,hdu];rfl)]at hb
    exact hb
   | some p=>
    simp_arith[Option.isSome]
    have htd:dt=jG p:=by
     unfold lY at hdu
     split at hdu
     ·rename_i p' e
      split at hdu
      ·cases hdu;exact zQ e
      ·cases hdu
     ·cases hdu
    subst htd
    obtain⟨t,rfl,ht⟩:=ve rdt
    have ht4:=s5 _ _ ht
    simp_arith[ht4,tB,y4]
    refine⟨tE (.int p.1) (.int p.2.1) (.int p.2.2),fun k1 hk1=>?_⟩
    rw[wg]
    have s6:=iI hk1 (.tup [.int p.1,.int p.2.1])
    have e6:upd H4 k1 (.tup [.int p.1,.int p.2.1]) k1=some (.tup [.int p.1,.int p.2.1]):=iD
    generalize upd H4 k1 (.tup [.int p.1,.int p.2.1])=H6 at s6 e6
    refine⟨m,_,rfl,DGet.t (k:=[Sum.inl p.1,Sum.inl p.2.1]) (s6 _ _ em4) e6,?_⟩
    have hmk:=yB ts (p.1,p.2.1)
    dsimp only at hmk
    refine⟨_,rfl,?_⟩
    rw[hmk]
    by_cases cm:(p.1,p.2.1)∈ts
    ·rw[aG cm,ak (by decide),s6 _ _ ht4]
     refine⟨tE (.int p.1) (.int p.2.1) (.int p.2.2),fun k2 hk2=>?_⟩
     rw[wg]
     have s7:=iI hk2 (.tup [.int p.1,.int p.2.1])
     have e7:upd H6 k2 (.tup [.int p.1,.int p.2.1]) k2=some (.tup [.int p.1,.int p.2.1]):=iD
     generalize upd H6 k2 (.tup [.int p.1,.int p.2.1])=H7 at s7 e7
     have s8:=s6.trans s7
     simp_arith[vX,e7,s8 _ _ ep4]
     by_cases cl:l9 [p.1,p.2.1] [q.1,q.2]=true
     ·rw[aq cl]
      have hb:=h H7 (s5.trans s8)
      rw[sh (by rw[hdo,hdr,jY,hdu];dsimp only;rw[if_neg (fun z=>by rw[z.2]at cl;cases cl)];rfl)]at hb
      exact hb
     ·rw[ak cl,s8 _ _ ht4]
      refine⟨tE (.int p.1) (.int p.2.1) (.int p.2.2),fun k3 hk3=>?_⟩
      rw[wg]
      have s9:=s8.trans (iI hk3 (.tup [.int p.1,.int p.2.1]))
      refine⟨_,k3,(p.1,p.2.1),qs++[p],rfl,s5.trans s9,s9 _ _ em4,iD,?_,?_⟩
      ·rw[hdo,hdr,jY,hdu]
       dsimp only
       rw[aq ⟨cm,gQ.mpr cl⟩,Option.map_map]
       congr 1
       funext w
       show qs++p::w=(qs++[p])++w
       rw[aQ]
       rfl
      ·rw[jH hx]
       exact kF hq ⟨t,rfl,ht⟩
    ·rw[aJ cm,aq (by decide)]
     have hb:=h H6 (s5.trans s6)
     rw[sh (by rw[hdo,hdr,jY,hdu];dsimp only;rw[if_neg (fun z=>cm z.1)];rfl)]at hb
     exact hb
  ·rintro σ Hc ⟨v4,pl,q,qs,rfl,s3,em3,epl,hdo,hq⟩
   rw[dq (by lia),jY,Option.map_some,bh]at hdo
   rw[aR]at hq
   walk_at "D"
   refine⟨l,zs,qs,rfl,s3 _ _ el,jA s3.tups hq,?_,fun d kvs H5 s5 ed5 pd=>?_⟩
   ·rw [<- aw hq,hlv]; exact hs _ rfl
   have s6:=s3.trans s5
   refine kE (jI K pa) H5 (fun R hR=>?_) (fun z hz0=>kz ps.length (fun i σ' Hc=>∃w1 w2,σ'=[w1,w2,some (.ref d)]/\Same H5 Hc/\Hc z=some (.lst (((ps.take i).map fun p=>decide (ku qs p.1<=2*p.2)).map V.bl))) ⟨none,none,rfl,iI hz0 _,iD⟩ ?_ ?_)
   ·unfold jZ
    simp_arith[iS,s6 _ _ hu1,jm]
    exact⟨pa,rfl,⟨_,SqL.of (s6 _ _ hpa)⟩,hR⟩
   ·rintro i σ' Hc hi ⟨w1,w2,rfl,s7,ez⟩
    have hxl:=aw hxs
    have x1:xs[i]? =some (xs[i]'(by lia)):=gE _
    have s8:=s6.trans s7
    refine⟨⟨_,_,SqL.of (s8 _ _ hpa),x1⟩,?_⟩
    rintro y H' ⟨rfl,hy⟩
    have E1:=az (x1.symm.trans (hy _ (SqL.of (s8 _ _ hpa))))
    obtain⟨pr,hpr,px⟩:=ko hxs x1
    rw[E1]at px
    obtain⟨b,rfl,hb⟩:=px.same s8
    simp_arith[hb,s7 _ _ ed5,pd.get]
    refine⟨⟨_,rfl⟩,mC (by decide) (by decide),_,ez,?_,_,_,rfl,jD s7 hz0,?_⟩
    ·rw[ae,ae,aK]
     have:=wk.pl
     exact jr (by lia)
    ·rw[iD,jH hpr,aj,aj]
     rfl
   ·rintro σ' Hc ⟨w1,w2,rfl,s7,ez⟩
    have s8:=s6.trans s7
    refine⟨⟨_,SqL.of (s8 _ _ hpa),by have:=aw hxs;lia⟩,?_⟩
    rw[aR]at ez
    simp_arith[ez]
    refine⟨_,rfl,?_⟩
    have hb:=h Hc s8
    rw[vB hdo]at hb
    have ew:(ps.map fun p=>decide (ku qs p.1<=2*p.2)).all id=mx ps qs:=by rw[gN];rfl
    rw[ew]
    exact hb
 |_=>simp_arith[kC,k7];exact h H (Same.refl _)
noncomputable def jU:List (Int×Int)->List Dt->Option (List (Int×Int))
 |[],[]=>some []
 |p::ps,d::ds=>match mq d with
  |some h=>if h.1=p.1/\0<=h.2/\h.2<=2 then(jU ps ds).map (h::·)else none
  |none=>none
 |_,_=>none
noncomputable def jV(hs:List (Int×Int))(n:Int):Int:=match i8 (jj hs) (Sum.inl n:iF)with
 |some (.int i)=>i
 |_=>0
noncomputable def my(ts hs:List (Int×Int)):Bool:=ts.all fun t=>decide (jV hs t.1+jV hs t.2 ≥ 2)
noncomputable def oU(ps ts:List (Int×Int)):Dt->Bool
 | .lst ds=>match jU ps ds with
  |some hs=>my ts hs
  |none=>false
 |_=>false
theorem oR{ps ts:List (Int×Int)}{ds:List Dt}(h:jU ps ds=none):oU ps ts (.lst ds)=false:=by
 show(match jU ps ds with |some hs=>my ts hs|none=>false)=false
 rw[h]
theorem vk{ps ts:List (Int×Int)}{ds:List Dt}{hs:List (Int×Int)}(h:jU ps ds=some hs):oU ps ts (.lst ds)=my ts hs:=by
 show(match jU ps ds with |some hs=>my ts hs|none=>false)=_
 rw[h]
theorem uU:∀{ps:List (Int×Int)} {ds:List Dt},¬ds.length=ps.length->jU ps ds=none
 |[],[],h=>absurd rfl h
 |[],_::_,_=>rfl
 |_::_,[],_=>rfl
 |p::ps,d::ds,h=>by
  rw[jU,uU (ps:=ps) (ds:=ds) (fun z=>h (by rw[List.length_cons,List.length_cons,z]))]
  split
  ·split<;>rfl
  ·rfl
theorem oH{hs:List (Int×Int)}{n:Int}(hn:(hs.map (·.1)).Nodup)(h:n∈hs.map (·.1)):i8 (jj hs) (Sum.inl n:iF)=some (.int (jV hs n)):=by
 obtain⟨p,hp,rfl⟩:=aL.mp h
 have e:=nW hn hp
 unfold jV
 rw[e]
theorem TiOk.in{kvs:List (iF×V)}:∀{ts:List (Int×Int)} {q:Int×Int},TiOk kvs q ts->∀p∈ts,p.1<p.2/\jB kvs p.1=true/\jB kvs p.2=true
 |[],_,_,_,h=>by cases h
 |u::r,q,h,p,hp=>by
  rcases aS.mp hp with e|hp
  ·rw[e];exact h.1.2
  ·exact TiOk.in h.2 p hp
theorem pV:∀{ps:List (Int×Int)} {n:Int},jB (jj ps) n=true->n∈ps.map (·.1)
 |[],_,h=>by cases h
 | p::r,n,h=>by
  by_cases c:p.1=n
  ·rw [<- c]; exact aM
  ·refine aF _ (pV ?_)
   unfold jB jj i8 at h
   rw[ag,List.find?_cons]at h
   dsimp only at h
   rw[aJ (fun z=>c (cE z))]at h
   exact h
def zL:Sp:=fun vs H Q _=>∃v ps ts y d,vs=[v,y]/\jd3 H v ps ts/\WebOk ps ts/\Rep H d y/\∀H',Same H H'->Q (.bl (oU ps ts d)) H'
noncomputable def km(ps hs:List (Int×Int)):Int:=(hs.map fun h=>jV ps h.1*h.2).sum
def yO:Sp:=fun vs H Q _=>∃v ps ts l zs hs,vs=[v,.ref l]/\jd3 H v ps ts/\WebOk ps ts/\H l=some (.lst zs)/\Prs H zs hs/\hs.length<=200/\(∀h∈hs,h.1∈ps.map (·.1)/\0<=h.2/\h.2<=2)/\∀H',Same H H'->Q (.int (km ps hs)) H'
theorem HB(B:Blt mg)(D:DefAt K mg "halves_stand" (iG 26) ["web","thing"] f fd)(Dqd:DefAt K mg "is_pair_of_wholes" (iG 9) ["thing"] fqd dqd)(Gqd:FnOk P w K mg base iK 2 fqd dqd ["thing"] yV):FnOk P w K mg base iK 3 f fd ["web","thing"] zL:=by
 have sc:FnScope ["web","thing","pair","known","halves"] ["web","thing"] (jb (iG 26)):=by walk_at "SC"
 refine D.F.ok sc (fun vs H Q E h=>?_) (fun cdv A outer s H vs Q E hr h=>?_)
 ·obtain⟨v,ps,ts,y,d,rfl,_⟩:=h
  rfl
 obtain⟨v,ps,ts,y,d,rfl,hw,wk,hd,h⟩:=h
 obtain⟨u,pa,ta,xs,ys,rfl,hu1,hpa,hta,hxs,hys⟩:=hw
 have hxl:=aw hxs
 have hu:=jh hr
 have hu0:_<PySem.cLine:=av hu
 refine⟨_,(iH (j0 (PW.pt (nh (kS (kU (jf (nP .lst) rfl B.isinstance bN (iw (qv 1) (iw (nV (v:=.ty "list") rfl B.list di rfl) iC))))) (pO (kH qF (jf k6 rfl B.len bw (iw (qv 1) iC)) (jf k6 rfl B.len bw (iw (iM iN (qv 0) iE (fun _ _=>rfl)) iC)) (jz _))))) (iO (jc kQ)) j6) (iH (kR bo rfl (uG rfl B.zip (iw (qv 1) (iw (iM iN (qv 0) iE (fun _ _=>rfl)) iC))) (jS (n:=2) rfl (ja (iV (i:=2) sc.nd rfl (Or.inl rfl)) (ja (iV (i:=3) sc.nd rfl (Or.inl rfl)) jT))) (iO (j0 (PW.pt (nh (kS (kU (i9 Gqd (hr.mono (by decide)) rfl Dqd.m Dqd.F.kp Dqd.b .nil iW (iw (qv 2) iC)))) (nh (kH qF (iM iN (qv 2) iE (fun _ _=>rfl)) (iM iN (qv 3) iE (fun _ _=>rfl)) (jz _)) (pO (kS (Ff nK nK iE (iM iN (qv 2) iE (fun _ _=>rfl)) iE)))))) (iO (jc kQ)) j6))) (iH (iT (i:=4) sc.nd rfl (Or.inr rfl) (mf (oJ rfl) rfl B.dict cA (iw (qv 1) iC))) (iO (jc (jf (tP rfl) rfl B.all fV (iw (kI (CpScope.of (N:=["one","other","halves"]) (src:=[none,none,some 4]) (by rfl)) rfl (kc (iM iN (qv 0) iE (fun _ _=>rfl))) (fun _ _ _ _=>(jS (n:=2) rfl (ja (iV (i:=0) (jn (l:=["one","other","halves"]) (by rfl)) rfl (Or.inl rfl)) (ja (iV (i:=1) (jn (l:=["one","other","halves"]) (by rfl)) rfl (Or.inl rfl)) jT)))) (fun _ _ _ _=>kJ) (fun _ _ _ _=>(lp sZ (iR jv (lS hu (qv 2) (qv 0) (fun _ _=>rfl)) (lS hu (qv 2) (qv 1) (fun _ _=>rfl))) iE (jz _)))) iC))))))),?_⟩
 have hkd:=oG hd
 simp_arith[hkd]
 cases d with
 | lst ds =>
  rw[Rep]at hd
  obtain⟨l,zs,rfl,el,r⟩:=hd
  have hlv:=r.len
  simp_arith[kC,k7,iS,hu1,jm,el,hpa]
  by_cases cl:zs.length=xs.length
  ·rw [aG (show(zs.length:Int)=(xs.length:Int) by lia),ak (by decide)]
   refine lu (mX true K l pa) H (fun R' hR'=>?_) (DI (K:=K) (a:=l) (c:=pa) (xs:=zs) (ys:=xs) (fun i σ H1=>∃w1 w2 hs,σ=[some (.ref u),some (.ref l),w1,w2,none]/\Same H H1/\jU ps ds=(jU (ps.drop i) (ds.drop i)).map (hs++·)/\Prs H (zs.take i) hs/\hs.map (·.1)=(ps.take i).map (·.1)) cl ⟨none,none,[],rfl,Same.refl _,by simp,.nil,rfl⟩ (fun i σ H1 _ ⟨_,_,_,_,s1,_⟩=>⟨SqL.of (s1 _ _ el),SqL.of (s1 _ _ hpa)⟩) ?_ ?_)
   ·unfold qU
    simp_arith[iS,hu1,jm]
    exact⟨true,l,pa,rfl,⟨zs,by unfold jW;rw[aq rfl];exact SqL.of el⟩,⟨xs,by unfold jW;rw[aq rfl];exact SqL.of hpa⟩,hR'⟩
   ·rintro i x y σ H1 t hx hy ⟨w1,w2,hs,rfl,s1,hho,hq,hk⟩ ht
    obtain⟨dt,hdt,rdt⟩:=r.at hx
    obtain⟨p,hp,pq⟩:=ko hxs hy
    rw[nX hdt,nX hp,jU]at hho
    have s2:Same H (upd H1 t (.tup [x,y])):=s1.trans (iI ht _)
    have et2:upd H1 t (.tup [x,y]) t=some (.tup [x,y]):=iD
    generalize upd H1 t (.tup [x,y])=H2 at s2 et2
    obtain⟨b2,rfl,eb2⟩:=pq.same s2
    simp_arith[et2]
    refine⟨_,mq dt,rfl,⟨dt,Rep.same s2 _ rdt,rfl⟩,?_⟩
    cases hpd:mq dt with
    |none=>
     simp_arith[Option.isSome]
     have hb:=h H2 s2
     rw[oR (by rw[hho,hpd];rfl)]at hb
     exact hb
    | some k=>
     have hpk:=zE hpd
     rw[hpk]at rdt
     have pk:=zz rdt
     obtain⟨b1,rfl,eb1⟩:=pk.same s2
     rw[hpd]at hho
     dsimp only at hho
     simp_arith[Option.isSome,iS,eb1,eb2,jm,jK]
     by_cases c1:k.1=p.1
     ·by_cases c2:0<=k.2
      ·by_cases c3:k.2<=2
       ·rw[aq ⟨c1,c2,c3⟩]at hho
        simp only[c1,cT,eG,aW,if_false,aG c2,aG c3]
        have hn:∃w1 w2 hs',[some (V.ref u),some (.ref l),some (.ref b1),some (.ref b2),none]=[some (V.ref u),some (.ref l),w1,w2,none]/\Same H H2/\jU ps ds=(jU (ps.drop (i+1)) (ds.drop (i+1))).map (hs'++·)/\Prs H (zs.take (i+1)) hs'/\hs'.map (·.1)=(ps.take (i+1)).map (·.1):=by
         refine⟨_,_,hs++[k],rfl,s2,?_,?_,?_⟩
         ·rw[hho,Option.map_map]
          congr 1
          funext w
          show hs++k::w=(hs++[k])++w
          rw[aQ]
          rfl
         ·rw[jH hx]
          exact kF hq pk
         ·rw[jH hp,aj,aj,hk,List.map_singleton,List.map_singleton,c1]
        first|exact hn|(walk_at "D";exact hn)
       ·have hb:=h H2 s2
        rw[oR (by rw[hho,ak (fun z=>c3 z.2.2)];rfl)]at hb
        simp only[c1,cT,eG,aW,if_false,aG c2,aJ c3]
        first|exact hb|(walk_at "D";exact hb)
      ·have hb:=h H2 s2
       rw[oR (by rw[hho,ak (fun z=>c2 z.2.1)];rfl)]at hb
       simp only[c1,cT,eG,aW,if_false,aJ c2]
       first|exact hb|(walk_at "D";exact hb)
     ·have hb:=h H2 s2
      rw[oR (by rw[hho,ak (fun z=>c1 z.1)];rfl)]at hb
      simp only[aJ c1]
      first|exact hb|(walk_at "D";exact hb)
   ·rintro σ H1 ⟨w1,w2,hs,rfl,s1,hho,hq,hk⟩
    rw[dq (show ps.length<=zs.length by lia),dq (show ds.length<=zs.length by lia),jU,Option.map_some,bh]at hho
    rw[aR]at hq
    rw[bL (by lia)]at hk
    have nd:(hs.map (·.1)).Nodup:=by rw[hk];exact wk.p.nodup
    have hzl:=aw hq
    have hpl:=wk.pl
    simp_arith[s1 _ _ el]
    refine⟨jj hs,oN (Prs.same s1 hq),by lia,qe nd,fun d hd0=>?_⟩
    have s2:Same H (upd H1 d (.dK (jj hs))):=s1.trans (iI hd0 _)
    have ed:upd H1 d (.dK (jj hs)) d=some (.dK (jj hs)):=iD
    generalize upd H1 d (.dK (jj hs))=H2 at s2 ed
    refine kE (jI K ta) H2 (fun R hR=>?_) (fun z hz0=>kz ts.length (fun i σ' Hc=>∃w1 w2,σ'=[w1,w2,some (.ref d)]/\Same H2 Hc/\Hc z=some (.lst (((ts.take i).map fun t=>decide (jV hs t.1+jV hs t.2 ≥ 2)).map V.bl))) ⟨none,none,rfl,iI hz0 _,iD⟩ ?_ ?_)
    ·unfold jZ
     simp_arith[iS,s2 _ _ hu1,jK]
     exact⟨ta,rfl,⟨_,SqL.of (s2 _ _ hta)⟩,hR⟩
    ·rintro i σ' Hc hi ⟨w1,w2,rfl,s7,ez⟩
     have hyl:=aw hys
     have x1:ys[i]? =some (ys[i]'(by lia)):=gE _
     have s8:=s2.trans s7
     refine⟨⟨_,_,SqL.of (s8 _ _ hta),x1⟩,?_⟩
     rintro y H' ⟨rfl,hy⟩
     have E1:=az (x1.symm.trans (hy _ (SqL.of (s8 _ _ hta))))
     obtain⟨pr,hpr,px⟩:=ko hys x1
     rw[E1]at px
     obtain⟨b,rfl,hb⟩:=px.same s8
     obtain⟨_,k1,k2⟩:=wk.t.in pr (ay hpr)
     have v1:=oH nd (by rw[hk];exact pV k1)
     have v2:=oH nd (by rw[hk];exact pV k2)
     simp_arith[hb,s7 _ _ ed,v1,v2]
     refine⟨_,ez,?_,_,_,rfl,jD s7 hz0,?_⟩
     ·rw[ae,ae,aK]
      have:=wk.tl
      exact jr (by lia)
     ·rw[iD,jH hpr,aj,aj]
      rfl
    ·rintro σ' Hc ⟨w1,w2,rfl,s7,ez⟩
     have s8:=s2.trans s7
     refine⟨⟨_,SqL.of (s8 _ _ hta),by have:=aw hys;lia⟩,?_⟩
     rw[aR]at ez
     simp_arith[ez]
     refine⟨_,rfl,?_⟩
     have hb:=h Hc s8
     rw[vk hho]at hb
     have ew:(ts.map fun t=>decide (jV hs t.1+jV hs t.2 ≥ 2)).all id=my ts hs:=by rw[gN];rfl
     rw[ew]
     exact hb
  ·have hb:=h H (Same.refl _)
   rw[oR (uU (by lia))]at hb
   rw[aJ (show ¬(zs.length:Int)=(xs.length:Int) by lia),aq (by decide)]
   exact hb
 |_=>simp_arith[kC,k7];exact h H (Same.refl _)
theorem HJ(B:Blt mg)(D:DefAt K mg "cost_in_halves" (iG 30) ["web","halves"] f fd):FnOk P w K mg base iK 1 f fd ["web","halves"] yO:=by
 have sc:FnScope ["web","halves","prices"] ["web","halves"] (jb (iG 30)):=by walk_at "SC"
 refine D.F.ok sc (fun vs H Q E h=>?_) (fun cdv A outer s H vs Q E hr h=>?_)
 ·obtain⟨v,ps,ts,l,zs,hs,rfl,_⟩:=h
  rfl
 obtain⟨v,ps,ts,l,zs,hs,rfl,hw,wk,el,hz,hl,hh,h⟩:=h
 obtain⟨u,pa,ta,xs,ys,rfl,hu1,hpa,hta,hxs,hys⟩:=hw
 have hxl:=aw hxs
 have hu:=jh hr
 have hu0:_<PySem.cLine:=av hu
 refine⟨_,(iH (iT (i:=2) sc.nd rfl (Or.inr rfl) (mf (oJ rfl) rfl B.dict cA (iw (iM iN (qv 0) iE (fun _ _=>rfl)) iC))) (iO (jc (jf (pJ rfl) rfl B.sum dy (iw (kI (CpScope.of (N:=["place","h","prices"]) (src:=[none,none,some 2]) (by rfl)) rfl (kc (qv 1)) (fun _ _ _ _=>(jS (n:=2) rfl (ja (iV (i:=0) (jn (l:=["place","h","prices"]) (by rfl)) rfl (Or.inl rfl)) (ja (iV (i:=1) (jn (l:=["place","h","prices"]) (by rfl)) rfl (Or.inl rfl)) jT)))) (fun _ _ _ _=>kJ) (fun _ _ _ _=>(iR lK (lS hu (qv 2) (qv 0) (fun _ _=>rfl)) (qv 1)))) iC))))),?_⟩
 simp_arith[iS,hu1,jm,hpa]
 have hpl:=wk.pl
 refine⟨jj ps,oN hxs,by lia,qe wk.p.nodup,fun d hd0=>?_⟩
 have s2:Same H (upd H d (.dK (jj ps))):=iI hd0 _
 have ed:upd H d (.dK (jj ps)) d=some (.dK (jj ps)):=iD
 generalize upd H d (.dK (jj ps))=H2 at s2 ed
 have hzl:=aw hz
 refine kE (jI K l) H2 (fun R hR=>?_) (fun z hz0=>kz hs.length (fun i σ' Hc=>∃w1 w2,σ'=[w1,w2,some (.ref d)]/\Same H2 Hc/\Hc z=some (.lst (((hs.take i).map fun h=>jV ps h.1*h.2).map V.int))) ⟨none,none,rfl,iI hz0 _,iD⟩ ?_ ?_)
 ·unfold jZ
  walk_at "D"
  exact⟨l,rfl,⟨_,SqL.of (s2 _ _ el)⟩,hR⟩
 ·rintro i σ' Hc hi ⟨w1,w2,rfl,s7,ez⟩
  have x1:zs[i]? =some (zs[i]'(by lia)):=gE _
  have s8:=s2.trans s7
  refine⟨⟨_,_,SqL.of (s8 _ _ el),x1⟩,?_⟩
  rintro y H' ⟨rfl,hy⟩
  have E1:=az (x1.symm.trans (hy _ (SqL.of (s8 _ _ el))))
  obtain⟨pr,hpr,px⟩:=ko hz x1
  rw[E1]at px
  obtain⟨b,rfl,hb⟩:=px.same s8
  obtain⟨k1,k2,k3⟩:=hh pr (ay hpr)
  have v1:=oH wk.p.nodup k1
  simp_arith[hb,s7 _ _ ed,v1]
  refine⟨qk (by lia) (by lia),_,ez,?_,_,_,rfl,jD s7 hz0,?_⟩
  ·rw[ae,ae,aK]
   exact jr (by lia)
  ·rw[iD,jH hpr,aj,aj]
   rfl
 ·rintro σ' Hc ⟨w1,w2,rfl,s7,ez⟩
  have s8:=s2.trans s7
  refine⟨⟨_,SqL.of (s8 _ _ el),by lia⟩,?_⟩
  rw[aR]at ez
  exact⟨z,_,rfl,ez,h Hc s8⟩
theorem qc:∀{ps:List (Int×Int)} {ds:List Dt} {hs:List (Int×Int)},jU ps ds=some hs->ds=hs.map jN/\hs.map (·.1)=ps.map (·.1)/\∀h∈hs,0<=h.2/\h.2<=2
 |[],[],hs,h=>by cases h;exact⟨rfl,rfl,fun _ z=>by cases z⟩
 |[],_::_,_,h=>by cases h
 |_::_,[],_,h=>by cases h
 | p ::ps,d::ds,hs,h=>by
  rw[jU]at h
  split at h
  ·rename_i k hk
   split at h
   ·rename_i c
    cases e:jU ps ds with
    |none=>rw[e]at h;cases h
    |some r=>
     rw[e]at h
     cases h
     obtain⟨i1,i2,i3⟩:=qc e
     refine ⟨by rw [ag,<- i1,zE hk],by rw [ag,ag,i2,c.1],fun z hz=>?_⟩
     rcases aS.mp hz with e|hz
     ·rw[e];exact c.2
     ·exact i3 z hz
   ·cases h
  ·cases h
theorem Ae{d:Dt}{p:Int×Int×Int}(hdu:lY d=some p):d=jG p/\1<=p.2.2:=by
 unfold lY at hdu
 split at hdu
 ·rename_i p' e
  split at hdu
  ·rename_i c;cases hdu;exact⟨zQ e,c⟩
  ·cases hdu
 ·cases hdu
theorem si{ts:List (Int×Int)}:∀{ds:List Dt} {q:Int×Int} {qs:List (Int×Int×Int)},jY ts q ds=some qs->ds=qs.map jG/\∀d∈qs,(d.1,d.2.1)∈ts/\1<=d.2.2
 |[],_,qs,h=>by cases h;exact⟨rfl,fun _ z=>by cases z⟩
 | d ::ds,q,qs,h=>by
  rw[jY]at h
  split at h
  ·rename_i k hk
   split at h
   ·rename_i c
    cases e:jY ts (k.1,k.2.1) ds with
    |none=>rw[e]at h;cases h
    |some r=>
     rw[e]at h
     cases h
     obtain⟨i1,i3⟩:=si e
     refine ⟨by rw [ag,<- i1,(Ae hk).1],fun z hz=>?_⟩
     rcases aS.mp hz with e|hz
     ·rw[e];exact⟨c.1,(Ae hk).2⟩
     ·exact i3 z hz
   ·cases h
  ·cases h
theorem zJ{H:Hp}:∀{hs:List (Int×Int)} {zs:List V},Reps H (hs.map jN) zs->Prs H zs hs
 |[],zs,h=>by rw[cD,Reps]at h;subst h;exact .nil
 |k::r,zs,h=>by
  rw[ag,Reps]at h
  obtain⟨v,vs,rfl,h1,h2⟩:=h
  exact .cons (zz h1) (zJ h2)
theorem zK{H:Hp}:∀{hs:List (Int×Int×Int)} {zs:List V},Reps H (hs.map jG) zs->kj H zs hs
 |[],zs,h=>by rw[cD,Reps]at h;subst h;exact .nil
 |k::r,zs,h=>by
  rw[ag,Reps]at h
  obtain⟨v,vs,rfl,h1,h2⟩:=h
  exact .cons (ve h1) (zK h2)
noncomputable def lO(ps ts:List (Int×Int))(a b:Dt):Bool:=match a,b with
 | .lst as,.lst bs=>match jU ps as,jY ts (-1,-1) bs with
  |some hs,some qs=>my ts hs&&(mx ps qs&&decide ((qs.map (·.2.2)).sum=km ps hs))
  |_,_=>false
 |_,_=>false
noncomputable def kD(ps ts:List (Int×Int)):Dt->Bool
 | .tup [a,b]=>lO ps ts a b
 |_=>false
theorem qf{ps ts:List (Int×Int)}{a b:Dt}:kD ps ts (.tup [a,b])=lO ps ts a b:=rfl
theorem FY{ps ts:List (Int×Int)}{ds:List Dt}(h:¬ds.length=2):kD ps ts (.tup ds)=false:=by
 unfold kD
 split
 ·rename_i e;cases e;exact absurd rfl h
 ·rfl
theorem CV{ps ts:List (Int×Int)}{a b:Dt}(h:oU ps ts a=false):lO ps ts a b=false:=by
 unfold lO
 split
 ·rename_i as bs
  split
  ·rename_i hs qs e1 e2
   rw[vk e1]at h
   rw[h];rfl
  ·rfl
 ·rfl
theorem CW{ps ts:List (Int×Int)}{a b:Dt}(h:oz ps ts b=false):lO ps ts a b=false:=by
 unfold lO
 split
 ·rename_i as bs
  split
  ·rename_i hs qs e1 e2
   rw[vB e2]at h
   rw[h,Bool.false_and,dJ]
  ·rfl
 ·rfl
theorem FG{ps ts:List (Int×Int)}{a:Dt}(h:oU ps ts a=true):∃hs,a= .lst (hs.map jN)/\jU ps (hs.map jN)=some hs/\my ts hs=true:=by
 cases a with
 | lst as=>
  cases e:jU ps as with
  |none=>rw[oR e]at h;cases h
  |some hs=>
   rw[vk e]at h
   have:=(qc e).1
   subst this
   exact⟨hs,rfl,e,h⟩
 |_=>cases h
theorem Gn{ps ts:List (Int×Int)}{a:Dt}(h:oz ps ts a=true):∃qs,a= .lst (qs.map jG)/\jY ts (-1,-1) (qs.map jG)=some qs/\mx ps qs=true:=by
 cases a with
 | lst as=>
  cases e:jY ts (-1,-1) as with
  |none=>rw[sh e]at h;cases h
  |some hs=>
   rw[vB e]at h
   have:=(si e).1
   subst this
   exact⟨hs,rfl,e,h⟩
 |_=>cases h
def xY(d:Dt):Prop:=∀a b,d= .tup [a,b]->xX b
def rQ:Sp:=fun vs H Q _=>∃v ps ts y d,vs=[v,y]/\jd3 H v ps ts/\WebOk ps ts/\Rep H d y/\xY d/\∀H',Same H H'->Q (.bl (kD ps ts d)) H'
theorem HE(B:Blt mg)(D:DefAt K mg "paper_stands" (iG 31) ["web","thing"] f fd)(Dqa:DefAt K mg "is_tuple_of" (iG 8) ["thing","many"] fqa dqa)(Gqa:FnOk P w K mg base iK 1 fqa dqa ["thing","many"] rC)(Dqw:DefAt K mg "halves_stand" (iG 26) ["web","thing"] fqw dqw)(Gqw:FnOk P w K mg base iK 3 fqw dqw ["web","thing"] zL)(Dqt:DefAt K mg "dues_stand" (iG 29) ["web","thing"] fqt dqt)(Gqt:FnOk P w K mg base iK 4 fqt dqt ["web","thing"] x6)(Dqp:DefAt K mg "cost_in_halves" (iG 30) ["web","halves"] fqp dqp)(Gqp:FnOk P w K mg base iK 1 fqp dqp ["web","halves"] yO):FnOk P w K mg base iK 5 f fd ["web","thing"] rQ:=by
 have sc:FnScope ["web","thing"] ["web","thing"] (jb (iG 31)):=by walk_at "SC"
 refine D.F.ok sc (fun vs H Q E h=>?_) (fun cdv A outer s H vs Q E hr h=>?_)
 ·obtain⟨v,ps,ts,y,d,rfl,_⟩:=h
  rfl
 obtain⟨v,ps,ts,y,d,rfl,hw,wk,hd,hs,h⟩:=h
 have hu:=jh hr
 have hu0:_<PySem.cLine:=av hu
 refine⟨_,(iH (j0 (PW.pt (nh (kS (kU (i9 Gqa (hr.mono (by decide)) rfl Dqa.m Dqa.F.kp Dqa.b .nil iW (iw (qv 1) (iw iE iC))))) (nh (kS (kU (i9 Gqw (hr.mono (by decide)) rfl Dqw.m Dqw.F.kp Dqw.b .nil iW (iw (qv 0) (iw (iM iN (qv 1) iE (fun _ _=>rfl)) iC))))) (pO (kS (kU (i9 Gqt (hr.mono (by decide)) rfl Dqt.m Dqt.F.kp Dqt.b .nil iW (iw (qv 0) (iw (iM iN (qv 1) iE (fun _ _=>rfl)) iC))))))))) (iO (jc kQ)) j6) (iO (jc (lp qH (jf (pJ rfl) rfl B.sum dy (iw (kI (CpScope.of (N:=["one","other","amount"]) (src:=[none,none,none]) (by rfl)) rfl (kc (iM iN (qv 1) iE (fun _ _=>rfl))) (fun _ _ _ _=>(jS (n:=3) rfl (ja (iV (i:=0) (jn (l:=["one","other","amount"]) (by rfl)) rfl (Or.inl rfl)) (ja (iV (i:=1) (jn (l:=["one","other","amount"]) (by rfl)) rfl (Or.inl rfl)) (ja (iV (i:=2) (jn (l:=["one","other","amount"]) (by rfl)) rfl (Or.inl rfl)) jT))))) (fun _ _ _ _=>kJ) (fun _ _ _ _=>(qv 2))) iC)) (i9 Gqp (hr.mono (by decide)) rfl Dqp.m Dqp.F.kp Dqp.b .nil iW (iw (qv 0) (iw (iM iN (qv 1) iE (fun _ _=>rfl)) iC))) (jz _))))),?_⟩
 walk_at "D"
 refine⟨_,d,2,rfl,hd,?_⟩
 cases d with
 | tup ds=>
  by_cases c2:ds.length=2
  ·rw [show lE 2 (.tup ds)=true from aG (by lia)]
   match ds,c2 with
   |[a,b],_=>
   have hsb:=hs a b rfl
   rw[Rep]at hd
   obtain⟨g,vs,rfl,ea,r⟩:=hd
   rw[Reps]at r
   obtain⟨v1,r1,rfl,e1,r⟩:=r
   rw[Reps]at r
   obtain⟨v2,r2,rfl,e2,r⟩:=r
   rw[Reps]at r
   subst r
   simp_arith[iS,ea,jm,jK]
   refine⟨_,ps,ts,_,a,rfl,hw,wk,e1,fun H1 s1=>?_⟩
   cases ch:oU ps ts a with
   |false=>
    walk_at "D"
    have hb:=h H1 s1
    rw[show kD ps ts (.tup [a,b])=lO ps ts a b from rfl,CV ch]at hb
    exact hb
   | true=>
    simp_arith[iS,s1 _ _ ea,jK]
    refine⟨_,ps,ts,_,b,rfl,hw.same s1,wk,Rep.same s1 _ e2,hsb,fun H2 s2=>?_⟩
    have s3:=s1.trans s2
    cases cd:oz ps ts b with
    |false=>
     walk_at "D"
     have hb:=h H2 s3
     rw[show kD ps ts (.tup [a,b])=lO ps ts a b from rfl,CW cd]at hb
     exact hb
    | true=>
     obtain⟨hs',rfl,ho,hti⟩:=FG ch
     obtain⟨qs,rfl,qo,hpa⟩:=Gn cd
     rw[Rep]at e1 e2
     obtain⟨l1,z1,rfl,el1,r1⟩:=e1
     obtain⟨l2,z2,rfl,el2,r2⟩:=e2
     have p1:=zJ r1
     have p2:=zK r2
     obtain⟨_,hk,hrg⟩:=qc ho
     have hzl:=aw p2
     have hql:qs.length<=200:=by have:=hsb _ rfl;rw[ae]at this;exact this
     simp_arith[iS,s3 _ _ ea,jK,jm]
     refine kE (jI K l2) H2 (fun R hR=>?_) (fun z hz0=>kz qs.length (fun i σ' Hc=>∃w1 w2 w3,σ'=[w1,w2,w3]/\Same H2 Hc/\Hc z=some (.lst (((qs.take i).map (·.2.2)).map V.int))) ⟨none,none,none,rfl,iI hz0 _,iD⟩ ?_ ?_)
     ·unfold jZ
      simp_arith[iS,s3 _ _ ea,jK]
      exact⟨l2,rfl,⟨_,SqL.of (s3 _ _ el2)⟩,hR⟩
     ·rintro i σ' Hc hi ⟨w1,w2,w3,rfl,s7,ez⟩
      have x1:z2[i]? =some (z2[i]'(by lia)):=gE _
      have s8:=s3.trans s7
      refine⟨⟨_,_,SqL.of (s8 _ _ el2),x1⟩,?_⟩
      rintro y H' ⟨rfl,hy⟩
      have E1:=az (x1.symm.trans (hy _ (SqL.of (s8 _ _ el2))))
      obtain⟨pr,hpr,px⟩:=ko p2 x1
      rw[E1]at px
      obtain⟨b,rfl,hb⟩:=Tp.tups px s8.tups
      simp_arith[hb]
      refine⟨_,ez,?_,_,_,_,rfl,jD s7 hz0,?_⟩
      ·rw[ae,ae,aK]
       exact jr (by lia)
      ·rw[iD,jH hpr,aj,aj]
       rfl
     ·rintro σ' Hc ⟨w1,w2,w3,rfl,s7,ez⟩
      have s8:=s3.trans s7
      refine⟨⟨_,SqL.of (s8 _ _ el2),by lia⟩,?_⟩
      rw[aR]at ez
      refine⟨z,_,rfl,ez,?_⟩
      simp only[s8 _ _ ea,jm]
      have hpl:hs'.length=ps.length:=by
       have:=bS List.length hk
       rw[ae,ae]at this
       exact this
      have h40:=wk.pl
      refine ⟨_,ps,ts,l1,z1,hs',rfl,hw.same s8,wk,s8 _ _ el1,Prs.same s8 p1,by lia,fun k hk'=>⟨by rw [<- hk]; exact bP hk',hrg k hk'⟩,fun H9 s9=>?_⟩
      have hb:=h H9 (s8.trans s9)
      have e9:kD ps ts (.tup [.lst (hs'.map jN),.lst (qs.map jG)])=decide ((qs.map (·.2.2)).sum=km ps hs'):=by
       rw[qf]
       unfold lO
       dsimp only
       rw[ho,qo]
       dsimp only
       rw[hti,hpa,Bool.true_and,Bool.true_and]
      rw[e9]at hb
      exact hb
  ·rw[show lE 2 (.tup ds)=false from aJ (by lia)]
   walk_at "D"
   have hb:=h H (Same.refl _)
   rw[FY c2]at hb
   exact hb
 |_=>simp_arith[lE];exact h H (Same.refl _)
theorem Hu(B:Blt mg)(D:DefAt K mg "lets_halves" (iG 32) ["web","thing"] f fd)(Dqg:DefAt K mg "look_at_web" (iG 24) ["thing"] fqg dqg)(Gqg:FnOk P w K mg base iK 5 fqg dqg ["thing"] vq)(Dq4:DefAt K mg "paper_stands" (iG 31) ["web","thing"] fq4 dq4)(Gq4:FnOk P w K mg base iK 5 fq4 dq4 ["web","thing"] rQ):FnOk P w K mg base iK 6 f fd ["web","thing"] rQ:=by
 have sc:FnScope ["web","thing"] ["web","thing"] (jb (iG 32)):=by walk_at "SC"
 refine D.F.ok sc (fun vs H Q E h=>?_) (fun cdv A outer s H vs Q E hr h=>?_)
 ·obtain⟨v,ps,ts,y,d,rfl,_⟩:=h
  rfl
 obtain⟨v,ps,ts,y,d,rfl,hw,wk,hd,hs,h⟩:=h
 have hu:=jh hr
 have hu0:_<PySem.cLine:=av hu
 refine⟨_,(iH (ke (i9 Gqg (hr.mono (by decide)) rfl Dqg.m Dqg.F.kp Dqg.b .nil iW (iw (qv 0) iC))) (iO (jc (i9 Gq4 (hr.mono (by decide)) rfl Dq4.m Dq4.F.kp Dq4.b .nil iW (iw (qv 0) (iw (qv 1) iC)))))),?_⟩
 walk_at "D"
 refine⟨_,ps,ts,rfl,hw,wk,fun H1 s1=>?_⟩
 exact⟨_,ps,ts,_,d,rfl,hw.same s1,wk,Rep.same s1 _ hd,hs,fun H2 s2=>h H2 (s1.trans s2)⟩
end
end My
namespace Fl
structure Tw where
 a:Int
 b:Int
 x:Int
 y:Int
noncomputable def iY(n m v:Int):Int:=if n=m then v else 0
theorem qd(n v:Int):iY n n v=v:=by unfold iY;rw[aq rfl]
theorem ky{n m:Int}(h:n≠m)(v:Int):iY n m v=0:=by unfold iY;rw[ak h]
theorem pX(c:Int->Int)(a x:Int):∀{ns:List Int},ns.Nodup->a∈ns->(ns.map fun p=>c p*iY a p x).sum=c a*x
 |[],_,h=>by cases h
 | n ::ns,nd,h=>by
  rw[ag,List.sum_cons]
  have nd':=bt.mp nd
  by_cases e:a=n
  ·subst e
   have h0:∀{l:List Int},a∉l->(l.map fun p=>c p*iY a p x).sum=0:=by
    intro l
    induction l with
    |nil=>intro _;rfl
    |cons m l ih=>
     intro hm
     rw[ag,List.sum_cons,ky (fun z:a=m=>hm (by rw[z];exact aM ..)),gO,ih fun z=>hm (aF _ z)]
     rfl
   rw[qd,h0 nd'.1,eA]
  ·have hm:a∈ns:=(aS.mp h).resolve_left e
   rw[ky e,gO,pX c a x nd'.2 hm,Int.zero_add]
theorem lq{α:Type}(f g:α->Int):∀(l:List α),(l.map fun p=>f p+g p).sum=(l.map f).sum+(l.map g).sum
 |[]=>rfl
 |a::l=>by
  rw[ag,ag,ag,List.sum_cons,List.sum_cons,List.sum_cons,lq f g l]
  lia
theorem mE{α:Type}:∀(l:List α),(l.map fun _=>(0:Int)).sum=0
 |[]=>rfl
 |_::l=>by rw[ag,List.sum_cons,mE l];rfl
theorem j8{α:Type}{f g:α->Int}:∀{l:List α},(∀p∈l,f p=g p)->(l.map f).sum=(l.map g).sum
 |[],_=>rfl
 |a::l,h=>by
  rw[ag,ag,List.sum_cons,List.sum_cons,h a (aM ..),j8 fun p hp=>h p (aF _ hp)]
noncomputable def kB(zs:List Tw)(p:Int):Int:=(zs.map fun z=>iY z.a p z.x+iY z.b p z.y).sum
noncomputable def inR(zs:List Tw)(p:Int):Int:=(zs.map fun z=>iY z.b p z.x+iY z.a p z.y).sum
theorem rT(c:Int->Int){ns:List Int}(nd:ns.Nodup):∀{zs:List Tw},(∀z∈zs,z.a∈ns/\z.b∈ns)->(ns.map fun p=>c p*kB zs p).sum=(zs.map fun z=>c z.a*z.x+c z.b*z.y).sum
 |[],_=>by
  show(ns.map fun p=>c p*0).sum=0
  rw[j8 (g:=fun _=>0) fun p _=>gO _,mE]
 | z::zs,h=>by
  have hz:=h z (aM ..)
  have e:∀p∈ns,c p*kB (z::zs) p=(c p*iY z.a p z.x+c p*iY z.b p z.y)+c p*kB zs p:=fun p _=>by
   unfold kB
   rw[ag,List.sum_cons,dF,dF]
  rw[j8 e,lq,lq,pX c _ _ nd hz.1,pX c _ _ nd hz.2,rT c nd fun z hz=>h z (aF _ hz),ag,List.sum_cons]
theorem uu(c:Int->Int){ns:List Int}(nd:ns.Nodup):∀{zs:List Tw},(∀z∈zs,z.a∈ns/\z.b∈ns)->(ns.map fun p=>c p*inR zs p).sum=(zs.map fun z=>c z.b*z.x+c z.a*z.y).sum
 |[],_=>by
  show(ns.map fun p=>c p*0).sum=0
  rw[j8 (g:=fun _=>0) fun p _=>gO _,mE]
 | z::zs,h=>by
  have hz:=h z (aM ..)
  have e:∀p∈ns,c p*inR (z::zs) p=(c p*iY z.b p z.x+c p*iY z.a p z.y)+c p*inR zs p:=fun p _=>by
   unfold inR
   rw[ag,List.sum_cons,dF,dF]
  rw[j8 e,lq,lq,pX c _ _ nd hz.2,pX c _ _ nd hz.1,uu c nd fun z hz=>h z (aF _ hz),ag,List.sum_cons]
structure Full(ns:List Int)(pr:Int->Int)(zs:List Tw)(fs ft:Int->Int)(SL SR:Int->Bool):Prop where
 nd:ns.Nodup
 ends:∀z∈zs,z.a∈ns/\z.b∈ns
 pos:∀z∈zs,0<=z.x/\0<=z.y
 left:∀p∈ns,fs p=kB zs p
 right:∀p∈ns,ft p=inR zs p
 capL:∀p∈ns,0<=fs p/\fs p<=pr p
 capR:∀p∈ns,0<=ft p/\ft p<=pr p
 satL:∀p∈ns,SL p=false->fs p=pr p
 satR:∀p∈ns,SR p=true->ft p=pr p
 go:∀z∈zs,(SL z.a=true->SR z.b=true)/\(SL z.b=true->SR z.a=true)
 zero:∀z∈zs,(SR z.b=true->SL z.a=false->z.x=0)/\(SR z.a=true->SL z.b=false->z.y=0)
noncomputable def one(b:Bool):Int:=if b=true then 1 else 0
noncomputable def kL(SL SR:Int->Bool)(p:Int):Int:=(1-one (SL p))+one (SR p)
theorem xJ(b:Bool):0<=one b/\one b<=1:=by cases b<;>decide
section
variable{ns:List Int}{pr:Int->Int}{zs:List Tw}{fs ft:Int->Int}{SL SR:Int->Bool}
theorem Bf(p:Int):0<=kL SL SR p/\kL SL SR p<=2:=by
 unfold kL
 have:=xJ (SL p)
 have:=xJ (SR p)
 lia
theorem Full.two(F:Full ns pr zs fs ft SL SR):∀z∈zs,2<=kL SL SR z.a+kL SL SR z.b:=fun z hz=>by
 obtain⟨g1,g2⟩:=F.go z hz
 unfold kL one
 cases h1:SL z.a<;>cases h2:SL z.b<;>cases h3:SR z.a<;>cases h4:SR z.b<;>simp_all
theorem Full.paid(F:Full ns pr zs fs ft SL SR){p:Int}(hp:p∈ns):(zs.map fun z=>iY z.a p (z.x+z.y)+iY z.b p (z.x+z.y)).sum<=2*pr p:=by
 have e:(zs.map fun z=>iY z.a p (z.x+z.y)+iY z.b p (z.x+z.y)).sum=kB zs p+inR zs p:=by
  unfold kB inR
  rw [<- lq]
  refine j8 fun z _=>?_
  unfold iY
  split<;>split<;>lia
 rw [e,<- F.left p hp,<- F.right p hp]
 have:=F.capL p hp
 have:=F.capR p hp
 lia
theorem Full.worth(F:Full ns pr zs fs ft SL SR):(zs.map fun z=>z.x+z.y).sum=(ns.map fun p=>pr p*kL SL SR p).sum:=by
 have h1:(zs.map fun z=>z.x+z.y).sum=(ns.map fs).sum:=by
  have:=rT (fun _=>1) F.nd (zs:=zs) F.ends
  rw[j8 (g:=fs) (fun p hp=>by rw[gc,F.left p hp])]at this
  rw[this]
  exact j8 fun z _=>by rw[gc,gc]
 have h2:(ns.map fs).sum=(ns.map fun p=>(1-one (SL p))*pr p).sum+(ns.map fun p=>one (SL p)*kB zs p).sum:=by
  rw [<- lq]
  refine j8 fun p hp=>?_
  cases e:SL p with
  | true=>rw [<- F.left p hp]; show fs p = (1 - 1) * pr p + 1 * fs p; lia
  |false=>rw[F.satL p hp e];show pr p=(1-0)*pr p+0*kB zs p;lia
 have h3:(ns.map fun p=>one (SL p)*kB zs p).sum=(ns.map fun p=>one (SR p)*inR zs p).sum:=by
  rw[rT _ F.nd F.ends,uu _ F.nd F.ends]
  refine j8 fun z hz=>?_
  obtain⟨g1,g2⟩:=F.go z hz
  obtain⟨z1,z2⟩:=F.zero z hz
  have e1:one (SL z.a)*z.x=one (SR z.b)*z.x:=by
   cases h1:SL z.a with
   |true=>rw[g1 h1]
   |false=>
    cases h2:SR z.b with
    |false=>rfl
    |true=>rw[z1 h2 h1];rfl
  have e2:one (SL z.b)*z.y=one (SR z.a)*z.y:=by
   cases h1:SL z.b with
   |true=>rw[g2 h1]
   |false=>
    cases h2:SR z.a with
    |false=>rfl
    |true=>rw[z2 h2 h1];rfl
  rw[e1,e2]
 have h4:(ns.map fun p=>one (SR p)*inR zs p).sum=(ns.map fun p=>one (SR p)*pr p).sum:=j8 fun p hp=>by
  cases e:SR p with
  | true=>rw [<- F.right p hp,F.satR p hp e]
  |false=>show 0*_=0*_;lia
 rw [h1,h2,h3,h4,<- lq]
 refine j8 fun p _=>?_
 unfold kL
 rw[dF,dr (pr p),dr (pr p)]
end
end Fl
namespace Fl
noncomputable def iU(w:Nat):Nat:=if w%2=0 then w+1 else w-1
theorem Al(w:Nat):iU (iU w)=w:=by unfold iU;split<;>split<;>lia
theorem tu(w:Nat):iU w≠w:=by unfold iU;split<;>lia
theorem qM{w m:Nat}(h:w<2*m):iU w<2*m:=by unfold iU;split<;>lia
noncomputable def at'(l:List Int)(i:Nat):Int:=l.getD i 0
theorem wo(l:List Int)(i j:Nat)(v:Int):at' (l.set i v) j=if i=j/\j<l.length then v else at' l j:=by
 unfold at'
 rw[aC,aC,List.getElem?_set]
 by_cases h:i=j
 ·by_cases h2:j<l.length
  ·rw[aq h,aq (by lia),aq ⟨h,h2⟩];rfl
  ·rw[aq h,ak (by lia),ak (fun z=>h2 z.2),ba (by lia)]
 ·rw[ak h,ak (fun z=>h z.1)]
noncomputable def bump(r:List Int)(w:Nat)(a:Int):List Int:=(r.set w (at' r w-a)).set (iU w) (at' r (iU w)+a)
theorem uN(r:List Int)(w:Nat)(a:Int):(bump r w a).length=r.length:=by unfold bump;rw[eK,eK]
theorem ux{r:List Int}{w m:Nat}{a:Int}(hl:r.length=2*m)(hw:w<2*m)(j:Nat):at' (bump r w a) j=at' r j-(if j=w then a else 0)+(if j=iU w then a else 0):=by
 unfold bump
 rw[wo,wo]
 have hm:=qM hw
 have hn:=tu w
 rw[eK,hl]
 by_cases h1:j=iU w
 ·subst h1
  rw[aq ⟨rfl,hm⟩,ak hn,aq rfl]
  lia
 ·rw[ak (fun z=>h1 z.1.symm),ak h1]
  by_cases h2:j=w
  ·subst h2
   rw[aq ⟨rfl,hw⟩,aq rfl]
   lia
  ·rw[ak (fun z=>h2 z.1.symm),ak h2]
   lia
theorem vL{g g':Nat->Int}:∀{m k0:Nat},k0<m->(∀k,k≠k0->g' k=g k)->((List.range m).map g').sum=((List.range m).map g).sum+(g' k0-g k0)
 |0,_,h,_=>by lia
 | m+1,k0,h,he=>by
  rw[bJ,aj,aj,bI,bI]
  show _+(g' m+0)=_+(g m+0)+_
  by_cases c:k0=m
  ·subst c
   have e:((List.range k0).map g').sum=((List.range k0).map g).sum:=j8 fun k hk=>he k (by have:=aU.mp hk;lia)
   rw[e]
   lia
  ·rw[vL (m:=m) (k0:=k0) (by lia) he,he m (fun z=>c z.symm)]
   lia
noncomputable def ex(hs:List Int)(m:Nat)(r:List Int)(v:Int):Int:=((List.range m).map fun k=>iY (at' hs (2*k)) v (at' r (2*k+1))-iY (at' hs (2*k+1)) v (at' r (2*k+1))).sum
theorem zC(n v a b:Int):iY n v (a+b)=iY n v a+iY n v b:=by unfold iY;split<;>lia
theorem zD(n v a b:Int):iY n v (a-b)=iY n v a-iY n v b:=by unfold iY;split<;>lia
theorem DH{hs r:List Int}{m w:Nat}{a:Int}(hl:r.length=2*m)(hw:w<2*m)(v:Int):ex hs m (bump r w a) v=ex hs m r v+iY (at' hs w) v a-iY (at' hs (iU w)) v a:=by
 unfold ex
 have hk:w/2<m:=by lia
 rw[vL (g:=fun k=>iY (at' hs (2*k)) v (at' r (2*k+1))-iY (at' hs (2*k+1)) v (at' r (2*k+1))) hk (fun k hne=>?_)]
 ·rw[ux hl hw]
  by_cases c:w%2=0
  ·have e1:iU w=w+1:=by unfold iU;rw[aq c]
   have e2:2*(w/2)=w:=by lia
   rw[e2,e1,ak (by lia),aq rfl,Int.sub_zero,zC,zC]
   lia
  ·have e1:iU w=w-1:=by unfold iU;rw[ak c]
   have e2:2*(w/2)+1=w:=by lia
   have e3:2*(w/2)=w-1:=by lia
   rw[e2,e3,e1,aq rfl,ak (by lia),eA,zD,zD]
   lia
 ·rw[ux hl hw,ak (by lia),ak (by unfold iU;split<;>lia),Int.sub_zero,eA]
noncomputable def push(r:List Int)(tr:List Nat)(a:Int):List Int:=tr.foldl (fun r w=>bump r w a) r
theorem qI:∀(tr:List Nat) (r:List Int) (a:Int),(push r tr a).length=r.length
 |[],_,_=>rfl
 |w::tr,r,a=>by
  show(push (bump r w a) tr a).length=_
  rw[qI tr,uN]
def qO(hs:List Int):Int->List Nat->Int->Prop
 |t,[],s=>t=s
 |t,w::tr,s=>at' hs w=t/\qO hs (at' hs (iU w)) tr s
theorem yr{hs:List Int}{m:Nat}{a:Int}{s:Int}(v:Int):∀{tr:List Nat} {r:List Int} {t:Int},r.length=2*m->(∀w∈tr,w<2*m)->qO hs t tr s->ex hs m (push r tr a) v=ex hs m r v+iY t v a-iY s v a
 |[],r,t,_,_,h=>by
  have h:t=s:=h
  subst h
  show ex hs m r v=_
  lia
 |w::tr,r,t,hl,hw,h=>by
  show ex hs m (push (bump r w a) tr a) v=_
  obtain⟨h1,h2⟩:=h
  rw[yr v (by rw[uN];exact hl) (fun x hx=>hw x (aF _ hx)) h2,DH hl (hw w (aM ..)),h1]
  lia
theorem An(a:Int)(n:Nat):a*((n+1:Nat):Int)=a*(n:Int)+a:=by rw[Int.natCast_add,dF];show _+a*1=_;rw[Int.mul_one]
theorem rO{m:Nat}{a:Int}(j:Nat):∀{tr:List Nat} {r:List Int},r.length=2*m->(∀w∈tr,w<2*m)->at' (push r tr a) j=at' r j-a*(tr.count j:Int)+a*(tr.count (iU j):Int)
 |[],r,_,_=>by
  show at' r j=at' r j-a*0+a*0
  lia
 | w::tr,r,hl,hw=>by
  show at' (push (bump r w a) tr a) j=_
  have hm:(j=iU w)↔(w=iU j):=⟨fun z=>by rw[z,Al],fun z=>by rw[z,Al]⟩
  rw[rO j (by rw[uN];exact hl) (fun x hx=>hw x (aF _ hx)),ux hl (hw w (aM ..)),List.count_cons,List.count_cons]
  by_cases c1:j=w
  ·by_cases c2:j=iU w
   ·exact absurd (c2.symm.trans c1) (tu w)
   ·rw[aq c1,ak c2,aq (by simp[c1]),ak (by simp;exact fun z=>c2 (hm.mpr z)),An]
    simp only[Nat.add_zero]
    lia
  ·by_cases c2:j=iU w
   ·rw[ak c1,aq c2,ak (by simp;exact fun z=>c1 z.symm),aq (by simp;exact hm.mp c2),An]
    simp only[Nat.add_zero]
    lia
   ·rw[ak c1,ak c2,ak (by simp;exact fun z=>c1 z.symm),ak (by simp;exact fun z=>c2 (hm.mpr z))]
    simp only[Nat.add_zero]
    lia
end Fl
namespace Fl
abbrev Cb:=List (Int×Option Nat)
noncomputable def seen(cb:Cb)(v:Int):Bool:=decide (v∈cb.map (·.1))
noncomputable def jE(hs r:List Int):Cb->List Nat->Cb
 |cb,[]=>cb
 |cb,w::ws=>jE hs r (if 0<at' r w/\seen cb (at' hs w)=false then cb++[(at' hs w,some w)]else cb) ws
noncomputable def je(wf:Int->List Nat)(hs r:List Int)(s:Int):Nat->Cb
 |0=>[(s,none)]
 |k+1=>match(je wf hs r s k)[k]? with
  |some p=>jE hs r (je wf hs r s k) (wf p.1)
  |none=>je wf hs r s k
structure Cam(hs r:List Int)(m:Nat)(s:Int)(cb:Cb):Prop where
 nd:(cb.map (·.1)).Nodup
 first:cb[0]? =some (s,none)
 came:∀i v o,cb[i]? =some (v,o)->0<i->∃w,o=some w/\w<2*m/\0<at' r w/\at' hs w=v/\∃j u,j<i/\(cb[j]?.map (·.1))=some u/\at' hs (iU w)=u
section
variable{hs r:List Int}{m:Nat}{s:Int}
theorem Cam.put{cb:Cb}(h:Cam hs r m s cb){w:Nat}{j:Nat}{u:Int}(hw:w<2*m)(hp:0<at' r w)(hn:seen cb (at' hs w)=false)(hj:(cb[j]?.map (·.1))=some u)(hu:at' hs (iU w)=u):Cam hs r m s (cb++[(at' hs w,some w)]):=by
 have hlen:0<cb.length:=by
  have:=h.first
  cases cb with
  |nil=>cases this
  |cons _ _=>simp
 have hjl:j<cb.length:=by
  cases e:cb[j]? with
  |none=>rw[e]at hj;cases hj
  |some p=>exact(au.mp e).1
 refine⟨?_,?_,?_⟩
 ·rw[aj,fj]
  refine⟨h.nd,by simp,fun a ha b hb=>?_⟩
  simp at hb
  subst hb
  intro z
  subst z
  unfold seen at hn
  rw[de]at hn
  exact hn ha
 ·rw[bp hlen]
  exact h.first
 ·intro i v o hi h0
  by_cases c:i<cb.length
  ·rw[bp c]at hi
   obtain⟨w',h1,h2,h3,h4,j',u',h5,h6,h7⟩:=h.came i v o hi h0
   exact⟨w',h1,h2,h3,h4,j',u',h5,by rw[bp (by lia)];exact h6,h7⟩
  ·rw[cB (by lia)]at hi
   have:i-cb.length=0:=by
    cases e:i-cb.length with
    |zero=>rfl
    |succ n=>rw[e]at hi;simp at hi
   rw[this]at hi
   simp at hi
   obtain⟨rfl,rfl⟩:=hi
   exact⟨w,rfl,hw,hp,rfl,j,u,by lia,by rw[bp hjl];exact hj,hu⟩
theorem vy:∀{ws:List Nat} {cb:Cb} {j:Nat} {u:Int},Cam hs r m s cb->(cb[j]?.map (·.1))=some u->(∀w∈ws,w<2*m/\at' hs (iU w)=u)->Cam hs r m s (jE hs r cb ws)
 |[],_,_,_,h,_,_=>h
 | w::ws,cb,j,u,h,hj,hw=>by
  unfold jE
  have h1:=hw w (aM ..)
  have hjl:j<cb.length:=by
   cases e:cb[j]? with
   |none=>rw[e]at hj;cases hj
   |some p=>exact(au.mp e).1
  split
  ·rename_i c
   exact vy (j:=j) (u:=u) (h.put h1.1 c.1 c.2 hj h1.2) (by rw[bp hjl];exact hj) fun x hx=>hw x (aF _ hx)
  ·exact vy h hj fun x hx=>hw x (aF _ hx)
theorem oq:∀(ws:List Nat) (cb:Cb),∃l,jE hs r cb ws=cb++l
 |[],cb=>⟨[],(bh _).symm⟩
 | w::ws,cb=>by
  unfold jE
  split
  ·obtain⟨l,e⟩:=oq ws (cb++[(at' hs w,some w)])
   exact⟨(at' hs w,some w)::l,by rw[e,aQ];rfl⟩
  ·exact oq ws cb
theorem Ay:∀{ws:List Nat} {cb:Cb} {w:Nat},w∈ws->0<at' r w->at' hs w∈(jE hs r cb ws).map (·.1)
 | x::ws,cb,w,h,hp=>by
  unfold jE
  rcases aS.mp h with rfl|h
  ·by_cases c:seen cb (at' hs w)=false
   ·rw[aq ⟨hp,c⟩]
    obtain⟨l,e⟩:=oq (hs:=hs) (r:=r) ws (cb++[(at' hs w,some w)])
    rw[e]
    simp
   ·rw[ak (fun z=>c z.2)]
    obtain⟨l,e⟩:=oq (hs:=hs) (r:=r) ws cb
    rw[e,aj,bu]
    left
    unfold seen at c
    simpa using c
  ·exact Ay h hp
end
section
variable{wf:Int->List Nat}{hs r:List Int}{m:Nat}{s:Int}
theorem mF(hwf:∀u,∀w∈wf u,w<2*m/\at' hs (iU w)=u):∀k,Cam hs r m s (je wf hs r s k)
 | 0=>⟨by simp[je],rfl,fun i v o h h0=>by
   cases i with
   |zero=>lia
   |succ i=>simp[je]at h⟩
 | k+1=>by
  unfold je
  have ih:=mF hwf k
  split
  ·rename_i p e
   exact vy ih (j:=k) (u:=p.1) (by rw[e];rfl) (hwf p.1)
  ·exact ih
theorem wZ(k:Nat):∃l,je wf hs r s (k+1)=je wf hs r s k++l:=by
 rw[je]
 split
 ·exact oq _ _
 ·exact⟨[],(bh _).symm⟩
theorem sY{k:Nat}(h:(je wf hs r s k).length<=k):∀j,je wf hs r s (k+j)=je wf hs r s k
 |0=>rfl
 |j+1=>by
  have ih:=sY h j
  show je wf hs r s (k+j+1)=_
  rw[je,ih,ba (by lia)]
theorem zO:∀{k:Nat} {i:Nat} {p:Int×Option Nat} {w:Nat},i<k->(je wf hs r s k)[i]? =some p->w∈wf p.1->0<at' r w->at' hs w∈(je wf hs r s k).map (·.1)
 | k+1,i,p,w,hi,hp,hw,h0=>by
  obtain⟨l,e⟩:=wZ (wf:=wf) (hs:=hs) (r:=r) (s:=s) k
  by_cases c:i<(je wf hs r s k).length
  ·rw[e,bp c]at hp
   by_cases c2:i=k
   ·subst c2
    rw[je,hp]
    exact Ay hw h0
   ·rw[e,aj,bu]
    left
    exact zO (by lia) hp hw h0
  ·by_cases c3:(je wf hs r s k).length<=k
   ·have:=sY c3 1
    rw[this,ba (by lia)]at hp
    cases hp
   ·lia
end
end Fl
namespace Fl
noncomputable def lk(cb:Cb)(v:Int):Option Nat:=(cb.find? fun p=>decide (p.1=v)).bind (·.2)
theorem tO{cb:Cb}(nd:(cb.map (·.1)).Nodup){i:Nat}{v:Int}{o:Option Nat}(h:cb[i]? =some (v,o)):lk cb v=o:=by
 unfold lk
 induction cb generalizing i with
 |nil=>cases h
 | cons p cb ih=>
  rw[ag]at nd
  have nd':=bt.mp nd
  rw[List.find?_cons]
  cases i with
  |zero=>
   simp at h
   subst h
   simp
  |succ i=>
   simp at h
   have hm:v∈cb.map (·.1):=aL.mpr ⟨(v,o),ay h,rfl⟩
   have hne:p.1≠v:=fun z=>nd'.1 (z▸hm)
   rw[aJ hne]
   exact ih nd'.2 h
theorem DS{cb:Cb}{v:Int}(h:v∉cb.map (·.1)):lk cb v=none:=by
 unfold lk
 rw[List.find?_eq_none.mpr fun p hp=>by
  rw[cF]
  exact fun z=>h (aL.mpr ⟨p,hp,z⟩)]
 rfl
noncomputable def jx(hs:List Int)(cb:Cb):Nat->Int->List Nat
 |0,_=>[]
 |f+1,v=>match lk cb v with
  |some w=>w::jx hs cb f (at' hs (iU w))
  |none=>[]
noncomputable def key(cb:Cb)(i:Nat):Option Int:=cb[i]?.map (·.1)
theorem DP{cb:Cb}(nd:(cb.map (·.1)).Nodup){i j:Nat}{v:Int}(h1:key cb i=some v)(h2:key cb j=some v):i=j:=by
 unfold key at h1 h2
 rw [<- aE] at h1 h2
 obtain⟨a,b⟩:=au.mp h1
 obtain⟨c,d⟩:=au.mp h2
 exact(gY nd).mp (b.trans d.symm)
structure Good(hs r:List Int)(m:Nat)(cb:Cb)(i:Nat)(tr:List Nat):Prop where
 up:∀w∈tr,w<2*m/\0<at' r w/\∃k j,j<k/\k<=i/\key cb k=some (at' hs w)/\key cb j=some (at' hs (iU w))
 nd:tr.Nodup
section
variable{hs r:List Int}{m:Nat}{s:Int}{cb:Cb}
theorem AK(C:Cam hs r m s cb):∀(i:Nat) (v:Int) (o:Option Nat),cb[i]? =some (v,o)->∀f,i<=f->qO hs v (jx hs cb f v) s/\Good hs r m cb i (jx hs cb f v)/\(0<i->jx hs cb f v≠[]):=by
 intro i
 induction i using Nat.strongRecOn with
 | ind i ih=>
  intro v o h f hf
  by_cases h0:i=0
  ·subst h0
   have e:=C.first
   rw[h]at e
   have ho:o=none:=bS Prod.snd (az e)
   have hv:v=s:=bS Prod.fst (az e)
   have hl:=tO C.nd h
   rw[ho]at hl
   have ht:jx hs cb f v=[]:=by
    cases f with
    |zero=>rfl
    |succ f=>unfold jx;rw[hl]
   rw[ht]
   exact⟨hv,⟨(fun w hw=>by cases hw),.nil⟩,fun z=>by lia⟩
  ·obtain⟨w,rfl,h2,h3,h4,j,u,h5,h6,h7⟩:=C.came i v o h (by lia)
   have hl:=tO C.nd h
   obtain⟨f',rfl⟩:∃f',f=f'+1:=⟨f-1,by lia⟩
   have ht:jx hs cb (f'+1) v=w::jx hs cb f' u:=by
    rw[jx,hl]
    dsimp only
    rw[h7]
   obtain⟨p,hp⟩:∃p,cb[j]? =some p:=by
    cases e:cb[j]? with
    |none=>rw[e]at h6;cases h6
    |some p=>exact⟨p,rfl⟩
   have hpu:p.1=u:=by rw[hp]at h6;exact az h6
   obtain⟨p1,p2⟩:=p
   dsimp only at hpu
   subst hpu
   obtain⟨t1,t2,_⟩:=ih j h5 p1 p2 hp f' (by lia)
   rw[ht]
   have kv:key cb i=some v:=by unfold key;rw[h];rfl
   refine⟨⟨h4,by rw[h7];exact t1⟩,⟨fun x hx=>?_,?_⟩,fun _=>by simp⟩
   ·rcases aS.mp hx with rfl|hx
    ·exact⟨h2,h3,i,j,h5,ai _,by rw[h4];exact kv,by rw[h7];exact h6⟩
    ·obtain⟨a,b,k,l,c1,c2,c3,c4⟩:=t2.up x hx
     exact⟨a,b,k,l,c1,by lia,c3,c4⟩
   ·refine bt.mpr ⟨fun hm=>?_,t2.nd⟩
    obtain⟨a,b,k,l,c1,c2,c3,c4⟩:=t2.up w hm
    rw[h4]at c3
    have:=DP C.nd kv c3
    lia
structure Rooms(m:Nat)(cap:Nat->Int)(r:List Int):Prop where
 len:r.length=2*m
 pos:∀j,0<=at' r j
 two:∀k,k<m->at' r (2*k)+at' r (2*k+1)=cap k
theorem Fz{l:List Nat}(nd:l.Nodup)(j:Nat):l.count j=if j∈l then 1 else 0:=by
 by_cases h:j∈l
 ·rw[aq h]
  have h1:=List.nodup_iff_count.mp nd j
  have h2:=List.count_pos_iff.mpr h
  lia
 ·rw[ak h];exact List.count_eq_zero.mpr h
theorem Rooms.push{cap:Nat->Int}(R:Rooms m cap r){tr:List Nat}(nd:tr.Nodup)(hw:∀w∈tr,w<2*m){a:Int}(ha:0<=a)(hm:∀w∈tr,a<=at' r w):Rooms m cap (push r tr a):=by
 refine⟨by rw[qI];exact R.len,fun j=>?_,fun k hk=>?_⟩
 ·rw[rO j R.len hw,Fz nd j]
  have h0:0<=a*(tr.count (iU j):Int):=ip ha (gC _)
  by_cases h:j∈tr
  ·rw[aq h]
   have:=hm j h
   show 0<=at' r j-a*1+_
   lia
  ·rw[ak h]
   have:=R.pos j
   show 0<=at' r j-a*0+_
   lia
 ·rw[rO _ R.len hw,rO _ R.len hw]
  have e1:iU (2*k)=2*k+1:=by unfold iU;rw[aq (by lia)]
  have e2:iU (2*k+1)=2*k:=by unfold iU;rw[ak (by lia)];lia
  rw[e1,e2]
  have:=R.two k hk
  lia
end
end Fl
namespace Fl
structure Net(wf:Int->List Nat)(hs:List Int)(m n:Nat):Prop where
 len:hs.length=2*m
 from':∀u,∀w∈wf u,w<2*m/\at' hs (iU w)=u
 knot:∀w,w<2*m->0<=at' hs w/\at' hs w<n
 all:∀w,w<2*m->w∈wf (at' hs (iU w))
noncomputable def kZ(r:List Int):List Nat->Int
 |[]=>0
 |[w]=>at' r w
 |w::x::tr=>if kZ r (x::tr)<at' r w then kZ r (x::tr)else at' r w
theorem tq(r:List Int):∀{tr:List Nat} {w:Nat},w∈tr->kZ r tr<=at' r w
 |[],_,h=>by cases h
 |[x],w,h=>by rw[aV.mp h];exact bA _
 | y::x::tr,w,h=>by
  unfold kZ
  rcases aS.mp h with rfl|h
  ·split<;>lia
  ·have:=tq r h
   split<;>lia
theorem zx(r:List Int):∀{tr:List Nat},tr≠[]->(∀w∈tr,0<at' r w)->0<kZ r tr
 |[],h,_=>absurd rfl h
 |[x],_,h=>h x (aV.mpr rfl)
 |y::x::tr,_,h=>by
  unfold kZ
  have h1:=h y (aM ..)
  have h2:=zx r (tr:=x::tr) (by simp) fun w hw=>h w (aF _ hw)
  split<;>lia
section
variable(wf:Int->List Nat)(hs:List Int)(n:Nat)(s t:Int)
noncomputable def jw(r:List Int):Cb:=je wf hs r s n
noncomputable def kq(r:List Int):List Nat:=jx hs (jw wf hs n s r) n t
noncomputable def kN(r:List Int):Option (List Int):=if kq wf hs n s t r=[]then none else some (push r (kq wf hs n s t r) (kZ r (kq wf hs n s t r)))
inductive Runs:List Int->List Int->Prop
 |done (r:List Int):Runs r r
 |step {r r1 r':List Int}:kN wf hs n s t r=some r1->Runs r1 r'->Runs r r'
end
section
variable{wf:Int->List Nat}{hs:List Int}{n:Nat}{s t:Int}
theorem Runs.snoc{r r' r2:List Int}(h:Runs wf hs n s t r r')(e:kN wf hs n s t r'=some r2):Runs wf hs n s t r r2:=by
 induction h with
 |done r=>exact .step e (.done _)
 |step a _ ih=>exact .step a (ih e)
theorem Ck{r a b:List Int}(h1:Runs wf hs n s t r a)(e1:kN wf hs n s t a=none)(h2:Runs wf hs n s t r b)(e2:kN wf hs n s t b=none):a=b:=by
 induction h1 with
 |done r=>
  cases h2 with
  |done _=>rfl
  |step x _=>rw[e1]at x;cases x
 | step x _ ih=>
  cases h2 with
  |done _=>rw[e2]at x;cases x
  |step y z=>
   rw[x]at y
   cases y
   exact ih e1 z
variable{m:Nat}{r:List Int}
theorem xv(N:Net wf hs m n)(hs0:0<=s/\s<n)(k:Nat):∀v:Int,v∈(je wf hs r s k).map (·.1)->0<=v/\v<(n:Int):=fun v hv=>by
 obtain⟨p,hp,rfl⟩:=aL.mp hv
 obtain⟨i,hi,e⟩:=bq.mp hp
 have C:=mF (r:=r) (s:=s) N.from' k
 have he:(je wf hs r s k)[i]? =some p:=by rw[gE hi,e]
 cases i with
 |zero=>
  have:=C.first
  rw[he]at this
  cases this
  exact hs0
 |succ i=>
  obtain⟨w,_,h2,_,h4,_⟩:=C.came (i+1) p.1 p.2 he (by lia)
  rw [<- h4]
  exact N.knot w h2
theorem Dm{l:List Int}(nd:l.Nodup):∀{n:Nat},(∀v:Int,v∈l->0<=v/\v<(n:Int))->l.length<=n:=fun{n} h=>by
 have h1:(l.map Int.toNat).Nodup:=by
  unfold List.Nodup at nd ⊢
  rw[bK]
  exact nd.imp_of_mem fun{a b} ha hb z e=>z (by have:=h a ha;have:=h b hb;lia)
 have h2:∀x∈l.map Int.toNat,x∈List.range n:=fun x hx=>by
  obtain⟨v,hv,rfl⟩:=aL.mp hx
  have:=h v hv
  exact aU.mpr (by lia)
 have h3:(l.map Int.toNat).length<=(List.range n).length:=by
  have key:∀(a b:List Nat),a.Nodup->(∀x∈a,x∈b)->a.length<=b.length:=by
   intro a
   induction a with
   |nil=>intro b _ _;exact bj _
   |cons x a ih=>
    intro b nd hb
    have nd':=bt.mp nd
    have hx:=hb x (aM ..)
    have h4:=ih (b.erase x) nd'.2 fun y hy=>(List.mem_erase_of_ne (fun z:y = x=>nd'.1 (by rw [<- z]; exact hy))).mpr (hb y (aF _ hy))
    rw[List.length_erase_of_mem hx]at h4
    have:=List.length_pos_of_mem hx
    rw[List.length_cons]
    lia
  exact key _ _ h1 h2
 rw[ae,bg]at h3
 exact h3
theorem nG(N:Net wf hs m n)(hs0:0<=s/\s<n)(k:Nat):(je wf hs r s k).length<=n:=by
 have:=Dm (mF (r:=r) (s:=s) N.from' k).nd (xv N hs0 k)
 rw[ae]at this
 exact this
theorem Ac(N:Net wf hs m n)(hs0:0<=s/\s<n){w:Nat}(hw:w<2*m)(h0:0<at' r w)(hf:at' hs (iU w)∈(jw wf hs n s r).map (·.1)):at' hs w∈(jw wf hs n s r).map (·.1):=by
 obtain⟨p,hp,e⟩:=aL.mp hf
 obtain⟨i,hi,e2⟩:=bq.mp hp
 have:=nG (r:=r) N hs0 n
 unfold jw at hi
 exact zO (k:=n) (i:=i) (p:=p) (by lia) (by rw[gE hi];exact bS some e2) (by rw[e];exact N.all w hw) h0
theorem Cf(N:Net wf hs m n):s∈(jw wf hs n s r).map (·.1):=by
 have:=(mF (r:=r) (s:=s) N.from' n).first
 exact aL.mpr ⟨_,ay this,rfl⟩
theorem wC(N:Net wf hs m n)(hst:s≠t)(hs0:0<=s/\s<n)(h:kN wf hs n s t r=none):t∉(jw wf hs n s r).map (·.1):=fun ht=>by
 obtain⟨p,hp,e⟩:=aL.mp ht
 obtain⟨i,hi,e2⟩:=bq.mp hp
 have C:=mF (r:=r) (s:=s) N.from' n
 have he:(je wf hs r s n)[i]? =some (t,p.2):=by
  unfold jw at hi e2
  rw [gE hi,e2,<- e]
 have hn:kq wf hs n s t r=[]:=by
  unfold kN at h
  split at h
  ·assumption
  ·cases h
 have hl:=nG (r:=r) N hs0 n
 unfold jw at hi
 have G:=AK C i t p.2 he n (by lia)
 by_cases h0:i=0
 ·subst h0
  have:=C.first
  rw[he]at this
  have:=bS Prod.fst (az this)
  exact hst this.symm
 ·exact G.2.2 (by lia) hn
end
end Fl
namespace Fl
section
variable{wf:Int->List Nat}{hs:List Int}{m n:Nat}{s t:Int}{r:List Int}{cap:Nat->Int}
theorem wB(N:Net wf hs m n)(hst:s≠t)(hs0:0<=s/\s<(n:Int))(h:kq wf hs n s t r≠[]):qO hs t (kq wf hs n s t r) s/\∃i,Good hs r m (jw wf hs n s r) i (kq wf hs n s t r):=by
 have C:=mF (r:=r) (s:=s) N.from' n
 by_cases ht:t∈(jw wf hs n s r).map (·.1)
 ·obtain⟨p,hp,e⟩:=aL.mp ht
  obtain⟨i,hi,e2⟩:=bq.mp hp
  have he:(je wf hs r s n)[i]? =some (t,p.2):=by
   unfold jw at hi e2
   rw [gE hi,e2,<- e]
  have hl:=nG (r:=r) N hs0 n
  unfold jw at hi
  have G:=AK C i t p.2 he n (by lia)
  exact⟨G.1,i,G.2.1⟩
 ·refine absurd ?_ h
  unfold kq
  cases n with
  |zero=>rfl
  |succ k=>rw[jx,DS ht]
theorem wY(N:Net wf hs m n)(hst:s≠t)(hs0:0<=s/\s<(n:Int))(R:Rooms m cap r){r1:List Int}(h:kN wf hs n s t r=some r1):Rooms m cap r1/\(∀v,v≠s->v≠t->ex hs m r1 v=ex hs m r v)/\ex hs m r t+1<=ex hs m r1 t:=by
 unfold kN at h
 split at h
 ·cases h
 ·rename_i hne
  cases h
  obtain⟨T,i,G⟩:=wB N hst hs0 hne
  have hw:∀w∈kq wf hs n s t r,w<2*m:=fun w hw=>(G.up w hw).1
  have hp:=zx r hne fun w hw=>(G.up w hw).2.1
  have E:=fun v=>yr (a:=kZ r (kq wf hs n s t r)) v R.len hw T
  refine⟨R.push G.nd hw (by lia) fun w hw=>tq r hw,fun v h1 h2=>?_,?_⟩
  ·rw[E v,ky (fun z=>h2 z.symm),ky (fun z=>h1 z.symm)]
   lia
  ·rw[E t,qd,ky hst]
   lia
noncomputable def wj(cap:Nat->Int)(m:Nat):Int:=((List.range m).map cap).sum
theorem qC{α:Type}{f g:α->Int}:∀{l:List α},(∀p∈l,f p<=g p)->(l.map f).sum<=(l.map g).sum
 |[],_=>bA _
 |a::l,h=>by
  rw[ag,ag,List.sum_cons,List.sum_cons]
  have:=h a (aM ..)
  have:=qC fun p hp=>h p (aF _ hp)
  lia
theorem Ir(R:Rooms m cap r)(v:Int):ex hs m r v<=wj cap m:=by
 unfold ex wj
 refine qC fun k hk=>?_
 have h1:=R.pos (2*k+1)
 have h2:=R.pos (2*k)
 have h3:=R.two k (aU.mp hk)
 unfold iY
 split<;>split<;>lia
theorem Ci(N:Net wf hs m n)(hst:s≠t)(hs0:0<=s/\s<(n:Int)){r':List Int}(h:Runs wf hs n s t r r'):Rooms m cap r->Rooms m cap r'/\∀v,v≠s->v≠t->ex hs m r' v=ex hs m r v:=by
 induction h with
 |done r=>exact fun R=>⟨R,fun _ _ _=>rfl⟩
 |step e _ ih=>
  intro R
  obtain⟨R1,E1,_⟩:=wY N hst hs0 R e
  obtain⟨R2,E2⟩:=ih R1
  exact⟨R2,fun v h1 h2=>(E2 v h1 h2).trans (E1 v h1 h2)⟩
theorem oP(N:Net wf hs m n)(hs0:0<=s/\s<(n:Int))(R:Rooms m cap r){k:Nat}(hk:k<m):
  (at' hs (2*k+1)∈(jw wf hs n s r).map (·.1)->at' hs (2*k)∉(jw wf hs n s r).map (·.1)->at' r (2*k+1)=cap k)/\
  (at' hs (2*k)∈(jw wf hs n s r).map (·.1)->at' hs (2*k+1)∉(jw wf hs n s r).map (·.1)->at' r (2*k+1)=0):=by
 have e1:iU (2*k)=2*k+1:=by unfold iU;rw[aq (by lia)]
 have e2:iU (2*k+1)=2*k:=by unfold iU;rw[ak (by lia)];lia
 have h1:=R.pos (2*k+1)
 have h2:=R.pos (2*k)
 have h3:=R.two k hk
 refine⟨fun a b=>?_,fun a b=>?_⟩
 ·have:¬0<at' r (2*k):=fun z=>b (Ac N hs0 (by lia) z (by rw[e1];exact a))
  lia
 ·have:¬0<at' r (2*k+1):=fun z=>b (Ac N hs0 (by lia) z (by rw[e2];exact a))
  lia
end
end Fl
namespace Fl
theorem qi(g:Nat->Int)(a:Nat):∀b,((List.range (a+b)).map g).sum=((List.range a).map g).sum+((List.range b).map fun k=>g (a+k)).sum
 |0=>by show _=_+0;rw[eA];rfl
 |b+1=>by
  rw [<- gp,bJ,aj,bI,qi g a b,bJ,aj,bI]
  show _+(g (a+b)+0)=_+(_+(g (a+b)+0))
  lia
theorem vK(g:Nat->Int):∀b,((List.range (2*b)).map g).sum=((List.range b).map fun k=>g (2*k)+g (2*k+1)).sum
 |0=>rfl
 |b+1=>by
  rw[show 2*(b+1)=2*b+1+1 by lia,bJ,aj,bI,bJ,aj,bI,vK g b,bJ,aj,bI]
  show _+(g (2*b)+0)+(g (2*b+1)+0)=_+(g (2*b)+g (2*b+1)+0)
  lia
theorem A8(g:Nat->Int){n i:Nat}(hi:i<n)(h:∀k,k<n->k≠i->g k=0):((List.range n).map g).sum=g i:=by
 have h1:((List.range n).map g).sum=((List.range n).map fun k=>if k=i then g i else 0).sum:=j8 fun k hk=>by
  by_cases c:k=i
  ·rw[aq c,c]
  ·rw[ak c];exact h k (aU.mp hk) c
 have h2:=vL (g:=fun _=>0) (g':=fun k=>if k=i then g i else 0) hi fun k hk=>ak hk
 rw[h1,h2,mE,aq rfl]
 lia
structure Dbl(ns:List Int)(ts:List (Int×Int))(sp:Int->Int)(hs:List Int):Prop where
 nd:ns.Nodup
 spot:∀(i:Nat) (p:Int),ns[i]? =some p->sp p=2+(i:Int)
 ends:∀t∈ts,t.1∈ns/\t.2∈ns
 src:∀i:Nat,i<ns.length->at' hs (2*i)=2+(i:Int)/\at' hs (2*i+1)=0
 snk:∀i:Nat,i<ns.length->at' hs (2*(ns.length+i))=1/\at' hs (2*(ns.length+i)+1)=2+(ns.length:Int)+i
 tie:∀(j:Nat) (t:Int×Int),ts[j]? =some t->(at' hs (2*(ns.length+ns.length+2*j))=sp t.2+ns.length/\at' hs (2*(ns.length+ns.length+2*j)+1)=sp t.1)/\(at' hs (2*(ns.length+ns.length+(2*j+1)))=sp t.1+ns.length/\at' hs (2*(ns.length+ns.length+(2*j+1))+1)=sp t.2)
section
variable{ns:List Int}{ts:List (Int×Int)}{sp:Int->Int}{hs r:List Int}
noncomputable def twAt(ns:List Int)(r:List Int)(ts:List (Int×Int))(j:Nat):Tw:=⟨(ts.getD j (0,0)).1,(ts.getD j (0,0)).2,at' r (2*(ns.length+ns.length+2*j)+1),at' r (2*(ns.length+ns.length+(2*j+1))+1)⟩
noncomputable def twS(ns:List Int)(r:List Int)(ts:List (Int×Int)):List Tw:=(List.range ts.length).map (twAt ns r ts)
theorem getD_at{l:List (Int×Int)}{j:Nat}(h:j<l.length):l[j]? =some (l.getD j (0,0)):=by
 rw[aC,gE h];rfl
theorem Dbl.spI(D:Dbl ns ts sp hs){i:Nat}{p q:Int}(hp:ns[i]? =some p)(hq:q∈ns):sp q=2+(i:Int)↔q=p:=by
 obtain⟨k,hk,e⟩:=bq.mp hq
 have hk':ns[k]? =some q:=by rw[gE hk,e]
 constructor
 ·intro h
  rw[D.spot k q hk']at h
  have:k=i:=by lia
  subst this
  rw[hp]at hk'
  exact(az hk').symm
 ·rintro rfl
  exact D.spot i q hp
theorem Dbl.spB(D:Dbl ns ts sp hs){q:Int}(hq:q∈ns):2<=sp q/\sp q<2+(ns.length:Int):=by
 obtain⟨k,hk,e⟩:=bq.mp hq
 rw[D.spot k q (by rw[gE hk,e])]
 lia
theorem rW{a b c d v:Int}(h:a=b↔c=d):iY a b v=iY c d v:=by
 unfold iY
 by_cases x:a=b
 ·rw[aq x,aq (h.mp x)]
 ·rw[ak x,ak fun z=>x (h.mpr z)]
theorem Dbl.left(D:Dbl ns ts sp hs){i:Nat}{p:Int}(hp:ns[i]? =some p):ex hs (ns.length+ns.length+2*ts.length) r (2+(i:Int))=at' r (2*i+1)-kB (twS ns r ts) p:=by
 have hi:=(au.mp hp).1
 unfold ex
 rw[qi,qi,vK]
 have h1:((List.range ns.length).map fun k=>iY (at' hs (2*k)) (2+(i:Int)) (at' r (2*k+1))-iY (at' hs (2*k+1)) (2+(i:Int)) (at' r (2*k+1))).sum=at' r (2*i+1):=by
  rw[A8 _ hi fun k hk hne=>?_]
  ·rw[(D.src i hi).1,(D.src i hi).2,qd,ky (by lia)];lia
  ·rw[(D.src k hk).1,(D.src k hk).2,ky (by lia),ky (by lia)];rfl
 have h2:((List.range ns.length).map fun k=>iY (at' hs (2*(ns.length+k))) (2+(i:Int)) (at' r (2*(ns.length+k)+1))-iY (at' hs (2*(ns.length+k)+1)) (2+(i:Int)) (at' r (2*(ns.length+k)+1))).sum=0:=by
  rw [<- mE (List.range ns.length)]
  refine j8 fun k hk=>?_
  have hk:=aU.mp hk
  rw[(D.snk k hk).1,(D.snk k hk).2,ky (by lia),ky (by lia)]
  rfl
 rw[h1,h2]
 have h3:kB (twS ns r ts) p=((List.range ts.length).map fun j=>iY (twAt ns r ts j).a p (twAt ns r ts j).x+iY (twAt ns r ts j).b p (twAt ns r ts j).y).sum:=by
  unfold kB twS
  rw[bz]
  rfl
 have h4:∀(l:List Nat) (f g:Nat->Int),(∀j∈l,f j= -g j)->(l.map f).sum= -(l.map g).sum:=fun l f g h=>by
  induction l with
  |nil=>rfl
  |cons a l ih=>
   rw[ag,ag,List.sum_cons,List.sum_cons,h a (aM ..),ih fun j hj=>h j (aF _ hj)]
   lia
 rw[h3,h4 _ _ (fun j=>iY (twAt ns r ts j).a p (twAt ns r ts j).x+iY (twAt ns r ts j).b p (twAt ns r ts j).y) fun j hj=>?_]
 ·lia
 ·have hj:=aU.mp hj
  have hg:=getD_at hj
  have hm:=ay hg
  have he:=D.ends _ hm
  obtain⟨⟨a1,a2⟩,b1,b2⟩:=D.tie j _ hg
  have l1:=D.spB he.1
  have l2:=D.spB he.2
  have n1:sp (ts.getD j (0,0)).2+ns.length≠2+(i:Int):=by lia
  have n2:sp (ts.getD j (0,0)).1+ns.length≠2+(i:Int):=by lia
  rw[a1,a2,b1,b2,ky n1,ky n2,rW (D.spI hp he.1),rW (D.spI hp he.2)]
  unfold twAt
  dsimp only
  lia
theorem Dbl.right(D:Dbl ns ts sp hs){i:Nat}{p:Int}(hp:ns[i]? =some p):ex hs (ns.length+ns.length+2*ts.length) r (2+(ns.length:Int)+i)=inR (twS ns r ts) p-at' r (2*(ns.length+i)+1):=by
 have hi:=(au.mp hp).1
 unfold ex
 rw[qi,qi,vK]
 have h1:((List.range ns.length).map fun k=>iY (at' hs (2*k)) (2+(ns.length:Int)+i) (at' r (2*k+1))-iY (at' hs (2*k+1)) (2+(ns.length:Int)+i) (at' r (2*k+1))).sum=0:=by
  rw [<- mE (List.range ns.length)]
  refine j8 fun k hk=>?_
  have hk:=aU.mp hk
  rw[(D.src k hk).1,(D.src k hk).2,ky (by lia),ky (by lia)]
  rfl
 have h2:((List.range ns.length).map fun k=>iY (at' hs (2*(ns.length+k))) (2+(ns.length:Int)+i) (at' r (2*(ns.length+k)+1))-iY (at' hs (2*(ns.length+k)+1)) (2+(ns.length:Int)+i) (at' r (2*(ns.length+k)+1))).sum= -at' r (2*(ns.length+i)+1):=by
  rw[A8 _ hi fun k hk hne=>?_]
  ·rw[(D.snk i hi).1,(D.snk i hi).2,qd,ky (by lia)];lia
  ·rw[(D.snk k hk).1,(D.snk k hk).2,ky (by lia),ky (by lia)];rfl
 rw[h1,h2]
 have h3:inR (twS ns r ts) p=((List.range ts.length).map fun j=>iY (twAt ns r ts j).b p (twAt ns r ts j).x+iY (twAt ns r ts j).a p (twAt ns r ts j).y).sum:=by
  unfold inR twS
  rw[bz]
  rfl
 rw[h3,j8 (g:=fun j=>iY (twAt ns r ts j).b p (twAt ns r ts j).x+iY (twAt ns r ts j).a p (twAt ns r ts j).y) fun j hj=>?_]
 ·lia
 ·have hj:=aU.mp hj
  have hg:=getD_at hj
  have hm:=ay hg
  have he:=D.ends _ hm
  obtain⟨⟨a1,a2⟩,b1,b2⟩:=D.tie j _ hg
  have l1:=D.spB he.1
  have l2:=D.spB he.2
  have i1:sp (ts.getD j (0,0)).1+ns.length=2+(ns.length:Int)+i↔(ts.getD j (0,0)).1=p:=⟨fun z=>(D.spI hp he.1).mp (by lia),fun z=>by have:=(D.spI hp he.1).mpr z;lia⟩
  have i2:sp (ts.getD j (0,0)).2+ns.length=2+(ns.length:Int)+i↔(ts.getD j (0,0)).2=p:=⟨fun z=>(D.spI hp he.2).mp (by lia),fun z=>by have:=(D.spI hp he.2).mpr z;lia⟩
  have n1:sp (ts.getD j (0,0)).1≠2+(ns.length:Int)+i:=by lia
  have n2:sp (ts.getD j (0,0)).2≠2+(ns.length:Int)+i:=by lia
  rw[a1,a2,b1,b2,rW i1,rW i2,ky n1,ky n2]
  unfold twAt
  dsimp only
  lia
end
end Fl
namespace Fl
section
variable{ns:List Int}{ts:List (Int×Int)}{sp:Int->Int}{hs r:List Int}{wf:Int->List Nat}{pr:Int->Int}{cap:Nat->Int}
noncomputable def kh(ns:List Int):Nat:=2+(ns.length+ns.length)
noncomputable def arcs(ns:List Int)(ts:List (Int×Int)):Nat:=ns.length+ns.length+2*ts.length
noncomputable def mj(sp:Int->Int)(r:List Int)(p:Int):Int:=at' r (2*(sp p-2).toNat+1)
noncomputable def nF(ns:List Int)(sp:Int->Int)(r:List Int)(p:Int):Int:=at' r (2*(ns.length+(sp p-2).toNat)+1)
noncomputable def mh(wf:Int->List Nat)(hs:List Int)(n:Nat)(r:List Int)(v:Int):Bool:=decide (v∈(jw wf hs n 0 r).map (·.1))
structure Caps(ns:List Int)(ts:List (Int×Int))(pr:Int->Int)(cap:Nat->Int):Prop where
 src:∀(i:Nat) (p:Int),ns[i]? =some p->cap i=pr p
 snk:∀(i:Nat) (p:Int),ns[i]? =some p->cap (ns.length+i)=pr p
 tie:∀j,j<2*ts.length->∀p∈ns,pr p<cap (ns.length+ns.length+j)
theorem nL{α:Type}{f:α->Int}:∀{l:List α},(∀p∈l,0<=f p)->∀p∈l,f p<=(l.map f).sum
 |[],_,p,h=>by cases h
 | a::l,h0,p,h=>by
  rw[ag,List.sum_cons]
  have ha:=h0 a (aM ..)
  have hl:0<=(l.map f).sum:=by
   have:=qC (f:=fun _=>0) (g:=f) (l:=l) fun q hq=>h0 q (aF _ hq)
   rw[mE]at this
   exact this
  rcases aS.mp h with rfl|h
  ·lia
  ·have:=nL (fun q hq=>h0 q (aF _ hq)) p h
   lia
theorem rN{n m v:Int}(h:0<=v):0<=iY n m v:=by unfold iY;split<;>lia
theorem Ig(D:Dbl ns ts sp hs)(N:Net wf hs (arcs ns ts) (kh ns))(C:Caps ns ts pr cap)(R:Rooms (arcs ns ts) cap r)(B:∀v,v≠0->v≠1->ex hs (arcs ns ts) r v=0)(hr:kN wf hs (kh ns) 0 1 r=none):
  Full ns pr (twS ns r ts) (mj sp r) (nF ns sp r) (fun p=>mh wf hs (kh ns) r (sp p)) (fun p=>mh wf hs (kh ns) r (sp p+ns.length)):=by
 have hs0:(0:Int)<=0/\(0:Int)<(kh ns:Nat):=⟨bA _,by unfold kh;lia⟩
 have h0:(0:Int)∈(jw wf hs (kh ns) 0 r).map (·.1):=Cf N
 have h1:(1:Int)∉(jw wf hs (kh ns) 0 r).map (·.1):=wC N (by decide) hs0 hr
 have idx:∀p∈ns,∃i:Nat,ns[i]? =some p/\i<ns.length/\(sp p-2).toNat=i/\sp p=2+(i:Int):=fun p hp=>by
  obtain⟨k,hk,e⟩:=bq.mp hp
  have hk':ns[k]? =some p:=by rw[gE hk,e]
  have:=D.spot k p hk'
  exact⟨k,hk',hk,by lia,this⟩
 have tw:∀z∈twS ns r ts,∃j,j<ts.length/\z=twAt ns r ts j:=fun z hz=>by
  unfold twS at hz
  obtain⟨j,hj,e⟩:=aL.mp hz
  exact⟨j,aU.mp hj,e.symm⟩
 have ends:∀z∈twS ns r ts,z.a∈ns/\z.b∈ns:=fun z hz=>by
  obtain⟨j,hj,rfl⟩:=tw z hz
  exact D.ends _ (ay (getD_at hj))
 have pos:∀z∈twS ns r ts,0<=z.x/\0<=z.y:=fun z hz=>by
  obtain⟨j,hj,rfl⟩:=tw z hz
  exact⟨R.pos _,R.pos _⟩
 have left:∀p∈ns,mj sp r p=kB (twS ns r ts) p:=fun p hp=>by
  obtain⟨i,hi,hl,e,es⟩:=idx p hp
  have:=D.left (r:=r) hi
  have hb:=B (2+(i:Int)) (by lia) (by lia)
  unfold arcs at hb
  rw[hb]at this
  unfold mj
  rw[e]
  lia
 have right:∀p∈ns,nF ns sp r p=inR (twS ns r ts) p:=fun p hp=>by
  obtain⟨i,hi,hl,e,es⟩:=idx p hp
  have:=D.right (r:=r) hi
  have hb:=B (2+(ns.length:Int)+i) (by lia) (by lia)
  unfold arcs at hb
  rw[hb]at this
  unfold nF
  rw[e]
  lia
 have capL:∀p∈ns,0<=mj sp r p/\mj sp r p<=pr p:=fun p hp=>by
  obtain⟨i,hi,hl,e,es⟩:=idx p hp
  have h2:=R.two i (by unfold arcs;lia)
  rw[C.src i p hi]at h2
  have h3:=R.pos (2*i)
  have h4:=R.pos (2*i+1)
  unfold mj
  rw[e]
  lia
 have capR:∀p∈ns,0<=nF ns sp r p/\nF ns sp r p<=pr p:=fun p hp=>by
  obtain⟨i,hi,hl,e,es⟩:=idx p hp
  have h2:=R.two (ns.length+i) (by unfold arcs;lia)
  rw[C.snk i p hi]at h2
  have h3:=R.pos (2*(ns.length+i))
  have h4:=R.pos (2*(ns.length+i)+1)
  unfold nF
  rw[e]
  lia
 have xle:∀z∈twS ns r ts,z.x<=pr z.a/\z.y<=pr z.b:=fun z hz=>by
  obtain⟨e1,e2⟩:=ends z hz
  have nn:∀p,∀z∈twS ns r ts,0<=iY z.a p z.x+iY z.b p z.y:=fun p z hz=>by
   have:=rN (n:=z.a) (m:=p) (pos z hz).1
   have:=rN (n:=z.b) (m:=p) (pos z hz).2
   lia
  have a1:=nL (nn z.a) z hz
  have a2:=nL (nn z.b) z hz
  have b1:kB (twS ns r ts) z.a <= pr z.a:=by rw [<- left z.a e1]; exact (capL z.a e1).2
  have b2:kB (twS ns r ts) z.b <= pr z.b:=by rw [<- left z.b e2]; exact (capL z.b e2).2
  unfold kB at b1 b2
  rw[qd]at a1 a2
  have:=rN (n:=z.b) (m:=z.a) (pos z hz).2
  have:=rN (n:=z.a) (m:=z.b) (pos z hz).1
  lia
 refine⟨D.nd,ends,pos,left,right,capL,capR,fun p hp hS=>?_,fun p hp hS=>?_,fun z hz=>?_,fun z hz=>?_⟩
 ·obtain⟨i,hi,hl,e,es⟩:=idx p hp
  have:=(oP N hs0 R (k:=i) (by unfold arcs;lia)).1
  rw[(D.src i hl).1,(D.src i hl).2,C.src i p hi]at this
  unfold mh at hS
  rw[de,es]at hS
  unfold mj
  rw[e]
  exact this h0 hS
 ·obtain⟨i,hi,hl,e,es⟩:=idx p hp
  have:=(oP N hs0 R (k:=ns.length+i) (by unfold arcs;lia)).1
  rw[(D.snk i hl).1,(D.snk i hl).2,C.snk i p hi]at this
  unfold mh at hS
  rw[cF,es]at hS
  unfold nF
  rw[e]
  exact this (by rw[show(2:Int)+ns.length+i=2+i+ns.length by lia];exact hS) h1
 ·obtain⟨x1,x2⟩:=xle z hz
  obtain⟨e1,e2⟩:=ends z hz
  obtain⟨j,hj,rfl⟩:=tw z hz
  obtain⟨⟨a1,a2⟩,b1,b2⟩:=D.tie j _ (getD_at hj)
  have r1:=(oP N hs0 R (k:=ns.length+ns.length+2*j) (by unfold arcs;lia)).1
  have r2:=(oP N hs0 R (k:=ns.length+ns.length+(2*j+1)) (by unfold arcs;lia)).1
  rw[a1,a2]at r1
  rw[b1,b2]at r2
  have c1:=C.tie (2*j) (by lia) _ e1
  have c2:=C.tie (2*j+1) (by lia) _ e2
  unfold mh
  simp only[cF]
  unfold twAt at x1 x2 c1 c2 ⊢
  dsimp only at x1 x2 c1 c2 ⊢
  refine⟨fun h=>eX fun hn=>?_,fun h=>eX fun hn=>?_⟩
  ·have:=r1 h hn;lia
  ·have:=r2 h hn;lia
 ·obtain⟨j,hj,rfl⟩:=tw z hz
  obtain⟨⟨a1,a2⟩,b1,b2⟩:=D.tie j _ (getD_at hj)
  have r1:=(oP N hs0 R (k:=ns.length+ns.length+2*j) (by unfold arcs;lia)).2
  have r2:=(oP N hs0 R (k:=ns.length+ns.length+(2*j+1)) (by unfold arcs;lia)).2
  rw[a1,a2]at r1
  rw[b1,b2]at r2
  unfold mh
  simp only[cF,de]
  unfold twAt
  exact⟨r1,r2⟩
end
end Fl
namespace Fl
abbrev jQ:=Int×Int×Int
noncomputable def ji:List jQ->List Int
 |[]=>[]
 |a::r=>a.2.1::a.1::ji r
noncomputable def jM:List jQ->List Int
 |[]=>[]
 |a::r=>a.2.2::0::jM r
noncomputable def lM(as:List jQ)(k:Nat):Int:=(as.getD k (0,0,0)).2.2
theorem sr:∀as:List jQ,(ji as).length=2*as.length
 |[]=>rfl
 |a::r=>by rw[ji,List.length_cons,List.length_cons,sr r,List.length_cons];lia
theorem qE:∀as:List jQ,(jM as).length=2*as.length
 |[]=>rfl
 |a::r=>by rw[jM,List.length_cons,List.length_cons,qE r,List.length_cons];lia
theorem rV(x y:Int)(l:List Int)(i:Nat):at' (x::y::l) (i+2)=at' l i:=rfl
theorem nZ:∀(as:List jQ) (i:Nat),at' (ji as) (2*i)=(as.getD i (0,0,0)).2.1
 |[],i=>by simp[ji,at']
 |a::r,0=>rfl
 |a::r,i+1=>by rw[show 2*(i+1)=2*i+2 by lia,ji,rV,nZ r i];rfl
theorem nU:∀(as:List jQ) (i:Nat),at' (ji as) (2*i+1)=(as.getD i (0,0,0)).1
 |[],i=>by simp[ji,at']
 |a::r,0=>rfl
 |a::r,i+1=>by rw[show 2*(i+1)+1=(2*i+1)+2 by lia,ji,rV,nU r i];rfl
theorem u7:∀(as:List jQ) (i:Nat),at' (jM as) (2*i)=lM as i
 |[],i=>by simp[jM,at',lM]
 |a::r,0=>rfl
 |a::r,i+1=>by rw[show 2*(i+1)=2*i+2 by lia,jM,rV,u7 r i];rfl
theorem rP:∀(as:List jQ) (i:Nat),at' (jM as) (2*i+1)=0
 |[],i=>by simp[jM,at']
 |a::r,0=>rfl
 |a::r,i+1=>by rw[show 2*(i+1)+1=(2*i+1)+2 by lia,jM,rV,rP r i]
noncomputable def jL(as:List jQ)(u:Int):List Nat:=(List.range (2*as.length)).filter fun w=>decide (at' (ji as) (iU w)=u)
theorem EK(k:Nat):iU (2*k)=2*k+1:=by unfold iU;rw[aq (by lia)]
theorem FQ(k:Nat):iU (2*k+1)=2*k:=by unfold iU;rw[ak (by lia)];lia
theorem nu{α:Type}{l:List α}{i:Nat}{a d:α}(h:l[i]? =some a):l.getD i d=a:=by
 rw[aC,h];rfl
theorem uR{α:Type}{l:List α}{i:Nat}(d:α)(h:i<l.length):l.getD i d∈l:=by
 rw[aC,gE h]
 exact df h
theorem xo{as:List jQ}{n:Nat}(h:∀a∈as,(0<=a.1/\a.1<(n:Int))/\0<=a.2.1/\a.2.1<(n:Int)):Net (jL as) (ji as) as.length n:=by
 refine⟨sr as,fun u w hw=>?_,fun w hw=>?_,fun w hw=>?_⟩
 ·have hw:=dU.mp hw
  exact⟨aU.mp hw.1,bZ hw.2⟩
 ·by_cases c:w%2=0
  ·have e:w=2*(w/2):=by lia
   have hk:w/2<as.length:=by lia
   rw[e,nZ]
   exact(h _ (uR _ hk)).2
  ·have e:w=2*(w/2)+1:=by lia
   have hk:w/2<as.length:=by lia
   rw[e,nU]
   exact(h _ (uR _ hk)).1
 ·exact dU.mpr ⟨aU.mpr hw,aG rfl⟩
theorem Cj{as:List jQ}(h:∀a∈as,0<=a.2.2):Rooms as.length (lM as) (jM as):=by
 refine⟨qE as,fun j=>?_,fun k hk=>?_⟩
 ·by_cases c:j%2=0
  ·rw[show j=2*(j/2) by lia,u7]
   unfold lM
   by_cases hk:j/2<as.length
   ·exact h _ (uR _ hk)
   ·rw[aC,ba (by lia)]
    exact bA _
  ·rw[show j=2*(j/2)+1 by lia,rP]
   exact bA _
 ·rw[u7,rP];lia
theorem Iu(as:List jQ)(hs:List Int)(m:Nat)(v:Int):ex hs m (jM as) v=0:=by
 unfold ex
 rw [<- mE (List.range m)]
 refine j8 fun k _=>?_
 rw[rP]
 unfold iY
 split<;>split<;>rfl
theorem vO:∀(as:List jQ) (a:jQ),ji (as++[a])=ji as++[a.2.1,a.1]
 |[],a=>rfl
 |b::r,a=>by rw[List.cons_append,ji,vO r a,ji];rfl
theorem xc:∀(as:List jQ) (a:jQ),jM (as++[a])=jM as++[a.2.2,0]
 |[],a=>rfl
 |b::r,a=>by rw[List.cons_append,jM,xc r a,jM];rfl
theorem IG{l l':List Int}{i:Nat}(h:i<l.length):at' (l++l') i=at' l i:=by
 unfold at'
 rw[aC,aC,bp h]
theorem BE(as:List jQ)(a:jQ)(u:Int):jL (as++[a]) u=(jL as u++(if a.1=u then[2*as.length]else[]))++(if a.2.1=u then[2*as.length+1]else[]):=by
 unfold jL
 rw[aB,List.length_singleton,show 2*(as.length+1)=2*as.length+1+1 by lia,bJ,gz,bJ,gz]
 have e1:at' (ji (as++[a])) (iU (2*as.length))=a.1:=by
  rw[EK,nU,aC,cB (ai _),gK];rfl
 have e2:at' (ji (as++[a])) (iU (2*as.length+1))=a.2.1:=by
  rw[FQ,nZ,aC,cB (ai _),gK];rfl
 congr 1
 ·congr 1
  ·refine List.filter_congr fun w hw=>?_
   rw[vO,IG]
   rw[sr]
   exact qM (aU.mp hw)
  ·rw[eE,e1]
   by_cases c:a.1=u
   ·rw[aq c,aq (aG c)];rfl
   ·rw[ak c,ak (by simp[c])];rfl
 ·rw[eE,e2]
  by_cases c:a.2.1=u
  ·rw[aq c,aq (aG c)];rfl
  ·rw[ak c,ak (by simp[c])];rfl
noncomputable def lF(sp:Int->Int)(n pl:Int):List (Int×Int)->List jQ
 |[]=>[]
 |t::r=>(sp t.1,sp t.2+n,pl)::(sp t.2,sp t.1+n,pl)::lF sp n pl r
noncomputable def lN(sp:Int->Int)(pl:Int)(ps ts:List (Int×Int)):List jQ:=((ps.map fun p=>((0:Int),sp p.1,p.2))++ps.map fun p=>(sp p.1+ps.length,(1:Int),p.2))++lF sp ps.length pl ts
theorem AY(sp:Int->Int)(n pl:Int):∀ts,(lF sp n pl ts).length=2*ts.length
 |[]=>rfl
 |t::r=>by rw[lF,List.length_cons,List.length_cons,AY sp n pl r,List.length_cons];lia
theorem vG(sp:Int->Int)(n pl:Int):∀(ts:List (Int×Int)) (j:Nat) (t:Int×Int),ts[j]? =some t->(lF sp n pl ts)[2*j]? =some (sp t.1,sp t.2+n,pl)/\(lF sp n pl ts)[2*j+1]? =some (sp t.2,sp t.1+n,pl)
 |[],j,t,h=>by simp at h
 |u::r,0,t,h=>by cases h;exact⟨rfl,rfl⟩
 |u::r,j+1,t,h=>by
  obtain⟨a,b⟩:=vG sp n pl r j t (by simpa using h)
  rw[lF,show 2*(j+1)=2*j+1+1 by lia,show 2*j+1+1+1=(2*j+1)+1+1 by lia]
  exact⟨by rw[List.getElem?_cons_succ,List.getElem?_cons_succ];exact a,by rw[List.getElem?_cons_succ,List.getElem?_cons_succ];exact b⟩
theorem II(sp:Int->Int)(pl:Int)(ps ts:List (Int×Int)):(lN sp pl ps ts).length=ps.length+ps.length+2*ts.length:=by
 unfold lN
 rw[aB,aB,ae,ae,AY]
section
variable{sp:Int->Int}{pl:Int}{ps ts:List (Int×Int)}
theorem zZ{i:Nat}{p:Int×Int}(h:ps[i]? =some p):(lN sp pl ps ts)[i]? =some (0,sp p.1,p.2):=by
 have hi:=(au.mp h).1
 unfold lN
 rw[bp (by rw[aB,ae,ae];lia),bp (by rw[ae];exact hi),aE,h]
 rfl
theorem zY{i:Nat}{p:Int×Int}(h:ps[i]? =some p):(lN sp pl ps ts)[ps.length+i]? =some (sp p.1+ps.length,1,p.2):=by
 have hi:=(au.mp h).1
 unfold lN
 rw[bp (by rw[aB,ae,ae];lia),cB (by rw[ae];lia),ae,fE,aE,h]
 rfl
theorem rX{j:Nat}(k:Nat):(lN sp pl ps ts)[ps.length+ps.length+k]? =(lF sp ps.length pl ts)[k]?:=by
 unfold lN
 rw[cB (by rw[aB,ae,ae];lia)]
 congr 1
 rw[aB,ae,ae]
 lia
theorem Bq(nd:(ps.map (·.1)).Nodup)(hsp:∀(i:Nat) (p:Int),(ps.map (·.1))[i]? =some p->sp p=2+(i:Int))(hen:∀t∈ts,t.1∈ps.map (·.1)/\t.2∈ps.map (·.1)):Dbl (ps.map (·.1)) ts sp (ji (lN sp pl ps ts)):=by
 have get:∀i,i<ps.length->∃p,ps[i]? =some p/\sp p.1=2+(i:Int):=fun i hi=>by
  refine⟨ps[i],gE hi,hsp i _ ?_⟩
  rw[aE,gE hi];rfl
 refine⟨nd,hsp,hen,fun i hi=>?_,fun i hi=>?_,fun j t hj=>?_⟩
 ·rw[ae]at hi
  obtain⟨p,hp,e⟩:=get i hi
  rw[nZ,nU,nu (zZ hp)]
  exact⟨e,rfl⟩
 ·rw[ae]at hi
  obtain⟨p,hp,e⟩:=get i hi
  rw[ae,nZ,nU,nu (zY hp)]
  exact⟨rfl,by dsimp only;rw[e];lia⟩
 ·obtain⟨a,b⟩:=vG sp ps.length pl ts j t hj
  rw[ae,nZ,nU,nZ,nU,nu ((rX (j:=0) (2*j)).trans a),nu ((rX (j:=0) (2*j+1)).trans b)]
  exact⟨⟨rfl,rfl⟩,rfl,rfl⟩
theorem Bu{pr:Int->Int}(hpr:∀p∈ps,pr p.1=p.2)(hpl:∀p∈ps,p.2<pl):Caps (ps.map (·.1)) ts pr (lM (lN sp pl ps ts)):=by
 have get:∀(i:Nat) (p:Int),(ps.map (·.1))[i]? =some p->∃q,ps[i]? =some q/\q.1=p:=fun i p h=>by
  rw[aE]at h
  cases e:ps[i]? with
  |none=>rw[e]at h;cases h
  |some q=>rw[e]at h;exact⟨q,rfl,az h⟩
 refine⟨fun i p h=>?_,fun i p h=>?_,fun j hj p hp=>?_⟩
 ·obtain⟨q,hq,rfl⟩:=get i p h
  unfold lM
  rw[nu (zZ hq),hpr q (ay hq)]
 ·obtain⟨q,hq,rfl⟩:=get i p h
  unfold lM
  rw[ae,nu (zY hq),hpr q (ay hq)]
 ·obtain⟨q,hq,rfl⟩:=aL.mp hp
  have hk:j/2<ts.length:=by lia
  have hg:ts[j/2]? =some ts[j/2]:=gE hk
  obtain⟨a,b⟩:=vG sp ps.length pl ts (j/2) _ hg
  unfold lM
  rw[ae,hpr q hq]
  by_cases c:j%2=0
  ·rw[show j=2*(j/2) by lia,nu ((rX (j:=0) _).trans a)]
   exact hpl q hq
  ·rw[show j=2*(j/2)+1 by lia,nu ((rX (j:=0) _).trans b)]
   exact hpl q hq
theorem IH(hsp:∀p∈ps.map (·.1),2<=sp p/\sp p<2+(ps.length:Int))(hen:∀t∈ts,t.1∈ps.map (·.1)/\t.2∈ps.map (·.1))(hpp:∀p∈ps,0<=p.2)(hpl:0<=pl):∀a∈lN sp pl ps ts,((0<=a.1/\a.1<((2+(ps.length+ps.length):Nat):Int))/\0<=a.2.1/\a.2.1<((2+(ps.length+ps.length):Nat):Int))/\0<=a.2.2:=fun a ha=>by
 unfold lN at ha
 have tie:∀{us:List (Int×Int)},(∀t∈us,t.1∈ps.map (·.1)/\t.2∈ps.map (·.1))->a∈lF sp ps.length pl us->((0<=a.1/\a.1<((2+(ps.length+ps.length):Nat):Int))/\0<=a.2.1/\a.2.1<((2+(ps.length+ps.length):Nat):Int))/\0<=a.2.2:=fun{us}=>by
  induction us with
  |nil=>intro _ h;cases h
  | cons u r ih=>
   intro he h
   have h1:=hsp _ (he u (.head _)).1
   have h2:=hsp _ (he u (.head _)).2
   rcases aS.mp h with rfl|h
   ·dsimp only;lia
   ·rcases aS.mp h with rfl|h
    ·dsimp only;lia
    ·exact ih (fun t ht=>he t (.tail _ ht)) h
 rcases bu.mp ha with ha|ha
 ·rcases bu.mp ha with ha|ha
  ·obtain⟨p,hp,rfl⟩:=aL.mp ha
   have:=hsp p.1 (bP hp)
   have:=hpp p hp
   dsimp only
   lia
  ·obtain⟨p,hp,rfl⟩:=aL.mp ha
   have:=hsp p.1 (bP hp)
   have:=hpp p hp
   dsimp only
   lia
 ·exact tie hen ha
end
end Fl
namespace L2
open PySem PySem.Spec PyProof.Rows
section
variable{prog:Program}{w:World}{A:Around}{R:Result->Shared->Prop}{I:Addr}{fp wr:List Addr}{n:Nat}{P:Nat->Value->Prop}{St:Nat->Heap->Prop}
def jkf(val:Nat->Int)(n:Nat)(m:Int):Prop:=(∃i,i<n/\m=val i)/\∀i,i<n->m<=val i
theorem jkf.up{val:Nat->Int}{j:Nat}{m:Int}(h:jkf val j m)(hb:val j<m):jkf val (j+1) (val j):=
 ⟨⟨j,gX _,rfl⟩,fun i hi=>by
  rcases fo.mp hi with z|z
  ·have:=h.2 i z;lia
  ·rw[z];exact bA _⟩
theorem jkf.keep{val:Nat->Int}{j:Nat}{m:Int}(h:jkf val j m)(hb:¬val j<m):jkf val (j+1) m:=
 ⟨let⟨i,hi,e⟩:=h.1;⟨i,cU hi,e⟩,fun i hi=>by
  rcases fo.mp hi with z|z
  ·exact h.2 i z
  ·rw[z];lia⟩
theorem oM:(toString "min"++toString ".loop":String)="min.loop":=by decide
theorem AS(W:Walks prog w A.in1 I fp wr n P St)(val:Nat->Int)(hval:∀i v,P i v->∃t:Tok,v=Value.int (val i) t)(kw:List (Str×Value))(S:Addr)(hSf:S∉fp):
  ∀(k j:Nat) (s:Shared) (m:Int) (t:Tok) (c:Nat),n-j=k->j<=n->St j s.heap->jkf val j m->
  s.heap.get? S=some {cls:=.type "list",dict:=none,data:=.seq #[.int m t,.int m t] c,slots:=#[]}->
  (∀m' t' h' tk,jkf val n m'->(∀b o,b∉wr->b≠S->s.heap.get? b=some o->h'.get? b=some o)->R (.ok (.ret (.int m' t'))) {s with heap:=h',toks:=tk})->
  codeAny (model prog w) A (.builtin "min.loop" ⟨[.ref I,.none,.ref S],kw⟩) R s:=by
 have hSw:S∉wr:=fun z=>hSf (W.sub _ z)
 intro k
 induction k with
 |zero=>
  intro j s m t c hk hj hst hb hS hR
  have hin:j=n:=by lia
  subst hin
  refine cS ee ?_
  rw[cv bC _]
  show wpAny _ A.in1 (seqItems? (.ref S)>>=_) _ _ s
  refine aa (bM hS rfl ?_)
  show wpAny _ A.in1 (tryCatch (pyNext (.ref I)) _>>=_) _ _ s
  refine aa (dD (W.done s _ _ hst fun h' tk kp=>?_))
  have hS':=kp S _ hSw hS
  show wpAny _ A.in1 (updateSeq S (fun _=>#[])>>=_) _ _ _
  refine aa ?_
  refine fL hS' rfl (aa (eI (ao ?_)))
  exact hR m t _ tk hb fun b o hbw hbS e=>(bF _ _ (cX hbS)).trans (kp b o hbw e)
 | succ k ih=>
  intro j s m t c hk hj hst hb hS hR
  have hlt:j<n:=by lia
  refine cS ee ?_
  rw[cv bC _]
  show wpAny _ A.in1 (seqItems? (.ref S)>>=_) _ _ s
  refine aa (bM hS rfl ?_)
  show wpAny _ A.in1 (tryCatch (pyNext (.ref I)) _>>=_) _ _ s
  refine aa (dD (W.item j s _ _ hlt hst fun v h' tk hP hst' kp=>?_))
  obtain⟨t',rfl⟩:=hval j v hP
  have hS':=kp S _ hSw hS
  show wpAny _ A.in1 (tryCatch (holding [.int (val j) t',.int (val j) t'] (richCompare .Lt (.int (val j) t') (.int m t)>>=_)) _>>=_) _ _ _
  refine aa (dD (bV (aa (lt_int ?_))))
  refine aa (bV (bR ?_))
  refine aa (eI (ao ?_))
  by_cases hc:val j<m
  ·rw[aG (show val j<m from hc)]
   simp only[if_true]
   refine aa ?_
   refine fL hS' rfl (aa (eI ?_))
   rw[oM]
   refine ao ⟨cK bC _,ih (j+1) _ (val j) t' _ (by lia) hlt (W.frame _ _ _ hst' fun b hbf o e=>?_) (hb.up hc) (cR _ hS' rfl) fun m' u h'' tk'' hB k''=>?_⟩
   ·exact(bF _ _ (fun z:S=b=>hSf (by rw[z];exact hbf))).trans e
   ·exact hR m' u h'' tk'' hB fun b o hbw hbS e=>k'' b o hbw hbS ((bF _ _ (cX hbS)).trans (kp b o hbw e))
  ·rw[aJ (show ¬val j<m from hc)]
   simp only[aW,if_false]
   refine aa (eI ?_)
   rw[oM]
   refine ao ⟨cK bC _,ih (j+1) _ m t c (by lia) hlt hst' (hb.keep hc) hS' fun m' u h'' tk'' hB k''=>?_⟩
   exact hR m' u h'' tk'' hB fun b o hbw hbS e=>k'' b o hbw hbS (kp b o hbw e)
end
section
variable{X:Cx}
end
section
variable{X:Cx}
theorem GL(a:Value):argsOk "min" ⟨[a],[]⟩:=by unfold argsOk;kernel_rfl
def Cy:List V->Hp->VK->Prop:=fun vs H Q=>∃(p:Addr) (ns:List Int),vs=[.ref p]/\H p=some (.lst (ns.map V.int))/\ns≠[]/\
 ∀m,m∈ns->(∀x∈ns,m<=x)->Q (.int m) H
theorem Fv(hc:X.calm=true):jc2 X (.builtin "min") Cy:=by
 intro pins s σ H xs us Q I r h
 obtain⟨p,ns,rfl,e,hne,q⟩:=h
 obtain⟨u,rfl,rx⟩:=mP r
 cases rx
 obtain⟨z,its,c,r',hlen,e'⟩:=I.lstM e
 have hI:=n6 r'
 have plt:p<s.heap.objs.size:=aD e'
 have hL:s.heap.IsList p its.toArray:=⟨_,e',rfl,_,rfl⟩
 refine call_function_tree PySem.F.kind_min PySem.F.plain_min PySem.F.entry_min (GL _) ?_
 show wpAny _ X.A.in1 (Builtin.Builtins.bindParams "min" ["key","default"] 0 ⟨[],[]⟩>>=_) _ _ s
 refine aa (eY (show Builtin.Builtins.bindParams "min" ["key","default"] 0 ⟨[],[]⟩=pure [none,none]from rfl) ?_)
 refine aa (ao ?_)
 refine aa (dZ hL ?_)
 refine aa (fk ?_ (bj _))
 rw[oM]
 have hS:(s.heap.push {cls:=.type "list_iterator",data:=.fields #[.ref p,.int 0 0]}).objs.size=s.heap.objs.size+1:=ik ..
 have W:=Walks.list (prog:=X.prog) (w:=X.w) (A:=X.A.in1) (show X.A.in1.handled=none from I.ok.hd hc) s.heap.objs.size p (aP plt) its.toArray
 have hsz:its.toArray.size = ns.length:=by rw [ah,<- hlen,ae]
 have hval:∀(i:Nat) (v:Value),its.toArray[i]? =some v->∃t:Tok,v=Value.int (ns[i]?.getD 0) t:=fun i v hv=>by
  have hv':its[i]? =some v:=by simpa using hv
  have hi:i<ns.length:=by
   have:=(au.mp hv').1
   rw[ae]at hlen
   lia
  obtain⟨u,e1,t,e2⟩:=r'.get (i:=i) (x:=.int ns[i]) (by rw[aE,gE hi];rfl)
  rw[hv']at e1
  cases e1
  exact⟨t,by rw[e2,gE hi];rfl⟩
 have kp0:∀(h':Heap) (tk:Nat),(∀b o,b∉[s.heap.objs.size]->b≠(s.heap.push {cls:=.type "list_iterator",data:=.fields #[.ref p,.int 0 0]}).objs.size->((s.heap.push {cls:=.type "list_iterator",data:=.fields #[.ref p,.int 0 0]}).push {cls:=.type "list",data:=.seq #[]}).get? b=some o->h'.get? b=some o)->
   Inv X pins σ H {s with heap:=h',toks:=tk}:=fun h' tk k=>I.kept fun b o qq=>k b o (by
    intro z
    have:b=s.heap.objs.size:=by simpa using z
    exact absurd (aD qq) (by rw[this];exact cw _)) (by rw[hS];exact aP (cU (aD qq))) (af _ (af _ qq))
 have hst0:(fun i (h:Heap)=>h.IsListIter s.heap.objs.size p i/\h.IsList p its.toArray) 0 ((s.heap.push {cls:=.type "list_iterator",data:=.fields #[.ref p,.int 0 0]}).push {cls:=.type "list",data:=.seq #[]}):=
  ⟨⟨_,af _ (aI _ rfl),rfl,rfl⟩,(hL.push _).push _⟩
 have hSg:((s.heap.push {cls:=.type "list_iterator",data:=.fields #[.ref p,.int 0 0]}).push {cls:=.type "list",data:=.seq #[]}).get? (s.heap.push {cls:=.type "list_iterator",data:=.fields #[.ref p,.int 0 0]}).objs.size=some {cls:=.type "list",dict:=none,data:=.seq #[] 0,slots:=#[]}:=aI _ rfl
 have hSf:(s.heap.push {cls:=.type "list_iterator",data:=.fields #[.ref p,.int 0 0]}).objs.size∉[s.heap.objs.size,p]:=by
  rw[hS]
  intro z
  rcases aS.mp z with z|z
  ·exact absurd z (gW _)
  ·have z:=aV.mp z
   rw [<- z] at plt
   exact cw _ (av plt)
 refine ao ⟨cK bC _,?_⟩
 refine cS ee ?_
 rw[cv bC _]
 show wpAny _ X.A.in1 (seqItems? (.ref _)>>=_) _ _ _
 refine aa (bM hSg rfl ?_)
 show wpAny _ X.A.in1 (tryCatch (pyNext (.ref s.heap.objs.size)) _>>=_) _ _ _
 cases hn:ns with
 |nil=>exact absurd hn hne
 | cons n0 rest=>
  have hpos:0<its.toArray.size:=by rw[hsz,hn];simp
  refine aa (dD (W.item 0 _ _ _ hpos hst0 fun v h' tk hP hst' kp=>?_))
  obtain⟨t',rfl⟩:=hval 0 v hP
  have hS':=kp _ _ (fun z=>hSf (aS.mpr (.inl (aV.mp z)))) hSg
  show wpAny _ X.A.in1 (updateSeq _ (fun _=>#[_,_])>>=_) _ _ _
  refine aa ?_
  refine fL hS' rfl ?_
  rw[oM]
  refine ao ⟨cK bC _,AS W (fun i=>ns[i]?.getD 0) hval _ _ hSf _ 1 _ _ t' _ rfl hpos (W.frame _ _ _ hst' fun b hbf o e=>?_) ⟨⟨0,Nat.one_pos,rfl⟩,fun i hi=>by
   have:i=0:=by lia
   subst this;exact bA _⟩ (cR _ hS' rfl) fun m u h'' tk'' hB k''=>?_⟩
  ·exact(bF _ _ (fun z=>hSf (by rw[z];exact hbf))).trans e
  ·refine⟨.int m,H,kp0 h'' tk'' fun b o h1 h2 h3=>k'' b o h1 h2 ((bF _ _ (cX h2)).trans (kp b o h1 h3)),⟨u,rfl⟩,q m ?_ fun x hx=>?_⟩
   ·obtain⟨i,hi,e1⟩:=hB.1
    rw[hsz]at hi
    rw[e1]
    show ns[i]?.getD 0∈ns
    rw[gE hi]
    exact df hi
   ·obtain⟨i,hi,e1⟩:=bq.mp hx
    have:m<=ns[i]?.getD 0:=hB.2 i (by rw[hsz];exact hi)
    rw[gE hi]at this
    rw [<- e1]
    exact this
end
end L2
namespace My
open PySem L2
section
variable{P:Program}{w:World}{K:PySem.W.Frag}{mg:Str->Option Value}{base:Heap}{c1 c2 c3 c4:Tok}{C_Net C_NoWeb fql:Addr}{dI:FuncData}
noncomputable def DD:Stmt->List Stmt
 | .ClassDef _ _ _ b _ _ _ _ _ _ _=>b
 |_=>[]
noncomputable def ju(i j:Nat):Stmt:=(DD (iG i)).getD j (.Pass ⟨0,0,0,0⟩)
structure MthAt(K:PySem.W.Frag)(C:Addr)(x qual:Str)(st:Stmt)(ps:List Str)(f:Addr)(fd:FuncData):Prop where
 F:Fun K x qual st f fd
 b:jf8 K fd ps []
 m:Meth K C x f
structure NetC(K:PySem.W.Frag)(mg:Str->Option Value)(C:Addr):Prop where
 cl:Cls K C
 n_ways_from:jee K C "ways_from"
 n_heads:jee K C "heads"
 n_rooms:jee K C "rooms"
 m:mg "Net"=some (.ref C)
noncomputable def jX(C dx W Hd R:Addr):HO:=.ins C dx [("ways_from",.ref W),("heads",.ref Hd),("rooms",.ref R)]
section
variable{C dx W Hd R:Addr}
theorem Bh:mJ C (some (jX C dx W Hd R)) "ways_from"=some (.ref W):=by unfold mJ jX;dsimp only;rw[if_pos rfl];rfl
theorem qS:mJ C (some (jX C dx W Hd R)) "heads"=some (.ref Hd):=by unfold mJ jX;dsimp only;rw[if_pos rfl];rfl
theorem oA:mJ C (some (jX C dx W Hd R)) "rooms"=some (.ref R):=by unfold mJ jX;dsimp only;rw[if_pos rfl];rfl
theorem nN{m:Str}(h:(m==("ways_from":Str))=false)(h2:(m==("heads":Str))=false)(h3:(m==("rooms":Str))=false):lQ C (some (jX C dx W Hd R)) m=true:=by
 unfold lQ jX
 simp only[cT,Bool.true_and,List.lookup_cons,h,h2,h3,List.lookup_nil,Option.isNone_none]
theorem AU:lQ C (some (jX C dx W Hd R)) "put_way"=true:=nN rfl rfl rfl
theorem AD:lQ C (some (jX C dx W Hd R)) "spread"=true:=nN rfl rfl rfl
theorem A1:lQ C (some (jX C dx W Hd R)) "shortest"=true:=nN rfl rfl rfl
theorem EO:lQ C (some (jX C dx W Hd R)) "push"=true:=nN rfl rfl rfl
theorem EN:lQ C (some (jX C dx W Hd R)) "fill"=true:=nN rfl rfl rfl
theorem FR:lQ C (some (jX C dx W Hd R)) "flows"=true:=nN rfl rfl rfl
theorem GR:lQ C (some (jX C dx W Hd R)) "reached_from"=true:=nN rfl rfl rfl
end
noncomputable def nv(ws:List Nat):List V:=ws.map fun w:Nat=>V.int (w:Int)
def NtS(C:Addr)(H:Hp)(p R:Addr)(wf:Int->List Nat)(hs:List Int)(n:Nat):Prop:=∃(dx W Hd:Addr) (ls:List Addr),H p=some (jX C dx W Hd R)/\H W=some (.lst (ls.map V.ref))/\ls.length=n/\(∀(i:Nat) (a:Addr),ls[i]? =some a->H a=some (.lst (nv (wf (i:Int))))/\a≠R)/\H Hd=some (.lst (hs.map V.int))/\W≠R/\Hd≠R/\p≠R
theorem NtS.but{C:Addr}{H H':Hp}{p R:Addr}{wf:Int->List Nat}{hs:List Int}{n:Nat}(h:NtS C H p R wf hs n)(s:But R H H'):NtS C H' p R wf hs n:=by
 obtain⟨dx,W,Hd,ls,e1,e2,e3,e4,e5,n1,n2,n3⟩:=h
 exact⟨dx,W,Hd,ls,s _ _ n3 e1,s _ _ n1 e2,e3,fun i a ha=>⟨s _ _ (e4 i a ha).2 (e4 i a ha).1,(e4 i a ha).2⟩,s _ _ n2 e5,n1,n2,n3⟩
theorem NtS.same{C:Addr}{H H':Hp}{p R:Addr}{wf:Int->List Nat}{hs:List Int}{n:Nat}(h:NtS C H p R wf hs n)(s:Same H H'):NtS C H' p R wf hs n:=h.but fun b o _ q=>s b o q
theorem oC{l:List Int}{w:Nat}(h:w<l.length):jl (l.map V.int) (w:Int)=some (.int (Fl.at' l w)):=by
 refine ll ?_
 rw[aE,gE h]
 unfold Fl.at'
 rw[aC,gE h]
 rfl
theorem xx{l:List Addr}{i:Nat}{a:Addr}(h:l[i]? =some a):jl (l.map V.ref) (i:Int)=some (.ref a):=by
 refine ll ?_
 rw[aE,h]
 rfl
noncomputable def oV:Option Nat->V
 |none=>.non
 |some w=>.int (w:Int)
noncomputable def kG(cb:Fl.Cb):List (iF×V):=cb.map fun p=>(Sum.inl p.1,oV p.2)
theorem uO:∀(cb:Fl.Cb) (v:Int),(i8 (kG cb) (Sum.inl v:iF)).isSome=Fl.seen cb v
 |[],v=>rfl
 | p::r,v=>by
  have ih:=uO r v
  unfold kG i8 Fl.seen at ih ⊢
  rw[ag,List.find?_cons]
  by_cases c:p.1=v
  ·dsimp only
   rw[aG (show(Sum.inl p.1:iF)=Sum.inl v from bS Sum.inl c)]
   dsimp only
   rw[aG (by rw[ag,c];exact aM)]
   rfl
  ·dsimp only
   rw[aJ (fun z:(Sum.inl p.1:iF)=Sum.inl v=>c (cE z))]
   dsimp only
   rw[ih,ag]
   congr 1
   simp only[aS,eq_iff_iff]
   exact⟨fun z=>.inr z,fun z=>z.resolve_left fun e=>c e.symm⟩
theorem tV:∀(cb:Fl.Cb) (v:Int),(i8 (kG cb) (Sum.inl v:iF)).getD .non=oV (Fl.lk cb v)
 |[],v=>rfl
 | p::r,v=>by
  have ih:=tV r v
  unfold kG i8 Fl.lk at ih ⊢
  rw[ag,List.find?_cons,List.find?_cons]
  by_cases c:p.1=v
  ·dsimp only
   rw[aG (show(Sum.inl p.1:iF)=Sum.inl v from bS Sum.inl c),aG c]
   rfl
  ·dsimp only
   rw[aJ (fun z:(Sum.inl p.1:iF)=Sum.inl v=>c (cE z)),aJ c]
   dsimp only
   exact ih
theorem DB{cb:Fl.Cb}{v:Int}{w:Nat}(h:Fl.seen cb v=false):jF (kG cb) (Sum.inl v:iF) (.int (w:Int))=kG (cb++[(v,some w)]):=by
 rw[Fd]
 ·unfold kG
  rw[aj]
  rfl
 ·rw [<- uO] at h
  cases e:i8 (kG cb) (Sum.inl v:iF)with
  |none=>rfl
  |some x=>rw[e]at h;cases h
theorem vx(hs r:List Int):∀(a b:List Nat) (cb:Fl.Cb),Fl.jE hs r cb (a++b)=Fl.jE hs r (Fl.jE hs r cb a) b
 |[],b,cb=>rfl
 |w::a,b,cb=>by
  rw[List.cons_append,Fl.jE,Fl.jE]
  exact vx hs r a b _
theorem Fo(hs r:List Int)(ws:List Nat)(i:Nat)(cb:Fl.Cb):(Fl.jE hs r cb (ws.take i)).length<=(Fl.jE hs r cb ws).length:=by
 have e:Fl.jE hs r cb ws = Fl.jE hs r (Fl.jE hs r cb (ws.take i)) (ws.drop i):=by rw [<- vx,cc]
 obtain⟨l,e2⟩:=Fl.oq (hs:=hs) (r:=r) (ws.drop i) (Fl.jE hs r cb (ws.take i))
 rw[e,e2,aB]
 lia
structure Nt(C:Addr)(H:Hp)(p R:Addr)(wf:Int->List Nat)(hs:List Int)(m n:Nat)(r:List Int):Prop where
 st:NtS C H p R wf hs n
 eR:H R=some (.lst (r.map V.int))
 net:Fl.Net wf hs m n
 len:r.length=2*m
 big:2*m<=1000
 n200:n<=200
theorem Nt.same{C:Addr}{H H':Hp}{p R:Addr}{wf:Int->List Nat}{hs:List Int}{m n:Nat}{r:List Int}(h:Nt C H p R wf hs m n r)(s:Same H H'):Nt C H' p R wf hs m n r:=⟨h.st.same s,s _ _ h.eR,h.net,h.len,h.big,h.n200⟩
def va(C:Addr):Sp:=fun vs H Q _=>∃p s R wf hs m n r,vs=[.ref p,.int s]/\Nt C H p R wf hs m n r/\0<=s/\s<(n:Int)/\∀d H',H d=none->Same H H'->H' d=some (.dK (kG (Fl.jw wf hs n s r)))->Q (.ref d) H'
noncomputable def nc(cb:Fl.Cb):List V:=cb.map fun p=>V.int p.1
theorem FX(B:Blt mg)(D:MthAt K C_Net "spread" "Net.spread" (ju 5 4) ["self","source"] f fd)(T:NetC K mg C_Net):FnOk P w K mg base iK 1 f fd ["self","source"] (va C_Net):=by
 have sc:FnScope ["self","source","came_by","line","done","knot","way","head"] ["self","source"] (jb (ju 5 4)):=by walk_at "SC"
 refine D.F.ok sc (fun vs H Q E h=>?_) (fun cdv A outer s H vs Q E hr h=>?_)
 ·obtain⟨p,s,R,wf,hs,m,n,r,rfl,_⟩:=h
  rfl
 obtain⟨p,s,R,wf,hs,m,n,r,rfl,N,s0,s1,h⟩:=h
 have hu:=jh hr
 have hu0:_<PySem.cLine:=av hu
 refine⟨_,(iH (iT (i:=2) sc.nd rfl (Or.inl rfl) (E3 (qv 1) xO)) (iH (iT (i:=3) sc.nd rfl (Or.inl rfl) (ki (iw (qv 1) iC))) (iH (iT (i:=4) sc.nd rfl (Or.inl rfl) iE) (iH (uZ bo (kH ow (qv 4) (jf k6 rfl B.len bw (iw (qv 3) iC)) (jz _)) (iH (iT (i:=5) sc.nd rfl (Or.inl rfl) (iM iN (qv 3) (qv 4) (fun _ _=>rfl))) (iH (kR bo rfl (kc (iM iN (lT T.cl T.n_ways_from (qv 0) rfl) (qv 5) (fun _ _=>rfl))) (iV (i:=6) sc.nd rfl (Or.inl rfl)) (iH (iT (i:=7) sc.nd rfl (Or.inl rfl) (iM iN (lT T.cl T.n_heads (qv 0) rfl) (qv 6) (fun _ _=>rfl))) (iO (j0 (PW.pt (CM (kH qG (iM iN (lT T.cl T.n_rooms (qv 0) rfl) (qv 6) (fun _ _=>rfl)) iE (jz _)) (D8 (tS (Fe hu (qv 7) (qv 2)))))) (iH (uh hu (qv 2) (qv 7) (qv 6)) (iO (ke (kY aX aZ aY lr (qv 3) (iw (qv 7) iC))))) j6)))) (iO (rq (i:=4) sc.nd rfl (Or.inl rfl) iE ui))))) (iO (jc (qv 2))))))),?_⟩
 have N0:=N
 obtain⟨⟨dx,W,Hd,ls,e1,e2,e3,e4,e5,n1,n2,n3⟩,eR,net,hlen,hbig,hn⟩:=N
 refine iQ fun R' hR=>?_
 walk_at "D"
 intro d hd
 have q1:=iI hd (.dK [(Sum.inl s,.non)])
 have ed:upd H d (.dK [(Sum.inl s,.non)]) d=some (.dK [(Sum.inl s,.non)]):=iD
 generalize upd H d (.dK [(Sum.inl s,.non)])=H1 at q1 ed
 subst hR
 refine iQ fun R' hR=>?_
 walk_at "D"
 intro l hl
 have q2:=q1.trans (iI hl (.lst [.int s]))
 have ed2:=iI hl (.lst [.int s]) _ _ ed
 have el:upd H1 l (.lst [.int s]) l=some (.lst [.int s]):=iD
 have ld:l≠d:=(iX ed hl).symm
 have hlH:H l=none:=q1.free hl
 generalize upd H1 l (.lst [.int s])=H2 at q2 ed2 el
 subst hR
 refine iQ fun R' hR=>?_
 walk_at "D"
 subst hR
 refine iQ fun R' hR=>?_
 refine vg (fun σ Hc=>∃(k:Nat) (v5 v6 v7:Option V),σ=[some (.ref p),some (.int s),some (.ref d),some (.ref l),some (.int (k:Int)),v5,v6,v7]/\Same H Hc/\Hc d=some (.dK (kG (Fl.je wf hs r s k)))/\Hc l=some (.lst (nc (Fl.je wf hs r s k)))/\k<=(Fl.je wf hs r s k).length) (fun σ _=>match σ with |[_,_,_,_,some (.int k),_,_,_]=>n-k.toNat|_=>0) ⟨0,none,none,none,rfl,q2,ed2,el,bj _⟩ ?_ ?_
 ·rintro σ Hc ⟨k,v5,v6,v7,rfl,s3,ed3,el3,hk⟩
  have hkl:=Fl.nG (r:=r) net ⟨s0,s1⟩ k
  have hlk:(nc (Fl.je wf hs r s k)).length=(Fl.je wf hs r s k).length:=ae _
  by_cases c:k<(Fl.je wf hs r s k).length
  ·have hdt:decide ((k:Int)<((Fl.je wf hs r s k).length:Int))=true:=aG (by lia)
   have hg:(Fl.je wf hs r s k)[k]? =some (Fl.je wf hs r s k)[k]:=gE c
   generalize hpk:(Fl.je wf hs r s k)[k]=pk at hg
   have hgl:jl (nc (Fl.je wf hs r s k)) (k:Int)=some (.int pk.1):=ll (by unfold nc;rw[aE,hg];rfl)
   simp_arith[iS,el3,hlk,hdt,hgl]
   have hkn:=Fl.xv (r:=r) net ⟨s0,s1⟩ k pk.1 (aL.mpr ⟨_,ay hg,rfl⟩)
   have hi:pk.1.toNat<ls.length:=by lia
   have hla:ls[pk.1.toNat]? =some ls[pk.1.toNat]:=gE hi
   generalize ls[pk.1.toNat]=wa at hla
   have ewa:=(e4 _ _ hla).1
   rw[show((pk.1.toNat:Nat):Int)=pk.1 by lia]at ewa
   have hwa:jl (ls.map V.ref) pk.1=some (.ref wa):=by have:=xx hla;rw[show((pk.1.toNat:Nat):Int)=pk.1 by lia]at this;exact this
   have hnext:Fl.je wf hs r s (k+1)=Fl.jE hs r (Fl.je wf hs r s k) (wf pk.1):=by rw[Fl.je,hg]
   have hkl2:=Fl.nG (r:=r) net ⟨s0,s1⟩ (k+1)
   rw[hnext]at hkl2
   generalize hcb:Fl.je wf hs r s k=cb at*
   refine lu (jI K wa) Hc (fun R3 hR3=>?_) (nA (K:=K) (a:=wa) (xs:=nv (wf pk.1)) (fun i σ H4=>∃v6 v7,σ=[some (.ref p),some (.int s),some (.ref d),some (.ref l),some (.int (k:Int)),some (.int pk.1),v6,v7]/\Same H H4/\H4 d=some (.dK (kG (Fl.jE hs r cb ((wf pk.1).take i))))/\H4 l=some (.lst (nc (Fl.jE hs r cb ((wf pk.1).take i))))) ⟨v6,v7,rfl,s3,ed3,el3⟩ (fun i σ H4 _ ⟨_,_,_,s4,_⟩=>SqL.of (s4 _ _ ewa)) ?_ ?_)
   ·unfold jZ
    simp_arith[iS,s3 _ _ e1,Bh,s3 _ _ e2,hwa]
    exact⟨wa,rfl,⟨_,SqL.of (s3 _ _ ewa)⟩,hR3⟩
   ·rintro i x σ H4 hx ⟨v6,v7,rfl,s4,ed4,el4⟩
    unfold nv at hx
    rw[aE]at hx
    obtain⟨w,hw,rfl⟩:=dj.mp hx
    have hwm:=net.from' pk.1 w (ay hw)
    have hh:jl (hs.map V.int) (w:Int)=some (.int (Fl.at' hs w)):=oC (by rw[net.len];exact hwm.1)
    have hr':jl (r.map V.int) (w:Int)=some (.int (Fl.at' r w)):=oC (by rw[hlen];exact hwm.1)
    have hv1:Fl.jE hs r cb ((wf pk.1).take (i+1))=if 0<Fl.at' r w/\Fl.seen (Fl.jE hs r cb ((wf pk.1).take i)) (Fl.at' hs w)=false then Fl.jE hs r cb ((wf pk.1).take i)++[(Fl.at' hs w,some w)]else Fl.jE hs r cb ((wf pk.1).take i):=by
     rw[jH hw,vx]
     rfl
    have hvl:=Fo hs r (wf pk.1) i cb
    generalize Fl.jE hs r cb ((wf pk.1).take i)=cb1 at*
    simp_arith[iS,s4 _ _ e1,qS,oA,s4 _ _ e5,hh,s4 _ _ eR,hr',ed4,uO]
    by_cases c1:0<Fl.at' r w
    ·rw[aG c1,aq rfl]
     cases c2:Fl.seen cb1 (Fl.at' hs w)with
     |true=>
      walk_at "D"
      rw[ak (fun z=>by rw[c2]at z;cases z.2)]at hv1
      rw[hv1]
      exact⟨_,_,rfl,s4,(by first|rfl|exact ed4),el4⟩
     | false=>
      rw[aq ⟨c1,c2⟩]at hv1
      simp_arith[DB c2]
      have hcl:(kG cb1).length=cb1.length:=ae _
      refine⟨jr (by lia),?_⟩
      have el5:upd H4 d (.dK (kG (cb1++[(Fl.at' hs w,some w)]))) l=some (.lst (nc cb1)):=by rw[iL ld];exact el4
      refine⟨⟨l,_,rfl,el5⟩,?_⟩
      rw[el5]
      dsimp only
      have hcl2:(nc cb1).length=cb1.length:=ae _
      refine⟨jr (by lia),_,_,rfl,jD (jD s4 hd) hlH,?_,?_⟩
      ·rw[iL (cX ld),iD,hv1]
      ·rw[iD,hv1]
       unfold nc
       rw[aj]
       rfl
    ·rw[aJ c1,ak (by decide)]
     rw[ak (fun z=>c1 z.1)]at hv1
     rw[hv1]
     exact⟨_,_,rfl,s4,(by first|rfl|exact ed4),el4⟩
   ·rintro σ H4 ⟨v6,v7,rfl,s4,ed4,el4⟩
    have htl:(wf pk.1).take (nv (wf pk.1)).length=wf pk.1:=by unfold nv;rw[ae,aR]
    rw [htl,<- hnext] at ed4 el4
    walk_at "D"
    refine⟨⟨k+1,_,_,_,by rw[show((k+1:Nat):Int)=(k:Int)+1 by lia],s4,ed4,el4,?_⟩,?_⟩
    ·obtain⟨z,hz⟩:=Fl.wZ (wf:=wf) (hs:=hs) (r:=r) (s:=s) k
     rw[hz,hcb,aB]
     lia
    ·lia
  ·have hdt:decide ((k:Int)<((Fl.je wf hs r s k).length:Int))=false:=aJ (by lia)
   simp_arith[iS,el3,hlk,hdt]
   subst hR
   walk_at "D"
   have hfin:Fl.jw wf hs n s r=Fl.je wf hs r s k:=by
    unfold Fl.jw
    rw[show n=k+(n-k) by lia]
    exact Fl.sY (by lia) _
   exact h d Hc hd s3 (by rw[hfin];exact ed3)
 ·intro σ Hc Q1 Q2 hq hc
  unfold fB nI qz tT pj kf at hc ⊢
  cases e:σ[4]? with
  |none=>rw[e]at hc;exact hc.elim
  | some ov=>
   rw[e]at hc
   cases ov with
   |none=>exact hc.elim
   | some u=>
    dsimp only[sv,fI,tC]at hc ⊢
    cases e3:σ[3]? with
    |none=>rw[e3]at hc;exact hc.elim
    | some ov3=>
     rw[e3]at hc
     cases ov3 with
     |none=>exact hc.elim
     | some u3=>
      dsimp only at hc ⊢
      cases u3 with
      | ref b=>
       dsimp only at hc ⊢
       cases e2:iS Hc b with
       |none=>rw[e2]at hc;exact hc.elim
       |some us=>
        rw[e2]at hc
        dsimp only at hc ⊢
        cases u with
        |int i=>exact hq _ _ hc
        |_=>exact hc.elim
      |_=>exact hc.elim
end
end My
namespace Fl
section
variable{hs r:List Int}{m:Nat}{s:Int}{cb:Cb}
theorem DT{v:Int}{w:Nat}(h:lk cb v=some w):∃i:Nat,cb[i]? =some (v,some w):=by
 unfold lk at h
 cases e:cb.find? fun p=>decide (p.1=v)with
 |none=>rw[e]at h;cases h
 |some p=>
  rw[e]at h
  have hp:=List.mem_of_find?_eq_some e
  have hv:p.1=v:=by have:=List.find?_some e;exact bZ (p:=p.1=v) this
  obtain⟨i,hi,e2⟩:=bq.mp hp
  refine⟨i,?_⟩
  rw[gE hi,e2]
  obtain⟨a,b⟩:=p
  dsimp only at hv
  have h:b=some w:=h
  rw[hv,h]
theorem GI(C:Cam hs r m s cb):∀(i:Nat) (v:Int) (o:Option Nat),cb[i]? =some (v,o)->∀f,i<=f->jx hs cb (f+1) v=jx hs cb f v:=by
 intro i
 induction i using Nat.strongRecOn with
 | ind i ih=>
  intro v o h f hf
  have hl:=tO C.nd h
  by_cases h0:i=0
  ·subst h0
   have e:=C.first
   rw[h]at e
   have ho:o=none:=bS Prod.snd (az e)
   rw[ho]at hl
   rw[jx,hl]
   cases f with
   |zero=>rfl
   |succ f=>rw[jx,hl]
  ·obtain⟨w,rfl,h2,h3,h4,j,u,h5,h6,h7⟩:=C.came i v o h (by lia)
   obtain⟨f',rfl⟩:∃f',f=f'+1:=⟨f-1,by lia⟩
   obtain⟨p,hp⟩:∃p,cb[j]? =some p:=by
    cases e:cb[j]? with
    |none=>rw[e]at h6;cases h6
    |some p=>exact⟨p,rfl⟩
   have hpu:p.1=u:=by rw[hp]at h6;exact az h6
   obtain⟨p1,p2⟩:=p
   dsimp only at hpu
   subst hpu
   have e1:jx hs cb (f'+1+1) v=w::jx hs cb (f'+1) p1:=by
    rw[jx,hl];dsimp only;rw[h7]
   have e2:jx hs cb (f'+1) v=w::jx hs cb f' p1:=by
    rw[jx,hl];dsimp only;rw[h7]
   rw[e1,e2,ih j h5 p1 p2 hp f' (by lia)]
theorem BS(C:Cam hs r m s cb){n:Nat}(hn:cb.length<=n){v:Int}{w:Nat}(h:lk cb v=some w):jx hs cb n v=w::jx hs cb n (at' hs (iU w))/\w<2*m:=by
 obtain⟨i,hi⟩:=DT h
 have hil:=(au.mp hi).1
 have h0:0<i:=by
  by_cases z:i=0
  ·subst z
   have e:=C.first
   rw[hi]at e
   have:=bS Prod.snd (az e)
   cases this
  ·lia
 obtain⟨w',hw',h2,h3,h4,j,u,h5,h6,h7⟩:=C.came i v _ hi h0
 cases hw'
 obtain⟨p,hp⟩:∃p,cb[j]? =some p:=by
  cases e:cb[j]? with
  |none=>rw[e]at h6;cases h6
  |some p=>exact⟨p,rfl⟩
 have hpu:p.1=u:=by rw[hp]at h6;exact az h6
 obtain⟨f',rfl⟩:∃f',n=f'+1:=⟨n-1,by lia⟩
 refine⟨?_,h2⟩
 rw[jx,h]
 dsimp only
 rw [h7,<- hpu,GI C j p.1 p.2 hp f' (by lia)]
theorem BU{v:Int}{n:Nat}(h:lk cb v=none):jx hs cb n v=[]:=by
 cases n with
 |zero=>rfl
 |succ n=>rw[jx,h]
theorem sW:∀(n:Nat) (v:Int),(jx hs cb n v).length<=n
 |0,_=>ai _
 | n+1,v=>by
  rw[jx]
  split
  ·have:=sW n (at' hs (iU ‹Nat›))
   rw[List.length_cons];lia
  ·exact bj _
theorem xq(r:List Int):∀{tr:List Nat},tr≠[]->kZ r tr∈tr.map (at' r)
 |[],h=>absurd rfl h
 |[w],_=>aV.mpr rfl
 |w::x::tr,_=>by
  rw[kZ]
  split
  ·exact aF _ (xq r (tr:=x::tr) (by simp))
  ·exact aM
theorem CN(r:List Int)(tr:List Nat)(w:Nat)(a:Int):push r (tr++[w]) a=bump (push r tr a) w a:=by
 unfold push
 rw[List.foldl_append]
 rfl
end
end Fl
namespace My
open PySem L2
section
variable{P:Program}{w:World}{K:PySem.W.Frag}{mg:Str->Option Value}{base:Heap}{c1 c2 c3 c4:Tok}{C_Net C_NoWeb fql:Addr}{dI:FuncData}
def yX(C:Addr):Sp:=fun vs H Q _=>∃p s t R wf hs m n r,vs=[.ref p,.int s,.int t]/\Nt C H p R wf hs m n r/\0<=s/\s<(n:Int)/\∀l H',H l=none->Same H H'->H' l=some (.lst (nv (Fl.kq wf hs n s t r)))->Q (.ref l) H'
def yb(C:Addr):Sp:=fun vs H Q _=>∃p l R wf hs m n r tr,vs=[.ref p,.ref l]/\Nt C H p R wf hs m n r/\H l=some (.lst (nv tr))/\l≠R/\tr≠[]/\tr.length<=200/\(∀w∈tr,w<2*m)/\∀H',But R H H'->H' R=some (.lst ((Fl.push r tr (Fl.kZ r tr)).map V.int))->Q (.int (Fl.kZ r tr)) H'
def x8(C:Addr):Sp:=fun vs H Q _=>∃p s t R wf hs m n r cap,vs=[.ref p,.int s,.int t]/\Nt C H p R wf hs m n r/\s≠t/\0<=s/\s<(n:Int)/\Fl.Rooms m cap r/\∀x r' H',Fl.Runs wf hs n s t r r'->Fl.kN wf hs n s t r'=none->But R H H'->H' R=some (.lst (r'.map V.int))->Q (.int x) H'
theorem Dg(o:Option Nat):pI (oV o)=o.isNone:=by cases o<;>rfl
theorem zW(w:Nat):PySem.Builtin.bitXor (w:Int) 1=((Fl.iU w:Nat):Int):=El w
noncomputable def unI(xs:List V):List Int:=xs.map fun x=>match x with
 | .int i=>i
 |_=>0
theorem zb(r:List Int):unI (r.map V.int)=r:=by
 unfold unI
 rw[bz]
 exact List.map_id _
theorem yu{n w:Nat}(h:w<n):kK n (w:Int)=some w:=by
 unfold kK
 rw[aq (by lia),aq (by lia)]
 rfl
theorem Nt.but{C:Addr}{H H':Hp}{p R:Addr}{wf:Int->List Nat}{hs:List Int}{m n:Nat}{r r':List Int}(h:Nt C H p R wf hs m n r)(s:But R H H')(e:H' R=some (.lst (r'.map V.int)))(hl:r'.length=2*m):Nt C H' p R wf hs m n r':=⟨h.st.but s,e,h.net,hl,h.big,h.n200⟩
theorem DC{cb:Fl.Cb}{v:Int}{w:Nat}(h:Fl.lk cb v=some w):i8 (kG cb) (Sum.inl v:iF)=some (.int (w:Int)):=by
 have:=tV cb v
 rw[h]at this
 cases e:i8 (kG cb) (Sum.inl v:iF)with
 |none=>rw[e]at this;cases this
 |some x=>rw[e]at this;exact bS some this
theorem GV(B:Blt mg)(D:MthAt K C_Net "shortest" "Net.shortest" (ju 5 3) ["self","source","sink"] f fd)(Dqi:MthAt K C_Net "spread" "Net.spread" (ju 5 4) ["self","source"] fqi dqi)(Gqi:FnOk P w K mg base iK 1 fqi dqi ["self","source"] (va C_Net))(T:NetC K mg C_Net):FnOk P w K mg base iK 2 f fd ["self","source","sink"] (yX C_Net):=by
 have sc:FnScope ["self","source","sink","came_by","trail","knot"] ["self","source","sink"] (jb (ju 5 3)):=by walk_at "SC"
 refine D.F.ok sc (fun vs H Q E h=>?_) (fun cdv A outer s H vs Q E hr h=>?_)
 ·obtain⟨p,s,t,R,wf,hs,m,n,r,rfl,_⟩:=h
  rfl
 obtain⟨p,s,t,R,wf,hs,m,n,r,rfl,N,s0,s1,h⟩:=h
 have hu:=jh hr
 have hu0:_<PySem.cLine:=av hu
 refine⟨_,(iH (iT (i:=3) sc.nd rfl (Or.inl rfl) (mS (qv 0) T.cl Dqi.m Gqi (hr.mono (by decide)) Dqi.b .nil iW (iw (qv 1) iC))) (iH (iT (i:=4) sc.nd rfl (Or.inl rfl) (ki iC)) (iH (iT (i:=5) sc.nd rfl (Or.inl rfl) (qv 2)) (iH (uZ bo (kH CH (D9 hu (qv 3) (qv 5)) xO (jz _)) (iH (ke (kY aX aZ aY lr (qv 4) (iw (lS hu (qv 3) (qv 5) (fun _ _=>rfl)) iC))) (iO (iT (i:=5) sc.nd rfl (Or.inl rfl) (iM iN (lT T.cl T.n_heads (qv 0) rfl) (iR xi (lS hu (qv 3) (qv 5) (fun _ _=>rfl)) iE) (fun _ _=>rfl)))))) (iO (jc (qv 4))))))),?_⟩
 have N0:=N
 obtain⟨⟨dx,W,Hd,ls,e1,e2,e3,e4,e5,n1,n2,n3⟩,eR,net,hlen,hbig,hn⟩:=N
 refine iQ fun R' hR=>?_
 simp_arith[e1,AD]
 refine⟨p,s,R,wf,hs,m,n,r,rfl,N0,s0,s1,fun d H1 hd q1 ed=>?_⟩
 subst hR
 refine iQ fun R' hR=>?_
 walk_at "D"
 intro l hl
 have q2:=q1.trans (iI hl (.lst []))
 have ed2:=iI hl (.lst []) _ _ ed
 have el:upd H1 l (.lst []) l=some (.lst []):=iD
 have hlH:H l=none:=q1.free hl
 have ld:l≠d:=(iX ed hl).symm
 generalize upd H1 l (.lst [])=H2 at q2 ed2 el
 subst hR
 refine iQ fun R' hR=>?_
 walk_at "D"
 subst hR
 refine iQ fun R' hR=>?_
 have Cm:=Fl.mF (r:=r) (s:=s) net.from' n
 have hcl:=Fl.nG (r:=r) net ⟨s0,s1⟩ n
 have htl:=Fl.sW (hs:=hs) (cb:=Fl.jw wf hs n s r) n t
 have htr:Fl.kq wf hs n s t r=Fl.jx hs (Fl.jw wf hs n s r) n t:=rfl
 rw[htr]at h
 generalize hcb:Fl.jw wf hs n s r=cb at*
 unfold Fl.jw at hcb
 rw[hcb]at Cm hcl
 refine vg (fun σ Hc=>∃(v:Int) (tr:List Nat),σ=[some (.ref p),some (.int s),some (.int t),some (.ref d),some (.ref l),some (.int v)]/\Same H Hc/\Hc d=some (.dK (kG cb))/\Hc l=some (.lst (nv tr))/\Fl.jx hs cb n t=tr++Fl.jx hs cb n v) (fun σ _=>match σ with |[_,_,_,_,_,some (.int v)]=>(Fl.jx hs cb n v).length|_=>0) ⟨t,[],rfl,q2,ed2,el,rfl⟩ ?_ ?_
 ·rintro σ Hc ⟨v,tr,rfl,s3,ed3,el3,htv⟩
  simp_arith[ed3,tV,Dg]
  refine⟨⟨_,rfl⟩,?_⟩
  cases hlk:Fl.lk cb v with
  |none=>
   simp_arith[Option.isNone]
   subst hR
   walk_at "D"
   rw[Fl.BU hlk,bh]at htv
   exact h l Hc hlH s3 (by rw[htv];exact el3)
  | some w=>
   obtain⟨hnx,hw⟩:=Fl.BS Cm hcl hlk
   have hm:=Fl.qM hw
   have hh:jl (hs.map V.int) ((Fl.iU w:Nat):Int)=some (.int (Fl.at' hs (Fl.iU w))):=oC (by rw[net.len];exact hm)
   have hval:=DC hlk
   have htl2:tr.length<=n:=by
    have:=bS List.length htv
    rw[aB]at this
    lia
   simp_arith[Option.isNone,el3,ed3,hval]
   refine⟨⟨l,_,rfl,el3⟩,?_⟩
   have hnl:(nv tr).length=tr.length:=ae _
   refine⟨jr (by lia),?_⟩
   have ed4:upd Hc l (.lst (nv tr++[.int (w:Int)])) d=some (.dK (kG cb)):=by rw[iL (cX ld)];exact ed3
   have s4:Same H (upd Hc l (.lst (nv tr++[.int (w:Int)]))):=jD s3 hlH
   have el4:upd Hc l (.lst (nv tr++[.int (w:Int)])) l=some (.lst (nv (tr++[w]))):=by rw[iD];unfold nv;rw[aj];rfl
   generalize upd Hc l (.lst (nv tr++[.int (w:Int)]))=H4 at ed4 s4 el4
   simp_arith[iS,s4 _ _ e1,qS,s4 _ _ e5,ed4,hval,zW,hh]
   refine⟨⟨_,_,rfl,s4,el4,?_⟩,?_⟩
   ·rw[htv,hnx,aQ]
    rfl
   ·rw[hnx,List.length_cons]
    lia
 ·intro σ Hc Q1 Q2 hq hc
  unfold fB nI t7 kf at hc ⊢
  cases e:σ[3]? with
  |none=>rw[e]at hc;exact hc.elim
  | some ov=>
   rw[e]at hc
   cases ov with
   |none=>exact hc.elim
   | some u=>
    dsimp only at hc ⊢
    cases u with
    | ref a=>
     dsimp only at hc ⊢
     refine⟨hc.1,?_⟩
     have hc:=hc.2
     cases e3:σ[5]? with
     |none=>rw[e3]at hc;exact hc.elim
     | some ov3=>
      rw[e3]at hc
      cases ov3 with
      |none=>exact hc.elim
      | some u3=>
       dsimp only at hc ⊢
       cases u3 with
       | int i=>
        dsimp only at hc ⊢
        cases e4:Hc a with
        |none=>rw[e4]at hc;exact hc.elim
        |some ob=>
         rw[e4]at hc
         cases ob with
         |dK kvs=>dsimp only[tC,sF]at hc ⊢;exact hq _ _ hc
         |_=>exact hc.elim
       |_=>exact hc.elim
    |_=>exact hc.elim
theorem AQ(r:List Int)(w:Nat)(x:Int):(r.map V.int).set w (.int x)=(r.set w x).map V.int:=by rw[List.map_set]
theorem EM{i:Nat}{σ:St}{H:Hp}{Q Q':Bool->Hp->Prop}(hq:∀b H1,Q b H1->Q' b H1)(hc:pF (kf i) σ H Q):pF (kf i) σ H Q':=by
 unfold pF kf at hc ⊢
 cases e:σ[i]? with
 |none=>rw[e]at hc;exact hc.elim
 | some ov=>
  rw[e]at hc
  cases ov with
  |none=>exact hc.elim
  | some u=>
   dsimp only at hc ⊢
   cases u with
   | ref a=>
    dsimp only at hc ⊢
    cases e4:H a with
    |none=>rw[e4]at hc;exact hc.elim
    |some ob=>
     rw[e4]at hc
     cases ob with
     |lst xs=>exact hq _ _ hc
     |_=>exact hc.elim
   |_=>exact hc.elim
theorem DX(B:Blt mg)(D:MthAt K C_Net "push" "Net.push" (ju 5 5) ["self","trail"] f fd)(T:NetC K mg C_Net):FnOk P w K mg base iK 1 f fd ["self","trail"] (yb C_Net):=by
 have sc:FnScope ["self","trail","amount","way"] ["self","trail"] (jb (ju 5 5)):=by walk_at "SC"
 refine D.F.ok sc (fun vs H Q E h=>?_) (fun cdv A outer s H vs Q E hr h=>?_)
 ·obtain⟨p,l,R,wf,hs,m,n,r,tr,rfl,_⟩:=h
  rfl
 obtain⟨p,l,R,wf,hs,m,n,r,tr,rfl,N,el,lR,tr0,htl,hw,h⟩:=h
 have hu:=jh hr
 have hu0:_<PySem.cLine:=av hu
 refine⟨_,(iH (iT (i:=2) sc.nd rfl (Or.inl rfl) (jf (Fv rfl) rfl B.min dA (iw (kI (CpScope.of (N:=["way","self"]) (src:=[none,some 0]) (by rfl)) rfl (kc (qv 1)) (fun _ _ _ _=>(iV (i:=0) (jn (l:=["way","self"]) (by rfl)) rfl (Or.inl rfl))) (fun _ _ _ _=>kJ) (fun _ _ _ _=>(iM iN (lT T.cl T.n_rooms (qv 1) rfl) (qv 0) (fun _ _=>rfl)))) iC))) (iH (kR bo rfl (kc (qv 1)) (iV (i:=3) sc.nd rfl (Or.inl rfl)) (iH (yE (lT T.cl T.n_rooms (qv 0) rfl) (qv 3) Ah (qv 2) DO oF) (iO (yE (lT T.cl T.n_rooms (qv 0) rfl) (iR xi (qv 3) iE) Ah (qv 2) DM oF)))) (iO (jc (qv 2))))),?_⟩
 have N0:=N
 obtain⟨⟨dx,W,Hd,ls,e1,e2,e3,e4,e5,n1,n2,n3⟩,eR,net,hlen,hbig,hn⟩:=N
 have hnl:(nv tr).length=tr.length:=ae _
 refine iQ fun R' hR=>?_
 walk_at "D"
 refine kE (jI K l) H (fun R2 hR2=>?_) (fun z hz0=>kz tr.length (fun i σ' Hc=>∃w1,σ'=[w1,some (.ref p)]/\Same H Hc/\Hc z=some (.lst (((tr.take i).map (Fl.at' r)).map V.int))) ⟨none,rfl,iI hz0 _,iD⟩ ?_ ?_)
 ·unfold jZ
  walk_at "D"
  exact⟨l,rfl,⟨_,SqL.of el⟩,hR2⟩
 ·rintro i σ' Hc hi ⟨w1,rfl,s7,ez⟩
  have x1:(nv tr)[i]? =some (.int ((tr[i]:Nat):Int)):=by unfold nv;rw[aE,gE hi];rfl
  have x2:tr[i]? =some tr[i]:=gE hi
  have hwi:=hw _ (df hi)
  generalize tr[i]=wi at x1 x2 hwi
  refine⟨⟨_,_,SqL.of (s7 _ _ el),x1⟩,?_⟩
  rintro y H' ⟨rfl,hy⟩
  have E1:=az (x1.symm.trans (hy _ (SqL.of (s7 _ _ el))))
  subst E1
  have hr':jl (r.map V.int) (wi:Int)=some (.int (Fl.at' r wi)):=oC (by rw[hlen];exact hwi)
  simp_arith[iS,s7 _ _ e1,oA,s7 _ _ eR,hr']
  refine⟨_,ez,?_,_,rfl,jD s7 hz0,?_⟩
  ·rw[ae,ae,aK]
   exact jr (by lia)
  ·rw[iD,jH x2,aj,aj]
   rfl
 ·rintro σ' Hc ⟨w1,rfl,s7,ez⟩
  refine⟨⟨_,SqL.of (s7 _ _ el),by lia⟩,?_⟩
  rw[aR]at ez
  refine⟨z,_,rfl,ez,by simpa using tr0,fun a ha hmin=>?_⟩
  have hae:a=Fl.kZ r tr:=by
   have h1:=hmin _ (Fl.xq r tr0)
   obtain⟨w,hwt,rfl⟩:=aL.mp ha
   have h2:=Fl.tq r hwt
   lia
  subst hae
  generalize Fl.kZ r tr=a at*
  walk_at "D"
  subst hR
  refine iQ fun R' hR=>?_
  have zR:z≠R:=(iX eR hz0).symm
  refine lu (jI K l) Hc (fun R3 hR3=>?_) (nA (K:=K) (a:=l) (xs:=nv tr) (fun i σ H4=>∃v3,σ=[some (.ref p),some (.ref l),some (.int a),v3]/\But R H H4/\H4 R=some (.lst ((Fl.push r (tr.take i) a).map V.int))) ⟨none,rfl,fun b o _ q=>s7 b o q,s7 _ _ eR⟩ (fun i σ H4 _ ⟨_,_,s4,_⟩=>SqL.of (s4 _ _ lR el)) ?_ ?_)
  ·unfold jZ
   walk_at "D"
   exact⟨l,rfl,⟨_,SqL.of (s7 _ _ el)⟩,hR3⟩
  ·rintro i x σ H4 hx ⟨v3,rfl,s4,eR4⟩
   unfold nv at hx
   rw[aE]at hx
   obtain⟨w,hwt,rfl⟩:=dj.mp hx
   have hwm:=hw w (ay hwt)
   have hmm:=Fl.qM hwm
   have hpl:(Fl.push r (tr.take i) a).length=2*m:=by rw[Fl.qI];exact hlen
   have hps:Fl.push r (tr.take (i+1)) a=Fl.bump (Fl.push r (tr.take i) a) w a:=by rw[jH hwt,Fl.CN]
   generalize Fl.push r (tr.take i) a=r1 at*
   have e14:=s4 _ _ n3 e1
   have h1:jl (r1.map V.int) (w:Int)=some (.int (Fl.at' r1 w)):=oC (by lia)
   have hx1:kK (r1.map V.int).length (w:Int)=some w:=yu (by rw[ae];lia)
   refine iQ fun R5 hR5=>?_
   simp_arith[e14,oA,eR4,h1,hx1]
   refine⟨gC _,?_⟩
   rw[AQ]
   have b5:But R H (upd H4 R (.lst ((r1.set w (Fl.at' r1 w-a)).map V.int))):=s4.trans (But.at R H4 _)
   have e15:=b5 _ _ n3 e1
   have eR5:upd H4 R (.lst ((r1.set w (Fl.at' r1 w-a)).map V.int)) R=some (.lst ((r1.set w (Fl.at' r1 w-a)).map V.int)):=iD
   generalize upd H4 R (.lst ((r1.set w (Fl.at' r1 w-a)).map V.int))=H5 at b5 e15 eR5
   have hl2:(r1.set w (Fl.at' r1 w-a)).length=2*m:=by rw[eK];exact hpl
   have h2:jl ((r1.set w (Fl.at' r1 w-a)).map V.int) ((Fl.iU w:Nat):Int)=some (.int (Fl.at' r1 (Fl.iU w))):=by
    rw[oC (by lia),Fl.wo,ak (fun z=>Fl.tu w z.1.symm)]
   have hx2:kK ((r1.set w (Fl.at' r1 w-a)).map V.int).length ((Fl.iU w:Nat):Int)=some (Fl.iU w):=yu (by rw[ae];lia)
   subst hR5
   simp_arith[e15,oA,eR5,zW,h2,hx2]
   refine⟨gC _,_,rfl,b5.trans (But.at R H5 _),?_⟩
   rw[iD,hps,AQ]
   rfl
  ·rintro σ H4 ⟨v3,rfl,s4,eR4⟩
   rw[hnl,aR]at eR4
   subst hR
   walk_at "D"
   exact h H4 s4 eR4
theorem DV(B:Blt mg)(D:MthAt K C_Net "fill" "Net.fill" (ju 5 2) ["self","source","sink"] f fd)(Dqn:MthAt K C_Net "shortest" "Net.shortest" (ju 5 3) ["self","source","sink"] fqn dqn)(Gqn:FnOk P w K mg base iK 2 fqn dqn ["self","source","sink"] (yX C_Net))(Dza:MthAt K C_Net "push" "Net.push" (ju 5 5) ["self","trail"] fza dza)(Gza:FnOk P w K mg base iK 1 fza dza ["self","trail"] (yb C_Net))(T:NetC K mg C_Net):FnOk P w K mg base iK 3 f fd ["self","source","sink"] (x8 C_Net):=by
 have sc:FnScope ["self","source","sink","flowing","trail"] ["self","source","sink"] (jb (ju 5 2)):=by walk_at "SC"
 refine D.F.ok sc (fun vs H Q E h=>?_) (fun cdv A outer s H vs Q E hr h=>?_)
 ·obtain⟨p,s,t,R,wf,hs,m,n,r,cap,rfl,_⟩:=h
  rfl
 obtain⟨p,s,t,R,wf,hs,m,n,r,cap,rfl,N,st,s0,s1,rm,h⟩:=h
 have hu:=jh hr
 have hu0:_<PySem.cLine:=av hu
 refine⟨_,(iH (iT (i:=3) sc.nd rfl (Or.inl rfl) iE) (iH (iT (i:=4) sc.nd rfl (Or.inl rfl) (mS (qv 0) T.cl Dqn.m Gqn (hr.mono (by decide)) Dqn.b .nil iW (iw (qv 1) (iw (qv 2) iC)))) (iH (uZ bo (D7 (qv 4)) (iH (rq (i:=3) sc.nd rfl (Or.inl rfl) (mS (qv 0) T.cl Dza.m Gza (hr.mono (by decide)) Dza.b .nil iW (iw (qv 4) iC)) ui) (iO (iT (i:=4) sc.nd rfl (Or.inl rfl) (mS (qv 0) T.cl Dqn.m Gqn (hr.mono (by decide)) Dqn.b .nil iW (iw (qv 1) (iw (qv 2) iC))))))) (iO (jc (qv 3)))))),?_⟩
 refine iQ fun R' hR=>?_
 walk_at "D"
 subst hR
 refine iQ fun R' hR=>?_
 obtain⟨dx,W,Hd,ls,e1,e2,e3,e4,e5,n1,n2,n3⟩:=N.st
 simp_arith[e1,A1]
 refine⟨p,s,t,R,wf,hs,m,n,r,rfl,N,s0,s1,fun l H1 hl q1 el=>?_⟩
 have lR:l≠R:=(iX N.eR hl).symm
 subst hR
 refine iQ fun R' hR=>?_
 refine vg (fun σ Hc=>∃(x:Int) (l:Addr) (r1:List Int),σ=[some (.ref p),some (.int s),some (.int t),some (.int x),some (.ref l)]/\But R H Hc/\Hc R=some (.lst (r1.map V.int))/\Fl.Runs wf hs n s t r r1/\Fl.Rooms m cap r1/\Hc l=some (.lst (nv (Fl.kq wf hs n s t r1)))/\l≠R) (fun _ Hc=>match Hc R with |some (.lst xs)=>(Fl.wj cap m-Fl.ex hs m (unI xs) t).toNat|_=>0) ⟨0,l,r,rfl,fun b o _ q=>q1 b o q,q1 _ _ N.eR,.done r,rm,el,lR⟩ ?_ ?_
 ·rintro σ Hc ⟨x,l,r1,rfl,b2,eR2,run,rm1,el2,lR⟩
  have N2:=N.but b2 eR2 rm1.len
  have e12:=b2 _ _ n3 e1
  by_cases ct:Fl.kq wf hs n s t r1=[]
  ·have hst:Fl.kN wf hs n s t r1=none:=by unfold Fl.kN;rw[aq ct]
   have hne:(nv (Fl.kq wf hs n s t r1)).isEmpty=true:=by rw[ct];rfl
   simp_arith[el2,hne]
   subst hR
   walk_at "D"
   exact h x r1 Hc run hst b2 eR2
  ·have hst:Fl.kN wf hs n s t r1=some (Fl.push r1 (Fl.kq wf hs n s t r1) (Fl.kZ r1 (Fl.kq wf hs n s t r1))):=by unfold Fl.kN;rw[ak ct]
   have hne:(nv (Fl.kq wf hs n s t r1)).isEmpty=false:=by unfold nv;cases hq:Fl.kq wf hs n s t r1 with |nil=>exact absurd hq ct|cons _ _=>rfl
   obtain⟨_,gi,G⟩:=Fl.wB N.net st ⟨s0,s1⟩ ct
   have hk:=Fl.wY N.net st ⟨s0,s1⟩ rm1 hst
   have hle:=Fl.sW (hs:=hs) (cb:=Fl.jw wf hs n s r1) n t
   simp_arith[el2,hne,e12,EO]
   refine⟨p,l,R,wf,hs,m,n,r1,_,rfl,N2,el2,lR,ct,bD hle N.n200,fun w hw=>(G.up w hw).1,fun H3 b3 eR3=>?_⟩
   have b4:=b2.trans b3
   have N3:=N2.but b3 eR3 (by rw[Fl.qI];exact rm1.len)
   simp_arith[b4 _ _ n3 e1,A1]
   refine⟨p,s,t,R,wf,hs,m,n,_,rfl,N3,s0,s1,fun l2 H5 hl2 q5 el5=>?_⟩
   have eR5:=q5 _ _ eR3
   refine⟨⟨_,l2,_,rfl,b4.trans fun b o _ q=>q5 b o q,eR5,run.snoc hst,hk.1,el5,(iX eR3 hl2).symm⟩,?_⟩
   rw[eR5,eR2]
   dsimp only
   rw[zb,zb]
   have:=hk.2.2
   have:=Fl.Ir (hs:=hs) hk.1 t
   lia
 ·intro σ Hc Q1 Q2 hq hc
  exact EM hq hc
structure NtG(C:Addr)(H:Hp)(p dx W Hd R:Addr)(ls:List Addr)(f:Nat->List V)(hv rv:List V):Prop where
 o:H p=some (jX C dx W Hd R)
 w:H W=some (.lst (ls.map V.ref))
 l:∀(i:Nat) (a:Addr),ls[i]? =some a->H a=some (.lst (f i))/\a≠R/\a≠Hd/\a≠W
 nd:ls.Nodup
 h:H Hd=some (.lst hv)
 r:H R=some (.lst rv)
 n1:W≠R
 n2:Hd≠R
 n3:W≠Hd
noncomputable def pA(H:Hp)(wa Hd R:Addr)(a b c:List V):Hp:=upd (upd (upd H wa (.lst a)) Hd (.lst b)) R (.lst c)
theorem NtG.put{C:Addr}{H:Hp}{p dx W Hd R:Addr}{ls:List Addr}{f:Nat->List V}{hv rv:List V}(G:NtG C H p dx W Hd R ls f hv rv){i:Nat}{wa:Addr}(hi:ls[i]? =some wa)(x y z:V):
  NtG C (pA H wa Hd R (f i++[x]) (hv++[y]) (rv++[z])) p dx W Hd R ls (fun j=>if j=i then f i++[x]else f j) (hv++[y]) (rv++[z]):=by
 obtain⟨a1,a2,a3,a4⟩:=G.l i wa hi
 have p1:p≠wa:=nO G.o a1 (by intro z;cases z)
 have p2:p≠Hd:=nO G.o G.h (by intro z;cases z)
 have p3:p≠R:=nO G.o G.r (by intro z;cases z)
 unfold pA
 refine⟨by rw[iL p3,iL p2,iL p1];exact G.o,by rw[iL G.n1,iL G.n3,iL (cX a4)];exact G.w,fun j a ha=>?_,G.nd,by rw[iL G.n2,iD],iD,G.n1,G.n2,G.n3⟩
 obtain⟨b1,b2,b3,b4⟩:=G.l j a ha
 refine⟨?_,b2,b3,b4⟩
 rw[iL b2,iL b3]
 by_cases c:j=i
 ·subst c
  rw[hi]at ha
  cases ha
  rw[aq rfl,iD]
 ·rw[ak c,iL (fun e=>c ?_)]
  ·exact b1
  ·subst e
   have h1:=(au.mp ha)
   have h2:=(au.mp hi)
   exact(gY G.nd).mp (h1.2.trans h2.2.symm)
def zM(C:Addr):Sp:=fun vs H Q _=>∃p dx W Hd R ls f hv rv i wa hd rm,vs=[.ref p,.int ((i:Nat):Int),.int hd,.int rm]/\NtG C H p dx W Hd R ls f hv rv/\ls[i]? =some wa/\(f i).length<=900/\hv.length<=900/\rv.length<=900/\Q .non (pA H wa Hd R (f i++[.int (hv.length:Int)]) (hv++[.int hd]) (rv++[.int rm]))
def ya(C:Addr):Sp:=fun vs H Q _=>∃p dx n al zs as,vs=[.ref p,.int ((n:Nat):Int),.ref al]/\H p=some (.ins C dx [])/\H al=some (.lst zs)/\kj H zs as/\n<=200/\as.length<=450/\(∀a∈as,(0<=a.1/\a.1<(n:Int))/\0<=a.2.1/\a.2.1<(n:Int))/\∀R H',H R=none->But p H H'->Nt C H' p R (Fl.jL as) (Fl.ji as) as.length n (Fl.jM as)->Q .non H'
theorem BF(as:List Fl.jQ)(u:Int):(Fl.jL as u).length<=2*as.length:=by
 unfold Fl.jL
 have:=fW (fun w=>decide (Fl.at' (Fl.ji as) (Fl.iU w)=u)) (List.range (2*as.length))
 rw[bg]at this
 exact this
theorem But.upd{p q:Addr}{H H':Hp}{o:HO}(b:But p H H')(h:H q=none):But p H (upd H' q o):=fun c u n e=>by rw[iL (iX e h)];exact b c u n e
theorem xI(a b:List Nat):nv (a++b)=nv a++nv b:=aj
theorem GA(B:Blt mg)(D:MthAt K C_Net "put_way" "Net.put_way" (ju 5 1) ["self","tail","head","room"] f fd)(T:NetC K mg C_Net):FnOk P w K mg base iK 1 f fd ["self","tail","head","room"] (zM C_Net):=by
 have sc:FnScope ["self","tail","head","room"] ["self","tail","head","room"] (jb (ju 5 1)):=by walk_at "SC"
 refine D.F.ok sc (fun vs H Q E h=>?_) (fun cdv A outer s H vs Q E hr h=>?_)
 ·obtain⟨p,dx,W,Hd,R,ls,f,hv,rv,i,wa,hd,rm,rfl,_⟩:=h
  rfl
 obtain⟨p,dx,W,Hd,R,ls,f,hv,rv,i,wa,hd,rm,rfl,G,hi,l1,l2,l3,h⟩:=h
 have hu:=jh hr
 have hu0:_<PySem.cLine:=av hu
 refine⟨_,(iH (ke (kY aX aZ aY lr (iM iN (lT T.cl T.n_ways_from (qv 0) rfl) (qv 1) (fun _ _=>rfl)) (iw (jf k6 rfl B.len bw (iw (lT T.cl T.n_heads (qv 0) rfl) iC)) iC))) (iH (ke (kY aX aZ aY lr (lT T.cl T.n_heads (qv 0) rfl) (iw (qv 2) iC))) (iO (ke (kY aX aZ aY lr (lT T.cl T.n_rooms (qv 0) rfl) (iw (qv 3) iC)))))),?_⟩
 have e1:=G.o
 have e2:=G.w
 have e3:=G.h
 have hat:=xx hi
 obtain⟨a1,a2,a3,a4⟩:=G.l i wa hi
 have p1:p≠wa:=nO G.o a1 (by intro z;cases z)
 have p2:p≠Hd:=nO G.o G.h (by intro z;cases z)
 refine iQ fun R' hR=>?_
 simp_arith[iS,e1,Bh,qS,e2,hat,a1,e3]
 refine⟨⟨wa,_,rfl,a1⟩,jr (by lia),?_⟩
 have e4:upd H wa (.lst (f i++[.int (hv.length:Int)])) p=some (jX C_Net dx W Hd R):=by rw[iL p1];exact e1
 have e5:upd H wa (.lst (f i++[.int (hv.length:Int)])) Hd=some (.lst hv):=by rw[iL (cX a3)];exact e3
 have e6:upd H wa (.lst (f i++[.int (hv.length:Int)])) R=some (.lst rv):=by rw[iL (cX a2)];exact G.r
 subst hR
 refine iQ fun R' hR=>?_
 simp_arith[e4,qS,e5]
 refine⟨⟨Hd,_,rfl,e5⟩,jr (by lia),?_⟩
 have e7:upd (upd H wa (.lst (f i++[.int (hv.length:Int)]))) Hd (.lst (hv++[.int hd])) p=some (jX C_Net dx W Hd R):=by rw[iL p2];exact e4
 have e8:upd (upd H wa (.lst (f i++[.int (hv.length:Int)]))) Hd (.lst (hv++[.int hd])) R=some (.lst rv):=by rw[iL (cX G.n2)];exact e6
 subst hR
 simp_arith[e7,oA,e8]
 exact⟨⟨R,_,rfl,e8⟩,jr (by lia),h⟩
theorem NtG.congr{C:Addr}{H:Hp}{p dx W Hd R:Addr}{ls:List Addr}{f g:Nat->List V}{hv rv hv' rv':List V}(G:NtG C H p dx W Hd R ls f hv rv)(h:∀i,i<ls.length->f i=g i)(e1:hv=hv')(e2:rv=rv'):NtG C H p dx W Hd R ls g hv' rv':=by
 subst e1 e2
 exact ⟨G.o,G.w,fun i a ha=>by rw [<- h i (au.mp ha).1]; exact G.l i a ha,G.nd,G.h,G.r,G.n1,G.n2,G.n3⟩
theorem zF{p wa Hd R:Addr}{H H':Hp}{a b c:List V}(s:But p H H')(h1:H wa=none)(h2:H Hd=none)(h3:H R=none):But p H (pA H' wa Hd R a b c):=((s.upd h1).upd h2).upd h3
theorem Ek{as:List Fl.jQ}{a:Fl.jQ}{i1 i2 j:Nat}(h1:a.1=(i1:Int))(h2:a.2.1=(i2:Int)){x y:V}(hx:x= .int ((2*as.length:Nat):Int))(hy:y= .int ((2*as.length+1:Nat):Int)):
  (if j=i2 then(if i2=i1 then nv (Fl.jL as (i1:Int))++[x]else nv (Fl.jL as (i2:Int)))++[y]else(if j=i1 then nv (Fl.jL as (i1:Int))++[x]else nv (Fl.jL as (j:Int))))=nv (Fl.jL (as++[a]) (j:Int)):=by
 rw[Fl.BE,xI,xI,h1,h2,hx,hy]
 by_cases c1:j=i1
 ·by_cases c2:j=i2
  ·have:i2=i1:=by lia
   subst c2
   subst this
   rw[aq rfl,aq rfl,aq rfl,aq rfl]
   rfl
  ·subst c1
   rw[ak c2,aq rfl,aq rfl,ak (by lia)]
   show _=_++[]
   rw[bh]
   rfl
 ·by_cases c2:j=i2
  ·subst c2
   rw[aq rfl,ak c1,ak (by lia),aq rfl]
   show _=(_++[])++_
   rw[bh]
   rfl
  ·rw[ak c2,ak c1,ak (by lia),ak (by lia)]
   show _=(_++[])++[]
   rw[bh,bh]
theorem DW(B:Blt mg)(D:MthAt K C_Net "__init__" "Net.__init__" (ju 5 0) ["self","many","arcs"] f fd)(Dqm:MthAt K C_Net "put_way" "Net.put_way" (ju 5 1) ["self","tail","head","room"] fqm dqm)(Gqm:FnOk P w K mg base iK 1 fqm dqm ["self","tail","head","room"] (zM C_Net))(T:NetC K mg C_Net):FnOk P w K mg base iK 2 f fd ["self","many","arcs"] (ya C_Net):=by
 have sc:FnScope ["self","many","arcs","tail","head","room"] ["self","many","arcs"] (jb (ju 5 0)):=by walk_at "SC"
 refine D.F.ok sc (fun vs H Q E h=>?_) (fun cdv A outer s H vs Q E hr h=>?_)
 ·obtain⟨p,dx,n,al,zs,as,rfl,_⟩:=h
  rfl
 obtain⟨p,dx,n,al,zs,as,rfl,ep,eal,pz,hn,ha,hok,h⟩:=h
 have hu:=jh hr
 have hu0:_<PySem.cLine:=av hu
 refine⟨_,(iH (uJ T.cl T.n_ways_from (qv 0) (kI (CpScope.of (N:=["knot"]) (src:=[none]) (by rfl)) rfl (se rfl B.range (iw (qv 1) iC)) (fun _ _ _ _=>(iV (i:=0) (jn (l:=["knot"]) (by rfl)) rfl (Or.inl rfl))) (fun _ _ _ _=>kJ) (fun _ _ _ _=>(ki iC))) rfl) (iH (uJ T.cl T.n_heads (qv 0) (ki iC) rfl) (iH (uJ T.cl T.n_rooms (qv 0) (ki iC) rfl) (iO (kR bo rfl (kc (qv 2)) (jS (n:=3) rfl (ja (iV (i:=3) sc.nd rfl (Or.inl rfl)) (ja (iV (i:=4) sc.nd rfl (Or.inl rfl)) (ja (iV (i:=5) sc.nd rfl (Or.inl rfl)) jT)))) (iH (ke (mS (qv 0) T.cl Dqm.m Gqm (hr.mono (by decide)) Dqm.b .nil iW (iw (qv 3) (iw (qv 4) (iw (qv 5) iC))))) (iO (ke (mS (qv 0) T.cl Dqm.m Gqm (hr.mono (by decide)) Dqm.b .nil iW (iw (qv 4) (iw (qv 3) (iw iE iC)))))))))))),?_⟩
 have hlz:zs.length=as.length:=aw pz
 have alp:al≠p:=nO eal ep (by intro z;cases z)
 refine iQ fun R' hR=>?_
 walk_at "D"
 refine kE (lZ 0 n) H (fun R2 hR2=>?_) (fun W hW=>kz n (fun i σ' Hc=>∃w1 ls,σ'=[w1]/\Same H Hc/\Hc W=some (.lst (ls.map V.ref))/\ls.length=i/\ls.Nodup/\∀a∈ls,Hc a=some (.lst [])/\a≠W/\H a=none) ⟨none,[],rfl,iI hW _,iD,rfl,.nil,fun a z=>by cases z⟩ ?_ ?_)
 ·unfold pH
  walk_at "D"
  exact⟨_,rfl,by lia,by lia,hR2⟩
 ·rintro i σ' Hc hi ⟨w1,ls,rfl,s1,eW,hl,nd,hls⟩
  refine⟨hi,?_⟩
  rintro y H' ⟨rfl,rfl⟩
  walk_at "D"
  intro b hb
  have q:=iI hb (.lst [])
  have eb:upd H' b (.lst []) b=some (.lst []):=iD
  have eW2:=q _ _ eW
  have bW:b≠W:=(iX eW hb).symm
  have s2:=s1.trans q
  have hls2:∀a∈ls,upd H' b (.lst []) a=some (.lst [])/\a≠b:=fun a ha=>⟨q _ _ (hls a ha).1,iX (hls a ha).1 hb⟩
  generalize upd H' b (.lst [])=H3 at q eb eW2 s2 hls2
  refine⟨_,eW2,by rw[ae];exact jr (by lia),_,ls++[b],rfl,jD s2 hW,by rw[iD,aj];rfl,by rw[aB,hl];rfl,?_,fun a ha=>?_⟩
  ·rw[fj]
   refine⟨nd,by simp,fun a ha c hc=>?_⟩
   rw[aV.mp hc]
   exact(hls2 a ha).2
  ·rcases bu.mp ha with ha|ha
   ·refine⟨by rw[iL (hls a ha).2.1];exact(hls2 a ha).1,(hls a ha).2⟩
   ·rw[aV.mp ha]
    exact⟨by rw[iL bW];exact eb,bW,s1.free hb⟩
 rintro σ' H1 ⟨w1,ls,rfl,s1,eW,hl,nd,hls⟩
 refine⟨ai _,?_⟩
 have ep1:=s1 _ _ ep
 simp_arith[ep1]
 refine⟨cP rfl,?_⟩
 have b2:But p H (upd H1 p (.ins C_Net dx (jg "ways_from" (.ref W) []))):=fun b o n q=>by rw[iL n];exact s1 b o q
 have ep2:upd H1 p (.ins C_Net dx (jg "ways_from" (.ref W) [])) p=some (.ins C_Net dx (jg "ways_from" (.ref W) [])):=iD
 have Wp:W≠p:=(iX ep hW).symm
 have eW2:upd H1 p (.ins C_Net dx (jg "ways_from" (.ref W) [])) W=some (.lst (ls.map V.ref)):=by rw[iL Wp];exact eW
 have hls2:∀a∈ls,upd H1 p (.ins C_Net dx (jg "ways_from" (.ref W) [])) a=some (.lst [])/\a≠W/\H a=none:=fun a ha=>⟨by rw[iL (iX ep (hls a ha).2.2).symm];exact(hls a ha).1,(hls a ha).2⟩
 generalize upd H1 p (.ins C_Net dx (jg "ways_from" (.ref W) []))=H2 at b2 ep2 eW2 hls2
 clear hls eW ep1 s1
 have free:∀{H':Hp} {q:Addr},But p H H'->H' p≠none->H' q=none->H q=none:=fun{H' q} b hp hq=>by
  cases e:H q with
  |none=>rfl
  |some o=>
   have hqp:q ≠ p:=fun z=>hp (by rw [<- z]; exact hq)
   rw[b _ _ hqp e]at hq
   cases hq
 subst hR
 refine iQ fun R' hR=>?_
 walk_at "D"
 intro Hd hHd
 have fHd:H Hd=none:=free b2 (by rw[ep2];simp) hHd
 have ep3:upd H2 Hd (.lst []) p=some (.ins C_Net dx (jg "ways_from" (.ref W) [])):=iI hHd _ _ _ ep2
 have eHd:upd H2 Hd (.lst []) Hd=some (.lst []):=iD
 have WHd:W≠Hd:=iX eW2 hHd
 have hls3:∀a∈ls,upd H2 Hd (.lst []) a=some (.lst [])/\a≠Hd:=fun a ha=>⟨iI hHd _ _ _ (hls2 a ha).1,iX (hls2 a ha).1 hHd⟩
 have eW3:=iI hHd (.lst []) _ _ eW2
 have b3:But p H (upd H2 Hd (.lst [])):=b2.upd fHd
 generalize upd H2 Hd (.lst [])=H3 at ep3 eHd hls3 eW3 b3
 simp_arith[ep3]
 refine⟨cP rfl,?_⟩
 have Hdp:Hd≠p:=(iX ep fHd).symm
 have ep4:upd H3 p (.ins C_Net dx (jg "heads" (.ref Hd) (jg "ways_from" (.ref W) []))) p=some (.ins C_Net dx (jg "heads" (.ref Hd) (jg "ways_from" (.ref W) []))):=iD
 have eHd4:upd H3 p (.ins C_Net dx (jg "heads" (.ref Hd) (jg "ways_from" (.ref W) []))) Hd=some (.lst []):=by rw[iL Hdp];exact eHd
 have eW4:upd H3 p (.ins C_Net dx (jg "heads" (.ref Hd) (jg "ways_from" (.ref W) []))) W=some (.lst (ls.map V.ref)):=by rw[iL Wp];exact eW3
 have hls4:∀a∈ls,upd H3 p (.ins C_Net dx (jg "heads" (.ref Hd) (jg "ways_from" (.ref W) []))) a=some (.lst []):=fun a ha=>by rw[iL (iX ep (hls2 a ha).2.2).symm];exact(hls3 a ha).1
 have b4:But p H (upd H3 p (.ins C_Net dx (jg "heads" (.ref Hd) (jg "ways_from" (.ref W) [])))):=b3.trans (But.at p H3 _)
 generalize upd H3 p (.ins C_Net dx (jg "heads" (.ref Hd) (jg "ways_from" (.ref W) [])))=H4 at ep4 eHd4 eW4 hls4 b4
 subst hR
 refine iQ fun R' hR=>?_
 walk_at "D"
 intro R hRn
 have fR:H R=none:=free b4 (by rw[ep4];simp) hRn
 have ep5:upd H4 R (.lst []) p=some (.ins C_Net dx (jg "heads" (.ref Hd) (jg "ways_from" (.ref W) []))):=iI hRn _ _ _ ep4
 have eR5:upd H4 R (.lst []) R=some (.lst []):=iD
 have eHd5:=iI hRn (.lst []) _ _ eHd4
 have eW5:=iI hRn (.lst []) _ _ eW4
 have WR:W≠R:=iX eW4 hRn
 have HdR:Hd≠R:=iX eHd4 hRn
 have hls5:∀a∈ls,upd H4 R (.lst []) a=some (.lst [])/\a≠R:=fun a ha=>⟨iI hRn _ _ _ (hls4 a ha),iX (hls4 a ha) hRn⟩
 have b5:But p H (upd H4 R (.lst [])):=b4.upd fR
 generalize upd H4 R (.lst [])=H5 at ep5 eR5 eHd5 eW5 hls5 b5
 simp_arith[ep5]
 refine⟨cP rfl,?_⟩
 have Rp:R≠p:=(iX ep fR).symm
 have eo:(HO.ins C_Net dx (jg "rooms" (.ref R) (jg "heads" (.ref Hd) (jg "ways_from" (.ref W) []))))=jX C_Net dx W Hd R:=rfl
 rw[eo]
 have b6:But p H (upd H5 p (jX C_Net dx W Hd R)):=b5.trans (But.at p H5 _)
 have G0:NtG C_Net (upd H5 p (jX C_Net dx W Hd R)) p dx W Hd R ls (fun i=>nv (Fl.jL (as.take 0) (i:Int))) ((Fl.ji (as.take 0)).map V.int) ((Fl.jM (as.take 0)).map V.int):=by
  refine⟨iD,by rw[iL Wp];exact eW5,fun i a hia=>?_,nd,by rw[iL Hdp];exact eHd5,by rw[iL Rp];exact eR5,WR,HdR,WHd⟩
  have ha:=ay hia
  exact⟨by rw[iL (iX ep (hls2 a ha).2.2).symm];exact(hls5 a ha).1,(hls5 a ha).2,(hls3 a ha).2,(hls2 a ha).2.1⟩
 generalize upd H5 p (jX C_Net dx W Hd R)=H6 at b6 G0
 have fls:∀a∈ls,H a=none:=fun a ha=>(hls2 a ha).2.2
 clear hls2 hls3 hls4 hls5 b2 b3 b4 b5 ep2 ep3 ep4 ep5 eW2 eW3 eW4 eW5 eHd eHd4 eHd5 eR5
 subst hR
 refine lu (jI K al) H6 (fun R3 hR3=>?_) (nA (K:=K) (a:=al) (xs:=zs) (fun k σ Hc=>∃v1 v2 v3,σ=[some (.ref p),some (.int (n:Int)),some (.ref al),v1,v2,v3]/\But p H Hc/\NtG C_Net Hc p dx W Hd R ls (fun i=>nv (Fl.jL (as.take k) (i:Int))) ((Fl.ji (as.take k)).map V.int) ((Fl.jM (as.take k)).map V.int)) ⟨none,none,none,rfl,b6,G0⟩ (fun i σ Hc _ ⟨_,_,_,_,b,_⟩=>SqL.of (b _ _ alp eal)) ?_ ?_)
 ·unfold jZ
  walk_at "D"
  exact⟨al,rfl,⟨_,SqL.of (b6 _ _ alp eal)⟩,hR3⟩
 ·rintro k x σ Hc hx ⟨v1,v2,v3,rfl,b7,G⟩
  obtain⟨a,hka,pa⟩:=ko pz hx
  obtain⟨t,rfl,et⟩:=Tp.tups pa (b7.tups ep rfl)
  have hkl:=(au.mp hka).1
  obtain⟨⟨h1,h2⟩,h3,h4⟩:=hok a (ay hka)
  have i1:ls[a.1.toNat]? =some (ls[a.1.toNat]'(by lia)):=gE _
  have i2:ls[a.2.1.toNat]? =some (ls[a.2.1.toNat]'(by lia)):=gE _
  generalize ls[a.1.toNat]'(by lia)=w1 at i1
  generalize ls[a.2.1.toNat]'(by lia)=w2 at i2
  have c1:((a.1.toNat:Nat):Int)=a.1:=by lia
  have c2:((a.2.1.toNat:Nat):Int)=a.2.1:=by lia
  have htk:(as.take k).length=k:=by rw[aK];lia
  have hl1:((Fl.ji (as.take k)).map V.int).length=2*k:=by rw[ae,Fl.sr,htk]
  have hl2:((Fl.jM (as.take k)).map V.int).length=2*k:=by rw[ae,Fl.qE,htk]
  have hl3:∀u:Int,(nv (Fl.jL (as.take k) u)).length<=2*k:=fun u=>by
   have:=BF (as.take k) u
   rw[htk]at this
   unfold nv
   rw[ae]
   exact this
  simp_arith[et,G.o,AU]
  refine⟨p,dx,W,Hd,R,ls,_,_,_,a.1.toNat,w1,a.2.1,a.2.2,by rw[c1],G,i1,by have:=hl3 ((a.1.toNat:Nat):Int);lia,by lia,by lia,?_⟩
  have G1:=G.put i1 (.int (((Fl.ji (as.take k)).map V.int).length:Int)) (.int a.2.1) (.int a.2.2)
  have b8:=zF (wa:=w1) (Hd:=Hd) (R:=R) (a:=nv (Fl.jL (as.take k) ((a.1.toNat:Nat):Int))++[.int (((Fl.ji (as.take k)).map V.int).length:Int)]) (b:=(Fl.ji (as.take k)).map V.int++[.int a.2.1]) (c:=(Fl.jM (as.take k)).map V.int++[.int a.2.2]) b7 (fls _ (ay i1)) fHd fR
  generalize pA Hc w1 Hd R (nv (Fl.jL (as.take k) ((a.1.toNat:Nat):Int))++[.int (((Fl.ji (as.take k)).map V.int).length:Int)]) ((Fl.ji (as.take k)).map V.int++[.int a.2.1]) ((Fl.jM (as.take k)).map V.int++[.int a.2.2])=H8 at G1 b8
  simp_arith[G1.o,AU]
  refine⟨p,dx,W,Hd,R,ls,_,_,_,a.2.1.toNat,w2,a.1,0,by rw[c2],G1,i2,?_,by rw[aB,hl1];show _+1<=_;lia,by rw[aB,hl2];show _+1<=_;lia,?_⟩
  ·split
   ·rw[aB]
    have:=hl3 ((a.1.toNat:Nat):Int)
    show _+1<=_
    lia
   ·have:=hl3 ((a.2.1.toNat:Nat):Int);lia
  have G2:=G1.put i2 (.int ((((Fl.ji (as.take k)).map V.int)++[V.int a.2.1]).length:Int)) (.int a.1) (.int 0)
  have b9:=zF (wa:=w2) (Hd:=Hd) (R:=R) (a:=(if a.2.1.toNat=a.1.toNat then nv (Fl.jL (as.take k) ((a.1.toNat:Nat):Int))++[.int (((Fl.ji (as.take k)).map V.int).length:Int)]else nv (Fl.jL (as.take k) ((a.2.1.toNat:Nat):Int)))++[.int ((((Fl.ji (as.take k)).map V.int)++[V.int a.2.1]).length:Int)]) (b:=((Fl.ji (as.take k)).map V.int++[.int a.2.1])++[.int a.1]) (c:=((Fl.jM (as.take k)).map V.int++[.int a.2.2])++[.int 0]) b8 (fls _ (ay i2)) fHd fR
  refine⟨_,_,_,rfl,b9,G2.congr (fun j hj=>?_) ?_ ?_⟩
  ·rw[jH hka]
   exact Ek c1.symm c2.symm (by rw[hl1,htk]) (by rw[aB,hl1,htk];rfl)
  ·rw[jH hka,Fl.vO,aj,aQ];rfl
  ·rw[jH hka,Fl.xc,aj,aQ];rfl
 ·rintro σ Hc ⟨v1,v2,v3,rfl,b7,G⟩
  rw[hlz,aR]at G
  refine h R Hc fR b7 ⟨⟨dx,W,Hd,ls,G.o,G.w,hl,fun i a hia=>⟨(G.l i a hia).1,(G.l i a hia).2.1⟩,G.h,G.n1,G.n2,Rp.symm⟩,G.r,Fl.xo hok,Fl.qE as,by lia,hn⟩
end
end My
namespace L2
open PySem PySem.Spec PyProof.Rows
theorem zu:∀{vs:List Value} {ns:List Int},IntsAre vs ns->vs.map numOf=ns/\∀v∈vs,∃t,v= .int (numOf v) t
 |_,_,.nil=>⟨rfl,fun _ h=>by cases h⟩
 |_,_,.cons n t r=>by
  obtain⟨a,b⟩:=zu r
  refine⟨by rw[ag,a];rfl,fun v hv=>?_⟩
  rcases aS.mp hv with rfl|hv
  ·exact⟨t,rfl⟩
  ·exact b v hv
theorem Ai:∀{vs:List Value},(∀v∈vs,∃t,v= .int (numOf v) t)->IntsAre vs (vs.map numOf)
 |[],_=>.nil
 |v::vs,h=>by
  obtain⟨t,e⟩:=h v (.head _)
  have:=Ai (vs:=vs) fun u hu=>h u (.tail _ hu)
  rw[ag]
  have g:∀(v:Value) (n:Int),v= .int n t->IntsAre (v::vs) (n::vs.map numOf):=fun v n e=>by rw[e];exact .cons n t this
  exact g v _ e
def Ea:List V->Hp->VK->Prop:=fun vs H Q=>∃(p:Addr) (kvs:List (iF×V)) (ns:List Int),vs=[.ref p]/\H p=some (.dK kvs)/\kvs.map (·.1)=ns.map Sum.inl/\ns.length<=900/\
 ∀(l:Addr) (ms:List Int),H l=none->ms.Perm ns->ms.Pairwise (·<=·)->Q (.ref l) (upd H l (.lst (ms.map V.int)))
theorem GM{X:Cx}(hc:X.calm=true):jc2 X (.builtin "sorted") Ea:=by
 intro pins s σ H xs us Q I r h
 obtain⟨p,kvs,ns,rfl,e,hk,h64,q⟩:=h
 obtain⟨u,rfl,rx⟩:=mP r
 cases rx
 obtain⟨z,lo,vs',rel,dd⟩:=tF I.hok e
 obtain⟨ep,hat⟩:=dd.dictAt
 have hkl:=rel.length
 have hz9:(1000:Nat)<=sizeLine:=by decide
 have hnl:ns.length=kvs.length:=by
  have:=bS List.length hk
  simpa using this.symm
 refine Calls.call_function_entry kind_sorted plain_sorted entry_sorted (args_sorted1 _) ?_
 unfold Builtin.«sorted»
 refine aa (m:=checkCount "sorted" 1 1 _) (ao ?_)
 refine aa (PySem.W.kdu_collect (PySem.W.kdl_dict (knd:=jO X.prog X.w) (kvs:=vs') (ep:=ep) lo) (I.ok.hd hc) hat (by lia) fun h' tk acc hkp hacc=>?_)
 have hl:acc.toList.length=vs'.length:=by rw[Array.length_toList];exact hacc.1
 have hI:IntsAre acc.toList ns:=Ak rel hk hl fun j v ej=>hacc.2 j v (by rw [<- bH]; exact ej)
 obtain⟨n1,n2⟩:=zu hI
 refine aa (fk ?_ (by lia))
 have hoL:(h'.push (seqObj "list" acc.toList.toArray 0)).get? h'.objs.size=some (seqObj "list" acc.toList.toArray 0):=aI _ rfl
 have hlt:∀b o,h'.get? b=some o->b<h'.objs.size:=fun b o eb=>aD eb
 have keep:∀b o,h'.get? b=some o->b≠h'.objs.size/\(h'.push (seqObj "list" acc.toList.toArray 0)).get? b=some o:=fun b o eb=>⟨aP (hlt b o eb),af _ eb⟩
 show wpAny _ _ _ _ _ {s with heap:=h'.push (seqObj "list" acc.toList.toArray 0),toks:=tk}
 refine aa (bV (cY slot_list_sort ⟨_,hoL,rfl⟩ entry_list_sort (So.yL (s:={s with heap:=h'.push (seqObj "list" acc.toList.toArray 0),toks:=tk}) (R:=fun k=>numOf k.1) (h₁:=h') hoL (by lia) keep (fun h2=>So.Fq hI h2) fun out a1 a2=>⟨_,rfl,?_⟩) (args_list_sort _)))
 refine ao ⟨_,rfl,?_⟩
 have kp:∀b o,h'.get? b=some o->(sortedHeap (h'.push (seqObj "list" acc.toList.toArray 0)) h'.objs.size acc.toList out).get? b=some o:=fun b o eb=>by
  rw[sortedHeap_old (aP (hlt b o eb)) (by rw[ik];exact cU (hlt b o eb)),Heap.get?_push_ne _ _ _ (aP (hlt b o eb))]
  exact eb
 obtain⟨c,hcc⟩:=sortedHeap_at (out:=out) hoL
 have I1:Inv X pins σ H {s with heap:=h',toks:=tk}:=I.kept hkp
 have om:∀v∈out.toList,∃t,v= .int (numOf v) t:=fun v hv=>n2 v (a1.mem_iff.mp hv)
 have pm:(out.toList.map numOf).Perm ns:=by have:=a1.map numOf;rwa[n1]at this
 have hml:=pm.length_eq
 refine⟨.ref h'.objs.size,_,I1.laid (t':=tk) kp (ai _) (show jbp X.prog X.w _ _ _ (.lst ((out.toList.map numOf).map V.int))from⟨?_,out.toList,c,vw (Ai om),?_⟩),rfl,q _ (out.toList.map numOf) (I1.hok.fresh (ai _)) pm ?_⟩
 ·rw[ae,hml];lia
 ·rw[hcc]
 ·rw[bK];exact a2
end L2
namespace My
open PySem L2
section
variable{P:Program}{w:World}{K:PySem.W.Frag}{mg:Str->Option Value}{base:Heap}{c1 c2 c3 c4 e1 e2 e3:Tok}{C_Net C_NoWeb fql:Addr}{dI:FuncData}
noncomputable def lH(ns:List Int):List (iF×V):=ns.map fun n=>(Sum.inl n,V.bl true)
theorem yA:∀(ns:List Int) (n:Int),jB (lH ns) n=decide (n∈ns)
 |[],n=>rfl
 | m::r,n=>by
  have ih:=yA r n
  unfold jB i8 lH at ih ⊢
  rw[ag,List.find?_cons]
  by_cases c:m=n
  ·subst c
   simp
  ·have hd:decide ((Sum.inl m:iF)=Sum.inl n)=false:=aJ fun z=>c (cE z)
   dsimp only
   rw[hd]
   rw[ih,dW,cF,cF,aS]
   exact⟨.inr,fun z=>z.resolve_left fun y=>c y.symm⟩
def yT:Sp:=fun vs H Q _=>∃u,∃ns:List Int,vs=[.ref u]/\H u=some (.lst (ns.map V.int))/\ns.Nodup/\ns.length<=120/\∀d H',H d=none->Same H H'->H' d=some (.dK (lH ns))->Q (.ref d) H'
structure Cst2(mg:Str->Option Value)(t1 t2 t3:Tok):Prop where
 SOURCE:mg "SOURCE"=some (.int 0 t1)
 SINK:mg "SINK"=some (.int 1 t2)
 FIRST:mg "FIRST"=some (.int 2 t3)
theorem GY{ι:Type}{src:List (Option Nat)}{wi:TI}{g:TG}{tc:TT}{te:TE}{Q:VK}{σ:St}{H:Hp}(J:ι->It)(H1:ι->Hp)(ok:ι->Prop)(h1:∀R:It->Hp->Prop,(∀p,ok p->R (J p) (H1 p))->wi σ H R)
  (h2:∀p,ok p->∀l,H1 p l=none->pB (J p) src g tc te Q σ (H1 p) l):rf src wi g tc te σ H Q:=h1 _ h2
theorem pQ{α β:Type}(f:α->β):∀(b:Bool) (xs:List α),jd b (xs.map f)=(jd b xs).map f
 |true,[]=>rfl
 |false,[]=>rfl
 |true,x::xs=>by show f x::jd false (xs.map f)=f x::(jd false xs).map f;rw[pQ f false xs]
 |false,x::xs=>pQ f true xs
def yR(C:Addr):Sp:=fun vs H Q _=>∃p R wf hs m n r,vs=[.ref p]/\Nt C H p R wf hs m n r/\∀l H',H l=none->Same H H'->H' l=some (.lst ((jd false r).map V.int))->Q (.ref l) H'
def yW(C:Addr):Sp:=fun vs H Q _=>∃p s R wf hs m n r,vs=[.ref p,.int s]/\Nt C H p R wf hs m n r/\0<=s/\s<(n:Int)/\n<=100/\∀(l:Addr) (ms:List Int) (H':Hp),H l=none->Same H H'->H' l=some (.lst (ms.map V.int))->ms.Perm ((Fl.jw wf hs n s r).map (·.1))->Q (.ref l) H'
noncomputable def mB(S:Int->Bool)(many:Int)(ps:List (Int×Int))(k:Nat):List (Int×Int):=(List.range k).map fun i=>((ps.getD i (0,0)).1,(if S (2+(i:Int))=true then 0 else 1)+(if S (2+many+(i:Int))=true then 1 else 0))
def x9:Sp:=fun vs H Q _=>∃v ps ts d kvs,vs=[v,.ref d]/\jd3 H v ps ts/\WebOk ps ts/\H d=some (.dK kvs)/\∀l zs H',H l=none->Same H H'->H' l=some (.lst zs)->Prs H' zs (mB (jB kvs) ps.length ps ps.length)->Q (.ref l) H'
noncomputable def mW(fs:List Int)(n:Nat)(ts:List (Int×Int))(k:Nat):List (Int×Int×Int):=((List.range k).map fun j=>((ts.getD j (0,0)).1,(ts.getD j (0,0)).2,Fl.at' fs (2*n+2*j)+Fl.at' fs (2*n+2*j+1))).filter fun d=>decide (d.2.2>0)
def yQ:Sp:=fun vs H Q _=>∃v ps ts fl fs,vs=[v,.ref fl]/\jd3 H v ps ts/\WebOk ps ts/\H fl=some (.lst (fs.map V.int))/\fs.length=2*ps.length+2*ts.length/\∀l zs H',H l=none->Same H H'->H' l=some (.lst zs)->kj H' zs (mW fs ps.length ts ts.length)->Q (.ref l) H'
theorem nY{α:Type}{l:List α}{i:Nat}{a d:α}(h:l[i]? =some a):l.getD i d=a:=by rw[aC,h];rfl
theorem Er{xs:List V}{k:Nat}(h1:k<=xs.length):kA xs (some (k:Int)) none=xs.drop k:=by
 unfold kA HT.iZ
 simp only[ak (show ¬(k:Int)<0 by lia)]
 rw[fO (by lia)]
 exact bL (by rw[br];exact ai _)
theorem ET(B:Blt mg)(D:MthAt K C_Net "flows" "Net.flows" (ju 5 6) ["self"] f fd)(T:NetC K mg C_Net):FnOk P w K mg base iK 1 f fd ["self"] (yR C_Net):=by
 have sc:FnScope ["self"] ["self"] (jb (ju 5 6)):=by walk_at "SC"
 refine D.F.ok sc (fun vs H Q E h=>?_) (fun cdv A outer s H vs Q E hr h=>?_)
 ·obtain⟨p,R,wf,hs,m,n,r,rfl,_⟩:=h
  rfl
 obtain⟨p,R,wf,hs,m,n,r,rfl,N,h⟩:=h
 have hu:=jh hr
 have hu0:_<PySem.cLine:=av hu
 refine⟨_,(iO (jc (ug (b:=false) rfl (lT T.cl T.n_rooms (qv 0) rfl)))),?_⟩
 obtain⟨⟨dx,W,Hd,ls,e1,e2,e3,e4,e5,n1,n2,n3⟩,eR,net,hlen,hbig,hn⟩:=N
 simp_arith[e1,oA,eR]
 intro l hl
 rw[pQ]
 exact h l _ hl (iI hl _) iD
theorem HG(B:Blt mg)(D:MthAt K C_Net "reached_from" "Net.reached_from" (ju 5 7) ["self","source"] f fd)(Dqi:MthAt K C_Net "spread" "Net.spread" (ju 5 4) ["self","source"] fqi dqi)(Gqi:FnOk P w K mg base iK 1 fqi dqi ["self","source"] (va C_Net))(T:NetC K mg C_Net):FnOk P w K mg base iK 2 f fd ["self","source"] (yW C_Net):=by
 have sc:FnScope ["self","source"] ["self","source"] (jb (ju 5 7)):=by walk_at "SC"
 refine D.F.ok sc (fun vs H Q E h=>?_) (fun cdv A outer s H vs Q E hr h=>?_)
 ·obtain⟨p,s,R,wf,hs,m,n,r,rfl,_⟩:=h
  rfl
 obtain⟨p,s,R,wf,hs,m,n,r,rfl,N,s0,s1,h64,h⟩:=h
 have hu:=jh hr
 have hu0:_<PySem.cLine:=av hu
 refine⟨_,(iO (jc (jf (GM rfl) rfl B.sorted dP (iw (mS (qv 0) T.cl Dqi.m Gqi (hr.mono (by decide)) Dqi.b .nil iW (iw (qv 1) iC)) iC)))),?_⟩
 have N0:=N
 obtain⟨⟨dx,W,Hd,ls,e1,e2,e3,e4,e5,n1,n2,n3⟩,eR,net,hlen,hbig,hn⟩:=N
 simp_arith[e1,AD]
 refine⟨p,s,R,wf,hs,m,n,r,rfl,N0,s0,s1,fun d H1 hd q1 ed=>?_⟩
 have hcl:=Fl.nG (r:=r) net ⟨s0,s1⟩ n
 refine⟨d,_,(Fl.jw wf hs n s r).map (·.1),rfl,ed,?_,by rw[ae];exact bD hcl (by lia),fun l ms hl pm _=>?_⟩
 ·unfold kG
  rw[bz,bz]
  rfl
 ·exact h l ms _ (q1.free hl) (q1.trans (iI hl _)) iD pm
theorem Gx(B:Blt mg)(D:DefAt K mg "marked" (iG 11) ["places"] f fd):FnOk P w K mg base iK 1 f fd ["places"] yT:=by
 have sc:FnScope ["places"] ["places"] (jb (iG 11)):=by walk_at "SC"
 refine D.F.ok sc (fun vs H Q E h=>?_) (fun cdv A outer s H vs Q E hr h=>?_)
 ·obtain⟨u,ns,rfl,_⟩:=h
  rfl
 obtain⟨u,ns,rfl,eu,nd,hl,h⟩:=h
 have hu:=jh hr
 have hu0:_<PySem.cLine:=av hu
 refine⟨_,(iO (jc (mf (oJ rfl) rfl B.dict cA (iw (kI (CpScope.of (N:=["place"]) (src:=[none]) (by rfl)) rfl (kc (qv 0)) (fun _ _ _ _=>(iV (i:=0) (jn (l:=["place"]) (by rfl)) rfl (Or.inl rfl))) (fun _ _ _ _=>kJ) (fun _ _ _ _=>(jJ (iw (qv 0) (iw kQ iC))))) iC)))),?_⟩
 walk_at "D"
 refine kE (jI K u) H (fun R hR=>?_) (fun l hl0=>kz ns.length (fun i σ' Hc=>∃w1 zs,σ'=[w1]/\Same H Hc/\Hc l=some (.lst zs)/\Paired (PairAt Hc) zs (lH (ns.take i))) ⟨none,[],rfl,iI hl0 _,iD,.nil⟩ ?_ ?_)
 ·unfold jZ
  walk_at "D"
  exact⟨u,rfl,⟨_,SqL.of eu⟩,hR⟩
 ·rintro i σ' Hc hi ⟨w1,zs,rfl,s2,ez,pz⟩
  have x1:ns[i]? =some ns[i]:=gE hi
  have X1:(ns.map V.int)[i]? =some (.int ns[i]):=by rw[aE,x1];rfl
  have hlz:zs.length=(lH (ns.take i)).length:=aw pz
  have hlz2:zs.length<=i:=by
   rw[hlz,lH,ae,aK]
   lia
  refine⟨⟨_,_,SqL.of (s2 _ _ eu),X1⟩,?_⟩
  rintro y H' ⟨rfl,hy⟩
  have E1:V.int ns[i]=y:=az (X1.symm.trans (hy _ (SqL.of (s2 _ _ eu))))
  subst E1
  walk_at "D"
  intro t ht
  have ez2:=iI ht (.tup [.int ns[i],.bl true]) _ _ ez
  have t6:=kW (ys:=zs++[.ref t]) ez2
  refine⟨zs,ez2,jr (by lia),_,zs++[.ref t],rfl,jD (s2.trans (iI ht _)) hl0,(by first|rfl|exact iD),?_⟩
  rw[jH x1,lH,aj]
  refine kF (Paired.mapP pz fun v p q=>?_) ?_
  ·obtain⟨b,e,q⟩:=q
   exact⟨b,e,t6 _ _ rfl (iI ht _ _ _ q)⟩
  ·exact⟨t,rfl,t6 _ _ rfl iD⟩
 ·rintro σ' Hc ⟨w1,zs,rfl,s2,ez,pz⟩
  refine⟨⟨_,SqL.of (s2 _ _ eu),by rw[ae];exact ai _⟩,?_⟩
  rw[aR]at pz
  have hlz:zs.length=(lH ns).length:=aw pz
  rw[lH,ae]at hlz
  simp_arith[ez]
  refine⟨lH ns,pz,by lia,?_,fun d hd=>h d _ (s2.free hd) (s2.trans (iI hd _)) iD⟩
  unfold lH
  rw[bz]
  have e:((fun(x:iF×V)=>x.1)∘fun(n:Int)=>((Sum.inl n:iF),V.bl true))=fun(n:Int)=>(Sum.inl n:iF):=rfl
  rw[e]
  unfold List.Nodup at nd ⊢
  rw[bK]
  exact nd.imp fun q z=>q (cE z)
theorem HK(B:Blt mg)(D:DefAt K mg "halves_reached" (iG 35) ["web","reached"] f fd)(C2:Cst2 mg e1 e2 e3):FnOk P w K mg base iK 1 f fd ["web","reached"] x9:=by
 have sc:FnScope ["web","reached","many","halves","at","pair","left","right"] ["web","reached"] (jb (iG 35)):=by walk_at "SC"
 refine D.F.ok sc (fun vs H Q E h=>?_) (fun cdv A outer s H vs Q E hr h=>?_)
 ·obtain⟨v,ps,ts,d,kvs,rfl,_⟩:=h
  rfl
 obtain⟨v,ps,ts,d,kvs,rfl,hw,wk,ed,h⟩:=h
 obtain⟨u,pa,ta,xs,ys,rfl,hu1,hpa,hta,hxs,hys⟩:=hw
 have hxl:=aw hxs
 have hu:=jh hr
 have hu0:_<PySem.cLine:=av hu
 refine⟨_,(iH (iT (i:=2) sc.nd rfl (Or.inl rfl) (jf k6 rfl B.len bw (iw (iM iN (qv 0) iE (fun _ _=>rfl)) iC))) (iH (iT (i:=3) sc.nd rfl (Or.inl rfl) (ki iC)) (iH (kR bo rfl (rM rfl B.enumerate (iw (iM iN (qv 0) iE (fun _ _=>rfl)) iC)) (jS (n:=2) rfl (ja (iV (i:=4) sc.nd rfl (Or.inl rfl)) (ja (iV (i:=5) sc.nd rfl (Or.inl rfl)) jT))) (iH (iT (i:=6) sc.nd rfl (Or.inl rfl) (zB (tS (qW hu (iR jv (lL (v:=.int 2) rfl C2.FIRST ⟨_,rfl⟩) (qv 4)) (qv 1))) iE iE)) (iH (iT (i:=7) sc.nd rfl (Or.inl rfl) (zB (tS (qW hu (iR jv (iR jv (lL (v:=.int 2) rfl C2.FIRST ⟨_,rfl⟩) (qv 2)) (qv 4)) (qv 1))) iE iE)) (iO (ke (kY aX aZ aY lr (qv 3) (iw (jJ (iw (iM iN (qv 5) iE (fun _ _=>rfl)) (iw (iR jv (qv 6) (qv 7)) iC))) iC))))))) (iO (jc (qv 3)))))),?_⟩
 have hpl:=wk.pl
 refine iQ fun R' hR=>?_
 simp_arith[iS,hu1,jm,hpa]
 subst hR
 refine iQ fun R' hR=>?_
 walk_at "D"
 intro l hl
 have q1:=iI hl (.lst [])
 have el:upd H l (.lst []) l=some (.lst []):=iD
 generalize upd H l (.lst [])=H1 at q1 el
 subst hR
 refine iQ fun R' hR=>?_
 refine lu (oj K pa) H1 (fun R3 hR3=>?_) (uQ (K:=K) (a:=pa) (xs:=xs) (fun i σ Hc=>∃v4 v5 v6 v7 zs,σ=[some (.ref u),some (.ref d),some (.int (xs.length:Int)),some (.ref l),v4,v5,v6,v7]/\Same H Hc/\Hc l=some (.lst zs)/\Prs Hc zs (mB (jB kvs) ps.length ps i)) ⟨none,none,none,none,[],rfl,q1,el,.nil⟩ (fun i σ Hc _ ⟨_,_,_,_,_,_,s1,_⟩=>SqL.of (s1 _ _ hpa)) ?_ ?_)
 ·unfold tM
  simp_arith[iS,q1 _ _ hu1,jm]
  exact⟨pa,rfl,⟨_,SqL.of (q1 _ _ hpa)⟩,hR3⟩
 ·rintro i x σ Hc t hx ⟨v4,v5,v6,v7,zs,rfl,s2,el2,pz⟩ ht
  obtain⟨p,hp,px⟩:=ko hxs hx
  have hil:=(au.mp hp).1
  have q3:=iI ht (.tup [.int i,x])
  have s3:=s2.trans q3
  have et:upd Hc t (.tup [.int i,x]) t=some (.tup [.int i,x]):=iD
  have el3:=q3 _ _ el2
  have pz3:=Prs.same q3 pz
  obtain⟨b,rfl,eb⟩:=px.same s3
  generalize upd Hc t (.tup [.int i,.ref b])=H3 at q3 s3 et el3 pz3 eb
  have ed3:=s3 _ _ ed
  have hzl:=aw pz
  have hhl:(mB (jB kvs) ps.length ps i).length=i:=by unfold mB;rw[ae,bg]
  have key:∀n:Int,(i8 kvs (Sum.inl n:iF)).isSome=jB kvs n:=fun n=>rfl
  have fin:∀(a c:Int),a=(if jB kvs (2+(i:Int))=true then 0 else 1)->c=(if jB kvs (2+(xs.length:Int)+(i:Int))=true then 1 else 0)->∀t2,H3 t2=none->∃v4 v5 v6 v7 zs',[some (V.ref u),some (.ref d),some (.int (xs.length:Int)),some (.ref l),some (.int i),some (.ref b),some (.int a),some (.int c)]=[some (V.ref u),some (.ref d),some (.int (xs.length:Int)),some (.ref l),v4,v5,v6,v7]/\Same H (upd (upd H3 t2 (.tup [.int p.1,.int (a+c)])) l (.lst (zs++[.ref t2])))/\upd (upd H3 t2 (.tup [.int p.1,.int (a+c)])) l (.lst (zs++[.ref t2])) l=some (.lst zs')/\Prs (upd (upd H3 t2 (.tup [.int p.1,.int (a+c)])) l (.lst (zs++[.ref t2]))) zs' (mB (jB kvs) ps.length ps (i+1)):=fun a c ha hc t2 ht2=>by
   have q4:=iI ht2 (.tup [.int p.1,.int (a+c)])
   have t6:=kW (ys:=zs++[.ref t2]) (q4 _ _ el3)
   refine⟨_,_,_,_,zs++[.ref t2],rfl,jD (s3.trans q4) hl,iD,?_⟩
   have eh:mB (jB kvs) ps.length ps (i+1)=mB (jB kvs) ps.length ps i++[(p.1,a+c)]:=by
    unfold mB
    rw[bJ,aj,List.map_singleton,nY hp,ha,hc,hxl]
   rw[eh]
   exact kF (Prs.tups t6 (Prs.same q4 pz3)) ⟨t2,rfl,t6 _ _ rfl iD⟩
  simp_arith[et,ed3,key]
  cases c1:jB kvs (2+(i:Int))<;>cases c3:jB kvs (2+(xs.length:Int)+(i:Int))
  all_goals
   simp_arith[iS,eb,jm,c3,ed3,key]
   refine⟨⟨l,zs,rfl,el3⟩,fun t2 ht2=>?_⟩
   have e9:=fun o=>iI ht2 o _ _ el3
   simp only[e9]
   exact⟨jr (by lia),fin _ _ (by rw[c1];rfl) (by rw[c3];rfl) t2 ht2⟩
 ·rintro σ Hc ⟨v4,v5,v6,v7,zs,rfl,s2,el2,pz⟩
  subst hR
  walk_at "D"
  rw[hxl]at pz
  exact h l zs Hc hl s2 el2 pz
theorem HA(B:Blt mg)(D:DefAt K mg "dues_flowing" (iG 34) ["web","flows"] f fd):FnOk P w K mg base iK 1 f fd ["web","flows"] yQ:=by
 have sc:FnScope ["web","flows","across","amounts"] ["web","flows"] (jb (iG 34)):=by walk_at "SC"
 refine D.F.ok sc (fun vs H Q E h=>?_) (fun cdv A outer s H vs Q E hr h=>?_)
 ·obtain⟨v,ps,ts,fl,fs,rfl,_⟩:=h
  rfl
 obtain⟨v,ps,ts,fl,fs,rfl,hw,wk,ef,hfl,h⟩:=h
 obtain⟨u,pa,ta,xs,ys,rfl,hu1,hpa,hta,hxs,hys⟩:=hw
 have hxl:=aw hxs
 have hyl:=aw hys
 have hu:=jh hr
 have hu0:_<PySem.cLine:=av hu
 refine⟨_,(iH (iT (i:=2) sc.nd rfl (Or.inl rfl) (lW mN (qv 1) (lV (iR lK iE (jf k6 rfl B.len bw (iw (iM iN (qv 0) iE (fun _ _=>rfl)) iC)))) lU)) (iH (yF (i:=3) sc.nd rfl (Or.inl rfl) (CpScope.of (N:=["there","back"]) (src:=[none,none]) (by rfl)) rfl (uG rfl B.zip (iw (ug (b:=true) rfl (qv 2)) (iw (ug (b:=false) rfl (qv 2)) iC))) (fun _ _ _ _=>(jS (n:=2) rfl (ja (iV (i:=0) (jn (l:=["there","back"]) (by rfl)) rfl (Or.inl rfl)) (ja (iV (i:=1) (jn (l:=["there","back"]) (by rfl)) rfl (Or.inl rfl)) jT)))) (fun _ _ _ _=>kJ) (fun _ _ _ _=>(iR jv (qv 0) (qv 1)))) (iO (jc (kI (CpScope.of (N:=["tie","amount"]) (src:=[none,none]) (by rfl)) rfl (uG rfl B.zip (iw (iM iN (qv 0) iE (fun _ _=>rfl)) (iw (qv 3) iC))) (fun _ _ _ _=>(jS (n:=2) rfl (ja (iV (i:=0) (jn (l:=["tie","amount"]) (by rfl)) rfl (Or.inl rfl)) (ja (iV (i:=1) (jn (l:=["tie","amount"]) (by rfl)) rfl (Or.inl rfl)) jT)))) (fun _ _ _ _=>(yC (kH qG (qv 1) iE (jz _)))) (fun _ _ _ _=>(jJ (iw (iM iN (qv 0) iE (fun _ _=>rfl)) (iw (iM iN (qv 0) iE (fun _ _=>rfl)) (iw (qv 1) iC)))))))))),?_⟩
 have hpl:=wk.pl
 have htl:=wk.tl
 refine iQ fun R' hR=>?_
 simp_arith[iS,hu1,jm,hpa,ef]
 refine⟨mC (by decide) (by decide),?_⟩
 intro ac hac
 rw [show (2:Int) * (xs.length:Int) = ((2 * ps.length:Nat):Int) by lia,Er (by rw [ae]; lia),<- List.map_drop]
 have q1:=iI hac (.lst ((fs.drop (2*ps.length)).map V.int))
 have ea:upd H ac (.lst ((fs.drop (2*ps.length)).map V.int)) ac=some (.lst ((fs.drop (2*ps.length)).map V.int)):=iD
 generalize upd H ac (.lst ((fs.drop (2*ps.length)).map V.int))=H1 at q1 ea
 have hgl:(fs.drop (2*ps.length)).length=2*ts.length:=by rw[br];lia
 have hgat:∀k,Fl.at' (fs.drop (2*ps.length)) k=Fl.at' fs (2*ps.length+k):=fun k=>by unfold Fl.at';rw[aC,aC,List.getElem?_drop]
 generalize fs.drop (2*ps.length)=gs at*
 have la:∀b,(jd b gs).length=ts.length:=fun b=>by
  have hb1:(if b=true then 0 else 1:Nat)<=1:=by split<;>decide
  have h1:=nR b gs
  have hlt:∀j,j<ts.length->j<(jd b gs).length:=fun j hj=>by
   have:=h1 j
   rw[gE (show 2*j+(if b=true then 0 else 1)<gs.length by lia)]at this
   exact(au.mp this).1
  have hge:¬ts.length<(jd b gs).length:=fun z=>by
   have:=h1 ts.length
   rw[gE z,ba (show gs.length<=2*ts.length+(if b=true then 0 else 1) by lia)]at this
   cases this
  by_cases c:ts.length=0
  ·lia
  ·have:=hlt (ts.length-1) (by lia)
   lia
 subst hR
 refine iQ fun R' hR=>?_
 walk_at "D"
 refine GY (ι:=Addr×Addr×Hp) (fun y=>mX true K y.1 y.2.1) (fun y=>y.2.2) (fun y=>Same H1 y.2.2/\y.2.2 y.1=some (.lst ((jd true gs).map V.int))/\y.2.2 y.2.1=some (.lst ((jd false gs).map V.int))) (fun R2 hR2=>?_) ?_
 ·unfold qU
  simp_arith[ea]
  intro b1 hb1
  rw[pQ]
  have s1:=iI hb1 (.lst ((jd true gs).map V.int))
  have eb1:upd H1 b1 (.lst ((jd true gs).map V.int)) b1=some (.lst ((jd true gs).map V.int)):=iD
  generalize upd H1 b1 (.lst ((jd true gs).map V.int))=H2 at s1 eb1
  simp_arith[s1 _ _ ea]
  intro b2 hb2
  rw[pQ]
  have s2:=s1.trans (iI hb2 (.lst ((jd false gs).map V.int)))
  have eb2:upd H2 b2 (.lst ((jd false gs).map V.int)) b2=some (.lst ((jd false gs).map V.int)):=iD
  have eb1':=iI hb2 (.lst ((jd false gs).map V.int)) _ _ eb1
  generalize upd H2 b2 (.lst ((jd false gs).map V.int))=H3 at s2 eb2 eb1'
  exact⟨true,b1,b2,rfl,⟨_,SqL.of eb1'⟩,⟨_,SqL.of eb2⟩,hR2 (b1,b2,H3) ⟨s2,eb1',eb2⟩⟩
 rintro⟨b1,b2,H3⟩ ⟨s3,eb1,eb2⟩ am ham
 refine kz ts.length (fun i σ' Hc=>∃w1 w2,σ'=[w1,w2]/\Same H3 Hc/\Hc am=some (.lst (((List.range i).map fun j=>Fl.at' gs (2*j)+Fl.at' gs (2*j+1)).map V.int))) ⟨none,none,rfl,iI ham _,iD⟩ ?_ ?_
 ·rintro i σ' Hc hi ⟨w1,w2,rfl,s4,em⟩
  have z1:jW true K Hc b1 ((jd true gs).map V.int):=SqL.of (s4 _ _ eb1)
  have z2:jW true K Hc b2 ((jd false gs).map V.int):=SqL.of (s4 _ _ eb2)
  have at1':∀b,(jd b gs)[i]? =some (Fl.at' gs (2*i+(if b then 0 else 1))):=fun b=>by
   rw[nR,gE (by cases b<;>simp<;>lia)]
   unfold Fl.at'
   rw[aC,gE (by cases b<;>simp<;>lia)]
   rfl
  have x1:((jd true gs).map V.int)[i]? =some (.int (Fl.at' gs (2*i))):=by rw[aE,at1' true];rfl
  have x2:((jd false gs).map V.int)[i]? =some (.int (Fl.at' gs (2*i+1))):=by rw[aE,at1' false];rfl
  refine⟨⟨_,_,_,_,z1,z2,x1,x2⟩,?_⟩
  rintro x H' ⟨t,y1,y2,ht,rfl,rfl,g1,g2⟩
  have E1:=az (x1.symm.trans (g1 _ z1))
  have E2:=az (x2.symm.trans (g2 _ z2))
  subst E1 E2
  have q5:=iI ht (.tup [.int (Fl.at' gs (2*i)),.int (Fl.at' gs (2*i+1))])
  simp_arith[iD]
  refine⟨_,q5 _ _ em,?_,_,_,rfl,jD (s4.trans q5) ham,?_⟩
  ·rw[ae,ae,bg]
   exact jr (by lia)
  ·try rw[iD]
   rw[bJ,aj,aj]
   rfl
 rintro σ' H4 ⟨w1,w2,rfl,s4,em⟩
 refine⟨⟨_,_,SqL.of (s4 _ _ eb1),SqL.of (s4 _ _ eb2),.inl (by rw[ae,la];exact ai _)⟩,?_⟩
 have s5:=(q1.trans s3).trans s4
 walk_at "D"
 subst hR
 walk_at "D"
 refine kE (mX true K ta am) H4 (fun R2 hR2=>?_) (fun l hl0=>kz ts.length (fun i σ' Hc=>∃w1 w2 zs,σ'=[w1,w2]/\Same H4 Hc/\Hc l=some (.lst zs)/\kj Hc zs (mW fs ps.length ts i)) ⟨none,none,[],rfl,iI hl0 _,iD,.nil⟩ ?_ ?_)
 ·unfold qU
  simp_arith[iS,s5 _ _ hu1,jK]
  exact⟨true,ta,am,rfl,⟨_,SqL.of (s5 _ _ hta)⟩,⟨_,SqL.of em⟩,hR2⟩
 ·rintro i σ' Hc hi ⟨w1,w2,zs,rfl,s6,el,pz⟩
  have s7:=s5.trans s6
  have z1:jW true K Hc ta ys:=SqL.of (s7 _ _ hta)
  have z2:jW true K Hc am (((List.range ts.length).map fun j=>Fl.at' gs (2*j)+Fl.at' gs (2*j+1)).map V.int):=SqL.of (s6 _ _ em)
  have x1:ys[i]? =some (ys[i]'(by lia)):=gE _
  have x2:(((List.range ts.length).map fun j=>Fl.at' gs (2*j)+Fl.at' gs (2*j+1)).map V.int)[i]? =some (.int (Fl.at' gs (2*i)+Fl.at' gs (2*i+1))):=by
   rw[aE,aE,cH hi];rfl
  refine⟨⟨_,_,_,_,z1,z2,x1,x2⟩,?_⟩
  rintro x H' ⟨t,y1,y2,ht,rfl,rfl,g1,g2⟩
  have E2:=az (x2.symm.trans (g2 _ z2))
  subst E2
  obtain⟨tt,htt,pt⟩:=ko hys (g1 _ z1)
  have q8:=iI ht (.tup [y1,.int (Fl.at' gs (2*i)+Fl.at' gs (2*i+1))])
  have s8:=s7.trans q8
  obtain⟨tb,rfl,etb⟩:=pt.same s8
  have et:upd Hc t (.tup [.ref tb,.int (Fl.at' gs (2*i)+Fl.at' gs (2*i+1))]) t=some (.tup [.ref tb,.int (Fl.at' gs (2*i)+Fl.at' gs (2*i+1))]):=iD
  have el8:=q8 _ _ el
  have pz8:=jA q8.tups pz
  have s68:=s6.trans q8
  generalize upd Hc t (.tup [.ref tb,.int (Fl.at' gs (2*i)+Fl.at' gs (2*i+1))])=H8 at q8 s8 etb et el8 pz8 s68
  have hdu:mW fs ps.length ts (i+1)=mW fs ps.length ts i++(if Fl.at' gs (2*i)+Fl.at' gs (2*i+1)>0 then[(tt.1,tt.2,Fl.at' gs (2*i)+Fl.at' gs (2*i+1))]else[]):=by
   unfold mW
   rw[bJ,aj,gz,List.map_singleton,nY htt,hgat,hgat,gp]
   congr 1
   rw[eE]
   by_cases c:Fl.at' fs (2*ps.length+2*i)+Fl.at' fs (2*ps.length+(2*i+1))>0
   ·rw[aq c,aq (aG c)];rfl
   ·rw[ak c,ak (by simpa using c)];rfl
  have hzl:=aw pz
  have hzl2:zs.length<=i:=by
   rw[hzl]
   unfold mW
   refine bD (fW _ _) ?_
   rw[ae,bg]
   exact ai _
  simp_arith[et]
  refine oa (fun c=>?_) (fun c=>?_)
  ·rw[aq (bZ c)]at hdu
   simp_arith[iS,etb,jm,jK]
   intro t2 ht2
   have q9:=iI ht2 (.tup [.int tt.1,.int tt.2,.int (Fl.at' gs (2*i)+Fl.at' gs (2*i+1))])
   have el9:=q9 _ _ el8
   have t9:=kW (ys:=zs++[.ref t2]) el9
   refine⟨zs,el9,jr (by lia),_,_,zs++[.ref t2],rfl,jD (s68.trans q9) hl0,(by first|rfl|exact iD),?_⟩
   rw[hdu]
   exact kF (jA t9 (jA q9.tups pz8)) ⟨t2,rfl,t9 _ _ rfl iD⟩
  ·rw[ak (fun z=>c (aG z)),bh]at hdu
   rw[hdu]
   exact⟨_,_,zs,rfl,s68,el8,pz8⟩
 ·rintro σ' Hc ⟨w1,w2,zs,rfl,s6,el,pz⟩
  refine⟨⟨_,_,SqL.of ((s5.trans s6) _ _ hta),SqL.of (s6 _ _ em),.inl (by lia)⟩,?_⟩
  exact h l zs Hc (s5.free hl0) (s5.trans s6) el pz
end
end My
namespace L2
open PySem PySem.Spec PyProof.Rows
section
variable{X:Cx}
theorem F7:seqSlot? (.type "list") (dunderI "add")=pure (some (.builtin "list.__iadd__")):=PySem.seqSlot_of hG.lookup (by decide+kernel)
theorem Gp:fillsInplaceSlot (.type "list") "add" (Operator.Add== .Add)=pure false:=by
 unfold fillsInplaceSlot
 show(typeLookup (.type "list") (dunderI "add")>>=fun fi=>pure (fi.isSome&& !isSeqSlot fi))=pure false
 rw[hG.lookup]
 have:isSeqSlot (some (Value.builtin "list.__iadd__"))=true:=by decide+kernel
 show(pure (true&& !isSeqSlot (some (Value.builtin "list.__iadd__"))):Sem Bool)=pure false
 rw[this]
 rfl
def j4:mD:=fun x y H Q=>match x,y with
 | .ref l,.ref b=>match H l,H b with
  |some (.lst xs),some (.lst zs)=>xs.length+zs.length<=sizeLine/\Q (.ref l) (upd H l (.lst (xs++zs)))
  |_,_=>False
 |_,_=>False
theorem DN:oi X .Add j4:=by
 intro pins s σ H x y v u Q I rx ry h
 unfold j4 at h
 split at h
 ·rename_i l b
  split at h
  ·rename_i xs zs hH hB
   obtain⟨hz,q⟩:=h
   cases rx
   cases ry
   obtain⟨z,its,n,r,hl,e⟩:=I.lstM hH
   obtain⟨z2,its2,n2,r2,hl2,e2⟩:=I.lstM hB
   have hsz:its.toArray.size+its2.toArray.size<=sizeLine:=by rw[ah,ah];lia
   have hlong:¬(!its.toArray.isEmpty&&Builtin.List.listTooLong (its.toArray.size+its2.toArray.size))=true:=by
    rw[ES hsz,dJ]
    exact aO
   have ha:s.TypeIs (.ref l) "list":=⟨_,e,rfl⟩
   have hb:s.TypeIs (.ref b) "list":=⟨_,e2,rfl⟩
   unfold inplaceOp
   refine bV ?_
   refine aa (dY ha (aa (eY Gp ?_)))
   show wpAny _ _ (if false=true then _ else _) _ _ s
   rw[ak aO]
   refine aa (wpAny_binaryOp1_none (nm:="add") ha hb noFill_list_add ?_)
   refine aa (eY F7 ?_)
   refine aa (cM ?_)
   refine call_meets hG ha F.entry_list_iadd (F.args_list_iadd_2 _ _)
    (AutoSeq1.list___iadd___list_list_0 l its.toArray n b its2.toArray n2 hlong (by rw[ah];lia) (by lia)) ⟨e,e2,?_⟩
   refine⟨.ref l,_,I.lset (its':=its++its2) hH e (by simp) (r.append r2) ?_,rfl,q⟩
   rw[aB]
   lia
  ·exact h.elim
 ·exact h.elim
end
end L2
namespace My
open PySem L2
section
variable{P:Program}{w:World}{K:PySem.W.Frag}{mg:Str->Option Value}{base:Heap}{c1 c2 c3 c4 e1 e2 e3:Tok}{C_Net C_NoWeb fql:Addr}{dI:FuncData}
noncomputable def j9(ps:List (Int×Int))(k:Nat):List (Int×Int):=(List.range k).map fun i=>((ps.getD i (0,0)).1,2+(i:Int))
theorem uL(ps:List (Int×Int)):∀k,k<=ps.length->(j9 ps k).map (·.1)=(ps.take k).map (·.1)
 |0,_=>by simp[j9]
 |k+1,h=>by
  have hk:ps[k]? =some ps[k]:=gE (by lia)
  have ih:=uL ps k (by lia)
  unfold j9 at ih ⊢
  rw[bJ,aj,aj,ih,jH hk,aj,List.map_singleton,List.map_singleton,List.map_singleton,nY hk]
noncomputable def jt(ps:List (Int×Int))(n:Int):Int:=jV (j9 ps ps.length) n
noncomputable def lg(ps:List (Int×Int)):Int:=1+(ps.map (·.2)).sum
noncomputable def jo(ps ts:List (Int×Int)):List Fl.jQ:=Fl.lN (jt ps) (lg ps) ps ts
theorem um{ps ts:List (Int×Int)}(wk:WebOk ps ts):((j9 ps ps.length).map (·.1)).Nodup:=by
 rw[uL ps ps.length (ai _),aR]
 exact wk.p.nodup
theorem pW{ps ts:List (Int×Int)}(wk:WebOk ps ts){n:Int}(h:n∈ps.map (·.1)):i8 (jj (j9 ps ps.length)) (Sum.inl n:iF)=some (.int (jt ps n)):=by
 refine oH (um wk) ?_
 rw[uL ps ps.length (ai _),aR]
 exact h
theorem rA{ps ts:List (Int×Int)}(wk:WebOk ps ts){i:Nat}{p:Int}(h:(ps.map (·.1))[i]? =some p):jt ps p=2+(i:Int):=by
 have hi:=(au.mp h).1
 rw[ae]at hi
 have hm:(p,2+(i:Int))∈j9 ps ps.length:=by
  unfold j9
  refine aL.mpr ⟨i,aU.mpr hi,?_⟩
  rw[aE,gE hi]at h
  have h2:ps[i].1=p:=az h
  rw[nY (gE hi),h2]
 have e:=nW (um wk) hm
 rw[pW wk (ay h)]at e
 exact V.int.inj (az e)
theorem B8{ps ts:List (Int×Int)}(wk:WebOk ps ts){p:Int}(h:p∈ps.map (·.1)):2<=jt ps p/\jt ps p<2+(ps.length:Int):=by
 obtain⟨i,hi,e⟩:=bq.mp h
 rw[rA wk (i:=i) (by rw[gE hi,e])]
 rw[ae]at hi
 lia
theorem pS{ps ts:List (Int×Int)}(wk:WebOk ps ts):∀t∈ts,t.1∈ps.map (·.1)/\t.2∈ps.map (·.1):=fun t ht=>by
 obtain⟨_,a,b⟩:=wk.t.in t ht
 exact⟨pV a,pV b⟩
theorem PlOk.pos:∀{ps:List (Int×Int)} {l s:Int},PlOk l s ps->∀p∈ps,1<=p.2
 |[],_,_,_,p,h=>by cases h
 |q::r,l,s,h,p,hp=>by
  rcases aS.mp hp with e|hp
  ·rw[e];exact h.1.2.2.1
  ·exact PlOk.pos h.2 p hp
theorem uM{ps ts:List (Int×Int)}(wk:WebOk ps ts):∀a∈jo ps ts,((0<=a.1/\a.1<((2+(ps.length+ps.length):Nat):Int))/\0<=a.2.1/\a.2.1<((2+(ps.length+ps.length):Nat):Int))/\0<=a.2.2:=
 Fl.IH (fun p hp=>B8 wk hp) (pS wk) (fun p hp=>by have:=wk.p.pos p hp;lia) (by
  have h:0<=(ps.map (·.2)).sum:=by
   have:=Fl.qC (f:=fun _=>(0:Int)) (g:=fun p:Int×Int=>p.2) (l:=ps) fun p hp=>by have:=wk.p.pos p hp;lia
   rw[Fl.mE]at this
   exact this
  unfold lg
  lia)
theorem rY(ps ts:List (Int×Int)):(jo ps ts).length=ps.length+ps.length+2*ts.length:=Fl.II _ _ _ _
def Ap(C:Addr):Sp:=fun vs H Q _=>∃v ps ts,vs=[v]/\jd3 H v ps ts/\WebOk ps ts/\∀p R H',H R=none->Same H H'->Nt C H' p R (Fl.jL (jo ps ts)) (Fl.ji (jo ps ts)) (jo ps ts).length (2+(ps.length+ps.length)) (Fl.jM (jo ps ts))->Q (.ref p) H'
theorem A3(sp:Int->Int)(n pl:Int)(t:Int×Int):∀ts,Fl.lF sp n pl (ts++[t])=(Fl.lF sp n pl ts++[(sp t.1,sp t.2+n,pl)])++[(sp t.2,sp t.1+n,pl)]
 |[]=>rfl
 |u::r=>by rw[List.cons_append,Fl.lF,A3 sp n pl t r];rfl
theorem AV{α β:Type}{F:α->β->Prop}:∀{xs xs':List α} {ys ys':List β},Paired F xs ys->Paired F xs' ys'->Paired F (xs++xs') (ys++ys')
 |_,_,_,_,.nil,h=>h
 |_,_,_,_,.cons a t,h=>.cons a (AV t h)
theorem Gy(B:Blt mg)(D:DefAt K mg "doubled" (iG 33) ["web"] f fd)(Dqo:MthAt K C_Net "__init__" "Net.__init__" (ju 5 0) ["self","many","arcs"] fqo dqo)(Gqo:FnOk P w K mg base iK 2 fqo dqo ["self","many","arcs"] (ya C_Net))(T:NetC K mg C_Net)(C2:Cst2 mg e1 e2 e3)(MK:Mk K C_Net fqo):FnOk P w K mg base iK 5 f fd ["web"] (Ap C_Net):=by
 have sc:FnScope ["web","many","plenty","spots","arcs","one","other"] ["web"] (jb (iG 33)):=by walk_at "SC"
 refine D.F.ok sc (fun vs H Q E h=>?_) (fun cdv A outer s H vs Q E hr h=>?_)
 ·obtain⟨v,ps,ts,rfl,_⟩:=h
  rfl
 obtain⟨v,ps,ts,rfl,hw,wk,h⟩:=h
 obtain⟨u,pa,ta,xs,ys,rfl,hu1,hpa,hta,hxs,hys⟩:=hw
 have hxl:=aw hxs
 have hyl:=aw hys
 have hu:=jh hr
 have hu0:_<PySem.cLine:=av hu
 refine⟨_,(iH (iT (i:=1) sc.nd rfl (Or.inr rfl) (jf k6 rfl B.len bw (iw (iM iN (qv 0) iE (fun _ _=>rfl)) iC))) (iH (iT (i:=2) sc.nd rfl (Or.inl rfl) (iR jv iE (jf (pJ rfl) rfl B.sum dy (iw (kI (CpScope.of (N:=["place","price"]) (src:=[none,none]) (by rfl)) rfl (kc (iM iN (qv 0) iE (fun _ _=>rfl))) (fun _ _ _ _=>(jS (n:=2) rfl (ja (iV (i:=0) (jn (l:=["place","price"]) (by rfl)) rfl (Or.inl rfl)) (ja (iV (i:=1) (jn (l:=["place","price"]) (by rfl)) rfl (Or.inl rfl)) jT)))) (fun _ _ _ _=>kJ) (fun _ _ _ _=>(qv 1))) iC)))) (iH (iT (i:=3) sc.nd rfl (Or.inr rfl) (mf (oJ rfl) rfl B.dict cA (iw (kI (CpScope.of (N:=["at","pair"]) (src:=[none,none]) (by rfl)) rfl (rM rfl B.enumerate (iw (iM iN (qv 0) iE (fun _ _=>rfl)) iC)) (fun _ _ _ _=>(jS (n:=2) rfl (ja (iV (i:=0) (jn (l:=["at","pair"]) (by rfl)) rfl (Or.inl rfl)) (ja (iV (i:=1) (jn (l:=["at","pair"]) (by rfl)) rfl (Or.inl rfl)) jT)))) (fun _ _ _ _=>kJ) (fun _ _ _ _=>(jJ (iw (iM iN (qv 1) iE (fun _ _=>rfl)) (iw (iR jv (lL (v:=.int 2) rfl C2.FIRST ⟨_,rfl⟩) (qv 0)) iC))))) iC))) (iH (yF (i:=4) sc.nd rfl (Or.inl rfl) (CpScope.of (N:=["place","price","spots"]) (src:=[none,none,some 3]) (by rfl)) rfl (kc (iM iN (qv 0) iE (fun _ _=>rfl))) (fun _ _ _ _=>(jS (n:=2) rfl (ja (iV (i:=0) (jn (l:=["place","price","spots"]) (by rfl)) rfl (Or.inl rfl)) (ja (iV (i:=1) (jn (l:=["place","price","spots"]) (by rfl)) rfl (Or.inl rfl)) jT)))) (fun _ _ _ _=>kJ) (fun _ _ _ _=>(jJ (iw (lL (v:=.int 0) rfl C2.SOURCE ⟨_,rfl⟩) (iw (lS hu (qv 2) (qv 0) (fun _ _=>rfl)) (iw (qv 1) iC)))))) (iH (rq (i:=4) sc.nd rfl (Or.inl rfl) (kI (CpScope.of (N:=["place","price","many","spots"]) (src:=[none,none,some 1,some 3]) (by rfl)) rfl (kc (iM iN (qv 0) iE (fun _ _=>rfl))) (fun _ _ _ _=>(jS (n:=2) rfl (ja (iV (i:=0) (jn (l:=["place","price","many","spots"]) (by rfl)) rfl (Or.inl rfl)) (ja (iV (i:=1) (jn (l:=["place","price","many","spots"]) (by rfl)) rfl (Or.inl rfl)) jT)))) (fun _ _ _ _=>kJ) (fun _ _ _ _=>(jJ (iw (iR jv (lS hu (qv 3) (qv 0) (fun _ _=>rfl)) (qv 2)) (iw (lL (v:=.int 1) rfl C2.SINK ⟨_,rfl⟩) (iw (qv 1) iC)))))) DN) (iH (kR bo rfl (kc (iM iN (qv 0) iE (fun _ _=>rfl))) (jS (n:=2) rfl (ja (iV (i:=5) sc.nd rfl (Or.inl rfl)) (ja (iV (i:=6) sc.nd rfl (Or.inl rfl)) jT))) (iH (ke (kY aX aZ aY lr (qv 4) (iw (jJ (iw (lS hu (qv 3) (qv 5) (fun _ _=>rfl)) (iw (iR jv (lS hu (qv 3) (qv 6) (fun _ _=>rfl)) (qv 1)) (iw (qv 2) iC)))) iC))) (iO (ke (kY aX aZ aY lr (qv 4) (iw (jJ (iw (lS hu (qv 3) (qv 6) (fun _ _=>rfl)) (iw (iR jv (lS hu (qv 3) (qv 5) (fun _ _=>rfl)) (qv 1)) (iw (qv 2) iC)))) iC)))))) (iO (jc (D2 MK Gqo (hr.mono (by decide)) rfl T.m Dqo.b .nil iW (iw (iR jv (lL (v:=.int 2) rfl C2.FIRST ⟨_,rfl⟩) (iR lK iE (qv 1))) (iw (qv 4) iC))))))))))),?_⟩
 have hpl:=wk.pl
 have htl:=wk.tl
 refine iQ fun R' hR=>?_
 simp_arith[j4,iS,hu1,jm,hpa]
 subst hR
 refine iQ fun R' hR=>?_
 simp_arith[j4]
 refine kE (jI K pa) H (fun R2 hR2=>?_) (fun z hz0=>kz ps.length (fun i σ' Hc=>∃w1 w2,σ'=[w1,w2]/\Same H Hc/\Hc z=some (.lst (((ps.take i).map (·.2)).map V.int))) ⟨none,none,rfl,iI hz0 _,iD⟩ ?_ ?_)
 ·unfold jZ
  simp_arith[j4,iS,hu1,jm]
  exact⟨pa,rfl,⟨_,SqL.of hpa⟩,hR2⟩
 ·rintro i σ' Hc hi ⟨w1,w2,rfl,s7,ez⟩
  have x1:xs[i]? =some (xs[i]'(by lia)):=gE _
  refine⟨⟨_,_,SqL.of (s7 _ _ hpa),x1⟩,?_⟩
  rintro y H' ⟨rfl,hy⟩
  have E1:=az (x1.symm.trans (hy _ (SqL.of (s7 _ _ hpa))))
  obtain⟨pr,hpr,px⟩:=ko hxs x1
  rw[E1]at px
  obtain⟨b,rfl,hb⟩:=px.same s7
  simp_arith[j4,hb]
  refine⟨_,ez,?_,_,_,rfl,jD s7 hz0,?_⟩
  ·rw[ae,ae,aK]
   exact jr (by lia)
  ·rw[iD,jH hpr,aj,aj]
   rfl
 rintro σ' H1 ⟨w1,w2,rfl,s1,ez⟩
 refine⟨⟨_,SqL.of (s1 _ _ hpa),by lia⟩,?_⟩
 rw[aR]at ez
 refine⟨z,_,rfl,ez,?_⟩
 simp_arith[j4]
 rw[show(1:Int)+(ps.map (·.2)).sum=lg ps from rfl]
 clear ez
 subst hR
 refine iQ fun R' hR=>?_
 simp_arith[j4]
 refine kE (oj K pa) H1 (fun R2 hR2=>?_) (fun z hz0=>kz ps.length (fun i σ' Hc=>∃w1 w2 zs,σ'=[w1,w2]/\Same H1 Hc/\Hc z=some (.lst zs)/\Prs Hc zs (j9 ps i)) ⟨none,none,[],rfl,iI hz0 _,iD,.nil⟩ ?_ ?_)
 ·unfold tM
  simp_arith[j4,iS,s1 _ _ hu1,jm]
  exact⟨pa,rfl,⟨_,SqL.of (s1 _ _ hpa)⟩,hR2⟩
 ·rintro i σ' Hc hi ⟨w1,w2,zs,rfl,s2,ez,pz⟩
  have s3:=s1.trans s2
  have x1:xs[i]? =some (xs[i]'(by lia)):=gE _
  have z1:SqL K Hc pa xs:=SqL.of (s3 _ _ hpa)
  refine⟨⟨_,_,z1,x1⟩,?_⟩
  rintro x H' ⟨t,y,ht,rfl,rfl,g⟩
  obtain⟨p,hp,px⟩:=ko hxs (g _ z1)
  have q4:=iI ht (.tup [.int i,y])
  have s4:=s3.trans q4
  obtain⟨b,rfl,eb⟩:=px.same s4
  have et:upd Hc t (.tup [.int i,.ref b]) t=some (.tup [.int i,.ref b]):=iD
  have ez4:=q4 _ _ ez
  have pz4:=Prs.same q4 pz
  have s24:=s2.trans q4
  generalize upd Hc t (.tup [.int i,.ref b])=H4 at q4 s4 eb et ez4 pz4 s24
  have hzl:zs.length=i:=by rw[aw pz];unfold j9;rw[ae,bg]
  simp_arith[j4,et,iS,eb,jm]
  intro t2 ht2
  have q5:=iI ht2 (.tup [.int p.1,.int (2+(i:Int))])
  have ez5:=q5 _ _ ez4
  have t6:=kW (ys:=zs++[.ref t2]) ez5
  refine⟨zs,ez5,jr (by lia),_,_,zs++[.ref t2],rfl,jD (s24.trans q5) hz0,(by first|rfl|exact iD),?_⟩
  have e:j9 ps (i+1)=j9 ps i++[(p.1,2+(i:Int))]:=by
   unfold j9
   rw[bJ,aj,List.map_singleton,nY hp]
  rw[e]
  exact kF (Prs.tups t6 (Prs.same q5 pz4)) ⟨t2,rfl,t6 _ _ rfl iD⟩
 rintro σ' H2 ⟨w1,w2,zs,rfl,s2,ez,pz⟩
 have s3:=s1.trans s2
 refine⟨⟨_,SqL.of (s3 _ _ hpa),by lia⟩,?_⟩
 have hzl:zs.length=ps.length:=by rw[aw pz];unfold j9;rw[ae,bg]
 simp_arith[j4,ez]
 refine⟨jj (j9 ps ps.length),oN pz,by lia,qe (um wk),fun d hd0=>?_⟩
 have s4:=s3.trans (iI hd0 (.dK (jj (j9 ps ps.length))))
 have ed:upd H2 d (.dK (jj (j9 ps ps.length))) d=some (.dK (jj (j9 ps ps.length))):=iD
 generalize upd H2 d (.dK (jj (j9 ps ps.length)))=H3 at s4 ed
 clear ez pz hzl
 subst hR
 refine iQ fun R' hR=>?_
 simp_arith[j4]
 refine kE (jI K pa) H3 (fun R2 hR2=>?_) (fun al hal=>kz ps.length (fun i σ' Hc=>∃w1 w2 zs,σ'=[w1,w2,some (.ref d)]/\Same H3 Hc/\Hc al=some (.lst zs)/\kj Hc zs ((ps.take i).map fun p=>((0:Int),jt ps p.1,p.2))) ⟨none,none,[],rfl,iI hal _,iD,.nil⟩ ?_ ?_)
 ·unfold jZ
  simp_arith[j4,iS,s4 _ _ hu1,jm]
  exact⟨pa,rfl,⟨_,SqL.of (s4 _ _ hpa)⟩,hR2⟩
 ·rintro i σ' Hc hi ⟨w1,w2,zs,rfl,s7,ez,pz⟩
  have s8:=s4.trans s7
  have x1:xs[i]? =some (xs[i]'(by lia)):=gE _
  refine⟨⟨_,_,SqL.of (s8 _ _ hpa),x1⟩,?_⟩
  rintro y H' ⟨rfl,hy⟩
  have E1:=az (x1.symm.trans (hy _ (SqL.of (s8 _ _ hpa))))
  obtain⟨pr,hpr,px⟩:=ko hxs x1
  rw[E1]at px
  obtain⟨b,rfl,hb⟩:=px.same s8
  have hv:=pW wk (aL.mpr ⟨pr,ay hpr,rfl⟩)
  have hzl:zs.length<=i:=by rw[aw pz,ae,aK];lia
  simp_arith[j4,hb,s7 _ _ ed,hv]
  intro t2 ht2
  have q5:=iI ht2 (.tup [.int 0,.int (jt ps pr.1),.int pr.2])
  have ez5:=q5 _ _ ez
  have t6:=kW (ys:=zs++[.ref t2]) ez5
  refine⟨zs,ez5,jr (by lia),_,_,zs++[.ref t2],rfl,jD (s7.trans q5) hal,(by first|rfl|exact iD),?_⟩
  rw[jH hpr,aj]
  exact kF (jA t6 (jA q5.tups pz)) ⟨t2,rfl,t6 _ _ rfl iD⟩
 rintro σ' H4 ⟨w1,w2,zs,rfl,s5,eal,pz⟩
 have s6:=s4.trans s5
 refine⟨⟨_,SqL.of (s6 _ _ hpa),by lia⟩,?_⟩
 rw[aR]at pz
 have falH:H al=none:=s4.free hal
 have hzl:zs.length=ps.length:=by rw[aw pz,ae]
 simp_arith[j4]
 subst hR
 refine iQ fun R' hR=>?_
 have ed4:=s5 _ _ ed
 simp_arith[j4]
 refine kE (jI K pa) H4 (fun R2 hR2=>?_) (fun bl hbl=>kz ps.length (fun i σ' Hc=>∃w1 w2 us,σ'=[w1,w2,some (.int (xs.length:Int)),some (.ref d)]/\Same H4 Hc/\Hc bl=some (.lst us)/\kj Hc us ((ps.take i).map fun p=>(jt ps p.1+(ps.length:Int),(1:Int),p.2))) ⟨none,none,[],rfl,iI hbl _,iD,.nil⟩ ?_ ?_)
 ·unfold jZ
  simp_arith[j4,iS,s6 _ _ hu1,jm]
  exact⟨pa,rfl,⟨_,SqL.of (s6 _ _ hpa)⟩,hR2⟩
 ·rintro i σ' Hc hi ⟨w1,w2,us,rfl,s7,ez,pu⟩
  have s8:=s6.trans s7
  have x1:xs[i]? =some (xs[i]'(by lia)):=gE _
  refine⟨⟨_,_,SqL.of (s8 _ _ hpa),x1⟩,?_⟩
  rintro y H' ⟨rfl,hy⟩
  have E1:=az (x1.symm.trans (hy _ (SqL.of (s8 _ _ hpa))))
  obtain⟨pr,hpr,px⟩:=ko hxs x1
  rw[E1]at px
  obtain⟨b,rfl,hb⟩:=px.same s8
  have hv:=pW wk (aL.mpr ⟨pr,ay hpr,rfl⟩)
  have hul:us.length<=i:=by rw[aw pu,ae,aK];lia
  simp_arith[j4,hb,s7 _ _ ed4,hv]
  intro t2 ht2
  have q5:=iI ht2 (.tup [.int (jt ps pr.1+(xs.length:Int)),.int 1,.int pr.2])
  have ez5:=q5 _ _ ez
  have t6:=kW (ys:=us++[.ref t2]) ez5
  refine⟨us,ez5,jr (by lia),_,_,us++[.ref t2],rfl,jD (s7.trans q5) hbl,(by first|rfl|exact iD),?_⟩
  rw[jH hpr,aj]
  exact kF (jA t6 (jA q5.tups pu)) ⟨t2,rfl,by rw [<- hxl]; exact t6 _ _ rfl iD⟩
 rintro σ' H5 ⟨w1,w2,us,rfl,s7,ebl,pu⟩
 have s8:=s6.trans s7
 refine⟨⟨_,SqL.of (s8 _ _ hpa),by lia⟩,?_⟩
 rw[aR]at pu
 have hul:us.length=ps.length:=by rw[aw pu,ae]
 have eal5:=s7 _ _ eal
 simp_arith[j4,eal5,ebl]
 refine⟨nJ (by lia),?_⟩
 have s9:Same H (upd H5 al (.lst (zs++us))):=jD s8 falH
 have t9:=kW (ys:=zs++us) eal5
 have pz9:=AV (jA t9 (jA s7.tups pz)) (jA t9 pu)
 have eal9:upd H5 al (.lst (zs++us)) al=some (.lst (zs++us)):=iD
 have dal:d≠al:=iX ed hal
 have ed9:upd H5 al (.lst (zs++us)) d=some (.dK (jj (j9 ps ps.length))):=by rw[iL dal];exact s7 _ _ ed4
 generalize upd H5 al (.lst (zs++us))=H6 at s9 pz9 eal9 ed9
 clear eal5 ebl pu pz eal t9
 subst hR
 refine iQ fun R' hR=>?_
 refine lu (jI K ta) H6 (fun R3 hR3=>?_) (nA (K:=K) (a:=ta) (xs:=ys) (fun k σ Hc=>∃v5 v6 ws,σ=[some (.ref u),some (.int (xs.length:Int)),some (.int (lg ps)),some (.ref d),some (.ref al),v5,v6]/\Same H Hc/\Hc d=some (.dK (jj (j9 ps ps.length)))/\Hc al=some (.lst ws)/\ws.length<=80+2*k/\kj Hc ws (((ps.map fun p=>((0:Int),jt ps p.1,p.2))++ps.map fun p=>(jt ps p.1+(ps.length:Int),(1:Int),p.2))++Fl.lF (jt ps) ps.length (lg ps) (ts.take k))) ⟨none,none,zs++us,rfl,s9,ed9,eal9,by rw[aB];lia,by rw[List.take_zero];show kj H6 _ (_++[]);rw[bh];exact pz9⟩ (fun i σ Hc _ ⟨_,_,_,_,s,_⟩=>SqL.of (s _ _ hta)) ?_ ?_)
 ·unfold jZ
  simp_arith[j4,iS,s9 _ _ hu1,jK]
  exact⟨ta,rfl,⟨_,SqL.of (s9 _ _ hta)⟩,hR3⟩
 ·rintro k x σ Hc hx ⟨v5,v6,ws,rfl,sA,edA,ealA,hwl,pw⟩
  obtain⟨t,htk,pt⟩:=ko hys hx
  obtain⟨tb,rfl,etb⟩:=pt.same sA
  have hkl:=(au.mp htk).1
  obtain⟨m1,m2⟩:=pS wk t (ay htk)
  have hv1:=pW wk m1
  have hv2:=pW wk m2
  simp_arith[j4,etb,edA,hv1,hv2]
  refine⟨⟨al,ws,rfl,ealA⟩,fun t1 ht1=>?_⟩
  have qB:=iI ht1 (.tup [.int (jt ps t.1),.int (jt ps t.2+(xs.length:Int)),.int (lg ps)])
  have ealB:=qB _ _ ealA
  have edB:=qB _ _ edA
  simp only[ealB]
  refine⟨jr (by lia),?_⟩
  have tB:=kW (ys:=ws++[.ref t1]) ealB
  have sC:Same H (upd (upd Hc t1 (.tup [.int (jt ps t.1),.int (jt ps t.2+(xs.length:Int)),.int (lg ps)])) al (.lst (ws++[.ref t1]))):=jD (sA.trans qB) falH
  have ealC:upd (upd Hc t1 (.tup [.int (jt ps t.1),.int (jt ps t.2+(xs.length:Int)),.int (lg ps)])) al (.lst (ws++[.ref t1])) al=some (.lst (ws++[.ref t1])):=iD
  have edC:upd (upd Hc t1 (.tup [.int (jt ps t.1),.int (jt ps t.2+(xs.length:Int)),.int (lg ps)])) al (.lst (ws++[.ref t1])) d=some (.dK (jj (j9 ps ps.length))):=by rw[iL dal];exact edB
  have pC:=kF (jA tB (jA qB.tups pw)) (show Tp _ (.ref t1) (jt ps t.1,jt ps t.2 + (ps.length:Int),lg ps) from ⟨t1,rfl,by rw [<- hxl]; exact tB _ _ rfl iD⟩)
  generalize upd (upd Hc t1 (.tup [.int (jt ps t.1),.int (jt ps t.2+(xs.length:Int)),.int (lg ps)])) al (.lst (ws++[.ref t1]))=HC at sC ealC edC pC
  simp_arith[j4,edC,hv1,hv2]
  refine⟨⟨al,_,rfl,ealC⟩,fun t2 ht2=>?_⟩
  have qD:=iI ht2 (.tup [.int (jt ps t.2),.int (jt ps t.1+(xs.length:Int)),.int (lg ps)])
  have ealD:=qD _ _ ealC
  have edD:=qD _ _ edC
  simp only[ealD]
  have tD:=kW (ys:=(ws++[.ref t1])++[.ref t2]) ealD
  refine⟨jr (by rw[aB];show _+1<=_;lia),_,_,(ws++[.ref t1])++[.ref t2],rfl,jD (sC.trans qD) falH,by rw[iL dal];exact edD,iD,by rw[aB,aB];show _+1+1<=_;lia,?_⟩
  rw [jH htk,A3,<- aQ,<- aQ]
  exact kF (jA tD (jA qD.tups pC)) ⟨t2,rfl,by rw [<- hxl]; exact tD _ _ rfl iD⟩
 ·rintro σ Hc ⟨v5,v6,ws,rfl,sA,edA,ealA,hwl,pw⟩
  rw[hyl,aR]at pw
  have pw:kj Hc ws (jo ps ts):=pw
  subst hR
  simp_arith[j4]
  refine⟨mC (by decide) (by decide),?_⟩
  intro p dx hp hdx hne
  have hpal:al≠p:=iX ealA hp
  have hdal:al≠dx:=iX ealA hdx
  have sB:Same Hc (upd (upd Hc dx (.own p)) p (.ins C_Net dx [])):=fun b o q=>by rw[iL (iX q hp),iL (iX q hdx)];exact q
  refine⟨p,dx,2+(ps.length+ps.length),al,ws,jo ps ts,by rw[show((2+(ps.length+ps.length):Nat):Int)=2+2*(xs.length:Int) by lia],iD,sB _ _ ealA,jA sB.tups pw,by lia,by rw[rY];lia,fun a ha=>(uM wk a ha).1,fun R H' hR' b N=>?_⟩
  refine⟨rfl,h p R H' (sA.free (sB.free hR')) (fun b' o q=>b b' o (iX (sA _ _ q) hp) (sB _ _ (sA _ _ q))) N⟩
noncomputable def mr(ps:List (Int×Int)):Nat:=2+(ps.length+ps.length)
structure Rst(ps ts:List (Int×Int))(r:List Int):Prop where
 run:Fl.Runs (Fl.jL (jo ps ts)) (Fl.ji (jo ps ts)) (mr ps) 0 1 (Fl.jM (jo ps ts)) r
 end_:Fl.kN (Fl.jL (jo ps ts)) (Fl.ji (jo ps ts)) (mr ps) 0 1 r=none
theorem Rst.one{ps ts:List (Int×Int)}{a b:List Int}(h:Rst ps ts a)(g:Rst ps ts b):a=b:=Fl.Ck h.run h.end_ g.run g.end_
noncomputable def nE(ps ts:List (Int×Int))(r:List Int)(v:Int):Bool:=Fl.mh (Fl.jL (jo ps ts)) (Fl.ji (jo ps ts)) (mr ps) r v
noncomputable def mi(ps ts:List (Int×Int))(r:List Int):List (Int×Int):=mB (nE ps ts r) ps.length ps ps.length
noncomputable def ml(ps ts:List (Int×Int))(r:List Int):List (Int×Int×Int):=mW (jd false r) ps.length ts ts.length
def rB:Sp:=fun vs H Q _=>∃v ps ts,vs=[v]/\jd3 H v ps ts/\WebOk ps ts/\ps.length<=40/\∀t l1 l2 zs us r H',Same H H'->H' t=some (.tup [.ref l1,.ref l2])->H' l1=some (.lst zs)->H' l2=some (.lst us)->H t=none->H l1=none->H l2=none->l1≠l2->Rst ps ts r->Prs H' zs (mi ps ts r)->kj H' us (ml ps ts r)->Q (.ref t) H'
theorem EC{ps ts:List (Int×Int)}{r:List Int}{ms:List Int}(h:ms.Perm ((Fl.jw (Fl.jL (jo ps ts)) (Fl.ji (jo ps ts)) (mr ps) 0 r).map (·.1))):jB (lH ms)=nE ps ts r:=by
 funext n
 rw[yA]
 unfold nE Fl.mh
 exact gU.mpr h.mem_iff
theorem xU{ps ts:List (Int×Int)}(wk:WebOk ps ts):Fl.Rooms (jo ps ts).length (Fl.lM (jo ps ts)) (Fl.jM (jo ps ts)):=Fl.Cj fun a ha=>(uM wk a ha).2
theorem tj{ps ts:List (Int×Int)}(wk:WebOk ps ts):Fl.Net (Fl.jL (jo ps ts)) (Fl.ji (jo ps ts)) (jo ps ts).length (mr ps):=Fl.xo fun a ha=>(uM wk a ha).1
theorem Rst.rooms{ps ts:List (Int×Int)}{r:List Int}(wk:WebOk ps ts)(h:Rst ps ts r):Fl.Rooms (jo ps ts).length (Fl.lM (jo ps ts)) r/\∀v,v≠0->v≠1->Fl.ex (Fl.ji (jo ps ts)) (jo ps ts).length r v=0:=by
 obtain⟨a,b⟩:=Fl.Ci (tj wk) (by decide) ⟨bA _,by unfold mr;lia⟩ h.run (xU wk)
 exact⟨a,fun v h1 h2=>(b v h1 h2).trans (Fl.Iu _ _ _ _)⟩
theorem Em{α:Type}{xs:List α}{k:Nat}(h:xs.length=2*k):(jd false xs).length=k:=by
 have h1:=nR false xs
 have hge:¬k<(jd false xs).length:=fun z=>by
  have:=h1 k
  rw[gE z,ba (show xs.length<=2*k+(if false=true then 0 else 1) by rw[ak (by decide)];lia)]at this
  cases this
 by_cases c:k=0
 ·lia
 ·have:=h1 (k-1)
  rw[gE (show 2*(k-1)+(if false=true then 0 else 1)<xs.length by rw[ak (by decide)];lia)]at this
  have:=(au.mp this).1
  lia
theorem Hl(B:Blt mg)(D:DefAt K mg "told_paper" (iG 36) ["web"] f fd)(Dqq:DefAt K mg "doubled" (iG 33) ["web"] fqq dqq)(Gqq:FnOk P w K mg base iK 5 fqq dqq ["web"] (Ap C_Net))(Dq8:MthAt K C_Net "fill" "Net.fill" (ju 5 2) ["self","source","sink"] fq8 dq8)(Gq8:FnOk P w K mg base iK 3 fq8 dq8 ["self","source","sink"] (x8 C_Net))(Dzb:MthAt K C_Net "reached_from" "Net.reached_from" (ju 5 7) ["self","source"] fzb dzb)(Gzb:FnOk P w K mg base iK 2 fzb dzb ["self","source"] (yW C_Net))(Dqh:DefAt K mg "marked" (iG 11) ["places"] fqh dqh)(Gqh:FnOk P w K mg base iK 1 fqh dqh ["places"] yT)(Dqv:DefAt K mg "halves_reached" (iG 35) ["web","reached"] fqv dqv)(Gqv:FnOk P w K mg base iK 1 fqv dqv ["web","reached"] x9)(Dq9:MthAt K C_Net "flows" "Net.flows" (ju 5 6) ["self"] fq9 dq9)(Gq9:FnOk P w K mg base iK 1 fq9 dq9 ["self"] (yR C_Net))(Dqs:DefAt K mg "dues_flowing" (iG 34) ["web","flows"] fqs dqs)(Gqs:FnOk P w K mg base iK 1 fqs dqs ["web","flows"] yQ)(T:NetC K mg C_Net)(C2:Cst2 mg e1 e2 e3):FnOk P w K mg base iK 6 f fd ["web"] rB:=by
 have sc:FnScope ["web","net","halves"] ["web"] (jb (iG 36)):=by walk_at "SC"
 refine D.F.ok sc (fun vs H Q E h=>?_) (fun cdv A outer s H vs Q E hr h=>?_)
 ·obtain⟨v,ps,ts,rfl,_⟩:=h
  rfl
 obtain⟨v,ps,ts,rfl,hw,wk,h30,h⟩:=h
 have hu:=jh hr
 have hu0:_<PySem.cLine:=av hu
 refine⟨_,(iH (iT (i:=1) sc.nd rfl (Or.inl rfl) (i9 Gqq (hr.mono (by decide)) rfl Dqq.m Dqq.F.kp Dqq.b .nil iW (iw (qv 0) iC))) (iH (ke (mS (qv 1) T.cl Dq8.m Gq8 (hr.mono (by decide)) Dq8.b .nil iW (iw (lL (v:=.int 0) rfl C2.SOURCE ⟨_,rfl⟩) (iw (lL (v:=.int 1) rfl C2.SINK ⟨_,rfl⟩) iC)))) (iH (iT (i:=2) sc.nd rfl (Or.inl rfl) (i9 Gqv (hr.mono (by decide)) rfl Dqv.m Dqv.F.kp Dqv.b .nil iW (iw (qv 0) (iw (i9 Gqh (hr.mono (by decide)) rfl Dqh.m Dqh.F.kp Dqh.b .nil iW (iw (mS (qv 1) T.cl Dzb.m Gzb (hr.mono (by decide)) Dzb.b .nil iW (iw (lL (v:=.int 0) rfl C2.SOURCE ⟨_,rfl⟩) iC)) iC)) iC)))) (iO (jc (jJ (iw (qv 2) (iw (i9 Gqs (hr.mono (by decide)) rfl Dqs.m Dqs.F.kp Dqs.b .nil iW (iw (qv 0) (iw (F0 (qv 1) T.cl Dq9.m Gq9 (hr.mono (by decide)) Dq9.b .nil iW) iC))) iC)))))))),?_⟩
 refine iQ fun R' hR=>?_
 walk_at "D"
 refine⟨v,ps,ts,rfl,hw,wk,fun p R H1 fR s1 N=>?_⟩
 subst hR
 refine iQ fun R' hR=>?_
 obtain⟨dx,W,Hd,ls,o1,_,_,_,_,_,_,pR⟩:=N.st
 simp_arith[o1,EN]
 refine⟨p,0,1,R,_,_,_,_,_,Fl.lM (jo ps ts),rfl,N,by decide,bA _,by lia,xU wk,fun x r H2 run fin b2 eR2=>?_⟩
 have rst:Rst ps ts r:=⟨run,fin⟩
 have rm:=(rst.rooms wk).1
 have N2:=N.but b2 eR2 rm.len
 have s2:Same H H2:=fun b o q=>b2 b o (iX q fR) (s1 _ _ q)
 have o2:=b2 _ _ pR o1
 subst hR
 refine iQ fun R' hR=>?_
 simp_arith[o2,GR]
 refine⟨p,0,R,_,_,_,_,r,rfl,N2,bA _,by lia,by lia,fun l ms H3 hl s3 el pm=>?_⟩
 have hmn:ms.Nodup:=pm.nodup_iff.mpr (Fl.mF (r:=r) (s:=0) N.net.from' _).nd
 have hml:ms.length<=120:=by
  rw[pm.length_eq,ae]
  have:=Fl.nG (r:=r) N.net ⟨bA 0,by lia⟩ (2+(ps.length+ps.length))
  show(Fl.je _ _ _ _ _).length<=120
  lia
 refine⟨l,ms,rfl,el,hmn,hml,fun d H4 hd s4 ed=>?_⟩
 have s24:=s3.trans s4
 have s14:=s2.trans s24
 refine⟨v,ps,ts,d,lH ms,rfl,hw.same s14,wk,ed,fun l1 zs H5 hl1 s5 el1 pz=>?_⟩
 rw[EC pm]at pz
 have s25:=s24.trans s5
 have s15:=s14.trans s5
 subst hR
 simp_arith[s25 _ _ o2,FR]
 refine⟨p,R,_,_,_,_,r,rfl,N2.same s25,fun fl H6 hfl s6 ef=>?_⟩
 refine⟨v,ps,ts,fl,jd false r,rfl,hw.same (s15.trans s6),wk,ef,?_,fun l2 us H7 hl2 s7 el2 pu=>?_⟩
 ·rw[Em rm.len,rY];lia
 intro t ht
 have q8:=iI ht (.tup [.ref l1,.ref l2])
 have s57:=s6.trans s7
 refine h t l1 l2 zs us r _ ((s15.trans s57).trans q8) iD (q8 _ _ (s57 _ _ el1)) (q8 _ _ el2) ((s15.trans s57).free ht) (s14.free hl1) ((s15.trans s6).free hl2) (iX (s6 _ _ el1) hl2) rst (Prs.same (s57.trans q8) pz) (jA q8.tups pu)
theorem G9(B:Blt mg)(D:DefAt K mg "halves_of" (iG 37) ["web"] f fd)(Dqg:DefAt K mg "look_at_web" (iG 24) ["thing"] fqg dqg)(Gqg:FnOk P w K mg base iK 5 fqg dqg ["thing"] vq)(Dq7:DefAt K mg "told_paper" (iG 36) ["web"] fq7 dq7)(Gq7:FnOk P w K mg base iK 6 fq7 dq7 ["web"] rB):FnOk P w K mg base iK 7 f fd ["web"] rB:=by
 have sc:FnScope ["web"] ["web"] (jb (iG 37)):=by walk_at "SC"
 refine D.F.ok sc (fun vs H Q E h=>?_) (fun cdv A outer s H vs Q E hr h=>?_)
 ·obtain⟨v,ps,ts,rfl,_⟩:=h
  rfl
 obtain⟨v,ps,ts,rfl,hw,wk,h30,h⟩:=h
 have hu:=jh hr
 have hu0:_<PySem.cLine:=av hu
 refine⟨_,(iH (ke (i9 Gqg (hr.mono (by decide)) rfl Dqg.m Dqg.F.kp Dqg.b .nil iW (iw (qv 0) iC))) (iO (jc (i9 Gq7 (hr.mono (by decide)) rfl Dq7.m Dq7.F.kp Dq7.b .nil iW (iw (qv 0) iC))))),?_⟩
 walk_at "D"
 refine⟨v,ps,ts,rfl,hw,wk,fun H1 s1=>?_⟩
 walk_at "D"
 refine⟨v,ps,ts,rfl,hw.same s1,wk,h30,fun t l1 l2 zs us r H2 s2 e1 e2 e3 f1 f2 f3 ne rst pz pu=>?_⟩
 exact h t l1 l2 zs us r H2 (s1.trans s2) e1 e2 e3 (s1.free f1) (s1.free f2) (s1.free f3) ne rst pz pu
end
end My
namespace My
open PySem L2
section
variable{P:Program}{w:World}{K:PySem.W.Frag}{mg:Str->Option Value}{base:Heap}{c1 c2 c3 c4:Tok}{C_NoWeb fql:Addr}{dI:FuncData}
theorem za{kvs:List (iF×V)}:∀{ts:List (Int×Int)} {q:Int×Int},TiOk kvs q ts->ts.Pairwise fun a b=>HT.lexLt [a.1,a.2] [b.1,b.2]=true
 |[],_,_=>.nil
 |u::r,q,h=>dm.mpr ⟨fun p hp=>TiOk.lt h.2 p hp,za h.2⟩
theorem DR{a b c d:Int}(h:HT.lexLt [a,b] [c,d]=true):l9 [c,d] [a,b]=false:=by
 have h:=uV h
 rw[ue]
 by_cases e:c=a
 ·rw[aq e,ue,ak (by lia)]
  exact aJ (by lia)
 ·rw[ak e]
  exact aJ (by lia)
theorem Af{ts:List (Int×Int)}:∀{qs:List (Int×Int×Int)} {q:Int×Int},qs.Pairwise (fun a b=>HT.lexLt [a.1,a.2.1] [b.1,b.2.1]=true)->(∀d∈qs,HT.lexLt [q.1,q.2] [d.1,d.2.1]=true)->(∀d∈qs,(d.1,d.2.1)∈ts/\1<=d.2.2)->jY ts q (qs.map jG)=some qs
 |[],_,_,_,_=>rfl
 | d::r,q,hp,hq,hm=>by
  have hp':=dm.mp hp
  have h1:=hm d (.head _)
  have hd:lY (jG d)=some d:=by
   unfold lY
   show(if 1<=d.2.2 then some d else none)=some d
   rw[aq h1.2]
  rw[ag,jY,hd]
  dsimp only
  rw[aq ⟨h1.1,DR (hq d (.head _))⟩,Af hp'.2 (fun e he=>hp'.1 e he) fun e he=>hm e (.tail _ he)]
  rfl
theorem zt{hf:Int->Int}(hb:∀n,0<=hf n/\hf n<=2):∀ps:List (Int×Int),jU ps ((ps.map fun p=>(p.1,hf p.1)).map jN)=some (ps.map fun p=>(p.1,hf p.1))
 |[]=>rfl
 |p::r=>by
  rw[ag,ag,jU]
  show(match mq (.tup [.int p.1,.int (hf p.1)])with |some h=>if h.1=p.1/\0<=h.2/\h.2<=2 then _ else none|none=>none)=_
  rw[show mq (.tup [.int p.1,.int (hf p.1)])=some (p.1,hf p.1)from rfl]
  dsimp only
  rw[aq ⟨rfl,hb p.1⟩,zt hb r]
  rfl
theorem Ao{n:Int}:∀{L:List (Int×Int×Int)},(∀d∈L,0<=d.2.2)->ku (L.filter fun d=>decide (d.2.2>0)) n=ku L n
 |[],_=>rfl
 | d::r,h=>by
  have ih:=Ao (n:=n) (L:=r) fun e he=>h e (.tail _ he)
  unfold ku at ih ⊢
  rw[eE]
  by_cases c:d.2.2>0
  ·rw[aq (aG c),ag,List.sum_cons,ih,ag,List.sum_cons]
  ·have h0:d.2.2=0:=by have:=h d (.head _);lia
   rw[ak (by simpa using c),ih,ag,List.sum_cons,h0]
   split<;>split<;>lia
theorem yZ:∀{L:List (Int×Int×Int)},(∀d∈L,0<=d.2.2)->((L.filter fun d=>decide (d.2.2>0)).map (·.2.2)).sum=(L.map (·.2.2)).sum
 |[],_=>rfl
 | d::r,h=>by
  have ih:=yZ (L:=r) fun e he=>h e (.tail _ he)
  rw[eE]
  by_cases c:d.2.2>0
  ·rw[aq (aG c),ag,List.sum_cons,ih,ag,List.sum_cons]
  ·have h0:d.2.2=0:=by have:=h d (.head _);lia
   rw[ak (by simpa using c),ih,ag,List.sum_cons,h0]
   lia
theorem yh(r:List Int)(k:Nat):Fl.at' (jd false r) k=Fl.at' r (2*k+1):=by
 unfold Fl.at'
 rw[aC,aC,nR,ak (by decide)]
noncomputable def oY(ps ts:List (Int×Int))(r:List Int)(p:Int):Bool:=nE ps ts r (jt ps p)
noncomputable def oX(ps ts:List (Int×Int))(r:List Int)(p:Int):Bool:=nE ps ts r (jt ps p+ps.length)
noncomputable def jP(ps ts:List (Int×Int))(r:List Int):Int->Int:=Fl.kL (oY ps ts r) (oX ps ts r)
theorem oO{ps ts:List (Int×Int)}(wk:WebOk ps ts):∀p∈ps,jV ps p.1=p.2:=fun p hp=>by
 have a:=nW wk.p.nodup hp
 rw[oH wk.p.nodup (aL.mpr ⟨p,hp,rfl⟩)]at a
 exact V.int.inj (az a)
theorem rJ{ps ts:List (Int×Int)}{r:List Int}(wk:WebOk ps ts)(h:Rst ps ts r):Fl.Full (ps.map (·.1)) (jV ps) (Fl.twS (ps.map (·.1)) r ts) (Fl.mj (jt ps) r) (Fl.nF (ps.map (·.1)) (jt ps) r) (oY ps ts r) (oX ps ts r):=by
 have hl:(ps.map (·.1)).length=ps.length:=ae _
 have e1:(jo ps ts).length=Fl.arcs (ps.map (·.1)) ts:=by rw[rY];unfold Fl.arcs;rw[hl]
 have e2:mr ps=Fl.kh (ps.map (·.1)):=by unfold mr Fl.kh;rw[hl]
 have D:Fl.Dbl (ps.map (·.1)) ts (jt ps) (Fl.ji (jo ps ts)):=Fl.Bq wk.p.nodup (fun i p hp=>rA wk hp) (pS wk)
 have C:Fl.Caps (ps.map (·.1)) ts (jV ps) (Fl.lM (jo ps ts)):=Fl.Bu (oO wk) fun p hp=>by
  have h0:∀q∈ps,0<=q.2:=fun q hq=>by have:=wk.p.pos q hq;lia
  have:=Fl.nL (f:=fun q:Int×Int=>q.2) h0 p hp
  unfold lg
  lia
 obtain⟨rm,bal⟩:=h.rooms wk
 have N:=tj wk
 have en:=h.end_
 rw[e1]at rm bal N
 rw[e2]at N en
 have F:=Fl.Ig D N C rm bal en
 rw[hl]at F
 unfold oY oX nE
 rw[e2]
 exact F
theorem pU{ps ts:List (Int×Int)}{r:List Int}(wk:WebOk ps ts):mi ps ts r=ps.map fun p=>(p.1,jP ps ts r p.1):=by
 unfold mi mB
 apply cV
 intro i
 rw[aE,aE]
 by_cases c:i<ps.length
 ·have hi:ps[i]? =some ps[i]:=gE c
  have hs:=rA wk (i:=i) (p:=ps[i].1) (by rw[aE,hi];rfl)
  rw[cH c,hi]
  show some _=some _
  dsimp only
  rw[nY hi]
  unfold jP Fl.kL Fl.one oY oX
  rw[hs,show(2:Int)+(i:Int)+(ps.length:Int)=2+(ps.length:Int)+(i:Int) by lia]
  congr 2
  cases nE ps ts r (2+(i:Int))<;>rfl
 ·rw[ba (by rw[bg];lia),ba (by lia)]
  rfl
noncomputable def l5(ps ts:List (Int×Int))(r:List Int):List (Int×Int×Int):=(Fl.twS (ps.map (·.1)) r ts).map fun z=>(z.a,z.b,z.x+z.y)
theorem tX(ps ts:List (Int×Int))(r:List Int):ml ps ts r=(l5 ps ts r).filter fun d=>decide (d.2.2>0):=by
 unfold ml mW l5 Fl.twS
 rw[bz]
 congr 1
 refine gh fun j _=>?_
 show _=((Fl.twAt _ _ _ j).a,(Fl.twAt _ _ _ j).b,_)
 unfold Fl.twAt
 dsimp only
 rw[yh,yh,ae,show 2*ps.length+2*j=ps.length+ps.length+2*j by lia,show ps.length+ps.length+2*j+1=ps.length+ps.length+(2*j+1) by lia]
theorem sf(ps ts:List (Int×Int))(r:List Int):(l5 ps ts r).map (fun d=>(d.1,d.2.1))=ts:=by
 unfold l5 Fl.twS
 rw[bz,bz]
 apply cV
 intro i
 rw[aE]
 by_cases c:i<ts.length
 ·rw[cH c,gE c]
  show some ((ts.getD i (0,0)).1,(ts.getD i (0,0)).2)=_
  rw[nY (gE c)]
 ·rw[ba (by rw[bg];lia),ba (by lia)]
  rfl
theorem GH{ps ts:List (Int×Int)}{r:List Int}(wk:WebOk ps ts)(h:Rst ps ts r):jU ps ((mi ps ts r).map jN)=some (mi ps ts r)/\jY ts (-1,-1) ((ml ps ts r).map jG)=some (ml ps ts r)/\my ts (mi ps ts r)=true/\mx ps (ml ps ts r)=true/\((ml ps ts r).map (·.2.2)).sum=km ps (mi ps ts r):=by
 have F:=rJ wk h
 have hb:∀n,0<=jP ps ts r n/\jP ps ts r n<=2:=fun n=>Fl.Bf n
 have nn:∀d∈l5 ps ts r,0<=d.2.2:=fun d hd=>by
  obtain⟨z,hz,rfl⟩:=aL.mp hd
  have:=F.pos z hz
  dsimp only
  lia
 have nd:((mi ps ts r).map (·.1)).Nodup:=by
  rw[pU wk,bz]
  exact wk.p.nodup
 have hat:∀n∈ps.map (·.1),jV (mi ps ts r) n=jP ps ts r n:=fun n hn=>by
  obtain⟨p,hp,rfl⟩:=aL.mp hn
  have hm:(p.1,jP ps ts r p.1)∈mi ps ts r:=by rw[pU wk];exact aL.mpr ⟨p,hp,rfl⟩
  have a:=nW nd hm
  rw[oH nd (aL.mpr ⟨_,hm,rfl⟩)]at a
  exact V.int.inj (az a)
 refine⟨by rw[pU wk];exact zt hb ps,?_,?_,?_,?_⟩
 ·rw[tX]
  have hpw:(l5 ps ts r).Pairwise (fun a b=>HT.lexLt [a.1,a.2.1] [b.1,b.2.1]=true):=by
   have:=za wk.t
   rw [<- sf ps ts r,bK] at this
   exact this
  have hin:∀d∈l5 ps ts r,(d.1,d.2.1)∈ts:=fun d hd=>by
   have:=bP (f:=fun d:Int×Int×Int=>(d.1,d.2.1)) hd
   rw[sf]at this
   exact this
  refine Af (hpw.filter _) (fun d hd=>?_) fun d hd=>?_
  ·have:=TiOk.lt wk.t _ (hin d (dU.mp hd).1)
   exact this
  ·have:=dU.mp hd
   exact⟨hin d this.1,by have:=bZ this.2;lia⟩
 ·unfold my
  rw[eF]
  intro t ht
  obtain⟨m1,m2⟩:=pS wk t ht
  rw[hat _ m1,hat _ m2]
  refine aG ?_
  have hz:t∈(l5 ps ts r).map (fun d=>(d.1,d.2.1)):=by rw[sf];exact ht
  obtain⟨d,hd,rfl⟩:=aL.mp hz
  obtain⟨z,hz2,rfl⟩:=aL.mp hd
  exact F.two z hz2
 ·unfold mx
  rw[eF]
  intro p hp
  refine aG ?_
  rw[tX,Ao nn]
  have:=F.paid (aL.mpr ⟨p,hp,rfl⟩)
  rw[oO wk p hp]at this
  unfold ku l5
  rw[bz]
  exact this
 ·rw[tX,yZ nn]
  have:=F.worth
  unfold km
  rw[pU wk]
  unfold l5
  rw[bz,bz]
  rw[bz]at this
  exact this
theorem GZ{ps ts:List (Int×Int)}{r:List Int}(wk:WebOk ps ts)(h:Rst ps ts r):kD ps ts (.tup [.lst ((mi ps ts r).map jN),.lst ((ml ps ts r).map jG)])=true:=by
 obtain⟨a,b,c,d,e⟩:=GH wk h
 rw[qf]
 show(match jU ps _,jY ts (-1,-1) _ with |some hs,some qs=>my ts hs&&(mx ps qs&&decide ((qs.map (·.2.2)).sum=km ps hs))|_,_=>false)=true
 rw[a,b]
 dsimp only
 rw[c,d,aG e]
 rfl
end
end My
namespace L2
open PySem PySem.Spec PyProof.Rows
section
variable{X:Cx}
end
section
variable{X:Cx}
end
end L2
namespace Fl
def sQ(ns:List Int)(pr:Int->Int)(zs:List Tw)(fs:Int->Int)(SL SR:Int->Bool):Prop:=
 ∀(A B:Int->Prop),(∀p∈ns,fs p<pr p->A p)->(∀z∈zs,(A z.a->B z.b)/\(A z.b->B z.a))->(∀z∈zs,(0<z.x->B z.b->A z.a)/\(0<z.y->B z.a->A z.b))->∀p∈ns,(SL p=true->A p)/\(SR p=true->B p)
section
variable{ns:List Int}{ts:List (Int×Int)}{sp:Int->Int}{hs r:List Int}{wf:Int->List Nat}{pr:Int->Int}{cap:Nat->Int}
theorem Cn(D:Dbl ns ts sp hs)(N:Net wf hs (arcs ns ts) (kh ns))(C:Caps ns ts pr cap)(R:Rooms (arcs ns ts) cap r)(hr:kN wf hs (kh ns) 0 1 r=none):
  sQ ns pr (twS ns r ts) (mj sp r) (fun p=>mh wf hs (kh ns) r (sp p)) (fun p=>mh wf hs (kh ns) r (sp p+ns.length)):=fun A B a1 a2 a3=>by
 have hs0:(0:Int)<=0/\(0:Int)<(kh ns:Nat):=⟨bA _,by unfold kh;lia⟩
 have h1:(1:Int)∉(jw wf hs (kh ns) 0 r).map (·.1):=wC N (by decide) hs0 hr
 have cam:Cam hs r (arcs ns ts) 0 (jw wf hs (kh ns) 0 r):=mF N.from' _
 unfold mh
 generalize jw wf hs (kh ns) 0 r=cb at h1 cam ⊢
 have inj:∀p∈ns,∀q∈ns,sp p=sp q->p=q:=fun p hp q hq e=>by
  obtain⟨k,hk,ek⟩:=bq.mp hq
  have hk':ns[k]? =some q:=by rw[gE hk,ek]
  exact(D.spI hk' hp).mp (by rw[e];exact D.spot k q hk')
 have key:∀(i:Nat) (v:Int) (o:Option Nat),cb[i]? =some (v,o)->(∀p∈ns,sp p=v->A p)/\(∀p∈ns,sp p+ns.length=v->B p):=by
  intro i
  induction i using Nat.strongRecOn with
  | ind i ih=>
   intro v o hi
   by_cases i0:i=0
   ·subst i0
    rw[cam.first]at hi
    cases hi
    exact⟨fun p hp e=>by have:=D.spB hp;lia,fun p hp e=>by have:=D.spB hp;lia⟩
   ·obtain⟨w,rfl,hw,hrw,hv,j,u,hj,hu,hm⟩:=cam.came i v o hi (by lia)
    have hv1:v ≠ 1:=fun e=>h1 (by rw [<- e]; exact aL.mpr ⟨_,ay hi,rfl⟩)
    obtain⟨⟨u',o'⟩,hu2,hu3⟩:=dj.mp hu
    dsimp only at hu3
    subst hu3
    have hu1:u' ≠ 1:=fun e=>h1 (by rw [<- e]; exact aL.mpr ⟨_,ay hu2,rfl⟩)
    obtain⟨iA,iB⟩:=ih j hj u' o' hu2
    unfold arcs at hw
    by_cases c1:w<2*ns.length
    ·obtain⟨k,hk⟩:∃k,w=2*k\/w=2*k+1:=⟨w/2,by lia⟩
     have kl:k<ns.length:=by lia
     obtain⟨s1,s2⟩:=D.src k kl
     rcases hk with rfl|rfl
     ·rw[s1]at hv
      refine⟨fun p hp e=>?_,fun p hp e=>by have:=D.spB hp;lia⟩
      have hk':ns[k]? =some ns[k]:=gE kl
      have e2:=(D.spI hk' hp).mp (by lia)
      have two:=R.two k (by unfold arcs;lia)
      rw[C.src k _ hk']at two
      refine a1 p hp ?_
      unfold mj
      rw[e2,D.spot k _ hk',show(2+(k:Int)-2).toNat=k by lia]
      lia
     ·rw[s2]at hv
      exact⟨fun p hp e=>by have:=D.spB hp;lia,fun p hp e=>by have:=D.spB hp;lia⟩
    ·by_cases c2:w<2*(ns.length+ns.length)
     ·obtain⟨k,hk⟩:∃k,w=2*(ns.length+k)\/w=2*(ns.length+k)+1:=⟨w/2-ns.length,by lia⟩
      obtain⟨s1,s2⟩:=D.snk k (by lia)
      rcases hk with rfl|rfl
      ·exact absurd (hv.symm.trans s1) hv1
      ·rw[show iU (2*(ns.length+k)+1)=2*(ns.length+k) by unfold iU;rw[ak (by lia)];lia]at hm
       exact absurd (hm.symm.trans s1) hu1
     ·obtain⟨k,hk⟩:∃k,w=2*(ns.length+ns.length+2*k)\/w=2*(ns.length+ns.length+2*k)+1\/w=2*(ns.length+ns.length+(2*k+1))\/w=2*(ns.length+ns.length+(2*k+1))+1:=⟨(w/2-(ns.length+ns.length))/2,by lia⟩
      have kl:k<ts.length:=by lia
      have ht:=getD_at kl
      obtain⟨⟨t1,t2⟩,t3,t4⟩:=D.tie k _ ht
      obtain⟨m1,m2⟩:=D.ends _ (ay ht)
      have hz:twAt ns r ts k∈twS ns r ts:=aL.mpr ⟨k,aU.mpr kl,rfl⟩
      have z2:=a2 _ hz
      have z3:=a3 _ hz
      unfold twAt at z2 z3
      dsimp only at z2 z3
      have b1:=D.spB m1
      have b2:=D.spB m2
      rcases hk with rfl|rfl|rfl|rfl
      ·rw[show iU (2*(ns.length+ns.length+2*k))=2*(ns.length+ns.length+2*k)+1 by unfold iU;rw[aq (by lia)]]at hm
       have q:=z2.1 (iA _ m1 (t2.symm.trans hm))
       refine⟨fun p hp e=>by have:=D.spB hp;lia,fun p hp e=>?_⟩
       rw[inj p hp _ m2 (by lia)]
       exact q
      ·rw[show iU (2*(ns.length+ns.length+2*k)+1)=2*(ns.length+ns.length+2*k) by unfold iU;rw[ak (by lia)];lia]at hm
       have q:=z3.1 hrw (iB _ m2 (t1.symm.trans hm))
       refine⟨fun p hp e=>?_,fun p hp e=>by have:=D.spB hp;lia⟩
       rw[inj p hp _ m1 (by lia)]
       exact q
      ·rw[show iU (2*(ns.length+ns.length+(2*k+1)))=2*(ns.length+ns.length+(2*k+1))+1 by unfold iU;rw[aq (by lia)]]at hm
       have q:=z2.2 (iA _ m2 (t4.symm.trans hm))
       refine⟨fun p hp e=>by have:=D.spB hp;lia,fun p hp e=>?_⟩
       rw[inj p hp _ m1 (by lia)]
       exact q
      ·rw[show iU (2*(ns.length+ns.length+(2*k+1))+1)=2*(ns.length+ns.length+(2*k+1)) by unfold iU;rw[ak (by lia)];lia]at hm
       have q:=z3.2 hrw (iB _ m1 (t3.symm.trans hm))
       refine⟨fun p hp e=>?_,fun p hp e=>by have:=D.spB hp;lia⟩
       rw[inj p hp _ m2 (by lia)]
       exact q
 intro p hp
 simp only[cF]
 refine⟨fun h=>?_,fun h=>?_⟩
 all_goals
  obtain⟨⟨v,o⟩,hm,e⟩:=aL.mp h
  obtain⟨i,hi⟩:=List.mem_iff_getElem?.mp hm
 ·exact(key i v o hi).1 p hp e.symm
 ·exact(key i v o hi).2 p hp e.symm
end
section
variable{ns:List Int}{pr:Int->Int}{zs:List Tw}{fs ft:Int->Int}{SL SR:Int->Bool}
theorem ou{α:Type}{f:α->Int}:∀{l:List α},(∀p∈l,0<=f p)->0<=(l.map f).sum
 |[],_=>bA _
 |a::l,h=>by
  rw[ag,List.sum_cons]
  have:=h a (aM ..)
  have:=ou (f:=f) (l:=l) fun p hp=>h p (aF _ hp)
  lia
theorem Full.gap(F:Full ns pr zs fs ft SL SR)(y:Int->Int):(ns.map fun p=>y p*(2*pr p-(fs p+ft p))).sum+(zs.map fun z=>(z.x+z.y)*(y z.a+y z.b-2)).sum=2*(ns.map fun p=>pr p*y p).sum-2*(ns.map fun p=>pr p*kL SL SR p).sum:=by
 have e1:(ns.map fun p=>y p*(2*pr p-(fs p+ft p))).sum+((ns.map fun p=>y p*kB zs p).sum+(ns.map fun p=>y p*inR zs p).sum)=(ns.map fun p=>pr p*y p).sum+(ns.map fun p=>pr p*y p).sum:=by
  rw [<- lq,<- lq,<- lq]
  refine j8 fun p hp=>?_
  rw [<- F.left p hp,<- F.right p hp,Int.mul_sub,dF,dr (pr p),<- Int.mul_assoc,dr (y p) 2,Int.mul_assoc]
  lia
 have e2:(zs.map fun z=>(z.x+z.y)*(y z.a+y z.b-2)).sum+((zs.map fun z=>z.x+z.y).sum+(zs.map fun z=>z.x+z.y).sum)=(zs.map fun z=>y z.a*z.x+y z.b*z.y).sum+(zs.map fun z=>y z.b*z.x+y z.a*z.y).sum:=by
  rw [<- lq,<- lq,<- lq]
  refine j8 fun z _=>?_
  rw[Int.mul_sub,dF,hV,hV,dr z.x,dr z.y,dr z.x,dr z.y]
  lia
 rw[rT y F.nd F.ends,uu y F.nd F.ends]at e1
 rw[F.worth]at e2
 lia
theorem Full.nnP(F:Full ns pr zs fs ft SL SR){y:Int->Int}(y0:∀p∈ns,0<=y p):∀p∈ns,0<=y p*(2*pr p-(fs p+ft p)):=fun p hp=>by
 have a:=F.capL p hp
 have b:=F.capR p hp
 exact ip (y0 p hp) (by lia)
theorem Full.nnZ(F:Full ns pr zs fs ft SL SR){y:Int->Int}(y2:∀z∈zs,2<=y z.a+y z.b):∀z∈zs,0<=(z.x+z.y)*(y z.a+y z.b-2):=fun z hz=>by
 have a:=F.pos z hz
 have b:=y2 z hz
 exact ip (by lia) (by lia)
theorem Full.least(F:Full ns pr zs fs ft SL SR){y:Int->Int}(y0:∀p∈ns,0<=y p)(y2:∀z∈zs,2<=y z.a+y z.b):(ns.map fun p=>pr p*kL SL SR p).sum<=(ns.map fun p=>pr p*y p).sum:=by
 have g:=F.gap y
 have a:=ou (F.nnP y0)
 have b:=ou (F.nnZ y2)
 lia
theorem zh{a b:Int}(h:a*b<=0)(ha:0<=a)(hb:0<b):a=0:=by
 by_cases c:a=0
 ·exact c
 ·have:=Int.mul_pos (show 0<a by lia) hb
  lia
theorem Full.agree(F:Full ns pr zs fs ft SL SR)(W:sQ ns pr zs fs SL SR){y:Int->Int}(y0:∀p∈ns,0<=y p/\y p<=2)(y2:∀z∈zs,2<=y z.a+y z.b)(hc:(ns.map fun p=>pr p*y p).sum<=(ns.map fun p=>pr p*kL SL SR p).sum):∀p∈ns,(SL p=true->y p=0)/\(SR p=true->y p=2):=by
 have g:=F.gap y
 have n1:=F.nnP fun p hp=>(y0 p hp).1
 have n2:=F.nnZ y2
 have s1:=ou n1
 have s2:=ou n2
 have l1:=nL n1
 have l2:=nL n2
 refine W (fun p=>y p=0) (fun p=>y p=2) (fun p hp h=>?_) (fun z hz=>?_) (fun z hz=>?_)
 ·have a:=F.capR p hp
  have:=l1 p hp
  exact zh (b:=2*pr p-(fs p+ft p)) (by lia) (y0 p hp).1 (by lia)
 ·obtain⟨i1,i2⟩:=F.ends z hz
  have:=y0 _ i1
  have:=y0 _ i2
  have:=y2 z hz
  exact⟨fun h=>by lia,fun h=>by lia⟩
 ·have:=l2 z hz
  have hp:=F.pos z hz
  have h2:=y2 z hz
  refine⟨fun h h3=>?_,fun h h3=>?_⟩
  all_goals
   have q:=zh (a:=y z.a+y z.b-2) (b:=z.x+z.y) (by rw[dr];lia) (by lia) (by lia)
   lia
theorem Full.fixed(F:Full ns pr zs fs ft SL SR)(W:sQ ns pr zs fs SL SR){y:Int->Int}(y0:∀p∈ns,0<=y p/\y p<=2)(y2:∀z∈zs,2<=y z.a+y z.b)(hc:(ns.map fun p=>pr p*y p).sum<=(ns.map fun p=>pr p*kL SL SR p).sum):∀p∈ns,kL SL SR p≠1->y p=kL SL SR p:=fun p hp h=>by
 obtain⟨a,b⟩:=F.agree W y0 y2 hc p hp
 unfold kL at h ⊢
 cases e1:SL p<;>cases e2:SR p<;>rw[e1,e2]at h
 ·exact absurd rfl h
 ·rw[b e2];rfl
 ·rw[a e1];rfl
 ·exact absurd rfl h
end
end Fl
namespace My
open PySem L2
section
variable{P:Program}{w:World}{K:PySem.W.Frag}{mg:Str->Option Value}{base:Heap}{c1 c2 c3 c4:Tok}{C_NoWeb fql:Addr}{dI:FuncData}
theorem Co{ps ts:List (Int×Int)}{r:List Int}(wk:WebOk ps ts)(h:Rst ps ts r):Fl.sQ (ps.map (·.1)) (jV ps) (Fl.twS (ps.map (·.1)) r ts) (Fl.mj (jt ps) r) (oY ps ts r) (oX ps ts r):=by
 have hl:(ps.map (·.1)).length=ps.length:=ae _
 have e1:(jo ps ts).length=Fl.arcs (ps.map (·.1)) ts:=by rw[rY];unfold Fl.arcs;rw[hl]
 have e2:mr ps=Fl.kh (ps.map (·.1)):=by unfold mr Fl.kh;rw[hl]
 have D:Fl.Dbl (ps.map (·.1)) ts (jt ps) (Fl.ji (jo ps ts)):=Fl.Bq wk.p.nodup (fun i p hp=>rA wk hp) (pS wk)
 have C:Fl.Caps (ps.map (·.1)) ts (jV ps) (Fl.lM (jo ps ts)):=Fl.Bu (oO wk) fun p hp=>by
  have h0:∀q∈ps,0<=q.2:=fun q hq=>by have:=wk.p.pos q hq;lia
  have:=Fl.nL (f:=fun q:Int×Int=>q.2) h0 p hp
  unfold lg
  lia
 obtain⟨rm,bal⟩:=h.rooms wk
 have N:=tj wk
 have en:=h.end_
 rw[e1]at rm bal N
 rw[e2]at N en
 have F:=Fl.Cn D N C rm en
 rw[hl]at F
 unfold oY oX nE
 rw[e2]
 exact F
theorem tw_in{ps ts:List (Int×Int)}{r:List Int}:∀z∈Fl.twS (ps.map (·.1)) r ts,(z.a,z.b)∈ts:=fun z hz=>by
 unfold Fl.twS at hz
 obtain⟨j,hj,rfl⟩:=aL.mp hz
 exact ay (Fl.getD_at (aU.mp hj))
theorem rS{ps ts:List (Int×Int)}(wk:WebOk ps ts)(y:Int->Int):((ps.map (·.1)).map fun n=>jV ps n*y n).sum=(ps.map fun p=>p.2*y p.1).sum:=by
 rw[bz]
 exact Fl.j8 fun p hp=>by show jV ps p.1*_=_;rw[oO wk p hp]
noncomputable def kP(ps:List (Int×Int))(y:Int->Int):Int:=(ps.map fun p=>p.2*y p.1).sum
structure Cov(ps ts:List (Int×Int))(y:Int->Int):Prop where
 b:∀p∈ps,0<=y p.1/\y p.1<=2
 t:∀t∈ts,2<=y t.1+y t.2
theorem zm{ps ts:List (Int×Int)}{r:List Int}(wk:WebOk ps ts)(h:Rst ps ts r):Cov ps ts (jP ps ts r):=by
 refine⟨fun p _=>Fl.Bf p.1,fun t ht=>?_⟩
 have F:=rJ wk h
 have hz:t∈(l5 ps ts r).map (fun d=>(d.1,d.2.1)):=by rw[sf];exact ht
 obtain⟨d,hd,rfl⟩:=aL.mp hz
 obtain⟨z,hz2,rfl⟩:=aL.mp hd
 exact F.two z hz2
theorem AJ{ps ts:List (Int×Int)}{r:List Int}(wk:WebOk ps ts)(h:Rst ps ts r){y:Int->Int}(c:Cov ps ts y):kP ps (jP ps ts r)<=kP ps y:=by
 have:=(rJ wk h).least (y:=y) (fun n hn=>by obtain⟨p,hp,rfl⟩:=aL.mp hn;exact(c.b p hp).1) fun z hz=>c.t _ (tw_in z hz)
 rw[rS wk,rS wk]at this
 exact this
theorem AI{ps ts:List (Int×Int)}{r:List Int}(wk:WebOk ps ts)(h:Rst ps ts r){y:Int->Int}(c:Cov ps ts y)(hc:kP ps y<=kP ps (jP ps ts r)):∀p∈ps,jP ps ts r p.1≠1->y p.1=jP ps ts r p.1:=fun p hp=>by
 refine(rJ wk h).fixed (Co wk h) (fun n hn=>by obtain⟨p,hp,rfl⟩:=aL.mp hn;exact c.b p hp) (fun z hz=>c.t _ (tw_in z hz)) ?_ p.1 (aL.mpr ⟨p,hp,rfl⟩)
 rw[rS wk,rS wk]
 exact hc
theorem Au{a b:List Int}(h:a.Perm b):a.sum=b.sum:=by
 induction h with
 |nil=>rfl
 |cons x _ ih=>rw[List.sum_cons,List.sum_cons,ih]
 |swap x y l=>rw[List.sum_cons,List.sum_cons,List.sum_cons,List.sum_cons];lia
 |trans _ _ h1 h2=>rw[h1,h2]
theorem Fy{a b:List (Int×Int)}(h:a.Perm b)(y:Int->Int):kP a y=kP b y:=Au (h.map fun p:Int×Int=>p.2*y p.1)
noncomputable def fA(p:Nat->Int):Nat->Int×Int
 |0=>(p 0,0)
 |j+1=>(p (j+1)+min (fA p j).1 (fA p j).2,(fA p j).1)
theorem rH(p:Nat->Int)(j:Nat):fA p (j+1)=(p (j+1)+min (fA p j).1 (fA p j).2,(fA p j).1):=rfl
noncomputable def sM(p z:Nat->Int):Nat->Int
 |0=>0
 |m+1=>sM p z m+p m*z m
structure Tch(z:Nat->Int)(m:Nat):Prop where
 b:∀k,k<m->0<=z k/\z k<=2
 t:∀k,k+1<m->2<=z k+z (k+1)
noncomputable def lv(s:Int×Int)(v:Int):Int:=v*s.1+(2-v)*s.2
theorem l8(s:Int×Int):lv s 2=2*s.1:=by unfold lv;lia
theorem mH(s:Int×Int):lv s 0=2*s.2:=by unfold lv;lia
theorem qN(s:Int×Int):lv s 1=s.1+s.2:=by unfold lv;lia
theorem og{v:Int}(h:0<=v/\v<=2):v=0\/v=1\/v=2:=by lia
theorem uI{p z:Nat->Int}{n:Nat}(T:Tch z n):∀j,j<n->lv (fA p j) (z j)<=sM p z (j+1)
 |0,h=>by
  unfold fA sM sM
  rcases og (T.b 0 h)with e|e|e
  ·rw[e,mH];lia
  ·rw[e,qN];lia
  ·rw[e,l8];dsimp only;lia
 |j+1,h=>by
  have ih:=uI (p:=p) T j (by lia)
  have tt:=T.t j h
  rw[rH]
  rw[show sM p z (j+1+1)=sM p z (j+1)+p (j+1)*z (j+1)from rfl]
  rcases og (T.b (j+1) h)with e|e|e<;>rcases og (T.b j (by lia))with e'|e'|e'<;>rw[e,e']at tt<;>rw[e']at ih<;>rw[e]<;>simp only[mH,qN,l8]at ih ⊢ <;>lia
theorem qa{p z z':Nat->Int}:∀{m:Nat},(∀k,k<m->z k=z' k)->sM p z m=sM p z' m
 |0,_=>rfl
 |m+1,h=>by
  unfold sM
  rw[qa fun k hk=>h k (by lia),h m (by lia)]
theorem uH(p:Nat->Int):∀(j:Nat) (v:Int),v=0\/v=2->∃z,Tch z (j+1)/\z j=v/\sM p z (j+1)=lv (fA p j) v
 |0,v,hv=>by
  refine⟨fun _=>v,⟨fun k _=>by lia,fun k hk=>by lia⟩,rfl,?_⟩
  unfold sM sM fA
  rcases hv with rfl|rfl
  ·rw[mH];simp
  ·rw[l8];dsimp only;lia
 | j+1,v,hv=>by
  obtain⟨u,hu,h2,e2⟩:∃u:Int,(u=0\/u=2)/\2<=u+v/\lv (fA p (j+1)) v=lv (fA p j) u+p (j+1)*v:=by
   rw[rH]
   rcases hv with rfl|rfl
   ·exact⟨2,.inr rfl,by decide,by rw[mH,l8];dsimp only;lia⟩
   ·by_cases c:(fA p j).1<=(fA p j).2
    ·exact⟨2,.inr rfl,by decide,by rw[l8,l8];dsimp only;lia⟩
    ·exact⟨0,.inl rfl,by decide,by rw[l8,mH];dsimp only;lia⟩
  obtain⟨z,T,zj,es⟩:=uH p j u hu
  refine⟨fun k=>if k=j+1 then v else z k,⟨fun k hk=>?_,fun k hk=>?_⟩,by dsimp only;rw[if_pos rfl],?_⟩
  ·try dsimp only
   split
   ·lia
   ·exact T.b k (by lia)
  ·try dsimp only
   rw[ak (by lia)]
   split
   ·rename_i c
    have:k=j:=by lia
    subst this
    rw[zj];exact h2
   ·exact T.t k (by lia)
  ·rw[show ∀f,sM p f (j+1+1)=sM p f (j+1)+p (j+1)*f (j+1)from fun _=>rfl]
   rw[qa (z':=z) fun k hk=>by rw[ak (by lia)],es,e2,aq rfl]
noncomputable def rv(n:Nat)(f:Nat->Int)(k:Nat):Int:=f (n-1-k)
theorem xW(p z:Nat->Int)(n:Nat):∀m,m<=n->sM p z n=sM p z (n-m)+sM (rv n p) (rv n z) m
 |0,_=>by unfold sM;simp[sM]
 |m+1,h=>by
  rw[xW p z n m (by lia)]
  obtain⟨k,e⟩:∃k,n-m=k+1:=⟨n-m-1,by lia⟩
  rw[e,show n-(m+1)=k by lia]
  show sM p z k+p k*z k+_=sM p z k+(_+rv n p m*rv n z m)
  unfold rv
  rw[show n-1-m=k by lia]
  lia
theorem yJ(p z:Nat->Int){n j:Nat}(h:j<n):sM p z n=sM p z (j+1)+sM (rv n p) (rv n z) (n-1-j+1)-p j*z j:=by
 have:=xW p z n (n-j) (by lia)
 rw[show n-(n-j)=j by lia,show n-j=n-1-j+1 by lia]at this
 rw[this]
 show _=sM p z j+p j*z j+_-_
 lia
theorem Tch.rv{z:Nat->Int}{n:Nat}(T:Tch z n):Tch (rv n z) n:=by
 refine⟨fun k hk=>T.b _ (by lia),fun k hk=>?_⟩
 have:=T.t (n-1-(k+1)) (by lia)
 rw[show n-1-(k+1)+1=n-1-k by lia]at this
 show 2<=z (n-1-k)+z (n-1-(k+1))
 lia
noncomputable def wI(p:Nat->Int)(n j:Nat):Int:=(fA p j).1+(fA (rv n p) (n-1-j)).1-p j
noncomputable def wO(p:Nat->Int)(n j:Nat):Int:=(fA p j).2+(fA (rv n p) (n-1-j)).2
theorem Dx{p z:Nat->Int}{n j:Nat}(T:Tch z n)(h:j<n):lv (wI p n j,wO p n j) (z j)<=sM p z n:=by
 have a:=uI (p:=p) T j h
 have b:=uI (p:=rv n p) T.rv (n-1-j) (by lia)
 rw[show rv n z (n-1-j)=z j by unfold My.rv;rw[show n-1-(n-1-j)=j by lia]]at b
 rw[yJ p z h]
 unfold wI wO
 rcases og (T.b j h)with e|e|e<;>rw[e]at a b ⊢ <;>simp only[mH,qN,l8]at a b ⊢ <;>lia
theorem Dw(p:Nat->Int){n j:Nat}(h:j<n){v:Int}(hv:v=0\/v=2):∃z,Tch z n/\z j=v/\sM p z n=lv (wI p n j,wO p n j) v:=by
 obtain⟨z1,T1,e1,s1⟩:=uH p j v hv
 obtain⟨z2,T2,e2,s2⟩:=uH (rv n p) (n-1-j) v hv
 have key:∀k,j<=k->(if k<=j then z1 k else z2 (n-1-k))=z2 (n-1-k):=fun k hk=>by
  by_cases c:k=j
  ·subst c;rw[aq (ai _),e1,e2]
  ·rw[ak (by lia)]
 refine⟨fun k=>if k<=j then z1 k else z2 (n-1-k),⟨fun k hk=>?_,fun k hk=>?_⟩,by dsimp only;rw[if_pos (Nat.le_refl _),e1],?_⟩
 ·try dsimp only
  split
  ·exact T1.b k (by lia)
  ·exact T2.b _ (by lia)
 ·by_cases c:k<j
  ·try dsimp only
   rw[aq (by lia),aq (by lia)]
   exact T1.t k (by lia)
  ·try dsimp only
   rw[key k (by lia),key (k+1) (by lia)]
   have:=T2.t (n-1-(k+1)) (by lia)
   rw[show n-1-(k+1)+1=n-1-k by lia]at this
   lia
 ·rw[yJ p _ h,qa (p:=p) (z':=z1) (m:=j+1) fun k hk=>by rw[aq (by lia)],qa (p:=rv n p) (z':=z2) fun k hk=>?_,s1,s2]
  ·try dsimp only
   rw[aq (ai _),e1]
   unfold wI wO
   rcases hv with rfl|rfl
   ·simp only[mH];lia
   ·simp only[l8];lia
  ·show(if n-1-k<=j then _ else _)=_
   rw[key _ (by lia),show n-1-(n-1-k)=k by lia]
noncomputable def i7(ss:List (Int×Int))(k:Nat):Int:=(ss.getD k (0,0)).1
noncomputable def iP(ss:List (Int×Int))(k:Nat):Int:=(ss.getD k (0,0)).2
noncomputable def mm(ss:List (Int×Int))(k:Nat):Int×Int:=(min (i7 ss k) (i7 ss (k+1)),max (i7 ss k) (i7 ss (k+1)))
noncomputable def l6(ss:List (Int×Int)):List (Int×Int):=(List.range (ss.length-1)).map (mm ss)
noncomputable def lC(ss:List (Int×Int))(k:Nat):Int:=if wI (iP ss) ss.length k<wO (iP ss) ss.length k then 2 else if wO (iP ss) ss.length k<wI (iP ss) ss.length k then 0 else 1
theorem l7{ss:List (Int×Int)}{k:Nat}(h:k<ss.length):ss[k]? =some (ss.getD k (0,0)):=by
 rw[aC,gE h];rfl
theorem B2{ss:List (Int×Int)}{q:Int×Int}(h:q∈ss):∃k,k<ss.length/\q=ss.getD k (0,0):=by
 obtain⟨k,hk⟩:=List.getElem?_of_mem h
 have l:=(au.mp hk).1
 exact⟨k,l,az (hk.symm.trans (l7 l))⟩
theorem Bt(ss:List (Int×Int))(y:Int->Int):∀m,m<=ss.length->kP (ss.take m) y=sM (iP ss) (fun k=>y (i7 ss k)) m
 |0,_=>rfl
 |m+1,h=>by
  have ih:=Bt ss y m (by lia)
  have e:ss.take (m+1)=ss.take m++[ss.getD m (0,0)]:=jH (l7 (by lia))
  rw[e]
  unfold kP at ih ⊢
  rw[aj,bI,ih]
  show sM (iP ss) (fun k=>y (i7 ss k)) m+(iP ss m*y (i7 ss m)+0)=sM (iP ss) (fun k=>y (i7 ss k)) m+iP ss m*y (i7 ss m)
  rw[eA]
theorem pM{ss:List (Int×Int)}(nd:(ss.map (·.1)).Nodup){i j:Nat}(hi:i<ss.length)(hj:j<ss.length)(e:i7 ss i=i7 ss j):i=j:=by
 have g:∀k,k<ss.length->(ss.map (·.1))[k]? =some (i7 ss k):=fun k hk=>by rw[aE,l7 hk];rfl
 have hi':i<(ss.map (·.1)).length:=by rw[ae];exact hi
 have hj':j<(ss.map (·.1)).length:=by rw[ae];exact hj
 have ei:=g i hi
 have ej:=g j hj
 rw[gE hi']at ei
 rw[gE hj']at ej
 have ei:=az ei
 have ej:=az ej
 have pw:=bX.mp nd
 rcases Nat.lt_trichotomy i j with c|c|c
 ·exact absurd (by rw[ei,ej,e]) (pw i j hi' hj' c)
 ·exact c
 ·exact absurd (by rw[ei,ej,e]) (pw j i hj' hi' c)
open Classical in
theorem Dz{ss:List (Int×Int)}(nd:(ss.map (·.1)).Nodup)(z:Nat->Int):∃y:Int->Int,∀k,k<ss.length->y (i7 ss k)=z k:=by
 refine⟨fun x=>if h:∃k,k<ss.length/\i7 ss k=x then z h.choose else 0,fun k hk=>?_⟩
 have h:∃j,j<ss.length/\i7 ss j=i7 ss k:=⟨k,hk,rfl⟩
 try dsimp only
 rw[dif_pos h,pM nd h.choose_spec.1 hk h.choose_spec.2]
section
variable{ps ts ss:List (Int×Int)}
theorem vo{a b:List (Int×Int)}(h:a.Perm b)(nd:(a.map (·.1)).Nodup):(b.map (·.1)).Nodup:=(h.map (·.1)).nodup_iff.mp nd
theorem yk(pp:ps.Perm ss)(pt:ts.Perm (l6 ss)){y:Int->Int}:Cov ps ts y↔Tch (fun k=>y (i7 ss k)) ss.length:=by
 constructor
 ·intro c
  refine⟨fun k hk=>c.b _ (pp.mem_iff.mpr (ay (l7 hk))),fun k hk=>?_⟩
  have:=c.t (mm ss k) (pt.mem_iff.mpr (aL.mpr ⟨k,aU.mpr (by lia),rfl⟩))
  unfold mm at this
  dsimp only at this ⊢
  rcases Int.le_total (i7 ss k) (i7 ss (k+1))with l|l
  ·rw[h9 l,g9 l]at this;exact this
  ·rw[g6 l,ic l]at this;lia
 ·intro T
  refine⟨fun p hp=>?_,fun t ht=>?_⟩
  ·obtain⟨k,hk,rfl⟩:=B2 (pp.mem_iff.mp hp)
   exact T.b k hk
  ·obtain⟨k,hk,rfl⟩:=aL.mp (pt.mem_iff.mp ht)
   have:=T.t k (by have:=aU.mp hk;lia)
   unfold mm
   dsimp only at this ⊢
   rcases Int.le_total (i7 ss k) (i7 ss (k+1))with l|l
   ·rw[h9 l,g9 l];exact this
   ·rw[g6 l,ic l];lia
theorem zk(pp:ps.Perm ss)(y:Int->Int):kP ps y=sM (iP ss) (fun k=>y (i7 ss k)) ss.length:=by
 rw [Fy pp,<- Bt ss y _ (ai _),aR]
theorem As(wk:WebOk ps ts)(pp:ps.Perm ss)(pt:ts.Perm (l6 ss)){j:Nat}(hj:j<ss.length){v:Int}(hv:v=0\/v=2):∃y,Cov ps ts y/\y (i7 ss j)=v/\kP ps y=lv (wI (iP ss) ss.length j,wO (iP ss) ss.length j) v:=by
 obtain⟨z,T,e,s⟩:=Dw (iP ss) hj hv
 obtain⟨y,hy⟩:=Dz (vo pp wk.p.nodup) z
 refine⟨y,(yk pp pt).mpr ⟨fun k hk=>?_,fun k hk=>?_⟩,by rw[hy j hj,e],?_⟩
 ·try dsimp only
  rw[hy k hk];exact T.b k hk
 ·try dsimp only
  rw[hy k (by lia),hy (k+1) hk];exact T.t k hk
 ·rw [zk pp,<- s]
  exact qa fun k hk=>hy k hk
theorem AZ{r:List Int}(wk:WebOk ps ts)(h:Rst ps ts r)(pp:ps.Perm ss)(pt:ts.Perm (l6 ss)){j:Nat}(hj:j<ss.length):jP ps ts r (i7 ss j)=lC ss j/\kP ps (jP ps ts r)=2*min (wI (iP ss) ss.length j) (wO (iP ss) ss.length j):=by
 have ct:=zm wk h
 have low:=Dx (p:=iP ss) ((yk pp pt).mp ct) hj
 rw [<- zk pp] at low
 have hm:ss.getD j (0,0)∈ps:=pp.mem_iff.mpr (ay (l7 hj))
 have hb:=ct.b _ hm
 obtain⟨y2,c2,e2,s2⟩:=As wk pp pt hj (v:=2) (.inr rfl)
 obtain⟨y0,c0,e0,s0⟩:=As wk pp pt hj (v:=0) (.inl rfl)
 have l2:=AJ wk h c2
 have l0:=AJ wk h c0
 have f2:=AI wk h c2
 have f0:=AI wk h c0
 rw[l8]at s2
 rw[mH]at s0
 unfold lC
 generalize wI (iP ss) ss.length j=I at*
 generalize wO (iP ss) ss.length j=O at*
 have hE:jP ps ts r (i7 ss j)=jP ps ts r (ss.getD j (0,0)).1:=rfl
 have e2:y2 (ss.getD j (0,0)).1=2:=e2
 have e0:y0 (ss.getD j (0,0)).1=0:=e0
 have f2:=fun q=>f2 q _ hm
 have f0:=fun q=>f0 q _ hm
 rw[e2]at f2
 rw[e0]at f0
 rw[hE]
 dsimp only at low s2 s0
 rw[hE]at low
 rw[s2]at l2 f2
 rw[s0]at l0 f0
 generalize jP ps ts r (ss.getD j (0,0)).1=v at*
 generalize kP ps (jP ps ts r)=c at*
 rcases og hb with e|e|e
 ·subst e
  rw[mH]at low
  dsimp only at low
  have f2:=fun q=>f2 q (by decide)
  split<;>try split
  all_goals first|lia|(have:2*I<=c:=by lia);first|(have:=f2 this;lia)|lia
 ·subst e
  rw[qN]at low
  dsimp only at low
  split<;>try split
  all_goals lia
 ·subst e
  rw[l8]at low
  dsimp only at low
  have f0:=fun q=>f0 q (by decide)
  split<;>try split
  all_goals first|lia|(have:2*O<=c:=by lia);first|(have:=f0 this;lia)|lia
end
theorem Dk{a b c d:Int}(h0:0<=d)(h1:d<3):∃v,jl [V.int a,.int b,.int c] d=some (.int v)/\(v=a\/v=b\/v=c):=by
 have hd:d=0\/d=1\/d=2:=by lia
 rcases hd with rfl|rfl|rfl
 ·exact⟨a,jm,.inl rfl⟩
 ·exact⟨b,jK,.inr (.inl rfl)⟩
 ·exact⟨c,wq,.inr (.inr rfl)⟩
theorem EG(s:List Int)(k:Nat)(n:Int):(s.take k++n::s.drop k).Perm (n::s):=by
 have:=List.perm_middle (a:=n) (l₁:=s.take k) (l₂:=s.drop k)
 rw[cc]at this
 exact this
theorem But.free{s:Addr}{H H':Hp}(b:But s H H'){a:Addr}(ns:a≠s)(h:H' a=none):H a=none:=by
 cases e:H a with
 |none=>rfl
 |some u=>rw[b _ _ ns e]at h;cases h
theorem HW{s:List Int}{k:Int}{n:Int}:(s.map V.int).take k.toNat++V.int n::(s.map V.int).drop k.toNat=(s.take k.toNat++n::s.drop k.toNat).map V.int:=by
 rw[aj,ag,List.map_take,List.map_drop]
theorem But.updf{s p:Addr}{o':HO}(b:But s H H')(h:H p=none):But s H (L2.upd H' p o'):=fun c u n e=>by rw[iL (iX e h)];exact b c u n e
theorem But.same{s:Addr}{H2:Hp}(b:But s H H')(q:Same H' H2):But s H H2:=fun c u n e=>q _ _ (b c u n e)
theorem Dj{a b c e f d:Int}(h0:0<=d)(h1:d<5):∃v,jl [V.int a,.int b,.int c,.int e,.int f] d=some (.int v)/\(v=a\/v=b\/v=c\/v=e\/v=f):=by
 have hd:d=0\/d=1\/d=2\/d=3\/d=4:=by lia
 rcases hd with rfl|rfl|rfl|rfl|rfl
 ·exact⟨a,rfl,.inl rfl⟩
 ·exact⟨b,rfl,.inr (.inl rfl)⟩
 ·exact⟨c,rfl,.inr (.inr (.inl rfl))⟩
 ·exact⟨e,rfl,.inr (.inr (.inr (.inl rfl)))⟩
 ·exact⟨f,rfl,.inr (.inr (.inr (.inr rfl)))⟩
structure StrOk(ss:List (Int×Int)):Prop where
 l1:1<=ss.length
 l40:ss.length<=40
 nd:(ss.map (·.1)).Nodup
 b:∀p∈ss,0<=p.1/\p.1<=919/\1<=p.2/\p.2<=1000000000000
 s:(ss.map (·.2)).sum<=1000000000000
def zN:Sp:=fun vs H Q _=>∃s o,vs=[.ref s]/\H s=some o/\StO o/\∀sl xs ss H' o',But s H H'->H' s=some o'->StO o'->H sl=none->H' sl=some (.lst xs)->Prs H' xs ss->StrOk ss->Q (.ref sl) H'
theorem Ee{v B:Int}{n:Nat}:∀{ss:List (Int×Int)},(∀p∈ss,p.2<=v)->ss.length<=n->0<=v->v*(n:Int)<=B->(ss.map (·.2)).sum<=B:=by
 have aux:∀{ss:List (Int×Int)},(∀p∈ss,p.2<=v)->(ss.map (·.2)).sum<=v*(ss.length:Int):=by
  intro ss
  induction ss with
  |nil=>intro _;simp
  |cons a r ih=>
   intro h
   have h1:=h a (aM ..)
   have h2:=ih fun n hn=>h n (aF _ hn)
   rw[ag,List.sum_cons,List.length_cons,show v*((r.length+1:Nat):Int)=v*(r.length:Int)+v by rw[Int.natCast_add,dF];simp]
   lia
 intro ss h hl h0 hB
 have h1:=aux h
 have h2:v*(ss.length:Int)<=v*(n:Int):=Int.mul_le_mul_of_nonneg_left (by lia) h0
 lia
theorem Hi(B:Blt mg)(D:DefAt K mg "_law_string" (iG 42) ["_law_state"] f fd)(Dqb:DefAt K mg "_law_take" (iG 41) ["_law_state","_law_many"] fqb dqb)(Gqb:FnOk P w K mg base iK 1 fqb dqb ["_law_state","_law_many"] uq):FnOk P w K mg base iK 3 f fd ["_law_state"] zN:=by
 have sc:FnScope ["_law_state","_law_count","_law_number","_law_numbers","_law_k","_law_order","_law_great"] ["_law_state"] (jb (iG 42)):=by walk_at "SC"
 refine D.F.ok sc (fun vs H Q E h=>?_) (fun cdv A outer s H vs Q E hr h=>?_)
 ·obtain⟨s,o,rfl,_⟩:=h
  rfl
 obtain⟨st,o,rfl,es,so,h⟩:=h
 have hu:=jh hr
 have hu0:_<PySem.cLine:=av hu
 refine⟨_,(iH (iT (i:=1) sc.nd rfl (Or.inl rfl) (iR jv iE (i9 Gqb (hr.mono (by decide)) rfl Dqb.m Dqb.F.kp Dqb.b .nil iW (iw (qv 0) (iw iE iC))))) (iH (iT (i:=2) sc.nd rfl (Or.inl rfl) (ng ni iE)) (iH (iT (i:=3) sc.nd rfl (Or.inl rfl) (ki iC)) (iH (kR bo rfl (se rfl B.range (iw (qv 1) iC)) (iV (i:=4) sc.nd rfl (Or.inl rfl)) (iH (iT (i:=2) sc.nd rfl (Or.inl rfl) (iR jv (iR jv (qv 2) iE) (i9 Gqb (hr.mono (by decide)) rfl Dqb.m Dqb.F.kp Dqb.b .nil iW (iw (qv 0) (iw (iM iN (ki (iw iE (iw iE (iw iE iC)))) (i9 Gqb (hr.mono (by decide)) rfl Dqb.m Dqb.F.kp Dqb.b .nil iW (iw (qv 0) (iw iE iC))) (fun _ _=>rfl)) iC))))) (iO (ke (kY aX aZ aY lr (qv 3) (iw (qv 2) iC)))))) (iH (j0 (kH qH (i9 Gqb (hr.mono (by decide)) rfl Dqb.m Dqb.F.kp Dqb.b .nil iW (iw (qv 0) (iw iE iC))) iE (jz _)) (iH (iT (i:=5) sc.nd rfl (Or.inl rfl) (ki iC)) (iH (kR bo rfl (kc (qv 3)) (iV (i:=2) sc.nd rfl (Or.inl rfl)) (iO (ke (kY aX PySem.F.slot_list_insert PySem.F.type_list_insert CL (qv 5) (iw (i9 Gqb (hr.mono (by decide)) rfl Dqb.m Dqb.F.kp Dqb.b .nil iW (iw (qv 0) (iw (iR jv (jf k6 rfl B.len bw (iw (qv 5) iC)) iE) iC))) (iw (qv 2) iC)))))) (iO (iT (i:=3) sc.nd rfl (Or.inl rfl) (qv 5))))) j6) (iH (iT (i:=6) sc.nd rfl (Or.inr rfl) (iM iN (ki (iw iE (iw iE (iw iE (iw (iR qX iE iE) (iw (iR yH (iR qX iE iE) (qv 1)) iC)))))) (i9 Gqb (hr.mono (by decide)) rfl Dqb.m Dqb.F.kp Dqb.b .nil iW (iw (qv 0) (iw iE iC))) (fun _ _=>rfl))) (iO (jc (kI (CpScope.of (N:=["_law_number","_law_state","_law_great"]) (src:=[none,some 0,some 6]) (by rfl)) rfl (kc (qv 3)) (fun _ _ _ _=>(iV (i:=0) (jn (l:=["_law_number","_law_state","_law_great"]) (by rfl)) rfl (Or.inl rfl))) (fun _ _ _ _=>kJ) (fun _ _ _ _=>(jJ (iw (qv 0) (iw (iR jv iE (i9 Gqb (hr.mono (by decide)) rfl Dqb.m Dqb.F.kp Dqb.b .nil iW (iw (qv 1) (iw (qv 2) iC)))) iC))))))))))))),?_⟩
 refine iQ fun R hR=>?_
 walk_at "D"
 refine⟨st,o,40,rfl,es,so,by decide,by decide,fun d1 o1 d10 d11 so1=>?_⟩
 have b1:But st H (upd H st o1):=But.at _ _ _
 have e1:upd H st o1 st=some o1:=iD
 generalize upd H st o1=H1 at b1 e1
 obtain⟨n,hn⟩:∃n:Nat,(1:Int)+d1=(n:Int):=⟨(1+d1).toNat,by lia⟩
 try simp only[hn]
 have hn1:1<=n:=by lia
 have hn40:n<=40:=by lia
 clear hn d10 d11
 subst hR
 refine iQ fun R hR=>?_
 walk_at "D"
 subst hR
 refine iQ fun R hR=>?_
 walk_at "D"
 intro nl hnl
 have q2:=iI hnl (.lst [])
 have b2:=b1.same q2
 have e2:=q2 _ _ e1
 have en2:upd H1 nl (.lst []) nl=some (.lst ((([]:List Int)).map V.int)):=iD
 have nn:nl≠st:=(iX e1 hnl).symm
 have fnl:H nl=none:=b1.free nn hnl
 generalize upd H1 nl (.lst [])=H2 at b2 e2 en2
 clear q2 hnl b1 e1
 subst hR
 refine iQ fun R hR=>?_
 refine lu (lZ 0 n) H2 (fun R' hR'=>?_) (rZ (n:=n) (fun i σ Hc=>∃num w4 ns o',σ=[some (.ref st),some (.int (n:Int)),some (.int num),some (.ref nl),w4,none,none]/\But st H Hc/\Hc st=some o'/\StO o'/\Hc nl=some (.lst (ns.map V.int))/\ns.length=i/\ns.Nodup/\(∀x∈ns,0<=x/\x<=num)/\-1<=num/\num<= -1+23*(i:Int)) ⟨-1,none,[],o1,rfl,b2,e2,so1,en2,rfl,eS,fun x hx=>(by cases hx),by lia,by lia⟩ ?_ ?_)
 ·unfold pH
  walk_at "D"
  exact⟨_,rfl,by lia,by lia,by simpa using hR'⟩
 ·rintro i σ Hc hi ⟨num,w4,ns,o',rfl,bc,ec,so',en,hl,nd,hb,h1,h2⟩
  simp only[mK,List.set_cons_zero,List.set_cons_succ]
  refine iQ fun R9 hR9=>?_
  walk_at "D"
  intro p1 hp1
  have np:p1≠st:=(iX ec hp1).symm
  refine⟨st,o',3,rfl,(by rw[iL np.symm];exact ec),so',by decide,by decide,fun d4 o4 d40 d41 so4=>?_⟩
  obtain⟨v,ev,v0,v1⟩:∃v,jl [V.int 1,.int 2,.int 23] d4=some (.int v)/\1<=v/\v<=23:=by
   obtain⟨v,ev,hv⟩:=Dk (a:=1) (b:=2) (c:=23) d40 d41
   exact⟨v,ev,by lia,by lia⟩
  simp_arith[iS,iL np,iD,ev]
  refine⟨st,o4,v,rfl,iD,so4,by lia,by lia,fun d5 o5 d50 d51 so5=>?_⟩
  simp_arith[zc]
  have b5:But st Hc (upd (upd Hc p1 (.lst [.int 1,.int 2,.int 23])) st o5):=(But.new hp1).trans (But.at _ _ _)
  have e5:(upd (upd Hc p1 (.lst [.int 1,.int 2,.int 23])) st o5) st=some o5:=iD
  generalize upd (upd Hc p1 (.lst [.int 1,.int 2,.int 23])) st o5=H5 at b5 e5
  have en5:=b5 _ _ nn en
  have bc5:=bc.trans b5
  subst hR9
  walk_at "D"
  refine⟨⟨nl,_,rfl,en5⟩,?_⟩
  simp_arith[en5]
  refine⟨by rw[ae];exact jr (by lia),_,_,ns++[num+1+d5],o5,rfl,bc5.updf fnl,by rw[iL nn.symm];exact e5,so5,by rw[iD,aj];rfl,by rw[aB,hl];rfl,?_,fun x hx=>?_,by lia,by lia⟩
  ·refine fj.mpr ⟨nd,bt.mpr ⟨List.not_mem_nil,eS⟩,fun a ha b hb'=>?_⟩
   rw[aV.mp hb']
   have:=hb a ha
   lia
  ·rcases bu.mp hx with hx|hx
   ·have:=hb x hx;lia
   ·rw[aV.mp hx];lia
 rintro σ H3 ⟨num,w4,ns,o3,rfl,b3,e3,so3,en3,hl,nd,hb,h1,h2⟩
 have hb':∀x∈ns,0<=x/\x<=919:=fun x hx=>by have:=hb x hx;lia
 clear hb h1 h2 b2 e2 en2 so1
 refine(?_:R _ _ _)
 subst hR
 refine iQ fun R hR=>?_
 walk_at "D"
 refine⟨st,o3,2,rfl,e3,so3,by decide,by decide,fun d2 o2 d20 d21 so2=>?_⟩
 have b4:But st H (upd H3 st o2):=b3.trans (But.at _ _ _)
 have e4:upd H3 st o2 st=some o2:=iD
 have en4:upd H3 st o2 nl=some (.lst (ns.map V.int)):=by rw[iL nn];exact en3
 generalize upd H3 st o2=H4 at b4 e4 en4
 clear b3 e3 en3
 have J:∀(nl:Addr) (ns:List Int) (w2 w4 w5:Option V) (Hc:Hp) (o':HO),But st H Hc->Hc st=some o'->StO o'->H nl=none->nl≠st->Hc nl=some (.lst (ns.map V.int))->ns.length=n->ns.Nodup->(∀x∈ns,0<=x/\x<=919)->R {nx:=fun _ H'=>Q V.non H',rt:=Q} [some (.ref st),some (.int (n:Int)),w2,some (.ref nl),w4,w5,none] Hc:=by
  clear en4 e4 b4 hl nd hb' nn fnl
  intro nl ns w2 w4 w5 Hc o' bc ec so' fnl nn en hl nd hb
  subst hR
  refine iQ fun R hR=>?_
  walk_at "D"
  refine⟨⟨by decide,by decide,by decide⟩,⟨by decide,by decide,by decide⟩,⟨by lia,by lia⟩,by decide,?_⟩
  intro p1 hp1
  have np:p1≠st:=(iX ec hp1).symm
  refine⟨st,o',5,rfl,(by rw[iL np.symm];exact ec),so',by decide,by decide,fun d4 o4 d40 d41 so4=>?_⟩
  have e12:(10:Int)^Int.toNat 12=1000000000000:=by decide
  have e10:(10:Int)^Int.toNat 10=10000000000:=by decide
  simp only[e12,e10]
  obtain⟨v,ev,v0,v1,v2⟩:∃v,jl [V.int 1,.int 3,.int 9,.int 10000000000,.int (1000000000000/(n:Int))] d4=some (.int v)/\1<=v/\v<=1000000000000/\v*(n:Int)<=1000000000000:=by
   obtain⟨v,ev,hv⟩:=Dj (a:=1) (b:=3) (c:=9) (e:=10000000000) (f:=1000000000000/(n:Int)) d40 d41
   have h1:(1000000000000/(n:Int))*(n:Int)<=1000000000000:=Int.ediv_mul_le _ (by lia)
   have h2:1<=1000000000000/(n:Int):=by
    rw[Int.le_ediv_iff_mul_le (by lia)]
    lia
   have h3:1000000000000/(n:Int)<=1000000000000:=Int.ediv_le_self _ (by decide)
   refine⟨v,ev,?_⟩
   rcases hv with rfl|rfl|rfl|rfl|rfl
   all_goals first|exact⟨h2,h3,h1⟩|exact⟨by lia,by lia,by lia⟩
  simp_arith[iS,iL np,iD,ev]
  have b5:But st Hc (upd (upd Hc p1 (.lst [.int 1,.int 3,.int 9,.int 10000000000,.int (1000000000000/(n:Int))])) st o4):=(But.new hp1).trans (But.at _ _ _)
  have e5:(upd (upd Hc p1 (.lst [.int 1,.int 3,.int 9,.int 10000000000,.int (1000000000000/(n:Int))])) st o4) st=some o4:=iD
  generalize upd (upd Hc p1 (.lst [.int 1,.int 3,.int 9,.int 10000000000,.int (1000000000000/(n:Int))])) st o4=H5 at b5 e5
  have en5:=b5 _ _ nn en
  have bc5:=bc.trans b5
  clear e12 e10 ev en bc b5 hp1 np
  subst hR
  walk_at "D"
  refine kE (jI K nl) H5 (fun R2 hR2=>?_) (fun z hz0=>kz ns.length (fun j σ' Hd=>∃w1 vs ss o',σ'=[w1,some (.ref st),some (.int v)]/\But st H Hd/\Hd st=some o'/\StO o'/\Hd nl=some (.lst (ns.map V.int))/\Hd z=some (.lst vs)/\Prs Hd vs ss/\ss.map (·.1)=ns.take j/\∀p∈ss,1<=p.2/\p.2<=v) ⟨none,[],[],o4,rfl,bc5.same (iI hz0 _),(iI hz0 _) _ _ e5,so4,(iI hz0 _) _ _ en5,iD,.nil,rfl,fun p hp=>(by cases hp)⟩ ?_ ?_)
  ·unfold jZ
   walk_at "D"
   exact⟨nl,rfl,⟨_,SqL.of en5⟩,hR2⟩
  ·rintro j σ' Hd hj ⟨w1,vs,ss,o9,rfl,b6,e6,so6,en6,ez,pz,hm,hp⟩
   have x1:ns[j]? =some ns[j]:=gE hj
   generalize ns[j]=m at x1
   have z1:SqL K Hd nl (ns.map V.int):=SqL.of en6
   have x2:(ns.map V.int)[j]? =some (.int m):=by rw[aE,x1];rfl
   refine⟨⟨_,_,z1,x2⟩,?_⟩
   rintro y H' ⟨rfl,hy'⟩
   have:=hy' _ z1
   rw[x2]at this
   cases this
   walk_at "D"
   refine⟨st,o9,v,rfl,e6,so6,by lia,by lia,fun d7 o7 d70 d71 so7=>?_⟩
   have nz:z≠st:=(iX e5 hz0).symm
   have b7:But st H (upd H' st o7):=b6.trans (But.at _ _ _)
   have e7:upd H' st o7 st=some o7:=iD
   have pz7:=Prs.tups ((But.at st H' o7).tups e6 so6.imm) pz
   have ez7:upd H' st o7 z=some (.lst vs):=by rw[iL nz];exact ez
   have en7:upd H' st o7 nl=some (.lst (ns.map V.int)):=by rw[iL nn];exact en6
   generalize upd H' st o7=H7 at b7 e7 pz7 ez7 en7
   walk_at "D"
   intro t ht
   have q8:=iI ht (.tup [.int m,.int (1+d7)])
   have et:upd H7 t (.tup [.int m,.int (1+d7)]) t=some (.tup [.int m,.int (1+d7)]):=iD
   have b8:=b7.same q8
   have ez8:=q8 _ _ ez7
   have e8:=q8 _ _ e7
   have en8:=q8 _ _ en7
   have pz8:=Prs.same q8 pz7
   generalize upd H7 t (.tup [.int m,.int (1+d7)])=H8 at et b8 ez8 e8 en8 pz8
   have hvl:vs.length<=j:=by
    rw [aw pz,<- ae (f:=fun q:Int × Int=>q.1),hm,aK]
    exact Nat.min_le_left _ _
   have fz:H z=none:=(bc5.free nz hz0)
   have t9:=kW (ys:=vs++[.ref t]) ez8
   have nnz:nl≠z:=iX en5 hz0
   refine⟨vs,ez8,jr (by lia),_,vs++[.ref t],ss++[(m,1+d7)],o7,rfl,b8.updf fz,by rw[iL nz.symm];exact e8,so7,by rw[iL nnz];exact en8,iD,kF (Prs.tups t9 pz8) ⟨t,rfl,t9 _ _ rfl et⟩,?_,fun p hp'=>?_⟩
   ·rw[aj,hm,jH x1];rfl
   ·rcases bu.mp hp' with hp'|hp'
    ·exact hp p hp'
    ·rw[List.mem_singleton.mp hp'];dsimp only;lia
  ·rintro σ' H6 ⟨w1,vs,ss,o6,rfl,b6,e6,so6,en6,ez,pz,hm,hp⟩
   refine⟨⟨_,SqL.of en6,by rw[ae];lia⟩,?_⟩
   rw[aR]at hm
   have hsl:ss.length = n:=by rw [<- hl,<- hm,ae]
   have fz:H z=none:=(bc5.free (iX e5 hz0).symm hz0)
   refine h z vs ss H6 o6 b6 e6 so6 fz ez pz ⟨by lia,by lia,by rw[hm];exact nd,fun p hp'=>?_,Ee (v:=v) (n:=n) (fun p hp'=>(hp p hp').2) (by lia) (by lia) v2⟩
   have h1:=hp p hp'
   have h2:=hb p.1 (by rw [<- hm]; exact bP hp')
   lia
 walk_at "D"
 refine oa (fun c=>?_) (fun c=>?_)
 ·intro ol hol
  have q5:=iI hol (.lst [])
  have b5:=b4.same q5
  have e5:=q5 _ _ e4
  have en5:=q5 _ _ en4
  have eo5:upd H4 ol (.lst []) ol=some (.lst ((([]:List Int)).map V.int)):=iD
  have no:ol≠st:=(iX e4 hol).symm
  have nno:nl≠ol:=iX en4 hol
  have fol:H ol=none:=b4.free no hol
  generalize upd H4 ol (.lst [])=H5 at b5 e5 en5 eo5
  refine lu (jI K nl) H5 (fun R' hR'=>?_) (nA (K:=K) (a:=nl) (xs:=ns.map V.int) (fun i σ Hc=>∃w2 w4 os o',σ=[some (.ref st),some (.int (n:Int)),w2,some (.ref nl),w4,some (.ref ol),none]/\But st H Hc/\Hc st=some o'/\StO o'/\Hc nl=some (.lst (ns.map V.int))/\Hc ol=some (.lst (os.map V.int))/\os.Perm (ns.take i)) ⟨_,_,[],o2,rfl,b5,e5,so2,en5,eo5,by rw[List.take_zero]⟩ (fun i σ Hc _ ⟨_,_,_,_,_,_,_,_,z,_⟩=>SqL.of z) ?_ ?_)
  ·unfold jZ
   walk_at "D"
   exact⟨nl,rfl,⟨_,SqL.of en5⟩,hR'⟩
  ·rintro i y σ Hc hy ⟨w2,w4,os,o',rfl,bc,ec,so',en,eo,pm⟩
   rw[aE]at hy
   obtain⟨m,hm,rfl⟩:=dj.mp hy
   have hil:i<ns.length:=(au.mp hm).1
   have hol':os.length=i:=by rw[pm.length_eq,aK];lia
   simp only[mK,List.set_cons_zero,List.set_cons_succ]
   walk_at "D"
   refine⟨⟨ol,_,rfl,eo⟩,?_⟩
   simp_arith[iS,eo,ae]
   refine⟨st,o',(os.length:Int)+1,rfl,ec,so',by lia,by lia,fun d7 o7 d70 d71 so7=>?_⟩
   have b7:But st H (upd Hc st o7):=bc.trans (But.at st Hc o7)
   have e7:upd Hc st o7 st=some o7:=iD
   have en7:upd Hc st o7 nl=some (.lst (ns.map V.int)):=by rw[iL nn];exact en
   have eo7:upd Hc st o7 ol=some (.lst (os.map V.int)):=by rw[iL no];exact eo
   generalize upd Hc st o7=H7 at b7 e7 en7 eo7
   try unfold pE
   try dsimp only
   rw[eo7]
   try dsimp only
   rw[HW]
   refine⟨⟨d70,by rw[ae];lia,by rw[ae];lia⟩,_,_,os.take d7.toNat++m::os.drop d7.toNat,o7,rfl,b7.updf fol,by rw[iL no.symm];exact e7,so7,by rw[iL nno];exact en7,iD,?_⟩
   rw[jH hm]
   exact(EG os d7.toNat m).trans ((pm.cons m).trans (cQ (l₁:=[m])))
  ·rintro σ Hc ⟨w2,w4,os,o',rfl,bc,ec,so',en,eo,pm⟩
   rw[ae,aR]at pm
   walk_at "D"
   exact J ol os _ _ _ Hc o' bc ec so' fol no eo (by rw[pm.length_eq,hl]) (pm.nodup_iff.mpr nd) fun x hx=>hb' x (pm.mem_iff.mp hx)
 ·exact J nl ns _ _ _ H4 o2 b4 e4 so2 fnl nn en4 hl nd hb'
theorem xp{c l:Int}:(if l<c then l else c)=min c l:=by split<;>lia
theorem Dh{c l:Int}:(if l>c then l else c)=max c l:=by split<;>lia
def yY:Sp:=fun vs H Q _=>∃sl xs ss,vs=[.ref sl]/\H sl=some (.lst xs)/\Prs H xs ss/\StrOk ss/\∀w H' ps ts,Same H H'->jd3 H' (.ref w) ps ts->ps.Perm ss->ps.Pairwise lJ->ts.Perm (l6 ss)->ts.Pairwise lJ->Q (.ref w) H'
theorem vE{α:Type}(f:Nat->α)(m:Nat):(List.range (m+1)).map f=(List.range m).map f++[f m]:=by
 rw[bJ,aj];rfl
theorem qL{ss:List (Int×Int)}(K:StrOk ss){k:Nat}(h:k<ss.length):0<=i7 ss k/\i7 ss k<=919/\1<=iP ss k/\iP ss k<=1000000000000:=K.b _ (ay (l7 h))
theorem Hj(B:Blt mg)(D:DefAt K mg "_law_web_of" (iG 43) ["_law_string_here"] f fd):FnOk P w K mg base iK 1 f fd ["_law_string_here"] yY:=by
 have sc:FnScope ["_law_string_here","_law_ties","_law_k","_law_one","_law_other"] ["_law_string_here"] (jb (iG 43)):=by walk_at "SC"
 refine D.F.ok sc (fun vs H Q E h=>?_) (fun cdv A outer s H vs Q E hr h=>?_)
 ·obtain⟨sl,xs,ss,rfl,_⟩:=h
  rfl
 obtain⟨sl,xs,ss,rfl,el,px,SK,h⟩:=h
 have hxl:=aw px
 have hu:=jh hr
 have hu0:_<PySem.cLine:=av hu
 refine⟨_,(iH (iT (i:=1) sc.nd rfl (Or.inl rfl) (ki iC)) (iH (kR bo rfl (F3 rfl B.range (iw iE (iw (jf k6 rfl B.len bw (iw (qv 0) iC)) iC))) (iV (i:=2) sc.nd rfl (Or.inl rfl)) (iH (iT (i:=3) sc.nd rfl (Or.inl rfl) (iM iN (iM iN (qv 0) (iR qY (qv 2) iE) (fun _ _=>rfl)) iE (fun _ _=>rfl))) (iH (iT (i:=4) sc.nd rfl (Or.inl rfl) (iM iN (iM iN (qv 0) (qv 2) (fun _ _=>rfl)) iE (fun _ _=>rfl))) (iO (ke (kY aX aZ aY lr (qv 1) (iw (jJ (iw (jf (tQ rfl) rfl B.min dA (iw (qv 3) (iw (qv 4) iC))) (iw (jf (xj rfl) rfl B.max PyProof.Rows.boot_max (iw (qv 3) (iw (qv 4) iC))) iC))) iC))))))) (iO (jc (jJ (iw (jf vz rfl B.sorted dP (iw (qv 0) iC)) (iw (jf vz rfl B.sorted dP (iw (qv 1) iC)) iC))))))),?_⟩
 have l1:=SK.l1
 have l40:=SK.l40
 refine iQ fun R hR=>?_
 walk_at "D"
 intro tl htl
 have q1:=iI htl (.lst [])
 have et1:upd H tl (.lst []) tl=some (.lst []):=iD
 have el1:=q1 _ _ el
 have px1:=Prs.same q1 px
 generalize upd H tl (.lst [])=H1 at q1 et1 el1 px1
 subst hR
 refine iQ fun R hR=>?_
 refine lu (lZ 1 (ss.length-1)) H1 (fun R' hR'=>?_) (rZ (n:=ss.length-1) (fun i σ Hc=>∃w2 w3 w4 zs,σ=[some (.ref sl),some (.ref tl),w2,w3,w4]/\Same H Hc/\Hc sl=some (.lst xs)/\Prs Hc xs ss/\Hc tl=some (.lst zs)/\Prs Hc zs ((List.range i).map (mm ss))) ⟨none,none,none,[],rfl,q1,el1,px1,et1,.nil⟩ ?_ ?_)
 ·unfold Be
  simp_arith[iS,el1]
  refine⟨_,_,rfl,⟨by lia,by lia,by lia,by lia⟩,?_⟩
  rw[show((xs.length:Int)-1).toNat=ss.length-1 by lia]
  exact hR'
 ·rintro i σ Hc hi ⟨w2,w3,w4,zs,rfl,s2,elc,pxc,etc,pz⟩
  have k1:ss[i]? =some (ss.getD i (0,0)):=l7 (by lia)
  have k2:ss[1+i]? =some (ss.getD (i+1) (0,0)):=by rw[Nat.add_comm];exact l7 (by lia)
  obtain⟨x1,g1,p1⟩:=lX pxc k1
  obtain⟨x2,g2,p2⟩:=lX pxc k2
  obtain⟨b1,rfl,e1⟩:=p1
  obtain⟨b2,rfl,e2⟩:=p2
  have a1:jl xs (1+(i:Int)-1)=some (.ref b1):=by rw[show(1+(i:Int)-1)=(i:Int) by lia];exact ll g1
  have a2:jl xs (1+(i:Int))=some (.ref b2):=by rw[show(1+(i:Int))=((1+i:Nat):Int) by lia];exact ll g2
  have hzl:=aw pz
  rw[ae,bg]at hzl
  simp_arith[iS,elc,a1,a2,e1,e2,jm]
  rw[xp,Dh]
  refine⟨⟨tl,_,rfl,etc⟩,fun t ht=>?_⟩
  have q3:=iI ht (.tup [.int (min (i7 ss i) (i7 ss (i+1))),.int (max (i7 ss i) (i7 ss (i+1)))])
  have e3:upd Hc t (.tup [.int (min (i7 ss i) (i7 ss (i+1))),.int (max (i7 ss i) (i7 ss (i+1)))]) t=some (.tup [.int (min (i7 ss i) (i7 ss (i+1))),.int (max (i7 ss i) (i7 ss (i+1)))]):=iD
  have etl3:=q3 _ _ etc
  change match upd Hc t (.tup [.int (min (i7 ss i) (i7 ss (i+1))),.int (max (i7 ss i) (i7 ss (i+1)))]) tl with |some (HO.lst xs_1)=>_|_=>False
  rw[etl3]
  dsimp only
  have t4:=kW (ys:=zs++[.ref t]) etl3
  have nst:sl≠tl:=iX el htl
  refine⟨jr (by lia),_,_,_,zs++[.ref t],rfl,?_,?_,Prs.tups (q3.tups.trans t4) pxc,iD,?_⟩
  ·exact jD (s2.trans q3) htl
  ·rw[iL nst];exact q3 _ _ elc
  ·rw[vE]
   exact kF (Prs.tups t4 (Prs.same q3 pz)) ⟨t,rfl,t4 _ _ rfl e3⟩
 rintro σ H2 ⟨w2,w3,w4,zs,rfl,s2,el2,px2,et2,pz⟩
 have hzl:=aw pz
 rw[ae,bg]at hzl
 refine(?_:R _ _ _)
 subst hR
 walk_at "D"
 refine⟨sl,xs,ss,1000000000001,rfl,el2,px2,by lia,fun q hq=>by have:=SK.b q hq;lia,fun l3 ys ps h3 py pm pw=>?_⟩
 have q3:=iI h3 (.lst ys)
 have e3:upd H2 l3 (.lst ys) l3=some (.lst ys):=iD
 have py3:=Prs.same q3 py
 have et3:=q3 _ _ et2
 have pz3:=Prs.same q3 pz
 generalize upd H2 l3 (.lst ys)=H3 at q3 e3 py3 et3 pz3
 walk_at "D"
 refine⟨tl,zs,(List.range (ss.length-1)).map (mm ss),1000,rfl,et3,pz3,by lia,fun q hq=>?_,fun l4 us ts h4 pu tm tw=>?_⟩
 ·obtain⟨k,hk,rfl⟩:=aL.mp hq
  have hk:=aU.mp hk
  have h1:=qL SK (k:=k) (by lia)
  have h2:=qL SK (k:=k+1) (by lia)
  unfold mm
  dsimp only
  lia
 have q4:=iI h4 (.lst us)
 have e4:upd H3 l4 (.lst us) l4=some (.lst us):=iD
 have e34:=q4 _ _ e3
 have py4:=Prs.same q4 py3
 have pu4:=Prs.same q4 pu
 generalize upd H3 l4 (.lst us)=H4 at q4 e4 e34 py4 pu4
 walk_at "D"
 intro t5 h5
 have q5:=iI h5 (.tup [.ref l3,.ref l4])
 exact h t5 _ ps ts (((s2.trans q3).trans q4).trans q5) ⟨t5,l3,l4,ys,us,rfl,iD,q5 _ _ e34,q5 _ _ e4,Prs.same q5 py4,Prs.same q5 pu4⟩ pm pw tm tw
theorem vh:∀(ps:List (Int×Int)),kn (ps.map jN)<=1
 |[]=>by rw[cD,kn];lia
 |p::r=>by
  rw[ag,kn]
  have:=vh r
  have e:kM (jN p)=1:=rfl
  lia
theorem Ew:∀ps:List (Int×Int),jq (.lst (ps.map jN)) (.lst [])=decide (ps=[])
 |[]=>rfl
 |_::_=>rfl
noncomputable def gA(p:Nat->Int):Nat->Int×Int
 |0=>(0,0)
 |i+1=>fA p i
theorem Iq(p:Nat->Int):∀i,fA p i=(p i+min (gA p i).1 (gA p i).2,(gA p i).1)
 |0=>by
  show(p 0,(0:Int))=(p 0+min 0 0,0)
  rw[show min (0:Int) 0=0 from rfl,eA]
 |_+1=>rfl
noncomputable def lA(ss:List (Int×Int))(i:Nat):List (Int×Int):=(List.range i).map (fA (iP ss))
theorem Ey(ss:List (Int×Int))(i:Nat):lA ss (i+1)=lA ss i++[fA (iP ss) i]:=vE _ i
theorem pT(ss:List (Int×Int))(i:Nat):(lA ss i).length=i:=by unfold lA;rw[ae,bg]
theorem yK{a b:TS}{D:Ends}{σ:St}{H:Hp}(J:St->Hp->Prop)(h1:∀σ' H',J σ' H'->b D σ' H')(h2:∀R:TS,(∀σ' H',J σ' H'->R D σ' H')->mY a R D σ H):mY a b D σ H:=h2 b h1
def yM:Sp:=fun vs H Q _=>∃sl xs ss,vs=[.ref sl]/\H sl=some (.lst xs)/\Prs H xs ss/\ss.length<=40/\∀fl ys H',Same H H'->H fl=none->H' fl=some (.lst ys)->Prs H' ys (lA ss ss.length)->Q (.ref fl) H'
theorem Ha(B:Blt mg)(D:DefAt K mg "_law_ahead" (iG 44) ["_law_string_here"] f fd):FnOk P w K mg base iK 1 f fd ["_law_string_here"] yM:=by
 have sc:FnScope ["_law_string_here","_law_found","_law_least_in","_law_least_out","_law_place","_law_price","_law_both"] ["_law_string_here"] (jb (iG 44)):=by walk_at "SC"
 refine D.F.ok sc (fun vs H Q E h=>?_) (fun cdv A outer s H vs Q E hr h=>?_)
 ·obtain⟨sl,xs,ss,rfl,_⟩:=h
  rfl
 obtain⟨sl,xs,ss,rfl,el,px,l40,h⟩:=h
 have hxl:=aw px
 have hu:=jh hr
 have hu0:_<PySem.cLine:=av hu
 refine⟨_,(iH (iT (i:=1) sc.nd rfl (Or.inl rfl) (ki iC)) (iH (iT (i:=2) sc.nd rfl (Or.inl rfl) iE) (iH (iT (i:=3) sc.nd rfl (Or.inl rfl) iE) (iH (kR bo rfl (kc (qv 0)) (jS (n:=2) rfl (ja (iV (i:=4) sc.nd rfl (Or.inl rfl)) (ja (iV (i:=5) sc.nd rfl (Or.inl rfl)) jT))) (iH (iT (i:=6) sc.nd rfl (Or.inl rfl) (jJ (iw (iR jv (qv 5) (jf (tQ rfl) rfl B.min dA (iw (qv 2) (iw (qv 3) iC)))) (iw (qv 2) iC)))) (iH (j0 (kH (xK hr.units) (qv 1) (ki iC) (jz _)) (iO (iT (i:=6) sc.nd rfl (Or.inl rfl) (jJ (iw (qv 5) (iw iE iC))))) j6) (iH (ke (kY aX aZ aY lr (qv 1) (iw (qv 6) iC))) (iO (nk (qv 6) (jS (n:=2) rfl (ja (iV (i:=2) sc.nd rfl (Or.inl rfl)) (ja (iV (i:=3) sc.nd rfl (Or.inl rfl)) jT))))))))) (iO (jc (qv 1))))))),?_⟩
 refine iQ fun R hR=>?_
 walk_at "D"
 intro fl hfl
 have q1:=iI hfl (.lst [])
 have et1:upd H fl (.lst []) fl=some (.lst []):=iD
 have el1:=q1 _ _ el
 have px1:=Prs.same q1 px
 generalize upd H fl (.lst [])=H1 at q1 et1 el1 px1
 subst hR
 refine iQ fun R hR=>?_
 walk_at "D"
 subst hR
 refine iQ fun R hR=>?_
 walk_at "D"
 subst hR
 refine iQ fun R hR=>?_
 refine lu (jI K sl) H1 (fun R' hR'=>?_) (nA (K:=K) (a:=sl) (xs:=xs) (fun i σ Hc=>∃w4 w5 w6 zs,σ=[some (.ref sl),some (.ref fl),some (.int (gA (iP ss) i).1),some (.int (gA (iP ss) i).2),w4,w5,w6]/\Same H Hc/\Hc sl=some (.lst xs)/\Prs Hc xs ss/\Hc fl=some (.lst zs)/\Prs Hc zs (lA ss i)) ⟨none,none,none,[],rfl,q1,el1,px1,et1,.nil⟩ (fun i σ Hc _ ⟨_,_,_,_,_,_,z,_⟩=>SqL.of z) ?_ ?_)
 ·unfold jZ
  walk_at "D"
  exact⟨sl,rfl,⟨_,SqL.of el1⟩,hR'⟩
 ·rintro i y σ Hc hy ⟨w4,w5,w6,zs,rfl,s2,elc,pxc,etc,pz⟩
  obtain⟨q,hq,pq⟩:=ko pxc hy
  obtain⟨b,rfl,eb⟩:=pq
  have hil:=(au.mp hq).1
  have hpi:iP ss i=q.2:=by unfold iP;rw[aC,hq];rfl
  have hf:=Iq (iP ss) i
  rw[hpi]at hf
  have hfs:gA (iP ss) (i+1)=fA (iP ss) i:=rfl
  have hzl:=aw pz
  rw[pT]at hzl
  rw[hf]at hfs
  have hss:=Ey ss i
  rw[hf]at hss
  have h0:i=0->(gA (iP ss) i).1=0/\(gA (iP ss) i).2=0:=fun z=>by subst z;exact⟨rfl,rfl⟩
  generalize gA (iP ss) i=g at*
  obtain⟨g1,g2⟩:=g
  dsimp only at hf hfs hss h0 ⊢
  rw[hss,hfs]
  clear hf hfs hss
  simp only[qQ,rj,qP,mK,eb,List.length_cons,List.length_nil,Nat.reduceAdd,List.set_cons_zero,List.set_cons_succ,if_true,eq_self,true_and]
  refine iQ fun R9 hR9=>?_
  walk_at "D"
  rw[xp]
  intro t ht
  have q3:=iI ht (.tup [.int (q.2+min g1 g2),.int g1])
  have e3:upd Hc t (.tup [.int (q.2+min g1 g2),.int g1]) t=some (.tup [.int (q.2+min g1 g2),.int g1]):=iD
  have s3:=s2.trans q3
  have ef3:=q3 _ _ etc
  have pz3:=Prs.same q3 pz
  have el3:=q3 _ _ elc
  have px3:=Prs.same q3 pxc
  generalize upd Hc t (.tup [.int (q.2+min g1 g2),.int g1])=H3 at q3 e3 s3 ef3 pz3 el3 px3
  have nst:sl≠fl:=iX el hfl
  subst hR9
  refine yK (fun σ' H4=>∃w4 w5 t,σ'=[some (.ref sl),some (.ref fl),some (.int g1),some (.int g2),w4,w5,some (.ref t)]/\Same H H4/\H4 sl=some (.lst xs)/\Prs H4 xs ss/\H4 fl=some (.lst zs)/\Prs H4 zs (lA ss i)/\H4 t=some (.tup [.int (q.2+min g1 g2),.int g1])) ?_ fun R9 hR9=>?_
  ·rintro σ' H4 ⟨w4,w5,t,rfl,s4,el4,px4,ef4,pz4,e4⟩
   refine iQ fun R9 hR9=>?_
   walk_at "D"
   refine⟨⟨fl,_,rfl,ef4⟩,?_⟩
   simp_arith[ef4]
   have t5:=kW (ys:=zs++[.ref t]) ef4
   refine⟨jr (by lia),?_⟩
   have s5:=jD s4 hfl (o:=.lst (zs++[.ref t]))
   have e5:upd H4 fl (.lst (zs++[.ref t])) fl=some (.lst (zs++[.ref t])):=iD
   have et5:=t5 _ _ rfl e4
   have el5:upd H4 fl (.lst (zs++[.ref t])) sl=some (.lst xs):=by rw[iL nst];exact el4
   have px5:=Prs.tups t5 px4
   have pz5:=kF (Prs.tups t5 pz4) (⟨t,rfl,et5⟩:Pr _ _ (q.2+min g1 g2,g1))
   generalize upd H4 fl (.lst (zs++[.ref t]))=H5 at s5 e5 et5 el5 px5 pz5
   subst hR9
   simp_arith[et5]
   exact⟨_,_,_,_,rfl,s5,el5,px5,e5,pz5⟩
  walk_at "D"
  intro n0 hn0
  have q4:=iI hn0 (.lst [])
  have s4:=s3.trans q4
  refine⟨.lst ((lA ss i).map jN),.lst [],(by rw[Rep];exact⟨fl,zs,rfl,q4 _ _ ef3,Prs.reps (Prs.same q4 pz3)⟩),(by rw[Rep];exact⟨n0,[],rfl,iD,rfl⟩),(by rw[kM];have:=vh (lA ss i);lia),.inl ⟨_,_,rfl,rfl⟩,?_⟩
  rw[Ew]
  have e4:=q4 _ _ e3
  have ef4:=q4 _ _ ef3
  have pz4:=Prs.same q4 pz3
  have el4:=q4 _ _ el3
  have px4:=Prs.same q4 px3
  generalize upd H3 n0 (.lst [])=H4 at s4 e4 ef4 pz4 el4 px4
  walk_at "D"
  refine oa (fun c=>?_) (fun c=>?_)
  ·intro t6 ht6
   have q6:=iI ht6 (.tup [.int q.2,.int 0])
   have hi0:i=0:=by
    have:lA ss i=[]:=by simpa using c
    have:=bS List.length this
    rw[pT]at this
    exact this
   obtain⟨rfl,rfl⟩:=h0 hi0
   refine hR9 _ _ ⟨_,_,t6,rfl,s4.trans q6,q6 _ _ el4,Prs.same q6 px4,q6 _ _ ef4,Prs.same q6 pz4,?_⟩
   rw[iD,show q.2+min (0:Int) 0=q.2 by lia]
  ·exact hR9 _ _ ⟨_,_,t,rfl,s4,el4,px4,ef4,pz4,e4⟩
 rintro σ H2 ⟨w4,w5,w6,zs,rfl,s2,el2,px2,et2,pz⟩
 refine(?_:R _ _ _)
 subst hR
 walk_at "D"
 rw[hxl]at pz
 exact h fl zs H2 s2 hfl et2 pz
theorem Aw:∀(l:List (Int×Int×Int)),kn (l.map jG)<=1
 |[]=>by rw[cD,kn];lia
 |p::r=>by
  rw[ag,kn]
  have:=Aw r
  have e:kM (jG p)=1:=rfl
  lia
theorem BV{H:Hp}{v:V}{d:Int×Int×Int}(h:Tp H v d):Rep H (jG d) v:=by
 obtain⟨t,e,q⟩:=h
 rw[jG,Rep]
 refine⟨t,_,e,q,?_⟩
 rw[Reps]
 refine⟨_,_,rfl,by rw[Rep],?_⟩
 rw[Reps]
 refine⟨_,_,rfl,by rw[Rep],?_⟩
 rw[Reps]
 exact⟨_,_,rfl,by rw[Rep],by rw[Reps]⟩
theorem vd{H:Hp}:∀{xs:List V} {ds:List (Int×Int×Int)},kj H xs ds->Reps H (ds.map jG) xs
 |_,_,.nil=>by rw[cD,Reps]
 |_,_,.cons r t=>by
  rw[ag,Reps]
  exact⟨_,_,rfl,BV r,vd t⟩
noncomputable def kr(hs:List (Int×Int))(qs:List (Int×Int×Int)):Dt:=.tup [.lst (hs.map jN),.lst (qs.map jG)]
theorem zA{H:Hp}{t l1 l2:Addr}{zs us:List V}{hs:List (Int×Int)}{qs:List (Int×Int×Int)}(e:H t=some (.tup [.ref l1,.ref l2]))(e1:H l1=some (.lst zs))(e2:H l2=some (.lst us))(p:Prs H zs hs)(q:kj H us qs):Rep H (kr hs qs) (.ref t):=by
 rw[kr,Rep]
 refine⟨t,_,rfl,e,?_⟩
 rw[Reps]
 refine⟨_,_,rfl,by rw[Rep];exact⟨l1,zs,rfl,e1,Prs.reps p⟩,?_⟩
 rw[Reps]
 exact⟨_,_,rfl,by rw[Rep];exact⟨l2,us,rfl,e2,vd q⟩,by rw[Reps]⟩
theorem AF{hs:List (Int×Int)}{qs:List (Int×Int×Int)}(h:qs.length<=200):xY (kr hs qs):=fun a b e ds e2=>by
 unfold kr at e
 cases e
 cases e2
 rw[ae]
 exact h
theorem qV{H:Hp}{a st:Addr}{xs:List V}{ps:List (Int×Int)}{o:HO}(ha:H a=some (.lst xs))(pp:Prs H xs ps)(hs:H st=some o)(so:StO o):a≠st:=by
 intro z
 obtain⟨c,s,f,e,_⟩:=so
 rw[z,hs,e]at ha
 cases ha
 cases pp with
 |cons r _=>obtain⟨t,e,_⟩:=r;cases e
theorem jd3.but{H H':Hp}{st:Addr}{o:HO}{v:V}{ps ts:List (Int×Int)}(h:jd3 H v ps ts)(hs:H st=some o)(so:StO o)(b:But st H H'):jd3 H' v ps ts:=by
 obtain⟨u,pa,ta,xs,ys,e,h1,h2,h3,h4,h5⟩:=h
 have t:=b.tups hs so.imm
 exact⟨u,pa,ta,xs,ys,e,t _ _ rfl h1,b _ _ (qV h2 h4 hs so) h2,b _ _ (qV h3 h5 hs so) h3,Prs.tups t h4,Prs.tups t h5⟩
theorem xG{H:Hp}{a st:Addr}{xs:List V}{ds:List (Int×Int×Int)}{o:HO}(ha:H a=some (.lst xs))(h:kj H xs ds)(hs:H st=some o)(so:StO o):a≠st:=by
 rintro rfl
 obtain⟨c,x,fl,rfl,_⟩:=so
 rw[ha]at hs
 have e:=HO.lst.inj (az hs)
 subst e
 cases h with
 |cons r t=>obtain⟨b,e,_⟩:=r;cases e
theorem jrj.at{H H':Hp}{t:Addr}{ps ts:List (Int×Int)}(h:jrj H H' t ps ts):jd3 H' (.ref t) ps ts:=by
 obtain⟨l1,l2,xs,ys,_,_,_,e,e1,e2,p1,p2⟩:=h
 exact⟨t,l1,l2,xs,ys,rfl,e,e1,e2,p1,p2⟩
theorem ym{xs:List V}{k:Int}(h0:0<=k):kA xs none (some k)=xs.take k.toNat:=by
 unfold kA HT.iZ
 simp only[dE,ak (show ¬k<0 by lia),Nat.sub_zero]
 by_cases c:k.toNat<=xs.length
 ·rw[fO c]
 ·rw[Nat.min_eq_right (by lia),aR,bL (by lia)]
theorem qh{α β:Type}{F:α->β->Prop}:∀{xs:List α} {ys:List β} (k:Nat),Paired F xs ys->Paired F (xs.take k) (ys.take k)
 |_,_,_,.nil=>by rw[List.take_nil,List.take_nil];exact .nil
 |_,_,0,.cons _ _=>.nil
 |_,_,k+1,.cons h t=>.cons h (qh k t)
theorem qg{α β:Type}{F:α->β->Prop}:∀{xs:List α} {ys:List β} (k:Nat),Paired F xs ys->Paired F (xs.drop k) (ys.drop k)
 |_,_,_,.nil=>by rw[List.drop_nil,List.drop_nil];exact .nil
 |_,_,0,.cons h t=>.cons h t
 |_,_,k+1,.cons _ t=>qg k t
theorem n8{α β:Type}{F:α->β->Prop}:∀{a:List α} {b:List β} {c:List α} {d:List β},Paired F a b->Paired F c d->Paired F (a++c) (b++d)
 |_,_,_,_,.nil,h=>h
 |_,_,_,_,.cons r t,h=>.cons r (n8 t h)
theorem vp:∀{a b:List (Int×Int)},a.map jN=b.map jN->a=b
 |[],[],_=>rfl
 |[],_::_,h=>by cases h
 |_::_,[],h=>by cases h
 |p::a,q::b,h=>by
  rw[ag,ag]at h
  injection h with h1 h2
  unfold jN at h1
  injection h1 with h1
  injection h1 with h3 h4
  injection h4 with h4
  injection h3 with h3
  injection h4 with h4
  rw[vp h2,fw (x:=p) (y:=q) h3 h4]
theorem vv:∀{a b:List (Int×Int×Int)},a.map jG=b.map jG->a=b
 |[],[],_=>rfl
 |[],_::_,h=>by cases h
 |_::_,[],h=>by cases h
 |p::a,q::b,h=>by
  rw[ag,ag]at h
  injection h with h1 h2
  unfold jG at h1
  injection h1 with h1
  injection h1 with h3 h4
  injection h4 with h4 h5
  injection h5 with h5
  injection h3 with h3
  injection h4 with h4
  injection h5 with h5
  rw[vv h2,fw (x:=p) (y:=q) h3 (fw h4 h5)]
theorem uY{ps ts qs:List (Int×Int)}{ds:List (Int×Int×Int)}(h:(ds.map (·.2.2)).sum≠km ps qs):kD ps ts (kr qs ds)=false:=by
 unfold kr
 rw[qf]
 unfold lO
 dsimp only
 split
 ·rename_i hs' ds' e1 e2
  have a:=vp (qc e1).1
  have b:=vv (si e2).1
  subst a b
  rw[aJ h,dJ,dJ]
 ·rfl
theorem EY{ps ts qs:List (Int×Int)}{ds:List (Int×Int×Int)}(h:qs.length≠ps.length):kD ps ts (kr qs ds)=false:=by
 unfold kr
 rw[qf]
 unfold lO
 dsimp only
 rw[uU (by rw[ae];exact h)]
structure PapK(ps ts qs:List (Int×Int))(ds:List (Int×Int×Int)):Prop where
 std:kD ps ts (kr qs ds)=true
 nm:qs.map (·.1)=ps.map (·.1)
 b:∀q∈qs,0<=q.2/\q.2<=2
 s:(ds.map (·.2.2)).sum=km ps qs
 pos:∀d∈ds,1<=d.2.2
theorem CU{ps ts qs:List (Int×Int)}{ds:List (Int×Int×Int)}(h:kD ps ts (kr qs ds)=true):PapK ps ts qs ds:=by
 have h0:=h
 unfold kr at h
 rw[qf]at h
 unfold lO at h
 dsimp only at h
 split at h
 ·rename_i hs' ds' e1 e2
  have a:=qc e1
  have b:=si e2
  have a1:=vp a.1
  have b1:=vv b.1
  subst a1 b1
  exact⟨h0,a.2.1,a.2.2,bZ (Bool.and_eq_true_iff.mp (Bool.and_eq_true_iff.mp h).2).2,fun d hd=>(b.2 d hd).2⟩
 ·cases h
theorem Av{f:Int×Int×Int->Int}{ds:List (Int×Int×Int)}{n:Nat}{d:Int×Int×Int}(h:ds[n]? =some d):(ds.map f).sum=((ds.take n).map f).sum+f d+((ds.drop (n+1)).map f).sum:=by
 have e:ds = ds.take n ++ d :: ds.drop (n + 1):=by rw [<- nX h,cc]
 conv=>lhs;rw[e]
 rw[aj,bI,ag,List.sum_cons]
 lia
theorem Gk{ps qs:List (Int×Int)}{n:Nat}{d:Int×Int}(h:qs[n]? =some d):km ps qs=km ps (qs.take n)+jV ps d.1*d.2+km ps (qs.drop (n+1)):=by
 have e:qs = qs.take n ++ d :: qs.drop (n + 1):=by rw [<- nX h,cc]
 conv=>lhs;rw[e]
 unfold km
 rw[aj,bI,ag,List.sum_cons]
 lia
theorem zl(ps a b:List (Int×Int)):km ps (a++b)=km ps a+km ps b:=by
 unfold km
 rw[aj,bI]
noncomputable def lP(h:Int):Int:=if h=1 then 2 else 1
theorem EU{ps ts qs:List (Int×Int)}{ds:List (Int×Int×Int)}(wk:WebOk ps ts)(K:PapK ps ts qs ds){n:Nat}{q:Int×Int}(h:qs[n]? =some q):kD ps ts (kr (qs.take n++[(q.1,lP q.2)]++qs.drop (n+1)) ds)=false:=by
 refine uY fun z=>?_
 rw[K.s,Gk h,zl,zl]at z
 have e:km ps [(q.1,lP q.2)]=jV ps q.1*lP q.2:=by unfold km;simp
 rw[e]at z
 have hb:=K.b q (ay h)
 have hm:q.1 ∈ ps.map (·.1):=by rw [<- K.nm]; exact bP (ay h)
 obtain⟨p,hp,hpq⟩:=aL.mp hm
 have hpr:=oO wk p hp
 rw[hpq]at hpr
 have h1:=wk.p.pos p hp
 have z:jV ps q.1*q.2=jV ps q.1*lP q.2:=by lia
 rw[hpr]at z
 unfold lP at z
 rcases og hb with e|e|e<;>rw[e]at z
 ·rw[ak (by decide)]at z;lia
 ·rw[aq rfl]at z;lia
 ·rw[ak (by decide)]at z;lia
theorem EW{ps ts qs:List (Int×Int)}{ds:List (Int×Int×Int)}(K:PapK ps ts qs ds){n:Nat}(h:n<qs.length):kD ps ts (kr (qs.take n++qs.drop (n+1)) ds)=false:=by
 refine EY fun z=>?_
 have:=bS List.length K.nm
 rw[ae,ae]at this
 rw[aB,aK,br]at z
 lia
theorem EZ{ps ts qs:List (Int×Int)}{ds:List (Int×Int×Int)}(K:PapK ps ts qs ds){n:Nat}{d:Int×Int×Int}(h:ds[n]? =some d):kD ps ts (kr qs (ds.take n++[(d.1,d.2.1,d.2.2+1)]++ds.drop (n+1)))=false:=by
 refine uY fun z=>?_
 rw [<- K.s,Av h] at z
 simp only[aj,bI,ag,cD,List.sum_cons,List.sum_nil]at z
 lia
theorem EV{ps ts qs:List (Int×Int)}{ds:List (Int×Int×Int)}(K:PapK ps ts qs ds){n:Nat}{d:Int×Int×Int}(h:ds[n]? =some d):kD ps ts (kr qs (ds.take n++ds.drop (n+1)))=false:=by
 refine uY fun z=>?_
 have:=K.pos d (ay h)
 rw [<- K.s,Av h] at z
 simp only[aj,bI]at z
 lia
structure Kb(v:V)(ps ts:List (Int×Int))(hl:Addr)(hx:List V)(qs:List (Int×Int))(da:Addr)(dx:List V)(ds:List (Int×Int×Int))(st:Addr)(H:Hp)(o:HO):Prop where
 e:H st=some o
 so:StO o
 web:jd3 H v ps ts
 eh:H hl=some (.lst hx)
 ph:Prs H hx qs
 ed:H da=some (.lst dx)
 pd:kj H dx ds
section
variable{v:V}{ps ts:List (Int×Int)}{hl:Addr}{hx:List V}{qs:List (Int×Int)}{da:Addr}{dx:List V}{ds:List (Int×Int×Int)}{st:Addr}{H H':Hp}{o o':HO}
theorem Kb.same(h:Kb v ps ts hl hx qs da dx ds st H o)(s:Same H H'):Kb v ps ts hl hx qs da dx ds st H' o:=
 ⟨s _ _ h.e,h.so,h.web.same s,s _ _ h.eh,Prs.same s h.ph,s _ _ h.ed,jA s.tups h.pd⟩
theorem Kb.but(h:Kb v ps ts hl hx qs da dx ds st H o)(b:But st H H')(e':H' st=some o')(so':StO o'):Kb v ps ts hl hx qs da dx ds st H' o':=by
 have t:=b.tups h.e h.so.imm
 exact⟨e',so',h.web.but h.e h.so b,b _ _ (qV h.eh h.ph h.e h.so) h.eh,Prs.tups t h.ph,b _ _ (xG h.ed h.pd h.e h.so) h.ed,jA t h.pd⟩
end
theorem Ex:∀ds:List (Int×Int×Int),jq (.lst (ds.map jG)) (.lst [])=decide (ds=[])
 |[]=>rfl
 |_::_=>rfl
theorem EE{fb:TT}{a b c:TS}{D:Ends}{σ:St}{H:Hp}(h:∀A:TS,A=a->mY (qy fb A b) c D σ H):mY (qy fb a b) c D σ H:=h a rfl
def PpN(pl:Addr)(H:Hp)(v:V)(p:List (Int×Int)×List (Int×Int×Int)):Prop:=∃tp a b,v= .ref tp/\H tp=some (.tup [.ref a,.ref b])/\a≠pl/\b≠pl/\(∃hx,H a=some (.lst hx)/\Prs H hx p.1)/\∃dx,H b=some (.lst dx)/\kj H dx p.2
theorem PpN.same{pl:Addr}{H H':Hp}{v:V}{p:List (Int×Int)×List (Int×Int×Int)}(h:PpN pl H v p)(s:Same H H'):PpN pl H' v p:=by
 obtain⟨tp,a,b,e,h1,n1,n2,⟨hx,h2,h3⟩,dx,h4,h5⟩:=h
 exact⟨tp,a,b,e,s _ _ h1,n1,n2,⟨hx,s _ _ h2,Prs.same s h3⟩,dx,s _ _ h4,jA s.tups h5⟩
theorem PpN.but{pl st:Addr}{o:HO}{H H':Hp}{v:V}{p:List (Int×Int)×List (Int×Int×Int)}(h:PpN pl H v p)(b:But st H H')(e:H st=some o)(so:StO o):PpN pl H' v p:=by
 obtain⟨tp,a,c,e0,h1,n1,n2,⟨hx,h2,h3⟩,dx,h4,h5⟩:=h
 have t:=b.tups e so.imm
 exact⟨tp,a,c,e0,t _ _ rfl h1,n1,n2,⟨hx,b _ _ (qV h2 h3 e so) h2,Prs.tups t h3⟩,dx,b _ _ (xG h4 h5 e so) h4,jA t h5⟩
theorem PpN.upd{pl:Addr}{o:HO}{H:Hp}{v:V}{p:List (Int×Int)×List (Int×Int×Int)}(h:PpN pl H v p)(t:TupS H (upd H pl o)):PpN pl (upd H pl o) v p:=by
 obtain⟨tp,a,c,e0,h1,n1,n2,⟨hx,h2,h3⟩,dx,h4,h5⟩:=h
 exact⟨tp,a,c,e0,t _ _ rfl h1,n1,n2,⟨hx,by rw[iL n1];exact h2,Prs.tups t h3⟩,dx,by rw[iL n2];exact h4,jA t h5⟩
theorem yl{xs:List V}{n:Nat}(h:n<xs.length):kA xs (some ((n:Int)+1)) none=xs.drop (n+1):=by
 unfold kA HT.iZ
 simp only[ak (show ¬((n:Int)+1<0) by lia)]
 rw[show((n:Int)+1).toNat=n+1 by lia,fO (by lia)]
 exact bL (by rw[br];exact ai _)
def xZ:Sp:=fun vs H Q _=>∃st v hl da ps ts hx qs dx ds o,vs=[.ref st,v,.ref hl,.ref da]/\Kb v ps ts hl hx qs da dx ds st H o/\WebOk ps ts/\PapK ps ts qs ds/\1<=qs.length/\ds.length<=120/\∀H' o',But st H H'->H' st=some o'->StO o'->Q (.bl true) H'
theorem Gz(B:Blt mg)(D:DefAt K mg "_law_own" (iG 39) ["_law_web"] f fd):FnOk P w K mg base iK 1 f fd ["_law_web"] uk:=by
 have sc:FnScope ["_law_web"] ["_law_web"] (jb (iG 39)):=by walk_at "SC"
 refine D.F.ok sc (fun vs H Q E h=>?_) (fun cdv A outer s H vs Q E hr h=>?_)
 ·obtain⟨v,ps,ts,rfl,_⟩:=h
  rfl
 obtain⟨v,ps,ts,rfl,hw,h⟩:=h
 obtain⟨u,pa,ta,xs,ys,rfl,eu,ep,et,pp,pt⟩:=id hw
 have hu:=jh hr
 have hu0:_<PySem.cLine:=av hu
 refine⟨_,(iO (jc (jJ (iw (mf zH rfl B.list di (iw (iM iN (qv 0) iE (fun _ _=>rfl)) iC)) (iw (mf zH rfl B.list di (iw (iM iN (qv 0) iE (fun _ _=>rfl)) iC)) iC))))),?_⟩
 simp_arith[iS,eu,ep,jm,jK]
 intro l1 h1
 have s1:Same H (upd H l1 (.lst xs)):=iI h1 _
 simp_arith[iS,s1 _ _ eu,s1 _ _ et,jm,jK]
 intro l2 h2
 have s2:Same H (upd (upd H l1 (.lst xs)) l2 (.lst ys)):=s1.trans (iI h2 _)
 intro t h3
 have s3:Same (upd (upd H l1 (.lst xs)) l2 (.lst ys)) (upd (upd (upd H l1 (.lst xs)) l2 (.lst ys)) t (.tup [.ref l1,.ref l2])):=iI h3 _
 refine h _ _ (s2.trans s3) ⟨l1,l2,xs,ys,h1,s1.free h2,iX iD h2,iD,s3 _ _ (iI h2 _ _ _ iD),s3 _ _ iD,Prs.same (s2.trans s3) pp,Prs.same (s2.trans s3) pt⟩
theorem HL(B:Blt mg)(D:DefAt K mg "_law_bent_right" (iG 45) ["_law_state","_law_web","_law_halves","_law_dues"] f fd)(Dqb:DefAt K mg "_law_take" (iG 41) ["_law_state","_law_many"] fqb dqb)(Gqb:FnOk P w K mg base iK 1 fqb dqb ["_law_state","_law_many"] uq)(Dqe:DefAt K mg "_law_own" (iG 39) ["_law_web"] fqe dqe)(Gqe:FnOk P w K mg base iK 1 fqe dqe ["_law_web"] uk)(Dqk:DefAt K mg "lets_halves" (iG 32) ["web","thing"] fqk dqk)(Gqk:FnOk P w K mg base iK 6 fqk dqk ["web","thing"] rQ):FnOk P w K mg base iK 7 f fd ["_law_state","_law_web","_law_halves","_law_dues"] xZ:=by
 have sc:FnScope ["_law_state","_law_web","_law_halves","_law_dues","_law_at","_law_place","_law_h","_law_bent","_law_papers","_law_one","_law_other","_law_amount"] ["_law_state","_law_web","_law_halves","_law_dues"] (jb (iG 45)):=by walk_at "SC"
 refine D.F.ok sc (fun vs H Q E h=>?_) (fun cdv A outer s H vs Q E hr h=>?_)
 ·obtain⟨st,v,hl,da,ps,ts,hx,qs,dx,ds,o,rfl,_⟩:=h
  rfl
 obtain⟨st,v,hl,da,ps,ts,hx,qs,dx,ds,o,rfl,k0,wk,PK,l1,ld,h⟩:=h
 have hu:=jh hr
 have hu0:_<PySem.cLine:=av hu
 refine⟨_,(iH (j0 (kH xS (i9 Gqk (hr.mono (by decide)) rfl Dqk.m Dqk.F.kp Dqk.b .nil iW (iw (i9 Gqe (hr.mono (by decide)) rfl Dqe.m Dqe.F.kp Dqe.b .nil iW (iw (qv 1) iC)) (iw (jJ (iw (qv 2) (iw (qv 3) iC))) iC))) kQ (jz _)) (iO (jc kQ)) j6) (iH (iT (i:=4) sc.nd rfl (Or.inl rfl) (i9 Gqb (hr.mono (by decide)) rfl Dqb.m Dqb.F.kp Dqb.b .nil iW (iw (qv 0) (iw (jf k6 rfl B.len bw (iw (qv 2) iC)) iC)))) (iH (nk (iM iN (qv 2) (qv 4) (fun _ _=>rfl)) (jS (n:=2) rfl (ja (iV (i:=5) sc.nd rfl (Or.inl rfl)) (ja (iV (i:=6) sc.nd rfl (Or.inl rfl)) jT)))) (iH (iT (i:=7) sc.nd rfl (Or.inl rfl) (iR oB (iR oB (lW mN (qv 2) lU (lV (qv 4))) (ki (iw (jJ (iw (qv 5) (iw (iM iN (ki (iw iE (iw iE (iw iE iC)))) (qv 6) (fun _ _=>rfl)) iC))) iC))) (lW mN (qv 2) (lV (iR jv (qv 4) iE)) lU))) (iH (iT (i:=8) sc.nd rfl (Or.inl rfl) (ki (iw (jJ (iw (qv 7) (iw (qv 3) iC))) (iw (jJ (iw (iR oB (lW mN (qv 2) lU (lV (qv 4))) (lW mN (qv 2) (lV (iR jv (qv 4) iE)) lU)) (iw (qv 3) iC))) iC)))) (iH (j0 (kH (xM hr.units) (qv 3) (ki iC) (jz _)) (iH (iT (i:=4) sc.nd rfl (Or.inl rfl) (i9 Gqb (hr.mono (by decide)) rfl Dqb.m Dqb.F.kp Dqb.b .nil iW (iw (qv 0) (iw (jf k6 rfl B.len bw (iw (qv 3) iC)) iC)))) (iH (nk (iM iN (qv 3) (qv 4) (fun _ _=>rfl)) (jS (n:=3) rfl (ja (iV (i:=9) sc.nd rfl (Or.inl rfl)) (ja (iV (i:=10) sc.nd rfl (Or.inl rfl)) (ja (iV (i:=11) sc.nd rfl (Or.inl rfl)) jT))))) (iH (ke (kY aX aZ aY lr (qv 8) (iw (jJ (iw (qv 2) (iw (iR oB (iR oB (lW mN (qv 3) lU (lV (qv 4))) (ki (iw (jJ (iw (qv 9) (iw (qv 10) (iw (iR jv (qv 11) iE) iC)))) iC))) (lW mN (qv 3) (lV (iR jv (qv 4) iE)) lU)) iC))) iC))) (iO (ke (kY aX aZ aY lr (qv 8) (iw (jJ (iw (qv 2) (iw (iR oB (lW mN (qv 3) lU (lV (qv 4))) (lW mN (qv 3) (lV (iR jv (qv 4) iE)) lU)) iC))) iC))))))) j6) (iO (jc (lp (xK hr.units) (kI (CpScope.of (N:=["_law_paper","_law_web"]) (src:=[none,some 1]) (by rfl)) rfl (kc (qv 8)) (fun _ _ _ _=>(iV (i:=0) (jn (l:=["_law_paper","_law_web"]) (by rfl)) rfl (Or.inl rfl))) (fun _ _ _ _=>(yC (kH xS (i9 Gqk (hr.mono (by decide)) rfl Dqk.m Dqk.F.kp Dqk.b .nil iW (iw (i9 Gqe (hr.mono (by decide)) rfl Dqe.m Dqe.F.kp Dqe.b .nil iW (iw (qv 1) iC)) (iw (qv 0) iC))) kQ (jz _)))) (fun _ _ _ _=>(qv 0))) (ki iC) (jz _)))))))))),?_⟩
 have hql:qs.length<=40:=by have:=bS List.length PK.nm;rw[ae,ae]at this;have:=wk.pl;lia
 refine iQ fun R hR=>?_
 walk_at "D"
 refine⟨v,ps,ts,rfl,k0.web,fun t1 H1 s1 nw=>?_⟩
 walk_at "D"
 intro t2 ht2
 have q2:=iI ht2 (.tup [.ref hl,.ref da])
 have et2:upd H1 t2 (.tup [.ref hl,.ref da]) t2=some (.tup [.ref hl,.ref da]):=iD
 have k1:=k0.same (s1.trans q2)
 have s2:=s1.trans q2
 have W2:=nw.at.same q2
 generalize upd H1 t2 (.tup [.ref hl,.ref da])=H2 at q2 et2 k1 s2 W2
 refine⟨.ref t1,ps,ts,.ref t2,kr qs ds,rfl,W2,wk,zA et2 k1.eh k1.ed k1.ph k1.pd,AF (by lia),fun H3 s3=>?_⟩
 have k3:=k1.same s3
 have s03:=s2.trans s3
 have B3:But st H H3:=fun b o _ q=>s03 b o q
 clear k1 s1 nw q2 et2 W2 s2 s3 ht2 s03 k0
 rw[PK.std]
 walk_at "D"
 rw[ak (by decide)]
 subst hR
 refine iQ fun R hR=>?_
 simp_arith[iS,k3.eh]
 have hxl:=aw k3.ph
 refine⟨st,o,_,rfl,k3.e,k3.so,by lia,by lia,fun d4 o4 d40 d41 so4=>?_⟩
 have b4:But st H3 (upd H3 st o4):=But.at _ _ _
 have k4:=k3.but b4 iD so4
 have B4:=B3.trans b4
 generalize upd H3 st o4=H4 at k4 B4
 clear b4 k3 B3
 obtain⟨n,rfl⟩:∃n:Nat,d4=(n:Int):=⟨d4.toNat,by lia⟩
 have hn:n<qs.length:=by lia
 have x1:qs[n]? =some qs[n]:=gE hn
 generalize qs[n]=q at x1
 obtain⟨xn,gn,tn,rfl,hn4⟩:=lX k4.ph x1
 have an:jl hx (n:Int)=some (.ref tn):=ll gn
 subst hR
 refine iQ fun R hR=>?_
 simp_arith[iS,k4.eh,an,hn4]
 subst hR
 refine iQ fun R hR=>?_
 have c1:kA hx none (some (n:Int))=hx.take n:=by rw[ym (by lia)];rfl
 have c2:kA hx (some ((n:Int)+1)) none=hx.drop (n+1):=yl (by lia)
 simp_arith[k4.eh,c1]
 intro p1 hp1
 have q_p1:=iI hp1 (.lst (hx.take n))
 have e_p1:upd H4 p1 (.lst (hx.take n)) p1=some (.lst (hx.take n)):=iD
 replace k4:=k4.same q_p1
 replace B4:=B4.same q_p1
 replace hn4:=q_p1 _ _ hn4
 generalize upd H4 p1 (.lst (hx.take n))=H5 at q_p1 e_p1 k4 B4 hn4
 intro p2 hp2
 have q_p2:=iI hp2 (.lst [.int 1,.int 2,.int 1])
 have e_p2:upd H5 p2 (.lst [.int 1,.int 2,.int 1]) p2=some (.lst [.int 1,.int 2,.int 1]):=iD
 replace k4:=k4.same q_p2
 replace B4:=B4.same q_p2
 replace hn4:=q_p2 _ _ hn4
 replace e_p1:=q_p2 _ _ e_p1
 generalize upd H5 p2 (.lst [.int 1,.int 2,.int 1])=H6 at q_p2 e_p2 k4 B4 hn4 e_p1
 have hq2:=PK.b q (ay x1)
 have ev:jl [V.int 1,.int 2,.int 1] q.2=some (.int (lP q.2)):=by
  rcases og hq2 with e|e|e<;>rw[e]<;>rfl
 simp_arith[iS,e_p2,ev]
 intro p3 hp3
 have q_p3:=iI hp3 (.tup [.int q.1,.int (lP q.2)])
 have e_p3:upd H6 p3 (.tup [.int q.1,.int (lP q.2)]) p3=some (.tup [.int q.1,.int (lP q.2)]):=iD
 replace k4:=k4.same q_p3
 replace B4:=B4.same q_p3
 replace hn4:=q_p3 _ _ hn4
 replace e_p1:=q_p3 _ _ e_p1
 generalize upd H6 p3 (.tup [.int q.1,.int (lP q.2)])=H7 at q_p3 e_p3 k4 B4 hn4 e_p1
 intro p4 hp4
 have q_p4:=iI hp4 (.lst [.ref p3])
 have e_p4:upd H7 p4 (.lst [.ref p3]) p4=some (.lst [.ref p3]):=iD
 replace k4:=k4.same q_p4
 replace B4:=B4.same q_p4
 replace hn4:=q_p4 _ _ hn4
 replace e_p1:=q_p4 _ _ e_p1
 replace e_p3:=q_p4 _ _ e_p3
 generalize upd H7 p4 (.lst [.ref p3])=H8 at q_p4 e_p4 k4 B4 hn4 e_p1 e_p3
 simp_arith[e_p1,e_p4]
 refine⟨by rw[aK];exact nJ (by lia),?_⟩
 intro p5 hp5
 have q_p5:=iI hp5 (.lst (hx.take n++[.ref p3]))
 have e_p5:upd H8 p5 (.lst (hx.take n++[.ref p3])) p5=some (.lst (hx.take n++[.ref p3])):=iD
 replace k4:=k4.same q_p5
 replace B4:=B4.same q_p5
 replace hn4:=q_p5 _ _ hn4
 replace e_p3:=q_p5 _ _ e_p3
 generalize upd H8 p5 (.lst (hx.take n++[.ref p3]))=H9 at q_p5 e_p5 k4 B4 hn4 e_p3
 simp_arith[k4.eh,c2]
 intro p6 hp6
 have q_p6:=iI hp6 (.lst (hx.drop (n+1)))
 have e_p6:upd H9 p6 (.lst (hx.drop (n+1))) p6=some (.lst (hx.drop (n+1))):=iD
 replace k4:=k4.same q_p6
 replace B4:=B4.same q_p6
 replace hn4:=q_p6 _ _ hn4
 replace e_p3:=q_p6 _ _ e_p3
 replace e_p5:=q_p6 _ _ e_p5
 generalize upd H9 p6 (.lst (hx.drop (n+1)))=H10 at q_p6 e_p6 k4 B4 hn4 e_p3 e_p5
 simp_arith[e_p5,e_p6]
 refine⟨by simp only[aB,aK,br,List.length_cons,List.length_nil];exact nJ (by lia),?_⟩
 intro p7 hp7
 have q_p7:=iI hp7 (.lst (hx.take n++[.ref p3]++hx.drop (n+1)))
 have e_p7:upd H10 p7 (.lst (hx.take n++[.ref p3]++hx.drop (n+1))) p7=some (.lst (hx.take n++[.ref p3]++hx.drop (n+1))):=iD
 replace k4:=k4.same q_p7
 replace B4:=B4.same q_p7
 replace hn4:=q_p7 _ _ hn4
 replace e_p3:=q_p7 _ _ e_p3
 generalize upd H10 p7 (.lst (hx.take n++[.ref p3]++hx.drop (n+1)))=H11 at q_p7 e_p7 k4 B4 hn4 e_p3
 have py:Prs H11 (hx.take n++[.ref p3]++hx.drop (n+1)) (qs.take n++[(q.1,lP q.2)]++qs.drop (n+1)):=n8 (n8 (qh n k4.ph) (.cons ⟨p3,rfl,e_p3⟩ .nil)) (qg (n+1) k4.ph)
 have F1:=EU wk PK x1
 generalize hx.take n++[.ref p3]++hx.drop (n+1)=ys at e_p7 py
 generalize qs.take n++[(q.1,lP q.2)]++qs.drop (n+1)=q7 at py F1
 clear q_p1 q_p2 q_p3 q_p4 q_p5 q_p6 q_p7 e_p1 e_p2 e_p3 e_p4 e_p5 e_p6 hp1 hp2 hp3 hp4 hp5 hp6 hp7 ev hq2
 subst hR
 refine iQ fun R hR=>?_
 walk_at "D"
 intro p8 hp8
 have q_p8:=iI hp8 (.tup [.ref p7,.ref da])
 have e_p8:upd H11 p8 (.tup [.ref p7,.ref da]) p8=some (.tup [.ref p7,.ref da]):=iD
 replace k4:=k4.same q_p8
 replace B4:=B4.same q_p8
 replace e_p7:=q_p8 _ _ e_p7
 replace py:=Prs.same q_p8 py
 generalize upd H11 p8 (.tup [.ref p7,.ref da])=H12 at q_p8 e_p8 k4 B4 e_p7 py
 simp_arith[k4.eh,c1]
 intro p9 hp9
 have q_p9:=iI hp9 (.lst (hx.take n))
 have e_p9:upd H12 p9 (.lst (hx.take n)) p9=some (.lst (hx.take n)):=iD
 replace k4:=k4.same q_p9
 replace B4:=B4.same q_p9
 replace e_p7:=q_p9 _ _ e_p7
 replace py:=Prs.same q_p9 py
 replace e_p8:=q_p9 _ _ e_p8
 generalize upd H12 p9 (.lst (hx.take n))=H13 at q_p9 e_p9 k4 B4 e_p7 py e_p8
 simp_arith[k4.eh,c2]
 intro pa hpa
 have q_pa:=iI hpa (.lst (hx.drop (n+1)))
 have e_pa:upd H13 pa (.lst (hx.drop (n+1))) pa=some (.lst (hx.drop (n+1))):=iD
 replace k4:=k4.same q_pa
 replace B4:=B4.same q_pa
 replace e_p7:=q_pa _ _ e_p7
 replace py:=Prs.same q_pa py
 replace e_p8:=q_pa _ _ e_p8
 replace e_p9:=q_pa _ _ e_p9
 generalize upd H13 pa (.lst (hx.drop (n+1)))=H14 at q_pa e_pa k4 B4 e_p7 py e_p8 e_p9
 simp_arith[e_p9,e_pa]
 refine⟨by simp only[aB,aK,br];exact nJ (by lia),?_⟩
 intro pb hpb
 have q_pb:=iI hpb (.lst (hx.take n++hx.drop (n+1)))
 have e_pb:upd H14 pb (.lst (hx.take n++hx.drop (n+1))) pb=some (.lst (hx.take n++hx.drop (n+1))):=iD
 replace k4:=k4.same q_pb
 replace B4:=B4.same q_pb
 replace e_p7:=q_pb _ _ e_p7
 replace py:=Prs.same q_pb py
 replace e_p8:=q_pb _ _ e_p8
 generalize upd H14 pb (.lst (hx.take n++hx.drop (n+1)))=H15 at q_pb e_pb k4 B4 e_p7 py e_p8
 have pz:Prs H15 (hx.take n++hx.drop (n+1)) (qs.take n++qs.drop (n+1)):=n8 (qh n k4.ph) (qg (n+1) k4.ph)
 have F2:=EW (ts:=ts) PK hn
 generalize hx.take n++hx.drop (n+1)=zs at e_pb pz
 generalize qs.take n++qs.drop (n+1)=q8 at pz F2
 intro pc hpc
 have q_pc:=iI hpc (.tup [.ref pb,.ref da])
 have e_pc:upd H15 pc (.tup [.ref pb,.ref da]) pc=some (.tup [.ref pb,.ref da]):=iD
 replace k4:=k4.same q_pc
 replace B4:=B4.same q_pc
 replace e_p7:=q_pc _ _ e_p7
 replace py:=Prs.same q_pc py
 replace e_p8:=q_pc _ _ e_p8
 replace e_pb:=q_pc _ _ e_pb
 replace pz:=Prs.same q_pc pz
 generalize upd H15 pc (.tup [.ref pb,.ref da])=H16 at q_pc e_pc k4 B4 e_p7 py e_p8 e_pb pz
 intro pl hpl
 have nl1:p7≠pl:=iX e_p7 hpl
 have nl2:pb≠pl:=iX e_pb hpl
 have nl3:da≠pl:=iX k4.ed hpl
 have nl4:hl≠pl:=iX k4.eh hpl
 have nls:pl≠st:=(iX k4.e hpl).symm
 have P1:PpN pl H16 (.ref p8) (q7,ds):=⟨p8,p7,da,rfl,e_p8,nl1,nl3,⟨ys,e_p7,py⟩,dx,k4.ed,k4.pd⟩
 have P2:PpN pl H16 (.ref pc) (q8,ds):=⟨pc,pb,da,rfl,e_pc,nl2,nl3,⟨zs,e_pb,pz⟩,dx,k4.ed,k4.pd⟩
 clear e_p7 py e_pb pz e_p8 e_pc q_p8 q_p9 q_pa q_pb q_pc e_p9 e_pa hp8 hp9 hpa hpb hpc hn4 x1 gn an
 have fpl:H pl=none:=B4.free nls hpl
 have PB:∀p∈[(q7,ds),(q8,ds)],kD ps ts (kr p.1 p.2)=false/\p.2.length<=121:=fun p hp=>by
  rcases aS.mp hp with rfl|hp
  ·exact⟨F1,by dsimp only;lia⟩
  ·rw[aV.mp hp]
   exact⟨F2,by dsimp only;lia⟩
 have PP:Paired (PpN pl H16) [.ref p8,.ref pc] [(q7,ds),(q8,ds)]:=.cons P1 (.cons P2 .nil)
 clear P1 P2 F1 F2 c1 c2 nl1 nl2
 have BB:But st H16 (upd H16 pl (.lst [.ref p8,.ref pc])):=But.new hpl
 have epl:upd H16 pl (.lst [.ref p8,.ref pc]) pl=some (.lst [.ref p8,.ref pc]):=iD
 replace PP:=Paired.imp' (fun _ _ z=>z.same (iI hpl (.lst [.ref p8,.ref pc]))) PP
 have es:upd H16 pl (.lst [.ref p8,.ref pc]) st=some o4:=by rw[iL nls.symm];exact k4.e
 generalize upd H16 pl (.lst [.ref p8,.ref pc])=H17 at BB epl PP es
 subst hR
 refine yK (fun σ' H'=>∃w4 w5 w6 w7 w9 w10 w11 vs pps o',σ'=[some (.ref st),some v,some (.ref hl),some (.ref da),w4,w5,w6,w7,some (.ref pl),w9,w10,w11]/\But st H16 H'/\H' st=some o'/\StO o'/\H' pl=some (.lst vs)/\Paired (PpN pl H') vs pps/\(∀p∈pps,kD ps ts (kr p.1 p.2)=false/\p.2.length<=121)/\vs.length<=4) ?_ fun R hR=>?_
 ·rintro σ' H5 ⟨w4,w5,w6,w7,w9,w10,w11,vs,pps,o',rfl,B5,es5,so5,ep5,PP5,PB5,hv4⟩
  clear PP epl es BB PB
  have k5:=k4.but B5 es5 so5
  walk_at "D"
  refine kE (jI K pl) H5 (fun R2 hR2=>?_) (fun z hz0=>kz vs.length (fun j σ' Hd=>∃w1,σ'=[w1,some v]/\Same H5 Hd/\Hd z=some (.lst [])) ⟨none,rfl,iI hz0 _,iD⟩ ?_ ?_)
  ·unfold jZ
   walk_at "D"
   exact⟨pl,rfl,⟨_,SqL.of ep5⟩,hR2⟩
  ·rintro j σ' Hd hj ⟨w1,rfl,s9,ez⟩
   have x1:vs[j]? =some vs[j]:=gE hj
   generalize vs[j]=x at x1
   obtain⟨p,hp,px⟩:=ko PP5 x1
   obtain⟨pf,pl4⟩:=PB5 p (ay hp)
   obtain⟨tp,a,b,rfl,h1,_,_,⟨hx',h2,h3⟩,dx',h4,h5⟩:=px.same s9
   have z1:SqL K Hd pl vs:=SqL.of (s9 _ _ ep5)
   refine⟨⟨_,_,z1,x1⟩,?_⟩
   rintro y H7 ⟨rfl,hy'⟩
   have:=hy' _ z1
   rw[x1]at this
   cases this
   walk_at "D"
   refine⟨v,ps,ts,rfl,k5.web.same s9,fun t1 H8 s8 nw=>?_⟩
   walk_at "D"
   refine⟨.ref t1,ps,ts,.ref tp,kr p.1 p.2,rfl,nw.at,wk,zA (s8 _ _ h1) (s8 _ _ h2) (s8 _ _ h4) (Prs.same s8 h3) (jA s8.tups h5),AF (by lia),fun H9 s10=>?_⟩
   rw[pf]
   walk_at "D"
   exact⟨_,rfl,(s9.trans s8).trans s10,s10 _ _ (s8 _ _ ez)⟩
  ·rintro σ' H6 ⟨w1,rfl,s6,ez⟩
   refine⟨⟨_,SqL.of (s6 _ _ ep5),ai _⟩,?_⟩
   walk_at "D"
   intro n0 hn0
   have q7:=iI hn0 (.lst [])
   refine⟨.lst [],.lst [],(by rw[Rep];exact⟨z,[],rfl,q7 _ _ ez,rfl⟩),(by rw[Rep];exact⟨n0,[],rfl,iD,rfl⟩),(by decide),.inl ⟨_,_,rfl,rfl⟩,?_⟩
   rw[pY]
   have s7:=s6.trans q7
   have B7:But st H16 (upd H6 n0 (.lst [])):=B5.same s7
   exact h _ o' (B4.trans B7) (s7 _ _ es5) so5
 refine EE fun Bd hBd=>?_
 walk_at "D"
 intro n0 hn0
 have q1:=iI hn0 (.lst [])
 have e0:upd H17 n0 (.lst []) n0=some (.lst []):=iD
 replace BB:=BB.same q1
 replace epl:=q1 _ _ epl
 replace PP:=Paired.imp' (fun _ _ z=>z.same q1) PP
 replace es:=q1 _ _ es
 generalize upd H17 n0 (.lst [])=H18 at BB epl PP es e0
 have k5:=k4.but BB es so4
 refine⟨.lst (ds.map jG),.lst [],(by rw[Rep];exact⟨da,dx,rfl,k5.ed,vd k5.pd⟩),(by rw[Rep];exact⟨n0,[],rfl,e0,rfl⟩),(by rw[kM];have:=Aw ds;lia),.inl ⟨_,_,rfl,rfl⟩,?_⟩
 rw[Ex]
 clear q1 hn0 e0 k5
 walk_at "D"
 by_cases cd:ds=[]
 ·rw[aG cd]
  walk_at "D"
  exact hR _ _ ⟨_,_,_,_,_,_,_,_,_,o4,rfl,BB,es,so4,epl,PP,PB,cP rfl⟩
 rw[aJ cd]
 walk_at "D"
 have ld1:1<=ds.length:=by
  cases ds with
  |nil=>exact absurd rfl cd
  |cons _ _=>simp
 have k18:=k4.but BB es so4
 have hdl:=aw k18.pd
 subst hBd
 refine iQ fun R1 hR1=>?_
 simp_arith[iS,k18.ed]
 refine⟨st,o4,_,rfl,es,so4,by lia,by lia,fun d5 o5 d50 d51 so5=>?_⟩
 have e5:upd H18 st o5 st=some o5:=iD
 have b5:But st H18 (upd H18 st o5):=But.at _ _ _
 replace PP:=Paired.imp' (fun _ _ z=>PpN.but z b5 es so4) PP
 replace epl:upd H18 st o5 pl=some (.lst [.ref p8,.ref pc]):=by rw[iL nls];exact epl
 replace BB:=BB.trans b5
 generalize upd H18 st o5=H19 at e5 PP epl BB
 clear b5 k18 es
 have k5:=k4.but BB e5 so5
 obtain⟨m,rfl⟩:∃m:Nat,d5=(m:Int):=⟨d5.toNat,by lia⟩
 have hm:m<ds.length:=by lia
 have x2:ds[m]? =some ds[m]:=gE hm
 generalize ds[m]=d at x2
 obtain⟨xm,gm,tm,rfl,hm4⟩:=lX k5.pd x2
 have am:jl dx (m:Int)=some (.ref tm):=ll gm
 subst hR1
 refine iQ fun R1 hR1=>?_
 simp_arith[iS,k5.ed,am,hm4]
 have c1:kA dx none (some (m:Int))=dx.take m:=by rw[ym (by lia)];rfl
 have c2:kA dx (some ((m:Int)+1)) none=dx.drop (m+1):=yl (by lia)
 have G1:=EZ (ts:=ts) PK x2
 have G2:=EV (ts:=ts) PK x2
 clear am gm
 subst hR1
 refine iQ fun R1 hR1=>?_
 walk_at "D"
 refine⟨⟨pl,_,rfl,epl⟩,?_⟩
 simp_arith[k5.ed,c1]
 intro r1 hr1
 have q_r1:=iI hr1 (.lst (dx.take m))
 have e_r1:upd H19 r1 (.lst (dx.take m)) r1=some (.lst (dx.take m)):=iD
 replace k5:=k5.same q_r1
 replace BB:=BB.same q_r1
 replace hm4:=q_r1 _ _ hm4
 replace epl:=q_r1 _ _ epl
 generalize upd H19 r1 (.lst (dx.take m))=H20 at q_r1 e_r1 k5 BB hm4 epl
 intro r2 hr2
 have q_r2:=iI hr2 (.tup [.int d.1,.int d.2.1,.int (d.2.2+1)])
 have e_r2:upd H20 r2 (.tup [.int d.1,.int d.2.1,.int (d.2.2+1)]) r2=some (.tup [.int d.1,.int d.2.1,.int (d.2.2+1)]):=iD
 replace k5:=k5.same q_r2
 replace BB:=BB.same q_r2
 replace hm4:=q_r2 _ _ hm4
 replace epl:=q_r2 _ _ epl
 replace e_r1:=q_r2 _ _ e_r1
 generalize upd H20 r2 (.tup [.int d.1,.int d.2.1,.int (d.2.2+1)])=H21 at q_r2 e_r2 k5 BB hm4 epl e_r1
 intro r3 hr3
 have q_r3:=iI hr3 (.lst [.ref r2])
 have e_r3:upd H21 r3 (.lst [.ref r2]) r3=some (.lst [.ref r2]):=iD
 replace k5:=k5.same q_r3
 replace BB:=BB.same q_r3
 replace hm4:=q_r3 _ _ hm4
 replace epl:=q_r3 _ _ epl
 replace e_r1:=q_r3 _ _ e_r1
 replace e_r2:=q_r3 _ _ e_r2
 generalize upd H21 r3 (.lst [.ref r2])=H22 at q_r3 e_r3 k5 BB hm4 epl e_r1 e_r2
 simp_arith[e_r1,e_r3]
 refine⟨by rw[aK];exact nJ (by lia),?_⟩
 intro r4 hr4
 have q_r4:=iI hr4 (.lst (dx.take m++[.ref r2]))
 have e_r4:upd H22 r4 (.lst (dx.take m++[.ref r2])) r4=some (.lst (dx.take m++[.ref r2])):=iD
 replace k5:=k5.same q_r4
 replace BB:=BB.same q_r4
 replace hm4:=q_r4 _ _ hm4
 replace epl:=q_r4 _ _ epl
 replace e_r2:=q_r4 _ _ e_r2
 generalize upd H22 r4 (.lst (dx.take m++[.ref r2]))=H23 at q_r4 e_r4 k5 BB hm4 epl e_r2
 simp_arith[k5.ed,c2]
 intro r5 hr5
 have q_r5:=iI hr5 (.lst (dx.drop (m+1)))
 have e_r5:upd H23 r5 (.lst (dx.drop (m+1))) r5=some (.lst (dx.drop (m+1))):=iD
 replace k5:=k5.same q_r5
 replace BB:=BB.same q_r5
 replace hm4:=q_r5 _ _ hm4
 replace epl:=q_r5 _ _ epl
 replace e_r2:=q_r5 _ _ e_r2
 replace e_r4:=q_r5 _ _ e_r4
 generalize upd H23 r5 (.lst (dx.drop (m+1)))=H24 at q_r5 e_r5 k5 BB hm4 epl e_r2 e_r4
 simp_arith[e_r4,e_r5]
 refine⟨by simp only[aB,aK,br,List.length_cons,List.length_nil];exact nJ (by lia),?_⟩
 intro r6 hr6
 have nr6:r6≠pl:=(iX epl hr6).symm
 have q_r6:=iI hr6 (.lst (dx.take m++[.ref r2]++dx.drop (m+1)))
 have e_r6:upd H24 r6 (.lst (dx.take m++[.ref r2]++dx.drop (m+1))) r6=some (.lst (dx.take m++[.ref r2]++dx.drop (m+1))):=iD
 replace k5:=k5.same q_r6
 replace BB:=BB.same q_r6
 replace hm4:=q_r6 _ _ hm4
 replace epl:=q_r6 _ _ epl
 replace e_r2:=q_r6 _ _ e_r2
 generalize upd H24 r6 (.lst (dx.take m++[.ref r2]++dx.drop (m+1)))=H25 at q_r6 e_r6 k5 BB hm4 epl e_r2
 have py:kj H25 (dx.take m++[.ref r2]++dx.drop (m+1)) (ds.take m++[(d.1,d.2.1,d.2.2+1)]++ds.drop (m+1)):=n8 (n8 (qh m k5.pd) (.cons ⟨r2,rfl,e_r2⟩ .nil)) (qg (m+1) k5.pd)
 have ly:(ds.take m++[(d.1,d.2.1,d.2.2+1)]++ds.drop (m+1)).length<=121:=by
  simp only[aB,aK,br,List.length_cons,List.length_nil]
  lia
 generalize dx.take m++[.ref r2]++dx.drop (m+1)=ys at e_r6 py
 generalize ds.take m++[(d.1,d.2.1,d.2.2+1)]++ds.drop (m+1)=d6 at py G1 ly
 clear e_r1 e_r2 e_r3 e_r4 e_r5 hr1 hr2 hr3 hr4 hr5 hr6
 intro r7 hr7
 have q_r7:=iI hr7 (.tup [.ref hl,.ref r6])
 have e_r7:upd H25 r7 (.tup [.ref hl,.ref r6]) r7=some (.tup [.ref hl,.ref r6]):=iD
 replace k5:=k5.same q_r7
 replace BB:=BB.same q_r7
 replace hm4:=q_r7 _ _ hm4
 replace epl:=q_r7 _ _ epl
 replace e_r6:=q_r7 _ _ e_r6
 replace py:=jA q_r7.tups py
 generalize upd H25 r7 (.tup [.ref hl,.ref r6])=H26 at q_r7 e_r7 k5 BB hm4 epl e_r6 py
 replace PP:=Paired.imp' (fun _ _ z=>PpN.same z (q_r1.trans (q_r2.trans (q_r3.trans (q_r4.trans (q_r5.trans (q_r6.trans q_r7))))))) PP
 have P3:PpN pl H26 (.ref r7) (qs,d6):=⟨r7,hl,r6,rfl,e_r7,nl4,nr6,⟨hx,k5.eh,k5.ph⟩,ys,e_r6,py⟩
 replace PP:=kF PP P3
 change Paired (PpN pl _) [V.ref p8,.ref pc,.ref r7] _ at PP
 clear q_r1 q_r2 q_r3 q_r4 q_r5 q_r6 q_r7 e_r6 e_r7 hr7 P3 py
 simp_arith[epl]
 refine⟨by decide,?_⟩
 have tp:=kW (ys:=[.ref p8,.ref pc,.ref r7]) epl
 replace PP:=Paired.imp' (fun _ _ z=>PpN.upd z tp) PP
 replace hm4:=tp _ _ rfl hm4
 have e5':upd H26 pl (.lst ([.ref p8,.ref pc,.ref r7])) st=some o5:=by rw[iL nls.symm];exact k5.e
 replace BB:=BB.updf (o':=.lst ([.ref p8,.ref pc,.ref r7])) hpl
 have epl':upd H26 pl (.lst ([.ref p8,.ref pc,.ref r7])) pl=some (.lst ([.ref p8,.ref pc,.ref r7])):=iD
 generalize upd H26 pl (.lst ([.ref p8,.ref pc,.ref r7]))=H27 at PP hm4 e5' BB epl'
 clear tp epl k5
 have k5:=k4.but BB e5' so5
 have epl:=epl'
 clear epl' e5'
 subst hR1
 walk_at "D"
 refine⟨⟨pl,_,rfl,epl⟩,?_⟩
 simp_arith[k5.ed,c1]
 intro r8 hr8
 have q_r8:=iI hr8 (.lst (dx.take m))
 have e_r8:upd H27 r8 (.lst (dx.take m)) r8=some (.lst (dx.take m)):=iD
 replace k5:=k5.same q_r8
 replace BB:=BB.same q_r8
 replace hm4:=q_r8 _ _ hm4
 replace epl:=q_r8 _ _ epl
 generalize upd H27 r8 (.lst (dx.take m))=H28 at q_r8 e_r8 k5 BB hm4 epl
 simp_arith[k5.ed,c2]
 intro r9 hr9
 have q_r9:=iI hr9 (.lst (dx.drop (m+1)))
 have e_r9:upd H28 r9 (.lst (dx.drop (m+1))) r9=some (.lst (dx.drop (m+1))):=iD
 replace k5:=k5.same q_r9
 replace BB:=BB.same q_r9
 replace hm4:=q_r9 _ _ hm4
 replace epl:=q_r9 _ _ epl
 replace e_r8:=q_r9 _ _ e_r8
 generalize upd H28 r9 (.lst (dx.drop (m+1)))=H29 at q_r9 e_r9 k5 BB hm4 epl e_r8
 simp_arith[e_r8,e_r9]
 refine⟨by simp only[aB,aK,br];exact nJ (by lia),?_⟩
 intro ra hra
 have nra:ra≠pl:=(iX epl hra).symm
 have q_ra:=iI hra (.lst (dx.take m++dx.drop (m+1)))
 have e_ra:upd H29 ra (.lst (dx.take m++dx.drop (m+1))) ra=some (.lst (dx.take m++dx.drop (m+1))):=iD
 replace k5:=k5.same q_ra
 replace BB:=BB.same q_ra
 replace hm4:=q_ra _ _ hm4
 replace epl:=q_ra _ _ epl
 generalize upd H29 ra (.lst (dx.take m++dx.drop (m+1)))=H30 at q_ra e_ra k5 BB hm4 epl
 have py:kj H30 (dx.take m++dx.drop (m+1)) (ds.take m++ds.drop (m+1)):=n8 (qh m k5.pd) (qg (m+1) k5.pd)
 have lz:(ds.take m++ds.drop (m+1)).length<=121:=by
  simp only[aB,aK,br]
  lia
 generalize dx.take m++dx.drop (m+1)=ys at e_ra py
 generalize ds.take m++ds.drop (m+1)=d7 at py G2 lz
 intro rb hrb
 have q_rb:=iI hrb (.tup [.ref hl,.ref ra])
 have e_rb:upd H30 rb (.tup [.ref hl,.ref ra]) rb=some (.tup [.ref hl,.ref ra]):=iD
 replace k5:=k5.same q_rb
 replace BB:=BB.same q_rb
 replace hm4:=q_rb _ _ hm4
 replace epl:=q_rb _ _ epl
 replace e_ra:=q_rb _ _ e_ra
 replace py:=jA q_rb.tups py
 generalize upd H30 rb (.tup [.ref hl,.ref ra])=H31 at q_rb e_rb k5 BB hm4 epl e_ra py
 replace PP:=Paired.imp' (fun _ _ z=>PpN.same z (q_r8.trans (q_r9.trans (q_ra.trans q_rb)))) PP
 have P4:PpN pl H31 (.ref rb) (qs,d7):=⟨rb,hl,ra,rfl,e_rb,nl4,nra,⟨hx,k5.eh,k5.ph⟩,ys,e_ra,py⟩
 replace PP:=kF PP P4
 change Paired (PpN pl _) [V.ref p8,.ref pc,.ref r7,.ref rb] _ at PP
 simp_arith[epl]
 refine⟨by decide,?_⟩
 have tp:=kW (ys:=[.ref p8,.ref pc,.ref r7,.ref rb]) epl
 refine hR _ _ ⟨_,_,_,_,_,_,_,_,_,o5,rfl,BB.updf hpl,by rw[iL nls.symm];exact k5.e,so5,iD,Paired.imp' (fun _ _ z=>PpN.upd z tp) PP,fun p hp=>?_,(ai 4)⟩
 rcases bu.mp hp with hp|hp
 ·rcases bu.mp hp with hp|hp
  ·exact PB p hp
  ·rw[aV.mp hp]
   exact⟨G1,ly⟩
 ·rw[aV.mp hp]
  exact⟨G2,lz⟩
end
end My
namespace L2
open PySem PySem.Spec PyProof.Rows
section
variable{X:Cx}
theorem G5(a:Value):argsOk "min" ⟨[a],[]⟩:=by unfold argsOk;kernel_rfl
def Cw:List V->Hp->VK->Prop:=fun vs H Q=>∃(p:Addr) (ns:List Int),vs=[.ref p]/\H p=some (.tup (ns.map V.int))/\ns≠[]/\
 ∀m,m∈ns->(∀x∈ns,m<=x)->Q (.int m) H
theorem Gj(hc:X.calm=true):jc2 X (.builtin "min") Cw:=by
 intro pins s σ H xs us Q I r h
 obtain⟨p,ns,rfl,e,hne,q⟩:=h
 obtain⟨u,rfl,rx⟩:=mP r
 cases rx
 obtain⟨its,r',e',z⟩:=I.tuple (SqT.of e)
 have hlen:=r'.length
 have hI:=n6 r'
 have plt:p<s.heap.objs.size:=aD e'.choose_spec.1
 have hL:s.heap.IsTuple p its.toArray:=e'
 refine call_function_tree PySem.F.kind_min PySem.F.plain_min PySem.F.entry_min (G5 _) ?_
 show wpAny _ X.A.in1 (Builtin.Builtins.bindParams "min" ["key","default"] 0 ⟨[],[]⟩>>=_) _ _ s
 refine aa (eY (show Builtin.Builtins.bindParams "min" ["key","default"] 0 ⟨[],[]⟩=pure [none,none]from rfl) ?_)
 refine aa (ao ?_)
 refine aa (eP hL ?_)
 refine aa (fk ?_ (bj _))
 rw[oM]
 have hS:(s.heap.push {cls:=.type "tuple_iterator",data:=.fields #[.ref p,.int 0 0]}).objs.size=s.heap.objs.size+1:=ik ..
 have W:=Walks.tuple (prog:=X.prog) (w:=X.w) (A:=X.A.in1) (show X.A.in1.handled=none from I.ok.hd hc) s.heap.objs.size p (aP plt) its.toArray
 have hsz:its.toArray.size = ns.length:=by rw [ah,<- hlen,ae]
 have hval:∀(i:Nat) (v:Value),its.toArray[i]? =some v->∃t:Tok,v=Value.int (ns[i]?.getD 0) t:=fun i v hv=>by
  have hv':its[i]? =some v:=by simpa using hv
  have hi:i<ns.length:=by
   have:=(au.mp hv').1
   rw[ae]at hlen
   lia
  obtain⟨u,e1,t,e2⟩:=r'.get (i:=i) (x:=.int ns[i]) (by rw[aE,gE hi];rfl)
  rw[hv']at e1
  cases e1
  exact⟨t,by rw[e2,gE hi];rfl⟩
 have kp0:∀(h':Heap) (tk:Nat),(∀b o,b∉[s.heap.objs.size]->b≠(s.heap.push {cls:=.type "tuple_iterator",data:=.fields #[.ref p,.int 0 0]}).objs.size->((s.heap.push {cls:=.type "tuple_iterator",data:=.fields #[.ref p,.int 0 0]}).push {cls:=.type "list",data:=.seq #[]}).get? b=some o->h'.get? b=some o)->
   Inv X pins σ H {s with heap:=h',toks:=tk}:=fun h' tk k=>I.kept fun b o qq=>k b o (by
    intro z
    have:b=s.heap.objs.size:=by simpa using z
    exact absurd (aD qq) (by rw[this];exact cw _)) (by rw[hS];exact aP (cU (aD qq))) (af _ (af _ qq))
 have hst0:(fun i (h:Heap)=>h.IsTupleIter s.heap.objs.size p i/\h.IsTuple p its.toArray) 0 ((s.heap.push {cls:=.type "tuple_iterator",data:=.fields #[.ref p,.int 0 0]}).push {cls:=.type "list",data:=.seq #[]}):=
  ⟨⟨_,af _ (aI _ rfl),rfl,rfl⟩,(hL.push _).push _⟩
 have hSg:((s.heap.push {cls:=.type "tuple_iterator",data:=.fields #[.ref p,.int 0 0]}).push {cls:=.type "list",data:=.seq #[]}).get? (s.heap.push {cls:=.type "tuple_iterator",data:=.fields #[.ref p,.int 0 0]}).objs.size=some {cls:=.type "list",dict:=none,data:=.seq #[] 0,slots:=#[]}:=aI _ rfl
 have hSf:(s.heap.push {cls:=.type "tuple_iterator",data:=.fields #[.ref p,.int 0 0]}).objs.size∉[s.heap.objs.size,p]:=by
  rw[hS]
  intro z
  rcases aS.mp z with z|z
  ·exact absurd z (gW _)
  ·have z:=aV.mp z
   rw [<- z] at plt
   exact cw _ (av plt)
 refine ao ⟨cK bC _,?_⟩
 refine cS ee ?_
 rw[cv bC _]
 show wpAny _ X.A.in1 (seqItems? (.ref _)>>=_) _ _ _
 refine aa (bM hSg rfl ?_)
 show wpAny _ X.A.in1 (tryCatch (pyNext (.ref s.heap.objs.size)) _>>=_) _ _ _
 cases hn:ns with
 |nil=>exact absurd hn hne
 | cons n0 rest=>
  have hpos:0<its.toArray.size:=by rw[hsz,hn];simp
  refine aa (dD (W.item 0 _ _ _ hpos hst0 fun v h' tk hP hst' kp=>?_))
  obtain⟨t',rfl⟩:=hval 0 v hP
  have hS':=kp _ _ (fun z=>hSf (aS.mpr (.inl (aV.mp z)))) hSg
  show wpAny _ X.A.in1 (updateSeq _ (fun _=>#[_,_])>>=_) _ _ _
  refine aa ?_
  refine fL hS' rfl ?_
  rw[oM]
  refine ao ⟨cK bC _,AS W (fun i=>ns[i]?.getD 0) hval _ _ hSf _ 1 _ _ t' _ rfl hpos (W.frame _ _ _ hst' fun b hbf o e=>?_) ⟨⟨0,Nat.one_pos,rfl⟩,fun i hi=>by
   have:i=0:=by lia
   subst this;exact bA _⟩ (cR _ hS' rfl) fun m u h'' tk'' hB k''=>?_⟩
  ·exact(bF _ _ (fun z=>hSf (by rw[z];exact hbf))).trans e
  ·refine⟨.int m,H,kp0 h'' tk'' fun b o h1 h2 h3=>k'' b o h1 h2 ((bF _ _ (cX h2)).trans (kp b o h1 h3)),⟨u,rfl⟩,q m ?_ fun x hx=>?_⟩
   ·obtain⟨i,hi,e1⟩:=hB.1
    rw[hsz]at hi
    rw[e1]
    show ns[i]?.getD 0∈ns
    rw[gE hi]
    exact df hi
   ·obtain⟨i,hi,e1⟩:=bq.mp hx
    have:m<=ns[i]?.getD 0:=hB.2 i (by rw[hsz];exact hi)
    rw[gE hi]at this
    rw [<- e1]
    exact this
end
theorem E9(its:List Value):slicePick its.toArray none none (some (-1))=its.reverse.toArray:=by
 unfold slicePick
 congr 1
 have hb:sliceBounds none none (some (-1)) its.toArray.size=((its.length:Int)-1,-1,-1):=by
  simp[sliceBounds]
 rw[hb]
 have hr:sliceRange ((its.length:Int)-1) (-1) (-1)=(List.range its.length).map fun k=>its.length-1-k:=by
  unfold sliceRange
  have h0:¬((-1:Int)>0):=by decide
  simp only[h0,if_false]
  have hc:(if(its.length:Int)-1> -1 then((its.length:Int)-1- -1- -1-1)/(- -1)else 0).toNat=its.length:=by
   by_cases hn:(its.length:Int)-1> -1
   ·rw[aq hn]
    have e:(- -1:Int)=1:=by decide
    rw[e,Int.ediv_one];lia
   ·rw[ak hn];lia
  rw[hc]
  refine gh fun k hk=>?_
  have hk':k<its.length:=aU.mp hk
  lia
 rw[hr,gB]
 apply cV
 intro i
 have hm:(List.range its.length).filterMap ((fun x=>its.toArray[x]?)∘fun k=>its.length-1-k)=(List.range its.length).map fun k=>its.getD (its.length-1-k) .none:=by
  have:∀l:List Nat,(∀k∈l,k<its.length)->l.filterMap ((fun x=>its.toArray[x]?)∘fun k=>its.length-1-k)=l.map fun k=>its.getD (its.length-1-k) .none:=fun l=>by
   induction l with
   |nil=>intro _;rfl
   | cons k r ih=>
    intro hk
    have hk0:=hk k (.head _)
    have e:(its.toArray[its.length-1-k]?)=some (its.getD (its.length-1-k) .none):=by
     rw[List.getElem?_toArray,aC,gE (by lia)]
     rfl
    rw[List.filterMap_cons]
    have e':((fun x=>its.toArray[x]?)∘fun k=>its.length-1-k) k=some (its.getD (its.length-1-k) .none):=e
    rw[e']
    dsimp only
    rw[ag,ih fun j hj=>hk j (.tail _ hj)]
  exact this _ fun k hk=>aU.mp hk
 rw[hm]
 by_cases c:i<its.length
 ·rw[aE,cH c,fX c]
  show some (its.getD (its.length-1-i) .none)=_
  rw[aC,gE (by lia)]
  rfl
 ·rw[ba (by rw[ae,bg];lia),ba (by rw[eM];lia)]
def Bi(te:TE):TE:=fun σ H Q=>te σ H fun x H1=>match x with
 | .ref a=>match H1 a with
  |some (.lst xs)=>∀p,H1 p=none->Q (.ref p) (upd H1 p (.lst xs.reverse))
  |_=>False
 |_=>False
theorem zU:∀{vs:List V} {us:List Value},Vals vs us->Vals vs.reverse us.reverse
 |_,_,.nil=>.nil
 |_,_,.cons r t=>by
  rw[fh,fh]
  exact(zU t).append (.cons r .nil)
theorem xP{X:Cx}{e:Expr}{te:TE}{k:Nat}{z1 z2 p2 pos:Pos}(he:PE X e te):PE X (.Subscript e (.Slice none none (some (.UnaryOp .USub (.Constant (.int 1) k z1) z2)) p2) pos) (Bi te):=by
 intro pins s σ H Q I h
 refine gr (iJ (he pins s σ H _ I h) fun v s1 ⟨x,H1,I1,r1,q1⟩=>?_)
 refine wpAny_Slice ?_
 simp only[evalPart_none]
 refine ao (ao ?_)
 rw[evalPart_some]
 have hm:PE X (.UnaryOp .USub (.Constant (.int 1) k z1) z2) (sX vS (tC (.int 1))):=ng ni iE
 refine iJ (hm pins s1 σ H1 (fun y H2=>y= .int (-1)/\H2=H1) I1 ⟨rfl,rfl⟩) fun st s2 ⟨y,H2,I2,r2,ey,eh⟩=>?_
 subst ey eh
 obtain⟨t2,rfl⟩:=r2
 split at q1
 ·rename_i a
  split at q1
  ·rename_i xs ea
   cases r1
   have I4:Inv X pins σ H2 {s2 with heap:=s2.heap.push {cls:=.type "slice",data:=.fields #[.none,.none,.int (-1) t2]}}:=I2.kept (t':=s2.toks) fun b ob q=>af _ q
   obtain⟨its,r,ht,hz⟩:=I4.list (SqL.of ea)
   have hlen:=r.length
   show wpAny (model X.prog X.w) X.A (subscriptTail e (.Slice none none (some (.UnaryOp .USub (.Constant (.int 1) k z1) z2)) p2) (.ref a) (.ref s2.heap.objs.size)) (EP X pins σ Q) X.xe {s2 with heap:=s2.heap.push {cls:=.type "slice",data:=.fields #[.none,.none,.int (-1) t2]}}
   refine tail_any (ops:=[.ref a,.ref s2.heap.objs.size]) ht.isList.typeIs eZ.lookup ?_ (by with_unfolding_all rfl)
   refine fm ht.isList (gD ..) .none .none (.int (-1) t2) (by decide) ?_ (by rw[ah]<;>lia)
   rw[E9]
   refine⟨.ref _,_,I4.laid (t':=s2.toks) (o:=.lst xs.reverse) (fun b ob q=>af _ q) (ai _) ?_,rfl,q1 _ (I4.hok.fresh (ai _))⟩
   exact⟨by rw[eM];exact hz,_,0,zU r,aI _ rfl⟩
  ·exact q1.elim
 ·exact q1.elim
end L2
namespace My
open PySem L2
section
variable{P:Program}{w:World}{K:PySem.W.Frag}{mg:Str->Option Value}{base:Heap}{c1 c2 c3 c4:Tok}{C_NoWeb fql:Addr}{dI:FuncData}
def qZ(K:PySem.W.Frag):Sp:=fun vs H Q _=>∃a ns,vs=[.ref a]/\Scr K H a ns/\∀H',Q (.bl true) H'
theorem DF(ps ts:List (Int×Int))(r:List Int):(ml ps ts r).length<=ts.length:=by
 unfold ml mW
 refine bD (fW _ _) ?_
 rw[ae,bg]
 exact ai _
theorem zr{p q:Nat->Int}:∀{k:Nat},(∀i,i<=k->p i=q i)->fA p k=fA q k
 |0,h=>by unfold fA;rw[h 0 (ai _)]
 |k+1,h=>by rw[rH,rH,zr fun i hi=>h i (by lia),h (k+1) (ai _)]
theorem D6(ss:List (Int×Int)){k:Nat}(h:k<ss.length):iP ss.reverse k=rv ss.length (iP ss) k:=by
 unfold iP rv
 rw[aC,fX h]
 dsimp only
 rw[aC]
theorem Ip(ss:List (Int×Int)){k:Nat}(h:k<ss.length):fA (iP ss.reverse) k=fA (rv ss.length (iP ss)) k:=zr fun i hi=>D6 ss (by lia)
theorem tY{ss:List (Int×Int)}{n k:Nat}(h:k<n):(lA ss n)[k]? =some (fA (iP ss) k):=by
 unfold lA
 rw[aE,cH h]
 rfl
theorem vC{α β:Type}{F:α->β->Prop}:∀{xs:List α} {ys:List β},Paired F xs ys->Paired F xs.reverse ys.reverse
 |_,_,.nil=>.nil
 |_,_,.cons h t=>by
  rw[fh,fh]
  exact kF (vC t) h
noncomputable def mV(ss:List (Int×Int))(i:Nat):List (Int×Int):=(List.range i).map fun k=>(i7 ss k,lC ss k)
theorem FD(ss:List (Int×Int))(i:Nat):mV ss (i+1)=mV ss i++[(i7 ss i,lC ss i)]:=vE _ i
theorem zq(ss:List (Int×Int))(i:Nat):(mV ss i).length=i:=by unfold mV;rw[ae,bg]
theorem IC(ss:List (Int×Int))(k:Nat):0<=lC ss k/\lC ss k<=2:=by
 unfold lC
 split
 ·decide
 ·split<;>decide
theorem DG(ss:List (Int×Int))(k:Nat):1+(if decide (wI (iP ss) ss.length k<wO (iP ss) ss.length k)=true then(1:Int)else 0)-(if decide (wO (iP ss) ss.length k<wI (iP ss) ss.length k)=true then(1:Int)else 0)=lC ss k:=by
 unfold lC
 generalize wI (iP ss) ss.length k=I
 generalize wO (iP ss) ss.length k=O
 by_cases c:I<O
 ·rw[aq (aG c),ak (by simp;lia),aq c];decide
 ·rw[ak (by simpa using c),ak c]
  by_cases d:O<I
  ·rw[aq (aG d),aq d];decide
  ·rw[ak (by simpa using d),ak d];decide
theorem Ar:∀{ms:List Int},ms.Pairwise (·<=·)->ms.Nodup->ms.Pairwise (·<·)
 |[],_,_=>.nil
 |n::r,h,nd=>by
  have h':=dm.mp h
  have nd':=bt.mp nd
  refine dm.mpr ⟨fun m hm=>?_,Ar h'.2 nd'.2⟩
  have:=h'.1 m hm
  have:n≠m:=fun z=>nd'.1 (by rw[z];exact hm)
  lia
theorem y9{kvs:List (iF×V)}:∀{ts:List (Int×Int)} {q:Int×Int},ts.Pairwise lJ->ts.Nodup->(∀t∈ts,HT.lexLt [q.1,q.2] [t.1,t.2]=true)->(∀t∈ts,t.1<t.2/\jB kvs t.1=true/\jB kvs t.2=true)->TiOk kvs q ts
 |[],_,_,_,_,_=>trivial
 | t::r,q,h,nd,hq,hk=>by
  have h':=dm.mp h
  have nd':=bt.mp nd
  refine⟨⟨hq t (aM ..),hk t (aM ..)⟩,y9 h'.2 nd'.2 (fun u hu=>?_) fun u hu=>hk u (aF _ hu)⟩
  have le:=h'.1 u hu
  have ne:t≠u:=fun z=>nd'.1 (by rw[z];exact hu)
  unfold lJ at le
  rcases le with le|⟨e,le⟩
  ·exact uf le
  ·rw[e]
   refine xF ?_
   rcases Int.lt_or_eq_of_le le with z|z
   ·exact z
   ·exact absurd (fw e z) ne
theorem yD:∀{ps:List (Int×Int)} {l s:Int},(∀p∈ps,l<p.1/\p.1<=999/\1<=p.2)->ps.Pairwise (fun a b=>a.1<b.1)->s+(ps.map (·.2)).sum<=1000000000000->PlOk l s ps
 |[],_,_,_,_,_=>trivial
 |p::r,l,s,h,hp,hs=>by
  have h1:=h p (aM ..)
  have hp':=dm.mp hp
  rw[ag,List.sum_cons]at hs
  have nn:=Fl.ou (f:=fun q:Int×Int=>q.2) (l:=r) fun m hm=>by have:=h m (aF _ hm);lia
  exact⟨⟨h1.1,h1.2.1,h1.2.2,by lia⟩,yD (fun m hm=>⟨hp'.1 m hm,(h m (aF _ hm)).2⟩) hp'.2 (by lia)⟩
theorem Ef{ss:List (Int×Int)}(S:StrOk ss){t:Int×Int}(h:t∈l6 ss):∃k,k+1<ss.length/\t=mm ss k:=by
 obtain⟨k,hk,rfl⟩:=aL.mp h
 exact⟨k,by have:=aU.mp hk;lia,rfl⟩
theorem Di{a b c d:Int}(e:(min a b,max a b)=(min c d,max c d)):(a=c/\b=d)\/(a=d/\b=c):=by
 have e1:=(Prod.mk.inj e).1
 have e2:=(Prod.mk.inj e).2
 lia
theorem Eg{ss:List (Int×Int)}(S:StrOk ss):(l6 ss).Nodup:=by
 refine bK.mpr (fq (fun{i j} hi hj h e=>h ?_) (List.nodup_range (n:=ss.length-1)))
 have hi:=aU.mp hi
 have hj:=aU.mp hj
 unfold mm at e
 rcases Di e with⟨e1,_⟩|⟨e1,e2⟩
 ·exact pM S.nd (by lia) (by lia) e1
 ·have a:=pM S.nd (i:=i) (j:=j+1) (by lia) (by lia) e1
  have b:=pM S.nd (i:=i+1) (j:=j) (by lia) (by lia) e2
  lia
theorem xw{ps ss:List (Int×Int)}(S:StrOk ss)(pp:ps.Perm ss)(sp:ps.Pairwise lJ):ps.Pairwise (fun a b=>a.1<b.1):=by
 have h1:(ps.map (·.1)).Pairwise (·<=·):=bK.mpr (sp.imp fun{a b} h=>by unfold lJ at h;lia)
 exact bK.mp (Ar h1 (vo pp.symm S.nd))
theorem F9{ps ts ss:List (Int×Int)}(S:StrOk ss)(pp:ps.Perm ss)(sp:ps.Pairwise lJ)(pt:ts.Perm (l6 ss))(st:ts.Pairwise lJ):WebOk ps ts:=by
 have nd:(ps.map (·.1)).Nodup:=vo pp.symm S.nd
 have asc:=xw S pp sp
 have hall:∀p∈ps,-1<p.1/\p.1<=999/\1<=p.2:=fun p hp=>by
  have:=S.b p (pp.mem_iff.mp hp)
  lia
 have hs:(ps.map (·.2)).sum<=1000000000000:=by
  rw[Au (pp.map (·.2))]
  exact S.s
 have l40:=S.l40
 have ltt:ts.length<=120:=by
  rw[pt.length_eq]
  unfold l6
  rw[ae,bg]
  lia
 have hk:∀k,k<ss.length->jB (jj ps) (i7 ss k)=true:=fun k hk=>by
  have hm:ss.getD k (0,0)∈ps:=pp.mem_iff.mpr (ay (l7 hk))
  exact DK nd hm
 have hts:∀t∈ts,t.1<t.2/\jB (jj ps) t.1=true/\jB (jj ps) t.2=true/\0<=t.1:=fun t ht=>by
  obtain⟨k,hk2,rfl⟩:=Ef S (pt.mem_iff.mp ht)
  have n1:=(qL S (k:=k) (by lia)).1
  have n2:=(qL S (k:=k+1) hk2).1
  have ne:i7 ss k≠i7 ss (k+1):=fun e=>by have:=pM S.nd (by lia) hk2 e;lia
  have h1:=hk k (by lia)
  have h2:=hk (k+1) hk2
  unfold mm
  dsimp only
  rcases Int.le_total (i7 ss k) (i7 ss (k+1))with l|l
  ·rw[h9 l,g9 l];exact⟨by lia,h1,h2,n1⟩
  ·rw[g6 l,ic l];exact⟨by lia,h2,h1,n2⟩
 refine⟨by rw[pp.length_eq];exact l40,yD hall asc (by lia),ltt,y9 st (pt.nodup_iff.mpr (Eg S)) (fun t ht=>?_) fun t ht=>⟨(hts t ht).1,(hts t ht).2.1,(hts t ht).2.2.1⟩⟩
 have:=(hts t ht).2.2.2
 exact uf (a:=(-1)) (by lia)
theorem EI{a b:Int×Int}(h:lJ a b)(g:lJ b a):a=b:=by
 unfold lJ at h g
 exact fw (by lia) (by lia)
theorem Fw{ps ts:List (Int×Int)}(wk:WebOk ps ts)(y:Int->Int):km ps (ps.map fun p=>(p.1,y p.1))=kP ps y:=by
 unfold km kP
 rw[bz]
 refine Fl.j8 fun p hp=>?_
 have:=oO wk p hp
 show jV ps p.1*y p.1=_
 rw[this]
noncomputable def rg(ss:List (Int×Int)):Int:=2*min (wI (iP ss) ss.length (ss.length-1)) (wO (iP ss) ss.length (ss.length-1))
theorem Fx{ss:List (Int×Int)}{n:Nat}(h:ss.length=n+1):rg ss=2*min (fA (iP ss) n).1 (fA (iP ss) n).2:=by
 unfold rg wI wO
 rw[h,show n+1-1-(n+1-1)=0 by lia,show n+1-1=n by lia]
 show 2*min ((fA (iP ss) n).1+rv (n+1) (iP ss) 0-iP ss n) ((fA (iP ss) n).2+0)=_
 rw[show rv (n+1) (iP ss) 0=iP ss n by unfold rv;rw[show n+1-1-0=n by lia]]
 lia
theorem GN{ps ts ss:List (Int×Int)}{r:List Int}(wk:WebOk ps ts)(h:Rst ps ts r)(pp:ps.Perm ss)(pt:ts.Perm (l6 ss))(l:1<=ss.length):kP ps (jP ps ts r)=rg ss:=(AZ wk h pp pt (j:=ss.length-1) (by lia)).2
theorem Es{ps ts ss:List (Int×Int)}{r:List Int}(wk:WebOk ps ts)(h:Rst ps ts r)(pp:ps.Perm ss)(pt:ts.Perm (l6 ss)):(ps.map fun p=>(p.1,jP ps ts r p.1)).Perm (mV ss ss.length):=by
 have e:mV ss ss.length=ss.map fun p=>(p.1,jP ps ts r p.1):=by
  refine cV fun k=>?_
  unfold mV
  by_cases c:k<ss.length
  ·rw[aE,cH c,aE,l7 c]
   show some (i7 ss k,lC ss k)=some (i7 ss k,jP ps ts r (i7 ss k))
   rw[(AZ wk h pp pt c).1]
  ·rw[ba (by rw[ae,bg];lia),ba (by rw[ae];lia)]
 rw[e]
 exact pp.map _
theorem De(B:Blt mg)(D:DefAt K mg "law" (iG 46) ["_law_script"] f fd)(Dqy:DefAt K mg "_law_begun" (iG 40) ["_law_script","_law_k"] fqy dqy)(Gqy:FnOk P w K mg base iK 1 fqy dqy ["_law_script","_law_k"] (yN K))(Dq0:DefAt K mg "_law_string" (iG 42) ["_law_state"] fq0 dq0)(Gq0:FnOk P w K mg base iK 3 fq0 dq0 ["_law_state"] zN)(Dqj:DefAt K mg "_law_ahead" (iG 44) ["_law_string_here"] fqj dqj)(Gqj:FnOk P w K mg base iK 1 fqj dqj ["_law_string_here"] yM)(Dq1:DefAt K mg "_law_web_of" (iG 43) ["_law_string_here"] fq1 dq1)(Gq1:FnOk P w K mg base iK 1 fq1 dq1 ["_law_string_here"] yY)(Dqe:DefAt K mg "_law_own" (iG 39) ["_law_web"] fqe dqe)(Gqe:FnOk P w K mg base iK 1 fqe dqe ["_law_web"] uk)(Dqu:DefAt K mg "halves_of" (iG 37) ["web"] fqu dqu)(Gqu:FnOk P w K mg base iK 7 fqu dqu ["web"] rB)(Dqz:DefAt K mg "_law_bent_right" (iG 45) ["_law_state","_law_web","_law_halves","_law_dues"] fqz dqz)(Gqz:FnOk P w K mg base iK 7 fqz dqz ["_law_state","_law_web","_law_halves","_law_dues"] xZ):FnOk P w K mg base iK 9 f fd ["_law_script"] (qZ K):=by
 have sc:FnScope ["_law_script","_law_k","_law_state","_law_string_here","_law_one","_law_other","_law_due","_law_least","_law_j","_law_with_it","_law_without_it","_law_h","_law_web","_law_halves","_law_dues","_law_prices"] ["_law_script"] (jb (iG 46)):=by walk_at "SC"
 refine D.F.ok sc (fun vs H Q E h=>?_) (fun cdv A outer s H vs Q E hr h=>?_)
 ·obtain⟨a,ns,rfl,_⟩:=h
  rfl
 obtain⟨a,ns,rfl,hs,h⟩:=h
 have hu:=jh hr
 have hu0:_<PySem.cLine:=av hu
 refine⟨_,(iH (kR bo rfl (se rfl B.range (iw (jf (xj rfl) rfl B.max PyProof.Rows.boot_max (iw iE (iw (jf (tQ rfl) rfl B.min dA (iw (jf vI rfl B.len bw (iw (qv 0) iC)) (iw iE iC))) iC))) iC)) (iV (i:=1) sc.nd rfl (Or.inl rfl)) (iH (iT (i:=2) sc.nd rfl (Or.inl rfl) (i9 Gqy (hr.mono (by decide)) rfl Dqy.m Dqy.F.kp Dqy.b .nil iW (iw (qv 0) (iw (qv 1) iC)))) (iH (iT (i:=3) sc.nd rfl (Or.inl rfl) (i9 Gq0 (hr.mono (by decide)) rfl Dq0.m Dq0.F.kp Dq0.b .nil iW (iw (qv 2) iC))) (iH (iT (i:=4) sc.nd rfl (Or.inl rfl) (i9 Gqj (hr.mono (by decide)) rfl Dqj.m Dqj.F.kp Dqj.b .nil iW (iw (qv 3) iC))) (iH (iT (i:=5) sc.nd rfl (Or.inl rfl) (xP (i9 Gqj (hr.mono (by decide)) rfl Dqj.m Dqj.F.kp Dqj.b .nil iW (iw (xP (qv 3)) iC)))) (iH (iT (i:=6) sc.nd rfl (Or.inl rfl) (ki iC)) (iH (iT (i:=7) sc.nd rfl (Or.inl rfl) (jf (Gj rfl) rfl B.min dA (iw (iM iN (qv 4) (ng ni iE) (fun _ _=>rfl)) iC))) (iH (kR bo rfl (se rfl B.range (iw (jf k6 rfl B.len bw (iw (qv 3) iC)) iC)) (iV (i:=8) sc.nd rfl (Or.inl rfl)) (iH (iT (i:=9) sc.nd rfl (Or.inl rfl) (iR qY (iR jv (iM iN (iM iN (qv 4) (qv 8) (fun _ _=>rfl)) iE (fun _ _=>rfl)) (iM iN (iM iN (qv 5) (qv 8) (fun _ _=>rfl)) iE (fun _ _=>rfl))) (iM iN (iM iN (qv 3) (qv 8) (fun _ _=>rfl)) iE (fun _ _=>rfl)))) (iH (iT (i:=10) sc.nd rfl (Or.inl rfl) (iR jv (iM iN (iM iN (qv 4) (qv 8) (fun _ _=>rfl)) iE (fun _ _=>rfl)) (iM iN (iM iN (qv 5) (qv 8) (fun _ _=>rfl)) iE (fun _ _=>rfl)))) (iH (iT (i:=11) sc.nd rfl (Or.inl rfl) (iR qY (iR jv iE (mf xR rfl B.int fU (iw (lp ow (qv 9) (qv 10) (jz _)) iC))) (mf xR rfl B.int fU (iw (lp ow (qv 10) (qv 9) (jz _)) iC)))) (iO (ke (kY aX aZ aY lr (qv 6) (iw (jJ (iw (iM iN (iM iN (qv 3) (qv 8) (fun _ _=>rfl)) iE (fun _ _=>rfl)) (iw (qv 11) iC))) iC)))))))) (iH (iT (i:=12) sc.nd rfl (Or.inl rfl) (i9 Gq1 (hr.mono (by decide)) rfl Dq1.m Dq1.F.kp Dq1.b .nil iW (iw (qv 3) iC))) (iH (nk (i9 Gqu (hr.mono (by decide)) rfl Dqu.m Dqu.F.kp Dqu.b .nil iW (iw (i9 Gqe (hr.mono (by decide)) rfl Dqe.m Dqe.F.kp Dqe.b .nil iW (iw (qv 12) iC)) iC)) (jS (n:=2) rfl (ja (iV (i:=13) sc.nd rfl (Or.inl rfl)) (ja (iV (i:=14) sc.nd rfl (Or.inl rfl)) jT)))) (iH (iT (i:=15) sc.nd rfl (Or.inr rfl) (mf (oJ rfl) rfl B.dict cA (iw (qv 3) iC))) (iH (j0 (PW.pt (nh (kH (xM hr.units) (qv 13) (jf vz rfl B.sorted dP (iw (qv 6) iC)) (jz _)) (pO (kH qF (jf (pJ rfl) rfl B.sum dy (iw (kI (CpScope.of (N:=["_law_place","_law_h","_law_prices"]) (src:=[none,none,some 15]) (by rfl)) rfl (kc (qv 13)) (fun _ _ _ _=>(jS (n:=2) rfl (ja (iV (i:=0) (jn (l:=["_law_place","_law_h","_law_prices"]) (by rfl)) rfl (Or.inl rfl)) (ja (iV (i:=1) (jn (l:=["_law_place","_law_h","_law_prices"]) (by rfl)) rfl (Or.inl rfl)) jT)))) (fun _ _ _ _=>kJ) (fun _ _ _ _=>(iR lK (lS hu (qv 2) (qv 0) (fun _ _=>rfl)) (qv 1)))) iC)) (iR lK iE (qv 7)) (jz _))))) (iO (jc kQ)) j6) (iH (j0 (kH qF (jf (pJ rfl) rfl B.sum dy (iw (kI (CpScope.of (N:=["_law_one_end","_law_other_end","_law_amount"]) (src:=[none,none,none]) (by rfl)) rfl (kc (qv 14)) (fun _ _ _ _=>(jS (n:=3) rfl (ja (iV (i:=0) (jn (l:=["_law_one_end","_law_other_end","_law_amount"]) (by rfl)) rfl (Or.inl rfl)) (ja (iV (i:=1) (jn (l:=["_law_one_end","_law_other_end","_law_amount"]) (by rfl)) rfl (Or.inl rfl)) (ja (iV (i:=2) (jn (l:=["_law_one_end","_law_other_end","_law_amount"]) (by rfl)) rfl (Or.inl rfl)) jT))))) (fun _ _ _ _=>kJ) (fun _ _ _ _=>(qv 2))) iC)) (iR lK iE (qv 7)) (jz _)) (iO (jc kQ)) j6) (iO (j0 (kS (kU (i9 Gqz (hr.mono (by decide)) rfl Dqz.m Dqz.F.kp Dqz.b .nil iW (iw (qv 2) (iw (qv 12) (iw (qv 13) (iw (qv 14) iC))))))) (iO (jc kQ)) j6))))))))))))))) (iO (jc kQ))),?_⟩
 refine iQ fun R hR=>?_
 obtain⟨N,hN,hN2⟩:∃N:Nat,N=(if(1:Int)<(if(2:Int)<(ns.length:Int)then 2 else(ns.length:Int))then(if(2:Int)<(ns.length:Int)then 2 else(ns.length:Int))else 1).toNat/\N<70:=⟨_,rfl,by split<;>split<;>lia⟩
 refine lu (lZ 0 N) H (fun R' hR'=>?_) (rZ (n:=N) (fun i σ H1=>∃v1 v2 v3 v4 v5 v6 v7 v8 v9 v10 v11 v12 v13 v14 v15,σ=[some (.ref a),v1,v2,v3,v4,v5,v6,v7,v8,v9,v10,v11,v12,v13,v14,v15]/\Scr K H1 a ns) ⟨none,none,none,none,none,none,none,none,none,none,none,none,none,none,none,rfl,hs⟩ ?_ ?_)
 ·unfold pH
  walk_at "D"
  refine⟨a,_,rfl,.inl hs.sq,?_⟩
  simp_arith[ae]
  refine⟨_,rfl,?_,?_,?_⟩
  ·split<;>split<;>lia
  ·split<;>split<;>lia
  ·rw [<- hN]
   exact hR'
 ·rintro i σ H1 hi ⟨v1,v2,v3,v4,v5,v6,v7,v8,v9,v10,v11,v12,v13,v14,v15,rfl,hs1⟩
  simp only[mK,List.set_cons_zero,List.set_cons_succ]
  refine iQ fun R9 hR9=>?_
  walk_at "D"
  refine⟨a,0+(i:Int),ns,rfl,hs1,by lia,by lia,fun st o hst so=>?_⟩
  have s2:=iI hst o
  have e2:upd H1 st o st=some o:=iD
  have hs2:=hs1.tups s2.tups
  generalize upd H1 st o=H2 at s2 e2 hs2
  subst hR9
  refine iQ fun R9 hR9=>?_
  walk_at "D"
  refine⟨st,o,rfl,e2,so,fun sl xs ss H3 o3 b3 e3 so3 fsl el px SK=>?_⟩
  have hs3:=hs2.tups (b3.tups e2 so.imm)
  have hxl:=aw px
  have l40:=SK.l40
  have l1:=SK.l1
  clear s2 e2 hs2 hs1 hst b3 fsl so
  subst hR9
  refine iQ fun R9 hR9=>?_
  walk_at "D"
  refine⟨sl,xs,ss,rfl,el,px,l40,fun fl ys H4 s4 ffl ef pf=>?_⟩
  have el4:=s4 _ _ el
  have px4:=Prs.same s4 px
  subst hR9
  refine iQ fun R9 hR9=>?_
  simp_arith[Bi,el4]
  intro ql hql
  have q5:=iI hql (.lst xs.reverse)
  have eq5:upd H4 ql (.lst xs.reverse) ql=some (.lst xs.reverse):=iD
  have pq5:=Prs.same q5 (vC px4)
  have s5:=s4.trans q5
  have ef5:=q5 _ _ ef
  have pf5:=Prs.same q5 pf
  generalize upd H4 ql (.lst xs.reverse)=H5 at q5 eq5 pq5 s5 ef5 pf5
  refine⟨ql,xs.reverse,ss.reverse,rfl,eq5,pq5,by rw[eM];exact l40,fun rl zs H6 s6 frl er pr=>?_⟩
  simp_arith[er]
  intro pl hpl
  have q7:=iI hpl (.lst zs.reverse)
  have e7:upd H6 pl (.lst zs.reverse) pl=some (.lst zs.reverse):=iD
  have s7:=(s5.trans s6).trans q7
  have p7:=Prs.same q7 (vC pr)
  have ef7:=q7 _ _ (s6 _ _ ef5)
  have pf7:=Prs.same (s6.trans q7) pf5
  generalize upd H6 pl (.lst zs.reverse)=H7 at q7 e7 s7 p7 ef7 pf7
  generalize zs.reverse=us at e7 p7
  clear s4 s5 s6 q5 eq5 pq5 ef5 pf5 er pr q7 ef pf el4 px4 hql ffl frl
  subst hR9
  refine iQ fun R9 hR9=>?_
  walk_at "D"
  intro dl hdl
  have q8:=iI hdl (.lst [])
  have e8:upd H7 dl (.lst []) dl=some (.lst []):=iD
  have s8:=s7.trans q8
  have ef8:=q8 _ _ ef7
  have pf8:=Prs.same q8 pf7
  have eo8:=q8 _ _ e7
  have po8:=Prs.same q8 p7
  generalize upd H7 dl (.lst [])=H8 at q8 e8 s8 ef8 pf8 eo8 po8
  have el8:=s8 _ _ el
  have px8:=Prs.same s8 px
  have fdl:H3 dl=none:=s7.free hdl
  have nfl:fl≠dl:=iX ef7 hdl
  have npl:pl≠dl:=iX e7 hdl
  have nsl:sl≠dl:=iX (s7 _ _ el) hdl
  clear s7 e7 p7 ef7 pf7 hdl q8
  subst hR9
  refine iQ fun R9 hR9=>?_
  obtain⟨n,hn⟩:∃n,ss.length=n+1:=⟨ss.length-1,by lia⟩
  have hyl:=aw pf8
  rw[pT]at hyl
  have hfl:(lA ss ss.length)[n]? =some (fA (iP ss) n):=tY (by lia)
  obtain⟨x0,g0,b0,rfl,e0⟩:=lX pf8 hfl
  have a0:jl ys (-1)=some (.ref b0):=by
   have hix:kK ys.length (-1)=some n:=by
    unfold kK
    rw[ak (by decide),aq (by lia)]
    congr 1
    lia
   unfold jl
   rw[hix]
   exact g0
  simp_arith[iS,ef8,a0]
  refine⟨b0,[(fA (iP ss) n).1,(fA (iP ss) n).2],rfl,e0,(by simp),fun m hm1 hm2=>?_⟩
  have hm:m=min (fA (iP ss) n).1 (fA (iP ss) n).2:=by
   have h1:=hm2 _ (aM ..)
   have h2:=hm2 _ (aF _ (aM ..))
   rcases aS.mp hm1 with h3|h3
   ·lia
   ·have h3:=aV.mp h3
    lia
  clear hm1 hm2 e0 a0 g0 hfl
  walk_at "D"
  have kfm:∀k,k<ss.length->∃b1 b2 b3:Addr,jl ys (0+(k:Int))=some (.ref b1)/\jl us (0+(k:Int))=some (.ref b2)/\jl xs (0+(k:Int))=some (.ref b3)/\H8 b1=some (.tup [.int (fA (iP ss) k).1,.int (fA (iP ss) k).2])/\H8 b2=some (.tup [.int (fA (rv ss.length (iP ss)) (ss.length-1-k)).1,.int (fA (rv ss.length (iP ss)) (ss.length-1-k)).2])/\H8 b3=some (.tup [.int (i7 ss k),.int (iP ss k)]):=fun k hk=>by
   obtain⟨_,g1,b1,rfl,e1⟩:=lX pf8 (tY hk)
   have h2:(lA ss.reverse ss.reverse.length).reverse[k]? =some (fA (rv ss.length (iP ss)) (ss.length-1-k)):=by
    rw[eM,fX (by rw[pT];exact hk),pT,tY (by lia),Ip ss (by lia)]
   obtain⟨_,g2,b2,rfl,e2⟩:=lX po8 h2
   obtain⟨_,g3,b3,rfl,e3⟩:=lX px8 (l7 hk)
   rw[Int.zero_add]
   exact⟨b1,b2,b3,ll g1,ll g2,ll g3,e1,e2,e3⟩
  have hm':rg ss=2*m:=by rw[hm];exact Fx hn
  clear hm hyl hn
  subst hR9
  refine iQ fun R9 hR9=>?_
  refine lu (lZ 0 ss.length) H8 (fun R' hR'=>?_) (rZ (n:=ss.length) (fun i' σ Hc=>∃w8 w9 w10 w11 ds,σ=[some (.ref a),some (.int (0+(i:Int))),some (.ref st),some (.ref sl),some (.ref fl),some (.ref pl),some (.ref dl),some (.int m),w8,w9,w10,w11,v12,v13,v14,v15]/\Same H3 Hc/\(∀b o,b≠dl->H8 b=some o->Hc b=some o)/\Hc dl=some (.lst ds)/\Prs Hc ds (mV ss i')) ⟨v8,v9,v10,v11,[],rfl,s8,fun _ _ _ q=>q,e8,.nil⟩ ?_ ?_)
  ·unfold pH
   simp_arith[iS,el8]
   exact⟨_,rfl,by lia,by lia,by rw[hxl];simpa using hR'⟩
  ·rintro i' σ Hc hi' ⟨w8,w9,w10,w11,ds,rfl,sc,bc,ec,pc⟩
   obtain⟨b1,b2,b3,a1,a2,a3,f1,f2,f3⟩:=kfm i' hi'
   have nd1:∀{b:Addr} {l:List V},H8 b=some (.tup l)->b≠dl:=fun h z=>by rw[z,e8]at h;cases h
   have c1:=bc _ _ (nd1 f1) f1
   have c2:=bc _ _ (nd1 f2) f2
   have c3:=bc _ _ (nd1 f3) f3
   have cf:=bc _ _ nfl ef8
   have cp:=bc _ _ npl eo8
   have cs:=bc _ _ nsl el8
   have hdl:=aw pc
   rw[zq]at hdl
   have dv:=DG ss i'
   clear f1 f2 f3 kfm
   simp only[mK,List.set_cons_zero,List.set_cons_succ]
   refine iQ fun R8 hR8=>?_
   simp_arith[iS,cf,cp,cs,a1,a2,a3,c1,c2,c3,jm,jK]
   subst hR8
   refine iQ fun R8 hR8=>?_
   simp_arith[iS,cf,cp,cs,a1,a2,a3,c1,c2,c3,jm,jK]
   rw[show(fA (iP ss) i').1+(fA (rv ss.length (iP ss)) (ss.length-1-i')).1-iP ss i'=wI (iP ss) ss.length i' from rfl,show(fA (iP ss) i').2+(fA (rv ss.length (iP ss)) (ss.length-1-i')).2=wO (iP ss) ss.length i' from rfl]
   subst hR8
   refine iQ fun R8 hR8=>?_
   walk_at "D"
   rw[dv]
   generalize wI (iP ss) ss.length i'=cI
   generalize wO (iP ss) ss.length i'=cO
   subst hR8
   walk_at "D"
   refine⟨⟨dl,_,rfl,ec⟩,?_⟩
   simp_arith[iS,cs,a3,c3,jm]
   intro t ht
   have q9:=iI ht (.tup [.int (i7 ss i'),.int (lC ss i')])
   have e9:upd Hc t (.tup [.int (i7 ss i'),.int (lC ss i')]) t=some (.tup [.int (i7 ss i'),.int (lC ss i')]):=iD
   have ec9:=q9 _ _ ec
   have t9:=kW (ys:=ds++[.ref t]) ec9
   simp_arith[ec9]
   refine⟨jr (by lia),_,_,_,_,_,rfl,jD (sc.trans q9) fdl,fun b o nb q=>?_,iD,?_⟩
   ·rw[iL nb]
    exact q9 _ _ (bc _ _ nb q)
   ·rw[FD]
    exact kF (Prs.tups t9 (Prs.same q9 pc)) (⟨t,rfl,t9 _ _ rfl e9⟩:Pr _ _ (i7 ss i',lC ss i'))
  rintro σ H9 ⟨w8,w9,w10,w11,ds,rfl,s9,b9,e9,p9⟩
  clear kfm b9 ef8 pf8 eo8 po8 e8 s8 el8 px8 nfl npl nsl fdl
  have el9:=s9 _ _ el
  have px9:=Prs.same s9 px
  have hdl:=aw p9
  rw[zq]at hdl
  refine(?_:R9 _ _ _)
  subst hR9
  refine iQ fun R9 hR9=>?_
  walk_at "D"
  refine⟨sl,xs,ss,rfl,el9,px9,SK,fun wa H10 ps ts s10 W10 pp sp pt stt=>?_⟩
  have wk:=F9 SK pp sp pt stt
  have e10:=s10 _ _ e9
  have p10:=Prs.same s10 p9
  have s310:=s9.trans s10
  clear e9 p9 el9 px9 s9 s10
  subst hR9
  refine iQ fun R9 hR9=>?_
  walk_at "D"
  refine⟨.ref wa,ps,ts,rfl,W10,fun t1 H11 s11 nw=>?_⟩
  walk_at "D"
  refine⟨.ref t1,ps,ts,rfl,nw.at,wk,wk.pl,fun t0 f1 f2 zs2 us2 r H12 s12 et0 ef1 ef2 n0 n1 n2 ff rst pz pu=>?_⟩
  have s112:=s11.trans s12
  have W12:=W10.same s112
  have e12:=s112 _ _ e10
  have p12:=Prs.same s112 p10
  have s312:=s310.trans s112
  have el12:=s312 _ _ el
  have px12:=Prs.same s312 px
  have std:=CU (GZ wk rst)
  have PM:=Es wk rst pp pt
  have hC:kP ps (jP ps ts r) = 2 * m:=by rw [<- hm']; exact GN wk rst pp pt l1
  have hb:∀p∈ps,0<=jP ps ts r p.1/\jP ps ts r p.1<=2:=(zm wk rst).b
  have hdt:=DF ps ts r
  rw[pU wk]at pz std
  have htk:=wk.tl
  have hpk:=wk.pl
  generalize ml ps ts r=qs at pu std hdt
  generalize jP ps ts r=hf at*
  have hqs:qs.length<=120:=by
   have:=pt.length_eq
   unfold l6 at this
   rw[ae,bg]at this
   lia
  clear rst s11 s12 s112 nw e10 p10 W10 s310 hm' pt stt n0 n1 n2 ff
  simp_arith[iS,et0]
  have e312:=s312 _ _ e3
  have hs12:=hs3.tups s312.tups
  clear hs3 e3 el px
  subst hR9
  refine iQ fun R9 hR9=>?_
  simp_arith[el12]
  refine⟨jj ss,oN px12,by lia,qe SK.nd,fun d hd0=>?_⟩
  have q13:=iI hd0 (.dK (jj ss))
  have ed:upd H12 d (.dK (jj ss)) d=some (.dK (jj ss)):=iD
  replace ef1:=q13 _ _ ef1
  replace ef2:=q13 _ _ ef2
  replace pz:=Prs.same q13 pz
  replace pu:=jA q13.tups pu
  replace W12:=W12.same q13
  replace e12:=q13 _ _ e12
  replace p12:=Prs.same q13 p12
  replace e312:=q13 _ _ e312
  replace hs12:=hs12.tups q13.tups
  generalize upd H12 d (.dK (jj ss))=H13 at*
  clear el12 px12 et0 q13 hd0 s312
  subst hR9
  refine iQ fun R9 hR9=>?_
  walk_at "D"
  refine⟨dl,ds,mV ss ss.length,3,rfl,e12,p12,by lia,fun q hq=>?_,fun l14 ys14 qs14 h14 py pm pw=>?_⟩
  ·obtain⟨k,_,rfl⟩:=aL.mp hq
   have:=IC ss k
   dsimp only
   lia
  have q14:=iI h14 (.lst ys14)
  have e14:upd H13 l14 (.lst ys14) l14=some (.lst ys14):=iD
  replace ef1:=q14 _ _ ef1
  replace ef2:=q14 _ _ ef2
  replace pz:=Prs.same q14 pz
  replace pu:=jA q14.tups pu
  replace W12:=W12.same q14
  replace e312:=q14 _ _ e312
  replace hs12:=hs12.tups q14.tups
  replace ed:=q14 _ _ ed
  replace py:=Prs.same q14 py
  generalize upd H13 l14 (.lst ys14)=H14 at ef1 ef2 pz pu W12 e312 hs12 ed py e14
  have eqq:qs14=ps.map fun p=>(p.1,hf p.1):=List.Perm.eq_of_pairwise (fun x y _ _ u v=>EI u v) pw (bK.mpr ((xw SK pp sp).imp fun{a b} h=>.inl h)) (pm.trans PM.symm)
  rw[eqq]at py
  clear q14 h14 pm pw eqq PM e12 p12 hdl
  refine⟨.lst ((ps.map fun p=>(p.1,hf p.1)).map jN),.lst ((ps.map fun p=>(p.1,hf p.1)).map jN),(by rw[Rep];exact⟨f1,zs2,rfl,ef1,Prs.reps pz⟩),(by rw[Rep];exact⟨l14,ys14,rfl,e14,Prs.reps py⟩),(by rw[kM];have:=vh (ps.map fun p=>(p.1,hf p.1));lia),.inl ⟨_,_,rfl,rfl⟩,?_⟩
  rw[pY]
  have hzl:=aw pz
  rw[ae]at hzl
  clear py e14
  walk_at "D"
  refine kE (jI K f1) H14 (fun R2 hR2=>?_) (fun z hz0=>kz ps.length (fun j σ' Hd=>∃w1 w2,σ'=[w1,w2,some (.ref d)]/\Same H14 Hd/\Hd z=some (.lst (((ps.take j).map fun p=>p.2*hf p.1).map V.int))) ⟨none,none,rfl,iI hz0 _,iD⟩ ?_ ?_)
  ·unfold jZ
   walk_at "D"
   exact⟨f1,rfl,⟨_,SqL.of ef1⟩,hR2⟩
  ·rintro j σ' Hd hj ⟨w1,w2,rfl,s9,ez⟩
   have x1:ps[j]? =some ps[j]:=gE hj
   have hpm:=df hj
   generalize ps[j]=p at x1 hpm
   obtain⟨x,hx,px⟩:=lX pz (y:=(p.1,hf p.1)) (by rw[aE,x1];rfl)
   obtain⟨b,rfl,hb5⟩:=px.same s9
   have z1:SqL K Hd f1 zs2:=SqL.of (s9 _ _ ef1)
   refine⟨⟨_,_,z1,hx⟩,?_⟩
   rintro y H' ⟨rfl,hy'⟩
   have:=hy' _ z1
   rw[hx]at this
   cases this
   have v1:=nW SK.nd (pp.mem_iff.mp hpm)
   have b1:=hb p hpm
   simp_arith[hb5,s9 _ _ ed,v1]
   refine⟨qk (by lia) (by lia),_,ez,?_,_,_,rfl,jD s9 hz0,?_⟩
   ·rw[ae,ae,aK]
    exact jr (by lia)
   ·rw[iD,jH x1,aj,aj]
    rfl
  rintro σ' H15 ⟨w1,w2,rfl,s15,ez⟩
  refine⟨⟨_,SqL.of (s15 _ _ ef1),by lia⟩,?_⟩
  rw[aR]at ez
  refine⟨z,_,rfl,ez,?_⟩
  rw[show(ps.map fun p=>p.2*hf p.1).sum=2*m from hC]
  walk_at "D"
  refine⟨mC (by decide) (by decide),?_⟩
  walk_at "D"
  have ef1:=s15 _ _ ef1
  have ef2:=s15 _ _ ef2
  have pz:=Prs.same s15 pz
  have pu:=jA s15.tups pu
  have W12:=W12.same s15
  have e312:=s15 _ _ e312
  have hs12:=hs12.tups s15.tups
  clear ez s15 ed
  rw[ak (by decide)]
  have hul:=aw pu
  subst hR9
  refine iQ fun R9 hR9=>?_
  walk_at "D"
  refine kE (jI K f2) H15 (fun R2 hR2=>?_) (fun z hz0=>kz qs.length (fun j σ' Hd=>∃w1 w2 w3,σ'=[w1,w2,w3]/\Same H15 Hd/\Hd z=some (.lst (((qs.take j).map (·.2.2)).map V.int))) ⟨none,none,none,rfl,iI hz0 _,iD⟩ ?_ ?_)
  ·unfold jZ
   walk_at "D"
   exact⟨f2,rfl,⟨_,SqL.of ef2⟩,hR2⟩
  ·rintro j σ' Hd hj ⟨w1,w2,w3,rfl,s9,ez⟩
   have x1:qs[j]? =some qs[j]:=gE hj
   generalize qs[j]=q at x1
   obtain⟨x,hx,px⟩:=lX pu x1
   obtain⟨b,rfl,hb5⟩:=px
   replace hb5:=s9 _ _ hb5
   have z1:SqL K Hd f2 us2:=SqL.of (s9 _ _ ef2)
   refine⟨⟨_,_,z1,hx⟩,?_⟩
   rintro y H' ⟨rfl,hy'⟩
   have:=hy' _ z1
   rw[hx]at this
   cases this
   simp_arith[hb5]
   refine⟨_,ez,?_,_,_,_,rfl,jD s9 hz0,?_⟩
   ·rw[ae,ae,aK]
    exact jr (by lia)
   ·rw[iD,jH x1,aj,aj]
    rfl
  rintro σ' H16 ⟨w1,w2,w3,rfl,s16,ez⟩
  refine⟨⟨_,SqL.of (s16 _ _ ef2),by lia⟩,?_⟩
  rw[aR]at ez
  refine⟨z,_,rfl,ez,?_⟩
  rw[std.s,Fw wk,hC]
  walk_at "D"
  refine⟨mC (by decide) (by decide),?_⟩
  walk_at "D"
  rw[ak (by decide)]
  subst hR9
  walk_at "D"
  refine⟨st,.ref wa,f1,f2,ps,ts,zs2,_,us2,qs,o3,rfl,⟨s16 _ _ e312,so3,W12.same s16,s16 _ _ ef1,Prs.same s16 pz,s16 _ _ ef2,jA s16.tups pu⟩,wk,std,by rw[ae,pp.length_eq];exact l1,hqs,fun H17 o17 b17 e17 so17=>?_⟩
  walk_at "D"
  exact⟨_,_,_,_,_,_,_,_,_,_,_,_,_,_,_,rfl,hs12.tups (s16.tups.trans (b17.tups (s16 _ _ e312) so3.imm))⟩
 ·rintro σ H1 ⟨v1,v2,v3,v4,v5,v6,v7,v8,v9,v10,v11,v12,v13,v14,v15,rfl,hs1⟩
  subst hR
  walk_at "D"
  exact h _
end
end My
set_option autoImplicit true
namespace My
open PySem L2
abbrev aT(K:PySem.W.Frag)(x:Str)(f:Addr):Prop:=PySem.W.nsIn K mainGlobals x=some (some (.ref f))
abbrev zT(K:PySem.W.Frag)(x:Str):Prop:=PySem.W.nsIn K mainGlobals x=some none
abbrev kT(K:PySem.W.Frag)(f:Addr):Prop:=PySem.W.keepIn K (.ref f)=true
abbrev qT(K:PySem.W.Frag)(x q:Str)(st:Stmt)(f:Addr):Prop:=∃(oc:Value) (od:Option Addr) (sl:Array (Option Value)) (kV dc pm:Value) (an:Option Addr) (cd ct:Value),K.lookup f=some ⟨oc,od,.func (PySem.W.fnOf x q (nT st) (nr st) (jb st) .none kV dc pm an cd ct),sl⟩/\PySem.W.codeIn K cd q=true/\kT K f
abbrev dT(K:PySem.W.Frag)(x:Str)(st:Stmt):Prop:=∃f,aT K x f/\qT K x x st f
theorem dI{K:PySem.W.Frag}{x:Str}{st:Stmt}{f:Addr}{oc:Value}{od:Option Addr}{sl:Array (Option Value)}{kV dc pm:Value}{an:Option Addr}{cd ct:Value}(a:aT K x f)(l:K.lookup f=some ⟨oc,od,.func (PySem.W.fnOf x x (nT st) (nr st) (jb st) .none kV dc pm an cd ct),sl⟩)(c:PySem.W.codeIn K cd x=true)(k:kT K f):dT K x st:=⟨f,a,oc,od,sl,kV,dc,pm,an,cd,ct,l,c,k⟩
abbrev bT(x q:Str)(st:Stmt)(us:List Value)(bs:List (Str×Value)):Prop:=∀(kV dc pm:Value) (an:Option Addr) (cd ct:Value),bindArgs (PySem.W.fnOf x q (nT st) (nr st) (jb st) .none kV dc pm an cd ct) ⟨us,[]⟩=pure bs
theorem jC{K:PySem.W.Frag}{h:Heap}{mg:Str->Option Value}(X:K.In h)(G:h.Ns mainGlobals mg){x:Str}{st:Stmt}(a:dT K x st)(ps:List Str)(b:∀us:List Value,us.length=ps.length->bT x x st us (ps.zip us)):∃f fd,DefAt K mg x st ps f fd/\∀s us,us.length=ps.length->BindsTo s fd ⟨us,[]⟩ (ps.zip us):=by
 obtain⟨f,a,oc,od,sl,kV,dc,pm,an,cd,ct,l,g,k⟩:=a
 exact⟨f,_,⟨xC l g k,.all fun us h=>b us h _ _ _ _ _ _,cL X G a⟩,fun s us h=>.of_eq (b us h _ _ _ _ _ _)⟩
abbrev mT(K:PySem.W.Frag)(C:Addr)(x q:Str)(st:Stmt):Prop:=∃f,PySem.W.findIn K (.ref C) x=some (some (.ref f))/\PySem.W.isFn K (.ref f)=true/\qT K x q st f
theorem mI{K:PySem.W.Frag}{C:Addr}{x q:Str}{st:Stmt}{f:Addr}{oc:Value}{od:Option Addr}{sl:Array (Option Value)}{kV dc pm:Value}{an:Option Addr}{cd ct:Value}(a:PySem.W.findIn K (.ref C) x=some (some (.ref f)))(i:PySem.W.isFn K (.ref f)=true)(l:K.lookup f=some ⟨oc,od,.func (PySem.W.fnOf x q (nT st) (nr st) (jb st) .none kV dc pm an cd ct),sl⟩)(c:PySem.W.codeIn K cd q=true)(k:kT K f):mT K C x q st:=⟨f,a,i,oc,od,sl,kV,dc,pm,an,cd,ct,l,c,k⟩
theorem mZ{K:PySem.W.Frag}{C:Addr}{x q:Str}{st:Stmt}(a:mT K C x q st)(ps:List Str)(b:∀us:List Value,us.length=ps.length->bT x q st us (ps.zip us)):∃f fd,MthAt K C x q st ps f fd:=by
 obtain⟨f,a,i,oc,od,sl,kV,dc,pm,an,cd,ct,l,g,k⟩:=a
 exact⟨f,_,xC l g k,.all fun us h=>b us h _ _ _ _ _ _,a,i,k⟩
theorem b1{x q:Str}{st:Stmt}{p0:Str}(h:∀u0,bT x q st [u0] [(p0,u0)]:=by exact fun _ _ _ _ _ _ _=>rfl):∀us:List Value,us.length=1->bT x q st us ([p0].zip us)|[u0],_=>h u0
theorem b2{x q:Str}{st:Stmt}{p0 p1:Str}(h:∀u0 u1,bT x q st [u0,u1] [(p0,u0),(p1,u1)]:=by exact fun _ _ _ _ _ _ _ _=>rfl):∀us:List Value,us.length=2->bT x q st us ([p0,p1].zip us)|[u0,u1],_=>h u0 u1
theorem b3{x q:Str}{st:Stmt}{p0 p1 p2:Str}(h:∀u0 u1 u2,bT x q st [u0,u1,u2] [(p0,u0),(p1,u1),(p2,u2)]:=by exact fun _ _ _ _ _ _ _ _ _=>rfl):∀us:List Value,us.length=3->bT x q st us ([p0,p1,p2].zip us)|[u0,u1,u2],_=>h u0 u1 u2
theorem b4{x q:Str}{st:Stmt}{p0 p1 p2 p3:Str}(h:∀u0 u1 u2 u3,bT x q st [u0,u1,u2,u3] [(p0,u0),(p1,u1),(p2,u2),(p3,u3)]:=by exact fun _ _ _ _ _ _ _ _ _ _=>rfl):∀us:List Value,us.length=4->bT x q st us ([p0,p1,p2,p3].zip us)|[u0,u1,u2,u3],_=>h u0 u1 u2 u3
theorem IL{l:PySem.W.OpenLaw}{w:World}{K:PySem.W.Frag}{h:Heap}{mg:Str->Option Value}{fa:Addr}(X:K.In h)(G:h.Ns mainGlobals mg)(hfa:mg "law"=some (.ref fa))(a0:dT K "is_whole" (iG 7))(a1:dT K "is_tuple_of" (iG 8))(a2:dT K "is_pair_of_wholes" (iG 9))(a3:dT K "is_list_up_to" (iG 10))(a4:dT K "marked" (iG 11))(a5:dT K "place_stands" (iG 20))(a6:dT K "tie_stands" (iG 21))(a7:dT K "look_at_places" (iG 22))(a8:dT K "look_at_ties" (iG 23))(a9:dT K "look_at_web" (iG 24))(a10:dT K "halves_stand" (iG 26))(a11:dT K "is_due" (iG 27))(a12:dT K "due_at" (iG 28))(a13:dT K "dues_stand" (iG 29))(a14:dT K "cost_in_halves" (iG 30))(a15:dT K "paper_stands" (iG 31))(a16:dT K "lets_halves" (iG 32))(a17:dT K "doubled" (iG 33))(a18:dT K "dues_flowing" (iG 34))(a19:dT K "halves_reached" (iG 35))(a20:dT K "told_paper" (iG 36))(a21:dT K "halves_of" (iG 37))(a22:dT K "_law_own" (iG 39))(a23:dT K "_law_begun" (iG 40))(a24:dT K "_law_take" (iG 41))(a25:dT K "_law_string" (iG 42))(a26:dT K "_law_web_of" (iG 43))(a27:dT K "_law_ahead" (iG 44))(a28:dT K "_law_bent_right" (iG 45))(a29:dT K "law" (iG 46))(z_len:zT K "len")(z_isinstance:zT K "isinstance")(z_all:zT K "all")(z_min:zT K "min")(z_list:zT K "list")(z_dict:zT K "dict")(z_int:zT K "int")(z_bool:zT K "bool")(z_str:zT K "str")(z_tuple:zT K "tuple")(z_range:zT K "range")(z_enumerate:zT K "enumerate")(z_zip:zT K "zip")(z_max:zT K "max")(z_any:zT K "any")(z_sum:zT K "sum")(z_sorted:zT K "sorted")(z_set:zT K "set")(n_MOST_PLACES:PySem.W.nsIn K mainGlobals "MOST_PLACES"=some (some (.int 40 c1)))(n_MOST_TIES:PySem.W.nsIn K mainGlobals "MOST_TIES"=some (some (.int 120 c2)))(n_LAST_PLACE:PySem.W.nsIn K mainGlobals "LAST_PLACE"=some (some (.int 999 c3)))(n_MOST_PRICE:PySem.W.nsIn K mainGlobals "MOST_PRICE"=some (some (.int 1000000000000 c4)))(aN:aT K "Net" C_Net)(pgN:PySem.W.plainGet K C_Net Str.empty=true)(hdN:PySem.W.hasDictIn K C_Net=true)(poN:PySem.W.plainOver K C_Net=true)(saN:PySem.W.findIn K (.ref C_Net) "__setattr__"=some (some (.builtin "object.__setattr__")))(mkN:PySem.W.makesIn K C_Net=true)(kcN:kT K C_Net)(n_ways_from:PySem.W.findIn K (.ref C_Net) "ways_from"=some none)(n_heads:PySem.W.findIn K (.ref C_Net) "heads"=some none)(n_rooms:PySem.W.findIn K (.ref C_Net) "rooms"=some none)(nn_SOURCE:PySem.W.nsIn K mainGlobals "SOURCE"=some (some (.int 0 ee1)))(nn_SINK:PySem.W.nsIn K mainGlobals "SINK"=some (some (.int 1 ee2)))(nn_FIRST:PySem.W.nsIn K mainGlobals "FIRST"=some (some (.int 2 ee3)))(m0:mT K C_Net "__init__" "Net.__init__" (ju 5 0))(m1:mT K C_Net "put_way" "Net.put_way" (ju 5 1))(m2:mT K C_Net "fill" "Net.fill" (ju 5 2))(m3:mT K C_Net "shortest" "Net.shortest" (ju 5 3))(m4:mT K C_Net "spread" "Net.spread" (ju 5 4))(m5:mT K C_Net "push" "Net.push" (ju 5 5))(m6:mT K C_Net "flows" "Net.flows" (ju 5 6))(m7:mT K C_Net "reached_from" "Net.reached_from" (ju 5 7))
 :∃fd:FuncData,(∀(s:Shared) (v:Value),BindsTo s fd ⟨[v],[]⟩ [("_law_script",v)])/\∀base:Heap,K.In base->base.Ns mainGlobals mg->FnOk l.prog w K mg base iK 9 fa fd ["_law_script"] (qZ K):=by
 have B:Blt mg:=⟨bb X G z_len,bb X G z_isinstance,bb X G z_all,bb X G z_min,bb X G z_list,bb X G z_dict,bb X G z_int,bb X G z_bool,bb X G z_str,bb X G z_tuple,bb X G z_range,bb X G z_enumerate,bb X G z_zip,bb X G z_max,bb X G z_any,bb X G z_sum,bb X G z_sorted,bb X G z_set⟩
 have C:Cst mg c1 c2 c3 c4:=⟨cL X G n_MOST_PLACES,cL X G n_MOST_TIES,cL X G n_LAST_PLACE,cL X G n_MOST_PRICE⟩
 obtain⟨f0,d0,Dqc,_⟩:=jC X G a0 ["thing"] b1
 obtain⟨f1,d1,Dqa,_⟩:=jC X G a1 ["thing","many"] b2
 obtain⟨f2,d2,Dqd,_⟩:=jC X G a2 ["thing"] b1
 obtain⟨f3,d3,Dqf,_⟩:=jC X G a3 ["thing","most"] b2
 obtain⟨f4,d4,Dqh,_⟩:=jC X G a4 ["places"] b1
 obtain⟨f5,d5,Dq5,_⟩:=jC X G a5 ["thing","last","spent"] b3
 obtain⟨f6,d6,Dq6,_⟩:=jC X G a6 ["thing","last","prices"] b3
 obtain⟨f7,d7,Dq2,_⟩:=jC X G a7 ["places"] b1
 obtain⟨f8,d8,Dq3,_⟩:=jC X G a8 ["ties","prices"] b2
 obtain⟨f9,d9,Dqg,_⟩:=jC X G a9 ["thing"] b1
 obtain⟨f10,d10,Dqw,_⟩:=jC X G a10 ["web","thing"] b2
 obtain⟨f11,d11,Dqx,_⟩:=jC X G a11 ["thing"] b1
 obtain⟨f12,d12,Dqr,_⟩:=jC X G a12 ["dues"] b1
 obtain⟨f13,d13,Dqt,_⟩:=jC X G a13 ["web","thing"] b2
 obtain⟨f14,d14,Dqp,_⟩:=jC X G a14 ["web","halves"] b2
 obtain⟨f15,d15,Dq4,_⟩:=jC X G a15 ["web","thing"] b2
 obtain⟨f16,d16,Dqk,_⟩:=jC X G a16 ["web","thing"] b2
 obtain⟨f17,d17,Dqq,_⟩:=jC X G a17 ["web"] b1
 obtain⟨f18,d18,Dqs,_⟩:=jC X G a18 ["web","flows"] b2
 obtain⟨f19,d19,Dqv,_⟩:=jC X G a19 ["web","reached"] b2
 obtain⟨f20,d20,Dq7,_⟩:=jC X G a20 ["web"] b1
 obtain⟨f21,d21,Dqu,_⟩:=jC X G a21 ["web"] b1
 obtain⟨f22,d22,Dqe,_⟩:=jC X G a22 ["_law_web"] b1
 obtain⟨f23,d23,Dqy,_⟩:=jC X G a23 ["_law_script","_law_k"] b2
 obtain⟨f24,d24,Dqb,_⟩:=jC X G a24 ["_law_state","_law_many"] b2
 obtain⟨f25,d25,Dq0,_⟩:=jC X G a25 ["_law_state"] b1
 obtain⟨f26,d26,Dq1,_⟩:=jC X G a26 ["_law_string_here"] b1
 obtain⟨f27,d27,Dqj,_⟩:=jC X G a27 ["_law_string_here"] b1
 obtain⟨f28,d28,Dqz,_⟩:=jC X G a28 ["_law_state","_law_web","_law_halves","_law_dues"] b4
 obtain⟨f29,d29,Dzc,bl⟩:=jC X G a29 ["_law_script"] b1
 obtain⟨fm0,dm0,Dqo⟩:=mZ m0 ["self","many","arcs"] b3
 obtain⟨fm1,dm1,Dqm⟩:=mZ m1 ["self","tail","head","room"] b4
 obtain⟨fm2,dm2,Dq8⟩:=mZ m2 ["self","source","sink"] b3
 obtain⟨fm3,dm3,Dqn⟩:=mZ m3 ["self","source","sink"] b3
 obtain⟨fm4,dm4,Dqi⟩:=mZ m4 ["self","source"] b2
 obtain⟨fm5,dm5,Dza⟩:=mZ m5 ["self","trail"] b2
 obtain⟨fm6,dm6,Dq9⟩:=mZ m6 ["self"] b1
 obtain⟨fm7,dm7,Dzb⟩:=mZ m7 ["self","source"] b2
 cases hfa.symm.trans Dzc.m
 refine⟨d29,fun s v=>bl s [v] rfl,fun base _ _=>?_⟩
 have C2:Cst2 mg ee1 ee2 ee3:=⟨cL X G nn_SOURCE,cL X G nn_SINK,cL X G nn_FIRST⟩
 have T:NetC K mg C_Net:=⟨⟨pgN,hdN,poN,saN⟩,n_ways_from,n_heads,n_rooms,cL X G aN⟩
 have MK:Mk K C_Net fm0:=⟨mkN,Dqo.m.at_,Dqo.m.fn,kcN⟩
 have Gqc:=GS (P:=l.prog) (w:=w) (base:=base) B Dqc
 have Gqa:=Ht (P:=l.prog) (w:=w) (base:=base) B Dqa
 have Gqd:=HN (P:=l.prog) (w:=w) (base:=base) B Dqd Dqa Gqa Dqc Gqc
 have Gqf:=HH (P:=l.prog) (w:=w) (base:=base) B Dqf
 have Gqh:=FW (P:=l.prog) (w:=w) (base:=base) B Dqh
 have Gq5:=HF (P:=l.prog) (w:=w) (base:=base) B C Dq5 Dqd Gqd
 have Gq6:=Hk (P:=l.prog) (w:=w) (base:=base) B Dq6 Dqd Gqd
 have Gq2:=HM (P:=l.prog) (w:=w) (base:=base) B C Dq2 Dqf Gqf Dq5 Gq5
 have Gq3:=HD (P:=l.prog) (w:=w) (base:=base) B C Dq3 Dqf Gqf Dq6 Gq6
 have Gqg:=Hv (P:=l.prog) (w:=w) (base:=base) B Dqg Dqa Gqa Dq2 Gq2 Dq3 Gq3
 have Gqr:=FU (P:=l.prog) (w:=w) (base:=base) B Dqr
 have Gqp:=HJ (P:=l.prog) (w:=w) (base:=base) B Dqp
 have Gqs:=HA (P:=l.prog) (w:=w) (base:=base) B Dqs
 have Gqv:=HK (P:=l.prog) (w:=w) (base:=base) B Dqv C2
 have Gqe:=Gz (P:=l.prog) (w:=w) (base:=base) B Dqe
 have Gqy:=Hb (P:=l.prog) (w:=w) (base:=base) B Dqy
 have Gqb:=GU (P:=l.prog) (w:=w) (base:=base) B Dqb
 have Gq0:=Hi (P:=l.prog) (w:=w) (base:=base) B Dq0 Dqb Gqb
 have Gq1:=Hj (P:=l.prog) (w:=w) (base:=base) B Dq1
 have Gqj:=Ha (P:=l.prog) (w:=w) (base:=base) B Dqj
 have GD_is_tuple_of:=Hz (P:=l.prog) (w:=w) (base:=base) B Dqa
 have GD_is_pair_of_wholes:=HP (P:=l.prog) (w:=w) (base:=base) B Dqd Dqa GD_is_tuple_of Dqc Gqc
 have GI_marked:=Gx (P:=l.prog) (w:=w) (base:=base) B Dqh
 have Gqm:=GA (P:=l.prog) (w:=w) (base:=base) B Dqm T
 have Gqi:=FX (P:=l.prog) (w:=w) (base:=base) B Dqi T
 have Gza:=DX (P:=l.prog) (w:=w) (base:=base) B Dza T
 have Gq9:=ET (P:=l.prog) (w:=w) (base:=base) B Dq9 T
 have Gzb:=HG (P:=l.prog) (w:=w) (base:=base) B Dzb Dqi Gqi T
 have Gqw:=HB (P:=l.prog) (w:=w) (base:=base) B Dqw Dqd GD_is_pair_of_wholes
 have Gqx:=FV (P:=l.prog) (w:=w) (base:=base) B Dqx Dqa GD_is_tuple_of Dqc Gqc
 have Gqt:=Hh (P:=l.prog) (w:=w) (base:=base) B Dqt Dqx Gqx Dqh Gqh Dqr Gqr
 have Gq4:=HE (P:=l.prog) (w:=w) (base:=base) B Dq4 Dqa GD_is_tuple_of Dqw Gqw Dqt Gqt Dqp Gqp
 have Gqk:=Hu (P:=l.prog) (w:=w) (base:=base) B Dqk Dqg Gqg Dq4 Gq4
 have Gqz:=HL (P:=l.prog) (w:=w) (base:=base) B Dqz Dqb Gqb Dqe Gqe Dqk Gqk
 have Gqo:=DW (P:=l.prog) (w:=w) (base:=base) B Dqo Dqm Gqm T
 have Gqn:=GV (P:=l.prog) (w:=w) (base:=base) B Dqn Dqi Gqi T
 have Gqq:=Gy (P:=l.prog) (w:=w) (base:=base) B Dqq Dqo Gqo T C2 MK
 have Gq8:=DV (P:=l.prog) (w:=w) (base:=base) B Dq8 Dqn Gqn Dza Gza T
 have Gq7:=Hl (P:=l.prog) (w:=w) (base:=base) B Dq7 Dqq Gqq Dq8 Gq8 Dzb Gzb Dqh GI_marked Dqv Gqv Dq9 Gq9 Dqs Gqs T C2
 have Gqu:=G9 (P:=l.prog) (w:=w) (base:=base) B Dqu Dqg Gqg Dq7 Gq7
 exact De B Dzc Dqy Gqy Dq0 Gq0 Dqj Gqj Dq1 Gq1 Dqe Gqe Dqu Gqu Dqz Gqz
theorem BG{l:PySem.W.OpenLaw}{q:Program}{loose:List Str}{XP:(Str->Option Value)->Heap->Prop}{YP:World->Heap->Prop}{d:DefRec}{K:Params->PySem.W.Frag}(hn:l.most=some 63)(hdf:d.params.defaults=[])
  (hY:∀(w:World) (h:Heap),YP w h->(K w.params).In h)
  (F:∀(w:World) (mg:Str->Option Value) (fa:Addr) (h:Heap),(K w.params).In h->h.Ns mainGlobals mg->mg d.name=some (.ref fa)->
   ∃fd:FuncData,(∀(s:Shared) (u:Value),BindsTo s fd ⟨[u],[]⟩ [("_law_script",u)])/\∀base:Heap,(K w.params).In base->base.Ns mainGlobals mg->FnOk l.prog w (K w.params) mg base iK 9 fa fd ["_law_script"] (qZ (K w.params))):
  PySem.W.WalkO q loose XP YP l.row.toRowW d [] (fun f vs=>PySem.call f vs):=
 L2.zg (n:=63) (k:=9) (x:="_law_script") (CX:=fun _=>iK) (sp:=fun w=>qZ (K w.params)) hn (by decide) hdf ⟨rfl,by decide,by decide,rfl⟩ hY F (fun _ _ a ns hl hO hS=>⟨a,ns,rfl,Scr.of hS hO,fun _=>rfl⟩) fun _ _ _ _ _ z=>z
end My
open PySem PySem.W PyProof.Rows
set_option maxRecDepth 100000 in
set_option maxHeartbeats 0 in
theorem PySem.Challenge.cw_touchall_k25_halves_along_strings_holds : PySem.Challenge.rw_touchall_k25_halves_along_strings.Holds := by
 refine MyHead ?_
 k_fill
 refine My.BG (l:=PySem.Challenge.rw_touchall_k25_halves_along_strings) rfl rfl (fun w h Y=>PySem.W.kIn_of Y) ?F
 case F =>
  intro w mg fa h KX G hmg
  refine' My.IL KX G hmg ?_ ?_ ?_ ?_ ?_ ?_ ?_ ?_ ?_ ?_ ?_ ?_ ?_ ?_ ?_ ?_ ?_ ?_ ?_ ?_ ?_ ?_ ?_ ?_ ?_ ?_ ?_ ?_ ?_ ?_ ?_ ?_ ?_ ?_ ?_ ?_ ?_ ?_ ?_ ?_ ?_ ?_ ?_ ?_ ?_ ?_ ?_ ?_ ?_ ?_ ?_ ?_ ?_ ?_ ?_ ?_ ?_ ?_ ?_ ?_ ?_ ?_ ?_ ?_ ?_ ?_ ?_ ?_ ?_ ?_ ?_ ?_ ?_
  any_goals first | k_is | ((first | refine' My.dI ?_ ?_ ?_ ?_ | refine' My.mI ?_ ?_ ?_ ?_ ?_) <;> first | k_is | (delta My.aT; k_is) | (delta My.kT; k_is) | skip) | (delta My.aT; k_is) | (delta My.kT; k_is) | (delta My.zT; k_is) | kernel_rfl | rfl
#print axioms PySem.Challenge.cw_touchall_k25_halves_along_strings_holds
