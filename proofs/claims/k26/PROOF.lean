import PyProof.Rows.All
import Wide.All
import OpenK.AllK
import Wide.FinOn
import Lean
import PyProof.EqAt
import PyProof.EqKinds
import PyProof.TupleCall
import PyProof.NeKinds
import PyProof.NeData
import PySem.Challenge.RW_touchall_k26_halves_of_bunches
import PyProof.StationsW
import PyProof.ExcInit
import PyProof.InstStoreFacts
import PyProof.NsDelKeeps
import PyProof.RulesAs
import PyProof.ExcAttrAll.ValueError
import KE.KIsAll
import PyProof.AutoSeq1
import PyProof.Rows.SetFrom
import PyProof.SetRoads
import PyProof.Rows.SortRuns
import PyProof.Rows.SortShell
import KE.KSortTup
import PyProof.Rows.SumAny
import PyProof.DictWalks
import PyProof.DictUpdate
import KE.KDictList
section
open PySem PySem.W PyProof.Rows
set_option Elab.async false
set_option maxRecDepth 100000
set_option maxHeartbeats 0
namespace PySem.W.Fast
theorem tw4931856099360984229:True:=⟨⟩
theorem tw8954171627901840901:True:=⟨⟩
theorem tw14781562103584300300:True:=⟨⟩
theorem tw18004234820734870348:True:=⟨⟩
theorem tw16599119404929089777:True:=⟨⟩
theorem tw9523907401933072244:True:=⟨⟩
theorem tw280475905095942100:True:=⟨⟩
theorem tw17883986908372840214:True:=⟨⟩
theorem tw3532348617687762170:True:=⟨⟩
theorem tw2394965854965877950:True:=⟨⟩
theorem tw3420140191932880318:True:=⟨⟩
theorem tw7358681854518736475:True:=⟨⟩
theorem tw749475842917359531:True:=⟨⟩
theorem tw16534339097768146004:True:=⟨⟩
theorem tw14046072485561619853:True:=⟨⟩
theorem tw2220164997069877358:True:=⟨⟩
theorem tw15693294657385995021:True:=⟨⟩
theorem tw15583159890976612112:True:=⟨⟩
theorem tw2299995472670780312:True:=⟨⟩
theorem tw11838570771899567539:True:=⟨⟩
theorem tw1349069014647357223:True:=⟨⟩
theorem tw9202793077811905852:True:=⟨⟩
theorem tw4279476487421269338:True:=⟨⟩
theorem tw8513872578731894556:True:=⟨⟩
theorem tw11033941645859556090:True:=⟨⟩
theorem tw16129954062642050573:True:=⟨⟩
theorem tw14819694531884392017:True:=⟨⟩
theorem tw2965769552864237175:True:=⟨⟩
theorem tw15240104693518809320:True:=⟨⟩
theorem tw12343798008286848705:True:=⟨⟩
theorem tw9986159386596041291:True:=⟨⟩
theorem tw163361006696384501:True:=⟨⟩
theorem tw1104488647094209902:True:=⟨⟩
theorem tw12021910400016799448:True:=⟨⟩
theorem tw1446046372975601066:True:=⟨⟩
theorem tw162473700425539603:True:=⟨⟩
theorem tw8871029021759738552:True:=⟨⟩
theorem tw10913997214970868764:True:=⟨⟩
theorem tw2232508010609702249:True:=⟨⟩
theorem tw5954876327221452193:True:=⟨⟩
theorem tw12855419698269193786:True:=⟨⟩
theorem tw6730875953044847916:True:=⟨⟩
theorem tw13058793742947418118:True:=⟨⟩
theorem tw6584695149455985699:True:=⟨⟩
theorem tw9762787882097571856:True:=⟨⟩
theorem tw15514634696500728796:True:=⟨⟩
theorem tw429126050991680652:True:=⟨⟩
theorem tw13281483970742848924:True:=⟨⟩
theorem tw577511202878901248:True:=⟨⟩
theorem tw6542929942557814982:True:=⟨⟩
theorem tw1726813977947389158:True:=⟨⟩
theorem tw16770910964881924072:True:=⟨⟩
theorem tw8153494736163193282:True:=⟨⟩
theorem tw8079341929624369548:True:=⟨⟩
theorem tw7492884703717757881:True:=⟨⟩
theorem tw12306747795182409104:True:=⟨⟩
theorem tw15377678365041130219:True:=⟨⟩
theorem tw1718328181716237790:True:=⟨⟩
theorem tw9000492280638625789:True:=⟨⟩
theorem tw18111414595329612538:True:=⟨⟩
theorem tw2198618278216875009:True:=⟨⟩
theorem tw17790621613727568432:True:=⟨⟩
theorem tw13651674943635200488:True:=⟨⟩
theorem tw3768600909522892029:True:=⟨⟩
theorem tw15335128613735910151:True:=⟨⟩
theorem tw11669262180485523366:True:=⟨⟩
theorem tw18435423981051818222:True:=⟨⟩
theorem tw9482120283554068594:True:=⟨⟩
theorem tw1946033789281374818:True:=⟨⟩
theorem tw2269460933442521542:True:=⟨⟩
theorem tw3386007157573418628:True:=⟨⟩
theorem tw17670709185726934248:True:=⟨⟩
theorem tw17382730591349914884:True:=⟨⟩
theorem tw6799717253033202974:True:=⟨⟩
theorem tw17948796234568494333:True:=⟨⟩
theorem tw14527855219218812963:True:=⟨⟩
theorem tw3251091792226649815:True:=⟨⟩
theorem tw420471366415179010:True:=⟨⟩
theorem tw1118109838406661019:True:=⟨⟩
theorem tw850951039455432525:True:=⟨⟩
theorem tw7552589387619456655:True:=⟨⟩
theorem tw7514863291714595196:True:=⟨⟩
theorem tw4463166748007049108:True:=⟨⟩
theorem tw1623218935358935076:True:=⟨⟩
theorem tw16962657549081138568:True:=⟨⟩
theorem tw17341298701788093120:True:=⟨⟩
theorem tw12981107023279619863:True:=⟨⟩
theorem tw5061831166103267206:True:=⟨⟩
theorem tw1292984125890801270:True:=⟨⟩
theorem tw5729796969671028974:True:=⟨⟩
theorem tw7761872477267044100:True:=⟨⟩
theorem tw12010976375034376571:True:=⟨⟩
theorem tw1412105097100734851:True:=⟨⟩
theorem tw15118457964073289629:True:=⟨⟩
theorem tw12653114381597422123:True:=⟨⟩
theorem tw10661231254371446707:True:=⟨⟩
theorem tw12485154272163604117:True:=⟨⟩
theorem tw8212859607379937844:True:=⟨⟩
theorem tw12299380988638202590:True:=⟨⟩
theorem tw12838189731587688999:True:=⟨⟩
theorem tw5099301408519554050:True:=⟨⟩
theorem tw17658068361143100475:True:=⟨⟩
theorem tw9466367427336684335:True:=⟨⟩
theorem tw18438347639502009901:True:=⟨⟩
theorem tw11906391868283360964:True:=⟨⟩
theorem tw1459643596898847606:True:=⟨⟩
theorem tw5101450760185418553:True:=⟨⟩
theorem tw9562907100761335393:True:=⟨⟩
theorem tw14100869705339816407:True:=⟨⟩
theorem tw16690788079638538773:True:=⟨⟩
theorem tw6494762443452080514:True:=⟨⟩
theorem tw16409236330492884371:True:=⟨⟩
theorem tw2882356951737927585:True:=⟨⟩
theorem tw6822298609184292527:True:=⟨⟩
theorem tw12832714438019067581:True:=⟨⟩
theorem tw530684274474814442:True:=⟨⟩
theorem tw13777678184960627923:True:=⟨⟩
theorem tw11930511757121121756:True:=⟨⟩
theorem tw1104458783644820503:True:=⟨⟩
theorem tw760989484626043395:True:=⟨⟩
theorem tw12145190026016965121:True:=⟨⟩
theorem tw17899455434026235383:True:=⟨⟩
theorem tw13149991164589372472:True:=⟨⟩
theorem tw14756317111538670632:True:=⟨⟩
theorem tw13557064101490781197:True:=⟨⟩
theorem tw9307431955463701274:True:=⟨⟩
theorem tw18366049866466480393:True:=⟨⟩
theorem tw13918767385064653732:True:=⟨⟩
theorem tw18415491594491465074:True:=⟨⟩
theorem tw17426358754788277328:True:=⟨⟩
theorem tw3333966505458403725:True:=⟨⟩
theorem tw17748890715401807743:True:=⟨⟩
theorem tw3421753523302657214:True:=⟨⟩
theorem tw14079483211463739728:True:=⟨⟩
theorem tw600212407440205806:True:=⟨⟩
theorem tw9197129900319299892:True:=⟨⟩
theorem tw7853399458379906777:True:=⟨⟩
theorem tw16435145116260540403:True:=⟨⟩
theorem tw13227656411800433115:True:=⟨⟩
theorem tw9016929935483840578:True:=⟨⟩
theorem tw17746213073180106855:True:=⟨⟩
theorem tw12992367483169920845:True:=⟨⟩
theorem tw18368650237389215793:True:=⟨⟩
theorem tw16567477134032842647:True:=⟨⟩
theorem tw17953295521274581375:True:=⟨⟩
theorem tw5291671171568664792:True:=⟨⟩
theorem tw2807939160141173056:True:=⟨⟩
theorem tw18051402899012708777:True:=⟨⟩
theorem tw5103485604028916769:True:=⟨⟩
theorem tw15140575967346891081:True:=⟨⟩
theorem tw9578137325174995177:True:=⟨⟩
theorem tw12176799902621761173:True:=⟨⟩
theorem tw7182748549700119884:True:=⟨⟩
theorem tw6670132038723899214:True:=⟨⟩
theorem tw10606784113705308633:True:=⟨⟩
theorem tw14162606385346639759:True:=⟨⟩
theorem tw12743296696899658274:True:=⟨⟩
theorem tw5160066459553266816:True:=⟨⟩
theorem tw14640572693217546273:True:=⟨⟩
theorem tw11647574858823915943:True:=⟨⟩
theorem tw10581164851701950017:True:=⟨⟩
theorem tw10485983645851997345:True:=⟨⟩
theorem tw9580164878673987830:True:=⟨⟩
theorem tw7851787535860571123:True:=⟨⟩
theorem tw7202096296974048930:True:=⟨⟩
theorem tw6356490350672987232:True:=⟨⟩
theorem tw2812415958408709537:True:=⟨⟩
theorem tw17386353614433715009:True:=⟨⟩
theorem tw17001195906241442773:True:=⟨⟩
theorem tw2374692894874826008:True:=⟨⟩
theorem tw4040663737483218468:True:=⟨⟩
theorem tw7007092725283629287:True:=⟨⟩
theorem tw15546968404707699468:True:=⟨⟩
theorem tw12308534206943208666:True:=⟨⟩
theorem tw16731634629222179199:True:=⟨⟩
theorem tw17748391171391791682:True:=⟨⟩
theorem tw14229602632353992099:True:=⟨⟩
theorem tw7232841066116858783:True:=⟨⟩
theorem tw7038596651363693363:True:=⟨⟩
theorem tw11845121057717500690:True:=⟨⟩
theorem tw16086166043349708051:True:=⟨⟩
theorem tw15980514055555444097:True:=⟨⟩
theorem tw4395593587568455176:True:=⟨⟩
theorem tw14376798394326754113:True:=⟨⟩
theorem tw6425884994113631308:True:=⟨⟩
theorem tw2363903611795592705:True:=⟨⟩
theorem tw8297966634746096414:True:=⟨⟩
theorem tw6014219777646665041:True:=⟨⟩
theorem tw6245827768647603512:True:=⟨⟩
theorem tw8556881319794653275:True:=⟨⟩
theorem tw17594760211624526283:True:=⟨⟩
theorem tw12274256780947587003:True:=⟨⟩
theorem tw3436040953348231904:True:=⟨⟩
theorem tw17225890555602619104:True:=⟨⟩
theorem tw14003406518076274850:True:=⟨⟩
theorem tw4069687752174603861:True:=⟨⟩
theorem tw14295450787131531452:True:=⟨⟩
theorem tw18259904567720872237:True:=⟨⟩
theorem tw9297663727785247985:True:=⟨⟩
theorem tw3778727204222080899:True:=⟨⟩
theorem tw7202037326456345769:True:=⟨⟩
end PySem.W.Fast
open_top MyHead for PySem.Challenge.rw_touchall_k26_halves_of_bunches
end
-- CHANGE: your row's module here, as the last of these rows
noncomputable section
def ae:=@List.length_map
def af:=@PySem.wpAny_bind
def ag:=@PySem.Heap.get?_push_of_some
def ah:=@List.map_cons
def ak:=@List.getElem?_eq_some_iff
def ao:=@Nat.le_refl
def aq:=@List.map_append
def au:=@List.size_toArray
def av:=@List.length_append
def aw:=@List.mem_map
def ay:=@if_neg
def az:=@List.mem_cons_of_mem
def aA:=@if_pos
def aB:=@PySem.wpAny_pure
def aC:=@List.getElem?_map
def aD:=@PySem.Paired.length
def aE:=@List.mem_of_getElem?
def aF:=@Nat.lt_of_succ_lt
def aG:=@PyProof.Rows.wpS_bind
def aH:=@List.mem_cons_self
def aI:=@Option.some.inj
def aJ:=@List.getD_eq_getElem?_getD
def aK:=@decide_eq_true
def aL:=@PySem.Heap.lt_size
def aM:=@List.mem_cons
def aO:=@PyProof.Rows.wpS_pure
def aP:=@decide_eq_false
def aQ:=@List.append_assoc
def aR:=@PySem.Heap.get?_push_size
def aS:=@List.length_take
def aU:=@Bool.false_ne_true
def aV:=@List.take_length
def aW:=@List.mem_append
def aX:=@Nat.ne_of_lt
def aY:=@List.append_nil
def aZ:=@List.mem_singleton
def ba:=@Bool.false_eq_true
def bf:=@PySem.PassesOwn.never
def bg:=@List.mem_range
def bh:=@PySem.W.mg_none_of
def bj:=@Nat.lt_of_lt_of_le
def bo:=@List.mem_append_right
def bp:=@Nat.zero_le
def bq:=@List.getElem?_append_left
def br:=@List.nodup_cons
def bt:=@List.map_map
def bu:=@List.pairwise_append
def bw:=@PySem.F.plainAttrs_list
def bz:=@List.length_range
def bA:=@List.mem_iff_getElem
def bB:=@List.pairwise_map
def bD:=@List.getElem?_eq_none
def bE:=@Nat.le_trans
def bF:=@PySem.F.type_list_append
def bG:=@PySem.F.slot_list_append
def bH:=@Array.getElem?_toList
def bI:=@Int.le_refl
def bJ:=@Array.toList_append
def bK:=@List.pairwise_iff_getElem
def bL:=@List.range_succ
def bM:=@Option.map_eq_some_iff
def bN:=@PySem.boot_len
def bO:=@List.getElem_mem
def bP:=@List.nodup_append
def bQ:=@List.take_of_length_le
def bR:=@PyProof.Rows.boot_isinstance
def bS:=@List.mem_flatten
def bU:=@List.mem_flatMap
def bV:=@List.filter_cons
def bX:=@beq_eq_false_iff_ne
def bY:=@List.take_append_drop
def bZ:=@PyProof.Rows.wpS_forRange
def cc:=@PySem.wpAny_truthy_bool
def cf:=@Int.le_of_lt
def cg:=@PySem.wpAny_seqItems
def cn:=@List.getElem?_append_right
def cq:=@PySem.wpAny_holding
def cu:=@PySem.Heap.get?_update_other
def cv:=@PySem.mem_of_lookup
def cw:=@Sum.inl.inj
def cx:=@congrArg
def cy:=@PySem.W.kia_one
def cA:=@Int.le_trans
def cB:=@PySem.wpAny_field
def cC:=@List.mem_append_left
def cD:=@List.getElem?_of_mem
def cE:=@Bool.and_eq_true
def cF:=@PySem.wpAny_newObj_type
def cG:=@of_decide_eq_true
def cH:=@getElem?_pos
def cI:=@decide_eq_true_eq
def cJ:=@PySem.F.plain_min_loop
def cK:=@Option.some.injEq
def cL:=@List.map_nil
def cM:=@List.mem_map_of_mem
def cN:=@List.drop_eq_getElem_cons
def cO:=@List.perm_append_comm
def cP:=@List.length_filter_le
def cQ:=@PySem.Around.under_plainId
def cR:=@List.sum_append
def cS:=@PyProof.Rows.boot_list
def cT:=@PyProof.Rows.boot_dict
def cU:=@PySem.W.mg_of
def cV:=@Nat.lt_irrefl
def cW:=@Int.mul_add
def cX:=@List.length_drop
def cY:=@PySem.wpAny_rule
def cZ:=@List.pairwise_cons
def c0:=@PySem.F.slot_dict_get
def da:=@Classical.byContradiction
def de:=@List.mem_filter
def df:=@decide_true
def dg:=@List.flatMap_cons
def dh:=@PySem.wpAny_mono
def di:=@Ne.symm
def dj:=@List.map_congr_left
def dk:=@List.flatMap_append
def dq:=@PySem.wpAny_call_entry
def dw:=@PySem.wpAny_callSpecial?_slot
def dy:=@decide_eq_false_iff_not
def dA:=@Nat.le_succ
def dC:=@PySem.wpAny_setField_rec
def dD:=@PySem.tupleKind_room_in1
def dE:=@Nat.ne_of_gt
def dF:=@Nat.le_of_lt
def dG:=@List.filter_append
def dH:=@List.drop_eq_nil_of_le
def dJ:=@Int.mul_comm
def dM:=@PyProof.Rows.wpS_mono
def dO:=@PySem.wpAny_passesOwn
def dP:=@PySem.codeAny_builtin
def dQ:=@PySem.plainId_quiet
def dR:=@PyProof.Rows.boot_sum
def dU:=@Nat.le_of_ble_eq_true
def dW:=@List.Perm.append_left
def dX:=@PySem.Heap.get?_update_self
def dY:=@PyProof.Rows.callWith_type1
def dZ:=@Nat.lt_succ_of_lt
def ee:=@PySem.Heap.size_push
def er:=@PySem.F.slot_tuple_iterator_next
def eA:=@Array.perm_iff_toList_perm
def eB:=@PyProof.Rows.boot_sorted
def eC:=@Option.isSome_iff_exists
def eD:=@PySem.F.slot_list_getattribute
def eE:=@List.length_set
def eF:=@Bool.eq_iff_iff
def eG:=@Int.lt_of_lt_of_le
def eI:=@PySem.wpAny_typeOf
def eJ:=@PySem.wpAny_tryCatch
def eK:=@PySem.wpAny_pyIter_list
def eL:=@PySem.F.entry_dict_get
def eM:=@List.nodup_nil
def eN:=@List.ext_getElem?
def eO:=@List.drop_zero
def eP:=@Bool.and_false
def eQ:=@Array.toList_push
def eT:=@PyProof.Rows.slot_tuple_getitem
def eU:=@PyProof.Rows.wpS_modify
def eV:=@List.all_eq_true
def eX:=@Bool.not_true
def eY:=@PySem.wpAny_letGo
def eZ:=@Array.toList_reverse
def fb:=@List.reverse_append
def fc:=@List.getElem_of_mem
def fe:=@List.getElem?_range
def fh:=@List.flatten_append
def fj:=@PyProof.Rows.wpS_get
def fk:=@PySem.wpAny_Call_Name_kw
def fm:=@Int.emod_lt_of_pos
def fo:=@PySem.Calls.spliced_cons
def fq:=@Array.getElem?_eq_some_iff
def fu:=@PySem.sizeLine_eq
def fw:=@Option.isSome_map
def fA:=@List.getElem_take
def fD:=@List.Pairwise.imp
def fE:=@Nat.lt_succ_iff_lt_or_eq
def fF:=@List.Pairwise.imp_of_mem
def fG:=@beq_self_eq_true
def fH:=@Nat.le_add_right
def fJ:=@Nat.add_sub_cancel_left
def fK:=@List.getElem_inj
def fM:=@PySem.wpAny_pyNext_list_item
def fN:=@decide_false
def fO:=@PySem.F.entry_min_loop
def fQ:=@List.getElem?_set_self
def fS:=@List.Perm.append_right
def fU:=@Int.add_zero
def fV:=@PySem.Calls.callWith_builtin
def fW:=@Array.getElem?_extract
def fX:=@PySem.wpAny_loadPart'
def fY:=@PySem.wpAny_execs_nil
def fZ:=@Nat.min_le_left
def gb:=@Int.emod_nonneg
def gc:=@PySem.F.slot_zip_next
def gf:=@PySem.wpAny_pyNext_list_end
def gg:=@PySem.wpAny_isTrue_Compare1
def gh:=@PyProof.Rows.boot_min
def gj:=@PyProof.Rows.boot_max
def gk:=@PyProof.Rows.boot_int
def gm:=@PyProof.Rows.boot_all
def gn:=@PyProof.Rows.wpS_lift
def gp:=@PySem.wpAny_updateSeq_pair
def gq:=@PySem.wpAny_of_eq
def gu:=@List.getElem?_set_ne
def gv:=@Int.one_mul
def gw:=@PySem.Calls.evalArgs_plain
def gz:=@PySem.W.plainGet_of
def gA:=@PySem.wpAny_onRaise
def gB:=@PySem.wpAny_newList
def gC:=@PySem.wpAny_attempt
def gD:=@Nat.add_assoc
def gF:=@PySem.wpAny_pyIter_tuple
def gG:=@beq_iff_eq
def gH:=@PySem.SeqAt.EqAt.int_int
def gI:=@PySem.W.callWith_K
def gJ:=@Nat.eq_zero_or_pos
def gK:=@Int.natCast_nonneg
def gL:=@Array.size_extract
def gM:=@PySem.slot_list_getitem
def gN:=@PyProof.Rows.pairsOf_size
def gO:=@PySem.codeAny_mono
def gP:=@PySem.call_meetsIn
def gQ:=@Nat.zero_add
def gR:=@Nat.sub_self
def gS:=@List.getElem_drop
def gT:=@List.all_map
def gU:=@Int.zero_add
def gW:=@Int.mul_zero
def gX:=@PySem.Calls.spliced_nil
def gY:=@Bool.eq_false_iff
def gZ:=@Array.toList_eraseIdxIfInBounds
def g6:=@PySem.wpAny_isInstance
def g9:=@PySem.wpAny_eqBool_int
def hC:=@decide_eq_decide
def hG:=@Nat.lt_succ_self
def hJ:=@Int.mul_le_mul_of_nonneg_right
def hU:=@PySem.F.slot_list_iadd
def hV:=@PySem.seqIndex_of
def hX:=@PyProof.Rows.mirror_perm
def hZ:=@Prod.mk.inj
def h8:=@Int.mul_le_mul_of_nonneg_left
def ic:=@Int.add_mul
def ie:=@PySem.wpAny_updateSeq
def ig:=@PySem.SeqAt.EqAt.same
def ij:=@Nat.min_eq_left
def ik:=@List.of_mem_zip
def il:=@List.forIn_cons
def ip:=@PySem.F.args_tuple_iterator_next_1
def iq:=@Array.getElem?_setIfInBounds
def ir:=@PySem.F.entry_tuple_iterator_next
def iu:=@PySem.call_meets
def iw:=@PyProof.Rows.Subscript_
def iC:=@List.drop_drop
def iD:=@Int.mul_nonneg
def iE:=@Int.fdiv_eq_ediv_of_nonneg
def iF:=@PySem.Calls.Name_function_global
def iG:=@Array.toList_setIfInBounds
set_option Elab.async false
set_option linter.all false
set_option maxRecDepth 100000
theorem gE{α:Type}{l:List α}{i:Nat}(h:i<l.length):l[i]? =some l[i]:=List.getElem?_eq_getElem h
namespace L2
open PySem PySem.Spec PyProof.Rows
abbrev iJ:=Sum Int Str
noncomputable def mW:iJ->Value->Bool
 | .inl k,v=>Value.isInt k v
 | .inr x,v=>Value.isStrOf x v
noncomputable def DB(w:World):iJ->Int
 | .inl k=>hashInt k
 | .inr x=>hashStr w x
theorem mw:∀{k:iJ} {v:Value},mW k v=true->(∃i t,k=Sum.inl i/\v=Value.int i t)\/(∃x t,k=Sum.inr x/\v=Value.str x t)
 | .inl i,v,h=>by
  obtain⟨t,e⟩:=Value.isInt_shape (k:=i) (v:=v) h
  exact .inl ⟨i,t,rfl,e⟩
 | .inr x,v,h=>by
  obtain⟨t,e⟩:=Value.isStrOf_shape (x:=x) (v:=v) h
  exact .inr ⟨x,t,rfl,e⟩
theorem FP(i:Int)(t:Tok):mW (.inl i) (.int i t)=true:=by simp[mW,Value.isInt]
theorem FQ(x:Str)(t:Tok):mW (.inr x) (.str x t)=true:=by simp[mW,Value.isStrOf]
theorem DA(a b:Int):decide ((Sum.inl a:iJ)=Sum.inl b)=(a==b):=by
 by_cases e:a=b
 ·subst e;simp
 ·have h:¬(Sum.inl a:iJ)=Sum.inl b:=fun q=>e (cw q)
  rw[aP h]
  exact(bX.mpr e).symm
theorem Dx(a b:Str):decide ((Sum.inr a:iJ)=Sum.inr b)=decide (a=b):=by
 by_cases e:a=b
 ·subst e;simp
 ·have h:¬(Sum.inr a:iJ)=Sum.inr b:=fun q=>e (Sum.inr.inj q)
  rw[aP h,aP e]
theorem Dz(a:Int)(b:Str):decide ((Sum.inl a:iJ)=Sum.inr b)=false:=aP (fun q=>nomatch q)
theorem Dy(a:Str)(b:Int):decide ((Sum.inr a:iJ)=Sum.inl b)=false:=aP (fun q=>nomatch q)
noncomputable def jR(prog:Program)(w:World):PySem.KeyKind prog w iJ where
 is:=mW
 hash:=DB w
 inj:=fun v a b ha hb=>by
  rcases mw ha with⟨i,t,rfl,rfl⟩|⟨x,t,rfl,rfl⟩
  ·rcases mw hb with⟨j,u,rfl,e⟩|⟨y,u,rfl,e⟩
   ·injection e with e1 _;rw[e1]
   ·exact nomatch e
  ·rcases mw hb with⟨j,u,rfl,e⟩|⟨y,u,rfl,e⟩
   ·exact nomatch e
   ·injection e with e1 _;rw[e1]
 byValue:=fun k v h=>by
  rcases mw h with⟨i,t,rfl,rfl⟩|⟨x,t,rfl,rfl⟩<;>rfl
 pyHash:=fun hv h=>by
  rcases mw hv with⟨i,t,rfl,rfl⟩|⟨x,t,rfl,rfl⟩
  ·exact wpAny_pyHash_int h
  ·exact wpAny_pyHash_str h
 eqBool:=fun hu hv h=>by
  rcases mw hu with⟨i,t,rfl,rfl⟩|⟨x,t,rfl,rfl⟩
  ·rcases mw hv with⟨j,u,rfl,rfl⟩|⟨y,u,rfl,rfl⟩
   ·rw[DA]at h;exact g9 h
   ·rw[Dz]at h;exact SeqAt.EqAt.int_str i t y u _ _ _ _ h
  ·rcases mw hv with⟨j,u,rfl,rfl⟩|⟨y,u,rfl,rfl⟩
   ·rw[Dy]at h;exact SeqAt.EqAt.str_int x t j u _ _ _ _ h
   ·rw[Dx]at h;exact wpAny_eqBool_str h
 «strs»:=fun k x t v h=>by
  rcases mw h with⟨i,u,rfl,e⟩|⟨y,u,rfl,e⟩
  ·exact nomatch e
  ·injection e with e1 _
   subst e1
   cases v<;>rfl
theorem GW(prog:Program)(w:World)(i:Int)(t:Tok):(jR prog w).is (.inl i) (.int i t)=true:=FP i t
theorem GX(prog:Program)(w:World)(x:Str)(t:Tok):(jR prog w).is (.inr x) (.str x t)=true:=FQ x t
inductive V where
 |non|bl (b:Bool)|int (i:Int)|str (x:Str)|byt (b:Array UInt8)|flt (b:UInt64)|ref (a:Addr)|ty (n:String)
 deriving DecidableEq
def RelV:V->Value->Prop
 | .non,u=>u=Value.none
 | .bl b,u=>u=Value.bool b
 | .int i,u=>∃t,u=Value.int i t
 | .str x,u=>∃t,u=Value.str x t
 | .byt b,u=>∃t,u=Value.bytes b t
 | .flt b,u=>∃t,u=Value.float b t
 | .ref a,u=>u=Value.ref a
 | .ty n,u=>u=Value.type n
abbrev Vals:List V->List Value->Prop:=Paired RelV
theorem Vals.length{xs:List V}{us:List Value}(r:Vals xs us):xs.length=us.length:=aD r
theorem Vals.get:∀{xs:List V} {us:List Value} {i:Nat} {x:V},Vals xs us->xs[i]? =some x->∃u,us[i]? =some u/\RelV x u
 |_,_,_,_,.nil,e=>by simp at e
 |_,_,0,_,.cons r _,e=>by simp at e;subst e;exact⟨_,rfl,r⟩
 |_,_,i+1,x,.cons _ t,e=>by
  obtain⟨u,h1,h2⟩:=Vals.get (i:=i) (x:=x) t (by simpa using e)
  exact⟨u,by simpa using h1,h2⟩
theorem Vals.set{x:V}{u:Value}(r:RelV x u):∀{xs:List V} {us:List Value} (i:Nat),Vals xs us->Vals (xs.set i x) (us.set i u)
 |_,_,_,.nil=>.nil
 |_,_,0,.cons _ t=>.cons r t
 |_,_,i+1,.cons q t=>.cons q (Vals.set r i t)
theorem Vals.append:∀{xs ys:List V} {us ws:List Value},Vals xs us->Vals ys ws->Vals (xs++ys) (us++ws)
 |_,_,_,_,.nil,s=>s
 |_,_,_,_,.cons r t,s=>.cons r (Vals.append t s)
theorem Vals.take:∀{xs:List V} {us:List Value} (n:Nat),Vals xs us->Vals (xs.take n) (us.take n)
 |_,_,0,_=>.nil
 |_,_,_+1,.nil=>.nil
 |_,_,n+1,.cons r t=>.cons r (Vals.take n t)
theorem Vals.drop:∀{xs:List V} {us:List Value} (n:Nat),Vals xs us->Vals (xs.drop n) (us.drop n)
 |_,_,0,r=>r
 |_,_,_+1,.nil=>.nil
 |_,_,n+1,.cons _ t=>Vals.drop n t
def RelO:Option V->Option Value->Prop
 |some v,some u=>RelV v u
 |none,none=>True
 |_,_=>False
def KV{κ:Type}:List (κ×V)->List (κ×Value)->Prop:=Paired fun(p:κ×V) (q:κ×Value)=>p.1=q.1/\RelV p.2 q.2
noncomputable def kV:iJ->V
 | .inl i=>.int i
 | .inr x=>.str x
inductive HO where
 |lst (xs:List V)
 |tup (xs:List V)
 |dK (kvs:List (iJ×V))|dT (kvs:List (List iJ×V))
 |set (S:Int->Bool) (n:Nat)
 |ins (C dx:Addr) (fs:List (Str×V))
 |own (x:Addr)
 |xd (fs:List (Str×V))
 |met (f x:Addr)
 |rng (lo hi:Int)
 |frz (o:Obj) (u:HO)
 |tbl (ps:Array Value)
 |ext (φ:Heap->Prop)
abbrev Hp:=Addr->Option HO
noncomputable def upd(H:Hp)(a:Addr)(o:HO):Hp:=fun b=>if b=a then some o else H b
theorem iK{H:Hp}{a:Addr}{o:HO}:upd H a o a=some o:=by unfold upd;rw[aA rfl]
theorem iQ{H:Hp}{a b:Addr}{o:HO}(h:b≠a):upd H a o b=H b:=by unfold upd;rw[ay h]
theorem zg{H:Hp}{a:Addr}{o u:HO}:upd (upd H a o) a u=upd H a u:=by
 funext b;unfold upd;split<;>rfl
theorem nW{H:Hp}{a b:Addr}{o u:HO}(h:H a=some o)(h':H b=some u)(d:o≠u):a≠b:=by
 intro e;subst e;rw[h]at h';exact d (aI h')
theorem iV{H:Hp}{a b:Addr}{o:HO}(h:H a=some o)(h':H b=none):a≠b:=by
 intro e;subst e;rw[h]at h';cases h'
section
variable(P:Program)(w:World)
def jbk(H:Hp)(h:Heap)(a:Addr):HO->Prop
 | .lst xs=>xs.length<=sizeLine/\∃(its:List Value) (n:Nat),Vals xs its/\h.get? a=some {cls:=.type "list",data:=.seq its.toArray n}
 | .tup xs=>xs.length<=sizeLine/\∃its:List Value,Vals xs its/\IsTup h a its.toArray
 | .dK kvs=>kvs.length<=sizeLine/\(a==sysModules)=false/\∃vs,KV kvs vs/\h.DictOf (jR P w) a vs
 | .dT kvs=>kvs.length<=sizeLine/\(a==sysModules)=false/\∃xs:List (List iJ×Addr×Value),
   Paired (fun(p:List iJ×V) (q:List iJ×Addr×Value)=>p.1=q.1/\H q.2.1=some (.tup (p.1.map kV))/\RelV p.2 q.2.2) kvs xs/\
   ∃o es ep,h.get? a=some o/\o.ExactDict/\o.data= .dict es ep/\es.toList=xs.map (entryOfKey (tupleKind (jR P w)))/\(xs.map (·.1)).Nodup
 | .set S n=>h.SetOf (intKind P w) a S n
 | .ins C dx fs=>H dx=some (.own a)/\fs.length<=1000/\dx≠a/\h.get? a=some (PySem.W.instObj C dx)/\
   ∃mA,h.Ns1 dx mA/\(∀f,RelO (fs.lookup f) (mA f))/\PySem.Within mA (fs.map (·.1))
 | .own _=>∃o,h.get? a=some o
 | .xd fs=>∃mA,h.Ns1 a mA/\∀f,RelO (fs.lookup f) (mA f)
 | .rng lo hi=>∃t u v,h.get? a=some {cls:=.type "range",data:=.fields #[.int lo t,.int hi u,.int 1 v]}
 | .frz o u=>h.get? a=some o/\jbk H h a u
 | .tbl ps=>h.get? a=some {cls:=.none,data:=.fields ps}
 | .met f x=>h.get? a=some (PySem.W.methodObj (.ref f) (.ref x))
 | .ext φ=>φ h/\(∃o,h.get? a=some o)/\∀h1 h2:Heap,φ h1->(∀o,h1.get? a=some o->h2.get? a=some o)->φ h2
def HOk(H:Hp)(h:Heap):Prop:=∀a o,H a=some o->jbk P w H h a o
end
section
variable{P:Program}{w:World}{H H':Hp}{h h':Heap}{a:Addr}{o:HO}
theorem jbk.lt(x:jbk P w H h a o):a<h.objs.size:=by
 cases o with
 |lst xs=>obtain⟨_,_,_,_,e⟩:=x;exact aL e
 |tup xs=>obtain⟨_,_,_,p⟩:=x;exact p.lt
 |dK kvs=>obtain⟨_,_,_,_,o,_,_,e,_⟩:=x;exact aL e
 |dT kvs=>obtain⟨_,_,_,_,o,_,_,e,_⟩:=x;exact aL e
 |set S n=>obtain⟨o,_,_,_,e,_⟩:=x;exact aL e
 |ins C dx fs=>obtain⟨_,_,_,e,_⟩:=x;exact aL e
 |own y=>obtain⟨_,e⟩:=x;exact aL e
 |xd fs=>obtain⟨_,⟨_,_,_,e,_⟩,_⟩:=x;exact aL e
 |rng lo hi=>obtain⟨_,_,_,e⟩:=x;exact aL e
 |frz ob u=>obtain⟨e,_⟩:=x;exact aL e
 |tbl ps=>exact aL (show h.get? a=some _ from x)
 |met f y=>exact aL (show h.get? a=some _ from x)
 |ext φ=>obtain⟨_,⟨_,e⟩,_⟩:=x;exact aL e
theorem Paired.mapP{α β:Type}{F G:α->β->Prop}:∀{l₁:List α} {l₂:List β},Paired F l₁ l₂->(∀a b,F a b->G a b)->Paired G l₁ l₂
 |_,_,.nil,_=>.nil
 |_,_,.cons r t,f=>.cons (f _ _ r) (Paired.mapP t f)
theorem Paired.imp'{α β:Type}{F G:α->β->Prop}(f:∀a b,F a b->G a b){l₁:List α}{l₂:List β}(r:Paired F l₁ l₂):Paired G l₁ l₂:=Paired.mapP r f
theorem jbk.stay(x:jbk P w H h a o)(k:∀b u,(b=a\/H b=some (.own a))->h.get? b=some u->h'.get? b=some u)
  (ho:∀b,H b=some (.own a)->H' b=some (.own a)) (ht:∀b xs,H b=some (.tup xs)->H' b=some (.tup xs)):jbk P w H' h' a o:=by
 induction o with
 |lst xs=>obtain⟨z,its,n,r,e⟩:=x;exact⟨z,its,n,r,k _ _ (.inl rfl) e⟩
 |tup xs=>obtain⟨z,its,r,ob,e,c⟩:=x;exact⟨z,its,r,ob,k _ _ (.inl rfl) e,c⟩
 |dK kvs=>obtain⟨z,y,vs,r,ob,es,ep,e,c⟩:=x;exact⟨z,y,vs,r,ob,es,ep,k _ _ (.inl rfl) e,c⟩
 |dT kvs=>
  obtain⟨z,y,xs,r,ob,es,ep,e,c⟩:=x
  exact⟨z,y,xs,Paired.mapP r fun p q z=>⟨z.1,ht _ _ z.2.1,z.2.2⟩,ob,es,ep,k _ _ (.inl rfl) e,c⟩
 |set S n=>obtain⟨ob,es,ep,t,e,c⟩:=x;exact⟨ob,es,ep,t,k _ _ (.inl rfl) e,c⟩
 |ins C dx fs=>
  obtain⟨d,z,ne,e,mA,⟨od,es,ep,e2,c⟩,r⟩:=x
  exact⟨ho _ d,z,ne,k _ _ (.inl rfl) e,mA,⟨od,es,ep,k _ _ (.inr d) e2,c⟩,r⟩
 |own y=>obtain⟨ob,e⟩:=x;exact⟨ob,k _ _ (.inl rfl) e⟩
 |xd fs=>obtain⟨mA,⟨od,es,ep,e,c⟩,r⟩:=x;exact⟨mA,⟨od,es,ep,k _ _ (.inl rfl) e,c⟩,r⟩
 |rng lo hi=>obtain⟨t,u,v,e⟩:=x;exact⟨t,u,v,k _ _ (.inl rfl) e⟩
 |frz ob u ih=>obtain⟨e,q⟩:=x;exact⟨k _ _ (.inl rfl) e,ih q⟩
 |tbl ps=>
  have e:h.get? a=some {cls:=.none,data:=.fields ps}:=x
  show h'.get? a=some {cls:=.none,data:=.fields ps}
  exact k a _ (.inl rfl) e
 |met f y=>
  have e:h.get? a=some (PySem.W.methodObj (.ref f) (.ref y)):=x
  show h'.get? a=some (PySem.W.methodObj (.ref f) (.ref y))
  exact k a _ (.inl rfl) e
 |ext φ=>obtain⟨p,⟨o,e⟩,st⟩:=x;exact⟨st _ _ p fun o q=>k _ _ (.inl rfl) q,⟨o,k _ _ (.inl rfl) e⟩,st⟩
theorem HOk.lt(x:HOk P w H h)(e:H a=some o):a<h.objs.size:=(x a o e).lt
theorem HOk.fresh(x:HOk P w H h)(e:h.objs.size<=a):H a=none:=by
 cases q:H a with
 |none=>rfl
 |some u=>exact absurd (bj (x.lt q) e) (cV _)
theorem HOk.kept(x:HOk P w H h)(k:∀b u,h.get? b=some u->h'.get? b=some u):HOk P w H h':=fun a o e=>
 (x a o e).stay (fun b u _ q=>k b u q) (fun _ q=>q) fun _ _ q=>q
theorem HOk.laid(x:HOk P w H h)(k:∀b u,h.get? b=some u->h'.get? b=some u)(hp:h.objs.size<=a)(new:jbk P w (upd H a o) h' a o):HOk P w (upd H a o) h':=fun b u e=>by
 have hn:=x.fresh hp
 by_cases hb:b=a
 ·subst hb;rw[iK]at e;cases e;exact new
 ·rw[iQ hb]at e
  exact(x b u e).stay (fun c v _ q=>k c v q) (fun c q=>by rw[iQ (iV q hn)];exact q) fun c xs q=>by rw[iQ (iV q hn)];exact q
end
def Rd(H:Hp)(a:Addr)(u:HO):Prop:=H a=some u\/∃o,H a=some (.frz o u)
theorem Rd.of{H:Hp}{a:Addr}{u:HO}(h:H a=some u):Rd H a u:=.inl h
theorem Rd.ok{P:Program}{w:World}{H:Hp}{h:Heap}{a:Addr}{u:HO}(r:Rd H a u)(x:HOk P w H h):jbk P w H h a u:=by
 rcases r with r|⟨o,r⟩
 ·exact x a u r
 ·obtain⟨_,q⟩:=x a _ r
  exact q
def qx:Option HO->Prop
 |some (.lst _)=>True
 |some (.dK _)=>True
 |some (.dT _)=>True
 |some (.set _ _)=>True
 |some (.ins _ _ _)=>True
 |some (.ext _)=>True
 |_=>False
section
variable{P:Program}{w:World}{H:Hp}{h h':Heap}{x e:Addr}{o':HO}
theorem HOk.write(ok:HOk P w H h)(mu:qx (H x))(he:e=x\/H e=some (.own x))(k:∀b u,b≠e->h.get? b=some u->h'.get? b=some u)(heo:∃u,h'.get? e=some u)
  (new:jbk P w (upd H x o') h' x o'):HOk P w (upd H x o') h':=fun b u q=>by
 have nown:∀c y,H c=some (.own y)->c≠x:=fun c y r z=>by subst z;rw[r]at mu;exact mu
 have ntup:∀c xs,H c=some (.tup xs)->c≠x:=fun c xs r z=>by subst z;rw[r]at mu;exact mu
 by_cases hb:b=x
 ·subst hb;rw[iK]at q;cases q;exact new
 ·rw[iQ hb]at q
  by_cases hbe:b=e
  ·have q':H b=some (.own x):=by
    rcases he with z|z
    ·exact absurd (hbe.trans z) hb
    ·rw[hbe];exact z
   rw[q]at q';cases q'
   obtain⟨v,hv⟩:=heo
   exact⟨v,by rw[hbe];exact hv⟩
  ·refine(ok b u q).stay (fun c v hc r=>k c v ?_ r) (fun c r=>by rw[iQ (nown c b r)];exact r) fun c xs r=>by rw[iQ (ntup c xs r)];exact r
   rcases hc with rfl|hc
   ·exact hbe
   ·rintro rfl
    rcases he with z|z
    ·exact nown c b hc z
    ·rw[hc]at z;cases z;exact hb rfl
end
structure Un(fs ex:List Addr)(H H':Hp)(h h':Heap):Prop where
 keep:∀b o,h.get? b=some o->H b=none->b∉fs->b∉ex->h'.get? b=some o
 slot:∀b o,h.get? b=some o->H b=none->b∈fs->b∉ex->∃sl,h'.get? b=some {o with slots:=sl}
 free:∀b o,h.get? b=some o->H b=none->b∉ex->H' b=none
 there:∀b o,h.get? b=some o->b∉ex->∃o',h'.get? b=some o'
 tups:∀b xs,H b=some (.tup xs)->H' b=some (.tup xs)
 frzs:∀b o u,H b=some (.frz o u)->H' b=some (.frz o u)
 tbls:∀b ps,H b=some (.tbl ps)->∃more,H' b=some (.tbl (ps++more))
section
variable{fs fs' ex ex':List Addr}{H H1 H2:Hp}{h h1 h2 h':Heap}{a x e:Addr}{o:HO}
theorem Un.any(u:Un fs ex H H1 h h1){b:Addr}{ob:Obj}(q:h.get? b=some ob)(n:H b=none)(hx:b∉ex):∃sl,h1.get? b=some {ob with slots:=sl}:=by
 by_cases hb:b∈fs
 ·exact u.slot b ob q n hb hx
 ·exact⟨ob.slots,u.keep b ob q n hb hx⟩
theorem Un.kept(k:∀b u,h.get? b=some u->h'.get? b=some u):Un fs ex H H h h':=
 ⟨fun b ob q _ _ _=>k b ob q,fun b ob q _ _ _=>⟨ob.slots,k b ob q⟩,fun _ _ _ n _=>n,fun b ob q _=>⟨ob,k b ob q⟩,fun _ _ q=>q,fun _ _ _ q=>q,fun _ ps q=>⟨#[],by rw[q];simp⟩⟩
theorem Un.refl:Un fs ex H H h h:=Un.kept fun _ _ q=>q
theorem Un.laid(k:∀b u,h.get? b=some u->h'.get? b=some u)(hp:h.objs.size<=a)(hn:H a=none):Un fs ex H (upd H a o) h h' where
 keep:=fun b u q _ _ _=>k b u q
 slot:=fun b u q _ _ _=>⟨u.slots,k b u q⟩
 free:=fun b u q n _=>by rw[iQ (aX (bj (aL q) hp))];exact n
 there:=fun b u q _=>⟨u,k b u q⟩
 tups:=fun b xs q=>by rw[iQ (iV q hn)];exact q
 frzs:=fun b u xs q=>by rw[iQ (iV q hn)];exact q
 tbls:=fun b ps q=>⟨#[],by rw[iQ (iV q hn),q];simp⟩
theorem Un.write(mu:qx (H x))(he:e=x\/H e=some (.own x))(k:∀b u,b≠e->h.get? b=some u->h'.get? b=some u)(heo:∃u,h'.get? e=some u):Un fs ex H (upd H x o) h h':=by
 have hx:∀b,H b=none->b≠x:=fun b n z=>by subst z;rw[n]at mu;exact mu
 have hb:∀b,H b=none->b≠e:=fun b n z=>by
  subst z
  rcases he with r|r
  ·exact hx b n r
  ·rw[n]at r;cases r
 have hm:∀b u,H b=some u->¬qx (some u)->b≠x:=fun b u q nm z=>by subst z;rw[q]at mu;exact nm mu
 refine⟨fun b u q n _ _=>k b u (hb b n) q,fun b u q n _ _=>⟨u.slots,k b u (hb b n) q⟩,fun b u q n _=>by rw[iQ (hx b n)];exact n,fun b u q _=>?_,
  fun b xs q=>by rw[iQ (hm b _ q fun z=>z)];exact q,fun b u xs q=>by rw[iQ (hm b _ q fun z=>z)];exact q,fun b ps q=>⟨#[],by rw[iQ (hm b _ q fun z=>z),q];simp⟩⟩
 by_cases hbe:b=e
 ·subst hbe;exact heo
 ·exact⟨u,k b u hbe q⟩
theorem Un.mono(u:Un fs ex H H1 h h1)(hs:∀b∈fs,b∈fs')(hx:∀b∈ex,b∈ex'):Un fs' ex' H H1 h h1:=
 ⟨fun b ob q n hb he=>u.keep b ob q n (fun z=>hb (hs b z)) fun z=>he (hx b z),fun _ _ q n _ he=>u.any q n fun z=>he (hx _ z),fun b ob q n he=>u.free b ob q n fun z=>he (hx b z),fun b ob q he=>u.there b ob q fun z=>he (hx b z),u.tups,u.frzs,u.tbls⟩
end
noncomputable def qF(h:Heap)(H:Hp):List Addr:=(List.range h.objs.size).filter fun a=>(H a).isSome
noncomputable def ng(h:Heap)(H:Hp):Heap:=PySem.W.hideAll h (qF h H)
theorem FL(h:Heap)(H:Hp):(ng h H).objs.size=h.objs.size:=PySem.W.hideAll_size _ _
theorem EI{h:Heap}{H:Hp}{b:Addr}{o:Obj}(e:h.get? b=some o)(n:H b=none):(ng h H).get? b=some o:=
 PySem.W.hideAll_get _ e fun hm=>by
  have q:(H b).isSome=true:=(de.mp hm).2
  rw[n]at q;simp at q
theorem D1{h:Heap}{H:Hp}{b:Addr}{o:Obj}(e:(ng h H).get? b=some o):h.get? b=some o/\H b=none:=by
 have e':h.get? b=some o:=PySem.W.of_hideAll (qF h H) e
 refine⟨e',?_⟩
 cases q:H b with
 |none=>rfl
 |some x=>
  have hm:b∈qF h H:=de.mpr ⟨bg.mpr (aL e'),by simp[q]⟩
  have z:(ng h H).get? b=none:=PySem.W.hideAll_none (qF h H) hm
  rw[z]at e;cases e
structure Mod(K:PySem.W.Frag)(mg:Str->Option Value)(base:Heap):Prop where
 kin:K.In base
 glob:base.Ns mainGlobals mg
 blt:∃mb,base.Ns builtinsNs mb/\∀x:Str,x≠"__name__"->mb x=bootBuiltins x
 nolimit:base.NoLimit
structure Cx where
 prog:Program
 w:World
 K:PySem.W.Frag
 mg:Str->Option Value
 base:Heap
 A:Around
 N:List Str
 s₀:Shared
 H₀:Hp
 env:Env
 outer:List Env
 stack:List Env
 ex:List Addr
 fn:Str->Bool
 calm:Bool
 pn:List (Addr×Obj)
 xe:Value->Shared->Prop
noncomputable def k9(l:List Env):List Addr:=l.filterMap (·.frame)
noncomputable abbrev Cx.fs(X:Cx):List Addr:=k9 X.outer
def qt(sc:Scope)(x:Str):Prop:=sc.names.lookup x=some .local\/sc.names.lookup x=some .cell\/sc.names.lookup x=some .free
def Loc(sc:Scope)(x:Str):Prop:=sc.names.lookup x=some .local\/sc.names.lookup x=some .cell
def Look(env:Env)(h:Heap)(m:Str->Option Value)(x:Str)(u:Value):Prop:=
 (env.kindOf x=some .local/\m x=some u)\/((env.kindOf x=some .cell\/env.kindOf x=some .free)/\∃c,env.cells.lookup x=some c/\h.IsCell c (some u))
structure Cx.Ok(X:Cx):Prop where
 mod:Mod X.K X.mg X.base
 kind:X.env.scope.kind= .function
 glob:X.env.globals=mainGlobals
 blt:X.env.builtins=builtinsNs
 above:X.s₀.heap.objs.size<=X.env.locals
 inj:∀x y c,X.env.cells.lookup x=some c->X.env.cells.lookup y=some c->x=y
 has:∀x,(X.env.kindOf x=some .cell\/X.env.kindOf x=some .free)->∃c,X.env.cells.lookup x=some c
 cab:∀x c,X.fn x=true->X.env.cells.lookup x=some c->X.s₀.heap.objs.size<=c
 hd:X.calm=true->X.A.handled=none
 frames:X.A.frames=some X.stack
 stk:X.stack=X.outer\/(X.stack=X.env::X.outer/\X.env.frame=some X.env.locals)
 exf:∀b∈X.ex,b≠X.env.locals/\∀x c,X.env.cells.lookup x=some c->c≠b
 bs:∀b o,X.base.get? b=some o->X.s₀.heap.get? b=some o/\X.H₀ b=none
 bsz:X.base.objs.size<=X.s₀.heap.objs.size
 noex:∀b o,X.base.get? b=some o->b∉X.ex
 exfs:∀b∈X.ex,b∉X.fs
 funs:X.s₀.heap.FunFrames X.base X.outer
 frf:∀b∈X.fs,X.H₀ b=none
structure Inv(X:Cx)(pins:List (Addr×Obj))(σ:List (Option V))(H:Hp)(s:Shared):Prop where
 ok:X.Ok
 os:s.os=X.s₀.os
 bare:AllBare s.gens
 base:Un X.fs X.ex X.H₀ H X.s₀.heap s.heap
 loc:∃m,s.heap.Ns X.env.locals m/\∀(i:Nat) (x:Str) (v:V),X.N[i]? =some x->σ[i]? =some (some v)->qt X.env.scope x->∃u,RelV v u/\Look X.env s.heap m x u
 cell:∀x c,X.env.cells.lookup x=some c->∃v,s.heap.IsCell c v
 free:H X.env.locals=none
 freeC:∀x c,X.env.cells.lookup x=some c->H c=none
 pin:∀p∈X.pn++pins,s.heap.get? p.1=some p.2/\H p.1=none/\p.1≠X.env.locals/\p.1∉X.fs/\∀v,p.2.data≠ .cell v
 hok:HOk X.prog X.w H s.heap
 len:σ.length=X.N.length
section
variable{X:Cx}{pins:List (Addr×Obj)}{σ:List (Option V)}{H H':Hp}{s:Shared}{h':Heap}
theorem Cx.Ok.nofr(ok:X.Ok){b:Addr}{o:Obj}(e:X.base.get? b=some o):b∉X.fs:=fun hb=>by
 have:=(ok.funs.mem hb).1
 rw[e]at this;cases this
theorem Inv.bs(I:Inv X pins σ H s):∀b o,X.base.get? b=some o->s.heap.get? b=some o/\H b=none:=fun b o e=>
 ⟨I.base.keep b o (I.ok.bs b o e).1 (I.ok.bs b o e).2 (I.ok.nofr e) (I.ok.noex b o e),I.base.free b o (I.ok.bs b o e).1 (I.ok.bs b o e).2 (I.ok.noex b o e)⟩
theorem Inv.bk(I:Inv X pins σ H s):∀b o,X.base.get? b=some o->s.heap.get? b=some o:=fun b o e=>(I.bs b o e).1
theorem Inv.mod(I:Inv X pins σ H s):Mod X.K X.mg X.base:=I.ok.mod
theorem Inv.kIn(I:Inv X pins σ H s):X.K.In s.heap:=I.ok.mod.kin.keeps I.bk
theorem Inv.fr(I:Inv X pins σ H s):∃m,Fr X.base X.env.locals s.heap m:=
 let⟨m,hn,_⟩:=I.loc
 ⟨m,hn,I.bk,bE I.ok.bsz I.ok.above⟩
theorem Inv.lt(I:Inv X pins σ H s):X.env.locals<s.heap.objs.size:=let⟨_,hn,_⟩:=I.loc;hn.lt
theorem Inv.sz(I:Inv X pins σ H s):X.s₀.heap.objs.size<=s.heap.objs.size:=bE I.ok.above (dF I.lt)
theorem Inv.nofs(I:Inv X pins σ H s){a:Addr}(h:s.heap.objs.size<=a):a∉X.fs:=fun hb=>by
 obtain⟨_,o,ho,_⟩:=I.ok.funs.mem hb
 exact absurd (bj (aL ho) (bE I.sz h)) (cV _)
theorem Inv.cne(I:Inv X pins σ H s):∀x c,X.env.cells.lookup x=some c->c≠X.env.locals:=fun x c e z=>by
 obtain⟨v,o,ho,hd⟩:=I.cell x c e
 obtain⟨m,⟨o',es,ep,ho',hd',_⟩,_⟩:=I.loc
 rw[z,ho']at ho;cases ho;rw[hd']at hd;cases hd
theorem Inv.funs(I:Inv X pins σ H s):s.heap.FunFrames X.base X.outer:=by
 have all:∀(l:List Env),(∀b∈k9 l,b∈X.fs)->X.s₀.heap.FunFrames X.base l->s.heap.FunFrames X.base l:=by
  intro l
  induction l with
  |nil=>intro _ _;trivial
  |cons env r ih=>
   intro hs hl
   obtain⟨hk,⟨L,o,hf,hn,ho,hd⟩,hr⟩:=hl
   have hL:L∈X.fs:=hs L (by unfold k9;rw[List.filterMap_cons,hf];exact aH)
   obtain⟨sl,e⟩:=I.base.slot L o ho (I.ok.frf L hL) hL fun z=>I.ok.exfs L z hL
   exact⟨hk,⟨L,_,hf,hn,e,hd⟩,ih (fun b hb=>hs b (by unfold k9;rw[List.filterMap_cons,hf];exact az _ hb)) hr⟩
 exact all X.outer (fun _ hb=>hb) I.ok.funs
theorem Inv.stack(I:Inv X pins σ H s):s.heap.FunFrames X.base X.stack:=by
 rcases I.ok.stk with e|⟨e,hf⟩
 ·rw[e];exact I.funs
 ·rw[e]
  obtain⟨m,hn,_⟩:=I.loc
  refine .cons (by rw[I.ok.kind];decide) hf hn ?_ I.funs
  exact Heap.get?_none_of_le (bE I.ok.bsz I.ok.above)
theorem Inv.stkSub(I:Inv X pins σ H s):∀b∈k9 X.stack,b∈X.env.locals::X.fs:=fun b hb=>by
 rcases I.ok.stk with e|⟨e,hf⟩
 ·rw[e]at hb;exact az _ hb
 ·rw[e]at hb
  unfold k9 at hb
  rw[List.filterMap_cons,hf]at hb
  exact hb
theorem Inv.stkFree(I:Inv X pins σ H s):∀b∈k9 X.stack,H b=none:=fun b hb=>by
 rcases aM.mp (I.stkSub b hb)with e|hb
 ·rw[e];exact I.free
 ·obtain⟨_,o,ho,_⟩:=I.ok.funs.mem hb
  exact I.base.free b o ho (I.ok.frf b hb) fun z=>I.ok.exfs b z hb
theorem Inv.step{g':Array GenState}{t':Nat}{d':Drawn}{ch:List Addr}(I:Inv X pins σ H s)
  (hch:∀b∈ch,(b∈X.ex\/X.s₀.heap.objs.size<=b)/\b≠X.env.locals/\(∀x c,X.env.cells.lookup x=some c->c≠b)/\∀p∈X.pn++pins,p.1≠b)
  (keep:∀b o,b≠X.env.locals->b∉X.fs->b∉ch->s.heap.get? b=some o->H b=none->h'.get? b=some o)
  (slot:∀b o,b≠X.env.locals->b∈X.fs->b∉ch->s.heap.get? b=some o->H b=none->∃sl,h'.get? b=some {o with slots:=sl}) (free:∀b o,b∉ch->s.heap.get? b=some o->H b=none->H' b=none)
  (there:∀b o,b∉ch->s.heap.get? b=some o->∃o',h'.get? b=some o')
  (tups:∀b xs,H b=some (.tup xs)->H' b=some (.tup xs)) (frzs:∀b o u,H b=some (.frz o u)->H' b=some (.frz o u)) (tbls:∀b ps,H b=some (.tbl ps)->∃more,H' b=some (.tbl (ps++more)))
  (ns:∀m,s.heap.Ns X.env.locals m->h'.Ns X.env.locals m) (hok:HOk X.prog X.w H' h') (hg:AllBare g'):
  Inv X pins σ H' {s with heap:=h',gens:=g',drawn:=d',toks:=t'}:=by
 have neL:∀b o,X.s₀.heap.get? b=some o->b≠X.env.locals:=fun b o e=>aX (bj (aL e) I.ok.above)
 have neC:∀b o,X.s₀.heap.get? b=some o->b∉X.ex->b∉ch:=fun b o e hx hb=>by
  rcases(hch b hb).1 with z|z
  ·exact hx z
  ·exact absurd (bj (aL e) z) (cV _)
 have cellK:∀x c,X.env.cells.lookup x=some c->∀v,s.heap.IsCell c v->h'.IsCell c v:=fun x c e v ⟨o,ho,hd⟩=>by
  have nch:c∉ch:=fun z=>(hch c z).2.2.1 x c e rfl
  by_cases hc:c∈X.fs
  ·obtain⟨sl,q⟩:=slot c o (I.cne x c e) hc nch ho (I.freeC x c e)
   exact⟨_,q,hd⟩
  ·exact⟨o,keep c o (I.cne x c e) hc nch ho (I.freeC x c e),hd⟩
 refine⟨I.ok,I.os,hg,⟨fun b o e n hb hx=>?_,fun b o e n hb hx=>?_,fun b o e n hx=>?_,fun b o e hx=>?_,fun b xs e=>tups b xs (I.base.tups b xs e),fun b o xs e=>frzs b o xs (I.base.frzs b o xs e),fun b ps e=>?_⟩,?_,fun x c e=>?_,?_,fun x c e=>?_,fun p hp=>?_,hok,I.len⟩
 ·exact keep b o (neL b o e) hb (neC b o e hx) (I.base.keep b o e n hb hx) (I.base.free b o e n hx)
 ·obtain⟨sl,e1⟩:=I.base.slot b o e n hb hx
  obtain⟨sl',e2⟩:=slot b _ (neL b o e) hb (neC b o e hx) e1 (I.base.free b o e n hx)
  exact⟨sl',e2⟩
 ·obtain⟨o',e1⟩:=I.base.there b o e hx
  exact free b o' (neC b o e hx) e1 (I.base.free b o e n hx)
 ·obtain⟨o',e1⟩:=I.base.there b o e hx
  exact there b o' (neC b o e hx) e1
 ·obtain⟨m1,e1⟩:=I.base.tbls b ps e
  obtain⟨m2,e2⟩:=tbls b _ e1
  exact⟨m1++m2,by rw[e2,Array.append_assoc]⟩
 ·obtain⟨m,hn,hl⟩:=I.loc
  refine⟨m,ns m hn,fun i x v e1 e2 e3=>?_⟩
  obtain⟨u,r,l⟩:=hl i x v e1 e2 e3
  refine⟨u,r,?_⟩
  rcases l with l|⟨k,c,e,z⟩
  ·exact .inl l
  ·exact .inr ⟨k,c,e,cellK x c e _ z⟩
 ·obtain⟨v,z⟩:=I.cell x c e
  exact⟨v,cellK x c e v z⟩
 ·obtain⟨m,⟨o,_,_,ho,_⟩,_⟩:=I.loc
  exact free _ o (fun z=>(hch _ z).2.1 rfl) ho I.free
 ·obtain⟨v,o,ho,hd⟩:=I.cell x c e
  exact free c o (fun z=>(hch c z).2.2.1 x c e rfl) ho (I.freeC x c e)
 ·obtain⟨e,n,ne,nf,d⟩:=I.pin p hp
  have nch:p.1∉ch:=fun z=>(hch p.1 z).2.2.2 p hp rfl
  exact⟨keep p.1 p.2 ne nf nch e n,free p.1 p.2 nch e n,ne,nf,d⟩
theorem Inv.un{t':Nat}(I:Inv X pins σ H s)(u:Un X.fs [] H H' s.heap h')(hok:HOk X.prog X.w H' h'):Inv X pins σ H' {s with heap:=h',toks:=t'}:=by
 obtain⟨m,⟨o,es,ep,ho,r⟩,_⟩:=id I.loc
 obtain⟨sl,hL⟩:=u.any ho I.free (by simp)
 exact I.step (g':=s.gens) (d':=s.drawn) (ch:=[]) (fun _ z=>nomatch z) (fun b o _ hb _ e n=>u.keep b o e n hb (by simp)) (fun b o _ hb _ e n=>u.slot b o e n hb (by simp)) (fun b o _ e n=>u.free b o e n (by simp)) (fun b o _ e=>u.there b o e (by simp)) u.tups u.frzs u.tbls (fun m' hm=>by
  obtain⟨o',es',ep',ho',r'⟩:=hm
  rw[ho]at ho';cases ho'
  exact⟨_,es',ep',hL,r'⟩) hok I.bare
theorem Inv.call{g':Array GenState}{t':Nat}{d':Drawn}{ch:List Addr}(I:Inv X pins σ H s)(u:Un (k9 X.stack) ch H H' s.heap h')(hok:HOk X.prog X.w H' h')(hg:AllBare g')
  (hch:∀b∈ch,(b∈X.ex\/X.s₀.heap.objs.size<=b)/\b≠X.env.locals/\(∀x c,X.env.cells.lookup x=some c->c≠b)/\∀p∈X.pn++pins,p.1≠b):
  Inv X pins σ H' {s with heap:=h',gens:=g',drawn:=d',toks:=t'}:=by
 obtain⟨m,⟨o,es,ep,ho,r⟩,_⟩:=id I.loc
 obtain⟨sl,hL⟩:=u.any ho I.free fun z=>(hch _ z).2.1 rfl
 exact I.step (ch:=ch) hch (fun b o hL hb hc e n=>u.keep b o e n (fun z=>(aM.mp (I.stkSub b z)).elim hL hb) hc) (fun b o _ _ hc e n=>u.any e n hc) (fun b o hc e n=>u.free b o e n hc) (fun b o hc e=>u.there b o e hc) u.tups u.frzs u.tbls (fun m' hm=>by
  obtain⟨o',es',ep',ho',r'⟩:=hm
  rw[ho]at ho';cases ho'
  exact⟨_,es',ep',hL,r'⟩) hok hg
theorem Inv.turned{t':Nat}{it:Addr}(I:Inv X pins σ H s)(k:∀b o,b≠it->s.heap.get? b=some o->h'.get? b=some o)(hn:H it=none)(hL:it≠X.env.locals)
  (h1:it∈X.ex\/X.s₀.heap.objs.size<=it) (h2:∀x c,X.env.cells.lookup x=some c->c≠it) (h3:∀p∈X.pn++pins,p.1≠it):Inv X pins σ H {s with heap:=h',toks:=t'}:=by
 have nit:∀b u,H b=some u->b≠it:=fun b u e z=>by rw[z,hn]at e;cases e
 refine I.step (g':=s.gens) (d':=s.drawn) (ch:=[it]) (fun b hb=>?_) (fun b o _ _ hc e _=>k b o (fun z=>hc (by simp[z])) e) (fun b o _ _ hc e _=>⟨o.slots,k b o (fun z=>hc (by simp[z])) e⟩) (fun _ _ _ _ n=>n)
  (fun b o hc e=>⟨o,k b o (fun z=>hc (by simp[z])) e⟩) (fun _ _ e=>e) (fun _ _ _ e=>e) (fun b ps e=>⟨#[],by rw[e];simp⟩) (fun m hm=>?_) (fun b u e=>?_) I.bare
 ·have e:b=it:=by simpa using hb
  subst e
  exact⟨h1,hL,h2,h3⟩
 ·obtain⟨o,es,ep,ho,r⟩:=hm
  exact⟨o,es,ep,k _ o (di hL) ho,r⟩
 ·refine(I.hok b u e).stay (fun c v hc q=>k c v ?_ q) (fun _ q=>q) fun _ _ q=>q
  rcases hc with z|z
  ·rw[z];exact nit b u e
  ·exact nit c _ z
theorem Inv.tok(I:Inv X pins σ H s)(t:Nat):Inv X pins σ H {s with toks:=t}:=I.un (h':=s.heap) (t':=t) Un.refl I.hok
theorem Inv.kept{t':Nat}(I:Inv X pins σ H s)(k:∀b u,s.heap.get? b=some u->h'.get? b=some u):Inv X pins σ H {s with heap:=h',toks:=t'}:=I.un (Un.kept k) (I.hok.kept k)
theorem Inv.laid{a:Addr}{o:HO}{t':Nat}(I:Inv X pins σ H s)(k:∀b u,s.heap.get? b=some u->h'.get? b=some u)(hp:s.heap.objs.size<=a)(new:jbk X.prog X.w (upd H a o) h' a o):
  Inv X pins σ (upd H a o) {s with heap:=h',toks:=t'}:=I.un (Un.laid k hp (I.hok.fresh hp)) (I.hok.laid k hp new)
theorem Inv.write{x e:Addr}{o:HO}{t':Nat}(I:Inv X pins σ H s)(mu:qx (H x))(he:e=x\/H e=some (.own x))(k:∀b u,b≠e->s.heap.get? b=some u->h'.get? b=some u)(heo:∃u,h'.get? e=some u)
  (new:jbk X.prog X.w (upd H x o) h' x o):Inv X pins σ (upd H x o) {s with heap:=h',toks:=t'}:=I.un (Un.write mu he k heo) (I.hok.write mu he k heo new)
theorem Inv.pins_of{pins':List (Addr×Obj)}(I:Inv X pins σ H s)(h:∀p∈pins',s.heap.get? p.1=some p.2/\H p.1=none/\p.1≠X.env.locals/\p.1∉X.fs/\∀v,p.2.data≠ .cell v):Inv X pins' σ H s:=
 ⟨I.ok,I.os,I.bare,I.base,I.loc,I.cell,I.free,I.freeC,fun p hp=>(aW.mp hp).elim (fun z=>I.pin p (cC _ z)) (h p),I.hok,I.len⟩
theorem zC{N:List Str}(hN:N.Nodup){i j:Nat}{x:Str}(a:N[i]? =some x)(b:N[j]? =some x):i=j:=by
 obtain⟨h1,e1⟩:=ak.mp a
 obtain⟨h2,e2⟩:=ak.mp b
 exact(fK hN).mp (e1.trans e2.symm)
theorem AD{M:Model}{A:Around}{E:Value->Shared->Prop}{i:Nat}{x:Str}{v:V}{u:Value}{Q:Unit->Shared->Prop}(I:Inv X pins σ H s)(hN:X.N.Nodup)(hi:X.N[i]? =some x)(hx:Loc X.env.scope x)(r:RelV v u)
  (h:∀s',Inv X pins (σ.set i (some v)) H s'->(∃a,Heap.SameBut a s.heap s'.heap/\(a=X.env.locals\/X.env.cells.lookup x=some a))->Q () s') (hf:X.fn x=true\/X.env.scope.names.lookup x=some .local:=by first|exact .inl rfl|exact .inr rfl|assumption):wpAny M A (storeName X.env x u) Q E s:=by
 obtain⟨m,hn,hl⟩:=id I.loc
 have hcls:(X.env.scope.kind== .class||(X.env.scope.kind== .module&&X.env.locals !=X.env.globals))=false:=by rw[I.ok.kind];rfl
 have hiσ:i<σ.length:=by rw[I.len];exact(ak.mp hi).1
 have cne:=I.cne
 have tracked:∀{a:Addr} {h':Heap},(∃o,s.heap.get? a=some o/\H a=none)->Heap.SameBut a s.heap h'->HOk X.prog X.w H h':=fun{a h'} ha hs b ob e=>by
  obtain⟨_,_,hfree⟩:=ha
  refine(I.hok b ob e).stay (fun c w' hc q=>(hs.2 c ?_).trans q) (fun _ q=>q) fun _ _ q=>q
  rintro rfl
  rcases hc with rfl|hc
  ·rw[hfree]at e;cases e
  ·rw[hfree]at hc;cases hc
 rcases hx with hk|hk
 ·refine wpAny_storeName_local hk hn (fun h' hn' hs=>?_) hcls
  obtain⟨oL,_,_,hoL,_⟩:=id hn
  refine h _ ⟨I.ok,I.os,I.bare,⟨fun b o e n hb hx=>?_,fun b o e n hb hx=>?_,I.base.free,fun b o e hx=>?_,I.base.tups,I.base.frzs,I.base.tbls⟩,⟨_,hn',fun j y v' e1 e2 e3=>?_⟩,fun y c e=>?_,I.free,I.freeC,fun p hp=>?_,tracked ⟨oL,hoL,I.free⟩ hs,by simpa using I.len⟩ ⟨_,hs,.inl rfl⟩
  ·exact(hs.2 b (aX (bj (aL e) I.ok.above))).trans (I.base.keep b o e n hb hx)
  ·obtain⟨sl,e1⟩:=I.base.slot b o e n hb hx
   exact⟨sl,(hs.2 b (aX (bj (aL e) I.ok.above))).trans e1⟩
  ·obtain⟨o',e1⟩:=I.base.there b o e hx
   exact⟨o',(hs.2 b (aX (bj (aL e) I.ok.above))).trans e1⟩
  ·by_cases hj:j=i
   ·subst hj
    rw[hi]at e1;cases e1
    rw[fQ hiσ]at e2
    cases e2
    exact⟨u,r,.inl ⟨hk,by simp⟩⟩
   ·rw[gu (di hj)]at e2
    obtain⟨u',r',q⟩:=hl j y v' e1 e2 e3
    refine⟨u',r',?_⟩
    rcases q with⟨k,e⟩|⟨k,c,e,z⟩
    ·refine .inl ⟨k,?_⟩
     have:y≠x:=fun e=>hj (zC hN e1 (e▸hi))
     simp[this,e]
    ·exact .inr ⟨k,c,e,z.sameBut hs (cne y c e)⟩
  ·obtain⟨w',z⟩:=I.cell y c e
   exact⟨w',z.sameBut hs (cne y c e)⟩
  ·obtain⟨e,n,ne,nf,d⟩:=I.pin p hp
   exact⟨(hs.2 p.1 ne).trans e,n,ne,nf,d⟩
 ·have hfn:X.fn x=true:=by
   rcases hf with z|z
   ·exact z
   ·rw[z]at hk;cases hk
  obtain⟨c,hc⟩:=I.ok.has x (.inl hk)
  obtain⟨w',z⟩:=I.cell x c hc
  refine wpAny_storeName_cell I.ok.kind hk hc z (fun h' hc' hs=>?_)
  obtain⟨oc,hoc,hocd⟩:=id z
  refine h {s with heap:=h'} ⟨I.ok,I.os,I.bare,⟨fun b o e n hb hx=>?_,fun b o e n hb hx=>?_,I.base.free,fun b o e hx=>?_,I.base.tups,I.base.frzs,I.base.tbls⟩,⟨m,hn.sameBut hs (di (cne x c hc)),fun j y v' e1 e2 e3=>?_⟩,fun y c' e=>?_,I.free,I.freeC,fun p hp=>?_,tracked ⟨oc,hoc,I.freeC x c hc⟩ hs,by simpa using I.len⟩ ⟨c,hs,.inr hc⟩
  ·exact(hs.2 b (aX (bj (aL e) (I.ok.cab x c hfn hc)))).trans (I.base.keep b o e n hb hx)
  ·obtain⟨sl,e1⟩:=I.base.slot b o e n hb hx
   exact⟨sl,(hs.2 b (aX (bj (aL e) (I.ok.cab x c hfn hc)))).trans e1⟩
  ·obtain⟨o',e1⟩:=I.base.there b o e hx
   exact⟨o',(hs.2 b (aX (bj (aL e) (I.ok.cab x c hfn hc)))).trans e1⟩
  ·by_cases hj:j=i
   ·subst hj
    rw[hi]at e1;cases e1
    rw[fQ hiσ]at e2
    cases e2
    exact⟨u,r,.inr ⟨.inl hk,c,hc,hc'⟩⟩
   ·rw[gu (di hj)]at e2
    obtain⟨u',r',q⟩:=hl j y v' e1 e2 e3
    refine⟨u',r',?_⟩
    rcases q with q|⟨k,c',e,z'⟩
    ·exact .inl q
    ·refine .inr ⟨k,c',e,z'.sameBut hs ?_⟩
     rintro rfl
     exact hj (zC hN e1 (I.ok.inj _ _ _ e hc▸hi))
  ·by_cases hcc:c'=c
   ·subst hcc;exact⟨_,hc'⟩
   ·obtain⟨w2,z2⟩:=I.cell y c' e
    exact⟨w2,z2.sameBut hs hcc⟩
  ·obtain⟨e,n,ne,nf,d⟩:=I.pin p hp
   refine⟨(hs.2 p.1 ?_).trans e,n,ne,nf,d⟩
   intro q
   rw[q,hoc]at e
   have q':oc=p.2:=aI e
   exact d w' (by rw [<- q']; exact hocd)
theorem vn{M:Model}{A:Around}{E:Value->Shared->Prop}{i:Nat}{x:Str}{v:V}{u:Value}{Q:Unit->Shared->Prop}(I:Inv X pins σ H s)(hN:X.N.Nodup)(hi:X.N[i]? =some x)(hx:Loc X.env.scope x)(r:RelV v u)
  (h:∀s',Inv X pins (σ.set i (some v)) H s'->Q () s') (hf:X.fn x=true\/X.env.scope.names.lookup x=some .local:=by first|exact .inl rfl|exact .inr rfl|assumption):wpAny M A (storeName X.env x u) Q E s:=
 AD I hN hi hx r (fun s' I' _=>h s' I') hf
theorem Inv.call'{s':Shared}{ch:List Addr}(I:Inv X pins σ H s)(ho:s'.os=s.os)(u:Un (k9 X.stack) ch H H' s.heap s'.heap)(hok:HOk X.prog X.w H' s'.heap)(hg:AllBare s'.gens)
  (hch:∀b∈ch,(b∈X.ex\/X.s₀.heap.objs.size<=b)/\b≠X.env.locals/\(∀x c,X.env.cells.lookup x=some c->c≠b)/\∀p∈X.pn++pins,p.1≠b):Inv X pins σ H' s':=by
 obtain⟨h',g',d',t',o'⟩:=s'
 have e:o'=s.os:=ho
 subst e
 exact I.call (g':=g') (t':=t') (d':=d') u hok hg hch
end
abbrev XK:=Value->Option Addr->Hp->Prop
abbrev St:=List (Option V)
abbrev VK:=V->Hp->Prop
abbrev TE:=St->Hp->VK->Prop
abbrev TT:=St->Hp->(Bool->Hp->Prop)->Prop
abbrev TA:=St->Hp->(List V->Hp->Prop)->Prop
structure Ends where
 nx:St->Hp->Prop
 rt:VK
 bk:St->Hp->Prop:=fun _ _=>False
 ct:St->Hp->Prop:=fun _ _=>False
abbrev TS:=Ends->St->Hp->Prop
def EP(X:Cx)(pins:List (Addr×Obj))(σ:St)(Q:VK)(u:Value)(s':Shared):Prop:=∃v H',Inv X pins σ H' s'/\RelV v u/\Q v H'
def TP(X:Cx)(pins:List (Addr×Obj))(σ:St)(Q:Bool->Hp->Prop)(b:Bool)(s':Shared):Prop:=∃H',Inv X pins σ H' s'/\Q b H'
def AP(X:Cx)(pins:List (Addr×Obj))(σ:St)(Q:List V->Hp->Prop)(us:List Value)(s':Shared):Prop:=∃vs H',Inv X pins σ H' s'/\Vals vs us/\Q vs H'
def SP(X:Cx)(pins:List (Addr×Obj))(D:Ends)(f:Flow)(s':Shared):Prop:=
 match f with
 | .next=>∃σ' H',Inv X pins σ' H' s'/\D.nx σ' H'
 | .brk=>∃σ' H',Inv X pins σ' H' s'/\D.bk σ' H'
 | .cont=>∃σ' H',Inv X pins σ' H' s'/\D.ct σ' H'
 | .ret u=>∃v σ' H',Inv X pins σ' H' s'/\RelV v u/\D.rt v H'
def PE(X:Cx)(e:Expr)(t:TE):Prop:=
 ∀(pins:List (Addr×Obj)) (s:Shared) (σ:St) (H:Hp) (Q:VK),Inv X pins σ H s->t σ H Q->wpAny (model X.prog X.w) X.A (eval e X.env) (EP X pins σ Q) X.xe s
def PT(X:Cx)(e:Expr)(t:TT):Prop:=
 ∀(pins:List (Addr×Obj)) (s:Shared) (σ:St) (H:Hp) (Q:Bool->Hp->Prop),Inv X pins σ H s->t σ H Q->wpAny (model X.prog X.w) X.A (isTrue e X.env (eval e X.env)) (TP X pins σ Q) X.xe s
def PW(X:Cx)(e:Expr)(t:TT):Prop:=
 ∀(whole:Sem Value) (pins:List (Addr×Obj)) (s:Shared) (σ:St) (H:Hp) (Q:Bool->Hp->Prop),Inv X pins σ H s->t σ H Q->wpAny (model X.prog X.w) X.A (isTrue e X.env whole) (TP X pins σ Q) X.xe s
theorem PW.pt{X:Cx}{e:Expr}{t:TT}(h:PW X e t):PT X e t:=h _
def PA(X:Cx)(es:List Expr)(t:TA):Prop:=
 ∀(pos:Pos) (pins:List (Addr×Obj)) (s:Shared) (σ:St) (H:Hp) (Q:List V->Hp->Prop),Inv X pins σ H s->t σ H Q->wpAny (model X.prog X.w) X.A (spliced (backTo pos (starEach es X.env))) (AP X pins σ Q) X.xe s
def PS(X:Cx)(st:Stmt)(t:TS):Prop:=
 ∀(pins:List (Addr×Obj)) (s:Shared) (σ:St) (H:Hp) (D:Ends),Inv X pins σ H s->t D σ H->wpAny (model X.prog X.w) X.A (exec st X.env) (SP X pins D) X.xe s
def PSs(X:Cx)(st:List Stmt)(t:TS):Prop:=
 ∀(pins:List (Addr×Obj)) (s:Shared) (σ:St) (H:Hp) (D:Ends),Inv X pins σ H s->t D σ H->wpAny (model X.prog X.w) X.A (execs st X.env) (SP X pins D) X.xe s
theorem iP{α:Type}{t:Sem α}{Q Q':α->Shared->Prop}{M:Model}{A:Around}{E:Value->Shared->Prop}{s:Shared}(h:wpAny M A t Q E s)(hQ:∀a s,Q a s->Q' a s):wpAny M A t Q' E s:=dh h hQ fun _ _ x=>x
section
variable{X:Cx}
def wJ(i:Nat):TE:=fun σ H Q=>∃v,σ[i]? =some (some v)/\Q v H
def tC(v:V):TE:=fun _ H Q=>Q v H
theorem xS{i:Nat}{x:Str}{pos:Pos}(hN:X.N[i]? =some x)(hv:qt X.env.scope x)(hd:(x==("__debug__":Str))=false:=by decide)(hcd:(x==("__classdict__":Str))=false:=by decide):PE X (.Name x pos) (wJ i):=by
 intro pins s σ H Q I h
 obtain⟨v,e,h⟩:=h
 obtain⟨m,hn,hl⟩:=I.loc
 obtain⟨u,r,l⟩:=hl i x v hN e hv
 have fin:EP X pins σ Q u s:=⟨v,H,I,r,h⟩
 rcases l with⟨hk,hm⟩|⟨hk,c,hc,hcell⟩
 ·exact wpAny_Name (wpAny_loadName_local I.ok.kind hk hn hm fin) hd
 ·rcases hk with hk|hk
  ·exact wpAny_Name (wpAny_loadName_cell I.ok.kind hk hc hcell fin) hd
  ·exact wpAny_Name (wpAny_loadName_free I.ok.kind hk hc hcell fin hcd) hd
theorem iL{i j pos}:PE X (.Constant (.int i) j pos) (tC (.int i)):=fun _ _ _ H _ I h=>wpAny_Constant_int ⟨.int i,H,I.tok _,⟨_,rfl⟩,h⟩
theorem lN{b j pos}:PE X (.Constant (.bool b) j pos) (tC (.bl b)):=fun _ _ _ H _ I h=>Constant_bool ⟨.bl b,H,I,rfl,h⟩
theorem xR{j pos}:PE X (.Constant .none j pos) (tC .non):=fun _ _ _ H _ I h=>Constant_none ⟨.non,H,I,rfl,h⟩
def Gl(X:Cx)(x:Str):Prop:=X.env.kindOf x=some .globalImplicit
theorem uS{E:Value->Shared->Prop}{pins:List (Addr×Obj)}{s:Shared}{σ:St}{H:Hp}{x:Str}{u:Value}{pos:Pos}{Q:Value->Shared->Prop}(I:Inv X pins σ H s)(hg:Gl X x)(hm:X.mg x=some u)(h:Q u s)
  (hd:(x==("__debug__":Str))=false:=by decide):wpAny (model X.prog X.w) X.A (eval (.Name x pos) X.env) Q E s:=
 iF I.ok.kind hg (Calls.loadGlobal_global (by rw[I.ok.glob];exact I.mod.glob.keeps I.bk) hm h) hd
theorem oP{E:Value->Shared->Prop}{pins:List (Addr×Obj)}{s:Shared}{σ:St}{H:Hp}{x:Str}{u:Value}{pos:Pos}{Q:Value->Shared->Prop}(I:Inv X pins σ H s)(hg:Gl X x)(hm:X.mg x=none)(hv:bootBuiltins x=some u)(h:Q u s)
  (hn:x≠"__name__":=by decide) (hd:(x==("__debug__":Str))=false:=by decide):wpAny (model X.prog X.w) X.A (eval (.Name x pos) X.env) Q E s:=by
 obtain⟨mb,h1,h2⟩:=I.mod.blt
 exact iF I.ok.kind hg (Calls.loadGlobal_builtin (by rw[I.ok.glob];exact I.mod.glob.keeps I.bk) hm (by rw[I.ok.blt];exact h1.keeps I.bk) ((h2 x hn).trans hv) h) hd
theorem lU{x:Str}{v:V}{u:Value}{pos:Pos}(hg:Gl X x)(hm:X.mg x=some u)(r:RelV v u)(hd:(x==("__debug__":Str))=false:=by decide):PE X (.Name x pos) (tC v):=
 fun _ _ _ H _ I h=>uS I hg hm ⟨v,H,I,r,h⟩ hd
theorem oh{x:Str}{v:V}{u:Value}{pos:Pos}(hg:Gl X x)(hm:X.mg x=none)(hv:bootBuiltins x=some u)(r:RelV v u)(hn:x≠"__name__":=by decide)(hd:(x==("__debug__":Str))=false:=by decide):PE X (.Name x pos) (tC v):=
 fun _ _ _ H _ I h=>oP I hg hm hv ⟨v,H,I,r,h⟩ hn hd
variable{a b:Expr}{ta tb:TE}{pos:Pos}
def PC(X:Cx)(op:CmpOp)(a b:Expr)(t:TE):Prop:=
 ∀(pins:List (Addr×Obj)) (s:Shared) (σ:St) (H:Hp) (Q:VK),Inv X pins σ H s->t σ H Q->
  wpAny (model X.prog X.w) X.A (eval a X.env) (fun v s₁=>wpAny (model X.prog X.w) X.A (eval b X.env) (fun u s₂=>wpAny (model X.prog X.w) X.A (compareOp op v u) (EP X pins σ Q) X.xe s₂) X.xe s₁) X.xe s
theorem vf(b:Expr){op:CmpOp}(h:op≠ .In)(h2:op≠ .NotIn):behindInMarks op b=false:=by
 have e1:(op==CmpOp.In)=false:=by cases op<;>first|rfl|exact absurd rfl h
 have e2:(op==CmpOp.NotIn)=false:=by cases op<;>first|rfl|exact absurd rfl h2
 cases b<;>simp[behindInMarks,e1,e2]
def tB(t:TE):TT:=fun σ H Q=>t σ H fun x H1=>∃c,x= .bl c/\Q c H1
theorem xQ{op:CmpOp}{t:TE}(h:PC X op a b t)(h1:behindInMarks op b=false:=by first|exact vf _ (by decide) (by decide)|rfl):PE X (.Compare a [op] [b] pos) t:=fun pins s σ H Q I hw=>wpAny_Compare1 (h pins s σ H Q I hw) h1
theorem CY{op:CmpOp}{t:TE}(h:PC X op a b t)(h1:behindInMarks op b=false:=by first|exact vf _ (by decide) (by decide)|rfl):PT X (.Compare a [op] [b] pos) (tB t):=by
 intro pins s σ H Q I hw
 refine gg (iP (h pins s σ H _ I hw) fun v s1 h1=>iP h1 fun u s2 h2=>iP h2 fun c s3 ⟨x,H1,I1,r1,q1⟩=>?_) h1
 obtain⟨d,rfl,q⟩:=q1
 cases r1
 exact cc ⟨H1,I1,q⟩
variable{tA tB':TT}{rest:List Expr}
def xf(t u:TT):TT:=fun σ H Q=>t σ H fun c H1=>if c=true then u σ H1 Q else Q false H1
def wQ(t u:TT):TT:=fun σ H Q=>t σ H fun c H1=>if c=true then Q true H1 else u σ H1 Q
def wR(t:TT):TT:=fun σ H Q=>t σ H fun c H1=>Q (!c) H1
theorem yI(ha:PT X a tA):PW X (.BoolOp .And [a] pos) tA:=by
 intro wh pins s σ H Q I h
 refine isTrue_and (iP (ha pins s σ H Q I h) fun c s1 e=>?_)
 cases c with
 |true=>exact isTrue_and_nil e
 |false=>exact e
theorem rl(ha:PT X a tA):PW X (.BoolOp .Or [a] pos) tA:=by
 intro wh pins s σ H Q I h
 refine isTrue_or (iP (ha pins s σ H Q I h) fun c s1 e=>?_)
 cases c with
 |false=>exact isTrue_or_nil e
 |true=>exact e
theorem xT(ha:PT X a tA)(hb:PW X (.BoolOp .And (b::rest) pos) tB'):PW X (.BoolOp .And (a::b::rest) pos) (xf tA tB'):=by
 intro wh pins s σ H Q I h
 refine isTrue_and (iP (ha pins s σ H _ I h) fun c s1 ⟨H1,I1,q1⟩=>?_)
 cases c with
 |true=>exact hb wh pins s1 σ H1 Q I1 q1
 |false=>exact⟨H1,I1,q1⟩
theorem nX(ha:PT X a tA)(hb:PW X (.BoolOp .Or (b::rest) pos) tB'):PW X (.BoolOp .Or (a::b::rest) pos) (wQ tA tB'):=by
 intro wh pins s σ H Q I h
 refine isTrue_or (iP (ha pins s σ H _ I h) fun c s1 ⟨H1,I1,q1⟩=>?_)
 cases c with
 |true=>exact⟨H1,I1,q1⟩
 |false=>exact hb wh pins s1 σ H1 Q I1 q1
theorem lj(ha:PT X a tA):PT X (.UnaryOp .Not a pos) (wR tA):=by
 intro pins s σ H Q I h
 exact isTrue_not (ha pins s σ H (fun c H1=>Q (!c) H1) I h)
theorem m9{op}{t:TE}(h:PE X a t):PE X (.BoolOp op [a] pos) t:=fun pins s σ H Q I hw=>BoolOp_one (h pins s σ H Q I hw)
def wY(t:TT)(ta tb:TE):TE:=fun σ H Q=>t σ H fun c H1=>if c=true then ta σ H1 Q else tb σ H1 Q
theorem zF{c:Expr}(hc:PT X c tA)(ha:PE X a ta)(hb:PE X b tb):PE X (.IfExp c a b pos) (wY tA ta tb):=by
 intro pins s σ H Q I h
 refine wpAny_IfExp (iP (hc pins s σ H _ I h) fun d s1 ⟨H1,I1,q1⟩=>?_)
 cases d with
 |true=>exact ha pins s1 σ H1 Q I1 q1
 |false=>exact hb pins s1 σ H1 Q I1 q1
end
def SqL(K:PySem.W.Frag)(H:Hp)(a:Addr)(xs:List V):Prop:=
 Rd H a (.lst xs)\/
  ∃(o:Obj) (its:Array Value) (n:Nat),K.lookup a=some o/\o.cls= .type "list"/\o.dict=none/\o.data= .seq its n/\its.size<=sizeLine/\Vals xs its.toList
def SqT(K:PySem.W.Frag)(H:Hp)(a:Addr)(xs:List V):Prop:=
 Rd H a (.tup xs)\/
  ∃(o:Obj) (its:Array Value) (n:Nat),K.lookup a=some o/\o.cls= .type "tuple"/\o.data= .seq its n/\its.size<=sizeLine/\Vals xs its.toList
noncomputable def IV:Value->Option V
 | .none=>some .non
 | .bool b=>some (.bl b)
 | .int i _=>some (.int i)
 | .str x _=>some (.str x)
 | .bytes b _=>some (.byt b)
 | .float b _=>some (.flt b)
 | .ref a=>some (.ref a)
 | .type n=>some (.ty n)
 |_=>none
theorem RelV.abs{x:V}{u:Value}(r:RelV x u):IV u=some x:=by
 cases x with
 |non=>cases r;rfl
 |bl _=>cases r;rfl
 |int _=>obtain⟨t,rfl⟩:=r;rfl
 |str _=>obtain⟨t,rfl⟩:=r;rfl
 |byt _=>obtain⟨t,rfl⟩:=r;rfl
 |flt _=>obtain⟨t,rfl⟩:=r;rfl
 |ref _=>cases r;rfl
 |ty _=>cases r;rfl
theorem RelV.inj{x y:V}{u:Value}(r:RelV x u)(q:RelV y u):x=y:=aI (r.abs.symm.trans q.abs)
theorem Vals.inj:∀{xs ys:List V} {us:List Value},Vals xs us->Vals ys us->xs=ys
 |_,_,_,.nil,.nil=>rfl
 |_,_,_,.cons r t,.cons r' t'=>by rw[r.inj r',Vals.inj t t']
section
variable{X:Cx}{pins:List (Addr×Obj)}{σ:St}{H:Hp}{s:Shared}{a:Addr}{xs ys:List V}
theorem SqL.of{K:PySem.W.Frag}(h:H a=some (.lst xs)):SqL K H a xs:=.inl (.inl h)
theorem SqT.of{K:PySem.W.Frag}(h:H a=some (.tup xs)):SqT K H a xs:=.inl (.inl h)
theorem Inv.list(I:Inv X pins σ H s)(h:SqL X.K H a xs):∃its:List Value,Vals xs its/\PlainL s.heap a its.toArray/\xs.length<=sizeLine:=by
 rcases h with h|⟨o,its,n,hk,hc,hd,hs,hz,r⟩
 ·obtain⟨z,its,n,r,e⟩:=h.ok I.hok
  exact⟨its,r,⟨_,n,e,rfl,rfl,rfl⟩,z⟩
 ·refine⟨its.toList,r,⟨o,n,I.kIn a o hk,hc,hd,by simpa using hs⟩,?_⟩
  have e:=r.length
  simp only[Array.length_toList]at e
  lia
theorem Inv.tuple(I:Inv X pins σ H s)(h:SqT X.K H a xs):∃its:List Value,Vals xs its/\IsTup s.heap a its.toArray/\xs.length<=sizeLine:=by
 rcases h with h|⟨o,its,n,hk,hc,hs,hz,r⟩
 ·obtain⟨z,its,r,p⟩:=h.ok I.hok
  exact⟨its,r,p,z⟩
 ·refine⟨its.toList,r,⟨o,I.kIn a o hk,hc,n,by simpa using hs⟩,?_⟩
  have e:=r.length
  simp only[Array.length_toList]at e
  lia
theorem Inv.list_inj(I:Inv X pins σ H s)(h:SqL X.K H a xs)(h':SqL X.K H a ys):xs=ys:=by
 obtain⟨its,r,⟨o,n,e,_,_,d⟩,_⟩:=I.list h
 obtain⟨its',r',⟨o',n',e',_,_,d'⟩,_⟩:=I.list h'
 rw[e]at e';cases e'
 rw[d]at d'
 injection d' with d1 _
 have:its=its':=by simpa using cx Array.toList d1
 subst this
 exact r.inj r'
theorem Inv.tuple_inj(I:Inv X pins σ H s)(h:SqT X.K H a xs)(h':SqT X.K H a ys):xs=ys:=by
 obtain⟨its,r,⟨o,e,_,n,d⟩,_⟩:=I.tuple h
 obtain⟨its',r',⟨o',e',_,n',d'⟩,_⟩:=I.tuple h'
 rw[e]at e';cases e'
 rw[d]at d'
 injection d' with d1 _
 have:its=its':=by simpa using cx Array.toList d1
 subst this
 exact r.inj r'
end
noncomputable abbrev Cx.wish(X:Cx)(E:Value->Shared->Prop):Cx:={X with xe:=E}
noncomputable abbrev Cx.nox(X:Cx):Cx:=X.wish fun _ _=>False
theorem Cx.Ok.wish{X:Cx}(ok:X.Ok)(E:Value->Shared->Prop):(X.wish E).Ok:=
 ⟨ok.mod,ok.kind,ok.glob,ok.blt,ok.above,ok.inj,ok.has,ok.cab,ok.hd,ok.frames,ok.stk,ok.exf,ok.bs,ok.bsz,ok.noex,ok.exfs,ok.funs,ok.frf⟩
theorem Cx.Ok.unwish{X:Cx}{E:Value->Shared->Prop}(ok:(X.wish E).Ok):X.Ok:=
 ⟨ok.mod,ok.kind,ok.glob,ok.blt,ok.above,ok.inj,ok.has,ok.cab,ok.hd,ok.frames,ok.stk,ok.exf,ok.bs,ok.bsz,ok.noex,ok.exfs,ok.funs,ok.frf⟩
section
variable{X:Cx}{pins:List (Addr×Obj)}{σ:St}{H:Hp}{s:Shared}{E:Value->Shared->Prop}
theorem Inv.wish(I:Inv X pins σ H s)(E:Value->Shared->Prop):Inv (X.wish E) pins σ H s:=⟨I.ok.wish E,I.os,I.bare,I.base,I.loc,I.cell,I.free,I.freeC,I.pin,I.hok,I.len⟩
theorem Inv.unwish(I:Inv (X.wish E) pins σ H s):Inv X pins σ H s:=⟨I.ok.unwish,I.os,I.bare,I.base,I.loc,I.cell,I.free,I.freeC,I.pin,I.hok,I.len⟩
theorem SP.unwish{D:Ends}{f:Flow}{s':Shared}(h:SP (X.wish E) pins D f s'):SP X pins D f s':=by
 cases f with
 |next=>obtain⟨σ',H',I,q⟩:=h;exact⟨σ',H',I.unwish,q⟩
 |brk=>obtain⟨σ',H',I,q⟩:=h;exact⟨σ',H',I.unwish,q⟩
 |cont=>obtain⟨σ',H',I,q⟩:=h;exact⟨σ',H',I.unwish,q⟩
 |ret u=>obtain⟨v,σ',H',I,r,q⟩:=h;exact⟨v,σ',H',I.unwish,r,q⟩
theorem PSs.nox{st:List Stmt}{t:TS}(h:PSs X.nox st t):PSs X st t:=fun pins s σ H D I hw=>
 dh (h pins s σ H D (I.wish _) hw) (fun _ _ q=>q.unwish) fun _ _ z=>False.elim z
end
section
variable{X:Cx}{st:Stmt}{rest:List Stmt}{t u:TS}{e:Expr}{te:TE}{pos:Pos}
def wU:TS:=fun D σ H=>D.nx σ H
def oC(t u:TS):TS:=fun D σ H=>t {D with nx:=u D} σ H
theorem ky:PSs X [] wU:=fun _ _ σ H _ I h=>fY ⟨σ,H,I,h⟩
theorem iN(h1:PS X st t)(h2:PSs X rest u):PSs X (st::rest) (oC t u):=by
 intro pins s σ H D I h
 refine wpAny_execs_cons (iP (h1 pins s σ H {D with nx:=u D} I h) fun f s1 q=>?_)
 cases f with
 |next=>
  obtain⟨σ',H',I',q⟩:=q
  exact h2 pins s1 σ' H' D I' q
 |ret v=>exact q
 |brk=>exact q
 |cont=>exact q
theorem iS(h1:PS X st t):PSs X [st] t:=by
 intro pins s σ H D I h
 refine wpAny_execs_cons (iP (h1 pins s σ H D I h) fun f s1 q=>?_)
 cases f with
 |next=>exact fY q
 |ret v=>exact q
 |brk=>exact q
 |cont=>exact q
theorem Inv.quiet{pins:List (Addr×Obj)}{σ:St}{H:Hp}{s:Shared}(I:Inv X pins σ H s):interactive X.env=false:=by simp[interactive,I.ok.kind]
def wZ(te:TE):TS:=fun D σ H=>te σ H fun _ H1=>D.nx σ H1
theorem kF(he:PE X e te)(hs:swapsWith e none pos.line X.env=pure false:=by rfl):PS X (.Expr e pos) (wZ te):=by
 intro pins s σ H D I h
 exact wpAny_Expr_any (iP (he pins s σ H _ I h) fun v s1 ⟨x,H1,I1,r1,q1⟩=>⟨σ,H1,I1,q1⟩) I.quiet hs
def wO(te:TE):TS:=fun D σ H=>te σ H D.rt
theorem jh(he:PE X e te):PS X (.Return (some e) pos) (wO te):=by
 intro pins s σ H D I h
 exact wpAny_Return_some (iP (he pins s σ H _ I h) fun v s1 ⟨x,H1,I1,r1,q1⟩=>⟨x,σ,H1,I1,r1,q1⟩)
def B3:TS:=fun D _ H=>D.rt .non H
def wX(c:TT)(t u:TS):TS:=fun D σ H=>c σ H fun b H1=>if b=true then t D σ H1 else u D σ H1
theorem kr{c:Expr}{a b:List Stmt}{tc:TT}(hc:PT X c tc)(ha:PSs X a t)(hb:PSs X b u):PS X (.If c a b pos) (wX tc t u):=by
 intro pins s σ H D I h
 refine wpAny_If (iP (hc pins s σ H _ I h) fun d s1 ⟨H1,I1,q1⟩=>?_)
 cases d with
 |true=>exact ha pins s1 σ H1 D I1 q1
 |false=>exact hb pins s1 σ H1 D I1 q1
def B4:TS:=fun _ _ _=>False
theorem qd:PS X st B4:=fun _ _ _ _ _ _ h=>h.elim
end
abbrev TG:=V->St->Hp->(St->Hp->Prop)->Prop
abbrev lr:=List V->St->Hp->(St->Hp->Prop)->Prop
def PG(X:Cx)(target:Expr)(t:TG):Prop:=
 ∀(pins:List (Addr×Obj)) (s:Shared) (σ:St) (H:Hp) (v:V) (u:Value) (Q:St->Hp->Prop),Inv X pins σ H s->RelV v u->t v σ H Q->
  wpAny (model X.prog X.w) X.A (assign target X.env u) (fun _ s'=>∃σ' H',Inv X pins σ' H' s'/\Q σ' H') X.xe s
def PGs(X:Cx)(ts:List Expr)(t:lr):Prop:=
 ∀(pins:List (Addr×Obj)) (s:Shared) (σ:St) (H:Hp) (vs:List V) (us:List Value) (Q:St->Hp->Prop),Inv X pins σ H s->Vals vs us->t vs σ H Q->
  wpAny (model X.prog X.w) X.A (assignInOrder ((assignEach ts X.env).map (·.2)) us) (fun _ s'=>∃σ' H',Inv X pins σ' H' s'/\Q σ' H') X.xe s
abbrev ow:=V->V->V->Hp->(Hp->Prop)->Prop
def PSet(X:Cx)(t:ow):Prop:=
 ∀(pins:List (Addr×Obj)) (s:Shared) (σ:St) (H:Hp) (o i v:V) (ov iv u:Value) (Q:Hp->Prop),Inv X pins σ H s->RelV o ov->RelV i iv->RelV v u->t o i v H Q->
  wpAny (model X.prog X.w) X.A (setItem ov iv u) (fun _ s'=>∃H',Inv X pins σ H' s'/\Q H') X.xe s
abbrev mO:=V->V->Hp->VK->Prop
def oy(X:Cx)(op:Operator)(t:mO):Prop:=
 ∀(pins:List (Addr×Obj)) (s:Shared) (σ:St) (H:Hp) (x y:V) (v u:Value) (Q:VK),Inv X pins σ H s->RelV x v->RelV y u->t x y H Q->
  wpAny (model X.prog X.w) X.A (inplaceOp op v u) (EP X pins σ Q) X.xe s
section
variable{X:Cx}{pos:Pos}
def mF(i:Nat):TG:=fun v σ H Q=>Q (σ.set i (some v)) H
theorem iY{i:Nat}{x:Str}(hN:X.N.Nodup)(hi:X.N[i]? =some x)(hx:Loc X.env.scope x)(hf:X.fn x=true\/X.env.scope.names.lookup x=some .local:=by first|exact .inl rfl|exact .inr rfl|assumption):PG X (.Name x pos) (mF i):=by
 intro pins s σ H v u Q I r h
 exact wpAny_assign_Name (vn I hN hi hx r (fun s' I'=>⟨_,H,I',h⟩) hf)
def Im:lr:=fun vs σ H Q=>vs=[]/\Q σ H
def Io(t:TG)(u:lr):lr:=fun vs σ H Q=>∃v r,vs=v::r/\t v σ H fun σ' H'=>u r σ' H' Q
theorem Ea:PGs X [] Im:=by
 intro pins s σ H vs us Q I r h
 obtain⟨e,h⟩:=h
 subst e
 cases r
 exact assignInOrder_nil ⟨σ,H,I,h⟩
theorem E6{e:Expr}{es:List Expr}{t:TG}{u:lr}(h1:PG X e t)(h2:PGs X es u)
  (hs:(assignEach (e::es) X.env).map (·.2)=assign e X.env::(assignEach es X.env).map (·.2):=by rfl):PGs X (e::es) (Io t u):=by
 intro pins s σ H vs us Q I r h
 obtain⟨v,vr,e1,h⟩:=h
 subst e1
 cases r with
 |cons r rr=>
  rw[hs]
  refine assignInOrder_cons (iP (h1 pins s σ H _ _ _ I r h) fun _ s1 ⟨σ1,H1,I1,q1⟩=>?_)
  exact h2 pins s1 σ1 H1 _ _ Q I1 rr q1
def Il(K:PySem.W.Frag)(n:Nat)(t:lr):TG:=fun v σ H Q=>∃a xs,v= .ref a/\SqT K H a xs/\xs.length=n/\t xs σ H Q
theorem C1{es:List Expr}{k:Nat}{t:lr}{n:Nat}(hc:X.calm=true)(h:PGs X es t)
  (hn:(assignEach es X.env).length=n:=by rfl) (hst:(assignEach es X.env).findIdx? (·.1)=none:=by rfl):PG X (.Tuple es k pos) (Il X.K n t):=by
 intro pins s σ H v u Q I r hw
 obtain⟨a,xs,e1,hq,hl,hw⟩:=hw
 subst e1
 cases r
 obtain⟨its,rv,ht,hz⟩:=I.tuple hq
 refine assign_Tuple_tuple (I.ok.hd hc) ht (by simp [hn,<- hl,rv.length]) hst fun h' hx=>?_
 have I1:Inv X pins σ H {s with heap:=h'}:=I.kept (t':=s.toks) fun b o e=>hx b o (aX (aL e)) e
 exact h pins _ σ H xs _ Q I1 (by simpa using rv) hw
def Bl(to ti:TE)(t:ow):TG:=fun v σ H Q=>to σ H fun o H1=>ti σ H1 fun i H2=>t o i v H2 fun H3=>Q σ H3
theorem rj{o i:Expr}{to ti:TE}{t:ow}(ho:PE X o to)(hi:PE X i ti)(hs:PSet X t)
  (ha:∀ v,assign (.Subscript o i pos) X.env v = (do
   let ov <- holding [v] (eval o X.env)
   let iv <- holding [v,ov] (eval i X.env)
   standAt pos
   holding [v,ov,iv] (setItem ov iv v)
   release [v,ov,iv] []):=by intro _;rfl):PG X (.Subscript o i pos) (Bl to ti t):=by
 intro pins s σ H v u Q I r h
 rw[ha]
 refine af (cq (iP (ho pins s σ H _ I h) fun ov s1 ⟨x,H1,I1,r1,q1⟩=>?_))
 refine af (cq (iP (hi pins s1 σ H1 _ I1 q1) fun iv s2 ⟨y,H2,I2,r2,q2⟩=>?_))
 refine af (wpAny_standAt (af (cq (iP (hs pins s2 σ H2 x y v ov iv u _ I2 r1 r2 r q2) fun _ s3 ⟨H3,I3,q3⟩=>?_))))
 exact wpAny_release ⟨σ,H3,I3,q3⟩
def qH(te:TE)(g:TG):TS:=fun D σ H=>te σ H fun x H1=>g x σ H1 D.nx
theorem oQ{tg e:Expr}{te:TE}{g:TG}(he:PE X e te)(hg:PG X tg g)(hs:swapsWithSole [tg] e pos.line X.env=pure false:=by rfl)(hw:swappedStores [tg] e X.env=pure none:=by rfl)
  (h1:(assignEach [tg] X.env).map (·.2)=[assign tg X.env]:=by rfl):PS X (.Assign [tg] e pos) (qH te g):=by
 intro pins s σ H D I h
 refine wpAny_Assign_stores (iP (he pins s σ H _ I h) fun v s1 ⟨x,H1,I1,r1,q1⟩=>?_) hs hw
 rw[h1]
 exact iP (hg pins s1 σ H1 x v _ I1 r1 q1) fun _ s2 q=>q
theorem jb{i:Nat}{x:Str}{e:Expr}{te:TE}{pos':Pos}(hN:X.N.Nodup)(hi:X.N[i]? =some x)(hx:Loc X.env.scope x)(he:PE X e te)(hs:swapsWith e (some (.Name x pos')) pos.line X.env=pure false:=by rfl)(hf:X.fn x=true\/X.env.scope.names.lookup x=some .local:=by first|exact .inl rfl|exact .inr rfl|assumption):
  PS X (.Assign [.Name x pos'] e pos) (qH te (mF i)):=by
 intro pins s σ H D I h
 refine wpAny_Assign_Name (iP (he pins s σ H _ I h) fun v s1 ⟨y,H1,I1,r1,q1⟩=>?_) hs
 exact vn I1 hN hi hx r1 (fun s2 I2=>⟨_,H1,I2,q1⟩) hf
def B7(i:Nat)(te:TE)(ti:mO):TS:=fun D σ H=>∃x,σ[i]? =some (some x)/\te σ H fun y H1=>ti x y H1 fun z H2=>D.nx (σ.set i (some z)) H2
theorem CZ{i:Nat}{x:Str}{e:Expr}{te:TE}{op:Operator}{ti:mO}{pos':Pos}(hN:X.N.Nodup)(hi:X.N[i]? =some x)(hx:Loc X.env.scope x)(he:PE X e te)(ho:oy X op ti)(hf:X.fn x=true\/X.env.scope.names.lookup x=some .local:=by first|exact .inl rfl|exact .inr rfl|assumption):
  PS X (.AugAssign (.Name x pos') op e pos) (B7 i te ti):=by
 intro pins s σ H D I h
 obtain⟨v,e1,h⟩:=h
 obtain⟨m,hn,hl⟩:=I.loc
 have vis:qt X.env.scope x:=by rcases hx with k|k;exact .inl k;exact .inr (.inl k)
 obtain⟨u,r,l⟩:=hl i x v hi e1 vis
 refine wpAny_AugAssign_Name ?_
 have go:wpAny (model X.prog X.w) X.A (eval e X.env) (fun w s₂=>wpAny (model X.prog X.w) X.A (inplaceOp op u w) (fun r s₃=>wpAny (model X.prog X.w) X.A (storeName X.env x r) (fun _=>SP X pins D .next) X.xe s₃) X.xe s₂) X.xe s:=by
  refine iP (he pins s σ H _ I h) fun w s1 ⟨y,H1,I1,r1,q1⟩=>?_
  refine iP (ho pins s1 σ H1 v y u w _ I1 r r1 q1) fun z s2 ⟨zv,H2,I2,r2,q2⟩=>?_
  exact vn I2 hN hi hx r2 (fun s3 I3=>⟨_,H2,I3,q2⟩) hf
 rcases l with⟨hk,hm⟩|⟨hk,c,hc,hcell⟩
 ·exact wpAny_loadName_local I.ok.kind hk hn hm go
 ·rcases hk with hk|hk
  ·exact wpAny_loadName_cell I.ok.kind hk hc hcell go
  ·rcases hx with k|k
   ·have:X.env.scope.names.lookup x=some .free:=hk
    rw[k]at this;cases this
   ·have:X.env.scope.names.lookup x=some .free:=hk
    rw[k]at this;cases this
def xc(to ti te:TE)(tget:V->V->Hp->VK->Prop)(tip:mO)(tset:ow):TS:=fun D σ H=>to σ H fun o H1=>ti σ H1 fun i H2=>tget o i H2 fun x H3=>te σ H3 fun y H4=>tip x y H4 fun z H5=>tset o i z H5 fun H6=>D.nx σ H6
def BB(X:Cx)(t:V->V->Hp->VK->Prop):Prop:=
 ∀(pins:List (Addr×Obj)) (s:Shared) (σ:St) (H:Hp) (o i:V) (ov iv:Value) (Q:VK),Inv X pins σ H s->RelV o ov->RelV i iv->t o i H Q->
  wpAny (model X.prog X.w) X.A (getItem ov iv) (EP X pins σ Q) X.xe s
theorem yH{o i e:Expr}{to ti te:TE}{tget:V->V->Hp->VK->Prop}{tip:mO}{tset:ow}{op:Operator}{tpos:Pos}(ho:PE X o to)(hi:PE X i ti)(hg:BB X tget)(he:PE X e te)(hp:oy X op tip)(hs:PSet X tset)
  (ha:∀ ov iv new,augStore i ov iv new = (do holding [new,ov,iv] (setItem ov iv new); release [new,ov,iv] []; pure .next):=by intros; rfl):PS X (.AugAssign (.Subscript o i tpos) op e pos) (xc to ti te tget tip tset):=by
 intro pins s σ H D I h
 refine wpAny_AugAssign_SubscriptAny (iP (ho pins s σ H _ I h) fun ov s1 ⟨x1,H1,I1,r1,q1⟩=>?_) ha
 refine iP (hi pins s1 σ H1 _ I1 q1) fun iv s2 ⟨x2,H2,I2,r2,q2⟩=>?_
 refine iP (hg pins s2 σ H2 x1 x2 ov iv _ I2 r1 r2 q2) fun old s3 ⟨x3,H3,I3,r3,q3⟩=>?_
 refine iP (he pins s3 σ H3 _ I3 q3) fun v s4 ⟨x4,H4,I4,r4,q4⟩=>?_
 refine iP (hp pins s4 σ H4 x3 x4 old v _ I4 r3 r4 q4) fun new s5 ⟨x5,H5,I5,r5,q5⟩=>?_
 exact iP (hs pins s5 σ H5 x1 x2 x5 ov iv new _ I5 r1 r2 r5 q5) fun _ s6 ⟨H6,I6,q6⟩=>⟨σ,H6,I6,q6⟩
end
section
variable{X:Cx}{pos:Pos}
def yg(c:TT)(tb:TS):TS:=fun D σ H=>∃W:Nat->St->Hp->Prop,(∃m,W m σ H)/\∀m σ H,W m σ H->
 c σ H fun b H1=>if b=true then ∃N:St->Hp->Prop,(∀σ' H',N σ' H'->∃m',m'<m/\W m' σ' H')/\tb {D with nx:=N,ct:=N,bk:=D.nx} σ H1 else D.nx σ H1
theorem vh{c:Expr}{body:List Stmt}{tc:TT}{tb:TS}(hp:PassesOwn (model X.prog X.w) X.A X.env X.xe)(hc:PT X c tc)(hb:PSs X body tb):PS X (.While c body [] pos) (yg tc tb):=by
 intro pins s σ H D I h
 obtain⟨W,⟨m0,w0⟩,turn⟩:=h
 refine wpAny_While (codeAny_whileLoop (fun n s'=>∃σ' H',Inv X pins σ' H' s'/\W n σ' H') ?_ m0 ⟨σ,H,I,w0⟩)
 rintro n s1 ⟨σ1,H1,I1,w1⟩
 refine dO hp (iP (hc pins s1 σ1 H1 _ I1 (turn n σ1 H1 w1)) fun b s2 ⟨H2,I2,q2⟩=>?_)
 cases b with
 | true=>
  obtain⟨N,hN,q2⟩:=q2
  rw[aA rfl]
  refine dO hp (iP (hb pins s2 σ1 H2 _ I2 q2) fun f s3 q3=>?_)
  cases f with
  |next=>
   obtain⟨σ3,H3,I3,n3⟩:=q3
   obtain⟨m',hm,w3⟩:=hN σ3 H3 n3
   exact⟨m',hm,σ3,H3,I3,w3⟩
  |cont=>
   obtain⟨σ3,H3,I3,n3⟩:=q3
   obtain⟨m',hm,w3⟩:=hN σ3 H3 n3
   exact⟨m',hm,σ3,H3,I3,w3⟩
  |brk=>exact q3
  |ret v=>exact q3
 |false=>
  rw[ay aU]
  exact fY ⟨σ1,H2,I2,q2⟩
end
structure It where
 go:Nat->Hp->Prop
 yld:Nat->Hp->V->Hp->Prop
 stop:Nat->Hp->Prop
def lH(X:Cx)(pins:List (Addr×Obj))(H:Hp)(b:Addr):Prop:=
 H b=none/\b≠X.env.locals/\b∉X.fs/\(b∈X.ex\/X.s₀.heap.objs.size<=b)/\(∀x c,X.env.cells.lookup x=some c->c≠b)/\∀p∈X.pn++pins,p.1≠b
theorem Inv.fpOk{X:Cx}{pins:List (Addr×Obj)}{σ:St}{H H':Hp}{s:Shared}{b:Addr}(I:Inv X pins σ H s)(hb:s.heap.objs.size<=b)(hn:H' b=none):lH X pins H' b:=by
 refine⟨hn,dE (bj I.lt hb),I.nofs hb,.inr (bE I.sz hb),fun x c e z=>?_,fun p hp z=>?_⟩
 ·obtain⟨v,q⟩:=I.cell x c e
  exact absurd (bj q.lt (by rw[z];exact hb)) (cV _)
 ·exact absurd (bj (aL (I.pin p hp).1) (by rw[z];exact hb)) (cV _)
structure Turn(P:Program)(w:World)(K:PySem.W.Frag)(tg:Expr)(J:It)(fp:List Addr)(it:Addr)(tn:Nat->Heap->Prop):Prop where
 mem:it∈fp
 obj:∀i h,tn i h->∀b∈fp,∃o,h.get? b=some o/\∀v,o.data≠ .cell v
 keep:∀i h h',tn i h->(∀b∈fp,∀o,h.get? b=some o->h'.get? b=some o)->tn i h'
 item:∀(X:Cx),X.prog=P->X.w=w->X.K=K->X.calm=true->∀(i:Nat) (pins:List (Addr×Obj)) (s:Shared) (σ:St) (H:Hp) (E:Value->Shared->Prop),Inv X pins σ H s->(∀b∈fp,lH X pins H b)->tn i s.heap->J.go i H->
  wpAny (model P w) X.A (pyNext (.ref it)) (fun r s1=>∃u,r=some u/\
   wpAny (model P w) X.A (letOwnedTupleGo tg (.ref it) u) (fun _ s2=>∃x H',Inv X pins σ H' s2/\RelV x u/\J.yld i H x H'/\tn (i+1) s2.heap/\∀b∈fp,H' b=none) E s1) E s
 done:∀(X:Cx),X.prog=P->X.w=w->X.K=K->X.calm=true->∀(i:Nat) (pins:List (Addr×Obj)) (s:Shared) (σ:St) (H:Hp) (E:Value->Shared->Prop),Inv X pins σ H s->(∀b∈fp,lH X pins H b)->tn i s.heap->J.stop i H->
  wpAny (model P w) X.A (pyNext (.ref it)) (fun r s1=>r=none/\Inv X pins σ H s1) E s
 self:∀(A:Around) (i:Nat) (s:Shared) (Q:Value->Shared->Prop) (E:Value->Shared->Prop),tn i s.heap->Q (.ref it) s->wpAny (model P w) A (pyIter (.ref it)) Q E s
abbrev TI:=St->Hp->(It->Hp->Prop)->Prop
def wB(X:Cx)(pins:List (Addr×Obj))(σ:St)(tg:Expr)(R:It->Hp->Prop)(itv:Value)(s2:Shared):Prop:=
 ∃(it:Addr) (fp:List Addr) (tn:Nat->Heap->Prop) (J:It) (H':Hp),itv= .ref it/\Inv X pins σ H' s2/\Turn X.prog X.w X.K tg J fp it tn/\tn 0 s2.heap/\(∀b∈fp,lH X pins H' b)/\R J H'
def PI(X:Cx)(tg iter:Expr)(wi:TI):Prop:=
 ∀(pins:List (Addr×Obj)) (s:Shared) (σ:St) (H:Hp) (R:It->Hp->Prop),Inv X pins σ H s->wi σ H R->
  wpAny (model X.prog X.w) X.A (eval iter X.env) (fun v s1=>wpAny (model X.prog X.w) X.A (pyIter v) (wB X pins σ tg R) X.xe s1) X.xe s
theorem tU {M:Model}{A:Around}{E:Value->Shared->Prop}{s:Shared}{tg:Expr}{it:Addr}{u:Value}{o:Obj}{n:String}{vs:Array Value}{Q:Unit->Shared->Prop}(ho:s.heap.get? it=some o)(hc:o.cls= .type n)(hd:o.data= .fields vs)
    (hn:["enumerate","zip","dict_itemiterator","dict_reverseitemiterator","odict_iterator","itertools.zip_longest","itertools.pairwise"].contains n=false) (hQ:Q () s):wpAny M A (letOwnedTupleGo tg (.ref it) u) Q E s:=by
  unfold letOwnedTupleGo
  cases tg <;>first
    |exact aB hQ
    | (cases u<;>first
        |exact aB hQ
        | (refine af (wpAny_load ho ?_)
           rw[hc,hd]
           show wpAny M A (if(["enumerate","zip","dict_itemiterator","dict_reverseitemiterator","odict_iterator","itertools.zip_longest","itertools.pairwise"].contains n&&vs[0]? ==some (rawInt _))=true then _ else _) Q E s
           rw[ay (by intro h;rw[hn,Bool.false_and]at h;cases h)]
           exact aB hQ))
noncomputable def jD(K:PySem.W.Frag)(a:Addr):It:=
 ⟨fun i H=>∃xs x,SqL K H a xs/\xs[i]? =some x,fun i H x H'=>H'=H/\∀xs,SqL K H a xs->xs[i]? =some x,fun i H=>∃xs,SqL K H a xs/\xs.length<=i⟩
noncomputable def wC(K:PySem.W.Frag)(a:Addr):It:=
 ⟨fun i H=>∃xs x,SqT K H a xs/\xs[i]? =some x,fun i H x H'=>H'=H/\∀xs,SqT K H a xs->xs[i]? =some x,fun i H=>∃xs,SqT K H a xs/\xs.length<=i⟩
noncomputable def me(lo:Int)(n:Nat):It:=⟨fun i _=>i<n,fun i H x H'=>H'=H/\x= .int (lo+i),fun i _=>n<=i⟩
theorem Gd{P:Program}{w:World}{K:PySem.W.Frag}{tg:Expr}(a it:Addr):Turn P w K tg (jD K a) [it] it (fun i h=>h.IsListIter it a i)where
 mem:=by simp
 obj:=fun i h st b hb=>by
  have e:b=it:=by simpa using hb
  subst e
  obtain⟨o,e,c,d⟩:=st
  exact⟨o,e,fun v z=>by rw[d]at z;cases z⟩
 keep:=fun i h h' st k=>st.at fun o e=>k it (by simp) o e
 item:=by
  intro X hP hw hK hc i pins s σ H E I hf st hg
  subst hP hw hK
  obtain⟨xs,x,hq,hx⟩:=hg
  obtain⟨its,rv,p,hz⟩:=I.list hq
  obtain⟨u,hu,ru⟩:=rv.get hx
  obtain⟨f0,f1,f2,f3,f4,f5⟩:=hf it (by simp)
  refine fM st p.isList (x:=u) (by simpa using hu) fun h' st' sb=>?_
  have I1:Inv X pins σ H {s with heap:=h'}:=I.turned (t':=s.toks) (fun b o hb e=>(sb.2 b hb).trans e) f0 f1 f3 f4 f5
  obtain⟨o,e,c,d⟩:=id st'
  exact⟨u,rfl,tU (s:={s with heap:=h'}) e c d (by decide) ⟨x,H,I1,ru,⟨rfl,fun ys hy=>by rw[I.list_inj hy hq];exact hx⟩,st',fun b hb=>(hf b hb).1⟩⟩
 done:=by
  intro X hP hw hK hc i pins s σ H E I hf st hg
  subst hP hw hK
  obtain⟨xs,hq,hx⟩:=hg
  obtain⟨its,rv,p,hz⟩:=I.list hq
  obtain⟨f0,f1,f2,f3,f4,f5⟩:=hf it (by simp)
  have hl:=rv.length
  exact gf (I.ok.hd hc) st p.isList (by simp;lia) fun h' eb=>⟨rfl,I.turned (t':=s.toks) (fun b o hb e=>eb b o hb e) f0 f1 f3 f4 f5⟩
 self:=fun _ _ _ _ _ st h=>wpAny_pyIter_listiter st h
theorem GQ{P:Program}{w:World}{K:PySem.W.Frag}{tg:Expr}(a it:Addr):Turn P w K tg (wC K a) [it] it (fun i h=>h.IsTupleIter it a i)where
 mem:=by simp
 obj:=fun i h st b hb=>by
  have e:b=it:=by simpa using hb
  subst e
  obtain⟨o,e,c,d⟩:=st
  exact⟨o,e,fun v z=>by rw[d]at z;cases z⟩
 keep:=fun i h h' st k=>st.at fun o e=>k it (by simp) o e
 item:=by
  intro X hP hw hK hc i pins s σ H E I hf st hg
  subst hP hw hK
  obtain⟨xs,x,hq,hx⟩:=hg
  obtain⟨its,rv,p,hz⟩:=I.tuple hq
  obtain⟨u,hu,ru⟩:=rv.get hx
  obtain⟨f0,f1,f2,f3,f4,f5⟩:=hf it (by simp)
  refine wpAny_pyNext_tuple_item st (show s.heap.IsTuple a its.toArray from p) (x:=u) (by simpa using hu) fun h' st' sb=>?_
  have I1:Inv X pins σ H {s with heap:=h'}:=I.turned (t':=s.toks) (fun b o hb e=>(sb.2 b hb).trans e) f0 f1 f3 f4 f5
  obtain⟨o,e,c,d⟩:=id st'
  exact⟨u,rfl,tU (s:={s with heap:=h'}) e c d (by decide) ⟨x,H,I1,ru,⟨rfl,fun ys hy=>by rw[I.tuple_inj hy hq];exact hx⟩,st',fun b hb=>(hf b hb).1⟩⟩
 done:=by
  intro X hP hw hK hc i pins s σ H E I hf st hg
  subst hP hw hK
  obtain⟨xs,hq,hx⟩:=hg
  obtain⟨its,rv,p,hz⟩:=I.tuple hq
  obtain⟨f0,f1,f2,f3,f4,f5⟩:=hf it (by simp)
  have hl:=rv.length
  exact wpAny_pyNext_tuple_end (I.ok.hd hc) st (show s.heap.IsTuple a its.toArray from p) (by simp;lia) fun h' eb=>⟨rfl,I.turned (t':=s.toks) (fun b o hb e=>eb b o hb e) f0 f1 f3 f4 f5⟩
 self:=fun _ _ _ _ _ st h=>wpAny_pyIter_tupleiter st h
theorem GP{P:Program}{w:World}{K:PySem.W.Frag}{tg:Expr}(it:Addr)(lo:Int)(n:Nat):Turn P w K tg (me lo n) [it] it (fun i h=>IsRangeIter h it (lo+(i:Nat)*1) ((n:Int)-(i:Nat)) 1)where
 mem:=by simp
 obj:=fun i h st b hb=>by
  have e:b=it:=by simpa using hb
  subst e
  exact⟨_,st,fun v z=>by
   have z':Data.fields _=Data.cell v:=z
   cases z'⟩
 keep:=fun i h h' st k=>k it (by simp) _ st
 item:=by
  intro X hP hw hK hc i pins s σ H E I hf st hg
  subst hP hw hK
  obtain⟨f0,f1,f2,f3,f4,f5⟩:=hf it (by simp)
  have W:=Walks.range (prog:=X.prog) (w:=X.w) (I.ok.hd hc) it lo 1 n
  refine W.item i s _ _ hg st fun v h' tk hv st' kk=>?_
  obtain⟨t,rfl⟩:=hv
  have I1:Inv X pins σ H {s with heap:=h',toks:=tk}:=I.turned (fun b o hb e=>kk b o (by simpa using hb) e) f0 f1 f3 f4 f5
  refine⟨_,rfl,tU (s:={s with heap:=h',toks:=tk}) (n:="range_iterator") st' rfl rfl (by decide) ⟨.int (lo+i),H,I1,⟨t,?_⟩,⟨rfl,rfl⟩,st',fun b hb=>(hf b hb).1⟩⟩
  rw[Int.mul_one]
 done:=by
  intro X hP hw hK hc i pins s σ H E I hf st hg
  subst hP hw hK
  obtain⟨f0,f1,f2,f3,f4,f5⟩:=hf it (by simp)
  exact wpAny_pyNext_range_end (I.ok.hd hc) st (by have:n<=i:=hg;lia) fun h' eb=>⟨rfl,I.turned (t':=s.toks) (fun b o hb e=>eb b o hb e) f0 f1 f3 f4 f5⟩
 self:=fun _ _ _ _ _ st h=>wpAny_pyIter_rangeiter st h
section
variable{X:Cx}{tg:Expr}
def jL(K:PySem.W.Frag)(tl:TE):TI:=fun σ H R=>tl σ H fun x H1=>∃a,x= .ref a/\(∃xs,SqL K H1 a xs)/\R (jD K a) H1
def Bj(K:PySem.W.Frag)(tl:TE):TI:=fun σ H R=>tl σ H fun x H1=>∃a,x= .ref a/\(∃xs,SqT K H1 a xs)/\R (wC K a) H1
theorem jO{l:Expr}{tl:TE}(hl:PE X l tl):PI X tg l (jL X.K tl):=by
 intro pins s σ H R I h
 refine iP (hl pins s σ H _ I h) fun v s1 ⟨x,H1,I1,r1,q1⟩=>?_
 obtain⟨a,e,⟨xs,hq⟩,q⟩:=q1
 subst e
 cases r1
 obtain⟨its,rv,p,hz⟩:=I1.list hq
 refine eK p.isList ?_
 refine⟨s1.heap.objs.size,[s1.heap.objs.size],_,_,H1,rfl,I1.kept (t':=s1.toks) fun b o e=>ag _ e,Gd a _,⟨_,aR _ rfl,rfl,rfl⟩,fun b hb=>?_,q⟩
 have e:b=s1.heap.objs.size:=by simpa using hb
 subst e
 exact I1.fpOk (ao _) (I1.hok.fresh (ao _))
theorem C0{l:Expr}{tl:TE}(hl:PE X l tl):PI X tg l (Bj X.K tl):=by
 intro pins s σ H R I h
 refine iP (hl pins s σ H _ I h) fun v s1 ⟨x,H1,I1,r1,q1⟩=>?_
 obtain⟨a,e,⟨xs,hq⟩,q⟩:=q1
 subst e
 cases r1
 obtain⟨its,rv,p,hz⟩:=I1.tuple hq
 refine gF (show s1.heap.IsTuple a its.toArray from p) ?_
 refine⟨s1.heap.objs.size,[s1.heap.objs.size],_,_,H1,rfl,I1.kept (t':=s1.toks) fun b o e=>ag _ e,GQ a _,⟨_,aR _ rfl,rfl,rfl⟩,fun b hb=>?_,q⟩
 have e:b=s1.heap.objs.size:=by simpa using hb
 subst e
 exact I1.fpOk (ao _) (I1.hok.fresh (ao _))
theorem Fh{pins:List (Addr×Obj)}{σ:St}{H:Hp}{s:Shared}{R:It->Hp->Prop}{E:Value->Shared->Prop}{lo hi:Int}{t u v:Tok}{tk:Nat}(I:Inv X pins σ H s)(h1:-(2^62)<=lo)(h2:lo<2^62)(h3:-(2^62)<=hi)(h4:hi<2^62)
  (q:R (me lo (hi-lo).toNat) H):wpAny (model X.prog X.w) X.A (pyIter (.ref s.heap.objs.size)) (wB X pins σ tg R) E {s with heap:=s.heap.push {cls:=.type "range",data:=.fields #[.int lo t,.int hi u,.int 1 v]},toks:=tk}:=by
 refine wpAny_pyIter_range (IsRange.new ..) (small_one h1 h2 h3 h4) ?_
 have I1:Inv X pins σ H {s with heap:=s.heap.push {cls:=.type "range",data:=.fields #[.int lo t,.int hi u,.int 1 v]},toks:=tk}:=I.kept fun b o e=>ag _ e
 refine⟨(s.heap.push {cls:=.type "range",data:=.fields #[.int lo t,.int hi u,.int 1 v]}).objs.size,[(s.heap.push {cls:=.type "range",data:=.fields #[.int lo t,.int hi u,.int 1 v]}).objs.size],_,_,H,rfl,
  I1.kept (t':=tk) fun b o e=>ag _ e,GP _ lo (hi-lo).toNat,?_,fun b hb=>?_,q⟩
 ·have e1:lo+((0:Nat):Int)*1=lo:=by simp
  have e2:(((hi-lo).toNat:Nat):Int)-((0:Nat):Int)=Builtin.Range.rangeSize lo hi 1:=by rw[rangeSize_one];split<;>lia
  show IsRangeIter _ _ (lo+((0:Nat):Int)*1) ((((hi-lo).toNat:Nat):Int)-((0:Nat):Int)) 1
  rw[e1,e2]
  exact aR _ rfl
 ·have e:b=(s.heap.push {cls:=.type "range",data:=.fields #[.int lo t,.int hi u,.int 1 v]}).objs.size:=by simpa using hb
  subst e
  exact I1.fpOk (ao _) (I1.hok.fresh (ao _))
def nU(ta:TA):TI:=fun σ H R=>ta σ H fun vs H1=>∃j:Int,vs=[.int j]/\-(2^62)<=j/\j<2^62/\R (me 0 j.toNat) H1
theorem pj{a:Expr}{ta:TA}{p pos:Pos}(hg:Gl X "range")(hm:X.mg "range"=none)(ha:PA X [a] ta)(hs:starEach [a] X.env=[(false,eval a X.env)]:=by rfl):PI X tg (.Call (.Name "range" p) [a] [] pos) (nU ta):=by
 intro pins s σ H R I h
 refine Call_ (oP I hg hm boot_range (dY (iP (ha pos pins s σ H _ I h) fun us s1 ⟨vs,H1,I1,r1,q1⟩=>?_) hs rfl))
 obtain⟨j,e,q1,q2,q⟩:=q1
 subst e
 cases r1 with
 |cons r rr=>
  cases rr
  obtain⟨t,rfl⟩:=r
  exact call_range_1 (Fh I1 (by lia) (by lia) q1 q2 (by simpa using q))
def tE(wi:TI)(g:TG)(tb:TS):TS:=fun D σ H=>wi σ H fun J H1=>∃W:Nat->Nat->St->Hp->Prop,(∃m,W 0 m σ H1)/\∀i m σ H,W i m σ H->
 (J.stop i H/\D.nx σ H)\/(J.go i H/\∃N:St->Hp->Prop,(∀σ' H',N σ' H'->∃m',m'<m/\W (i+1) m' σ' H')/\∀x H',J.yld i H x H'->g x σ H' fun σ2 H2=>tb {D with nx:=N,ct:=N,bk:=D.nx} σ2 H2)
noncomputable def pU(fp:List Addr)(h:Heap):List (Addr×Obj):=fp.filterMap fun b=>(h.get? b).map fun o=>(b,o)
theorem sJ{fp:List Addr}{h:Heap}{b:Addr}{o:Obj}(hb:b∈fp)(e:h.get? b=some o):(b,o)∈pU fp h:=List.mem_filterMap.mpr ⟨b,hb,by rw[e];rfl⟩
theorem FX{fp:List Addr}{h:Heap}{p:Addr×Obj}(hp:p∈pU fp h):p.1∈fp/\h.get? p.1=some p.2:=by
 obtain⟨b,hb,e⟩:=List.mem_filterMap.mp hp
 cases q:h.get? b with
 |none=>rw[q]at e;cases e
 |some o=>
  rw[q]at e
  have e':(b,o)=p:=aI e
  subst e'
  exact⟨hb,q⟩
theorem Inv.pinned{pins:List (Addr×Obj)}{σ:St}{H:Hp}{s:Shared}{fp:List Addr}(I:Inv X pins σ H s)(hf:∀b∈fp,lH X pins H b)(ho:∀b∈fp,∃o,s.heap.get? b=some o/\∀v,o.data≠ .cell v):Inv X (pins++pU fp s.heap) σ H s:=
 I.pins_of fun p hp=>(aW.mp hp).elim (fun z=>I.pin p (bo _ z)) fun z=>by
  obtain⟨hb,e⟩:=FX z
  obtain⟨f0,f1,f2,_⟩:=hf p.1 hb
  obtain⟨o,e',d⟩:=ho p.1 hb
  rw[e]at e';cases e'
  exact⟨e,f0,f1,f2,d⟩
theorem Inv.unpinned{pins pl:List (Addr×Obj)}{σ:St}{H:Hp}{s:Shared}(I:Inv X (pins++pl) σ H s):Inv X pins σ H s:=I.pins_of fun p hp=>I.pin p (bo _ (cC _ hp))
theorem kh{iter:Expr}{body:List Stmt}{wi:TI}{g:TG}{tb:TS}{pos:Pos}(hp:PassesOwn (model X.prog X.w) X.A X.env X.xe)(hc:X.calm=true)(hi:PI X tg iter wi)(hg:PG X tg g)(hb:PSs X body tb)
  (hs:∀x,foldedSetIterable iter X.env x=pure x:=by intro _;rfl):PS X (.For tg iter body [] pos) (tE wi g tb):=by
 intro pins s σ H D I h
 refine wpAny_For (iP (hi pins s σ H _ I h) fun v s1 h1=>iP h1 fun itv s2 h2=>?_) hs
 obtain⟨it,fp,tn,J,H2,e,I2,T,st2,f2,W,⟨m0,w0⟩,turn⟩:=h2
 subst e
  -- what stays true of the iterator's objects through the loop
 have stat:∀{H':Hp},(∀b∈fp,H' b=none)->∀b∈fp,lH X pins H' b:=fun hn b hb=>⟨hn b hb,(f2 b hb).2⟩
 refine codeAny_forLoop_any (fun n s'=>∃i σ' H',Inv X pins σ' H' s'/\tn i s'.heap/\(∀b∈fp,H' b=none)/\W i n σ' H') ?_ m0 ⟨0,σ,H2,I2,st2,fun b hb=>(f2 b hb).1,w0⟩
 rintro n s3 ⟨i,σ3,H3,I3,st3,fr3,w3⟩
 rcases turn i n σ3 H3 w3 with⟨stop,qn⟩|⟨go,N,hN,step⟩
 ·refine dO hp (iP (T.done X rfl rfl rfl hc i pins s3 σ3 H3 X.xe I3 (stat fr3) st3 stop) fun r s4 ⟨hr,I4⟩=>?_)
  subst hr
  exact fY ⟨σ3,H3,I4,qn⟩
 ·refine dO hp (iP (T.item X rfl rfl rfl hc i pins s3 σ3 H3 X.xe I3 (stat fr3) st3 go) fun r s4 ⟨u,hr,h4⟩=>?_)
  subst hr
  refine dO hp (iP h4 fun _ s5 ⟨x,H5,I5,r5,y5,st5,fr5⟩=>?_)
  have I5':=I5.pinned (stat fr5) (T.obj _ _ st5)
  refine dO hp (iP (hg _ s5 σ3 H5 x u _ I5' r5 (step x H5 y5)) fun _ s6 ⟨σ6,H6,I6,q6⟩=>?_)
  refine dO hp (iP (hb _ s6 σ6 H6 _ I6 q6) fun f s7 q7=>?_)
  have again:∀{σ7:St} {H7:Hp},Inv X (pins++pU fp s5.heap) σ7 H7 s7->N σ7 H7->∃m,m<n/\∃i σ' H',Inv X pins σ' H' s7/\tn i s7.heap/\(∀b∈fp,H' b=none)/\W i m σ' H':=fun{σ7 H7} I7 n7=>by
   obtain⟨m',hm,w7⟩:=hN σ7 H7 n7
   refine⟨m',hm,i+1,σ7,H7,I7.unpinned,T.keep _ _ _ st5 fun b hb o e=>(I7.pin (b,o) (bo _ (bo _ (sJ hb e)))).1,fun b hb=>?_,w7⟩
   obtain⟨o,e,d⟩:=T.obj _ _ st5 b hb
   exact(I7.pin (b,o) (bo _ (bo _ (sJ hb e)))).2.1
  cases f with
  |next=>obtain⟨σ7,H7,I7,n7⟩:=q7;exact again I7 n7
  |cont=>obtain⟨σ7,H7,I7,n7⟩:=q7;exact again I7 n7
  |brk=>obtain⟨σ7,H7,I7,q7⟩:=q7;exact⟨σ7,H7,I7.unpinned,q7⟩
  |ret v=>obtain⟨x7,σ7,H7,I7,r7,q7⟩:=q7;exact⟨x7,σ7,H7,I7.unpinned,r7,q7⟩
end
theorem l8{K:PySem.W.Frag}{a:Addr}{xs:List V}{g:TG}{tb:TS}{D:Ends}{σ:St}{H:Hp}(Pv:Nat->St->Hp->Prop)(h0:Pv 0 σ H)(hl:∀i σ H,i<=xs.length->Pv i σ H->SqL K H a xs)
  (hs:∀i x σ H,xs[i]? =some x->Pv i σ H->g x σ H fun σ2 H2=>tb {D with nx:=Pv (i+1),ct:=Pv (i+1),bk:=D.nx} σ2 H2) (hd:∀σ H,Pv xs.length σ H->D.nx σ H):
  ∃W:Nat->Nat->St->Hp->Prop,(∃m,W 0 m σ H)/\∀i m σ H,W i m σ H->
   ((jD K a).stop i H/\D.nx σ H)\/((jD K a).go i H/\∃N:St->Hp->Prop,(∀σ' H',N σ' H'->∃m',m'<m/\W (i+1) m' σ' H')/\∀x H',(jD K a).yld i H x H'->g x σ H' fun σ2 H2=>tb {D with nx:=N,ct:=N,bk:=D.nx} σ2 H2):=by
 refine⟨fun i m σ H=>m=xs.length-i/\i<=xs.length/\Pv i σ H,⟨xs.length,by simp,bp _,h0⟩,?_⟩
 rintro i m σ H ⟨rfl,hi,p⟩
 have q:=hl i σ H hi p
 by_cases hlt:i<xs.length
 ·refine .inr ⟨⟨xs,xs[i],q,by simp[hlt]⟩,Pv (i+1),fun σ' H' p'=>⟨xs.length-(i+1),by lia,rfl,hlt,p'⟩,fun x H' y=>?_⟩
  obtain⟨e,y⟩:=y
  subst e
  exact hs i x σ _ (y xs q) p
 ·have e:i=xs.length:=by lia
  subst e
  exact .inl ⟨⟨xs,q,ao _⟩,hd σ H p⟩
theorem qg{lo:Int}{n:Nat}{g:TG}{tb:TS}{D:Ends}{σ:St}{H:Hp}(Pv:Nat->St->Hp->Prop)(h0:Pv 0 σ H)
  (hs:∀i σ H,i<n->Pv i σ H->g (.int (lo+i)) σ H fun σ2 H2=>tb {D with nx:=Pv (i+1),ct:=Pv (i+1),bk:=D.nx} σ2 H2) (hd:∀σ H,Pv n σ H->D.nx σ H):
  ∃W:Nat->Nat->St->Hp->Prop,(∃m,W 0 m σ H)/\∀i m σ H,W i m σ H->
   ((me lo n).stop i H/\D.nx σ H)\/((me lo n).go i H/\∃N:St->Hp->Prop,(∀σ' H',N σ' H'->∃m',m'<m/\W (i+1) m' σ' H')/\∀x H',(me lo n).yld i H x H'->g x σ H' fun σ2 H2=>tb {D with nx:=N,ct:=N,bk:=D.nx} σ2 H2):=by
 refine⟨fun i m σ H=>m=n-i/\i<=n/\Pv i σ H,⟨n,by simp,bp _,h0⟩,?_⟩
 rintro i m σ H ⟨rfl,hi,p⟩
 by_cases hlt:i<n
 ·refine .inr ⟨hlt,Pv (i+1),fun σ' H' p'=>⟨n-(i+1),by lia,rfl,hlt,p'⟩,fun x H' y=>?_⟩
  obtain⟨e,y⟩:=y
  subst e y
  exact hs i σ _ hlt p
 ·have e:i=n:=by lia
  subst e
  exact .inl ⟨ao _,hd σ H p⟩
theorem vv{c:TT}{tb:TS}{D:Ends}{σ:St}{H:Hp}(Pv:St->Hp->Prop)(μ:St->Hp->Nat)(h0:Pv σ H)
  (hs:∀σ H,Pv σ H->c σ H fun b H1=>if b=true then tb {D with nx:=fun σ' H'=>Pv σ' H'/\μ σ' H'<μ σ H,ct:=fun σ' H'=>Pv σ' H'/\μ σ' H'<μ σ H,bk:=D.nx} σ H1 else D.nx σ H1)
  (mono:∀σ H Q Q',(∀b H1,Q b H1->Q' b H1)->c σ H Q->c σ H Q'):yg c tb D σ H:=by
 refine⟨fun m σ H=>m=μ σ H/\Pv σ H,⟨_,rfl,h0⟩,?_⟩
 rintro m σ H ⟨rfl,p⟩
 refine mono σ H _ _ (fun b H1 q=>?_) (hs σ H p)
 cases b with
 |true=>exact⟨_,fun σ' H' ⟨p',l⟩=>⟨_,l,rfl,p'⟩,q⟩
 |false=>exact q
abbrev R2:=V->V->Hp->VK->Prop
def OpR(X:Cx)(f:Value->Value->Sem Value)(r:R2):Prop:=
 ∀(pins:List (Addr×Obj)) (s:Shared) (σ:St) (H:Hp) (x y:V) (v u:Value) (Q:VK),Inv X pins σ H s->RelV x v->RelV y u->r x y H Q->
  wpAny (model X.prog X.w) X.A (f v u) (EP X pins σ Q) X.xe s
def sV(X:Cx)(f:Value->Sem Value)(r:V->Hp->VK->Prop):Prop:=
 ∀(pins:List (Addr×Obj)) (s:Shared) (σ:St) (H:Hp) (x:V) (v:Value) (Q:VK),Inv X pins σ H s->RelV x v->r x H Q->
  wpAny (model X.prog X.w) X.A (f v) (EP X pins σ Q) X.xe s
def jbw(X:Cx)(f:Value)(r:List V->Hp->VK->Prop):Prop:=
 ∀(pins:List (Addr×Obj)) (s:Shared) (σ:St) (H:Hp) (xs:List V) (us:List Value) (Q:VK),Inv X pins σ H s->Vals xs us->r xs H Q->
  wpAny (model X.prog X.w) X.A (call f us) (EP X pins σ Q) X.xe s
def IW(X:Cx)(r:V->Hp->(Bool->Hp->Prop)->Prop):Prop:=
 ∀(pins:List (Addr×Obj)) (s:Shared) (σ:St) (H:Hp) (x:V) (v:Value) (Q:Bool->Hp->Prop),Inv X pins σ H s->RelV x v->r x H Q->
  wpAny (model X.prog X.w) X.A (truthy v) (TP X pins σ Q) X.xe s
def nQ(r:R2)(ta tb:TE):TE:=fun σ H Q=>ta σ H fun x H1=>tb σ H1 fun y H2=>r x y H2 Q
def wK(r:V->Hp->VK->Prop)(ta:TE):TE:=fun σ H Q=>ta σ H fun x H1=>r x H1 Q
def rI(C:Int->Int->Prop)(g:Int->Int->V):R2:=fun x y H Q=>∃i j,x= .int i/\y= .int j/\C i j/\Q (g i j) H
def mC(g:Int->Int->V):R2:=fun x y H Q=>∃i j,x= .int i/\y= .int j/\Q (g i j) H
def rU(g:Int->V):V->Hp->VK->Prop:=fun x H Q=>∃i,x= .int i/\Q (g i) H
section
variable{X:Cx}{a b c:Expr}{ta tb tc:TE}{pos:Pos}
theorem wy(ha:PE X a ta)(hb:PE X b tb){pins:List (Addr×Obj)}{s:Shared}{σ:St}{H:Hp}{R:V->V->Hp->Prop}(I:Inv X pins σ H s)
  (h:ta σ H fun x H1=>tb σ H1 fun y H2=>R x y H2) {Q:Value->Shared->Prop} {f:Value->Value->Sem Value}
  (hf:∀v u s2 x y H2,Inv X pins σ H2 s2->RelV x v->RelV y u->R x y H2->wpAny (model X.prog X.w) X.A (f v u) Q X.xe s2):
  wpAny (model X.prog X.w) X.A (eval a X.env) (fun v s₁=>wpAny (model X.prog X.w) X.A (eval b X.env) (fun u s₂=>wpAny (model X.prog X.w) X.A (f v u) Q X.xe s₂) X.xe s₁) X.xe s:=by
 refine iP (ha pins s σ H _ I h) fun v s1 ⟨x,H1,I1,r1,q1⟩=>?_
 refine iP (hb pins s1 σ H1 _ I1 q1) fun u s2 ⟨y,H2,I2,r2,q2⟩=>?_
 exact hf v u s2 x y H2 I2 r1 r2 q2
theorem i9{op:Operator}{r:R2}(ho:OpR X (binaryOp op) r)(ha:PE X a ta)(hb:PE X b tb):PE X (.BinOp a op b pos) (nQ r ta tb):=by
 intro pins s σ H Q I h
 exact wpAny_BinOp (wy ha hb I h fun v u s2 x y H2 I2 rx ry q=>ho pins s2 σ H2 x y v u Q I2 rx ry q)
theorem oM{op:UnaryOp}{r:V->Hp->VK->Prop}(ho:sV X (unaryOp op) r)(ha:PE X a ta):PE X (.UnaryOp op a pos) (wK r ta):=by
 intro pins s σ H Q I h
 exact UnaryOp_ (iP (ha pins s σ H _ I h) fun v s1 ⟨x,H1,I1,r1,q1⟩=>ho pins s1 σ H1 x v Q I1 r1 q1)
theorem qO{f:Value->Value->Sem Value}{C:Int->Int->Prop}{g:Int->Int->Int}
  (rule:∀(i j:Int) (t u:Tok) (s:Shared) (Q:Value->Shared->Prop) (E:Value->Shared->Prop),C i j->Q (.int (g i j) s.toks) {s with toks:=s.toks+1}->wpAny (model X.prog X.w) X.A (f (.int i t) (.int j u)) Q E s):
  OpR X f (rI C fun i j=>.int (g i j)):=by
 intro pins s σ H x y v u Q I rx ry h
 obtain⟨i,j,rfl,rfl,hc,q⟩:=h
 obtain⟨t,rfl⟩:=rx
 obtain⟨t',rfl⟩:=ry
 exact rule i j t t' s _ _ hc ⟨.int (g i j),H,I.tok _,⟨_,rfl⟩,q⟩
theorem tH{f:Value->Value->Sem Value}{g:Int->Int->Int}
  (rule:∀(i j:Int) (t u:Tok) (s:Shared) (Q:Value->Shared->Prop) (E:Value->Shared->Prop),Q (.int (g i j) s.toks) {s with toks:=s.toks+1}->wpAny (model X.prog X.w) X.A (f (.int i t) (.int j u)) Q E s):
  OpR X f (mC fun i j=>.int (g i j)):=by
 intro pins s σ H x y v u Q I rx ry h
 obtain⟨i,j,rfl,rfl,q⟩:=h
 obtain⟨t,rfl⟩:=rx
 obtain⟨t',rfl⟩:=ry
 exact rule i j t t' s _ _ ⟨.int (g i j),H,I.tok _,⟨_,rfl⟩,q⟩
theorem qP{f:Value->Value->Sem Value}{g:Int->Int->Bool}
  (rule:∀(i j:Int) (t u:Tok) (s:Shared) (Q:Value->Shared->Prop) (E:Value->Shared->Prop),Q (.bool (g i j)) s->wpAny (model X.prog X.w) X.A (f (.int i t) (.int j u)) Q E s):
  OpR X f (mC fun i j=>.bl (g i j)):=by
 intro pins s σ H x y v u Q I rx ry h
 obtain⟨i,j,rfl,rfl,q⟩:=h
 obtain⟨t,rfl⟩:=rx
 obtain⟨t',rfl⟩:=ry
 exact rule i j t t' s _ _ ⟨.bl (g i j),H,I,rfl,q⟩
def tj(i j:Int):Prop:=0<j/\j<1073741824
def tf(i j:Int):Prop:=0<=j/\j<=1000000/\i.natAbs<2^64
def CMul(i j:Int):Prop:=(-(2^64)<i/\i<2^64)\/(-(2^64)<j/\j<2^64)
theorem CMul.ok{i j:Int}(h:CMul i j):IntMulOk i j:=by
 rcases h with⟨h1,h2⟩|⟨h1,h2⟩
 ·exact .of_left (intBits_le_64 h1 h2)
 ·exact .of_right (intBits_le_64 h1 h2)
theorem Dk:OpR X (binaryOp .Add) (mC fun i j=>.int (i+j)):=tH fun _ _ _ _ _ _ _ q=>add_int q
theorem C6:OpR X (binaryOp .Sub) (mC fun i j=>.int (i-j)):=tH fun _ _ _ _ _ _ _ q=>sub_int q
theorem C9:OpR X (binaryOp .Mult) (rI CMul fun i j=>.int (i*j)):=qO fun _ _ _ _ _ _ _ hc q=>mul_int q hc.ok
theorem D5:OpR X (binaryOp .FloorDiv) (rI tj fun i j=>.int (i/j)):=qO fun i j _ _ _ _ _ hc q=>by
 have h1:(0:Int)<j:=hc.1
 have h2:j<1073741824:=hc.2
 exact floordiv_int (by lia) (by rw[iE i (by lia)];exact q) (.inl (PyProof.noPylong_small (by lia)))
theorem Da:OpR X (binaryOp .Mod) (rI (fun _ j=>0<j) fun i j=>.int (i%j)):=qO fun i j _ _ _ _ _ hc q=>by
 have h1:(0:Int)<j:=hc
 exact mod_int' (by lia) (by rw[Int.fmod_eq_emod_of_nonneg i (by lia)];exact q)
theorem C7:OpR X (binaryOp .Pow) (rI tf fun i j=>.int (i^j.toNat)):=qO fun _ _ _ _ _ _ _ hc q=>pow_int_small hc.1 hc.2.1 hc.2.2 q
theorem DP:OpR X (inplaceOp .Add) (mC fun i j=>.int (i+j)):=tH fun _ _ _ _ _ _ _ q=>iadd_int q
theorem unI{f:Value->Sem Value}{g:Int->Int}
  (rule:∀(i:Int) (t:Tok) (s:Shared) (Q:Value->Shared->Prop) (E:Value->Shared->Prop),Q (.int (g i) s.toks) {s with toks:=s.toks+1}->wpAny (model X.prog X.w) X.A (f (.int i t)) Q E s):
  sV X f (rU fun i=>.int (g i)):=by
 intro pins s σ H x v Q I rx h
 obtain⟨i,rfl,q⟩:=h
 obtain⟨t,rfl⟩:=rx
 exact rule i t s _ _ ⟨.int (g i),H,I.tok _,⟨_,rfl⟩,q⟩
theorem BW:sV X (unaryOp .USub) (rU fun i=>.int (-i)):=unI fun _ _ _ _ _ q=>neg_int q
end
noncomputable def xi:V->V->Bool
 | .non,.non=>true| .non,.int _=>true| .int _,.non=>true| .non,.bl _=>true| .bl _,.non=>true| .non,.str _=>true| .str _,.non=>true
 | .int _,.int _=>true| .bl _,.bl _=>true| .str _,.str _=>true| .byt _,.byt _=>true
 | .int _,.str _=>true| .str _,.int _=>true| .bl _,.str _=>true| .str _,.bl _=>true
 |_,_=>false
def CK:R2:=fun x y H Q=>xi x y=true/\Q (.bl (decide (x=y))) H
def CC:R2:=fun x y H Q=>xi x y=true/\Q (.bl (!decide (x=y))) H
theorem yq{i j:Int}:decide (V.int i=V.int j)=(i==j):=by
 rw[eF]
 simp
theorem xD{i j:Bool}:decide (V.bl i=V.bl j)=(i==j):=by
 rw[eF]
 simp
theorem yr{i j:Str}:decide (V.str i=V.str j)=(i==j):=by
 rw[eF]
 simp
theorem yp{i j:Array UInt8}:decide (V.byt i=V.byt j)=(i.toList==j.toList):=by
 rw[eF]
 cases i
 cases j
 simp
section
variable{X:Cx}{a b c:Expr}{ta tb tc:TE}{pos:Pos}
theorem jG{pins:List (Addr×Obj)}{σ:St}{H:Hp}{s:Shared}{Q:VK}{k k':Bool}(I:Inv X pins σ H s)(q:Q (.bl k) H)(e:k=k'):EP X pins σ Q (.bool k') s:=by
 subst e
 exact⟨.bl k,H,I,rfl,q⟩
theorem Di:OpR X (compareOp .Eq) CK:=by
 intro pins s σ H x y v u Q I rx ry h
 obtain⟨hs,q⟩:=h
 cases x with
 |non=>
  cases rx
  cases y with
  |non=>cases ry;exact PySem.EqNone.eq_none_none (jG I q (by simp))
  |bl j=>cases ry;exact PySem.EqNone.eq_none_bool (jG I q (by simp))
  |int j=>obtain⟨t',rfl⟩:=ry;exact PySem.EqNone.eq_none_int (jG I q (by simp))
  |str j=>obtain⟨t',rfl⟩:=ry;exact PySem.EqNone.eq_none_str (jG I q (by simp))
  |_=>exact absurd (show false=true from hs) aU
 |bl i=>
  cases rx
  cases y with
  |non=>cases ry;exact PySem.EqNone.eq_bool_none (jG I q (by simp))
  |bl j=>cases ry;exact eq_bool (jG I q xD)
  |str j=>obtain⟨t',rfl⟩:=ry;exact PySem.EqMixed.eq_bool_str (jG I q (by simp))
  |_=>exact absurd (show false=true from hs) aU
 |int i=>
  obtain⟨t,rfl⟩:=rx
  cases y with
  |non=>cases ry;exact PySem.EqNone.eq_int_none (jG I q (by simp))
  |int j=>obtain⟨t',rfl⟩:=ry;exact eq_int (jG I q yq)
  |str j=>obtain⟨t',rfl⟩:=ry;exact PySem.EqMixed.eq_int_str (jG I q (by simp))
  |_=>exact absurd (show false=true from hs) aU
 |str i=>
  obtain⟨t,rfl⟩:=rx
  cases y with
  |non=>cases ry;exact PySem.EqNone.eq_str_none (jG I q (by simp))
  |bl j=>cases ry;exact PySem.EqMixed.eq_str_bool (jG I q (by simp))
  |int j=>obtain⟨t',rfl⟩:=ry;exact PySem.EqMixed.eq_str_int (jG I q (by simp))
  |str j=>obtain⟨t',rfl⟩:=ry;exact eq_str (jG I q yr)
  |_=>exact absurd (show false=true from hs) aU
 |byt i=>
  obtain⟨t,rfl⟩:=rx
  cases y with
  |byt j=>obtain⟨t',rfl⟩:=ry;exact PySem.W.eq_bytes (jG I q yp)
  |_=>exact absurd (show false=true from hs) aU
 |_=>cases y<;>exact absurd (show false=true from hs) aU
theorem C8:OpR X (compareOp .NotEq) CC:=by
 intro pins s σ H x y v u Q I rx ry h
 obtain⟨hs,q⟩:=h
 cases x with
 |non=>
  cases rx
  cases y with
  |non=>cases ry;exact PySem.EqNone.ne_none_none (jG I q (by simp))
  |bl j=>cases ry;exact PySem.EqNone.ne_none_bool (jG I q (by simp))
  |int j=>obtain⟨t',rfl⟩:=ry;exact PySem.EqNone.ne_none_int (jG I q (by simp))
  |str j=>obtain⟨t',rfl⟩:=ry;exact PySem.EqNone.ne_none_str (jG I q (by simp))
  |_=>exact absurd (show false=true from hs) aU
 |bl i=>
  cases rx
  cases y with
  |non=>cases ry;exact PySem.EqNone.ne_bool_none (jG I q (by simp))
  |bl j=>cases ry;exact ne_bool (jG I q (cx not xD))
  |str j=>obtain⟨t',rfl⟩:=ry;exact PySem.EqMixed.ne_bool_str (jG I q (by simp))
  |_=>exact absurd (show false=true from hs) aU
 |int i=>
  obtain⟨t,rfl⟩:=rx
  cases y with
  |non=>cases ry;exact PySem.EqNone.ne_int_none (jG I q (by simp))
  |int j=>obtain⟨t',rfl⟩:=ry;exact ne_int (jG I q (cx not yq))
  |str j=>obtain⟨t',rfl⟩:=ry;exact PySem.EqMixed.ne_int_str (jG I q (by simp))
  |_=>exact absurd (show false=true from hs) aU
 |str i=>
  obtain⟨t,rfl⟩:=rx
  cases y with
  |non=>cases ry;exact PySem.EqNone.ne_str_none (jG I q (by simp))
  |bl j=>cases ry;exact PySem.EqMixed.ne_str_bool (jG I q (by simp))
  |int j=>obtain⟨t',rfl⟩:=ry;exact PySem.EqMixed.ne_str_int (jG I q (by simp))
  |str j=>obtain⟨t',rfl⟩:=ry;exact ne_str (jG I q (cx not yr))
  |_=>exact absurd (show false=true from hs) aU
 |byt i=>
  obtain⟨t,rfl⟩:=rx
  cases y with
  |byt j=>obtain⟨t',rfl⟩:=ry;exact PySem.W.ne_bytes (jG I q (cx not yp))
  |_=>exact absurd (show false=true from hs) aU
 |_=>cases y<;>exact absurd (show false=true from hs) aU
theorem Dd:OpR X (compareOp .Lt) (mC fun i j=>.bl (decide (i<j))):=qP fun _ _ _ _ _ _ _ q=>lt_int q
theorem De:OpR X (compareOp .LtE) (mC fun i j=>.bl (decide (i<=j))):=qP fun _ _ _ _ _ _ _ q=>le_int q
theorem Dg:OpR X (compareOp .Gt) (mC fun i j=>.bl (decide (j<i))):=qP fun _ _ _ _ _ _ _ q=>gt_int q
theorem Dh:OpR X (compareOp .GtE) (mC fun i j=>.bl (decide (j<=i))):=qP fun _ _ _ _ _ _ _ q=>ge_int q
theorem D6:OpR X (compareOp .IsNot) (fun x y H Q=>y= .non/\Q (.bl (!decide (x= .non))) H):=by
 intro pins s σ H x y v u Q I rx ry h
 obtain⟨rfl,q⟩:=h
 cases ry
 refine isnot_none_gen (jG I q ?_)
 cases x<;>first
  |(cases rx;rfl)
  |(obtain⟨t,rfl⟩:=rx;rfl)
theorem jI(b:Expr){op:CmpOp}(h:op≠ .In:=by decide)(h2:op≠ .NotIn:=by decide):behindInMarks op b=false:=by
 have e1:(op==CmpOp.In)=false:=by cases op<;>first|rfl|exact absurd rfl h
 have e2:(op==CmpOp.NotIn)=false:=by cases op<;>first|rfl|exact absurd rfl h2
 cases b<;>simp[behindInMarks,e1,e2]
theorem lS{op:CmpOp}{r:R2}(ho:OpR X (compareOp op) r)(ha:PE X a ta)(hb:PE X b tb)(hm:behindInMarks op b=false):PE X (.Compare a [op] [b] pos) (nQ r ta tb):=by
 intro pins s σ H Q I h
 exact wpAny_Compare1 (wy ha hb I h fun v u s2 x y H2 I2 rx ry q=>ho pins s2 σ H2 x y v u Q I2 rx ry q) hm
def BA(K:PySem.W.Frag)(x:V)(H:Hp)(k:Bool):Prop:=
 match x with
 | .non=>k=false
 | .bl b=>k=b
 | .int i=>k=(i !=0)
 | .str y=>y.length<=sizeLine/\k=((y.length:Int) !=0)
 | .byt y=>y.size<=sizeLine/\k=((y.size:Int) !=0)
 | .ref p=>(∃xs,SqL K H p xs/\k= !xs.isEmpty)\/(∃xs,SqT K H p xs/\k= !xs.isEmpty)\/∃kvs,H p=some (.dK kvs)/\k= !kvs.isEmpty
 |_=>False
theorem Gu{κ:Type}{kvs:List (κ×V)}{vs:List (κ×Value)}(r:KV kvs vs):(!vs.isEmpty)= !kvs.isEmpty:=by
 cases r<;>rfl
theorem AM{xs:List V}{its:List Value}(r:Vals xs its):(!its.toArray.isEmpty)= !xs.isEmpty:=by
 cases r<;>simp
theorem n6:(sizeLine:Nat)<2^63:=by rw[fu];decide
theorem BZ:IW X (fun x H Q=>∃k,BA X.K x H k/\Q k H):=by
 intro pins s σ H x v Q I rx h
 obtain⟨k,e,q⟩:=h
 have hl:=n6
 have hs:sizeLine=16777216:=fu
 cases x with
 |non=>
  cases rx
  have e':k=false:=e
  subst e'
  exact truthy_none ⟨H,I,q⟩
 |bl b=>
  cases rx
  have e':k=b:=e
  subst e'
  exact cc ⟨H,I,q⟩
 |int i=>
  obtain⟨t,rfl⟩:=rx
  have e':k=(i !=0):=e
  subst e'
  exact PySem.P.truthy_int ⟨H,I,q⟩
 |str y=>
  obtain⟨t,rfl⟩:=rx
  obtain⟨hy,e'⟩:y.length<=sizeLine/\k=((y.length:Int) !=0):=e
  subst e'
  exact PySem.P.truthy_str (by lia) ⟨H,I.tok _,q⟩
 |byt y=>
  obtain⟨t,rfl⟩:=rx
  obtain⟨hy,e'⟩:y.size<=sizeLine/\k=((y.size:Int) !=0):=e
  subst e'
  exact PySem.W.truthy_bytes (by lia) ⟨H,I.tok _,q⟩
 | ref p=>
  cases rx
  have e':(∃xs,SqL X.K H p xs/\k= !xs.isEmpty)\/(∃xs,SqT X.K H p xs/\k= !xs.isEmpty)\/∃kvs,H p=some (.dK kvs)/\k= !kvs.isEmpty:=e
  rcases e' with⟨xs,hx,e'⟩|⟨xs,hx,e'⟩|⟨kvs,hx,e'⟩
  ·subst e'
   obtain⟨its,r,pl,hz⟩:=I.list hx
   have hlen:=r.length
   exact wpAny_truthy_list pl.isList (by simp only[au];lia) ⟨H,I.tok _,by rw[AM r];exact q⟩
  ·subst e'
   obtain⟨its,r,pl,hz⟩:=I.tuple hx
   have hlen:=r.length
   exact truthy_tuple pl (by simp only[au];lia) ⟨H,I.tok _,by rw[AM r];exact q⟩
  ·subst e'
   obtain⟨hz,hS,vs,r,m⟩:kvs.length<=sizeLine/\(p==sysModules)=false/\∃vs,KV kvs vs/\s.heap.DictOf (jR X.prog X.w) p vs:=I.hok p _ hx
   have hlen:kvs.length=vs.length:=aD r
   exact wpAny_truthy_dict hS m (by lia) ⟨H,I.tok _,by rw[Gu r];exact q⟩
 |_=>exact(show False from e).elim
theorem Fd (ha:PE X a ta) (he:∀ whole,isTrue a X.env whole = (do let v <- whole; standAt a.pos; holding [v] (truthy v))) :
  PT X a (fun σ H Q=>ta σ H fun x H'=>∃k,BA X.K x H' k/\Q k H'):=by
 intro pins s σ H Q I h
 exact isTrue_plain (iP (ha pins s σ H _ I h) fun v s1 ⟨x,H1,I1,r1,q1⟩=>BZ pins s1 σ H1 x v Q I1 r1 q1) (he _)
theorem mK{x:V}{us:List Value}(r:Vals [x] us):∃u,us=[u]/\RelV x u:=by
 cases r with
 |cons r1 r2=>cases r2;exact⟨_,rfl,r1⟩
theorem vals2{x y:V}{us:List Value}(r:Vals [x,y] us):∃u w',us=[u,w']/\RelV x u/\RelV y w':=by
 cases r with
 |cons r1 r2=>
  cases r2 with
  |cons r3 r4=>cases r4;exact⟨_,_,rfl,r1,r3⟩
theorem Fx(hc:X.calm=true):jbw X (.builtin "max") (fun xs H Q=>∃i j,xs=[.int i,.int j]/\Q (.int (if j>i then j else i)) H):=by
 intro pins s σ H xs us Q I r h
 obtain⟨i,j,rfl,q⟩:=h
 obtain⟨u,w',rfl,⟨t,rfl⟩,⟨t',rfl⟩⟩:=vals2 r
 refine max_two_ints (I.ok.hd hc) fun h' tk k=>⟨_,H,I.kept k,?_,q⟩
 by_cases hj:j>i
 ·rw[aA hj,aA hj];exact⟨_,rfl⟩
 ·rw[ay hj,ay hj];exact⟨_,rfl⟩
theorem Fy(hc:X.calm=true):jbw X (.builtin "min") (fun xs H Q=>∃i j,xs=[.int i,.int j]/\Q (.int (if j<i then j else i)) H):=by
 intro pins s σ H xs us Q I r h
 obtain⟨i,j,rfl,q⟩:=h
 obtain⟨u,w',rfl,⟨t,rfl⟩,⟨t',rfl⟩⟩:=vals2 r
 refine min_two_ints (I.ok.hd hc) fun h' tk k=>⟨_,H,I.kept k,?_,q⟩
 by_cases hj:j<i
 ·rw[aA hj,aA hj];exact⟨_,rfl⟩
 ·rw[ay hj,ay hj];exact⟨_,rfl⟩
theorem Fw:jbw X (.type "int") (fun xs H Q=>(∃i,xs=[.int i]/\Q (.int i) H)\/∃k,xs=[.bl k]/\Q (.int (if k then 1 else 0)) H):=by
 intro pins s σ H xs us Q I r h
 rcases h with⟨i,rfl,q⟩|⟨k,rfl,q⟩
 ·obtain⟨u,rfl,t,rfl⟩:=mK r
  exact call_int_int ⟨.int i,H,I,⟨_,rfl⟩,q⟩
 ·obtain⟨u,rfl,r1⟩:=mK r
  cases r1
  exact call_int_bool ⟨.int (if k then 1 else 0),H,I.tok _,⟨_,rfl⟩,q⟩
end
structure ObjM(h:Heap)(x dx C:Addr)(mA:Str->Option Value):Prop where
 obj:h.get? x=some (PySem.W.instObj C dx)
 ns:h.Ns1 dx mA
 ne:dx≠x
theorem FR{h:Heap}{dx:Addr}{mA:Str->Option Value}(n:h.Ns1 dx mA):∃od,h.get? dx=some od/\∀name,PySem.W.lookIn name od=some (mA name):=by
 obtain⟨o,es,ep,ho,hd,hk,_,hm⟩:=n
 refine⟨o,ho,fun name=>?_⟩
 have e:=hm name
 unfold nsFind findBy at e
 rw [<- Array.find?_toList] at e
 unfold PySem.W.lookIn
 rw[hd]
 dsimp only
 split
 ·rename_i y q
  rw[q]at e
  exact cx some e
 ·rename_i q
  rw[q]at e
  have a:es.toList.any (·.refKey)=false:=by
   rw[List.any_eq_false]
   intro y hy
   obtain⟨z,t,hkey⟩:=hk y (Array.mem_toList_iff.mp hy)
   simp[DictEntry.refKey,hkey]
  have a':¬es.toList.any (·.refKey)=true:=by rw[a];exact aU
  rw[ay a']
  exact cx some e
theorem ObjM.look{h:Heap}{x dx C:Addr}{mA:Str->Option Value}(I:ObjM h x dx C mA):∃od,PySem.W.InstAt h x (PySem.W.instObj C dx) C (some od)/\∀name,PySem.W.lookIn name od=some (mA name):=
 let⟨od,ho,hl⟩:=FR I.ns
 ⟨od,⟨I.obj,rfl,rfl,ho⟩,hl⟩
section
variable{prog:Program}{w:World}{A:Around}{E:Value->Shared->Prop}{s:Shared}{K:PySem.W.Frag}{x dx C f:Addr}{mA:Str->Option Value}{name:Str}{v:Value}
theorem DO{expr:Bool}{Q:Value->Shared->Prop}(X:K.In s.heap)(I:ObjM s.heap x dx C mA)(hg:PySem.W.plainGet K C name=true)(hh:PySem.W.hasDictIn K C=true)
  (ha:PySem.W.findIn K (.ref C) name=some none) (hv:mA name=some v) (hv':PySem.W.handedIn v=true) (h:Q v {s with toks:=s.toks+1}):
  wpAny (model prog w) A (getAttr (.ref x) name expr) Q E s:=by
 obtain⟨od,J,hl⟩:=I.look
 exact PySem.W.get_value X J (gz hg).1 (PySem.W.findObj_own hh ha rfl (by rw[hl,hv])) hv' h
theorem ED{pl:Sem Bool}{Q:Value×List Value->Shared->Prop}(X:K.In s.heap)(I:ObjM s.heap x dx C mA)(hg:PySem.W.plainGet K C name=true)
  (hf:PySem.W.findIn K (.ref C) name=some (some (.ref f))) (ht:PySem.W.isFn K (.ref f)=true) (hv:mA name=none) (h:Q (.ref f,[.ref x]) s):
  wpAny (model prog w) A (getMethod (.ref x) name pl) Q E s:=by
 obtain⟨od,J,hl⟩:=I.look
 exact PySem.W.method_fn X J (gz hg).1 (gz hg).2 hf (gG.mp ht) (by show(PySem.W.lookIn name od).map (·.isSome)=some false;rw[hl,hv];rfl) h
theorem Eg{ns:List Str}{Q:Unit->Shared->Prop}(X:K.In s.heap)(I:ObjM s.heap x dx C mA)
  (hs:PySem.W.findIn K (.ref C) "__setattr__"=some (some (.builtin "object.__setattr__"))) (hp:PySem.W.plainOver K C=true) (ht:PySem.W.takerIn K C name=some none) (hh:PySem.W.hasDictIn K C=true)
  (hw:PySem.Within mA ns) (hsz:ns.length<=sizeLine)
  (h:∀h',ObjM h' x dx C (fun y=>if y=name then some v else mA y)->Heap.SameBut dx s.heap h'->Q () {s with heap:=h',toks:=s.toks+2}):
  wpAny (model prog w) A (setAttr (.ref x) name v) Q E s:=by
 obtain⟨od,J,hl⟩:=I.look
 refine PySem.W.set_plain X J hs (PySem.W.osa_open (s:={s with toks:=s.toks+1}) (r:=none) X J hp ht fun b=>?_)
 obtain⟨cd,hc,hd'⟩:=PySem.W.any_some hh
 have hx:s.heap.get? x=some ⟨.ref C,some dx,.plain,#[]⟩:=I.obj
 refine af (aB (af (af (wpAny_loadPart hx (af (PySem.W.Looks.here (s:={s with toks:=s.toks+1}) (PySem.W.looks_clsIn X hc) ?_))))))
 rw[hd']
 refine aB (a:=some dx) (af (aB (af ?_)))
 refine wpAny_nsSet1 (s:={s with toks:=s.toks+1}) I.ns fun h' hn2 hs2=>?_
 obtain⟨oD,esD,epD,hoD,hdD,hcD⟩:=hn2.count (PySem.Within.cons name v hw)
 refine af (wpAny_lookBehind hoD (by rw[hdD];exact pastItsLine_dict (bE hcD (by rw[List.length_cons];lia))) ?_)
 exact aB (h _ ⟨(hs2.2 _ (di I.ne)).trans I.obj,hn2,I.ne⟩ hs2)
theorem EO{R:Result->Shared->Prop}{vs:List Value}{kw:List (Str×Value)}(X:K.In s.heap)(hm:PySem.W.makesIn K C=true)
  (hi:PySem.W.findIn K (.ref C) "__init__"=some (some (.ref f))) (hf:PySem.W.typeIn K (.ref f)=some (.type "function"))
  (h:codeAny (model prog w) (A.under (.builtin "type.__call__" ⟨.ref C::vs,kw⟩)) (.call (.ref f) ⟨.ref (s.heap.objs.size+1)::vs,kw⟩) (PySem.W.InitBack (s.heap.objs.size+1) R)
   {s with heap:=(s.heap.push PySem.W.emptyDict).push (PySem.W.instObj C s.heap.objs.size)}):
  codeAny (model prog w) A (.call (.ref C) ⟨vs,kw⟩) R s:=by
 obtain⟨hh,g,d,t,os⟩:=s
 exact PySem.W.make_core (PySem.W.makes_of X hm) (PySem.W.looks_findIn X hi) (fun self=>PySem.W.bind_fn X self hf) (.inl rfl) h
end
noncomputable def jk(f:Str)(v:V):List (Str×V)->List (Str×V)
 |[]=>[(f,v)]
 |(g,x)::r=>if g=f then(g,v)::r else(g,x)::jk f v r
theorem A0(f g:Str)(v:V):∀fs:List (Str×V),(jk f v fs).lookup g=if g=f then some v else fs.lookup g
 | []=>by
  show List.lookup g [(f,v)]=_
  by_cases h:g=f
  ·have hb:(g==f)=true:=gG.mpr h
   simp only[List.lookup,hb,aA h]
  ·have hb:(g==f)=false:=bX.mpr h
   simp only[List.lookup,hb,ay h]
 | (k,x)::r=>by
  have ih:=A0 f g v r
  rw[show jk f v ((k,x)::r)=(if k=f then(k,v)::r else(k,x)::jk f v r)from rfl]
  by_cases hk:k=f
  ·rw[aA hk]
   by_cases h:g=k
   ·have hb:(g==k)=true:=gG.mpr h
    simp only[List.lookup,hb,aA (h.trans hk)]
   ·have hb:(g==k)=false:=bX.mpr h
    simp only[List.lookup,hb,ay (fun e:g=f=>h (e.trans hk.symm))]
  ·rw[ay hk]
   by_cases h:g=k
   ·have hb:(g==k)=true:=gG.mpr h
    simp only[List.lookup,hb,ay (fun e:g=f=>hk (h.symm.trans e))]
   ·have hb:(g==k)=false:=bX.mpr h
    simp only[List.lookup,hb]
    exact ih
theorem vA(f:Str)(v:V):∀fs:List (Str×V),f∈(jk f v fs).map (·.1)/\∀g,g∈fs.map (·.1)->g∈(jk f v fs).map (·.1)
 |[]=>⟨by simp[jk],fun g h=>by simp at h⟩
 | (k,x)::r=>by
  obtain⟨i1,i2⟩:=vA f v r
  rw[show jk f v ((k,x)::r)=(if k=f then(k,v)::r else(k,x)::jk f v r)from rfl]
  by_cases hk:k=f
  ·rw[aA hk]
   subst hk
   exact⟨by simp,fun g h=>by simpa using h⟩
  ·rw[ay hk]
   refine⟨?_,fun g h=>?_⟩
   ·rw[ah]
    exact az _ i1
   ·rw[ah]at h ⊢
    rcases aM.mp h with e|e
    ·exact aM.mpr (.inl e)
    ·exact az _ (i2 g e)
theorem AZ(f:Str)(v:V):∀fs:List (Str×V),(jk f v fs).length<=fs.length+1
 |[]=>by simp[jk]
 |(k,x)::r=>by
  have ih:=AZ f v r
  rw[show jk f v ((k,x)::r)=(if k=f then(k,v)::r else(k,x)::jk f v r)from rfl]
  by_cases hk:k=f
  ·rw[aA hk,List.length_cons,List.length_cons];lia
  ·rw[ay hk,List.length_cons,List.length_cons];lia
theorem RelO.some_of{v:V}{o:Option Value}(r:RelO (some v) o):∃u,o=some u/\RelV v u:=by
 cases o with
 |none=>exact(show False from r).elim
 |some u=>exact⟨u,rfl,r⟩
theorem RelO.none_of{o:Option Value}(r:RelO none o):o=none:=by
 cases o with
 |none=>rfl
 |some u=>exact(show False from r).elim
theorem FK{v:V}{u:Value}(r:RelV v u):PySem.W.handedIn u=true:=by
 cases v with
 |non=>cases(show u=Value.none from r);rfl
 |bl b=>cases(show u=Value.bool b from r);rfl
 |int i=>obtain⟨t,e⟩:=(show ∃t,u=Value.int i t from r);cases e;rfl
 |str x=>obtain⟨t,e⟩:=(show ∃t,u=Value.str x t from r);cases e;rfl
 |byt b=>obtain⟨t,e⟩:=(show ∃t,u=Value.bytes b t from r);cases e;rfl
 |flt b=>obtain⟨t,e⟩:=(show ∃t,u=Value.float b t from r);cases e;rfl
 |ref a=>cases(show u=Value.ref a from r);rfl
 |ty n=>cases(show u=Value.type n from r);rfl
section
variable{P:Program}{w:World}{H H':Hp}{h h':Heap}{a C dx:Addr}{fs fs':List (Str×V)}
theorem rH(hok:HOk P w H h)(e:H a=some (.ins C dx fs)):∃mA,ObjM h a dx C mA/\(∀f,RelO (fs.lookup f) (mA f))/\PySem.Within mA (fs.map (·.1))/\fs.length<=1000/\H dx=some (.own a):=by
 obtain⟨d,z,ne,ob,mA,n,r,q⟩:=(show jbk P w H h a (.ins C dx fs)from hok a _ e)
 exact⟨mA,⟨ob,n,ne⟩,r,q,z,d⟩
end
structure Cls(K:PySem.W.Frag)(C:Addr):Prop where
 pg:PySem.W.plainGet K C Str.empty=true
 hd:PySem.W.hasDictIn K C=true
 po:PySem.W.plainOver K C=true
 sa:PySem.W.findIn K (.ref C) "__setattr__"=some (some (.builtin "object.__setattr__"))
theorem Cls.get{K:PySem.W.Frag}{C:Addr}(c:Cls K C)(f:Str):PySem.W.plainGet K C f=true:=c.pg
def jea(K:PySem.W.Frag)(C:Addr)(f:Str):Prop:=PySem.W.findIn K (.ref C) f=some none
theorem jea.taker{K:PySem.W.Frag}{C:Addr}{f:Str}(n:jea K C f):PySem.W.takerIn K C f=some none:=by
 unfold PySem.W.takerIn
 rw[show PySem.W.findIn K (.ref C) f=some none from n]
 rfl
structure Meth(K:PySem.W.Frag)(C:Addr)(m:Str)(f:Addr):Prop where
 at_:PySem.W.findIn K (.ref C) m=some (some (.ref f))
 fn:PySem.W.isFn K (.ref f)=true
 kp:PySem.W.keepIn K (.ref f)=true
section
variable{X:Cx}{pins:List (Addr×Obj)}{σ:St}{H:Hp}{s:Shared}{a C dx:Addr}{fs:List (Str×V)}{f:Str}{v:V}{A:Around}{E:Value->Shared->Prop}
theorem Gs{b:Bool}{Q:Value->Shared->Prop}(I:Inv X pins σ H s)(e:H a=some (.ins C dx fs))(c:Cls X.K C)(n:jea X.K C f)(l:fs.lookup f=some v)
  (h:∀u s',Inv X pins σ H s'->RelV v u->Q u s'):wpAny (model X.prog X.w) A (getAttr (.ref a) f b) Q E s:=by
 obtain⟨mA,O,r,_,_,_⟩:=rH I.hok e
 obtain ⟨u,hu,ru⟩:=RelO.some_of (v:=v) (o:=mA f) (by rw [<- l]; exact r f)
 exact DO I.kIn O (c.get f) c.hd n hu (FK ru) (h u _ (I.tok _) ru)
theorem AL{m:Str}{g:Addr}{pl:Sem Bool}{Q:Value×List Value->Shared->Prop}(I:Inv X pins σ H s)(e:H a=some (.ins C dx fs))(c:Cls X.K C)(k:Meth X.K C m g)(l:fs.lookup m=none)
  (h:Q (.ref g,[.ref a]) s):wpAny (model X.prog X.w) A (getMethod (.ref a) m pl) Q E s:=by
 obtain⟨mA,O,r,_,_,_⟩:=rH I.hok e
 have hn:mA m = none:=RelO.none_of (by rw [<- l]; exact r m)
 exact ED I.kIn O (c.get m) k.at_ k.fn hn h
theorem GI{y:V}{u:Value}{Q:Unit->Shared->Prop}(I:Inv X pins σ H s)(e:H a=some (.ins C dx fs))(c:Cls X.K C)(n:jea X.K C f)(hl:fs.length<1000)(ry:RelV y u)
  (h:∀s',Inv X pins σ (upd H a (.ins C dx (jk f y fs))) s'->Q () s'):wpAny (model X.prog X.w) A (setAttr (.ref a) f u) Q E s:=by
 obtain⟨mA,O,r,wi,_,ho⟩:=rH I.hok e
 have hz:(fs.map (·.1)).length<=sizeLine:=by rw[ae,fu];lia
 refine Eg I.kIn O c.sa c.po n.taker c.hd wi hz fun h' O' sb=>h _ ?_
 have hd:∃o,h'.get? dx=some o:=let⟨o,_,_,e',_⟩:=O'.ns;⟨o,e'⟩
 refine I.write (x:=a) (e:=dx) (by rw[e];exact True.intro) (.inr ho) (fun b q hb z=>(sb.2 b hb).trans z) hd ?_
 refine⟨by rw[iQ O.ne];exact ho,?_,O.ne,O'.obj,_,O'.ns,fun g=>?_,fun g hg=>?_⟩
 ·have:=AZ f y fs;lia
 ·show RelO ((jk f y fs).lookup g) (if g=f then some u else mA g)
  rw[A0]
  by_cases q:g=f
  ·rw[aA q,aA q];exact ry
  ·rw[ay q,ay q];exact r g
 ·by_cases q:g=f
  ·rw[q];exact(vA f y fs).1
  ·refine(vA f y fs).2 g (wi g fun z=>hg ?_)
   show(if g=f then some u else mA g)=none
   rw[ay q];exact z
theorem Inv.made(I:Inv X pins σ H s):Inv X pins σ (upd (upd H s.heap.objs.size (.own (s.heap.objs.size+1))) (s.heap.objs.size+1) (.ins C s.heap.objs.size []))
  {s with heap:=(s.heap.push PySem.W.emptyDict).push (PySem.W.instObj C s.heap.objs.size)}:=by
 have e1:(s.heap.push PySem.W.emptyDict).get? s.heap.objs.size=some PySem.W.emptyDict:=aR s.heap rfl
 have e2:((s.heap.push PySem.W.emptyDict).push (PySem.W.instObj C s.heap.objs.size)).get? (s.heap.objs.size+1)=some (PySem.W.instObj C s.heap.objs.size):=by
  have:=aR (s.heap.push PySem.W.emptyDict) (o:=PySem.W.instObj C s.heap.objs.size) rfl
  rwa[ee]at this
 have e3:(s.heap.push PySem.W.emptyDict).Ns s.heap.objs.size (fun _=>none):=⟨PySem.W.emptyDict,#[],_,e1,rfl,(fun e he=>absurd he (by simp)),fun _=>rfl⟩
 have I1:=I.laid (a:=s.heap.objs.size) (o:=.own (s.heap.objs.size+1)) (h':=s.heap.push PySem.W.emptyDict) (t':=s.toks) (fun b u q=>ag _ q) (ao _) ⟨_,e1⟩
 refine I1.laid (a:=s.heap.objs.size+1) (o:=.ins C s.heap.objs.size []) (t':=s.toks) (fun b u q=>ag _ q) (Nat.le_of_eq (ee _ _)) ?_
 have ne:s.heap.objs.size≠s.heap.objs.size+1:=aX (hG _)
 refine⟨by rw[iQ ne,iK],bp _,ne,e2,fun _=>none,(Heap.Ns1.of_empty e3).at fun o q=>ag _ q,fun _=>True.intro,fun y hy=>absurd rfl hy⟩
theorem DE{prog:Program}{w:World}{env:Env}{e:Expr}{f:Str}{pos:Pos}{s:Shared}{Q:Value->Shared->Prop}(hb:attributeBase e f env (eval e env)=eval e env)
  (h:wpAny (model prog w) A (eval e env) (fun o s₁=>wpAny (model prog w) A (getAttr o f true) Q E s₁) E s):wpAny (model prog w) A (eval (.Attribute e f pos) env) Q E s:=
 Attribute_any_ h (by rw[arm_eval_Attribute,hb])
end
section
variable{X:Cx}{o e value:Expr}{f:Str}{pos pos' tpos:Pos}{ta tv:TE}
end
section
variable{X:Cx}{pins:List (Addr×Obj)}{σ:St}{H:Hp}{s:Shared}{A:Around}{E:Value->Shared->Prop}{Q:Value->Shared->Prop}{c:Value}{b:Bool}
inductive TyOf(K:PySem.W.Frag)(H:Hp):V->Value->Prop where
 |non:TyOf K H .non (.type "NoneType")
 |bl (x:Bool):TyOf K H (.bl x) (.type "bool")
 |int (i:Int):TyOf K H (.int i) (.type "int")
 |str (x:Str):TyOf K H (.str x) (.type "str")
 |flt (x:UInt64):TyOf K H (.flt x) (.type "float")
 |lst {a:Addr} {xs:List V} (e:H a=some (.lst xs)):TyOf K H (.ref a) (.type "list")
 |frz {a:Addr} {o:Obj} {xs:List V} (e:H a=some (.frz o (.lst xs))):TyOf K H (.ref a) (.type "list")
 |tup {a:Addr} {xs:List V} (e:H a=some (.tup xs)):TyOf K H (.ref a) (.type "tuple")
 |dK {a:Addr} {kvs:List (iJ×V)} (e:H a=some (.dK kvs)):TyOf K H (.ref a) (.type "dict")
 |dT {a:Addr} {kvs:List (List iJ×V)} (e:H a=some (.dT kvs)):TyOf K H (.ref a) (.type "dict")
 | ins {a C dx:Addr} {fs:List (Str×V)} (e:H a=some (.ins C dx fs)) (cl:Cls K C) (ha:PySem.W.findIn K (.ref C) "__class__"=some (some (.builtin "object.__class__")))
   (hn:PySem.W.specialIn K (.builtin "object.__class__") "__get__"=some (some (.builtin "getset_descriptor.__get__"))) (htk:PySem.W.takesIn K (.builtin "object.__class__")=some true)
   (hm:PySem.W.mroIn K C (.type "object")=some true):TyOf K H (.ref a) (.ref C)
theorem FN{x:V}{u t:Value}(I:Inv X pins σ H s)(rx:RelV x u)(ty:TyOf X.K H x t)(e:PySem.W.kitOne X.K t c=some b)(h:∀tk,Q (.bool b) {s with toks:=tk}):
  wpAny (model X.prog X.w) A (call (.builtin "isinstance") [u,c]) Q E s:=by
 cases ty with
 |non=>cases(show u=Value.none from rx);exact cy PySem.W.kitx_none I.kIn True.intro e (fun z=>nomatch z) h
 |bl y=>cases(show u=Value.bool y from rx);exact cy PySem.W.kitx_bool I.kIn True.intro e (fun z=>nomatch z) h
 |int i=>obtain⟨t,q⟩:=(show ∃t,u=Value.int i t from rx);cases q;exact cy PySem.W.kitx_int I.kIn True.intro e (fun z=>nomatch z) h
 |str y=>obtain⟨t,q⟩:=(show ∃t,u=Value.str y t from rx);cases q;exact cy PySem.W.kitx_str I.kIn True.intro e (fun z=>nomatch z) h
 |flt y=>obtain⟨t,q⟩:=(show ∃t,u=Value.float y t from rx);cases q;exact cy PySem.W.kitx_float I.kIn True.intro e (fun z=>nomatch z) h
 | @lst a xs ea=>
  cases(show u=Value.ref a from rx)
  obtain⟨_,_,n,_,h1⟩:=(show jbk X.prog X.w H s.heap a (.lst xs)from I.hok a _ ea)
  exact cy PySem.W.kitx_list I.kIn ⟨_,h1,rfl⟩ e (fun z=>nomatch z) h
 | @frz a ob xs ea=>
  cases(show u=Value.ref a from rx)
  obtain⟨_,_,_,n,_,h1⟩:=(show jbk X.prog X.w H s.heap a (.frz ob (.lst xs))from I.hok a _ ea)
  exact cy PySem.W.kitx_list I.kIn ⟨_,h1,rfl⟩ e (fun z=>nomatch z) h
 | @tup a xs ea=>
  cases(show u=Value.ref a from rx)
  obtain⟨_,_,_,p⟩:=(show jbk X.prog X.w H s.heap a (.tup xs)from I.hok a _ ea)
  obtain⟨o,h1,h2,_⟩:=p
  exact cy PySem.W.kitx_tuple I.kIn ⟨o,h1,h2⟩ e (fun z=>nomatch z) h
 | @dK a kvs ea=>
  cases(show u=Value.ref a from rx)
  obtain⟨_,_,vs,_,p⟩:=(show jbk X.prog X.w H s.heap a (.dK kvs)from I.hok a _ ea)
  obtain⟨o,es,ep,h1,h2,_⟩:=p
  exact cy PySem.W.kitx_dict I.kIn ⟨o,h1,h2.1⟩ e (fun z=>nomatch z) h
 | @dT a kvs ea=>
  cases(show u=Value.ref a from rx)
  obtain⟨_,_,xs,_,o,es,ep,h1,h2,_⟩:=(show jbk X.prog X.w H s.heap a (.dT kvs)from I.hok a _ ea)
  exact cy PySem.W.kitx_dict I.kIn ⟨o,h1,h2.1⟩ e (fun z=>nomatch z) h
 | @ins a C dx fs ea cl ha hn htk hm=>
  cases(show u=Value.ref a from rx)
  obtain⟨mA,O,_⟩:=rH I.hok ea
  obtain⟨od,J,_⟩:=O.look
  exact cy (PySem.W.kitx_own (cl.get _) cl.hd ha hn htk hm) I.kIn J e (fun z=>nomatch z) h
end
structure Room(k:Nat)(A:Around):Prop where
 hd:A.handled=none
 dp:A.depth+3*k+5<recursionLimit
 un:A.units+16*k+200<cLine
 gd:A.guards=some []
theorem Room.mono{j k:Nat}{A:Around}(r:Room k A)(h:j<=k):Room j A:=⟨r.hd,by have:=r.dp;lia,by have:=r.un;lia,by first|exact r.gd|(simp only[Around.deeper,Around.in1,Around.under];exact r.gd)⟩
theorem Room.deeper{k:Nat}{A:Around}(r:Room (k+1) A)(env:Env):Room k (A.deeper env):=
 ⟨r.hd,by have:=r.dp;show A.depth+1+3*k+5<_;lia,by have:=r.un;show A.units+3+16*k+200<_;lia,by first|exact r.gd|(simp only[Around.deeper,Around.in1,Around.under];exact r.gd)⟩
theorem Gv{A:Around}{C:Addr}{us:List Value}{kw:List (Str×Value)}:(A.under (.builtin "type.__call__" ⟨.ref C::us,kw⟩)).depth=A.depth+1:=by
 first|rfl|simp[Around.under,Code.weight,Code.isCreation,Code.isGuard,Code.isCaller,Code.frames,Code.isFrame,guardIds]
theorem Gw{A:Around}{C:Addr}{us:List Value}{kw:List (Str×Value)}:(A.under (.builtin "type.__call__" ⟨.ref C::us,kw⟩)).units=A.units+1:=by
 first|rfl|simp[Around.under,Code.cUnits,Code.frames,Code.isFrame]
theorem Room.make{k:Nat}{A:Around}(r:Room (k+1) A)(C:Addr)(us:List Value)(kw:List (Str×Value)):Room k (A.under (.builtin "type.__call__" ⟨.ref C::us,kw⟩)):=
 ⟨r.hd,by have:=r.dp;rw[Gv];lia,by have:=r.un;rw[Gw];lia,by first|exact r.gd|(simp only[Around.deeper,Around.in1,Around.under];exact r.gd)⟩
theorem Room.depth{k:Nat}{A:Around}(r:Room k A):A.depth<recursionLimit:=by have:=r.dp;lia
theorem Room.units{k:Nat}{A:Around}(r:Room k A):A.units+64<cLine:=by have:=r.un;lia
def pI:TA:=fun _ H Q=>Q [] H
def uf(ta:TE)(tr:TA):TA:=fun σ H Q=>ta σ H fun x H1=>tr σ H1 fun xs H2=>Q (x::xs) H2
section
variable{X:Cx}{e:Expr}{es:List Expr}{te:TE}{t:TA}{pos:Pos}
theorem iI:PA X [] pI:=fun _ _ _ _ H Q I h=>gX ⟨[],H,I,.nil,h⟩
theorem iH(ha:PE X e te)(hr:PA X es t)(hs:starEach (e::es) X.env=(false,eval e X.env)::starEach es X.env:=by rfl):PA X (e::es) (uf te t):=by
 intro pos pins s σ H Q I h
 rw[hs]
 show wpAny _ _ (spliced ((false,eval e X.env)::backTo pos (starEach es X.env))) _ _ s
 refine fo (iP (ha pins s σ H _ I h) fun u s1 ⟨x,H1,I1,r1,q1⟩=>?_)
 exact iP (hr pos pins s1 σ H1 _ I1 q1) fun us s2 ⟨xs,H2,I2,r2,q2⟩=>⟨x::xs,H2,I2,.cons r1 r2,q2⟩
def wL(t:TA):TE:=fun σ H Q=>t σ H fun xs H1=>xs.length<=sizeLine/\∀p,H1 p=none->Q (.ref p) (upd H1 p (.tup xs))
def wW(t:TA):TE:=fun σ H Q=>t σ H fun xs H1=>xs.length<=sizeLine/\∀p,H1 p=none->Q (.ref p) (upd H1 p (.lst xs))
theorem kg{x1}(h:PA X es t):PE X (.Tuple es x1 pos) (wL t):=by
 intro pins s σ H Q I hq
 refine wpAny_Tuple_spliced (iP (h pos pins s σ H _ I hq) fun us s1 ⟨xs,H1,I1,r,z,q⟩=>⟨by rw [<- r.length]; exact z,?_⟩)
 have hf:H1 s1.heap.objs.size=none:=I1.hok.fresh (ao _)
 refine⟨.ref s1.heap.objs.size,upd H1 s1.heap.objs.size (.tup xs),I1.laid (t':=s1.toks) (fun b u e=>ag _ e) (ao _) ?_,rfl,q _ hf⟩
 exact⟨z,us,r,⟨_,aR _ rfl,rfl,_,rfl⟩⟩
theorem kx(h:PA X es t):PE X (.List es pos) (wW t):=by
 intro pins s σ H Q I hq
 refine wpAny_List_spliced (iP (h pos pins s σ H _ I hq) fun us s1 ⟨xs,H1,I1,r,z,q⟩=>⟨by rw [<- r.length]; exact z,?_⟩)
 have hf:H1 s1.heap.objs.size=none:=I1.hok.fresh (ao _)
 refine⟨.ref s1.heap.objs.size,upd H1 s1.heap.objs.size (.lst xs),I1.laid (t':=s1.toks) (fun b u e=>ag _ e) (ao _) ?_,rfl,q _ hf⟩
 exact⟨z,us,0,r,aR _ rfl⟩
end
abbrev Sp:=List V->Hp->VK->XK->Prop
abbrev lu:=List Env->Hp->Shared->XK->Value->Shared->Prop
structure Env0(P:Program)(w:World)(K:PySem.W.Frag)(mg:Str->Option Value)(base:Heap)(A:Around)(outer:List Env)(s:Shared)(H:Hp):Prop where
 frames:A.frames=some outer
 mod:Mod K mg base
 bs:∀b o,base.get? b=some o->s.heap.get? b=some o/\H b=none
 bsz:base.objs.size<=s.heap.objs.size
 funs:s.heap.FunFrames base outer
 frf:∀b∈k9 outer,H b=none
 hok:HOk P w H s.heap
 bare:AllBare s.gens
def CE(outer:List Env)(P:Program)(w:World)(H:Hp)(s:Shared)(Q:VK)(u:Value)(s':Shared):Prop:=
 ∃v H',s'.os=s.os/\AllBare s'.gens/\Un (k9 outer) [] H H' s.heap s'.heap/\HOk P w H' s'.heap/\RelV v u/\Q v H'
def CR(CX:lu)(outer:List Env)(P:Program)(w:World)(H:Hp)(s:Shared)(Q:VK)(E:XK)(r:Result)(s':Shared):Prop:=
 match r with
 | .ok (.ret u)=>CE outer P w H s Q u s'
 | .ok _=>False
 | .error e=>CX outer H s E e s'
structure FnOk(P:Program)(w:World)(K:PySem.W.Frag)(mg:Str->Option Value)(base:Heap)(CX:lu)(k:Nat)(f:Addr)(fd:FuncData)(ps:List Str)(sp:Sp):Prop where
 len:∀vs H Q E,sp vs H Q E->vs.length=ps.length
 run:∀(A:Around) (outer:List Env) (s:Shared) (H:Hp) (args:Args) (us:List Value) (vs:List V) (Q:VK) (E:XK),Room k A->Env0 P w K mg base A outer s H->BindsTo s fd args (ps.zip us)->Vals vs us->sp vs H Q E->
  codeAny (model P w) A (.call (.ref f) args) (CR CX outer P w H s Q E) s
theorem FnOk.mono{P:Program}{w:World}{K:PySem.W.Frag}{mg:Str->Option Value}{base:Heap}{CX:lu}{j k:Nat}{f:Addr}{fd:FuncData}{ps:List Str}{sp:Sp}(F:FnOk P w K mg base CX j f fd ps sp)(h:j<=k):
  FnOk P w K mg base CX k f fd ps sp:=⟨F.len,fun A outer s H args us vs Q E hr=>F.run A outer s H args us vs Q E (hr.mono h)⟩
theorem Env0.make{P:Program}{w:World}{K:PySem.W.Frag}{mg:Str->Option Value}{base:Heap}{A:Around}{outer:List Env}{s:Shared}{H:Hp}(e:Env0 P w K mg base A outer s H)(C:Addr)(us:List Value)(kw:List (Str×Value)):
  Env0 P w K mg base (A.under (.builtin "type.__call__" ⟨.ref C::us,kw⟩)) outer s H:=⟨by first|exact e.frames|(simpa[Around.under,Code.envs,Code.isFrame,pushEnvs]using e.frames),e.mod,e.bs,e.bsz,e.funs,e.frf,e.hok,e.bare⟩
section
variable{X:Cx}{pins:List (Addr×Obj)}{σ:St}{H:Hp}{s s':Shared}
theorem Inv.env0(I:Inv X pins σ H s):Env0 X.prog X.w X.K X.mg X.base X.A X.stack s H:=
 ⟨I.ok.frames,I.ok.mod,I.bs,bE I.ok.bsz I.sz,I.stack,I.stkFree,I.hok,I.bare⟩
theorem Inv.after{Q:VK}{u:Value}(I:Inv X pins σ H s)(h:CE X.stack X.prog X.w H s Q u s'):EP X pins σ Q u s':=by
 obtain⟨v,H',os,bare,un,hok,r,q⟩:=h
 obtain⟨hh,g,d,t,os'⟩:=s'
 obtain rfl:os'=s.os:=os
 exact⟨v,H',I.call (h':=hh) (g':=g) (d':=d) (t':=t) (ch:=[]) un hok bare (fun b z=>absurd z (by simp)),r,q⟩
end
def xb(sp:Sp)(dvs:List V)(E:XK)(t:TA):TE:=fun σ H Q=>t σ H fun vs H1=>sp (vs++dvs) H1 Q E
def ug(C:Addr)(m:Str)(sp:Sp)(dvs:List V)(E:XK)(ta:TE)(t:TA):TE:=fun σ H Q=>ta σ H fun x H1=>∃a dx fs,x= .ref a/\H1 a=some (.ins C dx fs)/\fs.lookup m=none/\
 t σ H1 fun vs H2=>sp (x::(vs++dvs)) H2 Q E
def wV(C:Addr)(sp:Sp)(dvs:List V)(E:XK)(t:TA):TE:=fun σ H Q=>t σ H fun vs H1=>∀x dx,H1 x=none->H1 dx=none->dx≠x->
 sp (.ref x::(vs++dvs)) (upd (upd H1 dx (.own x)) x (.ins C dx [])) (fun v H2=>v= .non/\Q (.ref x) H2) E
def jf0(K:PySem.W.Frag)(fd:FuncData)(ps:List Str)(ds:List Value):Prop:=
 ∀(s:Shared) (us:List Value),K.In s.heap->(us++ds).length=ps.length->BindsTo s fd ⟨us,[]⟩ (ps.zip (us++ds))
theorem jf0.all{K:PySem.W.Frag}{fd:FuncData}{ps:List Str}(h:∀us:List Value,us.length=ps.length->bindArgs fd ⟨us,[]⟩=pure (ps.zip us)):jf0 K fd ps []:=fun s us _ hl=>by
 rw[aY]at hl ⊢
 exact .of_eq (h us hl)
def mZ(CX:lu)(X:Cx)(E:XK):Prop:=∀(pins:List (Addr×Obj)) (σ:St) (H:Hp) (s:Shared) (e:Value) (s':Shared),Inv X pins σ H s->CX X.stack H s E e s'->X.xe e s'
section
variable{X:Cx}{CX:lu}{k:Nat}{f C:Addr}{fd:FuncData}{ps:List Str}{sp:Sp}{dvs:List V}{ds:List Value}{E:XK}{x m:Str}{p pos apos:Pos}{e o:Expr}{es:List Expr}{ta:TE}{t:TA}
theorem uA{pins:List (Addr×Obj)}{σ:St}{H:Hp}{s:Shared}{Q:VK}{us:List Value}{vs:List V}(F:FnOk X.prog X.w X.K X.mg X.base CX k f fd ps sp)(hr:Room k X.A)(hb:jf0 X.K fd ps ds)(hd:Vals dvs ds)(hx:mZ CX X E)
  (I:Inv X pins σ H s) (r:Vals vs us) (h:sp (vs++dvs) H Q E):wpAny (model X.prog X.w) X.A (call (.ref f) us) (EP X pins σ Q) X.xe s:=by
 have r2:Vals (vs++dvs) (us++ds):=r.append hd
 have hl:(us ++ ds).length = ps.length:=by rw [<- r2.length]; exact F.len _ _ _ _ h
 refine wpAny_call (gO (F.run X.A X.stack s H ⟨us,[]⟩ (us++ds) (vs++dvs) Q E hr I.env0 (hb s us I.kIn hl) r2 h) fun r s' hq=>?_)
 cases r with
 |error e=>exact hx pins σ H s e s' I hq
 |ok fl=>
  cases fl with
  |ret u=>exact I.after hq
  |next=>exact False.elim hq
  |brk=>exact False.elim hq
  |cont=>exact False.elim hq
theorem jd(F:FnOk X.prog X.w X.K X.mg X.base CX k f fd ps sp)(hr:Room k X.A)(hg:Gl X x)(hm:X.mg x=some (.ref f))(hk:PySem.W.keepIn X.K (.ref f)=true)(hb:jf0 X.K fd ps ds)(hd:Vals dvs ds)(hx:mZ CX X E)
  (ha:PA X (e::es) t) (hdb:(x==("__debug__":Str))=false:=by decide) (he:starEach (e::es) X.env=(false,eval e X.env)::starEach es X.env:=by rfl) (hpl:(backTo pos (starEach es X.env)).any (·.1)=false:=by rfl):
  PE X (.Call (.Name x p) (e::es) [] pos) (xb sp dvs E t):=by
 intro pins s σ H Q I h
 refine fk (uS I hg hm ?_ hdb)
 refine gI (h₀:=X.base) I.ok.mod.kin hk (iP (ha pos pins s σ H _ I h) fun us s1 ⟨vs,H1,I1,r,q⟩=>⟨I1.kIn,?_⟩) he hpl
 exact uA F hr hb hd hx I1 r q
theorem D9{pl:Sem Bool}(he:PE X o ta)(c:Cls X.K C)(hm:Meth X.K C m f)(F:FnOk X.prog X.w X.K X.mg X.base CX k f fd ps sp)(hr:Room k X.A)(hb:jf0 X.K fd ps ds)(hd:Vals dvs ds)(hx:mZ CX X E)(ha:PA X (e::es) t)
  (hst:starEach (e::es) X.env=(false,eval e X.env)::starEach es X.env:=by rfl) (hpl:(backTo pos (starEach es X.env)).any (·.1)=false:=by rfl)
  (ht:eval (.Call (.Attribute o m apos) (e :: es) [] pos) X.env = (do
   let ov <- eval o X.env
   standAt apos.atName
   let (f,first) <- holding [ov] (getMethod ov m pl)
   callWith pos f first (backTo pos (starEach (e::es) X.env)) (backToKw pos (keywordEach [] X.env))):=by rfl):
  PE X (.Call (.Attribute o m apos) (e::es) [] pos) (ug C m sp dvs E ta t):=by
 intro pins s σ H Q I h
 refine PySem.W.methodCall_KW (pl:=pl) (iP (he pins s σ H _ I h) fun u s1 ⟨x,H1,I1,rx,a,dx,fs,ex,ea,l,q⟩=>?_) ht
 subst ex
 obtain rfl:u=Value.ref a:=rx
 refine AL I1 ea c hm l ?_
 refine gI (first:=[.ref a]) (h₀:=X.base) I.ok.mod.kin hm.kp (iP (ha pos pins s1 σ H1 _ I1 q) fun us s2 ⟨vs,H2,I2,r,q2⟩=>⟨I2.kIn,?_⟩) hst hpl
 exact uA (us:=.ref a::us) (vs:=.ref a::vs) F hr hb hd hx I2 (.cons rfl r) q2
theorem E5{pl:Sem Bool}(he:PE X o ta)(c:Cls X.K C)(hm:Meth X.K C m f)(F:FnOk X.prog X.w X.K X.mg X.base CX k f fd ps sp)(hr:Room k X.A)(hb:jf0 X.K fd ps ds)(hd:Vals dvs ds)(hx:mZ CX X E)
  (ht:eval (.Call (.Attribute o m apos) [] [] pos) X.env = (do
   let ov <- eval o X.env
   standAt apos.atName
   let (f,first) <- holding [ov] (getMethod ov m pl)
   callWith pos f first (backTo pos (starEach [] X.env)) (backToKw pos (keywordEach [] X.env))):=by rfl):
  PE X (.Call (.Attribute o m apos) [] [] pos) (ug C m sp dvs E ta pI):=by
 intro pins s σ H Q I h
 refine PySem.W.methodCall_KW (pl:=pl) (iP (he pins s σ H _ I h) fun u s1 ⟨x,H1,I1,rx,a,dx,fs,ex,ea,l,q⟩=>?_) ht
 subst ex
 obtain rfl:u=Value.ref a:=rx
 refine AL I1 ea c hm l ?_
 exact PySem.W.callWith_K0 (first:=[.ref a]) I1.kIn hm.kp (uA (us:=[.ref a]) (vs:=[.ref a]) F hr hb hd hx I1 (.cons rfl .nil) q)
structure Mk(K:PySem.W.Frag)(C f:Addr):Prop where
 makes:PySem.W.makesIn K C=true
 init:PySem.W.findIn K (.ref C) "__init__"=some (some (.ref f))
 fn:PySem.W.isFn K (.ref f)=true
 kp:PySem.W.keepIn K (.ref C)=true
theorem Fm{pins:List (Addr×Obj)}{σ:St}{H:Hp}{s:Shared}{Q:VK}{us:List Value}{vs:List V}(M:Mk X.K C f)(F:FnOk X.prog X.w X.K X.mg X.base CX k f fd ps sp)(hr:Room (k+1) X.A)(hb:jf0 X.K fd ps ds)(hd:Vals dvs ds)
  (hx:mZ CX X E) (I:Inv X pins σ H s) (r:Vals vs us)
  (h:∀x dx,H x=none->H dx=none->dx≠x->sp (.ref x::(vs++dvs)) (upd (upd H dx (.own x)) x (.ins C dx [])) (fun v H2=>v= .non/\Q (.ref x) H2) E):
  wpAny (model X.prog X.w) X.A (call (.ref C) us) (EP X pins σ Q) X.xe s:=by
 have hq:=h (s.heap.objs.size+1) s.heap.objs.size (I.hok.fresh (dA _)) (I.hok.fresh (ao _)) (aX (hG _))
 have I2:=Inv.made (C:=C) I
 have r2:Vals (V.ref (s.heap.objs.size+1)::(vs++dvs)) (Value.ref (s.heap.objs.size+1)::(us++ds)):=.cons rfl (r.append hd)
 have hl:(Value.ref (s.heap.objs.size+1)::us++ds).length=ps.length:=by
  have e:=r2.length
  rw[F.len _ _ _ _ hq]at e
  exact e.symm
 refine wpAny_call (EO (f:=f) I.kIn M.makes M.init (gG.mp M.fn) (gO (F.run _ X.stack _ _ ⟨Value.ref (s.heap.objs.size+1)::us,[]⟩ (Value.ref (s.heap.objs.size+1)::(us++ds)) _ _ E (hr.make C us [])
  (I2.env0.make C us []) (hb _ (Value.ref (s.heap.objs.size+1)::us) I2.kIn hl) r2 hq) fun r s' hq'=>?_))
 cases r with
 |error e=>exact hx pins σ _ _ e s' I2 hq'
 | ok fl=>
  cases fl with
  |ret u=>
   obtain⟨v,H',I3,rv,ev,q3⟩:=I2.after hq'
   subst ev
   exact⟨rv,⟨V.ref (s.heap.objs.size+1),H',I3,rfl,q3⟩⟩
  |next=>exact False.elim hq'
  |brk=>exact False.elim hq'
  |cont=>exact False.elim hq'
theorem D8(M:Mk X.K C f)(F:FnOk X.prog X.w X.K X.mg X.base CX k f fd ps sp)(hr:Room (k+1) X.A)(hg:Gl X x)(hm:X.mg x=some (.ref C))(hb:jf0 X.K fd ps ds)(hd:Vals dvs ds)(hx:mZ CX X E)
  (ha:PA X (e::es) t) (hdb:(x==("__debug__":Str))=false:=by decide) (he:starEach (e::es) X.env=(false,eval e X.env)::starEach es X.env:=by rfl) (hpl:(backTo pos (starEach es X.env)).any (·.1)=false:=by rfl):
  PE X (.Call (.Name x p) (e::es) [] pos) (wV C sp dvs E t):=by
 intro pins s σ H Q I h
 refine fk (uS I hg hm ?_ hdb)
 refine gI (h₀:=X.base) I.ok.mod.kin M.kp (iP (ha pos pins s σ H _ I h) fun us s1 ⟨vs,H1,I1,r,q⟩=>⟨I1.kIn,?_⟩) he hpl
 exact Fm M F hr hb hd hx I1 r q
end
section
variable{X:Cx}{CX:lu}{k:Nat}{f C:Addr}{fd:FuncData}{ps ks:List Str}{sp:Sp}{E:XK}{x m:Str}{p pos apos kpos:Pos}{e o:Expr}{es:List Expr}{kws:List Keyword}{te ta:TE}{t tk:TA}{nm:Option Str}
variable{g:List Value->List Value->List Value}{gV:List V->List V->List V}
end
structure FnScope(N P:List Str)(sc:Scope):Prop where
 kind:sc.kind= .function
 co:sc.isCoroutine=false
 gen:sc.isGenerator=false
 nd:N.Nodup
 pre:N.take P.length=P
 par:∀x∈P,sc.names.lookup x=some .local\/sc.names.lookup x=some .cell
 nofree:∀y∈sc.names,y.2≠ .free
theorem Ak{kindOf:Str->Option NameKind}{x:Str}:∀{binds:List (Str×Value)} {m:Str->Option Value},(∀v,(x,v)∉binds)->bindL kindOf binds m x=m x
 |[],_,_=>rfl
 | (n,v)::r,m,h=>by
  unfold bindL
  rw[Ak fun w hw=>h w (az _ hw)]
  split
  ·have:x≠n:=by rintro rfl;exact h v aH
   simp[this]
  ·rfl
theorem Ai{kindOf:Str->Option NameKind}{x:Str}:∀{binds:List (Str×Value)} {m:Str->Option Value},(∀v,(x,v)∉binds)->bindC kindOf binds m x=m x
 |[],_,_=>rfl
 | (n,v)::r,m,h=>by
  unfold bindC
  rw[Ai fun w hw=>h w (az _ hw)]
  split
  ·rfl
  ·have:x≠n:=by rintro rfl;exact h v aH
   simp[this]
theorem Aj{kindOf:Str->Option NameKind}{x:Str}{v:Value}:∀{P:List Str} {vs:List Value} {i:Nat} {m:Str->Option Value},P.Nodup->P[i]? =some x->vs[i]? =some v->kindOf x=some .local->
  bindL kindOf (P.zip vs) m x=some v
 |[],_,_,_,_,h,_,_=>by simp at h
 |_::_,[],_,_,_,_,h,_=>by simp at h
 |p::P,w::vs,0,m,nd,h1,h2,hk=>by
  simp at h1 h2;subst h1;subst h2
  show bindL kindOf ((p,w)::P.zip vs) m p=_
  unfold bindL
  rw[Ak fun v hv=>(br.mp nd).1 (ik hv).1,aA hk]
  simp
 |p::P,w::vs,i+1,m,nd,h1,h2,hk=>by
  show bindL kindOf ((p,w)::P.zip vs) m x=_
  unfold bindL
  exact Aj (i:=i) (br.mp nd).2 (by simpa using h1) (by simpa using h2) hk
theorem Ah{kindOf:Str->Option NameKind}{x:Str}{v:Value}:∀{P:List Str} {vs:List Value} {i:Nat} {m:Str->Option Value},P.Nodup->P[i]? =some x->vs[i]? =some v->kindOf x≠some .local->
  bindC kindOf (P.zip vs) m x=some v
 |[],_,_,_,_,h,_,_=>by simp at h
 |_::_,[],_,_,_,_,h,_=>by simp at h
 |p::P,w::vs,0,m,nd,h1,h2,hk=>by
  simp at h1 h2;subst h1;subst h2
  show bindC kindOf ((p,w)::P.zip vs) m p=_
  unfold bindC
  rw[Ai fun v hv=>(br.mp nd).1 (ik hv).1,ay hk]
  simp
 |p::P,w::vs,i+1,m,nd,h1,h2,hk=>by
  show bindC kindOf ((p,w)::P.zip vs) m x=_
  unfold bindC
  exact Ah (i:=i) (br.mp nd).2 (by simpa using h1) (by simpa using h2) hk
noncomputable def mY(N:List Str)(vs:List V):St:=vs.map some++List.replicate (N.length-vs.length) none
noncomputable def pB(CX:lu)(P:Program)(w:World)(K:PySem.W.Frag)(mg:Str->Option Value)(base:Heap)(N:List Str)(qual:Str)(scope:Scope)(f:Addr)(cd:Value)(A:Around)(outer:List Env)(s:Shared)(H:Hp)(E:XK):Cx where
 prog:=P
 w:=w
 K:=K
 mg:=mg
 base:=base
 A:=A.deeper (envOfC qual scope s.heap.objs.size f cd)
 N:=N
 s₀:=s
 H₀:=H
 env:=envOfC qual scope s.heap.objs.size f cd
 outer:=outer
 stack:=envOfC qual scope s.heap.objs.size f cd::outer
 ex:=[]
 calm:=true
 fn:=fun _=>true
 pn:=[]
 xe:=fun e s'=>wpAny (model P w) (A.deeper (envOfC qual scope s.heap.objs.size f cd)) (leaving (envOfC qual scope s.heap.objs.size f cd) e) (fun _ s''=>CX outer H s E e s'') (fun e' s''=>CX outer H s E e' s'') s'
theorem zm{sc:Scope}{n:Nat}{x:Str}(h:sc.names.lookup x=some .cell):∃c,(cellsFrom n sc.names []).lookup x=some c:=by
 have q:=PySem.W.cellsFrom_some sc.names n [] (.inl h)
 exact eC.mp q
theorem FM{CX:lu}{P:Program}{w:World}{K:PySem.W.Frag}{mg:Str->Option Value}{base:Heap}{N ps:List Str}{qual:Str}{scope:Scope}{f:Addr}{cd:Value}{A:Around}{outer:List Env}{s s1:Shared}{H:Hp}{E:XK}{us:List Value}{vs:List V}
  (S:FnScope N ps scope) (hd:A.handled=none) (e0:Env0 P w K mg base A outer s H) (hl:vs.length=ps.length) (r:Vals vs us)
  (x:InCallC s s.heap.objs.size (bindL (envOfC qual scope s.heap.objs.size f cd).kindOf (ps.zip us) fun _=>none) (cellsFrom (s.heap.objs.size+1) scope.names []) (bindC (envOfC qual scope s.heap.objs.size f cd).kindOf (ps.zip us) fun _=>none) s1):
  Inv (pB CX P w K mg base N qual scope f cd A outer s H E) [] (mY N vs) H s1:=by
 have hpl:ps.length<=N.length:=by have:=cx List.length S.pre;rw[aS]at this;lia
 obtain⟨h1,tk,rfl,hk⟩:=x.done
 have noA:∀b:Addr,b∉(pB CX P w K mg base N qual scope f cd A outer s H E).ex:=fun b z=>absurd (show b∈([]:List Addr)from z) (by simp)
 refine⟨⟨e0.mod,S.kind,rfl,rfl,ao _,fun y z c h1 h2=>?_,fun y hy=>?_,fun y c _ h=>?_,fun _=>hd,Around.frames_deeper e0.frames,.inr ⟨rfl,rfl⟩,fun b z=>absurd z (noA b),e0.bs,e0.bsz,fun b _ _=>noA b,fun b z=>absurd z (noA b),e0.funs,e0.frf⟩,
  rfl,e0.bare,Un.kept hk,⟨_,x.toInCall.ns,fun i y v h1 h2 h3=>?_⟩,fun y c h=>⟨_,x.cell y c h⟩,e0.hok.fresh (ao _),fun y c h=>?_,fun p hp=>absurd (show p∈([]:List (Addr×Obj))from hp) (by simp),e0.hok.kept hk,?_⟩
 ·exact name_of_addr x.apart (cv h1) (cv h2)
 ·have hy:scope.names.lookup y=some .cell\/scope.names.lookup y=some .free:=hy
  rcases hy with hy|hy
  ·exact zm hy
  ·exact absurd rfl (S.nofree _ (cv hy))
 ·exact dF (x.above y c (cv h))
 ·have hi:i<vs.length:=by
   unfold mY at h2
   by_cases hi:i<vs.length
   ·exact hi
   ·rw[cn (by simpa using hi)]at h2
    rw[List.getElem?_replicate]at h2
    split at h2<;>cases h2
  have ha:vs[i]? =some v:=by
   unfold mY at h2
   rw[bq (by simpa using hi),aC]at h2
   cases e:vs[i]? with
   |none=>rw[e]at h2;cases h2
   |some a=>rw[e]at h2;cases h2;rfl
  obtain⟨u,hu,rv⟩:=r.get ha
  have hp:ps[i]? =some y:=by
   rw [<- S.pre,List.getElem?_take_of_lt (by lia)]; exact h1
  have ndP:ps.Nodup:=by rw [<- S.pre]; exact S.nd.sublist (List.take_sublist _ _)
  refine⟨u,rv,?_⟩
  rcases S.par y (aE hp)with k|k
  ·exact .inl ⟨k,Aj ndP hp hu k⟩
  ·obtain⟨c,e⟩:=zm (n:=s.heap.objs.size+1) k
   refine .inr ⟨.inl k,c,e,?_⟩
   have q:=x.cell y c e
   rw[Ah ndP hp hu (by show scope.names.lookup y≠_;rw[k];decide)]at q
   exact q
 ·exact e0.hok.fresh (dF (x.above y c (cv h)))
 ·unfold mY
  show _=N.length
  rw[av,ae,List.length_replicate]
  lia
theorem Iq{CX:lu}{P:Program}{w:World}{K:PySem.W.Frag}{mg:Str->Option Value}{base:Heap}{k:Nat}{f:Addr}{name qual:Str}{params:Arguments}{body:List Stmt}{scope:Scope}{dV kV doc pm cdv ct oc:Value}{an od:Option Addr}
  {osl:Array (Option Value)} {N ps:List Str} {sp:Sp} (lk:K.lookup f=some ⟨oc,od,.func (PySem.W.fnOf name qual params body scope dV kV doc pm an cdv ct),osl⟩) (hcd:PySem.W.codeIn K cdv qual=true) (S:FnScope N ps scope)
  (len:∀vs H Q E,sp vs H Q E->vs.length=ps.length)
  (hbody:∀(A:Around) (outer:List Env) (s:Shared) (H:Hp) (vs:List V) (Q:VK) (E:XK),Room k (A.deeper (envOfC qual scope s.heap.objs.size f cdv))->sp vs H Q E->
   ∃t,PSs (pB CX P w K mg base N qual scope f cdv A outer s H E) body t/\t {nx:=fun _ H'=>Q .non H',rt:=Q} (mY N vs) H):
  FnOk P w K mg base CX (k+1) f (PySem.W.fnOf name qual params body scope dV kV doc pm an cdv ct) ps sp:=by
 refine⟨len,fun A outer s H args us vs Q E hr e0 hb r hsp=>?_⟩
 have hl:=len _ _ _ _ hsp
 have KX:K.In s.heap:=e0.mod.kin.keeps fun b o e=>(e0.bs b o e).1
 have lim:s.heap.NoLimit:=e0.mod.nolimit.keeps fun b o e=>(e0.bs b o e).1
 have hkind:∀y∈ps.zip us,scope.names.lookup y.1=some .local\/(scope.names.lookup y.1=some .cell/\((cellsFrom (s.heap.objs.size+1) scope.names []).lookup y.1).isSome=true):=fun⟨n,v⟩ hy=>by
  rcases S.par n (ik hy).1 with q|q
  ·exact .inl q
  ·exact .inr ⟨q,PySem.W.cellsFrom_some _ _ _ (.inl q)⟩
 refine codeAny_call_function hr.depth (KX _ _ lk) rfl S.co S.gen rfl (PySem.W.codeRec_of KX hcd) (hb _ _ _ _ ?_)
 refine wpAny_newFunctionEnv_cells S.kind hkind fun env he s1 x=>?_
 subst he
 refine⟨lim.keeps x.toInCall.keep,codeAny_func ?_⟩
 obtain⟨t,ht,hq⟩:=hbody A outer s H vs Q E (hr.deeper _) hsp
 have I:Inv (pB CX P w K mg base N qual scope f cdv A outer s H E) [] (mY N vs) H s1:=FM S hr.hd e0 hl r x
 refine dh (ht [] s1 (mY N vs) H _ I hq) (fun fl s' hs=>?_) fun e s' hs=>hs
 have fin:∀{σ':St} {H':Hp} {v:V} {u:Value},Inv (pB CX P w K mg base N qual scope f cdv A outer s H E) [] σ' H' s'->RelV v u->Q v H'->CE outer P w H s Q u s':=
  fun{σ' H' v u} J rv q=>⟨v,H',J.os,J.bare,J.base,J.hok,rv,q⟩
 cases fl with
 |ret u=>
  obtain⟨v,σ',H',J,rv,q⟩:=hs
  exact fin J rv q
 |next=>
  obtain⟨σ',H',J,q⟩:=hs
  exact fin (v:=V.non) (u:=Value.none) J rfl q
 |brk=>
  obtain⟨_,_,_,q⟩:=hs
  exact False.elim q
 |cont=>
  obtain⟨_,_,_,q⟩:=hs
  exact False.elim q
section
variable{X:Cx}{x:Str}{p pos:Pos}{e:Expr}{es:List Expr}{t:TA}{id T:String}{r:List V->Hp->VK->Prop}
def qG(r:List V->Hp->VK->Prop)(t:TA):TE:=fun σ H Q=>t σ H fun vs H1=>r vs H1 Q
theorem jq(hc:jbw X (.builtin id) r)(hg:Gl X x)(hm:X.mg x=none)(hv:bootBuiltins x=some (.builtin id))(ha:PA X (e::es) t)(hn:x≠"__name__":=by decide)(hdb:(x==("__debug__":Str))=false:=by decide)
  (he:starEach (e::es) X.env=(false,eval e X.env)::starEach es X.env:=by rfl) (hpl:(backTo pos (starEach es X.env)).any (·.1)=false:=by rfl):PE X (.Call (.Name x p) (e::es) [] pos) (qG r t):=by
 intro pins s σ H Q I h
 refine fk (oP I hg hm hv ?_ hn hdb)
 exact PyProof.Rows.callWith_builtin1 (iP (ha pos pins s σ H _ I h) fun us s1 ⟨vs,H1,I1,r1,q1⟩=>hc pins s1 σ H1 vs us Q I1 r1 q1) he hpl
theorem mr(hc:jbw X (.type T) r)(hg:Gl X x)(hm:X.mg x=none)(hv:bootBuiltins x=some (.type T))(ha:PA X (e::es) t)(hn:x≠"__name__":=by decide)(hdb:(x==("__debug__":Str))=false:=by decide)
  (he:starEach (e::es) X.env=(false,eval e X.env)::starEach es X.env:=by rfl) (hpl:(backTo pos (starEach es X.env)).any (·.1)=false:=by rfl):PE X (.Call (.Name x p) (e::es) [] pos) (qG r t):=by
 intro pins s σ H Q I h
 refine fk (oP I hg hm hv ?_ hn hdb)
 exact dY (iP (ha pos pins s σ H _ I h) fun us s1 ⟨vs,H1,I1,r1,q1⟩=>hc pins s1 σ H1 vs us Q I1 r1 q1) he hpl
end
end L2
namespace HT
open PySem PyProof.Rows
noncomputable def lexLt:List Int->List Int->Bool
 |[],[]=>false
 |[],_::_=>true
 |_::_,[]=>false
 |x::xs,y::ys=>if x=y then lexLt xs ys else decide (x<y)
theorem oG(x y:Int)(xs ys:List Int):lexLt (x::xs) (y::ys)=if x=y then lexLt xs ys else decide (x<y):=rfl
theorem Hq:lexLt [] []=false:=rfl
theorem Hz(y:Int)(ys:List Int):lexLt [] (y::ys)=true:=rfl
theorem Hy(x:Int)(xs:List Int):lexLt (x::xs) []=false:=rfl
theorem Ez(A:Around)(s:Shared)(a:Int)(t:Tok)(c:Int)(u:Tok):∃e,SeqAt.EqAt A s (.int a t) (.int c u) e/\(e=true↔a=c):=
 ⟨(a==c),gH a t c u,by simp⟩
theorem Fj(A:Around)(s:Shared)(a:Int)(t:Tok)(c:Int)(u:Tok)(prog:Program)(w:World)(E:Value->Shared->Prop)(Q:Value->Shared->Prop)(h:Q (.bool (decide (a<c))) s):
  wpAny (model prog w) A (richCompare .Lt (.int a t) (.int c u)) Q E s:=
 (PyProof.Rows.lt_int h:wpAny (model prog w) A (compareOp .Lt (.int a t) (.int c u)) Q E s)
section
open PySem.SeqAt
open PySem.AutoSeq1 (wpAny_loadPart')
open PySem.MeetsSeq PySem.MeetsSeq2 PySem.MeetsSeq3
theorem Hw(l b:Addr)(items items2:Array Value)(n n2:Nat)(dd dd2:Option Addr)(sl mR:Array (Option Value))(ns ms:List Int)(hi:IntsAre items.toList ns)(hj:IntsAre items2.toList ms):
  Meets (Builtin.«tuple.__lt__» ⟨[.ref l,.ref b],[]⟩)
   (fun _ R s=>s.heap.get? l=some {cls:=.type "tuple",dict:=dd,data:=.seq items n,slots:=sl}/\s.heap.get? b=some {cls:=.type "tuple",dict:=dd2,data:=.seq items2 n2,slots:=mR}/\
    R (.ok (.ret (.bool (lexLt ns ms)))) s):=
 .of_wp fun prog w A R s h=>by
  obtain⟨hp,g,d,tk,os⟩:=s;obtain⟨hl,hb,h⟩:=h
  have f2:=AutoSeq1.sub_tuple_tuple
  have z1:items.size = ns.length:=by rw [<- hi.length]; simp
  have z2:items2.size = ms.length:=by rw [<- hj.length]; simp
  wp_walk using fX hl,fX hb,wpAny_forIn_list _ (fun rest b s'=>b.1=none/\s'=⟨hp,g,d,tk,os⟩/\∃(vs ws:List Value) (ns' ms':List Int),rest=vs.zip ws/\
   IntsAre vs ns'/\IntsAre ws ms'/\ns'.length+items2.size=ms'.length+items.size/\R (.ok (.ret (.bool (lexLt ns' ms')))) ⟨hp,g,d,tk,os⟩) _
  case turn=>
   rintro⟨y,x⟩ rest b s' ⟨hb',rfl,vs,ws,ns',ms',hz,hvi,hwi,hlen,hR⟩
   cases hvi with
   |nil=>rw[List.zip_nil_left]at hz;cases hz
   | cons a t hvi'=>
    cases hwi with
    |nil=>rw[List.zip_nil_right]at hz;cases hz
    | cons c u hwi'=>
     rw[List.zip_cons_cons]at hz
     injection hz with hyx hrest
     injection hyx with hy hx
     subst hy hx
     rw[oG]at hR
     simp only[List.length_cons]at hlen
     obtain⟨e,he,hiff⟩:=Ez A.in1 ⟨hp,g,d,tk,os⟩ a t c u
     refine af (he prog w _ _ ?_)
     cases e with
     |true=>
      rw[aA (hiff.mp rfl)]at hR
      wp_walk
      exact⟨rfl,rfl,_,_,_,_,hrest,hvi',hwi',by lia,hR⟩
     |false=>
      rw[ay (fun q=>absurd (hiff.mpr q) aU)]at hR
      have hri:=Fj A.in1 ⟨hp,g,d,tk,os⟩ a t c u prog w
      wp_walk using hri
      exact⟨_,rfl,by simpa using hR⟩
  case fin=>
   rintro⟨b1,b2⟩ s' ⟨hb',rfl,vs,ws,ns',ms',hz,hvi,hwi,hlen,hR⟩
   simp only at hb'
   subst hb'
   have hv:lexLt ns' ms'=decide (items.size<items2.size):=by
    cases hvi with
    | nil=>
     cases hwi with
     |nil=>
      simp only[List.length_nil]at hlen
      rw[Hq]
      exact(aP (by lia)).symm
     |cons c u hw=>
      simp only[List.length_nil,List.length_cons]at hlen
      rw[Hz]
      exact(aK (by lia)).symm
    | cons a t hv=>
     cases hwi with
     |nil=>
      simp only[List.length_nil,List.length_cons]at hlen
      rw[Hy]
      exact(aP (by lia)).symm
     |cons c u hw=>
      rw[List.zip_cons_cons]at hz
      cases hz
   rw[hv]at hR
   wp_walk
   exact⟨_,rfl,by simpa[Builtin.Tuple.tupleCompareSizes]using hR⟩
  case h=>
   exact⟨rfl,rfl,items.toList,items2.toList,ns,ms,rfl,hi,hj,by lia,h⟩
end
section
variable{prog:Program}{w:World}{A:Around}{E:Value->Shared->Prop}{s:Shared}
theorem Dv{l b:Addr}{items items2:Array Value}{ns ms:List Int}{Q:Value->Shared->Prop}(hl:IsTup s.heap l items)(hb:IsTup s.heap b items2)(hi:IntsAre items.toList ns)(hj:IntsAre items2.toList ms)
  (hu:A.units<cLine) (h:Q (.bool (lexLt ns ms)) s):wpAny (model prog w) A (compareOp .Lt (.ref l) (.ref b)) Q E s:=by
 obtain⟨⟨cls,dd,data,sl⟩,ho,hc,n,hd⟩:=id hl
 obtain⟨⟨cls2,dd2,data2,mR⟩,ho2,hc2,n2,hd2⟩:=id hb
 simp only at hc hd hc2 hd2
 subst hc hd hc2 hd2
 exact richCompare_meets_room (op:=.Lt) ⟨_,ho,rfl⟩ ⟨_,ho2,rfl⟩ PySem.F.slot_tuple_lt PySem.F.entry_tuple_lt (PySem.F.args_tuple_lt_2 _ _) (Hw l b items items2 n n2 dd dd2 sl mR ns ms hi hj)
  ⟨ho,ho2,show Value.bool (lexLt ns ms)≠Value.notImplemented/\Q (.bool (lexLt ns ms)) s from⟨(fun x=>nomatch x),h⟩⟩ hu
noncomputable def jc(n d:Nat):Option Int->Nat
 |none=>d
 |some v=>if v<0 then(v+(n:Int)).toNat else min v.toNat n
theorem Ci(n d:Nat)(hd:d<=n)(o:Option Int):jc n d o<=n:=by
 cases o with
 |none=>exact hd
 |some v=>
  show(if v<0 then(v+(n:Int)).toNat else min v.toNat n)<=n
  by_cases hv:v<0
  ·rw[aA hv];lia
  ·rw[ay hv];exact Nat.min_le_right _ _
theorem yn(v:Int)(n d:Nat):(if v<0 then max (v+(n:Int)) 0 else min v (n:Int))=((jc n d (some v):Nat):Int):=by
 show(if v<0 then max (v+(n:Int)) 0 else min v (n:Int))=(((if v<0 then(v+(n:Int)).toNat else min v.toNat n):Nat):Int)
 by_cases hv:v<0
 ·simp only[aA hv];lia
 ·simp only[ay hv];lia
theorem Gg(lo hi:Option Int)(n:Nat):Builtin.Slice.sliceAdjust lo hi 1 (n:Int)=(((jc n 0 lo:Nat):Int),((jc n n hi:Nat):Int)):=by
 have h1:¬((1:Int)<0):=by lia
 unfold Builtin.Slice.sliceAdjust
 simp only[h1,if_false]
 refine Prod.ext ?_ ?_
 ·cases lo with
  |none=>rfl
  |some v=>exact yn v n 0
 ·cases hi with
  |none=>rfl
  |some v=>exact yn v n n
theorem GG(i j:Nat):Builtin.Slice.slicePlaces (i:Int) (j:Int) 1=j-i:=by
 unfold Builtin.Slice.slicePlaces
 have h1:(1:Int)>0:=by lia
 simp only[h1,if_true,Int.ediv_one]
 split<;>lia
theorem AR{v:Value}{o:Option Int}{Q:Option Int->Shared->Prop}(p:IsPart v o)(h:Q o s):wpAny (model prog w) A (Builtin.Slice.slicePartIndex v) Q E s:=by
 cases p with
 |none=>exact slicePart_none h
 |int i t=>exact slicePart_int h
theorem HR{sl:Addr}{vl vu:Value}{lo hi:Option Int}{n:Nat}{Q:Int×Int×Nat->Shared->Prop}(hs:s.heap.IsSliceOf sl vl vu .none)(pl:IsPart vl lo)(pu:IsPart vu hi)
  (h:Q (((jc n 0 lo:Nat):Int),1,jc n n hi-jc n 0 lo) s):wpAny (model prog w) A (Builtin.Slice.sliceApplied (.ref sl) (pure (n:Int))) Q E s:=by
 obtain⟨os,hos,hcs,hds⟩:=id hs
 unfold Builtin.Slice.sliceApplied Builtin.Slice.sliceFields
 refine af (af (cB hos hds (x:=vl) rfl (af (cB hos hds (x:=vu) rfl (af (cB hos hds (x:=.none) rfl (aB ?_)))))))
 refine af (slicePart_none ?_)
 show wpAny _ _ (if((1:Int)==0)=true then _ else _) _ _ s
 rw[ay (by decide)]
 refine af (AR pl (af (AR pu (af (aB ?_)))))
 show wpAny _ _ (match Builtin.Slice.sliceAdjust lo hi 1 (n:Int)with |(lo,hi)=>pure (lo,(1:Int),Builtin.Slice.slicePlaces lo hi 1)) _ _ s
 rw[Gg lo hi n]
 show wpAny _ _ (pure (((jc n 0 lo:Nat):Int),(1:Int),Builtin.Slice.slicePlaces ((jc n 0 lo:Nat):Int) ((jc n n hi:Nat):Int) 1)) _ _ s
 rw[GG]
 exact aB h
theorem E9(xs:Array Value)(i k:Nat):((List.range k).filterMap fun(m:Nat)=>xs[((i:Int)+(m:Int)*1).toNat]?).toArray=((xs.toList.drop i).take k).toArray:=by
 have e:(fun(m:Nat)=>xs[((i:Int)+(m:Int)*1).toNat]?)=fun m=>xs[i+m]?:=by
  funext m
  have:((i:Int)+(m:Int)*1).toNat=i+m:=by lia
  rw[this]
 rw[e]
 have:=pick_run xs i k
 rw[List.filterMap_map]at this
 have e2:((fun x=>xs[x]?)∘fun x=>i+x)=fun m=>xs[i+m]?:=rfl
 rw[e2]at this
 rw[this]
theorem Ik{t sl:Addr}{items:Array Value}{vl vu:Value}{lo hi:Option Int}{Q:Value->Shared->Prop}(ht:IsTup s.heap t items)(hs:s.heap.IsSliceOf sl vl vu .none)(pl:IsPart vl lo)(pu:IsPart vu hi)
  (hw:¬(jc items.size 0 lo=0/\jc items.size items.size hi=items.size))
  (h:Q (.ref s.heap.objs.size) {s with heap:=s.heap.push {cls:=.type "tuple",data:=.seq ((items.toList.drop (jc items.size 0 lo)).take (jc items.size items.size hi-jc items.size 0 lo)).toArray}})
  (hsz:items.size<=sizeLine):wpAny (model prog w) A (getItem (.ref t) (.ref sl)) Q E s:=by
 have htake:sizeOk (.seq ((items.toList.drop (jc items.size 0 lo)).take (jc items.size items.size hi-jc items.size 0 lo)).toArray):=by
  show((items.toList.drop (jc items.size 0 lo)).take (jc items.size items.size hi-jc items.size 0 lo)).toArray.size<=sizeLine
  rw[au,aS,cX,Array.length_toList]
  lia
 have hj:jc items.size items.size hi<=items.size:=Ci _ _ (ao _) hi
 obtain⟨os,hos,hcs,hds⟩:=id hs
 have hTs:s.TypeIs (.ref sl) "slice":=⟨os,hos,hcs⟩
 unfold getItem
 try with_reducible refine cq ?_
 first|refine af (aB ?_)|skip
 refine af (wpAny_sequenceKey ht.typeIs (by decide) ?_)
 refine af (dw (name:=Str.ofString "__getitem__") ht.typeIs eT
  (dq eT ht.typeIs entry_tuple_getitem ?_ (args_tuple_getitem _ _)))
 show wpAny _ _ (Builtin.Tuple.tupleItemsOf (.ref t)>>=_) _ _ s
 refine af (tupleItemsOf_ ht ?_)
 refine af (eI hTs ?_)
 rw[aA (by decide)]
 refine af (HR hs pl pu ?_)
 have hno:¬((((jc items.size 0 lo:Nat):Int)==0&&(1:Int)==1&&(jc items.size items.size hi-jc items.size 0 lo)==items.size)=true):=by
  intro q
  rw[cE,cE]at q
  have q1:((jc items.size 0 lo:Nat):Int)=0:=eq_of_beq q.1.1
  have q2:jc items.size items.size hi-jc items.size 0 lo=items.size:=eq_of_beq q.2
  exact hw ⟨by lia,by lia⟩
 show wpAny _ _ (if(((jc items.size 0 lo:Nat):Int)==0&&(1:Int)==1&&(jc items.size items.size hi-jc items.size 0 lo)==items.size)=true then _ else _) _ _ s
 rw[ay hno,E9]
 first
  |exact af (m:=Builtin.Tuple.tupleExact _) (cF (aB ⟨_,rfl,aB h⟩) htake)
  |exact af (m:=Builtin.Tuple.tupleExact _) (cF (af (aB (aB ⟨_,rfl,aB h⟩))) htake)
  |exact af (af (m:=Builtin.Tuple.tupleExact _) (cF (aB (aB ⟨_,rfl,aB h⟩)) htake))
  |exact af (af (m:=Builtin.Tuple.tupleExact _) (cF (aB ⟨_,rfl,aB h⟩) htake))
end
end HT
namespace L2
open PySem PySem.Spec PyProof.Rows
abbrev TO:=St->Hp->(Option Int->Hp->Prop)->Prop
def PO(X:Cx)(e:Option Expr)(t:TO):Prop:=
 ∀(pins:List (Addr×Obj)) (s:Shared) (σ:St) (H:Hp) (Q:Option Int->Hp->Prop),Inv X pins σ H s->t σ H Q->
  wpAny (model X.prog X.w) X.A (evalPart e X.env) (fun u s'=>∃o H',Inv X pins σ H' s'/\IsPart u o/\Q o H') X.xe s
def y9:TO:=fun _ H Q=>Q none H
theorem oq{ns:List Int}:∀{us:List Value},Vals (ns.map V.int) us->IntsAre us ns:=by
 induction ns with
 |nil=>intro us r;rw[cL]at r;cases r;exact .nil
 | cons n ns ih=>
  intro us r
  rw[ah]at r
  cases r with
  |cons r1 r2=>
   obtain⟨t,e⟩:=r1
   subst e
   exact .cons n t (ih r2)
section
variable{X:Cx}{e:Expr}{te:TE}{lo hi:Option Expr}{tl th:TO}{pos p2:Pos}
theorem rM:PO X none y9:=by
 intro pins s σ H Q I h
 rw[evalPart_none]
 exact aB ⟨none,H,I,.none,h⟩
def SlR(X:Cx)(r:V->Option Int->Option Int->Hp->VK->Prop):Prop:=
 ∀(pins:List (Addr×Obj)) (s:Shared) (σ:St) (H:Hp) (x:V) (v vl vu:Value) (lo hi:Option Int) (sl:Addr) (Q:VK),Inv X pins σ H s->RelV x v->s.heap.IsSliceOf sl vl vu .none->IsPart vl lo->IsPart vu hi->r x lo hi H Q->
  ∃T id,typeLookup (.type T) "__getitem__"=pure (some (.builtin id))/\s.TypeIs v T/\wpAny (model X.prog X.w) X.A (getItem v (.ref sl)) (EP X pins σ Q) X.xe s
def wN(r:V->Option Int->Option Int->Hp->VK->Prop)(te:TE)(tl th:TO):TE:=fun σ H Q=>te σ H fun x H1=>tl σ H1 fun l H2=>th σ H2 fun u H3=>r x l u H3 Q
theorem sd{r:V->Option Int->Option Int->Hp->VK->Prop}(hr:SlR X r)(he:PE X e te)(hl:PO X lo tl)(hu:PO X hi th):PE X (.Subscript e (.Slice lo hi none p2) pos) (wN r te tl th):=by
 intro pins s σ H Q I h
 refine iw (iP (he pins s σ H _ I h) fun v s1 ⟨x,H1,I1,r1,q1⟩=>?_)
 refine wpAny_Slice (iP (hl pins s1 σ H1 _ I1 q1) fun vl s2 ⟨l,H2,I2,pl,q2⟩=>iP (hu pins s2 σ H2 _ I2 q2) fun vu s3 ⟨u,H3,I3,pu,q3⟩=>?_)
 rw[evalPart_none]
 refine aB ?_
 have I4:Inv X pins σ H3 {s3 with heap:=s3.heap.push {cls:=.type "slice",data:=.fields #[vl,vu,.none]}}:=I3.kept (t':=s3.toks) fun b ob q=>ag _ q
 obtain⟨T,id,hT,ht,hg⟩:=hr pins {s3 with heap:=s3.heap.push {cls:=.type "slice",data:=.fields #[vl,vu,.none]}} σ H3 x v vl vu l u s3.heap.objs.size Q I4 r1 (Heap.IsSliceOf.new ..) pl pu q3
 show wpAny (model X.prog X.w) X.A (subscriptTail e (.Slice lo hi none p2) v (.ref s3.heap.objs.size)) (EP X pins σ Q) X.xe {s3 with heap:=s3.heap.push {cls:=.type "slice",data:=.fields #[vl,vu,.none]}}
 exact tail_any (ops:=[.ref s3.heap.objs.size,v]) ht hT hg (by with_unfolding_all rfl)
noncomputable def mB(xs:List V)(lo hi:Option Int):List V:=(xs.drop (HT.jc xs.length 0 lo)).take (HT.jc xs.length xs.length hi-HT.jc xs.length 0 lo)
theorem AY(xs:List V)(lo hi:Option Int):(mB xs lo hi).length<=xs.length:=by
 unfold mB
 rw[aS,cX]
 lia
def Cz(K:PySem.W.Frag):V->Option Int->Option Int->Hp->VK->Prop:=fun x lo hi H Q=>∃a xs,x= .ref a/\SqT K H a xs/\
 ¬(HT.jc xs.length 0 lo=0/\HT.jc xs.length xs.length hi=xs.length)/\∀p,H p=none->Q (.ref p) (upd H p (.tup (mB xs lo hi)))
theorem Ca:SlR X (Cz X.K):=by
 intro pins s σ H x v vl vu lo hi sl Q I rx hs pl pu h
 obtain⟨a,xs,rfl,hx,hw,q⟩:=h
 cases rx
 obtain⟨its,r,ht,hz⟩:=I.tuple hx
 have hlen:its.toArray.size=xs.length:=by rw[au];exact r.length.symm
 refine⟨"tuple",_,eT.lookup,ht.typeIs,?_⟩
 refine HT.Ik ht hs pl pu (by rw[hlen];exact hw) ?_ (by rw[hlen];exact hz)
 rw[hlen]
 refine⟨.ref s.heap.objs.size,_,I.laid (t':=s.toks) (o:=.tup (mB xs lo hi)) (fun b ob q=>ag _ q) (ao _) ?_,rfl,q _ (I.hok.fresh (ao _))⟩
 exact⟨bE (AY xs lo hi) hz,_,(r.drop (HT.jc xs.length 0 lo)).take (HT.jc xs.length xs.length hi-HT.jc xs.length 0 lo),IsTup.new _ _⟩
def CF(K:PySem.W.Frag):R2:=fun x y H Q=>∃a b ns ms,x= .ref a/\y= .ref b/\SqT K H a (ns.map V.int)/\SqT K H b (ms.map V.int)/\Q (.bl (HT.lexLt ns ms)) H
theorem Dc(hu:X.A.units<cLine):OpR X (compareOp .Lt) (CF X.K):=by
 intro pins s σ H x y v u Q I rx ry h
 obtain⟨a,b,ns,ms,rfl,rfl,ha,hb,q⟩:=h
 cases rx
 cases ry
 obtain⟨its,r1,p1,_⟩:=I.tuple ha
 obtain⟨its2,r2,p2,_⟩:=I.tuple hb
 have i1:IntsAre its.toArray.toList ns:=oq r1
 have i2:IntsAre its2.toArray.toList ms:=oq r2
 exact HT.Dv p1 p2 i1 i2 hu ⟨.bl (HT.lexLt ns ms),H,I,rfl,q⟩
end
noncomputable def kI(n:Nat)(i:Int):Option Nat:=if 0<=i then(if i<n then some i.toNat else none)else if -(n:Int)<=i then some (i+n).toNat else none
noncomputable def jr{α:Type}(xs:List α)(i:Int):Option α:=(kI xs.length i).bind fun j=>xs[j]?
theorem yy{n:Nat}{i:Int}{j:Nat}(h:kI n i=some j):seqIndex? i n=some j/\j<n/\-(n:Int)<=i/\i<n:=by
 unfold kI at h
 by_cases h0:0<=i
 ·rw[aA h0]at h
  by_cases h1:i<n
  ·rw[aA h1]at h
   have e:i.toNat=j:=aI h
   exact⟨by rw[hV h0 h1,e],by lia,by lia,h1⟩
  ·rw[ay h1]at h;cases h
 ·rw[ay h0]at h
  by_cases h1:-(n:Int)<=i
  ·rw[aA h1]at h
   have e:(i+n).toNat=j:=aI h
   exact⟨by rw[seqIndex_neg (by lia) h1,e],by lia,h1,by lia⟩
  ·rw[ay h1]at h;cases h
theorem uG{α:Type}{xs:List α}{i:Int}{v:α}(h:jr xs i=some v):∃j,seqIndex? i xs.length=some j/\xs[j]? =some v/\j<xs.length/\-(xs.length:Int)<=i/\i<xs.length:=by
 unfold jr at h
 cases e:kI xs.length i with
 |none=>rw[e]at h;cases h
 |some j=>
  rw[e]at h
  obtain⟨h1,h2,h3,h4⟩:=yy e
  exact⟨j,h1,h,h2,h3,h4⟩
theorem mm{α:Type}{xs:List α}{j:Nat}{v:α}(h:xs[j]? =some v):jr xs (j:Int)=some v:=by
 have hj:j<xs.length:=(ak.mp h).1
 have e:kI xs.length (j:Int)=some j:=by
  unfold kI
  rw[aA (by lia),aA (by lia)];simp
 unfold jr;rw[e];exact h
def DD(b:Expr):Prop:=∀o i,subscripted b false o i=operate [o,i] (getItem o i)
def IxR(X:Cx)(r:R2):Prop:=
 ∀(value slice:Expr) (pins:List (Addr×Obj)) (s:Shared) (σ:St) (H:Hp) (x y:V) (v u:Value) (Q:VK),Inv X pins σ H s->RelV x v->RelV y u->r x y H Q->
  subscripted slice false v u=operate [v,u] (getItem v u)->wpAny (model X.prog X.w) X.A (subscriptTail value slice v u) (EP X pins σ Q) X.xe s
def MtR(X:Cx)(id:String)(r:V->List V->Hp->VK->Prop):Prop:=
 ∀(pins:List (Addr×Obj)) (s:Shared) (σ:St) (H:Hp) (x:V) (xs:List V) (v:Value) (us:List Value) (Q:VK),Inv X pins σ H s->RelV x v->Vals xs us->r x xs H Q->
  wpAny (model X.prog X.w) X.A (call (.builtin id) (v::us)) (EP X pins σ Q) X.xe s
section
variable{X:Cx}{a b:Expr}{ta tb:TE}{pos:Pos}
theorem IxR.or{r r':R2}(h:IxR X r)(h':IxR X r'):IxR X (fun x y H Q=>r x y H Q\/r' x y H Q):=by
 intro value slice pins s σ H x y v u Q I rx ry q hs
 rcases q with q|q
 ·exact h value slice pins s σ H x y v u Q I rx ry q hs
 ·exact h' value slice pins s σ H x y v u Q I rx ry q hs
theorem iT{r:R2}(hr:IxR X r)(ha:PE X a ta)(hb:PE X b tb)(hs:DD b):PE X (.Subscript a b pos) (nQ r ta tb):=by
 intro pins s σ H Q I h
 exact iw (wy ha hb I h fun v u s2 x y H2 I2 rx ry q=>hr a b pins s2 σ H2 x y v u Q I2 rx ry q (hs _ _))
def xn(K:PySem.W.Frag):R2:=fun x y H Q=>∃p xs i v,x= .ref p/\y= .int i/\SqL K H p xs/\jr xs i=some v/\Q v H
def CH(K:PySem.W.Frag):R2:=fun x y H Q=>∃p xs i v,x= .ref p/\y= .int i/\SqT K H p xs/\jr xs i=some v/\Q v H
theorem yz:IxR X (xn X.K):=by
 intro value slice pins s σ H x y v u Q I rx ry h hs
 obtain⟨p,xs,i,z,rfl,rfl,hq,he,q⟩:=h
 cases rx
 obtain⟨t,rfl⟩:=ry
 obtain⟨its,r,pl,hz⟩:=I.list hq
 obtain⟨j,h1,h2,h3,h4,h5⟩:=uG he
 obtain⟨w,ew,rw'⟩:=r.get h2
 have hl:=r.length
 have hn:=n6
 have fin:EP X pins σ Q w s:=⟨z,H,I,rw',q⟩
 by_cases h0:0<=i
 ·have hj:i.toNat=j:=by
   rw[hV h0 h5]at h1
   exact aI h1
  exact item_listR pl.isList h0 (by lia) (by rw[hj];simpa using ew) fin hs
 ·have hj:(i+(its.toArray.size:Int)).toNat=j:=by
   rw[seqIndex_neg (by lia) h4]at h1
   rw [au,<- hl]
   exact aI h1
  exact subscriptTail_builtinR (x:=w) pl.isList.typeIs gM.lookup
   (wpAny_getItem_list_neg (Q:=fun r s'=>r=w/\EP X pins σ Q r s') pl.isList (by lia) (by rw[au]<;>lia) (by lia) (by rw[hj];simpa using ew) ⟨rfl,fin⟩) hs
theorem HY:IxR X (CH X.K):=by
 intro value slice pins s σ H x y v u Q I rx ry h hs
 obtain⟨p,xs,i,z,rfl,rfl,hq,he,q⟩:=h
 cases rx
 obtain⟨t,rfl⟩:=ry
 obtain⟨its,r,pl,hz⟩:=I.tuple hq
 obtain⟨j,h1,h2,h3,h4,h5⟩:=uG he
 obtain⟨w,ew,rw'⟩:=r.get h2
 have hl:=r.length
 have hn:=n6
 have fin:EP X pins σ Q w s:=⟨z,H,I,rw',q⟩
 exact subscriptTail_builtinR (x:=w) pl.typeIs slot_tuple_getitem.lookup
  (getItem_tuple (j:=j) (Q:=fun r s'=>r = w/\EP X pins σ Q r s') pl (by lia) (by lia) (by rw [au,<- hl]; exact h1) (by simpa using ew) ⟨rfl,fin⟩) hs
theorem Gx(its:List Value)(n j:Nat)(u:Value):Obj.mapSeq (·.setIfInBounds j u) {cls:=.type "list",data:=.seq its.toArray n}={cls:=.type "list",data:=.seq (its.set j u).toArray n}:=by
 simp[Obj.mapSeq]
theorem Inv.lst{pins:List (Addr×Obj)}{σ:St}{H:Hp}{s:Shared}{p:Addr}{xs:List V}(I:Inv X pins σ H s)(h:H p=some (.lst xs)):
  ∃(its:List Value) (n:Nat),Vals xs its/\s.heap.get? p=some {cls:=.type "list",data:=.seq its.toArray n}/\xs.length<=sizeLine:=by
 obtain⟨z,its,n,r,e⟩:=I.hok p _ h
 exact⟨its,n,r,e,z⟩
theorem Inv.lstUpd{pins:List (Addr×Obj)}{σ:St}{H:Hp}{s:Shared}{p:Addr}{xs ys:List V}{its its':List Value}{n n':Nat}{f:Obj->Obj}(I:Inv X pins σ H s)(h:H p=some (.lst xs))
  (ho:s.heap.get? p=some {cls:=.type "list",data:=.seq its.toArray n}) (hf:f {cls:=.type "list",data:=.seq its.toArray n}={cls:=.type "list",data:=.seq its'.toArray n'}) (r:Vals ys its') (hz:ys.length<=sizeLine) (t:Nat):
  Inv X pins σ (upd H p (.lst ys)) {s with heap:=s.heap.update p f,toks:=t}:=by
 have e:(s.heap.update p f).get? p=some {cls:=.type "list",data:=.seq its'.toArray n'}:=by
  rw[dX f ho (by rw[hf]<;>rfl),hf]
 refine I.write (x:=p) (e:=p) (by rw[h];trivial) (.inl rfl) (fun b u hb q=>(cu _ _ (di hb)).trans q) ⟨_,e⟩ ?_
 exact⟨hz,its',n',r,e⟩
def CB:V->V->V->Hp->(Hp->Prop)->Prop:=fun o i v H Q=>∃p xs k j,o= .ref p/\i= .int k/\H p=some (.lst xs)/\kI xs.length k=some j/\Q (upd H p (.lst (xs.set j v)))
theorem Fn:PSet X CB:=by
 intro pins s σ H o i v ov iv u Q I ro ri rv h
 obtain⟨p,xs,k,j,rfl,rfl,hp,hj,q⟩:=h
 cases ro
 obtain⟨t,rfl⟩:=ri
 obtain⟨its,n,r,ho,hz⟩:=I.lst hp
 obtain⟨h1,h2,h3,h4⟩:=yy hj
 have hl:=r.length
 have hn:=n6
 have I':Inv X pins σ (upd H p (.lst (xs.set j v))) {s with heap:=s.heap.update p (Obj.mapSeq (·.setIfInBounds j u))}:=
  I.lstUpd hp ho (Gx its n j u) (r.set rv j) (by rw[eE];exact hz) s.toks
 by_cases h0:0<=k
 ·have hk:k.toNat=j:=by
   rw[hV h0 h4]at h1
   exact aI h1
  exact PySem.W.ki_setAt ho h0 (by lia) (by rw [au,<- hl]; exact h4) (by rw [hk]; exact ⟨_,I',q⟩)
 ·have hk:(k+(its.toArray.size:Int)).toNat=j:=by
   rw[seqIndex_neg (by lia) h3]at h1
   rw [au,<- hl]
   exact aI h1
  exact PySem.W.ki_setBack ho (by lia) (by rw [au,<- hl]; exact h3) (by lia) (by rw [hk]; exact ⟨_,I',q⟩)
theorem Hm(lo hi:Option Int)(n:Nat):(sliceBounds lo hi none n).1=((HT.jc n 0 lo:Nat):Int)/\(sliceBounds lo hi none n).2.1=((HT.jc n n hi:Nat):Int)/\(sliceBounds lo hi none n).2.2=1:=by
 refine⟨?_,?_,rfl⟩
 ·cases lo with
  |none=>simp[sliceBounds,HT.jc]
  |some i=>
   simp only[sliceBounds,HT.jc,Option.getD_none,show(1:Int)>0 by decide,if_true]
   by_cases h:i<0
   ·simp only[h,if_true]<;>lia
   ·simp only[h,if_false]<;>lia
 ·cases hi with
  |none=>simp[sliceBounds,HT.jc]
  |some i=>
   simp only[sliceBounds,HT.jc,Option.getD_none,show(1:Int)>0 by decide,if_true]
   by_cases h:i<0
   ·simp only[h,if_true]<;>lia
   ·simp only[h,if_false]<;>lia
theorem Hv(its:List Value)(lo hi:Option Int):slicePick its.toArray lo hi none=((its.drop (HT.jc its.length 0 lo)).take (HT.jc its.length its.length hi-HT.jc its.length 0 lo)).toArray:=by
 obtain⟨h1,h2,h3⟩:=Hm lo hi its.toArray.size
 unfold slicePick
 rw[h1,h2,h3]
 simp only[sliceRange_one,pick_run,au]<;>rfl
def CA(K:PySem.W.Frag):V->Option Int->Option Int->Hp->VK->Prop:=fun x lo hi H Q=>∃a xs,x= .ref a/\SqL K H a xs/\∀p,H p=none->Q (.ref p) (upd H p (.lst (mB xs lo hi)))
theorem Eh:SlR X (CA X.K):=by
 intro pins s σ H x v vl vu lo hi sl Q I rx hs pl pu h
 obtain⟨a,xs,rfl,hx,q⟩:=h
 cases rx
 obtain⟨its,r,ht,hz⟩:=I.list hx
 have hlen:=r.length
 refine⟨"list",_,gM.lookup,ht.isList.typeIs,?_⟩
 refine wpAny_getItem_list_slice ht.isList hs pl pu .none (by simp) ?_ (by rw[au]<;>lia)
 rw [Hv,<- hlen]
 refine⟨.ref s.heap.objs.size,_,I.laid (t':=s.toks) (o:=.lst (mB xs lo hi)) (fun b ob q=>ag _ q) (ao _) ?_,rfl,q _ (I.hok.fresh (ao _))⟩
 exact⟨bE (AY xs lo hi) hz,_,0,(r.drop (HT.jc xs.length 0 lo)).take (HT.jc xs.length xs.length hi-HT.jc xs.length 0 lo),aR _ rfl⟩
noncomputable def pO:V->Bool
 | .non=>true
 | .bl _=>true
 | .int _=>true
 | .str _=>true
 |_=>false
noncomputable def sS:V->V->Bool
 | .non,.non=>true
 | .bl a,.bl b=>a==b
 | .bl a,.int b=>(if a then 1 else 0)==b
 | .int a,.bl b=>a==(if b then 1 else 0)
 | .int a,.int b=>a==b
 | .str a,.str b=>a==b
 |_,_=>false
theorem ID{A:Around}{s:Shared}{y x:V}{u v:Value}(ry:RelV y u)(rx:RelV x v)(fy:pO y=true)(fx:pO x=true):SeqAt.EqAt A s u v (sS y x):=by
 cases y with
 |non=>
  cases ry
  cases x with
  |non=>cases rx;exact ig _
  |bl b=>cases rx;exact SeqAt.EqAt.none_bool b
  |int b=>obtain⟨t,rfl⟩:=rx;exact SeqAt.EqAt.none_int b t
  |str b=>obtain⟨t,rfl⟩:=rx;exact SeqAt.EqAt.none_str b t
  |_=>exact absurd (show false=true from fx) aU
 |bl a=>
  cases ry
  cases x with
  |non=>cases rx;exact SeqAt.EqAt.bool_none a
  |bl b=>cases rx;exact SeqAt.EqAt.bool_bool a b
  |int b=>obtain⟨t,rfl⟩:=rx;exact SeqAt.EqAt.bool_int a b t
  |str b=>obtain⟨t,rfl⟩:=rx;exact SeqAt.EqAt.bool_str a b t
  |_=>exact absurd (show false=true from fx) aU
 |int a=>
  obtain⟨t',rfl⟩:=ry
  cases x with
  |non=>cases rx;exact SeqAt.EqAt.int_none a t'
  |bl b=>cases rx;exact SeqAt.EqAt.int_bool a t' b
  |int b=>obtain⟨t,rfl⟩:=rx;exact gH a t' b t
  |str b=>obtain⟨t,rfl⟩:=rx;exact SeqAt.EqAt.int_str a t' b t
  |_=>exact absurd (show false=true from fx) aU
 |str a=>
  obtain⟨t',rfl⟩:=ry
  cases x with
  |non=>cases rx;exact SeqAt.EqAt.str_none a t'
  |bl b=>cases rx;exact SeqAt.EqAt.str_bool a t' b
  |int b=>obtain⟨t,rfl⟩:=rx;exact SeqAt.EqAt.str_int a t' b t
  |str b=>obtain⟨t,rfl⟩:=rx;exact SeqAt.EqAt.str_str a t' b t
  |_=>exact absurd (show false=true from fx) aU
 |_=>exact absurd (show false=true from fy) aU
noncomputable def Bi(x:V)(xs:List V):Bool:=xs.any fun y=>sS y x
theorem vP:jbw X (.builtin "len") (fun xs H Q=>∃p ys,xs=[.ref p]/\(SqL X.K H p ys\/SqT X.K H p ys)/\Q (.int ys.length) H):=by
 intro pins s σ H xs us Q I r h
 obtain⟨p,ys,rfl,hq,q⟩:=h
 obtain⟨u,rfl,rx⟩:=mK r
 cases rx
 have hn:=n6
 rcases hq with hq|hq
 ·obtain⟨its,r',pl,hz⟩:=I.list hq
  have hlen:=r'.length
  exact Calls.call_len_list pl.isList (by simp only[au]<;>lia) ⟨.int ys.length,H,I.tok _,⟨s.toks+1,by rw[au,hlen]⟩,q⟩
 ·obtain⟨its,r',pl,hz⟩:=I.tuple hq
  have hlen:=r'.length
  exact len_tuple pl (by simp only[au]<;>lia) ⟨.int ys.length,H,I.tok _,⟨s.toks+1,by rw[au,hlen]⟩,q⟩
theorem Hg:jbw X (.type "list") (fun xs H Q=>∃p ys,xs=[.ref p]/\(SqL X.K H p ys\/SqT X.K H p ys)/\∀l,H l=none->Q (.ref l) (upd H l (.lst ys))):=by
 intro pins s σ H xs us Q I r h
 obtain⟨p,ys,rfl,hq,q⟩:=h
 obtain⟨u,rfl,rx⟩:=mK r
 cases rx
 have fin:∀(its:List Value),Vals ys its->ys.length<=sizeLine->∀(h':Heap) (c':Nat),(∀b o',s.heap.get? b=some o'->h'.get? b=some o')->
   h'.get? s.heap.objs.size=some {cls:=.type "list",dict:=none,data:=.seq its.toArray c',slots:=#[]}->EP X pins σ Q (.ref s.heap.objs.size) {s with heap:=h'}:=fun its r' hz h' c' kp e=>
  ⟨.ref s.heap.objs.size,_,I.laid (t':=s.toks) kp (ao _) (show jbk X.prog X.w _ h' _ (.lst ys)from⟨hz,its,c',r',e⟩),rfl,q _ (I.hok.fresh (ao _))⟩
 rcases hq with hq|hq
 ·obtain⟨its,r',pl,hz⟩:=I.list hq
  have hlen:=r'.length
  obtain⟨o,ho,hc,n,hd⟩:=pl.isList
  exact call_list_seq p (.inl rfl) ho hc hd (fun h' c' kp e=>fin its r' hz h' c' kp e) (by simp only[au]<;>lia)
 ·obtain⟨its,r',pl,hz⟩:=I.tuple hq
  have hlen:=r'.length
  obtain⟨o,ho,hc,n,hd⟩:=pl
  exact call_list_seq p (.inr rfl) ho hc hd (fun h' c' kp e=>fin its r' hz h' c' kp e) (by simp only[au]<;>lia)
def BY(K:PySem.W.Frag)(T:String)(x:V)(H:Hp):Prop:=match x with
 | .str _=>T="str"
 | .int _=>T="int"
 | .ref p=>(T="list"/\∃xs,SqL K H p xs)\/(T="tuple"/\∃o,K.lookup p=some o/\o.cls= .type "tuple"/\o.dict=none)\/
   (T="dict"/\((∃kvs,H p=some (.dK kvs))\/∃kvs,H p=some (.dT kvs)))\/(T="set"/\∃S n,H p=some (.set S n))
 |_=>False
theorem BX{pins:List (Addr×Obj)}{σ:St}{H:Hp}{s:Shared}{T:String}{x:V}{v:Value}(I:Inv X pins σ H s)(r:RelV x v)(ty:BY X.K T x H):
  s.TypeIs v T/\∀a,v= .ref a->∃ob,s.heap.get? a=some ob/\ob.dict=none:=by
 cases x with
 |str z=>
  obtain⟨t,rfl⟩:=r
  cases(show T="str" from ty)
  exact⟨typeIs_str s z t,fun _ e=>nomatch e⟩
 |int i=>
  obtain⟨t,rfl⟩:=r
  cases(show T="int" from ty)
  exact⟨typeIs_int s i t,fun _ e=>nomatch e⟩
 | ref p=>
  cases r
  rcases ty with⟨rfl,xs,hq⟩|⟨rfl,o,hk,hc,hd⟩|⟨rfl,hk⟩|⟨rfl,S,n,hk⟩
  ·obtain⟨its,_,pl,_⟩:=I.list hq
   refine⟨pl.isList.typeIs,fun a e=>?_⟩
   cases e
   obtain⟨o,n,e,c,hd,_⟩:=pl
   exact⟨o,e,hd⟩
  ·refine⟨⟨o,I.kIn p o hk,hc⟩,fun a e=>?_⟩
   cases e
   exact⟨o,I.kIn _ o hk,hd⟩
  ·have z:∃o,s.heap.get? p=some o/\o.ExactDict:=by
    rcases hk with⟨kvs,hk⟩|⟨kvs,hk⟩
    ·obtain⟨_,_,_,_,o,_,_,e,ex,_⟩:=I.hok p _ hk
     exact⟨o,e,ex⟩
    ·obtain⟨_,_,_,_,o,_,_,e,ex,_⟩:=I.hok p _ hk
     exact⟨o,e,ex⟩
   obtain⟨o,e,ex⟩:=z
   refine⟨⟨o,e,ex.1⟩,fun a e2=>?_⟩
   cases e2
   exact⟨o,e,ex.2.1⟩
  ·obtain⟨o,_,_,_,e,ex,_⟩:=I.hok p _ hk
   refine⟨⟨o,e,ex.1⟩,fun a e2=>?_⟩
   cases e2
   exact⟨o,e,ex.2.1⟩
 |_=>exact False.elim ty
variable{o e:Expr}{es:List Expr}{to:TE}{t:TA}{name:Str}{apos cpos:Pos}{T id:String}{r:V->List V->Hp->VK->Prop}
/- xs.append(e),list.index on a module's tuple .. are MtR facts of 06m -/
end
def BE(X:Cx)(id:String)(r:V->List V->Hp->VK->Prop):Prop:=
 ∀(pins:List (Addr×Obj)) (s:Shared) (σ:St) (H:Hp) (x:V) (xs:List V) (v:Value) (us:List Value) (Q:VK),Inv X pins σ H s->RelV x v->Vals xs us->r x xs H Q->
  wpAny (model X.prog X.w) X.A (call (.builtin id) (v::us)) (EP X pins σ Q) X.xe s
theorem Vals.one:∀{x:V} {us:List Value},Vals [x] us->∃u,us=[u]/\RelV x u
 |_,_,.cons r .nil=>⟨_,rfl,r⟩
theorem Vals.two:∀{x y:V} {us:List Value},Vals [x,y] us->∃u v,us=[u,v]/\RelV x u/\RelV y v
 |_,_,_,.cons r (.cons q .nil)=>⟨_,_,rfl,r,q⟩
theorem Vals.rep{xs:List V}{us:List Value}(h:Vals xs us):∀k:Nat,Vals (List.replicate k xs).flatten (List.replicate k us).flatten
 |0=>.nil
 |k+1=>by
  rw[List.replicate_succ,List.replicate_succ,List.flatten_cons,List.flatten_cons]
  exact Vals.append h (Vals.rep h k)
section
variable{X:Cx}{pins:List (Addr×Obj)}{σ:St}{H:Hp}{s:Shared}{l b:Addr}{xs ys zs:List V}
theorem Inv.lset{its its':List Value}{n:Nat}{f:Array Value->Array Value}{t':Nat}(I:Inv X pins σ H s)(hH:H l=some (.lst xs))
  (e:s.heap.get? l=some {cls:=.type "list",data:=.seq its.toArray n}) (hf:f its.toArray=its'.toArray) (hv:Vals ys its') (hz:ys.length<=sizeLine):
  Inv X pins σ (upd H l (.lst ys)) {s with heap:=s.heap.update l (Obj.mapSeq f),toks:=t'}:=by
 have q:=PySem.IsL.update e f
 rw[hf]at q
 refine I.write (x:=l) (e:=l) (by rw[hH];exact trivial) (.inl rfl) (fun b' u hb hu=>(cu s.heap (Obj.mapSeq f) (di hb)).trans hu) ⟨_,q⟩ ?_
 exact⟨hz,its',_,hv,q⟩
theorem Inv.lnew{its:List Value}{t':Nat}(I:Inv X pins σ H s)(hv:Vals ys its)(hz:ys.length<=sizeLine):
  Inv X pins σ (upd H s.heap.objs.size (.lst ys)) {s with heap:=s.heap.push {cls:=.type "list",data:=.seq its.toArray},toks:=t'}:=
 I.laid (fun _ _ q=>ag _ q) (ao _) ⟨hz,its,0,hv,aR _ rfl⟩
theorem Inv.fresh(I:Inv X pins σ H s):H s.heap.objs.size=none:=I.hok.fresh (ao _)
theorem Inv.lstM(I:Inv X pins σ H s)(hH:H l=some (.lst xs)):xs.length<=sizeLine/\∃(its:List Value) (n:Nat),Vals xs its/\xs.length=its.length/\s.heap.get? l=some {cls:=.type "list",data:=.seq its.toArray n}:=by
 obtain⟨z,its,n,r,e⟩:=I.hok l _ hH
 exact⟨z,its,n,r,r.length,e⟩
theorem zD{n:Nat}(h:n<=sizeLine):Builtin.List.listTooLong n=false:=by
 unfold Builtin.List.listTooLong
 exact aP (by lia)
end
section
variable{X:Cx}
def yK:V->List V->Hp->VK->Prop:=fun x vs H Q=>∃l xs y,x= .ref l/\vs=[y]/\H l=some (.lst xs)/\xs.length<sizeLine/\Q .non (upd H l (.lst (xs++[y])))
theorem Az:BE X "list.append" yK:=by
 intro pins s σ H x vs v us Q I rx rv h
 obtain⟨l,xs,y,rfl,rfl,hH,hz,q⟩:=h
 cases rx
 obtain⟨u,rfl,ru⟩:=rv.one
 obtain⟨z,its,n,r,hl,e⟩:=I.lstM hH
 refine iu F.slot_list_append ⟨_,e,rfl⟩ F.entry_list_append (F.args_list_append_2 _ _) (PySem.list_append l its.toArray n u (by rw[au];lia)) ⟨e,?_⟩
 refine⟨.non,_,I.lset (its':=its++[u]) hH e (by simp) (r.append (.cons ru .nil)) ?_,rfl,q⟩
 rw[av,List.length_singleton]
 lia
def yL:V->List V->Hp->VK->Prop:=fun x vs H Q=>∃l b xs zs,x= .ref l/\vs=[.ref b]/\H l=some (.lst xs)/\H b=some (.lst zs)/\xs.length+zs.length<=sizeLine/\Q .non (upd H l (.lst (xs++zs)))
theorem FU:BE X "list.extend" yL:=by
 intro pins s σ H x vs v us Q I rx rv h
 obtain⟨l,b,xs,zs,rfl,rfl,hH,hB,hz,q⟩:=h
 cases rx
 obtain⟨u,rfl,ru⟩:=rv.one
 cases ru
 obtain⟨z,its,n,r,hl,e⟩:=I.lstM hH
 obtain⟨z2,its2,n2,r2,hl2,e2⟩:=I.lstM hB
 have hsz:its.toArray.size+its2.toArray.size<=sizeLine:=by rw[au,au];lia
 have hlong:¬(!its.toArray.isEmpty&&Builtin.List.listTooLong (its.toArray.size+its2.toArray.size))=true:=by
  rw[zD hsz,eP]
  exact aU
 refine iu F.slot_list_extend ⟨_,e,rfl⟩ F.entry_list_extend (F.args_list_extend_2 _ _)
  (AutoSeq1.list_extend_list_list_0 l its.toArray n b its2.toArray n2 hlong (by rw[au];lia) (by lia)) ⟨e,e2,?_⟩
 refine⟨.non,_,I.lset (its':=its++its2) hH e (by simp) (r.append r2) ?_,rfl,q⟩
 rw[av]
 lia
def CN:R2:=fun x y H Q=>∃l b xs zs,x= .ref l/\y= .ref b/\H l=some (.lst xs)/\H b=some (.lst zs)/\xs.length+zs.length<=sizeLine/\∀p,H p=none->Q (.ref p) (upd H p (.lst (xs++zs)))
theorem Dj:OpR X (binaryOp .Add) CN:=by
 intro pins s σ H x y v u Q I rx ry h
 obtain⟨l,b,xs,zs,rfl,rfl,hH,hB,hz,q⟩:=h
 cases rx
 cases ry
 obtain⟨z,its,n,r,hl,e⟩:=I.lstM hH
 obtain⟨z2,its2,n2,r2,hl2,e2⟩:=I.lstM hB
 refine PySem.P.add_list e e2 ?_ (by rw[au,au];lia)
 have ea:its.toArray++its2.toArray=(its++its2).toArray:=by simp
 rw[ea]
 exact⟨.ref _,_,I.lnew (t':=s.toks) (r.append r2) (by rw[av];lia),rfl,q _ I.fresh⟩
end
section
variable{prog:Program}{w:World}{A:Around}{E:Value->Shared->Prop}{s:Shared}
end
section
variable{X:Cx}
end
end L2
namespace Att
open PySem PySem.W PySem.Calls PyProof.Rows
theorem HG{P:Params}{h:Heap}:∀(ns:List Int) (vs:List Value),WellAll P h vs (ns.map WData.int)->IntsAre vs ns:=by
 intro ns
 induction ns with
 |nil=>
  intro vs w
  rw[cL]at w
  cases w
  exact .nil
 | cons n ns ih=>
  intro vs w
  rw[ah]at w
  cases w with
  |cons a b=>
   cases a
   exact .cons _ _ (ih _ b)
theorem F7{l:OpenLaw}{n:Nat}(hn:l.most=some n){P:Params}{h:Heap}{args:List WData}{vals:List Value}
  (hpre:l.row.toRowW.claim.pre args=true) (hwl:WellAll P h vals args):
  ∃a vs ns,vals=[Value.ref a]/\args=[WData.list (ns.map WData.int)]/\h.get? a=some {cls:=.type "list",data:=.seq vs.toArray}/\IntsAre vs ns/\ns.length<=n:=by
 have hsh:WShape.hasAll [] args [.list .int]=true:=(pre_splitW hpre).1
 have hc:l.pre.holds [] {args:=args}=true:=(pre_splitW hpre).2
 obtain⟨d,r,rfl,h1,h2⟩:=hasAllW_cons hsh
 obtain rfl:=hasAllW_nil h2
 obtain⟨xs,rfl,h3⟩:=hasW_list h1
 obtain⟨ns,rfl⟩:=items_int h3
 have hlen:ns.length<=n:=by
  unfold OpenLaw.pre at hc
  have h4:(WTm.not (.lt (.lit (.int (n:Int))) (.len (.arg 0)))).holds [] {args:=[.list (ns.map .int)]}=true:=by
   have h4:=(holds_andW hc).1
   rw[hn]at h4
   exact h4
  have h5:=condW_of h4 (w_not (w_lt w_lit (w_len_list (w_arg rfl))))
  rw[ae]at h5
  refine Nat.le_of_not_lt fun q=>?_
  have q':(n:Int)<((ns.length:Nat):Int):=by lia
  first
   |(rw[aK q']at h5;exact absurd h5 (by decide))
   |(simp at h5;lia)
 cases hwl with
 |cons w1 w2=>
  cases w2
  cases w1 with
  |list ho hall=>exact⟨_,_,ns,rfl,rfl,ho,HG ns _ hall,hlen⟩
theorem F5(l:OpenLaw)(args:List WData):l.row.toRowW.claim.post args (.bool true) args=true:=
 postW_of (r:=l.row.toRowW) (X:=(true==true))
  (show WShape.has [] (.bool true) .bool=true by first|rfl|decide|simp[WShape.has,WShape.arms,WShape.armsAll])
  (show(WTm.eq .res (.lit (.bool true))).value [] {args:=args,res:=some (.bool true),after:=args}=some (.bool (true==true))from w_eq_bool (w_res rfl) w_lit) rfl
theorem IL{l:OpenLaw}{n:Nat}{q:Program}{loose:List Str}{XP:(Str->Option Value)->Heap->Prop}{YP:World->Heap->Prop}{d:DefRec}
  (hn:l.most=some n) (hdf:d.params.defaults=[])
  (call:∀(w:World) (s₀ s₁:Shared) (mg mb:Str->Option Value) (fa:Addr) (o:Obj) (pm cd doc:Value) (a:Addr) (vs:List Value) (ns:List Int),
   Ground q loose [] XP w s₀ mg mb s₁.heap->YP w s₁.heap->
   s₁.heap.get? fa=some o->o.data= .func (docDef d.name d.params d.body d.scope pm cd doc)->s₁.heap.CodeRec cd d.name->mg d.name=some (.ref fa)->
   s₁.heap.get? a=some {cls:=.type "list",data:=.seq vs.toArray}->IntsAre vs ns->ns.length<=n->s₁.gens= #[]->
   codeAny (model l.prog w) callerA (.call (.ref fa) ⟨[.ref a],[]⟩) (fun r s'=>r= .ok (.ret (.bool true))/\OldK s₁.heap s'.heap/\s'.os=s₁.os/\AllBare s'.gens) s₁):
  WalkO q loose XP YP l.row.toRowW d [] (fun f vs=>PySem.call f vs):=by
 intro w s₀ s₁ mg mb G Y fa o pm cd doc dV kV ho hd hcd hD hmg hg args vals as hpre hlay hrd hwl hlo
 obtain rfl:dV= .none:=Dflts.none hD hdf
 obtain rfl:kV= .none:=Dflts.noKw hD
 obtain⟨a,vs,ns,rfl,rfl,hobj,hints,hlen⟩:=F7 hn hpre hwl
 refine enter_call (gO (call w s₀ s₁ mg mb fa o pm cd doc a vs ns G Y ho (fd_plain hd) hcd hmg hobj hints hlen hg) fun r s' hq=>?_)
 obtain⟨rfl,h2,h3,h4⟩:=hq
 exact⟨.inl ⟨.bool true,.bool true,[],rfl,fun _=>rfl,.bool true,F5 l _,fun _=>⟨List.Pairwise.nil,fun _ hm=>(nomatch hm)⟩⟩,h2,h3,h4⟩
section
variable{prog:Program}{w:World}{A:Around}{E:Value->Shared->Prop}{s:Shared}{K:Frag}
end
end Att
namespace L2
open PySem PySem.Spec PyProof.Rows
theorem su:∀{vs:List Value} {ns:List Int},IntsAre vs ns->Vals (ns.map V.int) vs
 |_,_,.nil=>.nil
 |_,_,.cons n t h=>.cons ⟨t,rfl⟩ (su h)
def sY(H:Hp):Prop:=∀b,H b=none\/∃o xs,H b=some (.frz o (.lst xs))
theorem EN{P:Program}{w:World}{K:PySem.W.Frag}{mg mb:Str->Option Value}{CX:lu}{k:Nat}{fa a:Addr}{fd:FuncData}{x:Str}{sp:Sp}{s₁:Shared}{vs:List Value}{ns:List Int}
  (KX:K.In s₁.heap) (hns:s₁.heap.Ns mainGlobals mg) (hb:s₁.heap.Ns builtinsNs mb) (hbb:∀x:Str,x≠"__name__"->mb x=bootBuiltins x) (hlim:s₁.heap.NoLimit) (hg:s₁.gens= #[])
  (ha:s₁.heap.get? a=some {cls:=.type "list",data:=.seq vs.toArray}) (hi:IntsAre vs ns) (hl:ns.length<=sizeLine) (hr:Room k callerA)
  (F:∀base:Heap,K.In base->base.Ns mainGlobals mg->FnOk P w K mg base CX k fa fd [x] sp) (hbind:∀(s:Shared) (u:Value),BindsTo s fd ⟨[u],[]⟩ [(x,u)])
  (hsp:∀H:Hp,sY H->SqL K H a (ns.map V.int)->sp [.ref a] H (fun v _=>v= .bl true) fun _ _ _=>False)
  (hCX:∀H e s',CX [] H s₁ (fun _ _ _=>False) e s'->False):
  codeAny (model P w) callerA (.call (.ref fa) ⟨[.ref a],[]⟩) (fun r s'=>r= .ok (.ret (.bool true))/\OldK s₁.heap s'.heap/\s'.os=s₁.os/\AllBare s'.gens) s₁:=by
 have rv:=su hi
 have lenV:=hi.length
  -- from an abstract heap in which nothing but the script may be tracked
 have core:∀H:Hp,sY H->SqL K H a (ns.map V.int)->HOk P w H s₁.heap->(∀b,H b≠none->b=a)->(H a≠none->K.lookup a=none)->
   codeAny (model P w) callerA (.call (.ref fa) ⟨[.ref a],[]⟩) (fun r s'=>r= .ok (.ret (.bool true))/\OldK s₁.heap s'.heap/\s'.os=s₁.os/\AllBare s'.gens) s₁:=by
  intro H hO hS hok hA hK
  have base_of:∀{b:Addr} {o:Obj},s₁.heap.get? b=some o->H b=none->(ng s₁.heap H).get? b=some o:=fun e n=>EI e n
  have noA:∀{b:Addr} {o:Obj} {es:Array DictEntry} {ep:Nat},s₁.heap.get? b=some o->o.data= .dict es ep->H b=none:=fun{b o es ep} e d=>by
   cases q:H b with
   |none=>rfl
   |some u=>
    have e':b=a:=hA b (by rw[q];simp)
    subst e'
    rw[ha]at e;cases e
    have d':Data.seq vs.toArray _=Data.dict es ep:=d
    cases d'
  have nsK:∀{b:Addr} {m:Str->Option Value},s₁.heap.Ns b m->(ng s₁.heap H).Ns b m:=fun{b m} ⟨o,es,ep,e,d,r⟩=>⟨o,es,ep,base_of e (noA e d),d,r⟩
  have hKb:K.In (ng s₁.heap H):=fun b o e=>base_of (KX b o e) (by
   cases q:H b with
   |none=>rfl
   |some u=>
    have e':b=a:=hA b (by rw[q];simp)
    subst e'
    rw[hK (by rw[q];simp)]at e;cases e)
  have hM:Mod K mg (ng s₁.heap H):=⟨hKb,nsK hns,⟨mb,nsK hb,hbb⟩,let⟨mc,h1,h2⟩:=hlim;⟨mc,nsK h1,h2⟩⟩
  have e0:Env0 P w K mg (ng s₁.heap H) callerA [] s₁ H:=⟨rfl,hM,fun b o e=>D1 e,Nat.le_of_eq (FL _ _),trivial,fun b hb=>absurd (show b∈([]:List Addr)from hb) (by simp),hok,.of_eq hg⟩
  refine gO ((F _ hKb (nsK hns)).run callerA [] s₁ H ⟨[.ref a],[]⟩ [.ref a] [.ref a] _ _ hr e0 (hbind s₁ (.ref a)) (.cons rfl .nil) (hsp H hO hS)) fun r s' h=>?_
  cases r with
  |error e=>exact(hCX H e s' h).elim
  | ok fl=>
   cases fl with
   |next=>exact False.elim h
   |brk=>exact False.elim h
   |cont=>exact False.elim h
   | ret u=>
    obtain⟨v,H',os,bare,un,hok',r',q⟩:=h
    have q':v= .bl true:=q
    subst q'
    obtain rfl:u=Value.bool true:=r'
    refine⟨rfl,OldK.of_keep fun b o e=>?_,os,bare⟩
    cases q:H b with
    |none=>exact un.keep b o e q (by intro z;exact absurd (show b∈([]:List Addr)from z) (by simp)) (by simp)
    | some u=>
     rcases hO b with z|⟨ob,xs,z⟩
     ·rw[q]at z;cases z
     ·have z2:=un.frzs b ob _ z
      obtain⟨e1,_⟩:=hok b _ z
      obtain⟨e2,_⟩:=hok' b _ z2
      rw[e]at e1;cases e1
      exact e2
 cases hk:K.lookup a with
 | some o=>
    -- the script is one of the module's own objects
  have e:=KX a o hk
  rw[ha]at e
  cases e
  refine core (fun _=>none) (fun _=>.inl rfl) (.inr ⟨_,vs.toArray,_,hk,rfl,rfl,rfl,by rw[au,lenV];exact hl,by simpa using rv⟩) (fun b u z=>by have z':(none:Option HO)=some u:=z;cases z') (fun b z=>absurd rfl z) fun z=>absurd rfl z
 | none=>
  refine core (fun b=>if b=a then some (.frz {cls:=.type "list",data:=.seq vs.toArray} (.lst (ns.map V.int)))else none) (fun b=>?_) (.inl (.inr ⟨{cls:=.type "list",data:=.seq vs.toArray},aA rfl⟩)) (fun b u z=>?_) (fun b z=>?_) fun _=>hk
  ·by_cases hb:b=a
   ·exact .inr ⟨_,_,aA hb⟩
   ·exact .inl (ay hb)
  ·by_cases hb:b=a
   ·have z':=(aA hb).symm.trans z
    cases z'
    subst hb
    exact⟨ha,by rw[ae];exact hl,vs,_,rv,ha⟩
   ·have z':=(ay hb).symm.trans z
    cases z'
  ·by_cases hb:b=a
   ·exact hb
   ·exact absurd (ay hb) z
noncomputable abbrev BG{K:PySem.W.Frag}{h:Heap}(_:K.In h):PySem.W.Frag:=K
theorem zk{l:PySem.W.OpenLaw}{n k:Nat}{q:Program}{loose:List Str}{XP:(Str->Option Value)->Heap->Prop}{YP:World->Heap->Prop}{d:DefRec}{K:Params->PySem.W.Frag}{CX:World->lu}{sp:World->Sp}{x:Str}
    (hn:l.most=some n) (hn2:n<=sizeLine) (hdf:d.params.defaults=[]) (hr:Room k callerA)
    (hY:∀(w:World) (h:Heap),YP w h->(K w.params).In h)
    (F:∀(w:World) (mg:Str->Option Value) (fa:Addr) (h:Heap),(K w.params).In h->h.Ns mainGlobals mg->mg d.name=some (.ref fa)->
      ∃fd:FuncData,(∀(s:Shared) (u:Value),BindsTo s fd ⟨[u],[]⟩ [(x,u)])/\
        ∀base:Heap,(K w.params).In base->base.Ns mainGlobals mg->FnOk l.prog w (K w.params) mg base (CX w) k fa fd [x] (sp w))
    (hsp:∀(w:World) (H:Hp) (a:Addr) (ns:List Int),ns.length<=n->sY H->SqL (K w.params) H a (ns.map V.int)->sp w [.ref a] H (fun v _=>v= .bl true) fun _ _ _=>False)
    (hCX:∀(w:World) (H:Hp) (s:Shared) (e:Value) (s':Shared),CX w [] H s (fun _ _ _=>False) e s'->False):
    PySem.W.WalkO q loose XP YP l.row.toRowW d [] (fun f vs=>PySem.call f vs):=by
  refine Att.IL hn hdf fun w s₀ s₁ mg mb fa o pm cd doc a vs ns G Y ho hd hcd hmg hobj hints hlen hg=>?_
  have KX:=hY w _ Y
  obtain⟨fd,hb,hF⟩:=F w mg fa _ KX G.T.g hmg
  exact EN KX G.T.g G.T.b G.T.builtins G.T.nolimit hg hobj hints (bE hlen hn2) hr hF hb (fun H hO hS=>hsp w H a ns hlen hO hS) fun H e s'=>hCX w H s₁ e s'
end L2
/- THE LAST THEOREM (shape;LID,My.*are yours):
   My.Adr:a structure of the addresses that your layer names (classes,functions);My.Txt K t:a structure (Prop) of the equations over K;
   My.txt_mk:{K} {implicit addresses ..} (e1:nsIn K mainGlobals "law"=some (some (.ref f))) (e2:K.lookup f=some ⟨oc,od,.func (fnOf "law" "law" params body scope dV kV doc pm an cdv ct),sl⟩) (e3:codeIn K cdv "law"=true) ..:∃t,My.Txt K t
set_option maxRecDepth 100000 in
set_option maxHeartbeats 0 in
theorem PySem.Challenge.cw_LID_holds:PySem.Challenge.rw_LID.Holds:=by
 w_on;o_law;k_head;(case hw=>w_witness2)
 k_fill
 refine L2.zk (l:=PySem.Challenge.rw_LID) (n:=63) (k:=40) (x:="script") (CX:=fun w=>..) (sp:=fun _=>My.sp_law) rfl (by decide) rfl ⟨rfl,by decide,by decide⟩ (fun w h Y=>PySem.W.kIn_of Y) ?F ?S ?C
 case F=>
  intro w mg fa h KX G hmg
  have T:∃t,My.Txt (L2.BG KX) t:=by
   dsimp only[L2.BG]                          -- K must stand as «<heap const>w.params» for k_is
   refine' My.txt_mk ?e1 ?e2 ?e3 ..
   (case e1=>PySem.W.k_is)                    -- in the order:a name->its address->its object->its parts
   (case e2=>PySem.W.k_is)
   ..
  obtain⟨t,T⟩:=T
  have e0:=hmg.symm.trans (cU KX G T.law)
  cases e0                                       -- fa is the law's own address
  exact⟨_,fun s u=>.of_eq rfl,fun base kb nb=>My.law_fn T kb nb⟩     -- if «.of_eq rfl» comes too early:refine' ⟨_,?b,fun base kb nb=>My.law_fn T kb nb⟩;exact fun s u=>.of_eq rfl
 case S=>exact fun w H a ns hl hO hS=>..
 case C=>exact ..
(the tactic k_is has no namespace:write k_is) -/
namespace L2
open PySem PySem.Spec PyProof.Rows
noncomputable def n8(s:Stmt):Arguments:=match s with
 | .FunctionDef _ a _ _ _ _ _ _ _ _=>a
 |_=>{posonlyargs:=[],args:=[],vararg:=none,kwonlyargs:=[],kw_defaults:=[],kwarg:=none,defaults:=[]}
noncomputable def nD(s:Stmt):List Stmt:=match s with
 | .FunctionDef _ _ b _ _ _ _ _ _ _=>b
 |_=>[]
noncomputable def je(s:Stmt):Scope:=match s with
 | .FunctionDef _ _ _ _ _ _ sc _ _ _=>sc
 |_=>{kind:=.function,names:=[],isGenerator:=false,isCoroutine:=false}
abbrev iR:lu:=fun _ _ _ _ _ _=>False
abbrev E0:XK:=fun _ _ _=>False
theorem iZ{X:Cx}:mZ iR X E0:=fun _ _ _ _ _ _ _ h=>h.elim
structure Fun(K:PySem.W.Frag)(x qual:Str)(st:Stmt)(f:Addr)(fd:FuncData):Prop where
 ex:∃(oc:Value) (od:Option Addr) (kV doc pm:Value) (an:Option Addr) (cdv ct:Value) (osl:Array (Option Value)),
  fd=PySem.W.fnOf x qual (n8 st) (nD st) (je st) .none kV doc pm an cdv ct/\K.lookup f=some ⟨oc,od,.func fd,osl⟩/\PySem.W.codeIn K cdv qual=true
 kp:PySem.W.keepIn K (.ref f)=true
section
variable{P:Program}{w:World}{K:PySem.W.Frag}{mg:Str->Option Value}{base:Heap}
theorem Fun.ok{x qual:Str}{st:Stmt}{f:Addr}{fd:FuncData}{N ps:List Str}{k:Nat}{sp:Sp}(F:Fun K x qual st f fd)(S:FnScope N ps (je st))(len:∀vs H Q E,sp vs H Q E->vs.length=ps.length)
  (hbody:∀(cdv:Value) (A:Around) (outer:List Env) (s:Shared) (H:Hp) (vs:List V) (Q:VK) (E:XK),Room k (A.deeper (envOfC qual (je st) s.heap.objs.size f cdv))->sp vs H Q E->
   ∃t,PSs (pB iR P w K mg base N qual (je st) f cdv A outer s H E).nox (nD st) t/\t {nx:=fun _ H'=>Q .non H',rt:=Q} (mY N vs) H):FnOk P w K mg base iR (k+1) f fd ps sp:=by
 obtain⟨oc,od,kV,doc,pm,an,cdv,ct,osl,rfl,lk,hcd⟩:=F.ex
 refine Iq lk hcd S len fun A outer s H vs Q E hr hsp=>?_
 obtain⟨t,h,q⟩:=hbody cdv A outer s H vs Q E hr hsp
 exact⟨t,h.nox,q⟩
theorem xG{x qual:Str}{st:Stmt}{f:Addr}{oc:Value}{od an:Option Addr}{osl:Array (Option Value)}{kV doc pm cdv ct:Value}(l:K.lookup f=some ⟨oc,od,.func (PySem.W.fnOf x qual (n8 st) (nD st) (je st) .none kV doc pm an cdv ct),osl⟩)
  (c:PySem.W.codeIn K cdv qual=true) (k:PySem.W.keepIn K (.ref f)=true):Fun K x qual st f (PySem.W.fnOf x qual (n8 st) (nD st) (je st) .none kV doc pm an cdv ct):=⟨⟨oc,od,kV,doc,pm,an,cdv,ct,osl,rfl,l,c⟩,k⟩
end
theorem jn{A:Around}{k:Nat}(hr:Room k A):A.units+1<cLine:=Nat.lt_of_le_of_lt (Nat.add_le_add_left (by decide:1<=64) _) hr.units
section
variable{X:Cx}
theorem pv(i:Nat){x:Str}{pos:Pos}(hN:X.N[i]? =some x:=by rfl)(hv:qt X.env.scope x:=by first|exact Or.inl rfl|exact Or.inr (Or.inl rfl)|exact Or.inr (Or.inr rfl))(hd:(x==("__debug__":Str))=false:=by decide)
  (hcd:(x==("__classdict__":Str))=false:=by decide):PE X (.Name x pos) (wJ i):=xS hN hv hd hcd
end
theorem ou{c A B:Prop}[Decidable c](h1:c->A)(h2:¬c->B):if c then A else B:=by
 by_cases h:c
 ·rw[aA h]
  exact h1 h
 ·rw[ay h]
  exact h2 h
def Same(H H':Hp):Prop:=∀b o,H b=some o->H' b=some o
theorem Same.refl(H:Hp):Same H H:=fun _ _ h=>h
theorem Same.trans{H H1 H2:Hp}(a:Same H H1)(b:Same H1 H2):Same H H2:=fun c o h=>b c o (a c o h)
theorem Same.free{H H':Hp}(e:Same H H'){l:Addr}(h:H' l=Option.none):H l=Option.none:=by
 cases q:H l with
 |none=>rfl
 |some o=>
  rw[e l o q]at h
  cases h
end L2
set_option maxHeartbeats 8000000
namespace L2
open PySem PySem.Spec PyProof.Rows
section
variable{κ:Type}[DecidableEq κ]
noncomputable def i8(kvs:List (κ×V))(k:κ):Option V:=(kvs.find? fun kv=>decide (kv.1=k)).map (·.2)
noncomputable def jF(kvs:List (κ×V))(k:κ)(v:V):List (κ×V):=
 if(kvs.any fun kv=>decide (kv.1=k))=true then kvs.map (fun kv=>if kv.1=k then(kv.1,v)else kv)else kvs++[(k,v)]
theorem mq{p:κ×V}{r:List (κ×V)}{k:κ}(e:p.1=k):i8 (p::r) k=some p.2:=by simp[i8,List.find?_cons,e]
theorem mn{p:κ×V}{r:List (κ×V)}{k:κ}(e:¬p.1=k):i8 (p::r) k=i8 r k:=by simp[i8,List.find?_cons,e]
theorem qe(k:κ):∀kvs:List (κ×V),(kvs.any fun kv=>decide (kv.1=k))=(i8 kvs k).isSome
 |[]=>rfl
 |p::r=>by
  rw[List.any_cons]
  by_cases e:p.1=k
  ·simp only[mq e,aK e,Bool.true_or,Option.isSome_some]
  ·rw[mn e,aP e,Bool.false_or];exact qe k r
theorem Ab(k j:κ)(y:V):∀kvs:List (κ×V),i8 (kvs.map fun kv=>if kv.1=k then(kv.1,y)else kv) j=(i8 kvs j).map fun x=>if j=k then y else x
 |[]=>rfl
 | p::r=>by
  have ih:=Ab k j y r
  rw[ah]
  by_cases h:p.1=k
  ·rw[aA h]
   by_cases e:p.1=j
   ·rw[mq (p:=(p.1,y)) e,mq e,Option.map_some,aA (e.symm.trans h)]
   ·rw[mn (p:=(p.1,y)) e,mn e,ih]
  ·rw[ay h]
   by_cases e:p.1=j
   ·rw[mq (p:=p) e,mq e,Option.map_some,ay (fun z=>h (e.trans z))]
   ·rw[mn (p:=p) e,mn e,ih]
theorem AE(k j:κ)(y:V):∀kvs:List (κ×V),i8 kvs k=none->i8 (kvs++[(k,y)]) j=if j=k then some y else i8 kvs j
 |[],_=>by
  by_cases e:k=j
  ·rw[aA e.symm];exact mq (p:=(k,y)) e
  ·rw[ay (fun z=>e z.symm)];exact mn (p:=(k,y)) e
 |p::r,hn=>by
  rw[List.cons_append]
  have hk:¬p.1=k:=fun z=>by rw[mq z]at hn;cases hn
  rw[mn hk]at hn
  have ih:=AE k j y r hn
  by_cases e:p.1=j
  ·rw[mq e,mq e,ay (fun z=>hk (e.trans z))]
  ·rw[mn e,mn e,ih]
theorem Fs(kvs:List (κ×V))(k j:κ)(y:V):i8 (jF kvs k y) j=if j=k then some y else i8 kvs j:=by
 unfold jF
 by_cases a:(kvs.any fun kv=>decide (kv.1=k))=true
 ·rw[aA a,Ab]
  rw[qe]at a
  by_cases e:j=k
  ·obtain⟨x,hx⟩:=eC.mp a
   rw[aA e,e,hx,Option.map_some,aA rfl]
  ·rw[ay e]
   cases i8 kvs j with
   |none=>rfl
   |some x=>rw[Option.map_some,ay e]
 ·rw[ay a]
  refine AE k j y kvs ?_
  rw[qe]at a
  cases q:i8 kvs k with
  |none=>rfl
  |some x=>rw[q]at a;exact(a rfl).elim
theorem sL(kvs:List (κ×V))(k:κ)(v:V):(jF kvs k v).length<=kvs.length+1:=by
 unfold jF
 split
 ·rw[ae];lia
 ·rw[av,List.length_cons,List.length_nil];lia
theorem zL{kvs:List (κ×V)}{k:κ}(v:V)(h:i8 kvs k=none):jF kvs k v=kvs++[(k,v)]:=by
 unfold jF
 rw[qe,h]
 exact ay (by decide)
theorem RelO.isSome_eq{o:Option V}{u:Option Value}(r:RelO o u):o.isSome=u.isSome:=by
 cases o with
 |none=>cases u with
  |none=>rfl
  |some _=>exact(show False from r).elim
 |some _=>cases u with
  |none=>exact(show False from r).elim
  |some _=>rfl
theorem RelO.getD{o:Option V}{u:Option Value}{d:V}{d':Value}(r:RelO o u)(rd:RelV d d'):RelV (o.getD d) (u.getD d'):=by
 cases o with
 |none=>cases u with
  |none=>exact rd
  |some _=>exact(show False from r).elim
 |some _=>cases u with
  |none=>exact(show False from r).elim
  |some _=>exact r
theorem KV.val{kvs:List (κ×V)}{vs:List (κ×Value)}(r:KV kvs vs)(k:κ):RelO (i8 kvs k) (valueAt vs k):=by
 unfold KV at r
 induction r with
 |nil=>exact True.intro
 | @cons p q ps qs h t ih=>
  obtain⟨h1,h2⟩:=h
  by_cases e:p.1=k
  ·have e':q.1=k:=h1.symm.trans e
   have b:valueAt (q::qs) k=some q.2:=by simp[valueAt,List.find?_cons,e']
   rw[mq e,b];exact h2
  ·have e':¬q.1=k:=fun z=>e (h1.trans z)
   have b:valueAt (q::qs) k=valueAt qs k:=by simp[valueAt,List.find?_cons,e']
   rw[mn e,b];exact ih
theorem KV.any{kvs:List (κ×V)}{vs:List (κ×Value)}(r:KV kvs vs)(k:κ):(kvs.any fun kv=>decide (kv.1=k))=vs.any fun kv=>decide (kv.1=k):=by
 unfold KV at r
 induction r with
 |nil=>rfl
 |cons h t ih=>rw[List.any_cons,List.any_cons,ih,h.1]
theorem KV.repl{kvs:List (κ×V)}{vs:List (κ×Value)}(r:KV kvs vs)(k:κ){y:V}{u:Value}(ry:RelV y u):
  KV (kvs.map fun kv=>if kv.1=k then(kv.1,y)else kv) (vs.map fun kv=>if kv.1=k then(kv.1,u)else kv):=by
 unfold KV at r ⊢
 induction r with
 |nil=>exact .nil
 | @cons p q ps qs h t ih=>
  rw[ah,ah]
  refine .cons ?_ ih
  obtain⟨h1,h2⟩:=h
  by_cases e:p.1=k
  ·rw[aA e,aA (h1.symm.trans e)];exact⟨h1,ry⟩
  ·rw[ay e,ay (fun z=>e (h1.trans z))];exact⟨h1,h2⟩
theorem KV.put{kvs:List (κ×V)}{vs:List (κ×Value)}(r:KV kvs vs)(k:κ){y:V}{u:Value}(ry:RelV y u):KV (jF kvs k y) (stored vs k u):=by
 unfold jF stored
 rw[r.any k]
 by_cases e:(vs.any fun kv=>decide (kv.1=k))=true
 ·rw[aA e,aA e];exact r.repl k ry
 ·rw[ay e,ay e];exact Paired.snoc r ⟨rfl,ry⟩
theorem KV.keys{kvs:List (κ×V)}{vs:List (κ×Value)}(r:KV kvs vs):kvs.map (·.1)=vs.map (·.1):=by
 unfold KV at r
 induction r with
 |nil=>rfl
 |cons h t ih=>rw[ah,ah,ih,h.1]
theorem KV.length{kvs:List (κ×V)}{vs:List (κ×Value)}(r:KV kvs vs):kvs.length=vs.length:=aD r
end
theorem mV{P:Program}{w:World}{k:iJ}{u:Value}(r:RelV (kV k) u):(jR P w).is k u=true:=by
 cases k with
 |inl i=>obtain⟨t,e⟩:=(show ∃t,u=Value.int i t from r);subst e;exact GW P w i t
 |inr x=>obtain⟨t,e⟩:=(show ∃t,u=Value.str x t from r);subst e;exact GX P w x t
theorem Aw{P:Program}{w:World}:∀{ks:List iJ} {us:List Value},Vals (ks.map kV) us->ItemsAre (jR P w) ks us
 |[],_,r=>by rw[cL]at r;cases r;exact .nil
 |k::ks,_,r=>by
  rw[ah]at r
  cases r with
  |cons h t=>exact .cons (mV h) (Aw t)
abbrev KT(H:Hp):List (List iJ×V)->List (List iJ×Addr×Value)->Prop:=Paired fun p q=>p.1=q.1/\H q.2.1=some (.tup (p.1.map kV))/\RelV p.2 q.2.2
theorem KT.val{H:Hp}{kvs:List (List iJ×V)}{xs:List (List iJ×Addr×Value)}(r:KT H kvs xs)(k:List iJ):RelO (i8 kvs k) ((atKey xs k).map (·.2)):=by
 induction r with
 |nil=>exact True.intro
 | @cons p q ps qs h t ih=>
  obtain⟨h1,_,h2⟩:=h
  by_cases e:p.1=k
  ·have e':q.1=k:=h1.symm.trans e
   have b:atKey (q::qs) k=some q.2:=by simp[atKey,List.find?_cons,e']
   rw[mq e,b];exact h2
  ·have e':¬q.1=k:=fun z=>e (h1.trans z)
   have b:atKey (q::qs) k=atKey qs k:=by simp[atKey,List.find?_cons,e']
   rw[mn e,b];exact ih
theorem KT.repl{H:Hp}{kvs:List (List iJ×V)}{xs:List (List iJ×Addr×Value)}(r:KT H kvs xs)(k:List iJ){y:V}{u:Value}(ry:RelV y u):
  KT H (kvs.map fun kv=>if kv.1=k then(kv.1,y)else kv) (xs.map (putAt k u)):=by
 induction r with
 |nil=>exact .nil
 | @cons p q ps qs h t ih=>
  rw[ah,ah]
  refine .cons ?_ ih
  obtain⟨h1,h2,h3⟩:=h
  unfold putAt
  by_cases e:p.1=k
  ·rw[aA e,aA (h1.symm.trans e)];exact⟨h1,h2,ry⟩
  ·rw[ay e,ay (fun z=>e (h1.trans z))];exact⟨h1,h2,h3⟩
theorem KT.put{H:Hp}{kvs:List (List iJ×V)}{xs:List (List iJ×Addr×Value)}(r:KT H kvs xs)(k:List iJ){b:Addr}{y:V}{u:Value}(hb:H b=some (.tup (k.map kV)))(ry:RelV y u):
  KT H (jF kvs k y) (storedH xs k b u):=by
 have e:(kvs.any fun kv=>decide (kv.1=k))=(atKey xs k).isSome:=by
  rw[qe,(r.val k).isSome_eq,fw]
 unfold jF storedH
 rw[e]
 by_cases q:(atKey xs k).isSome=true
 ·rw[aA q,aA q];exact r.repl k ry
 ·rw[ay q,ay q];exact Paired.snoc r ⟨rfl,hb,ry⟩
theorem KT.keeps{H H':Hp}{kvs:List (List iJ×V)}{xs:List (List iJ×Addr×Value)}(r:KT H kvs xs)(ht:∀b ys,H b=some (.tup ys)->H' b=some (.tup ys)):KT H' kvs xs:=
 Paired.mapP r fun _ _ z=>⟨z.1,ht _ _ z.2.1,z.2.2⟩
section
variable{P:Program}{w:World}{H:Hp}{h:Heap}{a:Addr}
theorem xl{u:HO}(ok:HOk P w H h)(e:Rd H a u):jbk P w H h a u:=e.ok ok
theorem nq{kvs:List (iJ×V)}(ok:HOk P w H h)(e:Rd H a (.dK kvs)):kvs.length<=sizeLine/\(a==sysModules)=false/\∃vs,KV kvs vs/\h.DictOf (jR P w) a vs:=
 show jbk P w H h a (.dK kvs)from xl ok e
theorem qS{kvs:List (iJ×V)}(ok:HOk P w H h)(e:H a=some (.dK kvs)):kvs.length<=sizeLine/\(a==sysModules)=false/\∃vs,KV kvs vs/\h.DictOf (jR P w) a vs:=nq ok (.inl e)
theorem ny{ks:List iJ}(ok:HOk P w H h)(e:H a=some (.tup (ks.map kV))):(tupleKind (jR P w)).is h ks a:=by
 obtain⟨_,its,r,o,h1,h2,n,h3⟩:=(show jbk P w H h a (.tup (ks.map kV))from ok a _ e)
 exact⟨o,its.toArray,n,h1,h2,h3,by simpa using Aw r⟩
theorem nr{kvs:List (List iJ×V)}(ok:HOk P w H h)(e:Rd H a (.dT kvs)):kvs.length<=sizeLine/\(a==sysModules)=false/\
  ∃xs,KT H kvs xs/\h.DictOfH (tupleKind (jR P w)) a xs:=by
 obtain⟨z,y,xs,r,o,es,ep,h1,h2,h3,h4,h5⟩:=(show jbk P w H h a (.dT kvs)from xl ok e)
 refine⟨z,y,xs,r,o,es,ep,h1,h2,h3,h4,fun x hx=>?_,h5⟩
 have all:∀{l:List (List iJ×V)} {m:List (List iJ×Addr×Value)},KT H l m->∀x∈m,(tupleKind (jR P w)).is h x.1 x.2.1:=by
  intro l m q
  induction q with
  |nil=>intro x hx;exact nomatch hx
  | @cons p q ps qs hq t ih=>
   intro x hx
   rcases aM.mp hx with e|hx
   ·subst e
    exact ny ok (by rw [<- hq.1]; exact hq.2.1)
   ·exact ih x hx
 exact all r x hx
theorem II{kvs:List (List iJ×V)}(ok:HOk P w H h)(e:H a=some (.dT kvs)):kvs.length<=sizeLine/\(a==sysModules)=false/\
  ∃xs,KT H kvs xs/\h.DictOfH (tupleKind (jR P w)) a xs:=nr ok (.inl e)
end
def DGet(H:Hp)(a:Addr)(y:V)(r:Option V):Prop:=
 (∃kvs k,Rd H a (.dK kvs)/\y=kV k/\r=i8 kvs k)\/∃kvs k b,Rd H a (.dT kvs)/\y= .ref b/\H b=some (.tup (k.map kV))/\r=i8 kvs k
def DPut(H:Hp)(a:Addr)(y v:V)(H':Hp):Prop:=
 (∃kvs k,H a=some (.dK kvs)/\y=kV k/\kvs.length<sizeLine/\H'=upd H a (.dK (jF kvs k v)))\/
 ∃kvs k b,H a=some (.dT kvs)/\y= .ref b/\H b=some (.tup (k.map kV))/\kvs.length<sizeLine/\H'=upd H a (.dT (jF kvs k v))
theorem DGet.k{H:Hp}{a:Addr}{kvs:List (iJ×V)}{k:iJ}(e:H a=some (.dK kvs)):DGet H a (kV k) (i8 kvs k):=.inl ⟨kvs,k,.inl e,rfl,rfl⟩
theorem DGet.t{H:Hp}{a b:Addr}{kvs:List (List iJ×V)}{k:List iJ}(e:H a=some (.dT kvs))(eb:H b=some (.tup (k.map kV))):DGet H a (.ref b) (i8 kvs k):=.inr ⟨kvs,k,b,.inl e,rfl,eb,rfl⟩
theorem DPut.k{H:Hp}{a:Addr}{kvs:List (iJ×V)}{k:iJ}{v:V}(e:H a=some (.dK kvs))(hl:kvs.length<sizeLine):DPut H a (kV k) v (upd H a (.dK (jF kvs k v))):=.inl ⟨kvs,k,e,rfl,hl,rfl⟩
theorem DPut.t{H:Hp}{a b:Addr}{kvs:List (List iJ×V)}{k:List iJ}{v:V}(e:H a=some (.dT kvs))(eb:H b=some (.tup (k.map kV)))(hl:kvs.length<sizeLine):
  DPut H a (.ref b) v (upd H a (.dT (jF kvs k v))):=.inr ⟨kvs,k,b,e,rfl,eb,hl,rfl⟩
section
variable{X:Cx}{pins:List (Addr×Obj)}{σ:St}{H:Hp}{s:Shared}{a:Addr}{y v:V}{u r:Value}{o:Option V}{A:Around}{E:Value->Shared->Prop}
theorem Inv.big(I:Inv X pins σ H s):sysModules<s.heap.objs.size:=by
 have h:mainGlobals<s.heap.objs.size:=(I.mod.glob.keeps I.bk).lt
 exact Nat.lt_trans (by decide) h
theorem FB{Q:Value->Shared->Prop}(hu:A.units+1<cLine)(I:Inv X pins σ H s)(g:DGet H a y (some v))(ry:RelV y u)(h:∀w' s',Inv X pins σ H s'->RelV v w'->Q w' s'):
  wpAny (model X.prog X.w) A (getItem (.ref a) u) Q E s:=by
 rcases g with⟨kvs,k,e,ey,l⟩|⟨kvs,k,b,e,ey,eb,l⟩
 ·subst ey
  obtain⟨z,hd,vs,rel,dd⟩:=nq I.hok e
  obtain⟨w',hw,rw'⟩:=RelO.some_of (v:=v) (o:=valueAt vs k) (by rw[l];exact rel.val k)
  exact wpAny_getItem_of (mV ry) dd.mapOf hw (h w' _ (I.tok _) rw')
 ·subst ey
  cases(show u=Value.ref b from ry)
  obtain⟨z,hd,xs,rel,dd⟩:=nr I.hok e
  obtain⟨w',hw,rw'⟩:=RelO.some_of (v:=v) (o:=(atKey xs k).map (·.2)) (by rw[l];exact rel.val k)
  obtain⟨p,hp,hp2⟩:=bM.mp hw
  refine wpAny_getItem_heap (dD hu) (ny I.hok eb) dd hp ?_
  rw[hp2]
  exact h w' _ (I.tok _) rw'
theorem IF{Q:Value->Shared->Prop}(hu:A.units+1<cLine)(I:Inv X pins σ H s)(g:DGet H a y o)(ry:RelV y u)(h:∀s',Inv X pins σ H s'->Q (.bool o.isSome) s'):
  wpAny (model X.prog X.w) A (compareOp .In u (.ref a)) Q E s:=by
 rcases g with⟨kvs,k,e,ey,l⟩|⟨kvs,k,b,e,ey,eb,l⟩
 ·subst ey
  obtain⟨z,hd,vs,rel,dd⟩:=nq I.hok e
  refine wpAny_in_of (mV ry) hd dd.mapOf ?_
  rw [<- (rel.val k).isSome_eq,<- l]
  exact h _ (I.tok _)
 ·subst ey
  cases(show u=Value.ref b from ry)
  obtain⟨z,hd,xs,rel,dd⟩:=nr I.hok e
  refine wpAny_in_heap (dD hu) (ny I.hok eb) hd dd ?_
  have q:=(rel.val k).isSome_eq
  rw[fw]at q
  rw [<- q,<- l]
  exact h _ (I.tok _)
theorem yo{Q:Value->Shared->Prop}(hu:A.units+1<cLine)(I:Inv X pins σ H s)(g:DGet H a y o)(ry:RelV y u)(h:∀s',Inv X pins σ H s'->Q (.bool (!o.isSome)) s'):
  wpAny (model X.prog X.w) A (compareOp .NotIn u (.ref a)) Q E s:=by
 rcases g with⟨kvs,k,e,ey,l⟩|⟨kvs,k,b,e,ey,eb,l⟩
 ·subst ey
  obtain⟨z,hd,vs,rel,dd⟩:=nq I.hok e
  refine wpAny_notIn_of (mV ry) hd dd.mapOf ?_
  rw [<- (rel.val k).isSome_eq,<- l]
  exact h _ (I.tok _)
 ·subst ey
  cases(show u=Value.ref b from ry)
  obtain⟨z,hd,xs,rel,dd⟩:=nr I.hok e
  refine wpAny_notIn_heap (dD hu) (ny I.hok eb) hd dd ?_
  have q:=(rel.val k).isSome_eq
  rw[fw]at q
  rw [<- q,<- l]
  exact h _ (I.tok _)
theorem uJ{h':Heap}{t':Nat}{ob:HO}(I:Inv X pins σ H s)(mu:qx (H a))(hs:Heap.SameBut a s.heap h')(he:∃q,h'.get? a=some q)(new:jbk X.prog X.w (upd H a ob) h' a ob):
  Inv X pins σ (upd H a ob) {s with heap:=h',toks:=t'}:=
 I.write (x:=a) (e:=a) mu (.inl rfl) (fun b q hb z=>(hs.2 b hb).trans z) he new
theorem ui{P:Program}{w:World}{H':Hp}{h':Heap}{kvs:List (iJ×V)}{vs:List (iJ×Value)}(z:kvs.length<=sizeLine)(hd:(a==sysModules)=false)(rel:KV kvs vs)(dd:h'.DictOf (jR P w) a vs):
  jbk P w H' h' a (.dK kvs):=⟨z,hd,vs,rel,dd⟩
theorem FC{H':Hp}{Q:Unit->Shared->Prop}(hu:A.units+1<cLine)(I:Inv X pins σ H s)(g:DPut H a y v H')(ry:RelV y u)(rv:RelV v r)(h:∀s',Inv X pins σ H' s'->Q () s'):
  wpAny (model X.prog X.w) A (setItem (.ref a) u r) Q E s:=by
 rcases g with⟨kvs,k,e,ey,l,eH⟩|⟨kvs,k,b,e,ey,eb,l,eH⟩
 ·subst ey eH
  obtain⟨z,hd,vs,rel,dd⟩:=qS I.hok e
  have hz:vs.length <= sizeLine:=by rw [<- rel.length]; exact z
  have hl:(jF kvs k v).length<=sizeLine:=by have:=sL kvs k v;lia
  refine wpAny_setItem_pairs (hsz:=hz) (mV ry) dd fun h' dd' hs=>h _ ?_
  have he:∃q,h'.get? a=some q:=let⟨q,_,_,hq,_⟩:=dd';⟨q,hq⟩
  exact uJ I (by rw[e];exact True.intro) hs he (ui hl hd (rel.put k rv) dd')
 ·subst ey eH
  cases(show u=Value.ref b from ry)
  obtain⟨z,hd,xs,rel,dd⟩:=II I.hok e
  have hz:xs.length <= sizeLine:=by rw [<- aD rel]; exact z
  have hl:(jF kvs k v).length<=sizeLine:=by have:=sL kvs k v;lia
  refine wpAny_setItem_heap (hsz:=hz) (dD hu) (ny I.hok eb) dd fun h' dd' hs=>h _ ?_
  obtain⟨q,es,ep,hq,h2,h3,h4,_,h5⟩:=dd'
  refine uJ I (by rw[e];exact True.intro) hs ⟨q,hq⟩ ⟨hl,hd,_,(rel.put k eb rv).keeps fun c ys ec=>?_,q,es,ep,hq,h2,h3,h4,h5⟩
  rw[iQ (nW ec e (fun z=>nomatch z))]
  exact ec
end
section
variable{X:Cx}{pins:List (Addr×Obj)}{σ:St}{H:Hp}{s:Shared}{a:Addr}{kvs:List (iJ×V)}{k:iJ}{u:Value}{A:Around}{E:Value->Shared->Prop}
end
def BD(i:Expr):Prop:=∀ov iv,subscripted i false ov iv=operate [ov,iv] (getItem ov iv)
theorem Ei{prog:Program}{w:World}{A:Around}{E:Value->Shared->Prop}{s:Shared}{env:Env}{value slice:Expr}{pos:Pos}{T id:String}{Q:Value->Shared->Prop}
  (hl:typeLookup (.type T) "__getitem__"=pure (some (.builtin id))) (hs:BD slice)
  (h:wpAny (model prog w) A (eval value env) (fun o s₁=>wpAny (model prog w) A (eval slice env) (fun i s₂=>s₂.TypeIs o T/\wpAny (model prog w) A (getItem o i) Q E s₂) E s₁) E s):
  wpAny (model prog w) A (eval (.Subscript value slice pos) env) Q E s:=by
 refine iw (dh h (fun o s₁ h₁=>dh h₁ (fun i s₂ h₂=>?_) fun _ _ x=>x) fun _ _ x=>x)
 obtain⟨hT,h₂⟩:=h₂
 unfold subscriptTail
 refine af ?_
 rw[getitemInPython_of_ne hT.not_modules]
 refine af (wpAny_specialOf hT hl ?_)
 have fin:wpAny (model prog w) A (subscripted slice false o i) (fun r s₃=>wpAny (model prog w) A (letTemporaryGo value o r>>=fun _=>pure r) Q E s₃) E s₂:=by
  rw[hs o i]
  exact wpAny_operating (dh h₂ (fun r s₃ h₃=>af (wpAny_letTemporaryGo (aB h₃))) fun _ _ x=>x)
 first
  |exact aB (af fin)
  |exact af (aB (af fin))
  |exact af fin
theorem GU{X:Cx}{pins:List (Addr×Obj)}{σ:St}{H:Hp}{s:Shared}{a:Addr}{y:V}{o:Option V}(I:Inv X pins σ H s)(g:DGet H a y o):s.TypeIs (.ref a) "dict":=by
 rcases g with⟨kvs,k,e,_,_⟩|⟨kvs,k,b,e,_,_,_⟩
 ·obtain⟨_,_,vs,_,dd⟩:=nq I.hok e
  exact dd.typeIs
 ·obtain⟨_,_,xs,_,dd⟩:=nr I.hok e
  exact dd.typeIs
def y8(ty td:TE):TE:=fun σ H Q=>ty σ H fun y H1=>td σ H1 fun x H2=>∃a o,x= .ref a/\DGet H2 a y o/\Q (.bl (!o.isSome)) H2
section
variable{X:Cx}{o i e value:Expr}{pos pos' tpos:Pos}{td ty tv:TE}
theorem F3(hu:X.A.units+1<cLine)(hi:PE X i ty)(ho:PE X o td):PC X .NotIn i o (y8 ty td):=by
 intro pins s σ H Q I h
 refine iP (hi pins s σ H _ I h) fun iv s1 ⟨y,H1,I1,ry,q1⟩=>iP (ho pins s1 σ H1 _ I1 q1) fun u s2 ⟨x,H2,I2,rx,a,ov,ex,g,q2⟩=>?_
 subst ex
 obtain rfl:u=Value.ref a:=rx
 exact yo hu I2 g ry fun s3 I3=>⟨.bl (!ov.isSome),H2,I3,rfl,q2⟩
end
theorem zq{P:Program}{w:World}{H:Hp}(h:Heap)(hb:sysModules<h.objs.size):jbk P w H (h.push {cls:=.type "dict",data:=.dict #[]}) h.objs.size (.dK []):=
 ⟨bp _,bX.mpr (di (aX hb)),[],.nil,Heap.DictOf.new h⟩
def yf:TE:=fun _ H Q=>∀p,H p=none->Q (.ref p) (upd H p (.dK []))
section
variable{X:Cx}{pos:Pos}
theorem vg:PE X (.Dict [] [] pos) yf:=fun pins s σ H Q I h=>
 wpAny_Dict_empty ⟨.ref s.heap.objs.size,_,I.laid (a:=s.heap.objs.size) (o:=.dK []) (t':=s.toks) (fun _ _ q=>ag _ q) (ao _) (zq s.heap I.big),rfl,h _ (I.hok.fresh (ao _))⟩
end
def uD:List (TE×TE)->St->Hp->(List (V×V)->Hp->Prop)->Prop
 |[],_,H,Q=>Q [] H
 |(tk,tv)::r,σ,H,Q=>tk σ H fun x H1=>tv σ H1 fun y H2=>uD r σ H2 fun ps H3=>Q ((x,y)::ps) H3
abbrev VV:List (V×V)->List (Value×Value)->Prop:=Paired fun p q=>RelV p.1 q.1/\RelV p.2 q.2
def sX(X:Cx)(pos:Pos)(keys:List (Option Expr))(values:List Expr)(trs:List (TE×TE)):Prop:=
 ∀(pins:List (Addr×Obj)) (s:Shared) (σ:St) (H:Hp) (Q:List (V×V)->Hp->Prop),Inv X pins σ H s->uD trs σ H Q->
  wpAny (model X.prog X.w) X.A (evalPairs (pairTrees keys values X.env pos)) (fun vs s'=>∃ps H',Inv X pins σ H' s'/\VV ps vs/\Q ps H') X.xe s
theorem Eb{X:Cx}{pos:Pos}:sX X pos [] [] []:=fun pins s σ H Q I h=>pairTrees_nil_walk ⟨[],H,I,.nil,h⟩
theorem Fb{X:Cx}{pos:Pos}{k v:Expr}{ks:List (Option Expr)}{vs:List Expr}{tk tv:TE}{trs:List (TE×TE)}(hk:PE X k tk)(hv:PE X v tv)(hr:sX X pos ks vs trs):
  sX X pos (some k::ks) (v::vs) ((tk,tv)::trs):=fun pins s σ H Q I h=>
 pairTrees_cons_walk (iP (hk pins s σ H _ I h) fun u s1 ⟨x,H1,I1,rx,q1⟩=>iP (hv pins s1 σ H1 _ I1 q1) fun w2 s2 ⟨y,H2,I2,ry,q2⟩=>
  iP (hr pins s2 σ H2 _ I2 q2) fun ws s3 ⟨ps,H3,I3,rel,q3⟩=>⟨(x,y)::ps,H3,I3,.cons ⟨rx,ry⟩ rel,q3⟩)
noncomputable def pT(kvs more:List (iJ×V)):List (iJ×V):=more.foldl (fun acc kv=>jF acc kv.1 kv.2) kvs
theorem KV.merge:∀{more:List (iJ×V)} {rs:List (iJ×Value)} {kvs:List (iJ×V)} {vs:List (iJ×Value)},KV more rs->KV kvs vs->KV (pT kvs more) (merged vs rs):=by
 intro more rs kvs vs r
 unfold KV at r
 induction r generalizing kvs vs with
 |nil=>intro q;exact q
 | @cons p q ps qs h t ih=>
  intro r0
  have e:KV (jF kvs p.1 p.2) (stored vs q.1 q.2):=by
   have:=r0.put p.1 h.2
   rw [<- h.1]; exact this
  exact ih e
theorem Bc:∀(more kvs:List (iJ×V)),(pT kvs more).length<=kvs.length+more.length
 |[],kvs=>by show kvs.length<=kvs.length+0;lia
 |p::r,kvs=>by
  have h1:=Bc r (jF kvs p.1 p.2)
  have h2:=sL kvs p.1 p.2
  show(pT (jF kvs p.1 p.2) r).length<=_
  rw[List.length_cons];lia
theorem AJ{P:Program}{w:World}:∀{kvs:List (iJ×V)} {ws:List (Value×Value)},VV (kvs.map fun kv=>(kV kv.1,kv.2)) ws->∃rs,Carries (jR P w) ws rs/\KV kvs rs
 |[],_,r=>by rw[cL]at r;cases r;exact⟨[],True.intro,.nil⟩
 | p::kvs,_,r=>by
  rw[ah]at r
  cases r with
  | @cons a b as bs h t=>
   obtain⟨rs,c,q⟩:=AJ (P:=P) (w:=w) t
   obtain⟨b1,b2⟩:=b
   exact⟨(p.1,b2)::rs,⟨mV h.1,rfl,c⟩,.cons ⟨rfl,h.2⟩ q⟩
def B5(trs:List (TE×TE)):TE:=fun σ H Q=>∀p,H p=none->uD trs σ (upd H p (.dK [])) fun ps H2=>H2 p=some (.dK [])/\∃kvs:List (iJ×V),ps=kvs.map (fun kv=>(kV kv.1,kv.2))/\kvs.length<=15/\Q (.ref p) (upd H2 p (.dK (pT [] kvs)))
theorem D7{X:Cx}{pos:Pos}{keys:List (Option Expr)}{values:List Expr}{trs:List (TE×TE)}(h:sX X pos keys values trs)(hall:keys.all (·.isSome)=true)(hl:keys.length=values.length)(h0:keys≠[])
  (h15:keys.length<=15):PE X (.Dict keys values pos) (B5 trs):=by
 intro pins s σ H Q I q
 have hn:=I.hok.fresh (ao s.heap.objs.size)
 have I1:=I.laid (a:=s.heap.objs.size) (o:=.dK []) (h':=s.heap.push {cls:=.type "dict",data:=.dict #[]}) (t':=s.toks) (fun _ _ q=>ag _ q) (ao _) (zq s.heap I.big)
 refine wpAny_Dict_walk (knd:=jR X.prog X.w) hall hl h0 h15 (iP (h pins _ σ _ _ I1 (q _ hn)) fun ws s2 ⟨ps,H2,I2,rel,e,kvs,ep,lk,q2⟩=>?_)
 subst ep
 obtain⟨rs,c,rk⟩:=AJ (P:=X.prog) (w:=X.w) rel
 obtain⟨z,hd,vs0,r0,dd⟩:=qS I2.hok e
 cases r0
 refine⟨rs,c,dd,fun h' dd' hs=>⟨.ref s.heap.objs.size,_,?_,rfl,q2⟩⟩
 have hz:(pT [] kvs).length<=sizeLine:=by
  have h1:=Bc kvs []
  rw[List.length_nil]at h1
  rw[fu];lia
 have he:∃q,h'.get? s.heap.objs.size=some q:=let⟨q,_,_,hq,_⟩:=dd';⟨q,hq⟩
 exact uJ I2 (by rw[e];exact True.intro) hs he (ui hz hd (rk.merge .nil) dd')
structure M1(X:Cx)(o:Expr)(m:Str)(apos:Pos)(e:Expr)(cpos:Pos):Prop where
 base:attributeBase o m X.env (eval o X.env)=eval o X.env
 few:((backTo cpos (starEach [e] X.env)).all (fun x=>!x.1)&&(backToKw cpos (keywordEach [] X.env)).all (fun x=>x.1.isSome)
  &&decide (([e]:List Expr).length+([]:List Keyword).length+(if([]:List Keyword).isEmpty then 0 else 1)<30))=true
 line:(apos.endLine==cpos.line)=true
 trees:backTo cpos (starEach [e] X.env)=[(false,eval e X.env)]
structure M2(X:Cx)(o:Expr)(m:Str)(apos:Pos)(e f:Expr)(cpos:Pos):Prop where
 base:attributeBase o m X.env (eval o X.env)=eval o X.env
 few:((backTo cpos (starEach [e,f] X.env)).all (fun x=>!x.1)&&(backToKw cpos (keywordEach [] X.env)).all (fun x=>x.1.isSome)
  &&decide (([e,f]:List Expr).length+([]:List Keyword).length+(if([]:List Keyword).isEmpty then 0 else 1)<30))=true
 line:(apos.endLine==cpos.line)=true
 trees:backTo cpos (starEach [e,f] X.env)=[(false,eval e X.env),(false,eval f X.env)]
def I0(H:Hp)(a:Addr):Prop:=(∃kvs,Rd H a (.dK kvs))\/∃kvs,Rd H a (.dT kvs)
theorem xI{X:Cx}{pins:List (Addr×Obj)}{σ:St}{H:Hp}{s:Shared}{a:Addr}(I:Inv X pins σ H s)(d:I0 H a):
  s.TypeIs (.ref a) "dict"/\(∀b,Value.ref a= .ref b->∃ob,s.heap.get? b=some ob/\ob.dict=none)/\(a==sysModules)=false:=by
 rcases d with⟨kvs,e⟩|⟨kvs,e⟩
 ·obtain⟨_,hd,vs,_,dd⟩:=nq I.hok e
  refine⟨dd.typeIs,fun b q=>?_,hd⟩
  cases q
  obtain⟨ob,_,_,h1,h2,_⟩:=dd
  exact⟨ob,h1,h2.2.1⟩
 ·obtain⟨_,hd,xs,_,dd⟩:=nr I.hok e
  refine⟨dd.typeIs,fun b q=>?_,hd⟩
  cases q
  obtain⟨ob,_,_,h1,h2,_⟩:=dd
  exact⟨ob,h1,h2.2.1⟩
section
variable{X:Cx}{pins:List (Addr×Obj)}{σ:St}{H:Hp}{s:Shared}{a:Addr}{y d:V}{u r:Value}{o:Option V}{A:Around}{E:Value->Shared->Prop}
theorem IH{Q:Value->Shared->Prop}(hu:A.units+1<cLine)(I:Inv X pins σ H s)(g:DGet H a y o)(ry:RelV y u)(h:∀w' s',Inv X pins σ H s'->RelV (o.getD .non) w'->Q w' s'):
  wpAny (model X.prog X.w) A (call (.builtin "dict.get") [.ref a,u]) Q E s:=by
 rcases g with⟨kvs,k,e,ey,l⟩|⟨kvs,k,b,e,ey,eb,l⟩
 ·subst ey
  obtain⟨z,hd,vs,rel,dd⟩:=nq I.hok e
  refine gP c0 dd.typeIs eL (PySem.F.args_dict_get_2 _ _) (meets_dict_get (jR X.prog X.w) a (mV ry) hd) ⟨_,dd.mapOf,h _ _ (I.tok _) ?_⟩
  rw[l]
  exact(rel.val k).getD rfl
 ·subst ey
  cases(show u=Value.ref b from ry)
  obtain⟨z,hd,xs,rel,dd⟩:=nr I.hok e
  refine gP c0 dd.typeIs eL (PySem.F.args_dict_get_2 _ _) (meetsH_dict_get (tupleKind (jR X.prog X.w)) a b hd) ⟨dD hu,k,xs,ny I.hok eb,dd,h _ _ (I.tok _) ?_⟩
  rw[l]
  exact(rel.val k).getD rfl
theorem IG{Q:Value->Shared->Prop}(hu:A.units+1<cLine)(I:Inv X pins σ H s)(g:DGet H a y o)(ry:RelV y u)(rd:RelV d r)(h:∀w' s',Inv X pins σ H s'->RelV (o.getD d) w'->Q w' s'):
  wpAny (model X.prog X.w) A (call (.builtin "dict.get") [.ref a,u,r]) Q E s:=by
 rcases g with⟨kvs,k,e,ey,l⟩|⟨kvs,k,b,e,ey,eb,l⟩
 ·subst ey
  obtain⟨z,hd,vs,rel,dd⟩:=nq I.hok e
  refine gP c0 dd.typeIs eL (PySem.F.args_dict_get_3 _ _ _) (meets_dict_get_default (jR X.prog X.w) a (mV ry) hd r) ⟨_,dd.mapOf,h _ _ (I.tok _) ?_⟩
  rw[l]
  exact(rel.val k).getD rd
 ·subst ey
  cases(show u=Value.ref b from ry)
  obtain⟨z,hd,xs,rel,dd⟩:=nr I.hok e
  refine gP c0 dd.typeIs eL (PySem.F.args_dict_get_3 _ _ _) (meetsH_dict_get_default (tupleKind (jR X.prog X.w)) a b hd r) ⟨dD hu,k,xs,ny I.hok eb,dd,h _ _ (I.tok _) ?_⟩
  rw[l]
  exact(rel.val k).getD rd
end
section
variable{X:Cx}{o e f:Expr}{apos cpos:Pos}{td ty tx:TE}
end
section
variable{X:Cx}{pins:List (Addr×Obj)}{σ:St}{H:Hp}{s:Shared}{a:Addr}{kvs:List (iJ×V)}{A:Around}{E:Value->Shared->Prop}
end
section
variable{X:Cx}{pins:List (Addr×Obj)}{σ:St}{H:Hp}{s:Shared}{a:Addr}{y:V}{u:Value}{A:Around}{E:Value->Shared->Prop}
end
section
variable{κ:Type}[DecidableEq κ]
end
noncomputable def kD(env:Env):List (Str×NameKind)->List (Str×Addr)->List (Str×Addr)
 |[],acc=>acc
 |(n,k)::r,acc=>kD env r (if k== .free then(n,(env.cells.lookup n).getD 0)::acc else acc)
theorem Bg{scope:Scope}{env:Env}(h:∀y∈scope.names,y.2= .free->∃c,env.cells.lookup y.1=some c):
    closureFor scope env=pure (kD env scope.names []):=by
  have key:∀(l:List (Str×NameKind)) (acc:List (Str×Addr)),(∀y∈l,y.2= .free->∃c,env.cells.lookup y.1=some c)->
      (forIn l acc fun(x:Str×NameKind) (r:List (Str×Addr))=>
        (if x.2 == NameKind.free then do
          let c <- cellOf env x.1
          pure (ForInStep.yield ((x.1,c)::r))
        else pure (ForInStep.yield r):Sem (ForInStep (List (Str×Addr)))))=pure (kD env l acc):=by
    intro l
    induction l with
    |nil=>intro acc _;rfl
    | cons y r ih=>
      intro acc hy
      obtain⟨n,k⟩:=y
      rw[il]
      by_cases hk:k= .free
      · subst hk
        obtain⟨c,hc⟩:=hy (n,.free) aH rfl
        have e1:cellOf env n=pure c:=by unfold cellOf;rw[hc]
        simp only[fG,if_true]
        rw[e1]
        show(pure c>>=fun c=>pure (ForInStep.yield ((n,c)::acc)))>>=_=_
        have e2:kD env ((n,NameKind.free)::r) acc=kD env r ((n,c)::acc):=by
          have hc':env.cells.lookup n=some c:=hc
          show kD env r (if(NameKind.free==NameKind.free)=true then(n,(env.cells.lookup n).getD 0)::acc else acc)=_
          rw[hc']
          rfl
        rw[e2]
        exact ih _ fun z hz=>hy z (az _ hz)
      · have hb:(k==NameKind.free)=false:=by simpa using hk
        simp only[hb,ba,if_false]
        have e2:kD env ((n,k)::r) acc=kD env r acc:=by
          show kD env r (if(k==NameKind.free)=true then _ else acc)=_
          rw[hb];rfl
        rw[e2]
        exact ih _ fun z hz=>hy z (az _ hz)
  unfold closureFor
  have e:=key scope.names [] h
  have e3:∀ (f:Str × NameKind->List (Str × Addr)->Sem (ForInStep (List (Str × Addr)))),(f = fun x r=>(if x.2 == NameKind.free then do
          let c <- cellOf env x.1
          pure (ForInStep.yield ((x.1,c)::r))
        else pure (ForInStep.yield r)))->(forIn scope.names [] f>>=fun r=>pure r)=(pure (kD env scope.names []):Sem (List (Str×Addr))):=by
    intro f hf
    rw[hf,e]
    rfl
  exact e3 _ rfl
theorem Bb{env:Env}{x:Str}:∀(l:List (Str×NameKind)) (acc:List (Str×Addr)) (c:Addr),(kD env l acc).lookup x=some c->
  ((∃y∈l,y.1=x/\y.2= .free)/\(env.cells.lookup x).getD 0=c)\/acc.lookup x=some c
 |[],acc,c,h=>.inr h
 | (n,k)::r,acc,c,h=>by
  rcases Bb r _ c h with⟨⟨y,hy,e⟩,q⟩|q
  ·exact .inl ⟨⟨y,az _ hy,e⟩,q⟩
  ·by_cases hk:k= .free
   ·subst hk
    have q':List.lookup x ((n,(env.cells.lookup n).getD 0)::acc)=some c:=q
    rw[List.lookup_cons]at q'
    cases hx:x==n with
    |true=>
     rw[hx]at q'
     have hx':x=n:=by simpa using hx
     subst hx'
     exact .inl ⟨⟨_,aH,rfl,rfl⟩,aI q'⟩
    |false=>rw[hx]at q';exact .inr q'
   ·have hb:(k==NameKind.free)=false:=by simpa using hk
    rw[hb]at q
    exact .inr q
theorem vI{env:Env}{x:Str}:∀(l:List (Str×NameKind)) (acc:List (Str×Addr)),((∃y∈l,y.1=x/\y.2= .free)\/(acc.lookup x).isSome)->((kD env l acc).lookup x).isSome
 |[],acc,h=>by
  rcases h with⟨y,hy,_⟩|h
  ·cases hy
  ·exact h
 | (n,k)::r,acc,h=>by
  show((kD env r (if(k==NameKind.free)=true then _ else acc)).lookup x).isSome
  refine vI r _ ?_
  rcases h with⟨y,hy,e1,e2⟩|h
  ·rcases aM.mp hy with rfl|hy
   ·have e2':k= .free:=e2
    have e1':n=x:=e1
    subst e2' e1'
    refine .inr ?_
    simp[List.lookup_cons]
   ·exact .inl ⟨y,hy,e1,e2⟩
  ·refine .inr ?_
   split
   ·rw[List.lookup_cons]
    split
    ·rfl
    ·exact h
   ·exact h
structure CpScope(X:Cx)(scope:Scope)(N:List Str)(src:List (Option Nat)):Prop where
 kind:scope.kind= .function
 nocell:∀y∈scope.names,y.2≠ .cell
 locs:∀y∈scope.names,y.2= .local->scope.names.lookup y.1=some .local
 frees:∀y∈scope.names,y.2= .free->scope.names.lookup y.1=some .free/\X.env.scope.names.lookup y.1=some .cell
 nd:N.Nodup
 len:src.length=N.length
 cap:∀(i j:Nat),src[i]? =some (some j)->X.N[j]? =N[i]?/\(N[i]?).elim False (fun x=>scope.names.lookup x=some .free)
noncomputable def sT(src:List (Option Nat))(σ:St):St:=src.map fun o=>o.bind fun j=>(σ[j]?).join
theorem Bh{env:Env}(hk:env.scope.kind= .function):∀{names:List (Str×NameKind)} {x:Str},names.lookup x=some .free->env.kindOf x=some .cell->
  (names.map fun(n,k)=>if(k==NameKind.free&&env.scope.kind== .function&&env.kindOf n==some .cell)then(n,NameKind.cell)else(n,k)).lookup x=some .cell
 |[],_,h,_=>by simp at h
 | (n,k)::r,x,h,hc=>by
  have ih:=@Bh env hk r x
  show List.lookup x ((if(k==NameKind.free&&env.scope.kind== .function&&env.kindOf n==some .cell)=true then(n,NameKind.cell)else(n,k))::_)=_
  cases hx:x==n with
  |true=>
   simp only[List.lookup_cons,hx]at h
   cases h
   have hx':x=n:=by simpa using hx
   subst hx'
   rw[aA (by rw[hk,hc];rfl)]
   simp[List.lookup_cons]
  |false=>
   simp only[List.lookup_cons,hx]at h
   by_cases hq:(k==NameKind.free&&env.scope.kind== .function&&env.kindOf n==some .cell)=true
   ·rw[aA hq];simp only[List.lookup_cons,hx];exact ih h hc
   ·rw[ay hq];simp only[List.lookup_cons,hx];exact ih h hc
theorem vU{env:Env}:∀{names:List (Str×NameKind)} {x:Str} {k':NameKind},
  (names.map fun(n,k)=>if(k==NameKind.free&&env.scope.kind== .function&&env.kindOf n==some .cell)then(n,NameKind.cell)else(n,k)).lookup x=some k'->
   names.lookup x=some k'\/(names.lookup x=some .free/\k'= .cell)
 |[],_,_,h=>by simp at h
 | (n,k)::r,x,k',h=>by
  have ih:=@vU env r x k'
  have h:List.lookup x ((if(k==NameKind.free&&env.scope.kind== .function&&env.kindOf n==some .cell)=true then(n,NameKind.cell)else(n,k))::_)=_:=h
  cases hx:x==n with
  | true=>
   by_cases hq:(k==NameKind.free&&env.scope.kind== .function&&env.kindOf n==some .cell)=true
   ·rw[aA hq]at h
    have h1:=h
    simp only[List.lookup_cons,hx]
    have:k= .free:=by
     have:=(cE _ _▸(cE _ _▸hq).1).1
     simpa using this
    subst this
    refine .inr ⟨rfl,?_⟩
    have h2:List.lookup x ((n,NameKind.cell)::(r.map fun(n,k)=>if(k==NameKind.free&&env.scope.kind== .function&&env.kindOf n==some .cell)then(n,NameKind.cell)else(n,k)))=some k':=h1
    simp only[List.lookup_cons,hx]at h2
    exact(aI h2).symm
   ·rw[ay hq]at h
    simp only[List.lookup_cons,hx]at h ⊢
    exact .inl h
  | false=>
   have h':List.lookup x (r.map fun(n,k)=>if(k==NameKind.free&&env.scope.kind== .function&&env.kindOf n==some .cell)then(n,NameKind.cell)else(n,k))=some k':=by
    by_cases hq:(k==NameKind.free&&env.scope.kind== .function&&env.kindOf n==some .cell)=true
    ·rw[aA hq]at h
     simpa only[List.lookup_cons,hx]using h
    ·rw[ay hq]at h
     simpa only[List.lookup_cons,hx]using h
   simp only[List.lookup_cons,hx]
   exact ih h'
noncomputable def Cx.block(X:Cx)(scope:Scope)(N:List Str)(fp:List Addr)(s₀:Shared)(H₀:Hp)(C:Addr):Cx where
 prog:=X.prog
 w:=X.w
 K:=X.K
 mg:=X.mg
 base:=X.base
 A:=X.A
 N:=N
 s₀:=s₀
 H₀:=H₀
 env:=compEnvC scope (kD X.env scope.names []) C X.env
 outer:=X.stack
 stack:=X.stack
 ex:=fp
 calm:=X.calm
 fn:=fun _=>false
 pn:=[]
 xe:=fun _ _=>False
theorem FO{o:Option (Option V)}{v:V}(h:o.join=some v):o=some (some v):=by
 cases o with
 |none=>cases h
 |some z=>cases z with
  |none=>cases h
  |some z=>rw[show z=v from aI h]
theorem Inv.enter{X:Cx}{scope:Scope}{N:List Str}{src:List (Option Nat)}{pins:List (Addr×Obj)}{σ:St}{H:Hp}{s s4:Shared}{fp:List Addr}(S:CpScope X scope N src)(I:Inv X pins σ H s)
  (f2:∀b∈fp,lH X pins H b) (lt:∀b∈fp,b<s.heap.objs.size) (hns:s4.heap.Ns s.heap.objs.size fun _=>none) (hk:∀b o,s.heap.get? b=some o->s4.heap.get? b=some o) (hos:s4.os=s.os) (hg:s4.gens=s.gens):
  Inv (X.block scope N fp s H s.heap.objs.size) [] (sT src σ) H s4:=by
 have cells:∀x c,(kD X.env scope.names []).lookup x=some c->X.env.cells.lookup x=some c:=fun x c e=>by
  rcases Bb _ _ _ e with⟨⟨y,hy,e1,e2⟩,q⟩|q
  ·obtain⟨c',hc'⟩:=I.ok.has y.1 (.inl (S.frees y hy e2).2)
   rw[e1]at hc'
   rw[hc']at q ⊢
   exact cx some q
  ·cases q
 refine⟨⟨I.mod,S.kind,I.ok.glob,I.ok.blt,ao _,fun x y c h1 h2=>I.ok.inj x y c (cells x c h1) (cells y c h2),fun x hx=>?_,fun x c h=>absurd (show false=true from h) aU,I.ok.hd,I.ok.frames,.inl rfl,fun b hb=>?_,I.bs,
   bE I.ok.bsz I.sz,fun b o e hb=>?_,fun b hb z=>?_,I.stack,I.stkFree⟩,hos,?_,Un.kept hk,⟨fun _=>none,hns,fun i x v h1 h2 h3=>?_⟩,fun x c e=>?_,I.fresh,fun x c e=>I.freeC x c (cells x c e),fun p hp=>?_,I.hok.kept hk,?_⟩
 ·have hx':(scope.names.map fun(n,k)=>if(k==NameKind.free&&X.env.scope.kind== .function&&X.env.kindOf n==some .cell)then(n,NameKind.cell)else(n,k)).lookup x=some .cell\/(scope.names.map fun(n,k)=>if(k==NameKind.free&&X.env.scope.kind== .function&&X.env.kindOf n==some .cell)then(n,NameKind.cell)else(n,k)).lookup x=some .free:=hx
  have hf:scope.names.lookup x=some .free:=by
   rcases hx' with h|h
   ·rcases vU h with h|h
    ·exact absurd rfl (S.nocell _ (cv h))
    ·exact h.1
   ·rcases vU h with h|h
    ·exact h
    ·cases h.2
  have hsome:=vI (env:=X.env) (x:=x) scope.names [] (.inl ⟨_,cv hf,rfl,rfl⟩)
  exact eC.mp hsome
 ·exact⟨aX (lt b hb),fun x c e=>(f2 b hb).2.2.2.2.1 x c (cells x c e)⟩
 ·have hb':b∈fp:=hb
  rcases(f2 b hb').2.2.2.1 with z|z
  ·exact I.ok.noex b o e z
  ·exact absurd (bj (aL e) (bE I.ok.bsz z)) (cV _)
 ·have hb':b∈fp:=hb
  have z':b∈k9 X.stack:=z
  rcases aM.mp (I.stkSub b z')with e|e
  ·exact(f2 b hb').2.1 e
  ·exact(f2 b hb').2.2.1 e
 ·rw[hg];exact I.bare
 ·have h2':(src.map fun o=>o.bind fun j=>(σ[j]?).join)[i]? =some (some v):=h2
  rw[aC]at h2'
  cases e:src[i]? with
  |none=>rw[e]at h2';cases h2'
  | some o=>
   rw[e]at h2'
   cases o with
   |none=>cases h2'
   | some j=>
    have h4:(σ[j]?).join=some v:=aI h2'
    have h5:=FO h4
    obtain⟨c1,c2⟩:=S.cap i j e
    have h1':N[i]? =some x:=h1
    rw[h1']at c1 c2
    have c2':scope.names.lookup x=some .free:=c2
    have c3:=(S.frees _ (cv c2') rfl).2
    obtain⟨m,hn,hl⟩:=I.loc
    obtain⟨u,r,l⟩:=hl j x v c1 h5 (.inr (.inl c3))
    refine⟨u,r,?_⟩
    have c3':X.env.kindOf x=some .cell:=c3
    rcases l with⟨k,_⟩|⟨_,c,e1,z⟩
    ·rw[c3']at k;cases k
    ·refine .inr ⟨.inl (Bh I.ok.kind c2' c3'),c,?_,?_⟩
     ·have hs:=vI (env:=X.env) (x:=x) scope.names [] (.inl ⟨_,cv c2',rfl,rfl⟩)
      obtain⟨c',hc'⟩:=eC.mp hs
      have:=cells x c' hc'
      rw[e1]at this
      cases this
      exact hc'
     ·obtain⟨o,ho,hd⟩:=z
      exact⟨o,hk c o ho,hd⟩
 ·obtain⟨v,o,ho,hd⟩:=I.cell x c (cells x c e)
  exact⟨v,o,hk c o ho,hd⟩
 ·exact absurd (show p∈([]:List (Addr×Obj))from hp) (by simp)
 ·show(src.map _).length=N.length
  rw[ae]
  exact S.len
def qw(X:Cx)(ifs:List Expr)(t:TT):Prop:=
 ∀(pins:List (Addr×Obj)) (s:Shared) (σ:St) (H:Hp) (Q:Bool->Hp->Prop),Inv X pins σ H s->t σ H Q->
  wpAny (model X.prog X.w) X.A (forIn ifs true fun c r=>if r = true then do let ok <- isTrue c X.env (eval c X.env); pure (ForInStep.yield ok) else pure (ForInStep.yield r)) (TP X pins σ Q) X.xe s
def wM:TT:=fun _ H Q=>Q true H
theorem kS{X:Cx}:qw X [] wM:=fun pins s σ H Q I h=>wpAny_tests_nil ⟨H,I,h⟩
theorem rL{X:Cx}{c:Expr}{t:TT}(h:PT X c t):qw X [c] t:=fun pins s σ H Q I hq=>wpAny_tests_one (h pins s σ H Q I hq)
def pL(J:It)(src:List (Option Nat))(g:TG)(tc:TT)(te:TE)(Q:VK)(σ:St)(H:Hp)(l:Addr):Prop:=
 ∃W:Nat->Nat->St->Hp->Prop,(∃m,W 0 m (sT src σ) (upd H l (.lst [])))/\∀i m σ' H,W i m σ' H->
  (J.stop i H/\Q (.ref l) H)\/(J.go i H/\∃N:St->Hp->Prop,(∀σ' H',N σ' H'->∃m',m'<m/\W (i+1) m' σ' H')/\∀x H',J.yld i H x H'->g x σ' H' fun σ2 H2=>tc σ2 H2 fun b H3=>
   if b=true then te σ2 H3 fun v H4=>∃xs,H4 l=some (.lst xs)/\xs.length<sizeLine/\N σ2 (upd H4 l (.lst (xs++[v])))else N σ2 H3)
theorem km{J:It}{src:List (Option Nat)}{g:TG}{tc:TT}{te:TE}{Q:VK}{σ:St}{H:Hp}{l:Addr}(n:Nat)(Iv:Nat->St->Hp->Prop)(h0:Iv 0 (sT src σ) (upd H l (.lst [])))
  (hs:∀i σ' Hc,i<n->Iv i σ' Hc->J.go i Hc/\∀x H',J.yld i Hc x H'->g x σ' H' fun σ2 H2=>tc σ2 H2 fun b H3=>
   if b=true then te σ2 H3 fun v H4=>∃xs,H4 l=some (.lst xs)/\xs.length<sizeLine/\Iv (i+1) σ2 (upd H4 l (.lst (xs++[v])))else Iv (i+1) σ2 H3)
  (hd:∀σ' Hc,Iv n σ' Hc->J.stop n Hc/\Q (.ref l) Hc):pL J src g tc te Q σ H l:=by
 refine⟨fun i m σ' Hc=>m=n-i/\i<=n/\Iv i σ' Hc,⟨n,by simp,bp _,h0⟩,?_⟩
 rintro i m σ' Hc ⟨rfl,hi,p⟩
 by_cases hlt:i<n
 ·obtain⟨go,step⟩:=hs i σ' Hc hlt p
  exact .inr ⟨go,Iv (i+1),fun σ2 H2 p'=>⟨n-(i+1),by lia,rfl,hlt,p'⟩,step⟩
 ·have e:i=n:=by lia
  subst e
  exact .inl (hd σ' Hc p)
theorem Am{X:Cx}{elt tg iter:Expr}{ifs:List Expr}{scope:Scope}{pos:Pos}{N:List Str}{src:List (Option Nat)}{g:TG}{tc:TT}{te:TE}{pins:List (Addr×Obj)}{σ:St}{H2:Hp}{s2:Shared}
  {fp:List Addr} {it:Addr} {tn:Nat->Heap->Prop} {J:It} {Q:VK} {E:Value->Shared->Prop} {RR:Value->Addr->Result->Shared->Prop} (S:CpScope X scope N src) (hc:X.calm=true)
  (hg:∀fp s₀ H₀ C,PG (X.block scope N fp s₀ H₀ C) tg g) (ht:∀fp s₀ H₀ C,qw (X.block scope N fp s₀ H₀ C) ifs tc) (he:∀fp s₀ H₀ C,PE (X.block scope N fp s₀ H₀ C) elt te)
  (I2:Inv X pins σ H2 s2) (T:Turn X.prog X.w X.K tg J fp it tn) (st2:tn 0 s2.heap) (f2:∀b∈fp,lH X pins H2 b) (hw:∀l,H2 l=none->pL J src g tc te Q σ H2 l)
  (hRR:∀l C H' s',Inv X pins σ H' s'->(∃m,s'.heap.Ns C m)->lH X pins H' C->Q (.ref l) H'->RR (.ref l) C (.ok .next) s'):
  wpAny (model X.prog X.w) X.A (newList []) (fun acc s₃=>wpAny (model X.prog X.w) X.A (newFunctionEnv scope X.env.globals (kD X.env scope.names []) [] X.env.qual none .none (some X.env)) (fun cenv s₄=>
   codeAny (model X.prog X.w) X.A (.compStart (.ListComp elt [⟨tg,iter,ifs,0⟩] scope pos) 0 (.ref it) acc {cenv with scope:=relabel scope X.env}) (RR acc cenv.locals) s₄) E s₃) E s2:=by
 have hl0:H2 s2.heap.objs.size=none:=I2.fresh
 have I3:Inv X pins σ (upd H2 s2.heap.objs.size (.lst [])) {s2 with heap:=s2.heap.push {cls:=.type "list",data:=.seq ([]:List Value).toArray}}:=I2.lnew (ys:=[]) (its:=[]) (t':=s2.toks) .nil (bp _)
 have ltf:∀b∈fp,b<s2.heap.objs.size:=fun b hb=>by
  obtain⟨o,e,_⟩:=T.obj _ _ st2 b hb
  exact aL e
 have f3:∀b∈fp,lH X pins (upd H2 s2.heap.objs.size (.lst [])) b:=fun b hb=>⟨by rw[iQ (aX (ltf b hb))];exact(f2 b hb).1,(f2 b hb).2⟩
 obtain⟨W,⟨m0,w0⟩,turn⟩:=hw _ hl0
 refine cF (wpAny_newFunctionEnv S.nocell (by intro y hy;simp at hy) (fun h₁ hns₁ hsb₁=>?_) S.kind)
 dsimp only at hns₁ hsb₁ ⊢
 revert I3 f3
 intro I3 f3
 have st1:tn 0 (s2.heap.push {cls:=.type "list",data:=.seq ([]:List Value).toArray}):=T.keep _ _ _ st2 fun b hb o e=>ag _ e
 have lt3:∀b∈fp,b<(s2.heap.push {cls:=.type "list",data:=.seq ([]:List Value).toArray}).objs.size:=fun b hb=>by rw[ee];exact dZ (ltf b hb)
 generalize hH:s2.heap.push {cls:=.type "list",data:=.seq ([]:List Value).toArray}=h3 at I3 st1 lt3 hns₁ hsb₁ ⊢
 have hk:∀b o,h3.get? b=some o->h₁.get? b=some o:=fun b o e=>hsb₁.extBut b o (aX (aL e)) (ag _ e)
 have Ib:Inv (X.block scope N fp {s2 with heap:=h3} (upd H2 s2.heap.objs.size (.lst [])) h3.objs.size) [] (sT src σ) (upd H2 s2.heap.objs.size (.lst [])) {s2 with heap:=h₁,toks:=s2.toks+([]:List (Str×Value)).length}:=
  Inv.enter (s:={s2 with heap:=h3}) S I3 f3 lt3 hns₁ hk rfl rfl
 have fpB:∀{H':Hp},(∀b∈fp,H' b=none)->∀b∈fp,lH (X.block scope N fp {s2 with heap:=h3} (upd H2 s2.heap.objs.size (.lst [])) h3.objs.size) [] H' b:=fun hn b hb=>
  ⟨hn b hb,(Ib.ok.exf b hb).1,Ib.ok.exfs b hb,.inl hb,(Ib.ok.exf b hb).2,fun p hp=>absurd (show p∈([]:List (Addr×Obj))from hp) (by simp)⟩
 have tn1:tn 0 h₁:=T.keep _ _ _ st1 fun b _ o e=>hk b o e
 have loop:∀s₃:Shared,s₃={s2 with heap:=h₁,toks:=s2.toks+([]:List (Str×Value)).length}->
   codeAny (model X.prog X.w) X.A (.compLoop (.ListComp elt [⟨tg,iter,ifs,0⟩] scope pos) 0 (.ref it) (.ref s2.heap.objs.size) (compEnvC scope (kD X.env scope.names []) h3.objs.size X.env))
    (RR (.ref s2.heap.objs.size) h3.objs.size) s₃:=by
  rintro s₃ rfl
  refine codeAny_loop rfl (fun n s'=>∃i σ' H',Inv (X.block scope N fp {s2 with heap:=h3} (upd H2 s2.heap.objs.size (.lst [])) h3.objs.size) [] σ' H' s'/\tn i s'.heap/\(∀b∈fp,H' b=none)/\W i n σ' H') ?_ m0
   ⟨0,_,_,Ib,tn1,fun b hb=>(f3 b hb).1,w0⟩
  rintro n s5 ⟨i,σ5,H5,I5,st5,fr5,w5⟩
  show wpAny _ X.A ((compTurn (.ListComp elt [⟨tg,iter,ifs,0⟩] scope pos) 0 (.ref it) (.ref s2.heap.objs.size) (compEnvC scope (kD X.env scope.names []) h3.objs.size X.env)).onRaise (fun x=>do noteFrame x (compEnvC scope (kD X.env scope.names []) h3.objs.size X.env); theTreesLotGoes x)) _ _ s5
  refine wpAny_noted ?_
  rw[compTurn_list]
  refine af (wpAny_standAt (af ?_))
  rcases turn i n σ5 H5 w5 with⟨stop,qn⟩|⟨go,N',hN',step⟩
  ·refine iP (T.done (X.block scope N fp {s2 with heap:=h3} (upd H2 s2.heap.objs.size (.lst [])) h3.objs.size) rfl rfl rfl hc i [] s5 σ5 H5 _ I5 (fpB fr5) st5 stop) fun r s6 ⟨hr,I6⟩=>?_
   subst hr
   refine aB ?_
   have u6:Un (k9 X.stack) fp (upd H2 s2.heap.objs.size (.lst [])) H5 h3 s6.heap:=I6.base
   have hf6:H5 h3.objs.size=none:=I6.free
   have I7:Inv X pins σ H5 s6:=I3.call' (ch:=fp) I6.os u6 I6.hok I6.bare fun b hb=>⟨(f3 b hb).2.2.2.1,(f3 b hb).2.1,(f3 b hb).2.2.2.2.1,(f3 b hb).2.2.2.2.2⟩
   obtain⟨m,hm,_⟩:=I6.loc
   exact hRR _ _ H5 s6 I7 ⟨m,hm⟩ (I3.fpOk (ao _) hf6) qn
  ·refine iP (T.item (X.block scope N fp {s2 with heap:=h3} (upd H2 s2.heap.objs.size (.lst [])) h3.objs.size) rfl rfl rfl hc i [] s5 σ5 H5 _ I5 (fpB fr5) st5 go) fun r s6 ⟨u,hr,h6⟩=>?_
   subst hr
   refine af (iP h6 fun _ s7 ⟨x,H7,I7,r7,y7,st7,fr7⟩=>?_)
   have I7':=I7.pinned (fpB fr7) (T.obj _ _ st7)
   have fin:∀{σ9:St} {H9:Hp} {s9:Shared},Inv (X.block scope N fp {s2 with heap:=h3} (upd H2 s2.heap.objs.size (.lst [])) h3.objs.size) ([]++pU fp s7.heap) σ9 H9 s9->N' σ9 H9->
     ∃m,m<n/\∃i σ' H',Inv (X.block scope N fp {s2 with heap:=h3} (upd H2 s2.heap.objs.size (.lst [])) h3.objs.size) [] σ' H' s9/\tn i s9.heap/\(∀b∈fp,H' b=none)/\W i m σ' H':=fun{σ9 H9 s9} I9 n9=>by
    obtain⟨m',hm,w9⟩:=hN' σ9 H9 n9
    refine⟨m',hm,i+1,σ9,H9,I9.unpinned,T.keep _ _ _ st7 fun b hb o e=>(I9.pin (b,o) (bo _ (bo _ (sJ hb e)))).1,fun b hb=>?_,w9⟩
    obtain⟨o,e,d⟩:=T.obj _ _ st7 b hb
    exact(I9.pin (b,o) (bo _ (bo _ (sJ hb e)))).2.1
   refine af (dh (hg fp _ _ _ _ s7 σ5 H7 x u _ I7' r7 (step x H7 y7)) (fun _ s8 ⟨σ8,H8,I8,q8⟩=>?_) fun _ _ z=>False.elim z)
   refine af (dh (ht fp _ _ _ _ s8 σ8 H8 _ I8 q8) (fun ok s9 ⟨H9,I9,q9⟩=>?_) fun _ _ z=>False.elim z)
   cases ok with
   |false=>exact aB ⟨rfl,fin I9 q9⟩
   | true=>
    refine af (af (dh (he fp _ _ _ _ s9 σ8 H9 _ I9 q9) (fun v s10 ⟨y,H10,I10,r10,xs,hx,hz,q10⟩=>?_) fun _ _ z=>False.elim z))
    refine af (dh (Az (X:=X.block scope N fp {s2 with heap:=h3} (upd H2 s2.heap.objs.size (.lst [])) h3.objs.size) _ s10 σ8 H10 (.ref s2.heap.objs.size) [y] _ [v] (fun _ H11=>N' σ8 H11) I10 rfl (.cons r10 .nil) ⟨_,xs,y,rfl,rfl,hx,hz,q10⟩)
     (fun _ s11 ⟨_,H11,I11,_,q11⟩=>aB (aB ⟨rfl,fin I11 q11⟩)) fun _ _ z=>False.elim z)
 exact codeAny_compStart_list (loop _ rfl) (T.self _ 0 _ _ _ tn1 (loop _ rfl))
def rb(src:List (Option Nat))(wi:TI)(g:TG)(tc:TT)(te:TE):TE:=fun σ H Q=>wi σ H fun J H1=>∀l,H1 l=none->pL J src g tc te Q σ H1 l
theorem kN{X:Cx}{elt tg iter:Expr}{ifs:List Expr}{scope:Scope}{pos:Pos}{N:List Str}{src:List (Option Nat)}{wi:TI}{g:TG}{tc:TT}{te:TE}(S:CpScope X scope N src)(hc:X.calm=true)
  (hi:PI X tg iter wi) (hg:∀fp s₀ H₀ C,PG (X.block scope N fp s₀ H₀ C) tg g) (ht:∀fp s₀ H₀ C,qw (X.block scope N fp s₀ H₀ C) ifs tc) (he:∀fp s₀ H₀ C,PE (X.block scope N fp s₀ H₀ C) elt te)
  (hs:∀x,foldedSetIterable iter X.env x=pure x:=by intro _;rfl):PE X (.ListComp elt [⟨tg,iter,ifs,0⟩] scope pos) (rb src wi g tc te):=by
 intro pins s σ H Q I h
 rw[eval_ListComp]
 refine wpAny_comprehension_free (use:=none) rfl hs (Bg fun y hy e=>I.ok.has y.1 (.inl (S.frees y hy e).2)) S.kind S.locs ?_
 refine iP (hi pins s σ H _ I h) fun v s1 h1=>iP h1 fun itv s2 h2=>?_
 obtain⟨it,fp,tn,J,H2,e,I2,T,st2,f2,hw⟩:=h2
 subst e
 refine Am (RR:=fun acc C=>compPost (model X.prog X.w) X.A X.xe none (EP X pins σ Q) acc C) S hc hg ht he I2 T st2 f2 hw ?_
 intro l C H' s' I' hm fC q
 obtain⟨m,hm⟩:=hm
 refine⟨m,hm,fun h' hs'=>?_⟩
 exact⟨.ref l,H',I'.turned (t':=s'.toks) (fun b o hb e=>hs'.extBut b o hb e) fC.1 fC.2.1 fC.2.2.2.1 fC.2.2.2.2.1 fC.2.2.2.2.2,rfl,q⟩
theorem uV{X:Cx}{i:Nat}{x:Str}{pos' spos:Pos}{elt tg iter:Expr}{ifs:List Expr}{scope:Scope}{pos:Pos}{N:List Str}{src:List (Option Nat)}{wi:TI}{g:TG}{tc:TT}{te:TE}(hN:X.N.Nodup)(hix:X.N[i]? =some x)(hx:Loc X.env.scope x)
  (S:CpScope X scope N src) (hc:X.calm=true)
  (hi:PI X tg iter wi) (hg:∀fp s₀ H₀ C,PG (X.block scope N fp s₀ H₀ C) tg g) (ht:∀fp s₀ H₀ C,qw (X.block scope N fp s₀ H₀ C) ifs tc) (he:∀fp s₀ H₀ C,PE (X.block scope N fp s₀ H₀ C) elt te)
  (hsw:swapsWith (.ListComp elt [⟨tg,iter,ifs,0⟩] scope pos) (some (.Name x pos')) spos.line X.env=pure true:=by rfl)
  (hs:∀x,foldedSetIterable iter X.env x=pure x:=by intro _;rfl) (hf:X.fn x=true\/X.env.scope.names.lookup x=some .local:=by first|exact .inl rfl|exact .inr rfl|assumption):
  PS X (.Assign [.Name x pos'] (.ListComp elt [⟨tg,iter,ifs,0⟩] scope pos) spos) (qH (rb src wi g tc te) (mF i)):=by
 intro pins s σ H D I h
 rw[exec_Assign_Name_used _ _ _ _ hsw]
 refine af (wpAny_standAt (af ?_))
 show wpAny _ X.A (do let _ <- comprehension (.ListComp elt [⟨tg,iter,ifs,0⟩] scope pos) scope X.env _ (newList []) false (eval iter X.env) (some (assign (.Name x pos') X.env))) _ _ s
 refine af (dh (wpAny_comprehension_free (use:=some (assign (.Name x pos') X.env)) (Q:=fun _ s'=>SP X pins D .next s') rfl hs (Bg fun y hy e=>I.ok.has y.1 (.inl (S.frees y hy e).2)) S.kind S.locs
  (iP (hi pins s σ H _ I h) fun v s1 h1=>iP h1 fun itv s2 h2=>?_)) (fun _ s' hq=>aB (aB hq)) fun _ _ e=>e)
 obtain⟨it,fp,tn,J,H2,e,I2,T,st2,f2,hw⟩:=h2
 subst e
 refine Am (Q:=fun v H'=>D.nx (σ.set i (some v)) H') (RR:=fun acc C=>compPost (model X.prog X.w) X.A X.xe (some (assign (.Name x pos') X.env)) (fun _ s'=>SP X pins D .next s') acc C) S hc hg ht he I2 T st2 f2 hw ?_
 intro l C H' s' I' hm fC q
 obtain⟨m,hm⟩:=hm
 show wpAny _ X.A (assign (.Name x pos') X.env (.ref l)) _ _ _
 refine wpAny_assign_Name (AD I' hN hix hx (v:=.ref l) rfl (fun s'' I'' ⟨a,sb,ha⟩=>?_) hf)
 have hCa:C≠a:=by
  rcases ha with rfl|ha
  ·exact fC.2.1
  ·exact fun z=>fC.2.2.2.2.1 x a ha z.symm
 refine⟨m,hm.sameBut sb hCa,fun h' hs'=>?_⟩
 exact⟨_,H',I''.turned (t':=s''.toks) (fun b o hb e=>hs'.extBut b o hb e) fC.1 fC.2.1 fC.2.2.2.1 fC.2.2.2.2.1 fC.2.2.2.2.2,q⟩
theorem Inv.turnedNew{X:Cx}{pins:List (Addr×Obj)}{σ:St}{H:Hp}{s:Shared}{h':Heap}{ch:List Addr}{t:Addr}{o:HO}{t':Nat}(I:Inv X pins σ H s)(hsz:s.heap.objs.size<=t)
  (k:∀b ob,b∉ch->s.heap.get? b=some ob->h'.get? b=some ob) (hch:∀b∈ch,lH X pins H b) (new:jbk X.prog X.w (upd H t o) h' t o):
  Inv X pins σ (upd H t o) {s with heap:=h',toks:=t'}:=by
 have hn:H t=none:=I.hok.fresh hsz
 have nt:∀{b ob},s.heap.get? b=some ob->b≠t:=fun q=>aX (bj (aL q) hsz)
 have u:Un (k9 X.stack) ch H (upd H t o) s.heap h':=
  ⟨fun b ob q _ _ hx=>k b ob hx q,fun b ob q _ _ hx=>⟨ob.slots,k b ob hx q⟩,fun b ob q n _=>by rw[iQ (nt q)];exact n,fun b ob q hx=>⟨ob,k b ob hx q⟩,
   fun b xs q=>by rw[iQ (iV q hn)];exact q,fun b ob xs q=>by rw[iQ (iV q hn)];exact q,fun b ps q=>⟨#[],by rw[iQ (iV q hn),q];simp⟩⟩
 refine I.call (g':=s.gens) (t':=t') (d':=s.drawn) u (fun b ob e=>?_) I.bare fun b hb=>⟨(hch b hb).2.2.2.1,(hch b hb).2.1,(hch b hb).2.2.2.2.1,(hch b hb).2.2.2.2.2⟩
 by_cases hb:b=t
 ·subst hb;rw[iK]at e;cases e;exact new
 ·rw[iQ hb]at e
  have ntr:∀{c u},H c=some u->c∉ch:=fun q z=>by rw[(hch _ z).1]at q;cases q
  refine(I.hok b ob e).stay (fun c v hc q=>k c v ?_ q) (fun c q=>by rw[iQ (iV q hn)];exact q) fun c xs q=>by rw[iQ (iV q hn)];exact q
  rcases hc with z|z
  ·rw[z];exact ntr e
  ·exact ntr z
theorem Inv.turnedAll{X:Cx}{pins:List (Addr×Obj)}{σ:St}{H:Hp}{s:Shared}{h':Heap}{ch:List Addr}{t':Nat}(I:Inv X pins σ H s)
  (k:∀b ob,b∉ch->s.heap.get? b=some ob->h'.get? b=some ob) (hch:∀b∈ch,lH X pins H b):Inv X pins σ H {s with heap:=h',toks:=t'}:=by
 have u:Un (k9 X.stack) ch H H s.heap h':=
  ⟨fun b ob q _ _ hx=>k b ob hx q,fun b ob q _ _ hx=>⟨ob.slots,k b ob hx q⟩,fun b ob q n _=>n,fun b ob q hx=>⟨ob,k b ob hx q⟩,fun b xs q=>q,fun b ob xs q=>q,fun b ps q=>⟨#[],by rw[q];simp⟩⟩
 refine I.call (g':=s.gens) (t':=t') (d':=s.drawn) u (fun b ob e=>?_) I.bare fun b hb=>⟨(hch b hb).2.2.2.1,(hch b hb).2.1,(hch b hb).2.2.2.2.1,(hch b hb).2.2.2.2.2⟩
 have ntr:∀{c u},H c=some u->c∉ch:=fun q z=>by rw[(hch _ z).1]at q;cases q
 refine(I.hok b ob e).stay (fun c v hc q=>k c v ?_ q) (fun c q=>q) fun c xs q=>q
 rcases hc with z|z
 ·rw[z];exact ntr e
 ·exact ntr z
noncomputable def oz(K:PySem.W.Frag)(a:Addr):It:=
 ⟨fun i H=>∃xs x,SqL K H a xs/\xs[i]? =some x,fun i H x H'=>∃t y,H t=none/\x= .ref t/\H'=upd H t (.tup [.int i,y])/\∀xs,SqL K H a xs->xs[i]? =some y,fun i H=>∃xs,SqL K H a xs/\xs.length<=i⟩
theorem Gc{P:Program}{w:World}{K:PySem.W.Frag}{elts:List Expr}{x1:Nat}{pos:Pos}(a e it:Addr)(hne:e≠it):
  Turn P w K (.Tuple elts x1 pos) (oz K a) [e,it] e (fun i h=>(∃old,IsEnum h e it i old)/\h.IsListIter it a i)where
 mem:=by simp
 obj:=fun i h st b hb=>by
  obtain⟨⟨old,he⟩,hit⟩:=st
  have q:b=e\/b=it:=by simpa using hb
  rcases q with rfl|rfl
  ·exact⟨_,he,fun v z=>by
    have z':Data.fields _=Data.cell v:=z
    cases z'⟩
  ·obtain⟨o,e1,c,d⟩:=hit
   exact⟨o,e1,fun v z=>by rw[d]at z;cases z⟩
 keep:=fun i h h' st k=>by
  obtain⟨⟨old,he⟩,hit⟩:=st
  exact⟨⟨old,k e (by simp) _ he⟩,hit.at fun o z=>k it (by simp) o z⟩
 item:=by
  intro X hP hw hK hc i pins s σ H E I hf st hg
  subst hP hw hK
  obtain⟨⟨old,he⟩,hit⟩:=st
  obtain⟨xs,x,hq,hx⟩:=hg
  obtain⟨its,rv,p,hz⟩:=I.list hq
  obtain⟨u,hu,ru⟩:=rv.get hx
  have elt:e<s.heap.objs.size:=aL he
  have ilt:it<s.heap.objs.size:=by obtain⟨_,z,_⟩:=hit;exact aL z
  refine wpAny_pyNext_enum_item he hit p.isList (x:=u) (by simpa using hu) hne fun h1 ho hit1 hT hsz1 hk1=>?_
  refine⟨_,rfl,wpAny_letOwnedTupleGo_enum ho fun h2 he2 hs2=>?_⟩
  replace hs2:Heap.SameBut e h1 h2:=hs2
  have kk:∀b ob,b∉[e,it]->s.heap.get? b=some ob->h2.get? b=some ob:=fun b ob hb q=>by
   have hb':b≠e/\b≠it:=by simpa using hb
   exact hs2.extBut b ob hb'.1 (hk1 b ob hb'.1 hb'.2 q)
  have hT2:h2.get? s.heap.objs.size=some {cls:=.type "tuple",data:=.seq #[.int i s.toks,u]}:=(hs2.2 _ (dE elt)).trans hT
  refine⟨.ref s.heap.objs.size,upd H s.heap.objs.size (.tup [.int i,x]),I.turnedNew (ch:=[e,it]) (ao _) kk hf ?_,rfl,⟨_,x,I.fresh,rfl,rfl,fun ys hy=>by rw[I.list_inj hy hq];exact hx⟩,⟨⟨u,by simpa using he2⟩,hit1.at fun o z=>(hs2.2 it hne.symm).trans z⟩,fun b hb=>?_⟩
  ·exact⟨by show 2<=sizeLine;decide,[.int i s.toks,u],.cons ⟨_,rfl⟩ (.cons ru .nil),⟨_,hT2,rfl,_,rfl⟩⟩
  ·have hb':b=e\/b=it:=by simpa using hb
   have:b≠s.heap.objs.size:=by
    rcases hb' with rfl|rfl
    ·exact aX elt
    ·exact aX ilt
   rw[iQ this]
   exact(hf b hb).1
 done:=by
  intro X hP hw hK hc i pins s σ H E I hf st hg
  subst hP hw hK
  obtain⟨⟨old,he⟩,hit⟩:=st
  obtain⟨xs,hq,hx⟩:=hg
  obtain⟨its,rv,p,hz⟩:=I.list hq
  have hl:=rv.length
  refine wpAny_pyNext_enum_end (I.ok.hd hc) he hit p.isList (by simp;lia) fun h' eb=>⟨rfl,I.turnedAll (ch:=[e,it]) (t':=s.toks) (fun b o hb q=>eb b o (fun z=>hb (by simp[z])) q) hf⟩
 self:=fun _ _ _ _ _ st h=>by
  obtain⟨⟨old,he⟩,_⟩:=st
  exact wpAny_pyIter_enum he h
def tV(K:PySem.W.Frag)(ta:TA):TI:=fun σ H R=>ta σ H fun vs H1=>∃a,vs=[.ref a]/\(∃xs,SqL K H1 a xs)/\R (oz K a) H1
theorem rJ{X:Cx}{elts:List Expr}{x1:Nat}{tpos:Pos}{a:Expr}{ta:TA}{p pos:Pos}(hg:Gl X "enumerate")(hm:X.mg "enumerate"=none)(ha:PA X [a] ta)(hs:starEach [a] X.env=[(false,eval a X.env)]:=by rfl):
  PI X (.Tuple elts x1 tpos) (.Call (.Name "enumerate" p) [a] [] pos) (tV X.K ta):=by
 intro pins s σ H R I h
 refine Call_ (oP I hg hm boot_enumerate (dY (iP (ha pos pins s σ H _ I h) fun us s1 ⟨vs,H1,I1,r1,q1⟩=>?_) hs rfl))
 obtain⟨a,e,⟨xs,hq⟩,q⟩:=q1
 subst e
 cases r1 with
 |cons r rr=>
  cases rr
  cases r
  obtain⟨its,rv,pl,hz⟩:=I1.list hq
  refine call_enumerate_list pl.isList fun h' he hit hsz hk=>?_
  refine wpAny_pyIter_enum he ?_
  have I2:Inv X pins σ H1 {s1 with heap:=h'}:=I1.kept (t':=s1.toks) fun b o q=>hk b o q
  refine⟨_,[s1.heap.objs.size+1,s1.heap.objs.size],_,_,H1,rfl,I2,Gc a _ _ (Nat.succ_ne_self _),⟨⟨_,he⟩,hit⟩,fun b hb=>?_,q⟩
  have hb':b=s1.heap.objs.size+1\/b=s1.heap.objs.size:=by simpa using hb
  rcases hb' with rfl|rfl
  ·exact I1.fpOk (dA _) (I1.hok.fresh (dA _))
  ·exact I1.fpOk (ao _) (I1.hok.fresh (ao _))
section
variable{prog:Program}{w:World}{A:Around}{E:Value->Shared->Prop}{s:Shared}
theorem Gy{j t:Addr}{k:Nat}{ar:Array Value}{x:Value}{Q:Value->Shared->Prop}(hj:s.heap.IsTupleIter j t k)(ht:s.heap.IsTuple t ar)(hx:ar[k]? =some x)
  (hQ:∀h',h'.IsTupleIter j t (k+1)->Heap.SameBut j s.heap h'->Q x {s with heap:=h'}):wpAny (model prog w) A (Builtin.SmallTypes.nextOf (.ref j)) Q E s:=by
 obtain⟨ob,e0,hcl,hdt⟩:=id hj
 obtain⟨ot,e1,_,nt,hdl⟩:=ht
 unfold Builtin.SmallTypes.nextOf
 refine af (dw (name:=Str.ofString "__next__") hj.typeIs er (dq er hj.typeIs ir ?_ (ip _)))
 show wpAny _ _ (field (.ref j) 0>>=_) _ _ s
 refine af (cB e0 hdt (x:=.ref t) rfl ?_)
 show wpAny _ _ (if(Value.ref t==Value.none)=true then _ else _) _ _ s
 rw[ay (show ¬((Value.ref t==Value.none)=true)from aU)]
 show wpAny _ _ (field (.ref j) 1>>=_) _ _ s
 refine af (cB e0 hdt (x:=.int k 0) rfl ?_)
 show wpAny _ _ (seqItems? (.ref t)>>=_) _ _ s
 refine af (cg e1 hdl ?_)
 simp only[Int.toNat_natCast,hx]
 refine af (wpAny_setField e0 hdt (by simp) (aB ⟨x,rfl,aB (hQ _ ?_ (Heap.SameBut.update ..))⟩))
 exact⟨_,dX _ e0 (Obj.isFreed_of_fields (Obj.data_mapFields hdt _)),(Obj.cls_mapFields ..).trans hcl,by rw[Obj.data_mapFields hdt];simp[rawInt]⟩
theorem HA{j t:Addr}{k:Nat}{ar:Array Value}{Q:Value->Shared->Prop}(hh:A.handled=none)(hj:s.heap.IsTupleIter j t k)(ht:s.heap.IsTuple t ar)(hx:ar[k]? =none)
  (hE:∀h' e,Heap.ExtBut j s.heap h'->(∃o,h'.get? e=some o/\o.cls= .type "StopIteration")->E (.ref e) {s with heap:=h'}):wpAny (model prog w) A (Builtin.SmallTypes.nextOf (.ref j)) Q E s:=by
 obtain⟨ob,e0,hcl,hdt⟩:=id hj
 obtain⟨ot,e1,_,nt,hdl⟩:=ht
 unfold Builtin.SmallTypes.nextOf
 refine af (dw (name:=Str.ofString "__next__") hj.typeIs er (dq er hj.typeIs ir ?_ (ip _)))
 show wpAny _ _ (field (.ref j) 0>>=_) _ _ s
 refine af (cB e0 hdt (x:=.ref t) rfl ?_)
 show wpAny _ _ (if(Value.ref t==Value.none)=true then _ else _) _ _ s
 rw[ay (show ¬((Value.ref t==Value.none)=true)from aU)]
 show wpAny _ _ (field (.ref j) 1>>=_) _ _ s
 refine af (cB e0 hdt (x:=.int k 0) rfl ?_)
 show wpAny _ _ (seqItems? (.ref t)>>=_) _ _ s
 refine af (cg e1 hdl ?_)
 simp only[Int.toNat_natCast,hx]
 refine af (cY (af (wpAny_setField e0 hdt (by simp) ?_)))
 show wpAny _ _ (newExc (.type "StopIteration") []>>=_) _ _ _
 refine af ?_
 simp only[newExc,newTuple]
 refine af (cF ?_ (by size_fits))
 refine af (m:=firstArgMember _ _) (gq (a:=Value.none) (by first|rfl|(simp only[firstArgMember];rfl)) ?_)
 refine cF ?_ (by size_fits)
 simp only[raiseNew]
 refine af (wpAny_handled ?_)
 first|rw[show A.in1.handled=none from hh]|rw[hh]
 refine af (aB (wpAny_throw ?_))
 exact hE _ _ (((Heap.SameBut.update ..).extBut.push _).push _) ⟨_,aR _ rfl,rfl⟩
def IsSq(b:Bool)(h:Heap)(l:Addr)(ar:Array Value):Prop:=if b=true then h.IsList l ar else h.IsTuple l ar
def jbn(b:Bool)(h:Heap)(j l:Addr)(k:Nat):Prop:=if b=true then h.IsListIter j l k else h.IsTupleIter j l k
theorem IsSq.at'{b:Bool}{h h':Heap}{l:Addr}{ar:Array Value}(x:IsSq b h l ar)(k:∀o,h.get? l=some o->h'.get? l=some o):IsSq b h' l ar:=by
 cases b with
 |true=>obtain⟨o,e,r⟩:=(show h.IsList l ar from x);exact(show h'.IsList l ar from⟨o,k o e,r⟩)
 |false=>obtain⟨o,e,r⟩:=(show h.IsTuple l ar from x);exact(show h'.IsTuple l ar from⟨o,k o e,r⟩)
theorem jbn.at'{b:Bool}{h h':Heap}{j l:Addr}{i:Nat}(x:jbn b h j l i)(k:∀o,h.get? j=some o->h'.get? j=some o):jbn b h' j l i:=by
 cases b with
 |true=>obtain⟨o,e,r⟩:=(show h.IsListIter j l i from x);exact(show h'.IsListIter j l i from⟨o,k o e,r⟩)
 |false=>obtain⟨o,e,r⟩:=(show h.IsTupleIter j l i from x);exact(show h'.IsTupleIter j l i from⟨o,k o e,r⟩)
theorem jbn.obj{b:Bool}{h:Heap}{j l:Addr}{i:Nat}(x:jbn b h j l i):∃o,h.get? j=some o/\∀v,o.data≠ .cell v:=by
 cases b with
 |true=>obtain⟨o,e,_,d⟩:=(show h.IsListIter j l i from x);exact⟨o,e,fun v z=>by rw[d]at z;cases z⟩
 |false=>obtain⟨o,e,_,d⟩:=(show h.IsTupleIter j l i from x);exact⟨o,e,fun v z=>by rw[d]at z;cases z⟩
theorem vB{b:Bool}{j l:Addr}{k:Nat}{ar:Array Value}{x:Value}{Q:Value->Shared->Prop}(hj:jbn b s.heap j l k)(hl:IsSq b s.heap l ar)(hx:ar[k]? =some x)
  (hQ:∀h',jbn b h' j l (k+1)->Heap.SameBut j s.heap h'->Q x {s with heap:=h'}):wpAny (model prog w) A (Builtin.SmallTypes.nextOf (.ref j)) Q E s:=by
 cases b with
 |true=>exact wpAny_nextOf_list_item (show s.heap.IsListIter j l k from hj) (show s.heap.IsList l ar from hl) hx fun h' a b=>hQ h' a b
 |false=>exact Gy (show s.heap.IsTupleIter j l k from hj) (show s.heap.IsTuple l ar from hl) hx fun h' a b=>hQ h' a b
theorem Bd{b:Bool}{j l:Addr}{k:Nat}{ar:Array Value}{Q:Value->Shared->Prop}(hh:A.handled=none)(hj:jbn b s.heap j l k)(hl:IsSq b s.heap l ar)(hx:ar[k]? =none)
  (hE:∀h' e,Heap.ExtBut j s.heap h'->(∃o,h'.get? e=some o/\o.cls= .type "StopIteration")->E (.ref e) {s with heap:=h'}):wpAny (model prog w) A (Builtin.SmallTypes.nextOf (.ref j)) Q E s:=by
 cases b with
 |true=>exact wpAny_nextOf_list_end hh (show s.heap.IsListIter j l k from hj) (show s.heap.IsList l ar from hl) hx hE
 |false=>exact HA hh (show s.heap.IsTupleIter j l k from hj) (show s.heap.IsTuple l ar from hl) hx hE
theorem Hn{b:Bool}{z TI TO i1 i2 l1 l2:Addr}{k1 k2:Nat}{xs ys:Array Value}{x y v0 v1:Value}{Q:Value->Shared->Prop}(D:ZipApart z TI TO i1 i2 l1 l2)
  (hz:IsZip s.heap z TI TO .none) (hTI:IsPair s.heap TI (.ref i1) (.ref i2)) (hTO:IsPair s.heap TO v0 v1)
  (h1:jbn b s.heap i1 l1 k1) (h2:jbn b s.heap i2 l2 k2) (hl1:IsSq b s.heap l1 xs) (hl2:IsSq b s.heap l2 ys) (hx:xs[k1]? =some x) (hy:ys[k2]? =some y)
  (hQ:∀h',IsZip h' z TI TO (rawInt s.heap.objs.size)->IsPair h' TO x y->jbn b h' i1 l1 (k1+1)->jbn b h' i2 l2 (k2+1)->IsPair h' s.heap.objs.size x y->
   (∀c o,c≠z->c≠TO->c≠i1->c≠i2->s.heap.get? c=some o->h'.get? c=some o)->Q (.ref s.heap.objs.size) {s with heap:=h'}):
  wpAny (model prog w) A (Builtin.«zip.__next__» ⟨[.ref z],[]⟩) (fun fin s'=>∃v,fin= .done (.ret v)/\Q v s') E s:=by
 show wpAny _ _ (field (.ref z) 2>>=_) _ _ _
 refine af (cB hz rfl (x:=.bool false) rfl ?_)
 show wpAny _ _ (field (.ref z) 3>>=_) _ _ _
 refine af (cB hz rfl (x:=.ref TI) rfl ?_)
 refine af (cg hTI rfl ?_)
 show wpAny _ _ (Builtin.SmallTypes.ownedTupleIsFree (.ref z)>>=_) _ _ _
 refine af ?_
 unfold Builtin.SmallTypes.ownedTupleIsFree
 refine af (cB hz rfl (x:=.none) rfl (aB ?_))
 simp only[if_true]
 refine af (cY ?_)
 refine af (cB hz rfl (x:=.ref TO) rfl ?_)
 refine af (dC hz (by simp) fun g1 hzA sA=>?_)
 replace hzA:IsZip g1 z TI TO .ellipsis:=hzA
 refine af ?_
 simp only[List.zipIdx_cons,List.zipIdx_nil,il,List.forIn_nil]
 refine af (af (gA ?_))
 show wpAny _ _ (Builtin.SmallTypes.nextOf (.ref i1)>>=_) _ _ _
 refine af (vB (b:=b) (h1.at' fun o e=>sA.extBut _ o D.i1z e) (hl1.at' fun o e=>sA.extBut _ o D.l1z e) hx fun g2 h1B sB=>aB ?_)
 have TOB:IsPair g2 TO v0 v1:=sB.extBut _ _ D.TOi1 (sA.extBut _ _ D.TOz hTO)
 refine af (cg TOB rfl ?_)
 refine af (gp TOB fun g3 TOC sC=>?_)
 replace TOC:IsPair g3 TO x v1:=TOC
 refine af (eY (aB ?_))
 refine af (af (gA ?_))
 show wpAny _ _ (Builtin.SmallTypes.nextOf (.ref i2)>>=_) _ _ _
 refine af (vB (b:=b) (h2.at' fun o e=>sC.extBut _ o D.TOi2.symm (sB.extBut _ o D.i12.symm (sA.extBut _ o D.i2z e))) (hl2.at' fun o e=>sC.extBut _ o D.l2TO (sB.extBut _ o D.l2i1 (sA.extBut _ o D.l2z e))) hy fun g4 h2D sD=>aB ?_)
 have TOD:IsPair g4 TO x v1:=sD.extBut _ _ D.TOi2 TOC
 refine af (cg TOD rfl ?_)
 refine af (gp TOD fun g5 TOE sE=>?_)
 replace TOE:IsPair g5 TO x y:=TOE
 refine af (eY (aB (aB ?_)))
 refine af (cg TOE rfl ?_)
 refine af (wpAny_newTuple ?_)
 have hsz:g5.objs.size=s.heap.objs.size:=by rw[sE.1,sD.1,sC.1,sB.1,sA.1]
 have hzE:IsZip g5 z TI TO .ellipsis:=sE.extBut _ _ D.TOz.symm (sD.extBut _ _ D.i2z.symm (sC.extBut _ _ D.TOz.symm (sB.extBut _ _ D.i1z.symm hzA)))
 have hkE:∀c o,c≠z->c≠TO->c≠i1->c≠i2->s.heap.get? c=some o->g5.get? c=some o:=fun c o c1 c2 c3 c4 e=>sE.extBut _ _ c2 (sD.extBut _ _ c4 (sC.extBut _ _ c2 (sB.extBut _ _ c3 (sA.extBut _ _ c1 e))))
 have h1E:jbn b g5 i1 l1 (k1+1):=h1B.at' fun o e=>sE.extBut _ o D.TOi1.symm (sD.extBut _ o D.i12 (sC.extBut _ o D.TOi1.symm e))
 have h2E:jbn b g5 i2 l2 (k2+1):=h2D.at' fun o e=>sE.extBut _ o D.TOi2.symm e
 have zlt:z<g5.objs.size:=aL hzE
 show wpAny _ _ (Builtin.SmallTypes.ownedTupleHandOut (.ref z) (.ref g5.objs.size)>>=_) _ _ _
 refine af ?_
 unfold Builtin.SmallTypes.ownedTupleHandOut
 have hzF:IsZip (g5.push {cls:=.type "tuple",data:=.seq #[x,y]}) z TI TO .ellipsis:=ag _ hzE
 refine af (dC hzF (by simp) fun g7 hzG sG=>?_)
 replace hzG:IsZip g7 z TI TO (rawInt g5.objs.size):=hzG
 refine dC hzG (by simp) fun g8 hzI sI=>?_
 replace hzI:IsZip g8 z TI TO (rawInt g5.objs.size):=hzI
 have up:∀c o,c≠z->g5.get? c=some o->g8.get? c=some o:=fun c o c1 e=>sI.extBut _ _ c1 (sG.extBut _ _ c1 (ag _ e))
 have hTI8:IsPair g8 g5.objs.size x y:=sI.extBut _ _ (dE zlt) (sG.extBut _ _ (dE zlt) (aR _ rfl))
 rw[hsz]at hzI hTI8
 refine aB ⟨_,rfl,?_⟩
 show Q (.ref g5.objs.size) _
 rw[hsz]
 exact hQ g8 hzI (up _ _ D.TOz TOE) (h1E.at' fun o e=>up _ o D.i1z e) (h2E.at' fun o e=>up _ o D.i2z e) hTI8 fun c o c1 c2 c3 c4 e=>up c o c1 (hkE c o c1 c2 c3 c4 e)
theorem Hb{b:Bool}{z TI TO i1 i2 l1 l2:Addr}{k1 k2:Nat}{xs ys:Array Value}{v0 v1:Value}{Q:Fin->Shared->Prop}(hh:A.handled=none)(D:ZipApart z TI TO i1 i2 l1 l2)
  (hz:IsZip s.heap z TI TO .none) (hTI:IsPair s.heap TI (.ref i1) (.ref i2)) (hTO:IsPair s.heap TO v0 v1)
  (h1:jbn b s.heap i1 l1 k1) (h2:jbn b s.heap i2 l2 k2) (hl1:IsSq b s.heap l1 xs) (hl2:IsSq b s.heap l2 ys) (hend:xs[k1]? =none\/ys[k2]? =none)
  (hE:∀h' e,(∀c o,c≠z->c≠TO->c≠i1->c≠i2->s.heap.get? c=some o->h'.get? c=some o)->(∃o,h'.get? e=some o/\o.cls= .type "StopIteration")->E (.ref e) {s with heap:=h'}):
  wpAny (model prog w) A (Builtin.«zip.__next__» ⟨[.ref z],[]⟩) Q E s:=by
 show wpAny _ _ (field (.ref z) 2>>=_) _ _ _
 refine af (cB hz rfl (x:=.bool false) rfl ?_)
 show wpAny _ _ (field (.ref z) 3>>=_) _ _ _
 refine af (cB hz rfl (x:=.ref TI) rfl ?_)
 refine af (cg hTI rfl ?_)
 show wpAny _ _ (Builtin.SmallTypes.ownedTupleIsFree (.ref z)>>=_) _ _ _
 refine af ?_
 unfold Builtin.SmallTypes.ownedTupleIsFree
 refine af (cB hz rfl (x:=.none) rfl (aB ?_))
 simp only[if_true]
 refine af (cY ?_)
 refine af (cB hz rfl (x:=.ref TO) rfl ?_)
 refine af (dC hz (by simp) fun g1 hzA sA=>?_)
 replace hzA:IsZip g1 z TI TO .ellipsis:=hzA
 refine af ?_
 simp only[List.zipIdx_cons,List.zipIdx_nil,il,List.forIn_nil]
 refine af (af (gA ?_))
 show wpAny _ _ (Builtin.SmallTypes.nextOf (.ref i1)>>=_) _ _ _
 cases hx:xs[k1]? with
 |none=>
  refine af (Bd (b:=b) hh (h1.at' fun o e=>sA.extBut _ o D.i1z e) (hl1.at' fun o e=>sA.extBut _ o D.l1z e) hx fun g2 ex sB he=>?_)
  obtain⟨oe,hoe,hce⟩:=he
  have hzB:IsZip g2 z TI TO .ellipsis:=sB _ _ D.i1z.symm hzA
  have hez:ex≠z:=fun q=>by subst q;rw[hzB]at hoe;cases hoe;simp at hce
  refine dC hzB (by simp) fun g3 _ sC=>hE g3 ex (fun c o c1 _ c3 _ q=>sC.extBut _ _ c1 (sB _ _ c3 (sA.extBut _ _ c1 q))) ⟨oe,sC.extBut _ _ hez hoe,hce⟩
 |some x=>
  have hy:ys[k2]? =none:=by rcases hend with h|h;rw[hx]at h;cases h;exact h
  refine af (vB (b:=b) (h1.at' fun o e=>sA.extBut _ o D.i1z e) (hl1.at' fun o e=>sA.extBut _ o D.l1z e) hx fun g2 h1B sB=>aB ?_)
  have TOB:IsPair g2 TO v0 v1:=sB.extBut _ _ D.TOi1 (sA.extBut _ _ D.TOz hTO)
  refine af (cg TOB rfl ?_)
  refine af (gp TOB fun g3 TOC sC=>?_)
  refine af (eY (aB ?_))
  refine af (af (gA ?_))
  show wpAny _ _ (Builtin.SmallTypes.nextOf (.ref i2)>>=_) _ _ _
  refine af (Bd (b:=b) hh (h2.at' fun o e=>sC.extBut _ o D.TOi2.symm (sB.extBut _ o D.i12.symm (sA.extBut _ o D.i2z e))) (hl2.at' fun o e=>sC.extBut _ o D.l2TO (sB.extBut _ o D.l2i1 (sA.extBut _ o D.l2z e))) hy fun g4 ex sD he=>?_)
  obtain⟨oe,hoe,hce⟩:=he
  have hzD:IsZip g4 z TI TO .ellipsis:=sD _ _ D.i2z.symm (sC.extBut _ _ D.TOz.symm (sB.extBut _ _ D.i1z.symm hzA))
  have hez:ex≠z:=fun q=>by subst q;rw[hzD]at hoe;cases hoe;simp at hce
  refine dC hzD (by simp) fun g5 _ sE=>hE g5 ex (fun c o c1 c2 c3 c4 q=>sE.extBut _ _ c1 (sD _ _ c4 (sC.extBut _ _ c2 (sB.extBut _ _ c3 (sA.extBut _ _ c1 q))))) ⟨oe,sE.extBut _ _ hez hoe,hce⟩
end
noncomputable abbrev pG(b:Bool)(l:Addr):Obj:={cls:=.type (if b=true then "list_iterator" else "tuple_iterator"),data:=.fields #[.ref l,.int 0 0]}
noncomputable abbrev qE(b:Bool)(h:Heap)(l1 l2:Addr):Heap:=(h.push (pG b l1)).push (pG b l2)
noncomputable abbrev qz(b:Bool)(h:Heap)(l1 l2:Addr):Heap:=(qE b h l1 l2).push {cls:=.type "tuple",data:=.seq #[.ref h.objs.size,.ref (h.push (pG b l1)).objs.size]}
noncomputable abbrev qy(b:Bool)(h:Heap)(l1 l2:Addr):Heap:=(qz b h l1 l2).push {cls:=.type "tuple",data:=.seq #[.none,.none]}
noncomputable abbrev oA(b:Bool)(h:Heap)(l1 l2:Addr):Heap:=(qy b h l1 l2).push {cls:=.type "zip",data:=.fields #[.none,.bool false,.bool false,.ref (qE b h l1 l2).objs.size,.ref (qz b h l1 l2).objs.size]}
theorem Gf(l1 l2:Addr)(xs ys:Array Value):
  Meets (Builtin.«zip.__new__» ⟨[.type "zip",.ref l1,.ref l2],[]⟩) (fun _ R s=>s.heap.IsTuple l1 xs/\s.heap.IsTuple l2 ys/\R (.ok (.ret (.ref (qy false s.heap l1 l2).objs.size))) {s with heap:=oA false s.heap l1 l2}):=
 .of_wp fun prog w A R s h=>by
  obtain⟨hp,g,d,tk,os⟩:=s;obtain⟨hl1,hl2,h⟩:=h
  have hsub:=sub_zip
  have hL1:Heap.IsTuple (Shared.heap ⟨hp,g,d,tk,os⟩) l1 xs:=hl1
  have hL2:Heap.IsTuple (Shared.heap ⟨hp.push {cls:=.type "tuple_iterator",data:=.fields #[.ref l1,.int 0 0]},g,d,tk,os⟩) l2 ys:=Heap.IsTuple.push hl2 _
  wp_walk using gF hL1,gF hL2
  exact⟨_,rfl,h⟩
section
variable{prog:Program}{w:World}{A:Around}{E:Value->Shared->Prop}{s:Shared}
theorem DG{b:Bool}{l1 l2:Addr}{xs ys:Array Value}{Q:Value->Shared->Prop}(hl1:IsSq b s.heap l1 xs)(hl2:IsSq b s.heap l2 ys)
  (h:∀h',IsZip h' (s.heap.objs.size+4) (s.heap.objs.size+2) (s.heap.objs.size+3) .none->IsPair h' (s.heap.objs.size+2) (.ref s.heap.objs.size) (.ref (s.heap.objs.size+1))->
   IsPair h' (s.heap.objs.size+3) .none .none->jbn b h' s.heap.objs.size l1 0->jbn b h' (s.heap.objs.size+1) l2 0->(∀c o,s.heap.get? c=some o->h'.get? c=some o)->Q (.ref (s.heap.objs.size+4)) {s with heap:=h'}):
  wpAny (model prog w) A (call (.type "zip") [.ref l1,.ref l2]) Q E s:=by
 cases b with
 |true=>exact call_zip_2 (show s.heap.IsList l1 xs from hl1) (show s.heap.IsList l2 ys from hl2) fun h' a1 a2 a3 a4 a5 _ a7=>h h' a1 a2 a3 a4 a5 a7
 | false=>
  refine callType_new F.called_zip (by decide) (F.typeCall_zip_2 _ _) (F.newCall_zip_2 _ _) (fun obj=>F.args_object_init_3 obj _ _) F.entry_zip_new (Gf l1 l2 xs ys) ⟨hl1,hl2,?_⟩
  have q1:(s.heap.push (pG false l1)).objs.size=s.heap.objs.size+1:=ee ..
  have q2:(qE false s.heap l1 l2).objs.size=s.heap.objs.size+2:=by rw[ee,q1]
  have q3:(qz false s.heap l1 l2).objs.size=s.heap.objs.size+3:=by rw[ee,q2]
  have q4:(qy false s.heap l1 l2).objs.size=s.heap.objs.size+4:=by rw[ee,q3]
  have p5:(oA false s.heap l1 l2).get? (qy false s.heap l1 l2).objs.size=some _:=aR _ rfl
  have p4:(oA false s.heap l1 l2).get? (qz false s.heap l1 l2).objs.size=some _:=ag _ (aR _ rfl)
  have p3:(oA false s.heap l1 l2).get? (qE false s.heap l1 l2).objs.size=some _:=ag _ (ag _ (aR _ rfl))
  have p2:(oA false s.heap l1 l2).get? (s.heap.push (pG false l1)).objs.size=some _:=ag _ (ag _ (ag _ (aR _ rfl)))
  have p1:(oA false s.heap l1 l2).get? s.heap.objs.size=some _:=ag _ (ag _ (ag _ (ag _ (aR _ rfl))))
  show _/\_
  rw[q2,q3,q4]at p5
  rw[q1,q2]at p3
  rw[q3]at p4
  rw[q1]at p2
  rw[q4]
  exact⟨⟨_,p5,rfl⟩,h _ p5 p3 p4 (show Heap.IsTupleIter _ _ _ _ from⟨_,p1,rfl,rfl⟩) (show Heap.IsTupleIter _ _ _ _ from⟨_,p2,rfl,rfl⟩) fun c o x=>
   ag _ (ag _ (ag _ (ag _ (ag _ x))))⟩
end
def jY(b:Bool)(K:PySem.W.Frag)(H:Hp)(a:Addr)(xs:List V):Prop:=if b=true then SqL K H a xs else SqT K H a xs
theorem Inv.sqB{X:Cx}{pins:List (Addr×Obj)}{σ:St}{H:Hp}{s:Shared}{b:Bool}{a:Addr}{xs:List V}(I:Inv X pins σ H s)(h:jY b X.K H a xs):∃its:List Value,Vals xs its/\IsSq b s.heap a its.toArray/\xs.length<=sizeLine:=by
 cases b with
 |true=>
  obtain⟨its,r,p,z⟩:=I.list (show SqL X.K H a xs from h)
  exact⟨its,r,p.isList,z⟩
 |false=>
  obtain⟨its,r,p,z⟩:=I.tuple (show SqT X.K H a xs from h)
  exact⟨its,r,(show s.heap.IsTuple a its.toArray from p),z⟩
theorem Inv.sqB_inj{X:Cx}{pins:List (Addr×Obj)}{σ:St}{H:Hp}{s:Shared}{b:Bool}{a:Addr}{xs ys:List V}(I:Inv X pins σ H s)(h:jY b X.K H a xs)(h':jY b X.K H a ys):xs=ys:=by
 cases b with
 |true=>exact I.list_inj (show SqL X.K H a xs from h) (show SqL X.K H a ys from h')
 |false=>exact I.tuple_inj (show SqT X.K H a xs from h) (show SqT X.K H a ys from h')
noncomputable def ni(b:Bool)(K:PySem.W.Frag)(a c:Addr):It:=
  ⟨fun i H=>∃xs ys x y,jY b K H a xs/\jY b K H c ys/\xs[i]? =some x/\ys[i]? =some y,
   fun i H v H'=>∃t x y,H t=none/\v= .ref t/\H'=upd H t (.tup [x,y])/\(∀xs,jY b K H a xs->xs[i]? =some x)/\∀ys,jY b K H c ys->ys[i]? =some y,
   fun i H=>∃xs ys,jY b K H a xs/\jY b K H c ys/\(xs.length<=i\/ys.length<=i)⟩
theorem kZ{X:Cx}{pins:List (Addr×Obj)}{σ:St}{H:Hp}{s:Shared}{b:Bool}{a j:Addr}{xs:List V}(I:Inv X pins σ H s)(h:jY b X.K H a xs)(f:lH X pins H j):a≠j:=by
 intro e
 subst e
 have key:∀{o},X.K.lookup a=some o->False:=fun{o} q=>by
  have q1:=I.mod.kin a o q
  rcases f.2.2.2.1 with z|z
  ·exact I.ok.noex a o q1 z
  ·exact absurd (bj (aL q1) (bE I.ok.bsz z)) (cV _)
 cases b with
 |true=>
  rcases(show SqL X.K H a xs from h)with(h|⟨o,h⟩)|⟨o,its,n,hk,_⟩
  ·rw[f.1]at h;cases h
  ·rw[f.1]at h;cases h
  ·exact key hk
 |false=>
  rcases(show SqT X.K H a xs from h)with(h|⟨o,h⟩)|⟨o,its,n,hk,_⟩
  ·rw[f.1]at h;cases h
  ·rw[f.1]at h;cases h
  ·exact key hk
structure ZpA(z TI TO i1 i2:Addr):Prop where
 TIz:TI≠z
 TOz:TO≠z
 i1z:i1≠z
 i2z:i2≠z
 TITO:TI≠TO
 TIi1:TI≠i1
 TIi2:TI≠i2
 TOi1:TO≠i1
 TOi2:TO≠i2
 i12:i1≠i2
theorem Fp{P:Program}{w:World}{K:PySem.W.Frag}{elts:List Expr}{x1:Nat}{pos:Pos}(b:Bool)(a c z TI TO i1 i2:Addr)(D0:ZpA z TI TO i1 i2):
  Turn P w K (.Tuple elts x1 pos) (ni b K a c) [z,TI,TO,i1,i2] z (fun i h=>IsZip h z TI TO .none/\IsPair h TI (.ref i1) (.ref i2)/\(∃u v,IsPair h TO u v)/\jbn b h i1 a i/\jbn b h i2 c i)where
 mem:=by simp
 obj:=fun i h st d hd=>by
  obtain⟨hz,hTI,⟨u,v,hTO⟩,h1,h2⟩:=st
  have q:d=z\/d=TI\/d=TO\/d=i1\/d=i2:=by simpa using hd
  rcases q with rfl|rfl|rfl|rfl|rfl
  ·exact⟨_,hz,fun v z=>by
    have z':Data.fields _=Data.cell v:=z
    cases z'⟩
  ·exact⟨_,hTI,fun v z=>by
    have z':Data.seq _ _=Data.cell v:=z
    cases z'⟩
  ·exact⟨_,hTO,fun v z=>by
    have z':Data.seq _ _=Data.cell v:=z
    cases z'⟩
  ·exact h1.obj
  ·exact h2.obj
 keep:=fun i h h' st k=>by
  obtain⟨hz,hTI,⟨u,v,hTO⟩,h1,h2⟩:=st
  exact⟨k z (by simp) _ hz,k TI (by simp) _ hTI,⟨u,v,k TO (by simp) _ hTO⟩,h1.at' fun o e=>k i1 (by simp) o e,h2.at' fun o e=>k i2 (by simp) o e⟩
 item:=by
  intro X hP hw hK hc i pins s σ H E I hf st hg
  subst hP hw hK
  obtain⟨hz,hTI,⟨u0,v0,hTO⟩,h1,h2⟩:=st
  obtain⟨xs,ys,x,y,hq1,hq2,hx,hy⟩:=hg
  obtain⟨its1,rv1,p1,hz1⟩:=I.sqB hq1
  obtain⟨its2,rv2,p2,hz2⟩:=I.sqB hq2
  obtain⟨u1,hu1,ru1⟩:=rv1.get hx
  obtain⟨u2,hu2,ru2⟩:=rv2.get hy
  have D:ZipApart z TI TO i1 i2 a c:=⟨D0.TIz,D0.TOz,D0.i1z,D0.i2z,D0.TITO,D0.TIi1,D0.TIi2,D0.TOi1,D0.TOi2,D0.i12,
   kZ I hq1 (hf z (by simp)),kZ I hq1 (hf TO (by simp)),kZ I hq1 (hf i1 (by simp)),kZ I hq1 (hf i2 (by simp)),kZ I hq2 (hf z (by simp)),kZ I hq2 (hf TO (by simp)),kZ I hq2 (hf i1 (by simp)),kZ I hq2 (hf i2 (by simp))⟩
  have zlt:z<s.heap.objs.size:=aL hz
  have hT:s.TypeIs (.ref z) "zip":=⟨_,hz,rfl⟩
  unfold pyNext
  refine af (gC (dw (name:=Str.ofString "__next__") hT gc (dq gc hT F.entry_zip_next
   (Hn (b:=b) D hz hTI hTO h1 h2 p1 p2 (x:=u1) (y:=u2) (by simpa using hu1) (by simpa using hu2) fun h' a1 a2 a3 a4 a5 a7=>aB ?_) (F.args_zip_next_1 _))))
  refine⟨_,rfl,wpAny_letOwnedTupleGo_zip a1 fun g hz' hs'=>?_⟩
  replace hs':Heap.SameBut z h' g:=hs'
  have kk:∀d ob,d∉[z,TI,TO,i1,i2]->s.heap.get? d=some ob->g.get? d=some ob:=fun d ob hd q=>by
   have hd':d≠z/\d≠TI/\d≠TO/\d≠i1/\d≠i2:=by simpa using hd
   exact hs'.extBut _ _ hd'.1 (a7 d ob hd'.1 hd'.2.2.1 hd'.2.2.2.1 hd'.2.2.2.2 q)
  have hT2:g.get? s.heap.objs.size=some {cls:=.type "tuple",data:=.seq #[u1,u2]}:=hs'.extBut _ _ (dE zlt) a5
  refine⟨.ref s.heap.objs.size,upd H s.heap.objs.size (.tup [x,y]),I.turnedNew (ch:=[z,TI,TO,i1,i2]) (t':=s.toks) (ao _) kk hf ?_,rfl,
   ⟨_,x,y,I.fresh,rfl,rfl,fun zs hq=>by rw[I.sqB_inj hq hq1];exact hx,fun zs hq=>by rw[I.sqB_inj hq hq2];exact hy⟩,
   ⟨hz',hs'.extBut _ _ D.TIz (a7 _ _ D.TIz D.TITO D.TIi1 D.TIi2 hTI),⟨_,_,hs'.extBut _ _ D.TOz a2⟩,a3.at' fun o e=>hs'.extBut _ _ D.i1z e,a4.at' fun o e=>hs'.extBut _ _ D.i2z e⟩,fun d hd=>?_⟩
  ·exact⟨by show 2<=sizeLine;decide,[u1,u2],.cons ru1 (.cons ru2 .nil),⟨_,hT2,rfl,_,rfl⟩⟩
  ·have dlt:d<s.heap.objs.size:=by
    have q:d=z\/d=TI\/d=TO\/d=i1\/d=i2:=by simpa using hd
    rcases q with rfl|rfl|rfl|rfl|rfl
    ·exact zlt
    ·exact aL hTI
    ·exact aL hTO
    ·obtain⟨o,e,_⟩:=h1.obj;exact aL e
    ·obtain⟨o,e,_⟩:=h2.obj;exact aL e
   rw[iQ (aX dlt)]
   exact(hf d hd).1
 done:=by
  intro X hP hw hK hc i pins s σ H E I hf st hg
  subst hP hw hK
  obtain⟨hz,hTI,⟨u0,v0,hTO⟩,h1,h2⟩:=st
  obtain⟨xs,ys,hq1,hq2,hlen⟩:=hg
  obtain⟨its1,rv1,p1,hz1⟩:=I.sqB hq1
  obtain⟨its2,rv2,p2,hz2⟩:=I.sqB hq2
  have e1:=rv1.length
  have e2:=rv2.length
  have D:ZipApart z TI TO i1 i2 a c:=⟨D0.TIz,D0.TOz,D0.i1z,D0.i2z,D0.TITO,D0.TIi1,D0.TIi2,D0.TOi1,D0.TOi2,D0.i12,
   kZ I hq1 (hf z (by simp)),kZ I hq1 (hf TO (by simp)),kZ I hq1 (hf i1 (by simp)),kZ I hq1 (hf i2 (by simp)),kZ I hq2 (hf z (by simp)),kZ I hq2 (hf TO (by simp)),kZ I hq2 (hf i1 (by simp)),kZ I hq2 (hf i2 (by simp))⟩
  have hT:s.TypeIs (.ref z) "zip":=⟨_,hz,rfl⟩
  unfold pyNext
  refine af (gC (dw (name:=Str.ofString "__next__") hT gc (dq gc hT F.entry_zip_next
   (Hb (b:=b) (I.ok.hd hc) D hz hTI hTO h1 h2 p1 p2 (by rcases hlen with h|h;exact .inl (by simp;lia);exact .inr (by simp;lia)) fun h' e hk he=>?_) (F.args_zip_next_1 _))))
  obtain⟨o,ho,hcl⟩:=he
  refine af (g6 (T:="StopIteration") (b:=true) ⟨o,ho,hcl⟩ isSubtype_stop ?_)
  exact aB ⟨rfl,I.turnedAll (ch:=[z,TI,TO,i1,i2]) (t':=s.toks) (fun d ob hd q=>by
   have hd':d≠z/\d≠TI/\d≠TO/\d≠i1/\d≠i2:=by simpa using hd
   exact hk d ob hd'.1 hd'.2.2.1 hd'.2.2.2.1 hd'.2.2.2.2 q) hf⟩
 self:=fun _ _ _ _ _ st h=>wpAny_pyIter_zip st.1 h
theorem Hf{X:Cx}{b:Bool}{elts:List Expr}{x1:Nat}{tpos:Pos}{pins:List (Addr×Obj)}{σ:St}{H1:Hp}{s1:Shared}{R:It->Hp->Prop}{a c:Addr}{xs ys:List V}(I1:Inv X pins σ H1 s1)(hq1:jY b X.K H1 a xs)(hq2:jY b X.K H1 c ys)(q:R (ni b X.K a c) H1):
  wpAny (model X.prog X.w) X.A (call (.type "zip") [.ref a,.ref c]) (fun v s2=>wpAny (model X.prog X.w) X.A (pyIter v) (wB X pins σ (.Tuple elts x1 tpos) R) X.xe s2) X.xe s1:=by
 obtain⟨its1,rv1,p1,hz1⟩:=I1.sqB hq1
 obtain⟨its2,rv2,p2,hz2⟩:=I1.sqB hq2
 refine DG p1 p2 fun h' a1 a2 a3 a4 a5 hk=>?_
 refine wpAny_pyIter_zip a1 ?_
 have I2:Inv X pins σ H1 {s1 with heap:=h'}:=I1.kept (t':=s1.toks) fun b o q=>hk b o q
 have ne:∀i j:Nat,i≠j->s1.heap.objs.size+i≠s1.heap.objs.size+j:=fun i j h e=>h (Nat.add_left_cancel e)
 refine⟨_,[s1.heap.objs.size+4,s1.heap.objs.size+2,s1.heap.objs.size+3,s1.heap.objs.size,s1.heap.objs.size+1],_,_,H1,rfl,I2,Fp b a c _ _ _ _ _ ⟨ne 2 4 (by decide),ne 3 4 (by decide),ne 0 4 (by decide),ne 1 4 (by decide),ne 2 3 (by decide),ne 2 0 (by decide),ne 2 1 (by decide),ne 3 0 (by decide),ne 3 1 (by decide),ne 0 1 (by decide)⟩,
  ⟨a1,a2,⟨_,_,a3⟩,a4,a5⟩,fun d hd=>?_,q⟩
 have hd':d=s1.heap.objs.size+4\/d=s1.heap.objs.size+2\/d=s1.heap.objs.size+3\/d=s1.heap.objs.size\/d=s1.heap.objs.size+1:=by simpa using hd
 have hle:s1.heap.objs.size<=d:=by
  rcases hd' with e|e|e|e|e<;>rw[e]
  ·exact fH _ _
  ·exact fH _ _
  ·exact fH _ _
  ·exact ao _
  ·exact fH _ _
 exact I1.fpOk hle (I1.hok.fresh hle)
def qW(K:PySem.W.Frag)(ta:TA):TI:=fun σ H R=>ta σ H fun vs H1=>∃(b:Bool) (a c:Addr),vs=[.ref a,.ref c]/\(∃xs,jY b K H1 a xs)/\(∃ys,jY b K H1 c ys)/\R (ni b K a c) H1
theorem uT{X:Cx}{elts:List Expr}{x1:Nat}{tpos:Pos}{a c:Expr}{ta:TA}{p pos:Pos}(hg:Gl X "zip")(hm:X.mg "zip"=none)(ha:PA X [a,c] ta)(hs:starEach [a,c] X.env=[(false,eval a X.env),(false,eval c X.env)]:=by rfl)(hs2:starEach [c] X.env=[(false,eval c X.env)]:=by rfl):
  PI X (.Tuple elts x1 tpos) (.Call (.Name "zip" p) [a,c] [] pos) (qW X.K ta):=by
 intro pins s σ H R I h
 refine Call_ (oP I hg hm boot_zip (dY (iP (ha pos pins s σ H _ I h) fun us s1 ⟨vs,H1,I1,r1,q1⟩=>?_) (by rw[hs,hs2]) (by rw[hs2];rfl)))
 obtain⟨b,a,c,e,⟨xs,hq1⟩,⟨ys,hq2⟩,q⟩:=q1
 subst e
 cases r1 with
 | cons r rr=>
  cases rr with
  |cons r' rr=>
   cases rr
   cases r
   cases r'
   exact Hf I1 hq1 hq2 q
theorem Hh:typeLookup (.type "list") "keys"=pure none:=by rw[typeLookup_type,builtinLookup_eq_fast];kernel_rfl
theorem HH:typeLookup (.type "list") "__getattr__"=pure none:=by rw[typeLookup_type,builtinLookup_eq_fast];kernel_rfl
theorem vo:isSubtype (.type "AttributeError") (.type "AttributeError")=pure true:=by rw[isSubtype_type];kernel_rfl
section
variable{prog:Program}{w:World}{A:Around}{E:Value->Shared->Prop}{h:Heap}{g:Array GenState}{d:Drawn}{t:Nat}{os:OsState}{a:Addr}{o:Obj}
theorem GH{α:Type}{Q:α->Shared->Prop}{u:Value}{x msg:Str}(hh:A.handled=none)(hm:msg.length<=sizeLine)
  (hE:∀h' e tk,(∀b o,h.get? b=some o->h'.get? b=some o)->(∃o,h'.get? e=some o/\o.cls= .type "AttributeError")->E (.ref e) ⟨h',g,d,tk,os⟩):
  wpAny (model prog w) A (raiseAttrError u x msg:Sem α) Q E ⟨h,g,d,t,os⟩:=by
 unfold raiseAttrError
 refine af (wpAny_mkStr ?_ hm)
 simp only[newExc,newTuple]
 refine af (af (cF ?_ (by size_fits)))
 refine af (m:=firstArgMember _ _) (gq (a:=Value.none) (by first|rfl|(simp only[firstArgMember];rfl)) ?_)
 refine cF ?_ (by size_fits)
 refine af (wpAny_mkText ?_)
 dsimp only
 refine af ?_
 unfold noteAttr
 generalize hh1:h.push {cls:=.type "tuple",data:=.seq #[.str msg t]}=h1
 have k1:∀ b o,h.get? b = some o->h1.get? b = some o:=fun b o q=>by rw [<- hh1]; exact ag _ q
 have hg:(h1.push {cls:=.type "AttributeError",data:=.fields #[.ref h.objs.size,.none,.none,.none,.bool false,.none,unsetMember,unsetMember]}).get? h1.objs.size=some _:=aR _ rfl
 have k2:∀b o,h.get? b=some o->(h1.push {cls:=.type "AttributeError",data:=.fields #[.ref h.objs.size,.none,.none,.none,.bool false,.none,unsetMember,unsetMember]}).get? b=some o:=fun b o q=>ag _ (k1 b o q)
 have nb:∀b o,h.get? b=some o->b≠h1.objs.size:=fun b o q=>aX (aL (k1 b o q))
 show wpAny _ _ (lacksNameAndObj (.ref h1.objs.size)>>=_) _ _ ⟨h1.push {cls:=.type "AttributeError",data:=.fields #[.ref h.objs.size,.none,.none,.none,.bool false,.none,unsetMember,unsetMember]},g,d,t+1+1,os⟩
 generalize hh2:h1.push {cls:=.type "AttributeError",data:=.fields #[.ref h.objs.size,.none,.none,.none,.bool false,.none,unsetMember,unsetMember]}=h2 at hg k2
 generalize h1.objs.size=e at hg nb
 clear hh2 k1 hh1
 have hT:(⟨h2,g,d,t+1+1,os⟩:Shared).TypeIs (.ref e) "AttributeError":=⟨_,hg,rfl⟩
 refine af ?_
 unfold lacksNameAndObj
 refine af (g6 hT vo ?_)
 simp only[eX,ba,if_false]
 refine af (wpAny_load hg ?_)
 show wpAny _ _ (pure true) _ _ _
 refine aB ?_
 simp only[if_true]
 refine af (cY (af (eI hT ?_)))
 show wpAny _ _ (layMembers e 6 #[_,u]) _ _ _
 unfold layMembers
 refine af (wpAny_load hg ?_)
 show wpAny _ _ (update e _) _ _ _
 refine wpAny_update hg ?_
 refine wpAny_raiseNew_none hh (hE _ _ _ (fun b o q=>?_) ⟨_,dX _ hg rfl,rfl⟩)
 exact(cu _ _ (nb b o q).symm).trans (k2 b o q)
theorem Hi{tk:Tok}{Q:PySem.Fin->Shared->Prop}{its:Array Value}{n:Nat}(hx:h.get? a=some {cls:=.type "list",dict:=none,data:=.seq its n,slots:=#[]})(hh:A.handled=none)
  (hE:∀h' e tk,(∀b o,h.get? b=some o->h'.get? b=some o)->(∃o,h'.get? e=some o/\o.cls= .type "AttributeError")->E (.ref e) ⟨h',g,d,tk,os⟩):
  wpAny (model prog w) A (Builtin.«object.__getattribute__» ⟨[.ref a,.str "keys" tk],[]⟩) Q E ⟨h,g,d,t,os⟩:=by
 have hT:(⟨h,g,d,t,os⟩:Shared).TypeIs (.ref a) "list":=⟨_,hx,rfl⟩
 have f4:=Hh
 repeat(any_goals (first|assumption|wp_step))
 refine GH hh (by decide+kernel) hE
theorem FW{tk:Tok}{Q:Value->Shared->Prop}{its:Array Value}{n:Nat}(hx:h.get? a=some {cls:=.type "list",dict:=none,data:=.seq its n,slots:=#[]})(hh:A.handled=none)
  (hE:∀h' e tk,(∀b o,h.get? b=some o->h'.get? b=some o)->(∃o,h'.get? e=some o/\o.cls= .type "AttributeError")->E (.ref e) ⟨h',g,d,tk,os⟩):
  wpAny (model prog w) A (getAttrBy (.ref a) (.str "keys" tk) false) Q E ⟨h,g,d,t,os⟩:=by
 have hT:(⟨h,g,d,t,os⟩:Shared).TypeIs (.ref a) "list":=⟨_,hx,rfl⟩
 have f2:=eD.lookup
 have f3:=eD.bind (.ref a)
 repeat(any_goals (first|assumption|wp_step))
 refine codeAny_call_builtin eD.plain F.entry_list_ga (eD.check _ _ _ _ _ _ _ _ (show(⟨h,g,d,t,os⟩:Shared).TypeIs (.ref a) "list" from⟨_,hx,rfl⟩) (F.args_list_getattribute_2 _ _) (Hi hx ?_ ?_))
 ·exact hh
 ·intro h' e tk k q
  obtain⟨oe,he,hc⟩:=q
  have hT2:(⟨h',g,d,tk,os⟩:Shared).TypeIs (.ref e) "AttributeError":=⟨_,he,hc⟩
  have f5:=vo
  have f6:=HH
  show wpAny _ A (getattributeRaised (Value.ref a) _ (Value.type "list") (.ref e) none false false) _ _ _
  have done:=hE h' e tk k ⟨oe,he,hc⟩
  unfold getattributeRaised
  repeat(any_goals (first|assumption|wp_step))
theorem xM{Q:Option Value->Shared->Prop}{its:Array Value}{n:Nat}(hx:h.get? a=some {cls:=.type "list",dict:=none,data:=.seq its n,slots:=#[]})(hh:A.handled=none)
  (hq:∀h' tk,(∀b o,h.get? b=some o->h'.get? b=some o)->Q none ⟨h',g,d,tk,os⟩):wpAny (model prog w) A (getAttr? (.ref a) "keys") Q E ⟨h,g,d,t,os⟩:=by
 unfold getAttr? getAttrBy?
 refine af (wpAny_mkText (af (gC (FW hx hh fun h' e tk k q=>?_))))
 obtain⟨oe,he,hc⟩:=q
 refine af (g6 (T:="AttributeError") (b:=true) ⟨_,he,hc⟩ vo ?_)
 exact aB (hq h' tk k)
end
theorem sM:entryFor table "dict.update.loop"=some Builtin.«dict.update.loop»:=entryFor_of_fast (by kernel_rfl)
theorem nK:plainId "dict.update.loop"=true:=by decide+kernel
theorem GJ{K:Type}[DecidableEq K](kvs:List (K×Value))(k:K)(v:Value):(stored kvs k v).length<=kvs.length+1:=by
 unfold stored
 split
 ·rw[ae];lia
 ·rw[av];exact ao _
section
variable{prog:Program}{w:World}{A:Around}{E:Value->Shared->Prop}{K:Type}[DecidableEq K]{knd:KeyKind prog w K}{R:Result->Shared->Prop}
theorem FD{d it l:Addr}{its:Array Value}{more:List (K×Value)}(hh:A.handled=none)(hlen:more.length=its.size)(hsz:its.size<=1000)(hdl:l≠d)(hdi:it≠d)(hil:l≠it):
  ∀(k i:Nat) (tk0:Tok) (s:Shared) (kvs:List (K×Value)),its.size-i=k->i<=its.size->kvs.length<=i->s.heap.IsListIter it l i->s.heap.IsList l its->s.heap.DictOf knd d kvs->
   (∀(j:Nat) (q:K×Value),more[j]? =some q->∃t kv,its[j]? =some (.ref t)/\s.heap.IsTuple t #[kv,q.2]/\knd.is q.1 kv=true)->
   (∀h' tk,h'.DictOf knd d (merged kvs (more.drop i))->(∀b o,b≠d->b≠it->s.heap.get? b=some o->h'.get? b=some o)->R (.ok (.ret .none)) {s with heap:=h',toks:=tk})->
   codeAny (model prog w) A (.builtin "dict.update.loop" ⟨[.ref d,.ref it,.int i tk0,.none],[]⟩) R s:=by
 intro k
 induction k with
 |zero=>
  intro i tk0 s kvs hk hi hkl hit hl hd hp hR
  have e:i=its.size:=by lia
  subst e
  refine dP sM ?_
  rw[cQ nK _]
  show wpAny _ A.in1 (pyNext (.ref it)>>=_) _ _ s
  refine af (gf hh hit hl (by simp) fun h' eb=>?_)
  show wpAny _ A.in1 (Builtin.Dict.addKeywords d []>>=_) _ _ _
  refine af (aB (aB ?_))
  refine hR h' s.toks ?_ fun b o _ hb q=>eb b o hb q
  rw[dH (by lia)]
  exact hd.extBut eb hdi.symm
 | succ k ih=>
  intro i tk0 s kvs hk hi hkl hit hl hd hp hR
  have hlt:i<its.size:=by lia
  have hlm:i<more.length:=by lia
  obtain⟨t,kv,hu,ht,hkey⟩:=hp i more[i] (by simp[hlm])
  refine dP sM ?_
  rw[cQ nK _]
  show wpAny _ A.in1 (pyNext (.ref it)>>=_) _ _ s
  refine af (fM hit hl hu fun h1 hit1 sb1=>?_)
  have nti:t≠it:=fun z=>by
   subst z
   obtain⟨o,e1,c1,_⟩:=ht
   obtain⟨o',e2,c2,_⟩:=hit
   rw[e1]at e2;cases e2;rw[c1]at c2;exact absurd c2 (by decide)
  have ntd:t≠d:=fun z=>by
   subst z
   obtain⟨o,e1,c1,_⟩:=ht
   obtain⟨o',_,_,e2,c2,_⟩:=hd
   rw[e1]at e2;cases e2;rw[c2.1]at c1;exact absurd c1 (by decide)
  have ht1:h1.IsTuple t #[kv,more[i].2]:=ht.extBut sb1.extBut nti
  have hd1:h1.DictOf knd d kvs:=hd.extBut sb1.extBut hdi.symm
  show wpAny _ A.in1 (holding [.ref t] _>>=_) _ _ _
  refine af (cq ?_)
  refine af (m:=(Builtin.Dict.pairItems (.ref t)).tryCatch _) ?_
  refine eJ ?_
  unfold Builtin.Dict.pairItems
  refine af (eI ht1.typeIs ?_)
  obtain⟨ot,e1,c1,n1,d1⟩:=id ht1
  rw[aA (by decide)]
  refine af (cg e1 d1 ?_)
  refine aB ?_
  show wpAny _ A.in1 (holding [kv,more[i].2] (dictSet d kv more[i].2)) _ _ _
  refine cq (wpAny_dictSet_pairs hkey hd1 (fun h2 hd2 sb2=>?_) (by have:=(by decide:1000<=sizeLine);lia))
  replace sb2:Heap.SameBut d h1 h2:=sb2
  have kk:∀b o,b≠d->b≠it->s.heap.get? b=some o->h2.get? b=some o:=fun b o b1 b2 q=>sb2.extBut b o b1 (sb1.extBut b o b2 q)
  refine aB ⟨dQ nK _,?_⟩
  have hik:((i:Int)+1)=((i+1:Nat):Int):=by lia
  show codeAny _ _ (.builtin "dict.update.loop" ⟨[.ref d,.ref it,rawInt ((i:Int)+1),.none],[]⟩) _ _
  rw[hik]
  refine ih (i+1) 0 _ (stored kvs more[i].1 more[i].2) (by lia) (by lia) ?_ (hit1.extBut sb2.extBut hdi) ((hl.extBut sb1.extBut hil).extBut sb2.extBut hdl) hd2 ?_ ?_
  ·have:=GJ kvs more[i].1 more[i].2
   lia
  ·intro j q hq
   obtain⟨t',kv',a1,a2,a3⟩:=hp j q hq
   have n1:t'≠it:=fun z=>by
    subst z
    obtain⟨o,e1,c1,_⟩:=a2
    obtain⟨o',e2,c2,_⟩:=hit
    rw[e1]at e2;cases e2;rw[c1]at c2;exact absurd c2 (by decide)
   have n2:t'≠d:=fun z=>by
    subst z
    obtain⟨o,e1,c1,_⟩:=a2
    obtain⟨o',_,_,e2,c2,_⟩:=hd
    rw[e1]at e2;cases e2;rw[c2.1]at c1;exact absurd c1 (by decide)
   exact⟨t',kv',a1,(a2.extBut sb1.extBut n1).extBut sb2.extBut n2,a3⟩
  ·intro h' tk hd' k'
   refine hR h' tk ?_ fun b o b1 b2 q=>k' b o b1 b2 (kk b o b1 b2 q)
   rw[cN hlm]
   exact hd'
theorem Hx{l:Addr}{its:Array Value}{c:Nat}{more:List (K×Value)}{s:Shared}{Q:Value->Shared->Prop}(hh:A.handled=none)(hl:s.heap.get? l=some {cls:=.type "list",dict:=none,data:=.seq its c,slots:=#[]})(hlen:more.length=its.size)(hsz:its.size<=1000)
  (hp:∀(j:Nat) (q:K×Value),more[j]? =some q->∃t kv,its[j]? =some (.ref t)/\s.heap.IsTuple t #[kv,q.2]/\knd.is q.1 kv=true)
  (h:∀h' tk,h'.DictOf knd s.heap.objs.size (merged [] more)->(∀b o,s.heap.get? b=some o->h'.get? b=some o)->Q (.ref s.heap.objs.size) {s with heap:=h',toks:=tk}):
  wpAny (model prog w) A (call (.type "dict") [.ref l]) Q E s:=by
 refine callType_codes (Q₁:=fun obj s₁=>obj= .ref s.heap.objs.size/\s₁={s with heap:=s.heap.push {cls:=.type "dict",data:=.dict #[]}}) F.kt_called_dict (F.kt_typeCall_dict_1 _) F.entry_dict_init (kt_code_dict_new _ ⟨rfl,rfl⟩) ?_
 rintro obj s₁ ⟨rfl,rfl⟩
 have hnew:(s.heap.push {cls:=.type "dict",data:=.dict #[]}).DictOf knd s.heap.objs.size []:=Heap.DictOf.new s.heap
 have hl1:(s.heap.push {cls:=.type "dict",data:=.dict #[]}).get? l=some {cls:=.type "list",dict:=none,data:=.seq its c,slots:=#[]}:=ag _ hl
 have k1:∀b o,s.heap.get? b=some o->(s.heap.push {cls:=.type "dict",data:=.dict #[]}).get? b=some o:=fun b o q=>ag _ q
 have llt:l<s.heap.objs.size:=aL hl
 generalize s.heap.push {cls:=.type "dict",data:=.dict #[]}=h1 at hnew hl1 k1
 refine⟨hnew.typeIs,F.args_dict_init_2 _ _,?_⟩
 unfold Builtin.«dict.__init__»
 refine af ?_
 unfold Builtin.Dict.selfAndRest
 refine af (wpAny_notOrdered_dict hnew.typeIs ?_)
 show wpAny _ _ (pure (s.heap.objs.size,[Value.ref l])) _ _ _
 refine aB ?_
 show wpAny _ _ (Builtin.Dict.updateFrom "dict.__init__" s.heap.objs.size (.ref l) [] .none) _ _ _
 unfold Builtin.Dict.updateFrom
 refine af (eI (T:="list") ⟨_,hl1,rfl⟩ ?_)
 rw[aA (by decide)]
 refine af (xM hl1 hh fun h2 tk2 k2=>?_)
 have hl2:=k2 _ _ hl1
 have hd2:h2.DictOf knd s.heap.objs.size []:=let⟨o,es,ep,ho,r⟩:=hnew;⟨o,es,ep,k2 _ _ ho,r⟩
 have dlt:s.heap.objs.size<h2.objs.size:=by obtain⟨_,_,_,ho,_⟩:=hd2;exact aL ho
 simp only[Option.isNone_none,if_true]
 refine af (cY ?_)
 have hL:Heap.IsList h2 l its:=⟨_,hl2,rfl,_,rfl⟩
 refine af (eK (s:={s with heap:=h2,toks:=tk2}) hL ?_)
 refine aB ⟨dQ nK _,?_⟩
 have hit:(h2.push {cls:=.type "list_iterator",data:=.fields #[.ref l,.int 0 0]}).IsListIter h2.objs.size l 0:=⟨_,aR _ rfl,rfl,rfl⟩
 refine FD (A:=A.in1) (knd:=knd) (more:=more) hh hlen hsz (aX llt) (dE dlt) (aX (Nat.lt_trans llt dlt)) its.size 0 0 {s with heap:=h2.push {cls:=.type "list_iterator",data:=.fields #[.ref l,.int 0 0]},toks:=tk2} [] rfl (bp _) (ao _) hit (hL.push _) (hd2.push _) ?_ ?_
 ·intro j q hq
  obtain⟨t,kv,a1,a2,a3⟩:=hp j q hq
  obtain⟨o,e,r⟩:=a2
  exact⟨t,kv,a1,⟨o,ag _ (k2 _ _ (k1 _ _ e)),r⟩,a3⟩
 ·intro h' tk hd' k'
  rw[eO]at hd'
  refine⟨rfl,h h' tk hd' fun b o q=>k' b o (aX (aL q)) (aX (aL (k2 _ _ (k1 _ _ q)))) (ag _ (k2 _ _ (k1 _ _ q)))⟩
end
def PairAt(H:Hp)(v:V)(p:iJ×V):Prop:=∃t,v= .ref t/\H t=some (.tup [kV p.1,p.2])
def CM(K:PySem.W.Frag):List V->Hp->VK->Prop:=fun vs H Q=>∃l xs kvs,vs=[.ref l]/\H l=some (.lst xs)/\Paired (PairAt H) xs kvs/\xs.length<=1000/\(kvs.map (·.1)).Nodup/\∀d,H d=none->Q (.ref d) (upd H d (.dK kvs))
theorem AO{X:Cx}{pins:List (Addr×Obj)}{σ:St}{H:Hp}{s:Shared}(I:Inv X pins σ H s):∀{xs:List V} {kvs:List (iJ×V)} {its:List Value},Paired (PairAt H) xs kvs->Vals xs its->
  ∃more:List (iJ×Value),KV kvs more/\∀(j:Nat) (q:iJ×Value),more[j]? =some q->∃t kv,its[j]? =some (.ref t)/\s.heap.IsTuple t #[kv,q.2]/\(jR X.prog X.w).is q.1 kv=true
 |_,_,_,.nil,.nil=>⟨[],.nil,fun j q h=>by simp at h⟩
 | _,_,_,.cons hp tp,.cons rv tr=>by
  obtain⟨more,hk,hm⟩:=AO I tp tr
  obtain⟨t,rfl,ht⟩:=hp
  cases rv
  obtain⟨_,its',rt,hi⟩:=I.hok t _ ht
  obtain⟨u1,u2,rfl,r1,r2⟩:=rt.two
  refine⟨(_,u2)::more,.cons ⟨rfl,r2⟩ hk,fun j q h=>?_⟩
  cases j with
  |zero=>
   simp at h
   subst h
   exact⟨t,u1,rfl,hi,mV r1⟩
  |succ j=>
   obtain⟨t',kv,a1,a2,a3⟩:=hm j q (by simpa using h)
   exact⟨t',kv,by simpa using a1,a2,a3⟩
theorem Gj{X:Cx}(hc:X.calm=true):jbw X (.type "dict") (CM X.K):=by
 intro pins s σ H vs us Q I rv h
 obtain⟨l,xs,kvs,rfl,hl,hp,hz,hn,q⟩:=h
 obtain⟨u,rfl,ru⟩:=rv.one
 cases ru
 obtain⟨z,its,n,r,hlen,e⟩:=I.lstM hl
 obtain⟨more,hkv,hm⟩:=AO I hp r
 have hlm:kvs.length=more.length:=aD hkv
 have hlx:xs.length=kvs.length:=aD hp
 refine Hx (knd:=jR X.prog X.w) (more:=more) (I.ok.hd hc) e (by rw[au];lia) (by rw[au];lia) (fun j q hj=>?_) fun h' tk dd k=>?_
 ·obtain⟨t,kv,a1,a2,a3⟩:=hm j q hj
  exact⟨t,kv,by simpa using a1,a2,a3⟩
 ·refine⟨.ref s.heap.objs.size,upd H s.heap.objs.size (.dK kvs),I.laid k (ao _) ?_,rfl,q _ I.fresh⟩
  rw [merged_nil_of_nodup more (by rw [<- hkv.keys]; exact hn)] at dd
  exact ui (by have:=(by decide:1000<=sizeLine);lia) (by have:=I.big;exact beq_false_of_ne (dE this)) hkv dd
def xW(f:List Bool->Bool):List V->Hp->VK->Prop:=fun vs H Q=>∃l bs,vs=[.ref l]/\H l=some (.lst (bs.map V.bl))/\Q (.bl (f bs)) H
theorem Fu{bs:List Bool}{tr:Nat->Bool}(h:∀i b,bs[i]? =some b->tr i=b):(List.range bs.length).all tr=bs.all id:=by
 rw[eF,eV,eV]
 constructor
 ·intro q b hb
  obtain⟨i,hi,e⟩:=bA.mp hb
  have:=q i (bg.mpr hi)
  rw[h i b (by rw[gE hi,e])]at this
  exact this
 ·intro q i hi
  have hi':=bg.mp hi
  rw[h i bs[i] (gE hi')]
  exact q _ (bO hi')
theorem zh:∀{bs:List Bool} {us:List Value},Vals (bs.map V.bl) us->us=bs.map Value.bool
 |[],_,.nil=>rfl
 |b::r,_,.cons q t=>by
  cases(show _=Value.bool b from q)
  rw[zh t]
  rfl
theorem Es{X:Cx}(hc:X.calm=true):jbw X (.builtin "all") (xW fun bs=>bs.all id):=by
 intro pins s σ H vs us Q I rv h
 obtain⟨l,bs,rfl,hl,q⟩:=h
 obtain⟨u,rfl,ru⟩:=rv.one
 cases ru
 obtain⟨z,its,n,r,hlen,e⟩:=I.lstM hl
 have e2:=zh r
 subst e2
 have llt:l<s.heap.objs.size:=aL e
 have hL:s.heap.IsList l (bs.map Value.bool).toArray:=⟨_,e,rfl,_,rfl⟩
 refine call_all_walk (eK hL ⟨s.heap.objs.size,[s.heap.objs.size,l],[s.heap.objs.size],_,_,_,fun i=>bs[i]?.getD true,rfl,Walks.list (A:=X.A.in1) (show X.A.in1.handled=none from I.ok.hd hc) s.heap.objs.size l (aX llt) (bs.map Value.bool).toArray,
  (show Heap.IsListIter _ _ _ _/\Heap.IsList _ _ _ from⟨⟨_,aR _ rfl,rfl,rfl⟩,hL.push _⟩),fun i v s' Q' E' hv hq=>?_,fun h' tk k=>?_⟩)
 ·have hv':(bs.map Value.bool)[i]? =some v:=by simpa using hv
  rw[aC]at hv'
  cases eb:bs[i]? with
  |none=>rw[eb]at hv';cases hv'
  |some b=>
   rw[eb]at hv'
   cases hv'
   have hq':Q' b s':=by dsimp only at hq;rw[eb]at hq;exact hq
   exact aB hq'
 ·have ez:((bs.map Value.bool).toArray).size=bs.length:=by simp
  rw[ez,Fu (bs:=bs) (tr:=fun i=>bs[i]?.getD true) (fun i b hb=>by rw[hb];rfl)]
  refine⟨.bl _,H,I.kept fun b o qq=>k b o ?_ (ag _ qq),rfl,q⟩
  intro hb
  have:b=s.heap.objs.size:=by simpa using hb
  subst this
  exact absurd (aL qq) (cV _)
inductive Knd(H:Hp):V->String->Prop where
 |non:Knd H .non "NoneType"
 |bl {x:Bool}:Knd H (.bl x) "bool"
 |int {i:Int}:Knd H (.int i) "int"
 |str {x:Str}:Knd H (.str x) "str"
 |lst {a:Addr} {xs:List V} (e:H a=some (.lst xs)):Knd H (.ref a) "list"
 |tup {a:Addr} {xs:List V} (e:H a=some (.tup xs)):Knd H (.ref a) "tuple"
 |dK {a:Addr} {kvs:List (iJ×V)} (e:H a=some (.dK kvs)):Knd H (.ref a) "dict"
theorem Knd.ty{K:PySem.W.Frag}{H:Hp}{v:V}{n:String}(h:Knd H v n):TyOf K H v (.type n):=by
 cases h with
 |non=>exact .non
 |bl=>exact .bl _
 |int=>exact .int _
 |str=>exact .str _
 |lst e=>exact .lst e
 |tup e=>exact .tup e
 |dK e=>exact .dK e
noncomputable def vV(a b:String):Bool:=a==b||(a=="bool"&&b=="int")
noncomputable def mX:List String:=["NoneType","bool","int","str","list","tuple","dict"]
theorem DV{K:PySem.W.Frag}:∀a∈mX,∀b∈mX,PySem.W.kitOne K (.type a) (.type b)=some (vV a b):=by
 intro a ha b hb
 have ha':a="NoneType"\/a="bool"\/a="int"\/a="str"\/a="list"\/a="tuple"\/a="dict":=by simpa[mX]using ha
 have hb':b="NoneType"\/b="bool"\/b="int"\/b="str"\/b="list"\/b="tuple"\/b="dict":=by simpa[mX]using hb
 rcases ha' with rfl|rfl|rfl|rfl|rfl|rfl|rfl<;>rcases hb' with rfl|rfl|rfl|rfl|rfl|rfl|rfl<;>rfl
def CI:List V->Hp->VK->Prop:=fun vs H Q=>∃x n T,vs=[x,.ty T]/\Knd H x n/\T∈mX/\Q (.bl (vV n T)) H
theorem Knd.mem{H:Hp}{v:V}{n:String}(h:Knd H v n):n∈mX:=by cases h<;>simp[mX]
theorem Et{X:Cx}:jbw X (.builtin "isinstance") CI:=by
 intro pins s σ H vs us Q I rv h
 obtain⟨x,n,T,rfl,hk,hT,q⟩:=h
 obtain⟨u1,u2,rfl,r1,r2⟩:=rv.two
 cases(show u2=Value.type T from r2)
 exact FN I r1 hk.ty (DV n hk.mem T hT) fun tk=>⟨.bl _,H,I.tok tk,rfl,q⟩
section
variable{X:Cx}{e a b c o i:Expr}{es:List Expr}{t t' ta tb tc td te:TE}{pos p p2:Pos}
theorem PE.imp(h:PE X e t)(hi:∀σ H Q,t' σ H Q->t σ H Q):PE X e t':=fun pins s σ H Q I q=>h pins s σ H Q I (hi σ H Q q)
theorem PG.imp{t t':TG}(h:PG X e t)(hi:∀v σ H Q,t' v σ H Q->t v σ H Q):PG X e t':=fun pins s σ H v u Q I r q=>h pins s σ H v u Q I r (hi v σ H Q q)
theorem PGs.imp{t t':lr}(h:PGs X es t)(hi:∀v σ H Q,t' v σ H Q->t v σ H Q):PGs X es t':=fun pins s σ H v u Q I r q=>h pins s σ H v u Q I r (hi v σ H Q q)
theorem OpR.imp{f:Value->Value->Sem Value}{r r':R2}(h:OpR X f r)(hi:∀x y H Q,r' x y H Q->r x y H Q):OpR X f r':=fun pins s σ H x y v u Q I rx ry q=>h pins s σ H x y v u Q I rx ry (hi x y H Q q)
theorem jbw.imp{f:Value}{r r':List V->Hp->VK->Prop}(h:jbw X f r)(hi:∀vs H Q,r' vs H Q->r vs H Q):jbw X f r':=fun pins s σ H xs us Q I rv q=>h pins s σ H xs us Q I rv (hi xs H Q q)
theorem IxR.imp{r r':R2}(h:IxR X r)(hi:∀x y H Q,r' x y H Q->r x y H Q):IxR X r':=fun value slice pins s σ H x y v u Q I rx ry q hs=>h value slice pins s σ H x y v u Q I rx ry (hi x y H Q q) hs
theorem MtR.imp{id:String}{r r':V->List V->Hp->VK->Prop}(h:MtR X id r)(hi:∀x vs H Q,r' x vs H Q->r x vs H Q):MtR X id r':=fun pins s σ H x xs v us Q I rx rv q=>h pins s σ H x xs v us Q I rx rv (hi x xs H Q q)
theorem PSet.imp{t t':ow}(h:PSet X t)(hi:∀o i v H Q,t' o i v H Q->t o i v H Q):PSet X t':=fun pins s σ H o i v ov iv u Q I r1 r2 r3 q=>h pins s σ H o i v ov iv u Q I r1 r2 r3 (hi o i v H Q q)
theorem SlR.imp{r r':V->Option Int->Option Int->Hp->VK->Prop}(h:SlR X r)(hi:∀x l u H Q,r' x l u H Q->r x l u H Q):SlR X r':=fun pins s σ H x v vl vu lo hi' sl Q I rx hs pl pu q=>h pins s σ H x v vl vu lo hi' sl Q I rx hs pl pu (hi x lo hi' H Q q)
noncomputable def kc(i:Nat):TE:=fun σ H Q=>match σ[i]? with
 |some (some v)=>Q v H
 |_=>False
theorem qv(i:Nat){x:Str}{pos:Pos}(hN:X.N[i]? =some x:=by rfl)(hv:qt X.env.scope x:=by first|exact Or.inl rfl|exact Or.inr (Or.inl rfl)|exact Or.inr (Or.inr rfl))(hd:(x==("__debug__":Str))=false:=by decide)
  (hcd:(x==("__classdict__":Str))=false:=by decide):PE X (.Name x pos) (kc i):=(xS hN hv hd hcd).imp fun σ H Q q=>by
 unfold kc at q
 split at q
 ·rename_i v e;exact⟨v,e,q⟩
 ·exact q.elim
noncomputable def fI(g:Int->Int->V):R2:=fun x y H Q=>match x,y with
 | .int i,.int j=>Q (g i j) H
 |_,_=>False
def fIC(C:Int->Int->Prop)(g:Int->Int->V):R2:=fun x y H Q=>match x,y with
 | .int i,.int j=>C i j/\Q (g i j) H
 |_,_=>False
theorem fI.r{g:Int->Int->V}{x y:V}{H:Hp}{Q:VK}(h:fI g x y H Q):mC g x y H Q:=by
 unfold fI at h
 split at h
 ·exact⟨_,_,rfl,rfl,h⟩
 ·exact h.elim
theorem fIC.r{C:Int->Int->Prop}{g:Int->Int->V}{x y:V}{H:Hp}{Q:VK}(h:fIC C g x y H Q):rI C g x y H Q:=by
 unfold fIC at h
 split at h
 ·exact⟨_,_,rfl,rfl,h.1,h.2⟩
 ·exact h.elim
theorem jM:OpR X (binaryOp .Add) (fI fun i j=>.int (i+j)):=Dk.imp fun _ _ _ _=>fI.r
theorem qY:OpR X (binaryOp .Sub) (fI fun i j=>.int (i-j)):=C6.imp fun _ _ _ _=>fI.r
theorem l5:OpR X (binaryOp .Mult) (fIC CMul fun i j=>.int (i*j)):=C9.imp fun _ _ _ _=>fIC.r
theorem nZ:OpR X (binaryOp .Mod) (fIC (fun _ j=>0<j) fun i j=>.int (i%j)):=Da.imp fun _ _ _ _=>fIC.r
theorem xU:OpR X (binaryOp .FloorDiv) (fIC tj fun i j=>.int (i/j)):=D5.imp fun _ _ _ _=>fIC.r
theorem uc:OpR X (binaryOp .Pow) (fIC tf fun i j=>.int (i^j.toNat)):=C7.imp fun _ _ _ _=>fIC.r
theorem qM:OpR X (compareOp .Lt) (fI fun i j=>.bl (decide (i<j))):=Dd.imp fun _ _ _ _=>fI.r
theorem nR:OpR X (compareOp .LtE) (fI fun i j=>.bl (decide (i<=j))):=De.imp fun _ _ _ _=>fI.r
theorem nS:OpR X (compareOp .Gt) (fI fun i j=>.bl (decide (i>j))):=Dg.imp fun _ _ _ _=>fI.r
theorem tG:OpR X (compareOp .GtE) (fI fun i j=>.bl (decide (i ≥ j))):=Dh.imp fun _ _ _ _=>fI.r
theorem uy:oy X .Add (fI fun i j=>.int (i+j)):=fun pins s σ H x y v u Q I rx ry q=>DP pins s σ H x y v u Q I rx ry q.r
noncomputable def Bp:V->Hp->VK->Prop:=fun x H Q=>match x with
 | .int i=>Q (.int (-i)) H
 |_=>False
theorem oN:sV X (unaryOp .USub) Bp:=fun pins s σ H x v Q I rx q=>by
 cases x<;>first
  |exact False.elim q
  |exact BW pins s σ H _ v Q I rx ⟨_,rfl,q⟩
noncomputable def wm:R2:=fun x y H Q=>match x,y with
 | .int i,.int j=>Q (.bl (decide (i=j))) H
 | .bl i,.bl j=>Q (.bl (decide (i=j))) H
 | .str i,.str j=>Q (.bl (decide (i=j))) H
 |_,_=>False
def v8:R2:=fun x y H Q=>match x,y with
 | .int i,.int j=>Q (.bl (!decide (i=j))) H
 | .bl i,.bl j=>Q (.bl (!decide (i=j))) H
 | .str i,.str j=>Q (.bl (!decide (i=j))) H
 |_,_=>False
theorem dI(i j:Int):decide (V.int i=V.int j)=decide (i=j):=by simp
theorem dB(i j:Bool):decide (V.bl i=V.bl j)=decide (i=j):=by simp
theorem dS(i j:Str):decide (V.str i=V.str j)=decide (i=j):=by simp
theorem pJ:OpR X (compareOp .Eq) wm:=Di.imp fun x y H Q h=>by
 unfold wm at h
 split at h
 ·exact⟨rfl,by rw[dI];exact h⟩
 ·exact⟨rfl,by rw[dB];exact h⟩
 ·exact⟨rfl,by rw[dS];exact h⟩
 ·exact h.elim
theorem qL:OpR X (compareOp .NotEq) v8:=C8.imp fun x y H Q h=>by
 unfold v8 at h
 split at h
 ·exact⟨rfl,by rw[dI];exact h⟩
 ·exact⟨rfl,by rw[dB];exact h⟩
 ·exact⟨rfl,by rw[dS];exact h⟩
 ·exact h.elim
noncomputable def pP:V->Bool
 | .non=>true
 |_=>false
def sQ(f:Bool->Bool):R2:=fun x y H Q=>match y with
 | .non=>Q (.bl (f (pP x))) H
 |_=>False
theorem dN(x:V):decide (x=V.non)=pP x:=by cases x<;>simp[pP]
theorem CP:OpR X (compareOp .IsNot) (sQ not):=D6.imp fun x y H Q h=>by
 unfold sQ at h
 split at h
 ·exact⟨rfl,by rw[dN];exact h⟩
 ·exact h.elim
noncomputable def Bv(ta tb:TE):TE:=fun σ H Q=>ta σ H fun x H1=>match x with
 | .bl c=>if c=true then tb σ H1 Q else Q (.bl false) H1
 |_=>False
def Ir(ta tb:TE):TE:=fun σ H Q=>ta σ H fun x H1=>match x with
 | .bl c=>if c=true then Q (.bl true) H1 else tb σ H1 Q
 |_=>False
def Bo(ta:TE):TE:=fun σ H Q=>ta σ H fun x H1=>match x with
 | .bl c=>Q (.bl (!c)) H1
 |_=>False
def fB(t:TE):TT:=fun σ H Q=>t σ H fun x H1=>match x with
 | .bl c=>Q c H1
 |_=>False
variable{rest:List Expr}
theorem lz(ha:PE X a ta)(hb:PE X (.BoolOp .And (b::rest) pos) tb):PE X (.BoolOp .And (a::b::rest) pos) (Bv ta tb):=by
  intro pins s σ H Q I h
  refine BoolOp_and (iP (ha pins s σ H _ I h) fun v s1 ⟨x,H1,I1,r1,q1⟩=>?_)
  cases x<;>first
    |exact False.elim q1
    | (rename_i c
       cases r1
       refine cc ?_
       cases c with
       |true=>exact hb pins s1 σ H1 Q I1 q1
       |false=>exact⟨.bl false,H1,I1,rfl,q1⟩)
theorem CS(ha:PE X a ta):PE X (.UnaryOp .Not a pos) (Bo ta):=by
  intro pins s σ H Q I h
  refine UnaryOp_ (iP (ha pins s σ H _ I h) fun v s1 ⟨x,H1,I1,r1,q1⟩=>?_)
  cases x<;>first
    |exact False.elim q1
    | (rename_i c
       cases r1
       exact not_of (cc ⟨.bl (!c),H1,I1,rfl,q1⟩))
theorem ll {t:TE} (h:PE X e t) (he:∀ whole,isTrue e X.env whole = (do let v <- whole; standAt e.pos; holding [v] (truthy v)):=by intro _; rfl):PT X e (fB t):=by
  intro pins s σ H Q I hw
  refine isTrue_plain (iP (h pins s σ H _ I hw) fun v s1 ⟨x,H1,I1,r1,q1⟩=>?_) (he _)
  cases x<;>first
    |exact False.elim q1
    | (cases r1
       exact cc ⟨H1,I1,q1⟩)
theorem kR{op:CmpOp}{r:R2}(ho:OpR X (compareOp op) r)(ha:PE X a ta)(hb:PE X b tb)(hm:behindInMarks op b=false):PT X (.Compare a [op] [b] pos) (fB (nQ r ta tb)):=by
  intro pins s σ H Q I h
  refine gg (iP (ha pins s σ H _ I h) fun v s1 ⟨x,H1,I1,r1,q1⟩=>iP (hb pins s1 σ H1 _ I1 q1) fun u s2 ⟨y,H2,I2,r2,q2⟩=>
    iP (ho pins s2 σ H2 x y v u _ I2 r1 r2 q2) fun c s3 ⟨z,H3,I3,r3,q3⟩=>?_) hm
  cases z<;>first
    |exact False.elim q3
    | (cases r3
       exact cc ⟨H3,I3,q3⟩)
theorem ue{op:CmpOp}{t:TE}(h:PC X op a b t)(h1:behindInMarks op b=false:=by first|exact vf _ (by decide) (by decide)|rfl):PT X (.Compare a [op] [b] pos) (fB t):=by
  intro pins s σ H Q I hw
  refine gg (iP (h pins s σ H _ I hw) fun v s1 h1=>iP h1 fun u s2 h2=>iP h2 fun c s3 ⟨x,H1,I1,r1,q1⟩=>?_) h1
  cases x<;>first
    |exact False.elim q1
    | (cases r1
       exact cc ⟨H1,I1,q1⟩)
def uk(r r':R2)(ta tb tc:TE):TE:=fun σ H Q=>ta σ H fun x H1=>tb σ H1 fun y H2=>r x y H2 fun z H3=>match z with
 | .bl k=>(if k=true then tc σ H3 fun w' H4=>r' y w' H4 Q else Q (.bl false) H3)
 |_=>False
theorem yJ{op op':CmpOp}{g:Int->Int->Bool}{r':R2}(ho:OpR X (compareOp op) (fI fun i j=>.bl (g i j)))(ho':OpR X (compareOp op') r')(ha:PE X a ta)(hb:PE X b tb)(hc:PE X c tc)
  (hm:lastMarks [op,op'] [b,c]=false:=by with_unfolding_all rfl):PE X (.Compare a [op,op'] [b,c] pos) (uk (fI fun i j=>.bl (g i j)) r' ta tb tc):=by
 intro pins s σ H Q I h
 refine Compare_chain (iP (ha pins s σ H _ I h) fun v s1 ⟨x,H1,I1,r1,q1⟩=>chain_link (iP (hb pins s1 σ H1 _ I1 q1) fun u s2 ⟨y,H2,I2,r2,q2⟩=>
  iP (ho pins s2 σ H2 x y v u (fun z H3=>∃k,z= .bl k/\(if k=true then tc σ H3 fun w' H4=>r' y w' H4 Q else Q (.bl false) H3)) I2 r1 r2 ?_) fun d s3 ⟨z,H3,I3,r3,k,e,q3⟩=>?_)) hm
 ·dsimp only at q2
  unfold fI at q2 ⊢
  cases x<;>cases y<;>first
   |exact q2.elim
   |exact⟨_,rfl,q2⟩
 ·subst e
  cases r3
  refine cc ?_
  cases k with
  |false=>exact ite_ff ⟨.bl false,H3,I3,rfl,q3⟩
  |true=>exact ite_tt (chain_last (iP (hc pins s3 σ H3 _ I3 q3) fun w' s4 ⟨z',H4,I4,r4,q4⟩=>ho' pins s4 σ H4 y z' u w' Q I4 r2 r4 q4))
noncomputable def iX(H:Hp)(p:Addr):Option (List V):=match H p with
 |some (.lst xs)=>some xs
 |some (.tup xs)=>some xs
 |some (.frz _ (.lst xs))=>some xs
 |_=>none
theorem vk{K:PySem.W.Frag}{H:Hp}{p:Addr}{xs:List V}(h:iX H p=some xs):SqL K H p xs\/SqT K H p xs:=by
 unfold iX at h
 split at h
 ·rename_i ys e;cases h;exact .inl (.inl (.inl e))
 ·rename_i ys e;cases h;exact .inr (SqT.of e)
 ·rename_i o ys e;cases h;exact .inl (.inl (.inr ⟨_,e⟩))
 ·cases h
noncomputable def wg:R2:=fun x y H Q=>match x,y with
 | .ref p,.int i=>match iX H p with
  |some xs=>match jr xs i with
   |some v=>Q v H
   |none=>False
  |none=>False
 |_,_=>False
theorem iU:IxR X wg:=(yz.or HY).imp fun x y H Q h=>by
 unfold wg at h
 split at h
 ·split at h
  ·rename_i xs e
   split at h
   ·rename_i v ev
    rcases vk (K:=X.K) e with z|z
    ·exact .inl ⟨_,_,_,_,rfl,rfl,z,ev,h⟩
    ·exact .inr ⟨_,_,_,_,rfl,rfl,z,ev,h⟩
   ·exact h.elim
  ·exact h.elim
 ·exact h.elim
noncomputable def sP:List V->Hp->VK->Prop:=fun vs H Q=>match vs with
 |[.ref p]=>match iX H p with
  |some xs=>Q (.int xs.length) H
  |none=>False
 |_=>False
theorem lO:jbw X (.builtin "len") sP:=vP.imp fun vs H Q h=>by
 unfold sP at h
 split at h
 ·split at h
  ·rename_i xs e;exact⟨_,xs,rfl,vk e,h⟩
  ·exact h.elim
 ·exact h.elim
def uM:List V->Hp->VK->Prop:=fun vs H Q=>match vs with
 |[.ref p]=>match iX H p with
  |some xs=>∀l,H l=none->Q (.ref l) (upd H l (.lst xs))
  |none=>False
 |_=>False
theorem zM:jbw X (.type "list") uM:=Hg.imp fun vs H Q h=>by
 unfold uM at h
 split at h
 ·split at h
  ·rename_i xs e;exact⟨_,xs,rfl,vk e,h⟩
  ·exact h.elim
 ·exact h.elim
noncomputable def v9:List V->Hp->VK->Prop:=fun vs H Q=>match vs with
 |[.int i,.int j]=>Q (.int (if j<i then j else i)) H
 |_=>False
theorem xp(hc:X.calm=true):jbw X (.builtin "min") v9:=(Fy hc).imp fun vs H Q h=>by
 unfold v9 at h
 split at h
 ·exact⟨_,_,rfl,h⟩
 ·exact h.elim
noncomputable def vZ:V->Option Int->Option Int->Hp->VK->Prop:=fun x lo hi H Q=>match x with
 | .ref a=>match H a with
  |some (.lst xs)=>∀p,H p=none->Q (.ref p) (upd H p (.lst (mB xs lo hi)))
  |_=>False
 |_=>False
theorem CO:SlR X vZ:=Eh.imp fun x l u H Q h=>by
 unfold vZ at h
 split at h
 ·split at h
  ·rename_i xs e;exact⟨_,xs,rfl,SqL.of e,h⟩
  ·exact h.elim
 ·exact h.elim
noncomputable def uL:V->List V->Hp->VK->Prop:=fun x vs H Q=>match x,vs with
 | .ref l,[y]=>match H l with
  |some (.lst xs)=>xs.length<sizeLine/\Q .non (upd H l (.lst (xs++[y])))
  |_=>False
 |_,_=>False
theorem mL:MtR X "list.append" uL:=MtR.imp (r:=yK) (fun pins s σ H x xs v us Q I rx rv q=>Az pins s σ H x xs v us Q I rx rv q) fun x vs H Q h=>by
 unfold uL at h
 split at h
 ·split at h
  ·rename_i xs e;exact⟨_,xs,_,rfl,rfl,e,h.1,h.2⟩
  ·exact h.elim
 ·exact h.elim
def Bt(r:V->List V->Hp->VK->Prop)(to:TE)(t:TA):TE:=fun σ H Q=>to σ H fun x H1=>(∃a xs,x= .ref a/\H1 a=some (.lst xs))/\t σ H1 fun xs H2=>r x xs H2 Q
noncomputable def tS:ow:=fun o i v H Q=>match o,i with
 | .ref p,.int k=>match H p with
  |some (.lst xs)=>match kI xs.length k with
   |some j=>Q (upd H p (.lst (xs.set j v)))
   |none=>False
  |_=>False
 |_,_=>False
theorem oR:PSet X tS:=Fn.imp fun o i v H Q h=>by
 unfold tS at h
 split at h
 ·split at h
  ·rename_i xs e
   split at h
   ·rename_i j ej;exact⟨_,xs,_,j,rfl,rfl,e,ej,h⟩
   ·exact h.elim
  ·exact h.elim
 ·exact h.elim
noncomputable def tM:lr:=fun vs σ H Q=>match vs with
 |[]=>Q σ H
 |_=>False
noncomputable def ur(t:TG)(u:lr):lr:=fun vs σ H Q=>match vs with
 |v::r=>t v σ H fun σ' H'=>u r σ' H' Q
 |[]=>False
theorem kj:PGs X [] tM:=Ea.imp fun v σ H Q h=>by
 unfold tM at h
 split at h
 ·exact⟨rfl,h⟩
 ·exact h.elim
theorem ji{t:TG}{u:lr}(h1:PG X e t)(h2:PGs X es u)(hs:(assignEach (e::es) X.env).map (·.2)=assign e X.env::(assignEach es X.env).map (·.2):=by rfl):PGs X (e::es) (ur t u):=(E6 h1 h2 hs).imp fun v σ H Q h=>by
 unfold ur at h
 split at h
 ·exact⟨_,_,rfl,h⟩
 ·exact h.elim
noncomputable def tN(n:Nat)(t:lr):TG:=fun v σ H Q=>match v with
 | .ref a=>match H a with
  |some (.tup xs)=>xs.length=n/\t xs σ H Q
  |_=>False
 |_=>False
theorem ki{k:Nat}{t:lr}{n:Nat}(hc:X.calm=true)(h:PGs X es t)(hn:(assignEach es X.env).length=n:=by rfl)(hst:(assignEach es X.env).findIdx? (·.1)=none:=by rfl):PG X (.Tuple es k pos) (tN n t):=
 (C1 hc h hn hst).imp fun v σ H Q q=>by
  unfold tN at q
  split at q
  ·split at q
   ·rename_i xs e;exact⟨_,xs,rfl,SqT.of e,q.1,q.2⟩
   ·exact q.elim
  ·exact q.elim
noncomputable def wo(f:Bool->Bool)(ty td:TE):TE:=fun σ H Q=>ty σ H fun y H1=>td σ H1 fun x H2=>match y,x with
 | .int n,.ref a=>match H2 a with
  |some (.dK kvs)=>Q (.bl (f (i8 kvs (Sum.inl n:iJ)).isSome)) H2
  |_=>False
 |_,_=>False
def Br(td ty:TE):TE:=fun σ H Q=>td σ H fun x H1=>ty σ H1 fun y H2=>match x,y with
 | .ref a,.int n=>match H2 a with
  |some (.dK kvs)=>match i8 kvs (Sum.inl n:iJ)with
   |some v=>Q v H2
   |none=>False
  |_=>False
 |_,_=>False
end
section
variable{X:Cx}{o i:Expr}{td ty:TE}{pos:Pos}
theorem xF{f:Bool->Bool}{H2:Hp}{Q:VK}{y x:V}(h:(match y,x with
  | .int n,.ref a=>match H2 a with
    |some (.dK kvs)=>Q (.bl (f (i8 kvs (Sum.inl n:iJ)).isSome)) H2
    |_=>False
  |_,_=>False)):∃a ov,x= .ref a/\DGet H2 a y ov/\Q (.bl (f ov.isSome)) H2:=by
  cases y<;>cases x<;>first
    |exact h.elim
    | (rename_i n a
       dsimp only at h
       split at h
       · rename_i kvs e;exact⟨a,_,rfl,DGet.k (k:=Sum.inl n) e,h⟩
       · exact h.elim)
theorem qX(hu:X.A.units+1<cLine)(hi:PE X i ty)(ho:PE X o td):PC X .In i o (wo id ty td):=by
 intro pins s σ H Q I h
 refine iP (hi pins s σ H _ I h) fun iv s1 ⟨y,H1,I1,ry,q1⟩=>iP (ho pins s1 σ H1 _ I1 q1) fun u s2 ⟨x,H2,I2,rx,q2⟩=>?_
 obtain⟨a,ov,ex,g,q3⟩:=xF q2
 subst ex
 obtain rfl:u=Value.ref a:=rx
 exact IF hu I2 g ry fun s' I3=>⟨.bl ov.isSome,H2,I3,rfl,q3⟩
theorem Fe(hu:X.A.units+1<cLine)(hi:PE X i ty)(ho:PE X o td):PC X .NotIn i o (wo not ty td):=by
 intro pins s σ H Q I h
 refine iP (hi pins s σ H _ I h) fun iv s1 ⟨y,H1,I1,ry,q1⟩=>iP (ho pins s1 σ H1 _ I1 q1) fun u s2 ⟨x,H2,I2,rx,q2⟩=>?_
 obtain⟨a,ov,ex,g,q3⟩:=xF q2
 subst ex
 obtain rfl:u=Value.ref a:=rx
 exact yo hu I2 g ry fun s' I3=>⟨.bl (!ov.isSome),H2,I3,rfl,q3⟩
theorem k4 (hu:X.A.units+1<cLine)(ho:PE X o td)(hi:PE X i ty)(hs:BD i):PE X (.Subscript o i pos) (Br td ty):=by
  intro pins s σ H Q I h
  refine Ei PySem.F.slot_dict_getitem.lookup hs (iP (ho pins s σ H _ I h) fun u s1 ⟨x,H1,I1,rx,q1⟩=>iP (hi pins s1 σ H1 _ I1 q1) fun iv s2 ⟨y,H2,I2,ry,q2⟩=>?_)
  cases x <;>cases y<;>first
    |exact False.elim q2
    | (dsimp only at q2
       split at q2
       · rename_i kvs e
         split at q2
         · rename_i v ev
           cases rx
           have g:∀{a:Addr} {n:Int},H2 a=some (.dK kvs)->i8 kvs (Sum.inl n:iJ)=some v->DGet H2 a (.int n) (some v):=fun e1 e2=>e2▸DGet.k (k:=Sum.inl _) e1
           have g:=g e ev
           exact⟨GU I2 g,FB hu I2 g ry fun w' s3 I3 rw'=>⟨v,H2,I3,rw',q2⟩⟩
         · exact q2.elim
       · exact q2.elim)
theorem lY{e:Expr}{es:List Expr}{to:TE}{t:TA}{name:Str}{apos cpos:Pos}{id:String}{r:V->List V->Hp->VK->Prop}(pa:PlainAttrs "list")(slot:Slot "list" name id)(hty:typeOf (.builtin id)=pure (.type "method_descriptor"))(hm:MtR X id r)(ho:PE X o to)(ha:PA X (e::es) t)
  (hbase:attributeBase o name X.env (eval o X.env)=eval o X.env:=by rfl)
  (hfew:((backTo cpos (starEach (e::es) X.env)).all (fun x=>!x.1)&&(backToKw cpos (keywordEach [] X.env)).all (fun x=>x.1.isSome)
   &&decide ((e::es).length+([]:List Keyword).length+(if([]:List Keyword).isEmpty then 0 else 1)<30))=true:=by rfl)
  (hline:(apos.endLine==cpos.line)=true:=by rfl) (hs:starEach (e::es) X.env=(false,eval e X.env)::starEach es X.env:=by rfl) (hplain:(backTo cpos (starEach es X.env)).any (·.1)=false:=by rfl):
  PE X (.Call (.Attribute o name apos) (e::es) [] cpos) (Bt r to t):=by
 intro pins s σ H Q I h
 refine wpAny_Call_method_late hbase hfew hline rfl (iP (ho pins s σ H _ I h) fun v s1 ⟨x,H1,I1,r1,⟨a,xs,ex,ea⟩,q1⟩=>?_)
 subst ex
 obtain⟨h1,h2⟩:=BX (T:="list") I1 r1 (.inl ⟨rfl,_,SqL.of ea⟩)
 refine⟨"list",id,pa,slot,hty,h1,h2,?_⟩
 have hA:=ha cpos pins s1 σ H1 _ I1 q1
 rw[hs]at hA ⊢
 refine fV (by show(false||(backTo cpos (starEach es X.env)).any (·.1))=false;rw[hplain]<;>rfl) (gw ?_)
 exact iP hA fun us s2 ⟨vs,H2,I2,r2,q2⟩=>hm pins s2 σ H2 _ vs v us Q I2 r1 r2 q2
end
inductive Kd where
 |non|bl|int|str|lst|tup|dct
 deriving DecidableEq
noncomputable def Kd.nm:Kd->String
 | .non=>"NoneType"
 | .bl=>"bool"
 | .int=>"int"
 | .str=>"str"
 | .lst=>"list"
 | .tup=>"tuple"
 | .dct=>"dict"
noncomputable def kd(H:Hp)(v:V):Option Kd:=match v with
 | .non=>some .non
 | .bl _=>some .bl
 | .int _=>some .int
 | .str _=>some .str
 | .ref a=>match H a with
  |some (.lst _)=>some .lst
  |some (.tup _)=>some .tup
  |some (.dK _)=>some .dct
  |_=>none
 |_=>none
noncomputable def lp(a b:Kd):Bool:=match a,b with
 | .bl,.int=>true
 | .non,.non=>true
 | .bl,.bl=>true
 | .int,.int=>true
 | .str,.str=>true
 | .lst,.lst=>true
 | .tup,.tup=>true
 | .dct,.dct=>true
 |_,_=>false
theorem DC{H:Hp}{v:V}{k:Kd}(h:kd H v=some k):Knd H v k.nm:=by
 unfold kd at h
 split at h
 ·cases h;exact .non
 ·cases h;exact .bl
 ·cases h;exact .int
 ·cases h;exact .str
 ·split at h
  ·rename_i e;cases h;exact .lst e
  ·rename_i e;cases h;exact .tup e
  ·rename_i e;cases h;exact .dK e
  ·cases h
 ·cases h
theorem Ie(a b:Kd):vV a.nm b.nm=lp a b:=by cases a<;>cases b<;>rfl
theorem Kd.mem(b:Kd):b.nm∈mX:=by cases b<;>simp[mX,Kd.nm]
noncomputable def wj(T:Kd):List V->Hp->VK->Prop:=fun vs H Q=>match vs with
 |[x,y]=>y= .ty T.nm/\match kd H x with
  |some k=>Q (.bl (lp k T)) H
  |none=>False
 |_=>False
theorem nY{X:Cx}(T:Kd):jbw X (.builtin "isinstance") (wj T):=Et.imp fun vs H Q h=>by
 unfold wj at h
 split at h
 ·obtain⟨rfl,h⟩:=h
  split at h
  ·rename_i k e
   exact⟨_,_,_,rfl,DC e,Kd.mem T,by rw[Ie];exact h⟩
  ·exact h.elim
 ·exact h.elim
def wt(i:Nat)(te:TE)(ti:mO):TS:=fun D σ H=>match σ[i]? with
 |some (some x)=>te σ H fun y H1=>ti x y H1 fun z H2=>D.nx (σ.set i (some z)) H2
 |_=>False
theorem rn{X:Cx}{pos:Pos}{i:Nat}{x:Str}{e:Expr}{te:TE}{op:Operator}{ti:mO}{pos':Pos}(hN:X.N.Nodup)(hi:X.N[i]? =some x)(hx:Loc X.env.scope x)(he:PE X e te)(ho:oy X op ti)(hf:X.fn x=true\/X.env.scope.names.lookup x=some .local:=by first|exact .inl rfl|exact .inr rfl|assumption):
  PS X (.AugAssign (.Name x pos') op e pos) (wt i te ti):=fun pins s σ H D I h=>CZ hN hi hx he ho hf pins s σ H D I (by
 unfold wt at h
 split at h
 ·rename_i x e;exact⟨x,e,h⟩
 ·exact h.elim)
def Bn(t:TE):TO:=fun σ H Q=>t σ H fun x H1=>match x with
 | .int i=>Q (some i) H1
 |_=>False
theorem rP{X:Cx}{e:Expr}{te:TE}(h:PE X e te):PO X (some e) (Bn te):=by
  intro pins s σ H Q I hw
  rw[evalPart_some]
  refine iP (h pins s σ H _ I hw) fun u s1 ⟨x,H1,I1,r1,q1⟩=>?_
  cases x<;>first
    |exact False.elim q1
    | (obtain⟨t,rfl⟩:=r1
       exact⟨some _,H1,I1,.int _ t,q1⟩)
def rf(f:List Bool->Bool):List V->Hp->VK->Prop:=fun vs H Q=>match vs with
 |[.ref l]=>match H l with
  |some (.lst xs)=>∃bs:List Bool,xs=bs.map V.bl/\Q (.bl (f bs)) H
  |_=>False
 |_=>False
theorem EB{f:List Bool->Bool}{vs:List V}{H:Hp}{Q:VK}(h:rf f vs H Q):xW f vs H Q:=by
 unfold rf at h
 split at h
 ·split at h
  ·rename_i xs e
   obtain⟨bs,rfl,h⟩:=h
   exact⟨_,bs,rfl,e,h⟩
  ·exact h.elim
 ·exact h.elim
theorem tZ{X:Cx}(hc:X.calm=true):jbw X (.builtin "all") (rf fun bs=>bs.all id):=(Es hc).imp fun _ _ _=>EB
def uo:List V->Hp->VK->Prop:=fun vs H Q=>match vs with
 |[.ref l]=>match H l with
  |some (.lst xs)=>∃kvs:List (iJ×V),Paired (PairAt H) xs kvs/\xs.length<=1000/\(kvs.map (·.1)).Nodup/\∀d,H d=none->Q (.ref d) (upd H d (.dK kvs))
  |_=>False
 |_=>False
theorem p6{X:Cx}(hc:X.calm=true):jbw X (.type "dict") uo:=(Gj hc).imp fun vs H Q h=>by
 unfold uo at h
 split at h
 ·split at h
  ·rename_i xs e
   obtain⟨kvs,h1,h2,h3,h4⟩:=h
   exact⟨_,xs,kvs,rfl,e,h1,h2,h3,h4⟩
  ·exact h.elim
 ·exact h.elim
noncomputable def wd:R2:=fun x y H Q=>match x,y with
 | .ref a,.ref b=>match H a,H b with
  |some (.tup [.int i,.int j]),some (.tup [.int k,.int l])=>Q (.bl (HT.lexLt [i,j] [k,l])) H
  |_,_=>False
 |_,_=>False
theorem CT{X:Cx}(hu:X.A.units<cLine):OpR X (compareOp .Lt) wd:=(Dc hu).imp fun x y H Q h=>by
 unfold wd at h
 split at h
 ·split at h
  ·rename_i a b _ _ i j k l e1 e2
   exact⟨a,b,[i,j],[k,l],rfl,rfl,SqT.of e1,SqT.of e2,h⟩
  ·exact h.elim
 ·exact h.elim
noncomputable def qr(XN:List Str)(names:List (Str×NameKind)):List Str->List (Option Nat)->Bool
 |[],[]=>true
 |x::N,none::r=>qr XN names N r
 |x::N,some j::r=>(XN[j]? ==some x)&&(names.lookup x==some .free)&&qr XN names N r
 |_,_=>false
theorem uI{XN:List Str}{names:List (Str×NameKind)}:∀{N:List Str} {src:List (Option Nat)},qr XN names N src=true->src.length=N.length/\∀(i j:Nat),src[i]? =some (some j)->XN[j]? =N[i]?/\(N[i]?).elim False (fun x=>names.lookup x=some .free)
 |[],[],_=>⟨rfl,fun i j e=>by simp at e⟩
 |x::N,none::r,h=>by
  obtain⟨h1,h2⟩:=uI (N:=N) (src:=r) h
  refine⟨by simp[h1],fun i j e=>?_⟩
  cases i with
  |zero=>simp at e
  |succ i=>exact h2 i j (by simpa using e)
 | x::N,some k::r,h=>by
  have h':((XN[k]? ==some x)&&(names.lookup x==some .free)&&qr XN names N r)=true:=h
  rw[cE,cE]at h'
  obtain⟨h1,h2⟩:=uI (N:=N) (src:=r) h'.2
  refine⟨by simp[h1],fun i j e=>?_⟩
  cases i with
  |zero=>
   have e':k=j:=by simpa using e
   subst e'
   exact⟨by simpa using h'.1.1,by simpa using h'.1.2⟩
  |succ i=>exact h2 i j (by simpa using e)
noncomputable def rh:List Str->Bool
 |[]=>true
 |x::r=>!(r.contains x)&&rh r
theorem jy:∀{l:List Str},rh l=true->l.Nodup
 |[],_=>eM
 |x::r,h=>by
  have h':(!(r.contains x)&&rh r)=true:=h
  rw[cE]at h'
  exact br.mpr ⟨by simpa using h'.1,jy h'.2⟩
noncomputable def By(XN:List Str)(outer:List (Str×NameKind))(scope:Scope)(N:List Str)(src:List (Option Nat)):Bool:=
 (scope.kind== .function)&&scope.names.all (fun y=>y.2 != .cell)&&scope.names.all (fun y=>y.2 != .local||scope.names.lookup y.1==some .local)&&
  scope.names.all (fun y=>y.2 != .free||(scope.names.lookup y.1==some .free&&outer.lookup y.1==some .cell))&&rh N&&qr XN scope.names N src
theorem CpScope.of{X:Cx}{scope:Scope}{N:List Str}{src:List (Option Nat)}(h:By X.N X.env.scope.names scope N src=true):CpScope X scope N src:=by
 unfold By at h
 simp only[cE]at h
 obtain⟨⟨⟨⟨⟨h1,h2⟩,h3⟩,h4⟩,h5⟩,h6⟩:=h
 rw[eV]at h2 h3 h4
 obtain⟨l,c⟩:=uI h6
 refine⟨by simpa using h1,fun y hy=>by simpa using h2 y hy,fun y hy e=>?_,fun y hy e=>?_,jy h5,l,c⟩
 ·have:=h3 y hy
  rw[e]at this
  simpa using this
 ·have:=h4 y hy
  rw[e]at this
  simpa using this
theorem u9{K:PySem.W.Frag}{a:Addr}{xs:List V}{g:TG}{tb:TS}{D:Ends}{σ:St}{H:Hp}(Pv:Nat->St->Hp->Prop)(h0:Pv 0 σ H)(hl:∀i σ H,i<=xs.length->Pv i σ H->SqL K H a xs)
  (hs:∀i x σ H t,xs[i]? =some x->Pv i σ H->H t=none->g (.ref t) σ (upd H t (.tup [.int i,x])) fun σ2 H2=>tb {D with nx:=Pv (i+1),ct:=Pv (i+1),bk:=D.nx} σ2 H2) (hd:∀σ H,Pv xs.length σ H->D.nx σ H):
  ∃W:Nat->Nat->St->Hp->Prop,(∃m,W 0 m σ H)/\∀i m σ H,W i m σ H->
   ((oz K a).stop i H/\D.nx σ H)\/((oz K a).go i H/\∃N:St->Hp->Prop,(∀σ' H',N σ' H'->∃m',m'<m/\W (i+1) m' σ' H')/\∀x H',(oz K a).yld i H x H'->g x σ H' fun σ2 H2=>tb {D with nx:=N,ct:=N,bk:=D.nx} σ2 H2):=by
 refine⟨fun i m σ H=>m=xs.length-i/\i<=xs.length/\Pv i σ H,⟨xs.length,by simp,bp _,h0⟩,?_⟩
 rintro i m σ H ⟨rfl,hi,p⟩
 have q:=hl i σ H hi p
 by_cases hlt:i<xs.length
 ·refine .inr ⟨⟨xs,xs[i],q,by simp[hlt]⟩,Pv (i+1),fun σ' H' p'=>⟨xs.length-(i+1),by lia,rfl,hlt,p'⟩,fun x H' y=>?_⟩
  obtain⟨t,z,ht,e1,e2,y⟩:=y
  subst e1 e2
  exact hs i z σ _ t (y xs q) p ht
 ·have e:i=xs.length:=by lia
  subst e
  exact .inl ⟨⟨xs,q,ao _⟩,hd σ H p⟩
theorem kU{wi:TI}{g:TG}{tb:TS}{D:Ends}{σ:St}{H:Hp}(J:It)(H1:Hp)(h1:∀R:It->Hp->Prop,R J H1->wi σ H R)
  (h2:∃W:Nat->Nat->St->Hp->Prop,(∃m,W 0 m σ H1)/\∀i m σ H,W i m σ H->(J.stop i H/\D.nx σ H)\/(J.go i H/\∃N:St->Hp->Prop,(∀σ' H',N σ' H'->∃m',m'<m/\W (i+1) m' σ' H')/\∀x H',J.yld i H x H'->g x σ H' fun σ2 H2=>tb {D with nx:=N,ct:=N,bk:=D.nx} σ2 H2)):
  tE wi g tb D σ H:=h1 _ h2
theorem kO{src:List (Option Nat)}{wi:TI}{g:TG}{tc:TT}{te:TE}{Q:VK}{σ:St}{H:Hp}(J:It)(H1:Hp)(h1:∀R:It->Hp->Prop,R J H1->wi σ H R)(h2:∀l,H1 l=none->pL J src g tc te Q σ H1 l):rb src wi g tc te σ H Q:=h1 _ h2
theorem iO{H:Hp}{p:Addr}(h:H p=none)(o:HO):Same H (upd H p o):=fun b u q=>by rw[iQ (iV q h)];exact q
theorem jJ{H H':Hp}{p:Addr}{o:HO}(s:Same H H')(h:H p=none):Same H (upd H' p o):=fun b u q=>by rw[iQ (iV q h)];exact s b u q
def Pr(H:Hp)(v:V)(p:Int×Int):Prop:=∃t,v= .ref t/\H t=some (.tup [.int p.1,.int p.2])
theorem Pr.same{H H':Hp}{v:V}{p:Int×Int}(h:Pr H v p)(s:Same H H'):Pr H' v p:=let⟨t,e,q⟩:=h;⟨t,e,s _ _ q⟩
noncomputable def tW:HO->Bool
 | .tup _=>true
 | .frz _ _=>true
 |_=>false
def lq(H H':Hp):Prop:=∀b o,tW o=true->H b=some o->H' b=some o
theorem Same.tups{H H':Hp}(s:Same H H'):lq H H':=fun b o _ q=>s b _ q
theorem k6{H:Hp}{l:Addr}{xs ys:List V}(h:H l=some (.lst xs)):lq H (upd H l (.lst ys)):=fun b o i q=>by
 have:b≠l:=fun z=>by rw[z,h]at q;cases q;cases i
 rw[iQ this]
 exact q
theorem Pr.tups{H H':Hp}{v:V}{p:Int×Int}(h:Pr H v p)(s:lq H H'):Pr H' v p:=let⟨t,e,q⟩:=h;⟨t,e,s _ _ rfl q⟩
def Scr(K:PySem.W.Frag)(H:Hp)(a:Addr)(ns:List Int):Prop:=
 (∃o,H a=some (.frz o (.lst (ns.map V.int))))\/∃(o:Obj) (its:Array Value) (n:Nat),K.lookup a=some o/\o.cls= .type "list"/\o.dict=none/\o.data= .seq its n/\its.size<=sizeLine/\Vals (ns.map V.int) its.toList
theorem Scr.sq{K:PySem.W.Frag}{H:Hp}{a:Addr}{ns:List Int}(h:Scr K H a ns):SqL K H a (ns.map V.int):=h.elim (fun⟨o,q⟩=>.inl (.inr ⟨o,q⟩)) .inr
theorem Scr.of{K:PySem.W.Frag}{H:Hp}{a:Addr}{ns:List Int}(h:SqL K H a (ns.map V.int))(o:sY H):Scr K H a ns:=by
 rcases h with(h|⟨ob,h⟩)|h
 ·rcases o a with z|⟨ob,xs,z⟩
  ·rw[h]at z;cases z
  ·rw[h]at z;cases z
 ·exact .inl ⟨ob,h⟩
 ·exact .inr h
theorem Scr.tups{K:PySem.W.Frag}{H H':Hp}{a:Addr}{ns:List Int}(h:Scr K H a ns)(s:lq H H'):Scr K H' a ns:=h.elim (fun⟨o,q⟩=>.inl ⟨o,s _ _ rfl q⟩) .inr
abbrev Prs(H:Hp):List V->List (Int×Int)->Prop:=Paired (Pr H)
theorem Prs.tups{H H':Hp}(s:lq H H'){xs:List V}{ps:List (Int×Int)}(h:Prs H xs ps):Prs H' xs ps:=Paired.mapP h fun _ _ q=>q.tups s
theorem Prs.same{H H':Hp}(s:Same H H'){xs:List V}{ps:List (Int×Int)}(h:Prs H xs ps):Prs H' xs ps:=Prs.tups s.tups h
theorem kH{α β:Type}{F:α->β->Prop}:∀{xs:List α} {ys:List β} {i:Nat} {x:α},Paired F xs ys->xs[i]? =some x->∃y,ys[i]? =some y/\F x y
 |_,_,_,_,.nil,e=>by simp at e
 |_,_,0,_,.cons r _,e=>by simp at e;subst e;exact⟨_,rfl,r⟩
 |_,_,i+1,y,.cons _ t,e=>by
  obtain⟨u,h1,h2⟩:=kH (i:=i) t (by simpa using e)
  exact⟨u,by simpa using h1,h2⟩
theorem vR{α β:Type}{F:α->β->Prop}:∀{xs:List α} {ys:List β} {i:Nat} {y:β},Paired F xs ys->ys[i]? =some y->∃x,xs[i]? =some x/\F x y
 |_,_,_,_,.nil,e=>by simp at e
 |_,_,0,_,.cons r _,e=>by simp at e;subst e;exact⟨_,rfl,r⟩
 |_,_,i+1,y,.cons _ t,e=>by
  obtain⟨u,h1,h2⟩:=vR (i:=i) t (by simpa using e)
  exact⟨u,by simpa using h1,h2⟩
theorem k7{α β:Type}{F:α->β->Prop}{a:α}{b:β}{l₁:List α}{l₂:List β}(h:Paired F l₁ l₂)(r:F a b):Paired F (l₁++[a]) (l₂++[b]):=Paired.snoc h r
theorem p9{α:Type}{l:List α}{i:Nat}{x:α}(h:l[i]? =some x):l.drop i=x::l.drop (i+1):=by
 obtain⟨h1,h2⟩:=ak.mp h
 rw[cN h1,h2]
theorem jv{α:Type}{l:List α}{i:Nat}{x:α}(h:l[i]? =some x):l.take (i+1)=l.take i++[x]:=by
 obtain⟨h1,h2⟩:=ak.mp h
 rw[List.take_succ,h]
 rfl
inductive Dt where
 |non
 |bl (b:Bool)
 |int (i:Int)
 |str (x:Str)
 |tup (ds:List Dt)
 |lst (ds:List Dt)
mutual
noncomputable def Rep(H:Hp):Dt->V->Prop
 | .non,v=>v= .non
 | .bl b,v=>v= .bl b
 | .int i,v=>v= .int i
 | .str x,v=>v= .str x
 | .tup ds,v=>∃a vs,v= .ref a/\H a=some (.tup vs)/\Reps H ds vs
 | .lst ds,v=>∃a vs,v= .ref a/\H a=some (.lst vs)/\Reps H ds vs
noncomputable def Reps(H:Hp):List Dt->List V->Prop
 |[],vs=>vs=[]
 |d::ds,vs=>∃v r,vs=v::r/\Rep H d v/\Reps H ds r
end
mutual
theorem Rep.same{H H':Hp}(s:Same H H'):∀(d:Dt) {v:V},Rep H d v->Rep H' d v
 | .non,_,h=>by rw[Rep]at*;exact h
 | .bl _,_,h=>by rw[Rep]at*;exact h
 | .int _,_,h=>by rw[Rep]at*;exact h
 | .str _,_,h=>by rw[Rep]at*;exact h
 | .tup ds,_,h=>by
  rw[Rep]at*
  obtain⟨a,vs,e,q,r⟩:=h
  exact⟨a,vs,e,s _ _ q,Reps.same s ds r⟩
 | .lst ds,_,h=>by
  rw[Rep]at*
  obtain⟨a,vs,e,q,r⟩:=h
  exact⟨a,vs,e,s _ _ q,Reps.same s ds r⟩
theorem Reps.same{H H':Hp}(s:Same H H'):∀(ds:List Dt) {vs:List V},Reps H ds vs->Reps H' ds vs
 |[],_,h=>by rw[Reps]at*;exact h
 |d::ds,_,h=>by
  rw[Reps]at*
  obtain⟨v,r,e,h1,h2⟩:=h
  exact⟨v,r,e,Rep.same s d h1,Reps.same s ds h2⟩
end
theorem Reps.len{H:Hp}:∀{ds:List Dt} {vs:List V},Reps H ds vs->vs.length=ds.length
 |[],_,h=>by rw[Reps]at h;subst h;rfl
 |d::ds,_,h=>by
  rw[Reps]at h
  obtain⟨v,r,e,h1,h2⟩:=h
  rw[e,List.length_cons,List.length_cons,Reps.len h2]
theorem Reps.at{H:Hp}:∀{ds:List Dt} {vs:List V} {i:Nat} {v:V},Reps H ds vs->vs[i]? =some v->∃d,ds[i]? =some d/\Rep H d v
 |[],_,i,v,h,e=>by rw[Reps]at h;rw[h]at e;simp at e
 | d::ds,_,i,v,h,e=>by
  rw[Reps]at h
  obtain⟨w,r,e1,h1,h2⟩:=h
  subst e1
  cases i with
  |zero=>simp at e;subst e;exact⟨d,rfl,h1⟩
  |succ i=>
   obtain⟨d',q1,q2⟩:=Reps.at h2 (i:=i) (by simpa using e)
   exact⟨d',by simpa using q1,q2⟩
noncomputable def kq(p:Int×Int):Dt:=.tup [.int p.1,.int p.2]
theorem Pr.rep{H:Hp}{v:V}{p:Int×Int}(h:Pr H v p):Rep H (kq p) v:=by
 obtain⟨t,e,q⟩:=h
 rw[kq,Rep]
 refine⟨t,_,e,q,?_⟩
 rw[Reps]
 refine⟨_,_,rfl,(by rw[Rep]),?_⟩
 rw[Reps]
 exact⟨_,_,rfl,(by rw[Rep]),(by rw[Reps])⟩
theorem Prs.reps{H:Hp}:∀{xs:List V} {ps:List (Int×Int)},Prs H xs ps->Reps H (ps.map kq) xs
 |_,_,.nil=>by rw[cL,Reps]
 |_,_,.cons r t=>by rw[ah,Reps];exact⟨_,_,rfl,r.rep,Prs.reps t⟩
theorem Av{H:Hp}:∀(ns:List Int),Reps H (ns.map Dt.int) (ns.map V.int)
 |[]=>by rw[cL,Reps,cL]
 |n::r=>by rw[ah,Reps,ah];exact⟨_,_,rfl,(by rw[Rep]),Av r⟩
def wc:List V->Hp->VK->Prop:=fun vs H Q=>match vs with
 |[.int i,.int j]=>Q (.int (if i<j then j else i)) H
 |_=>False
theorem t8{X:Cx}(hc:X.calm=true):jbw X (.builtin "max") wc:=(Fx hc).imp fun vs H Q h=>by
 unfold wc at h
 split at h
 ·refine⟨_,_,rfl,?_⟩
  first|exact h|(rename_i i j;by_cases c:i<j<;>simp_all)
 ·exact h.elim
def Iw(neg:Bool):R2:=fun x y H Q=>match y with
 | .ref p=>match iX H p with
  |some xs=>pO x=true/\xs.all pO=true/\Q (.bl (if neg=true then !Bi x xs else Bi x xs)) H
  |none=>False
 |_=>False
def Cy:List V->Hp->VK->Prop:=fun vs H Q=>∃(p:Addr) (ns:List Int),vs=[.ref p]/\H p=some (.lst (ns.map V.int))/\ns.length<64/\
 ∀(l:Addr) (ms:List Int),H l=none->ms.Perm ns->ms.Pairwise (·<=·)->Q (.ref l) (upd H l (.lst (ms.map V.int)))
theorem AI{X:Cx}:jbw X (.builtin "sorted") Cy:=by
 intro pins s σ H xs us Q I r h
 obtain⟨p,ns,rfl,e,h64,q⟩:=h
 obtain⟨u,rfl,rx⟩:=mK r
 cases rx
 obtain⟨its,r',pl,hz⟩:=I.list (SqL.of e)
 have hI:=oq r'
 have hlen:=r'.length
 rw[ae]at hlen
 refine sorted_ints pl.isList hI (by lia) fun out ms a1 a2 a3=>?_
 obtain⟨c,hc⟩:=sortedAll_at s.heap its out
 have hml:=a2.length_eq
 have hz2:=n6
 refine⟨.ref (s.heap.objs.size+1),_,I.laid (t':=s.toks) (fun _ _=>sortedAll_old) (dA _) (show jbk X.prog X.w _ _ _ (.lst (ms.map V.int))from⟨?_,out.toList,c,su a1,?_⟩),rfl,q _ ms (I.hok.fresh (dA _)) a2 a3⟩
 ·rw[ae,hml];exact bE (dF h64) (by decide)
 ·rw[hc]
theorem Ax{P:Program}{w:World}:∀{kvs:List (iJ×V)} {vs:List (iJ×Value)} {ns:List Int},KV kvs vs->kvs.map (·.1)=ns.map Sum.inl->∀{us:List Value},us.length=vs.length->(∀(j:Nat) (v:Value),us[j]? =some v->∃k x,vs[j]? =some (k,x)/\(jR P w).is k v=true)->IntsAre us ns
 | [],_,ns,.nil,hk,us,hl,_=>by
  cases ns with
  |nil=>cases us with
   |nil=>exact .nil
   |cons _ _=>simp at hl
  |cons _ _=>simp at hk
 | kv::kvs,_,ns,.cons (b:=b) r t,hk,us,hl,hv=>by
  cases ns with
  |nil=>simp at hk
  | cons n ns=>
   cases us with
   |nil=>simp at hl
   | cons u us=>
    rw[ah,ah]at hk
    injection hk with hk1 hk2
    obtain⟨k,x,e1,e2⟩:=hv 0 u rfl
    simp only[List.getElem?_cons_zero,cK]at e1
    have hkn:k = Sum.inl n:=by rw [<- hk1,r.1,e1]
    rw[hkn]at e2
    rcases mw (show mW (Sum.inl n) u=true from e2)with⟨i,t',ei,ev⟩|⟨y,t',ei,ev⟩
    ·cases ei
     rw[ev]
     refine .cons n t' (Ax (P:=P) (w:=w) t hk2 (by simpa using hl) fun j v hj=>?_)
     obtain⟨k',x',z1,z2⟩:=hv (j+1) v (by simpa using hj)
     exact⟨k',x',by simpa using z1,z2⟩
    ·cases ei
mutual
noncomputable def jK:Dt->Dt->Bool
 | .non,.non=>true
 | .bl a,.bl b=>a==b
 | .bl a,.int b=>(if a then 1 else 0)==b
 | .int a,.bl b=>a==(if b then 1 else 0)
 | .int a,.int b=>a==b
 | .str a,.str b=>a==b
 | .tup a,.tup b=>lF a b
 | .lst a,.lst b=>lF a b
 |_,_=>false
noncomputable def lF:List Dt->List Dt->Bool
 |[],[]=>true
 |a::r,b::t=>jK a b&&lF r t
 |_,_=>false
end
mutual
noncomputable def lG:Dt->Nat
 | .tup a=>kM a+1
 | .lst a=>kM a+1
 |_=>0
noncomputable def kM:List Dt->Nat
 |[]=>0
 |a::r=>max (lG a) (kM r)
end
noncomputable def mj(a b:List Dt)(j:Nat):Bool:=match a[j]?,b[j]? with
 |some x,some y=>jK x y
 |_,_=>false
theorem qb:∀{a b:List Dt},a.length≠b.length->lF a b=false
 |[],[],h=>absurd rfl h
 |[],_::_,_=>by simp[lF]
 |_::_,[],_=>by simp[lF]
 |x::a,y::b,h=>by
  rw[lF,qb (by simpa using h),eP]
theorem F6:∀(n:Nat) (f:Nat->Bool),(List.range (n+1)).all f=(f 0&&(List.range n).all fun j=>f (j+1)):=fun n f=>by
 rw[List.range_succ_eq_map,List.all_cons,gT]
 rfl
theorem qj:∀{a b:List Dt},a.length=b.length->lF a b=(List.range a.length).all (mj a b)
 |[],[],_=>by rw[lF];rfl
 |[],_::_,h=>by simp at h
 |_::_,[],h=>by simp at h
 |x::a,y::b,h=>by
  rw[lF,qj (a:=a) (b:=b) (by simpa using h),List.length_cons,F6]
  rfl
theorem u7:∀{a:List Dt} {j:Nat} {d:Dt},a[j]? =some d->lG d<=kM a
 |[],_,_,h=>by simp at h
 |x::a,0,d,h=>by
  simp at h;subst h
  rw[kM];lia
 |x::a,j+1,d,h=>by
  have:=u7 (a:=a) (j:=j) (by simpa using h)
  rw[kM];lia
noncomputable def ka:Dt->Option V
 | .non=>some .non
 | .bl b=>some (.bl b)
 | .int i=>some (.int i)
 | .str x=>some (.str x)
 |_=>none
theorem EA{d e:Dt}{x y:V}(hd:ka d=some x)(he:ka e=some y):jK d e=sS x y:=by
 cases d<;>cases e<;>simp only[ka,cK,reduceCtorEq]at hd he<;>subst hd<;>subst he<;>simp[jK,sS]
theorem vi{H:Hp}{d:Dt}{x v:V}(hd:ka d=some x)(h:Rep H d v):v=x/\pO x=true:=by
 cases d<;>simp only[ka,cK,reduceCtorEq]at hd<;>subst hd<;>rw[Rep]at h<;>exact⟨h,rfl⟩
section
variable{X:Cx}{pins:List (Addr×Obj)}{σ:St}{H:Hp}{s:Shared}
theorem Inv.tupE(I:Inv X pins σ H s){a:Addr}{vs:List V}(e:H a=some (.tup vs)):∃its:List Value,Vals vs its/\s.heap.IsTuple a its.toArray:=by
 obtain⟨its,r,p,_⟩:=I.tuple (SqT.of e)
 exact⟨its,r,p⟩
theorem Inv.lstE(I:Inv X pins σ H s){a:Addr}{vs:List V}(e:H a=some (.lst vs)):∃its:List Value,Vals vs its/\s.heap.IsList a its.toArray:=by
 obtain⟨its,r,p,_⟩:=I.list (SqL.of e)
 exact⟨its,r,p.isList⟩
mutual
theorem qa:∀d:Dt,jK d d=true
 | .non=>by simp[jK]
 | .bl _=>by simp[jK]
 | .int _=>by simp[jK]
 | .str _=>by simp[jK]
 | .tup a=>by rw[jK];exact vw a
 | .lst a=>by rw[jK];exact vw a
theorem vw:∀a:List Dt,lF a a=true
 |[]=>by rw[lF]
 |d::r=>by rw[lF,qa d,vw r];rfl
end
mutual
theorem Rep.inj{H:Hp}:∀{d e:Dt} {v:V},Rep H d v->Rep H e v->d=e
 | .non,e,v,h1,h2=>by rw[Rep]at h1;subst h1;cases e<;>simp[Rep]at h2 ⊢
 | .bl _,e,v,h1,h2=>by rw[Rep]at h1;subst h1;cases e<;>simp[Rep]at h2 ⊢;exact h2
 | .int _,e,v,h1,h2=>by rw[Rep]at h1;subst h1;cases e<;>simp[Rep]at h2 ⊢;exact h2
 | .str _,e,v,h1,h2=>by rw[Rep]at h1;subst h1;cases e<;>simp[Rep]at h2 ⊢;exact h2
 | .tup ds,e,v,h1,h2=>by
  rw[Rep]at h1
  obtain⟨a,vs,rfl,q,r⟩:=h1
  cases e with
  |tup es=>
   rw[Rep]at h2
   obtain⟨a',vs',e',q',r'⟩:=h2
   cases e'
   rw[q]at q';cases q'
   rw[Reps.inj r r']
  |lst es=>
   rw[Rep]at h2
   obtain⟨a',vs',e',q',r'⟩:=h2
   cases e'
   rw[q]at q';cases q'
  |non=>rw[Rep]at h2;cases h2
  |bl _=>rw[Rep]at h2;cases h2
  |int _=>rw[Rep]at h2;cases h2
  |str _=>rw[Rep]at h2;cases h2
 | .lst ds,e,v,h1,h2=>by
  rw[Rep]at h1
  obtain⟨a,vs,rfl,q,r⟩:=h1
  cases e with
  |lst es=>
   rw[Rep]at h2
   obtain⟨a',vs',e',q',r'⟩:=h2
   cases e'
   rw[q]at q';cases q'
   rw[Reps.inj r r']
  |tup es=>
   rw[Rep]at h2
   obtain⟨a',vs',e',q',r'⟩:=h2
   cases e'
   rw[q]at q';cases q'
  |non=>rw[Rep]at h2;cases h2
  |bl _=>rw[Rep]at h2;cases h2
  |int _=>rw[Rep]at h2;cases h2
  |str _=>rw[Rep]at h2;cases h2
theorem Reps.inj{H:Hp}:∀{ds es:List Dt} {vs:List V},Reps H ds vs->Reps H es vs->ds=es
 |[],es,vs,h1,h2=>by
  rw[Reps]at h1;subst h1
  cases es with
  |nil=>rfl
  |cons e es=>rw[Reps]at h2;obtain⟨_,_,z,_⟩:=h2;cases z
 | d::ds,es,vs,h1,h2=>by
  rw[Reps]at h1
  obtain⟨v,r,rfl,q1,q2⟩:=h1
  cases es with
  |nil=>rw[Reps]at h2;cases h2
  |cons e es=>
   rw[Reps]at h2
   obtain⟨v',r',z,p1,p2⟩:=h2
   cases z
   rw[Rep.inj q1 p1,Reps.inj q2 p2]
end
theorem A7{d e:Dt}(hd:ka d=none){y:V}(he:ka e=some y):jK d e=false/\jK e d=false:=by
 cases d<;>cases e<;>simp only[ka,cK,reduceCtorEq]at hd he<;>simp[jK]
theorem IE:∀(n:Nat) {A:Around} (I:Inv X pins σ H s) {d e:Dt} {x y:V} {u v:Value},lG d<=n->A.units+n<cLine->Rep H d x->Rep H e y->RelV x u->RelV y v->SeqAt.EqAt A s u v (jK d e):=by
 intro n
 induction n with
 | zero=>
  intro A I d e x y u v hn hu rd re rx ry
  have hf:∃z,ka d=some z:=by
   cases d<;>simp only[lG,ka]at hn ⊢ <;>first|exact⟨_,rfl⟩|lia
  obtain⟨z,hz⟩:=hf
  obtain⟨rfl,fz⟩:=vi hz rd
  cases he:ka e with
  |some y'=>
   obtain⟨rfl,fy⟩:=vi he re
   rw[EA hz he]
   exact ID rx ry fz fy
  | none=>
   rw[(A7 he hz).2]
   have hu0:A.units<cLine:=by lia
   cases e<;>simp only[ka,reduceCtorEq]at he
   ·rw[Rep]at re
    obtain⟨a,vs,rfl,q,_⟩:=re
    cases ry
    obtain⟨its,_,p⟩:=I.tupE q
    cases d<;>simp only[ka,cK,reduceCtorEq]at hz<;>subst hz
    ·cases rx;exact SeqAt.EqAt.none_tuple p hu0
    ·cases rx;exact SeqAt.EqAt.bool_tuple _ p hu0
    ·obtain⟨t,rfl⟩:=rx;exact SeqAt.EqAt.int_tuple _ _ p hu0
    ·obtain⟨t,rfl⟩:=rx;exact SeqAt.EqAt.str_tuple _ _ p hu0
   ·rw[Rep]at re
    obtain⟨a,vs,rfl,q,_⟩:=re
    cases ry
    obtain⟨its,_,p⟩:=I.lstE q
    cases d<;>simp only[ka,cK,reduceCtorEq]at hz<;>subst hz
    ·cases rx;exact SeqAt.EqAt.none_list p hu0
    ·cases rx;exact SeqAt.EqAt.bool_list _ p hu0
    ·obtain⟨t,rfl⟩:=rx;exact SeqAt.EqAt.int_list _ _ p hu0
    ·obtain⟨t,rfl⟩:=rx;exact SeqAt.EqAt.str_list _ _ p hu0
 | succ n ih=>
  intro A I d e x y u v hn hu rd re rx ry
  have hu0:A.units<cLine:=by lia
  have items:∀{ds es:List Dt} {vs ws:List V} {its its2:List Value},kM ds<=n->Reps H ds vs->Reps H es ws->Vals vs its->Vals ws its2->
    ∀j (h1:j<its.toArray.size) (h2:j<its2.toArray.size),SeqAt.EqAt A.in1 s its.toArray[j] its2.toArray[j] (mj ds es j):=by
   intro ds es vs ws its its2 hdp r1 r2 w1 w2 j h1 h2
   rw[au]at h1 h2
   have l1:=w1.length
   have l2:=w2.length
   obtain⟨u',e1,q1⟩:=w1.get (i:=j) (x:=vs[j]'(by lia)) (gE _)
   obtain⟨v',e2,q2⟩:=w2.get (i:=j) (x:=ws[j]'(by lia)) (gE _)
   obtain⟨d',f1,g1⟩:=r1.at (i:=j) (gE (by lia))
   obtain⟨e',f2,g2⟩:=r2.at (i:=j) (gE (by lia))
   rw[gE h1]at e1
   rw[gE h2]at e2
   cases e1;cases e2
   have hj:mj ds es j=jK d' e':=by unfold mj;rw[f1,f2]
   rw[hj]
   have:=u7 f1
   exact ih (A:=A.in1) I (by lia) (by show A.units+1+n<cLine;lia) g1 g2 q1 q2
  cases hf:ka d with
  |some z=>
   refine ih I ?_ (by lia) rd re rx ry
   cases d<;>simp only[ka,reduceCtorEq]at hf<;>simp[lG]
  | none =>
   cases he:ka e with
   | some y'=>
    rw[(A7 hf he).1]
    obtain⟨rfl,fy⟩:=vi he re
    cases d<;>simp only[ka,reduceCtorEq]at hf
    ·rw[Rep]at rd
     obtain⟨a,vs,rfl,q,_⟩:=rd
     cases rx
     obtain⟨its,_,p⟩:=I.tupE q
     cases e<;>simp only[ka,cK,reduceCtorEq]at he<;>subst he
     ·cases ry;exact SeqAt.EqAt.tuple_none p hu0
     ·cases ry;exact SeqAt.EqAt.tuple_bool _ p hu0
     ·obtain⟨t,rfl⟩:=ry;exact SeqAt.EqAt.tuple_int _ _ p hu0
     ·obtain⟨t,rfl⟩:=ry;exact SeqAt.EqAt.tuple_str _ _ p hu0
    ·rw[Rep]at rd
     obtain⟨a,vs,rfl,q,_⟩:=rd
     cases rx
     obtain⟨its,_,p⟩:=I.lstE q
     cases e<;>simp only[ka,cK,reduceCtorEq]at he<;>subst he
     ·cases ry;exact SeqAt.EqAt.list_none p hu0
     ·cases ry;exact SeqAt.EqAt.list_bool _ p hu0
     ·obtain⟨t,rfl⟩:=ry;exact SeqAt.EqAt.list_int _ _ p hu0
     ·obtain⟨t,rfl⟩:=ry;exact SeqAt.EqAt.list_str _ _ p hu0
   | none=>
    cases d<;>simp only[ka,reduceCtorEq]at hf<;>cases e<;>simp only[ka,reduceCtorEq]at he
    ·rename_i ds es
     have hn':kM ds<=n:=by rw[lG]at hn;lia
     have rd0:=rd
     have re0:=re
     rw[Rep]at rd
     rw[Rep]at re
     obtain⟨a,vs,rfl,q,r1⟩:=rd
     obtain⟨b,ws,rfl,q2,r2⟩:=re
     cases rx;cases ry
     by_cases hab:a=b
     ·subst hab
      rw[Rep.inj rd0 re0,qa]
      exact ig _
     ·obtain⟨its,w1,p1⟩:=I.tupE q
      obtain⟨its2,w2,p2⟩:=I.tupE q2
      have k:=SeqAt.RcAt.tuples p1 p2 hu0 (items hn' r1 r2 w1 w2)
      have e0:((List.range (min its.toArray.size its2.toArray.size)).all (mj ds es)&&its.toArray.size==its2.toArray.size)=jK (.tup ds) (.tup es):=by
       have l1:=w1.length
       have l2:=w2.length
       have l3:=r1.len
       have l4:=r2.len
       rw[jK,au,au]
       by_cases hl:ds.length=es.length
       ·rw [qj hl,<- l1,<- l2,l3,l4,hl,Nat.min_self]
        simp
       ·rw[qb hl]
        have:(its.length==its2.length)=false:=by
         rw[bX];lia
        rw[this,eP]
      rw[e0]at k
      exact .of_refs hab k
    ·rename_i ds es
     rw[Rep]at rd
     rw[Rep]at re
     obtain⟨a,vs,rfl,q,r1⟩:=rd
     obtain⟨b,ws,rfl,q2,r2⟩:=re
     cases rx;cases ry
     obtain⟨its,w1,p1⟩:=I.tupE q
     obtain⟨its2,w2,p2⟩:=I.lstE q2
     have:jK (.tup ds) (.lst es)=false:=by simp[jK]
     rw[this]
     exact SeqAt.EqAt.tuple_list p1 p2 hu0
    ·rename_i ds es
     rw[Rep]at rd
     rw[Rep]at re
     obtain⟨a,vs,rfl,q,r1⟩:=rd
     obtain⟨b,ws,rfl,q2,r2⟩:=re
     cases rx;cases ry
     obtain⟨its,w1,p1⟩:=I.lstE q
     obtain⟨its2,w2,p2⟩:=I.tupE q2
     have:jK (.lst ds) (.tup es)=false:=by simp[jK]
     rw[this]
     exact SeqAt.EqAt.list_tuple p1 p2 hu0
    ·rename_i ds es
     have hn':kM ds<=n:=by rw[lG]at hn;lia
     have rd0:=rd
     have re0:=re
     rw[Rep]at rd
     rw[Rep]at re
     obtain⟨a,vs,rfl,q,r1⟩:=rd
     obtain⟨b,ws,rfl,q2,r2⟩:=re
     cases rx;cases ry
     by_cases hab:a=b
     ·subst hab
      rw[Rep.inj rd0 re0,qa]
      exact ig _
     ·obtain⟨its,w1,p1⟩:=I.lstE q
      obtain⟨its2,w2,p2⟩:=I.lstE q2
      have l1:=w1.length
      have l2:=w2.length
      have l3:=r1.len
      have l4:=r2.len
      refine .of_refs hab ?_
      rw[jK]
      by_cases hl:ds.length=es.length
      ·rw[qj hl]
       have k:=SeqAt.RcAt.lists p1 p2 (by rw[au,au];lia) hu0 (items hn' r1 r2 w1 w2)
       rw [au,<- l1,l3] at k
       exact k
      ·rw[qb hl]
       exact SeqAt.RcAt.lists_lengths p1 p2 (by rw[au,au];simp;lia) hu0
end
section
variable{prog:Program}{w:World}{A:Around}{R:Result->Shared->Prop}{I:Addr}{fp wr:List Addr}{n:Nat}{P:Nat->Value->Prop}{St:Nat->Heap->Prop}
def Best(val:Nat->Int)(n:Nat)(m:Int):Prop:=(∃i,i<n/\m=val i)/\∀i,i<n->val i<=m
theorem Best.keep{val:Nat->Int}{j:Nat}{m:Int}(h:Best val j m)(hb:¬val j>m):Best val (j+1) m:=
 ⟨let⟨i,hi,e⟩:=h.1;⟨i,dZ hi,e⟩,fun i hi=>by
  rcases fE.mp hi with z|z
  ·exact h.2 i z
  ·rw[z];lia⟩
end
section
variable{X:Cx}
def B6(r:List V->List V->Hp->VK->Prop)(t tk:TA):TE:=fun σ H Q=>t σ H fun vs H1=>tk σ H1 fun zs H2=>r vs zs H2 Q
end
section
variable{X:Cx}{pins:List (Addr×Obj)}{σ:St}{H:Hp}{s:Shared}
theorem yw(n:Nat){A:Around}(I:Inv X pins σ H s){ds es:List Dt}{vs ws:List V}{its its2:List Value}(hdp:kM ds<=n)(hu:A.units+n<cLine)(r1:Reps H ds vs)(r2:Reps H es ws)(w1:Vals vs its)(w2:Vals ws its2):
  ∀j (h1:j<its.toArray.size) (h2:j<its2.toArray.size),SeqAt.EqAt A s its.toArray[j] its2.toArray[j] (mj ds es j):=by
 intro j h1 h2
 rw[au]at h1 h2
 have l1:=w1.length
 have l2:=w2.length
 obtain⟨u',e1,q1⟩:=w1.get (i:=j) (x:=vs[j]'(by lia)) (gE _)
 obtain⟨v',e2,q2⟩:=w2.get (i:=j) (x:=ws[j]'(by lia)) (gE _)
 obtain⟨d',f1,g1⟩:=r1.at (i:=j) (gE (by lia))
 obtain⟨e',f2,g2⟩:=r2.at (i:=j) (gE (by lia))
 rw[gE h1]at e1
 rw[gE h2]at e2
 cases e1;cases e2
 have hj:mj ds es j=jK d' e':=by unfold mj;rw[f1,f2]
 rw[hj]
 have:=u7 f1
 exact IE n I (by lia) hu g1 g2 q1 q2
theorem GO{ds es:List Dt}{vs ws:List V}{its its2:List Value}(r1:Reps H ds vs)(r2:Reps H es ws)(w1:Vals vs its)(w2:Vals ws its2):
  ((List.range (min its.toArray.size its2.toArray.size)).all (mj ds es)&&its.toArray.size==its2.toArray.size)=lF ds es:=by
 have l1:=w1.length
 have l2:=w2.length
 have l3:=r1.len
 have l4:=r2.len
 rw[au,au]
 by_cases hl:ds.length=es.length
 ·rw [qj hl,<- l1,<- l2,l3,l4,hl,Nat.min_self]
  simp
 ·rw[qb hl]
  have:(its.length==its2.length)=false:=by
   rw[bX];lia
  rw[this,eP]
def CJ(neg:Bool):R2:=fun x y H Q=>∃d e,Rep H d x/\Rep H e y/\lG d<=20/\((∃ds es,d= .lst ds/\e= .lst es)\/∃ds es,d= .tup ds/\e= .tup es)/\Q (.bl (if neg=true then !jK d e else jK d e)) H
theorem xP(hu:X.A.units+64<cLine):OpR X (compareOp .NotEq) (CJ true):=by
 intro pins s σ H x y v u Q I rx ry h
 obtain⟨d,e,rd,re,hd,hk,q⟩:=h
 have hu0:X.A.units<cLine:=by lia
 rcases hk with⟨ds,es,rfl,rfl⟩|⟨ds,es,rfl,rfl⟩
 ·have hn':kM ds<=20:=by rw[lG]at hd;lia
  rw[Rep]at rd re
  obtain⟨a,vs,rfl,q1,r1⟩:=rd
  obtain⟨b,ws,rfl,q2,r2⟩:=re
  cases rx;cases ry
  obtain⟨its,w1,p1⟩:=I.lstE q1
  obtain⟨its2,w2,p2⟩:=I.lstE q2
  have l1:=w1.length
  have l2:=w2.length
  have l3:=r1.len
  have l4:=r2.len
  by_cases hl:ds.length=es.length
  ·refine SeqAt.RcNeAt.lists (e:=mj ds es) p1 p2 (by rw[au,au];lia) hu0 (yw 20 I hn' (by show X.A.units+1+20<cLine;lia) r1 r2 w1 w2) _ _ _ _ ⟨.bl _,H,I,rfl,?_⟩
   rw [au,<- l1,l3,<- qj hl]
   rw[jK]at q
   exact q
  ·refine SeqAt.RcNeAt.lists_lengths p1 p2 (by rw[au,au];simp;lia) hu0 _ _ _ _ ⟨.bl _,H,I,rfl,?_⟩
   rw[jK,qb hl]at q
   exact q
 ·have hn':kM ds<=20:=by rw[lG]at hd;lia
  rw[Rep]at rd re
  obtain⟨a,vs,rfl,q1,r1⟩:=rd
  obtain⟨b,ws,rfl,q2,r2⟩:=re
  cases rx;cases ry
  obtain⟨its,w1,p1⟩:=I.tupE q1
  obtain⟨its2,w2,p2⟩:=I.tupE q2
  refine SeqAt.RcNeAt.tuples (e:=mj ds es) p1 p2 hu0 (yw 20 I hn' (by show X.A.units+1+20<cLine;lia) r1 r2 w1 w2) _ _ _ _ ⟨.bl _,H,I,rfl,?_⟩
  rw[GO r1 r2 w1 w2]
  rw[jK]at q
  exact q
end
section
variable{X:Cx}{o i e f value:Expr}{td ty tv tx:TE}{pos pos' apos cpos:Pos}
def xY(td ty tv:TE):TS:=fun D σ H=>tv σ H fun v H1=>td σ H1 fun x H2=>ty σ H2 fun y H3=>match x,y with
 | .ref a,.int n=>match H3 a with
  |some (.dK kvs)=>kvs.length<sizeLine/\D.nx σ (upd H3 a (.dK (jF kvs (Sum.inl n:iJ) v)))
  |_=>False
 |_,_=>False
theorem IJ{x y:V}{H3:Hp}{R:List (iJ×V)->Addr->Int->Prop}(h:match x,y with
 | .ref a,.int n=>match H3 a with
  |some (.dK kvs)=>R kvs a n
  |_=>False
 |_,_=>False):∃a n kvs,x= .ref a/\y= .int n/\H3 a=some (.dK kvs)/\R kvs a n:=by
 split at h
 ·split at h
  ·rename_i e;exact⟨_,_,_,rfl,rfl,e,h⟩
  ·exact h.elim
 ·exact h.elim
theorem DK{y:V}{a:Addr}{H3:Hp}{R:List (iJ×V)->Int->Prop}(h:match y with
 | .int n=>match H3 a with
  |some (.dK kvs)=>R kvs n
  |_=>False
 |_=>False):∃n kvs,y= .int n/\H3 a=some (.dK kvs)/\R kvs n:=by
 split at h
 ·split at h
  ·rename_i e;exact⟨_,_,rfl,e,h⟩
  ·exact h.elim
 ·exact h.elim
theorem nA(hu:X.A.units+1<cLine)(ho:PE X o td)(hi:PE X i ty)(hv:PE X value tv)(hs:swapsWith value (some (.Subscript o i pos')) pos.line X.env=pure false:=by rfl):
  PS X (.Assign [.Subscript o i pos'] value pos) (xY td ty tv):=by
 intro pins s σ H D I h
 refine wpAny_Assign_Subscript (iP (hv pins s σ H _ I h) fun r s1 ⟨v,H1,I1,rv,q1⟩=>iP (ho pins s1 σ H1 _ I1 q1) fun u s2 ⟨x,H2,I2,rx,q2⟩=>iP (hi pins s2 σ H2 _ I2 q2) fun iv s3 ⟨y,H3,I3,ry,q3⟩=>?_) hs
 obtain⟨a,n,kvs,rfl,rfl,ea,q4,q5⟩:=IJ (R:=fun kvs a n=>kvs.length<sizeLine/\D.nx σ (upd H3 a (.dK (jF kvs (Sum.inl n:iJ) v)))) q3
 obtain rfl:u=Value.ref a:=rx
 exact FC hu I3 (DPut.k (k:=Sum.inl n) ea q4) ry rv fun s4 I4=>⟨σ,_,I4,q5⟩
def xE(td ty tx:TE):TE:=fun σ H Q=>td σ H fun x H1=>match x with
 | .ref a=>(∃kvs,H1 a=some (.dK kvs))/\ty σ H1 fun y H2=>tx σ H2 fun z H3=>match y with
  | .int n=>match H3 a with
   |some (.dK kvs)=>Q ((i8 kvs (Sum.inl n:iJ)).getD z) H3
   |_=>False
  |_=>False
 |_=>False
theorem rO(hu:X.A.units+1<cLine)(ho:PE X o td)(he:PE X e ty)(hf:PE X f tx)(m:M2 X o "get" apos e f cpos:=by exact⟨rfl,rfl,rfl,rfl⟩):PE X (.Call (.Attribute o "get" apos) [e,f] [] cpos) (xE td ty tx):=by
  intro pins s σ H Q I h
  refine wpAny_Call_method m.base m.few m.line PySem.F.plainAttrs_dict c0 PySem.F.type_dict_get (iP (ho pins s σ H _ I h) fun u s1 ⟨x,H1,I1,rx,q1⟩=>?_)
  cases x<;>first
    |exact False.elim q1
    | (rename_i a
       dsimp only at q1
       obtain⟨⟨kvs0,e0⟩,q1⟩:=q1
       obtain rfl:u=Value.ref a:=rx
       obtain⟨t1,t2,_⟩:=xI I1 (.inl ⟨kvs0,.inl e0⟩)
       refine⟨t1,t2,?_⟩
       rw[m.trees]
       refine fV rfl (gw (fo (iP (he pins s1 σ H1 _ I1 q1) fun iv s2 ⟨y,H2,I2,ry,q2⟩=>
         fo (iP (hf pins s2 σ H2 _ I2 q2) fun fv s3 ⟨z,H3,I3,rz,q3⟩=>gX ?_))))
       obtain⟨n,kvs,rfl,ea,q4⟩:=DK (R:=fun kvs n=>Q ((i8 kvs (Sum.inl n:iJ)).getD z) H3) q3
       exact IG hu I3 (DGet.k (k:=Sum.inl n) ea) ry rz fun w' s4 I4 rw'=>⟨_,H3,I4,rw',q4⟩)
noncomputable def wq:R2:=fun x y H Q=>match x,y with
 | .ref l,.ref b=>match H l,H b with
  |some (.lst xs),some (.lst zs)=>xs.length+zs.length<=sizeLine/\∀p,H p=none->Q (.ref p) (upd H p (.lst (xs++zs)))
  |_,_=>False
 |_,_=>False
theorem xq:OpR X (binaryOp .Add) wq:=Dj.imp fun x y H Q h=>by
 unfold wq at h
 split at h
 ·split at h
  ·rename_i e1 e2;exact⟨_,_,_,_,rfl,rfl,e1,e2,h.1,h.2⟩
  ·exact h.elim
 ·exact h.elim
noncomputable def Iz:V->List V->Hp->VK->Prop:=fun x vs H Q=>match x,vs with
 | .ref l,[]=>match H l with
  |some (.lst _)=>Q .non (upd H l (.lst []))
  |_=>False
 |_,_=>False
def IA(r:V->List V->Hp->VK->Prop)(to:TE):TE:=fun σ H Q=>to σ H fun x H1=>(∃a xs,x= .ref a/\H1 a=some (.lst xs))/\r x [] H1 Q
def vY:V->Option Int->Option Int->Hp->VK->Prop:=fun x lo hi H Q=>match x with
 | .ref a=>match H a with
  |some (.tup xs)=>¬(HT.jc xs.length 0 lo=0/\HT.jc xs.length xs.length hi=xs.length)/\∀p,H p=none->Q (.ref p) (upd H p (.tup (mB xs lo hi)))
  |_=>False
 |_=>False
theorem ud:SlR X vY:=Ca.imp fun x l u H Q h=>by
 unfold vY at h
 split at h
 ·split at h
  ·rename_i xs e;exact⟨_,xs,rfl,SqT.of e,h.1,h.2⟩
  ·exact h.elim
 ·exact h.elim
noncomputable def tR:List V->Hp->VK->Prop:=fun vs H Q=>match vs with
 |[.bl k]=>Q (.int (if k=true then 1 else 0)) H
 |[.int i]=>Q (.int i) H
 |_=>False
theorem xV:jbw X (.type "int") tR:=Fw.imp fun vs H Q h=>by
 unfold tR at h
 split at h
 ·exact .inr ⟨_,rfl,h⟩
 ·exact .inl ⟨_,rfl,h⟩
 ·exact h.elim
end
section
variable{prog:Program}{w:World}{A:Around}{E:Value->Shared->Prop}
end
section
variable{X:Cx}{es:List Expr}{pos:Pos}
def Iy(n:Nat)(t:lr):TG:=fun v σ H Q=>match v with
 | .ref a=>match H a with
  |some (.lst xs)=>xs.length=n/\t xs σ H Q
  |_=>False
 |_=>False
end
def IX(h B:Heap)(x:Addr)(cl:Value)(dd:Option Addr)(fl:Value):Prop:=
 ∃ox ws T oT ts,h.get? x=some ox/\ox.cls=cl/\ox.dict=dd/\ox.data= .fields ws/\ws[1]? =some (.ref T)/\B.get? T=none/\T≠x/\h.get? T=some oT/\oT.data= .fields ts/\ts[3]? =some fl/\(dd≠none->ws[2]? =some .none)
structure FlyD(B:Heap)(l:List Env)(x:Addr)(cl:Value)(dd:Option Addr)(fl:Value)(h:Heap):Prop where
 stays:B.StaysIn h
 new:B.get? x=none
 funs:h.FunFrames B l
 tr:IX h B x cl dd fl
theorem FlyD.there{B:Heap}{l:List Env}{x:Addr}{cl:Value}{dd:Option Addr}{fl:Value}{h:Heap}(f:FlyD B l x cl dd fl h):∃ox ws,h.get? x=some ox/\ox.cls=cl/\ox.dict=dd/\ox.data= .fields ws:=by
 obtain⟨ox,ws,_,_,_,h1,h2,h3,h4,_⟩:=f.tr
 exact⟨ox,ws,h1,h2,h3,h4⟩
section
variable{M:Model}{A:Around}{E:Value->Shared->Prop}{s:Shared}{B:Heap}{env:Env}{l:List Env}{L x:Addr}{cl:Value}{dd:Option Addr}{Q:Unit->Shared->Prop}
end
structure Df(X:Cx):Prop where
 stk:X.stack=X.env::X.outer
 fr:X.env.frame=some X.env.locals
 ex:X.ex=[]
 fn:∀x,X.fn x=true
structure Cov(X:Cx)(B:Heap)(H:Hp)(h:Heap):Prop where
 tr:∀b o,H b=some o->∃q,h.get? b=some q/\B.get? b=some q
 old:∀b o,X.s₀.heap.get? b=some o->b∉k9 X.stack->∃q,h.get? b=some q/\B.get? b=some q
 pin:∀p∈X.pn,B.get? p.1=some p.2
 cel:∀x c,X.env.cells.lookup x=some c->∃q,h.get? c=some q/\B.get? c=some q
section
variable{X:Cx}{σ:St}{H:Hp}{s:Shared}{B h':Heap}
end
inductive Md(B:Heap)(l:List Env)(L x:Addr)(cl:Value)(dd:Option Addr)(h:Heap):Prop where
 |new {ox:Obj} {ws:Array Value}:h.get? x=some ox->ox.cls=cl->ox.dict=dd->ox.data= .fields ws->ws[1]? =some .none->(dd≠none->ws[2]? =some .none)->B.StaysIn h->B.get? x=none->h.FunFrames B l->Md B l L x cl dd h
 |fly:FlyD B l x cl dd .none h->Md B l L x cl dd h
 |held:FlyD B l x cl dd (rawInt L) h->Md B l L x cl dd h
theorem Md.stays{B:Heap}{l:List Env}{L x:Addr}{cl:Value}{dd:Option Addr}{h:Heap}(m:Md B l L x cl dd h):B.StaysIn h:=by
 cases m with
 |new _ _ _ _ _ _ s _ _=>exact s
 |fly f=>exact f.stays
 |held f=>exact f.stays
def XT(X:Cx)(EX:St->XK):Value->Shared->Prop:=fun e s'=>∃(x:Addr) (cl:Value) (dd:Option Addr) (σ:St) (H:Hp) (B:Heap),e= .ref x/\Inv X [] σ H s'/\H x=none/\X.s₀.heap.objs.size<=x/\Cov X B H s'.heap/\EX σ cl dd H/\Md B X.stack X.env.locals x cl dd s'.heap
noncomputable def Cx.tr(X:Cx)(pins:List (Addr×Obj))(EX:St->XK):Cx:={X with pn:=X.pn++pins,xe:=XT {X with pn:=X.pn++pins} EX}
theorem Cx.Ok.pn{X:Cx}(ok:X.Ok)(pn:List (Addr×Obj))(E:Value->Shared->Prop):({X with pn:=pn,xe:=E}:Cx).Ok:=
 ⟨ok.mod,ok.kind,ok.glob,ok.blt,ok.above,ok.inj,ok.has,ok.cab,ok.hd,ok.frames,ok.stk,ok.exf,ok.bs,ok.bsz,ok.noex,ok.exfs,ok.funs,ok.frf⟩
theorem Inv.tr{X:Cx}{pins:List (Addr×Obj)}{σ:St}{H:Hp}{s:Shared}(I:Inv X pins σ H s)(EX:St->XK):Inv (X.tr pins EX) [] σ H s:=
 ⟨I.ok.pn _ _,I.os,I.bare,I.base,I.loc,I.cell,I.free,I.freeC,fun p hp=>I.pin p (by
  have:p∈(X.pn++pins)++[]:=hp
  simpa using this),I.hok,I.len⟩
theorem Df.tr{X:Cx}(d:Df X)(pins:List (Addr×Obj))(EX:St->XK):Df (X.tr pins EX):=⟨d.stk,d.fr,d.ex,d.fn⟩
section
variable{X:Cx}{CX:lu}{k:Nat}{f:Addr}{fd:FuncData}{ps:List Str}{sp:Sp}{EX:St->XK}{x:Str}{p pos:Pos}{e:Expr}{es:List Expr}{t:TA}{ds:List Value}{dvs:List V}
end
section
variable{P:Program}{w:World}{K:PySem.W.Frag}{mg:Str->Option Value}{base:Heap}
end
section
variable{prog:Program}{w:World}{A:Around}{E:Value->Shared->Prop}{h:Heap}{g:Array GenState}{d:Drawn}{t:Nat}{os:OsState}
variable{nm q:Str}{C N:Addr}{bs bm bmB:List Value}{hdct:Bool}{sn:List Str}{sub:List Value}{ab:Bool}{col:Option Bool}{dd:Option Addr}{k0 k1 k2 k3 k5:Option Value}{B newId initId:String}
end
end L2
namespace L2
open PySem PySem.Spec PyProof.Rows Builtin Builtin.ObjectAttr
section
variable{prog:Program}{w:World}{A:Around}{E:Value->Shared->Prop}{h:Heap}{g:Array GenState}{d:Drawn}{t:Nat}{os:OsState}{C:Addr}{bmB:List Value}{B newId initId:String}
end
noncomputable def jua:Value->Bool
 | .ref _=>true
 |_=>false
theorem jua.ex{v:Value}(h:jua v=true):∃a,v= .ref a:=by
 cases v<;>first|exact⟨_,rfl⟩|cases h
section
variable{prog:Program}{w:World}{A:Around}{E:Value->Shared->Prop}{s:Shared}{K:PySem.W.Frag}{x C t0:Addr}{dz:Option Addr}{name:Str}{v:Value}{Q:Unit->Shared->Prop}
end
section
variable{P:Program}{w:World}{H:Hp}{h:Heap}{a C:Addr}{dd:Option Addr}{fs:List (Str×V)}
end
section
variable{X:Cx}{pins:List (Addr×Obj)}{σ:St}{H:Hp}{s:Shared}{h':Heap}{x dx:Addr}{φ:Heap->Prop}{o1 o2:HO}{t':Nat}
end
section
variable{X:Cx}{o value e:Expr}{es:List Expr}{f x:Str}{p pos pos' apos:Pos}{ta tv:TE}{t:TA}{C T:Addr}{bmB:List Value}{B newId initId:String}{fI:Addr}
end
section
variable{X:Cx}{EX:St->XK}{k:Nat}{fI C:Addr}{fd:FuncData}{ps:List Str}{sp:Sp}{x:Str}{p cpos pos:Pos}{e:Expr}{es:List Expr}{t:TA}{bmB:List Value}{B newId initId:String}
end
section
variable{X:Cx}{pins:List (Addr×Obj)}{σ:St}{H:Hp}{s:Shared}{x:Addr}{o:HO}
end
section
variable{X:Cx}{x n:Str}{np hpos pos:Pos}{body suite:List Stmt}{b0:Stmt}{C:Addr}{mt:Value->Prop}{i:Nat}{tb:(St->XK)->TS}{th:TS}
end
section
variable{X:Cx}{C dx a:Addr}{fs:List (Str×V)}{H:Hp}{s:Shared}
end
end L2
namespace L2
open PySem PySem.Spec PyProof.Rows Builtin Builtin.ObjectAttr
structure XG(K:PySem.W.Frag)(C:Addr):Prop where
 ga:PySem.W.findIn K (.ref C) "__getattribute__"=some (some (.builtin "BaseException.__getattribute__"))
 gt:PySem.W.findIn K (.ref C) "__getattr__"=some none
 sub:PySem.W.mroIn K C (.type "BaseException")=some true
section
variable{prog:Program}{w:World}{A:Around}{E:Value->Shared->Prop}{s:Shared}{K:PySem.W.Frag}{x C:Addr}{ox:Obj}{od:Option Obj}{name:Str}{v:Value}
end
structure XY(K:PySem.W.Frag)(C:Addr):Prop where
 g:XG K C
 hd:PySem.W.hasDictIn K C=true
 ha:PySem.W.findIn K (.ref C) "__class__"=some (some (.builtin "object.__class__"))
 hn:PySem.W.specialIn K (.builtin "object.__class__") "__get__"=some (some (.builtin "getset_descriptor.__get__"))
 ht:PySem.W.takesIn K (.builtin "object.__class__")=some true
 hm:PySem.W.mroIn K C (.type "object")=some true
theorem XY.cls{K:PySem.W.Frag}{C:Addr}(y:XY K C):∃c d cd sl,K.lookup C=some ⟨c,d,.cls cd,sl⟩:=by
 obtain⟨cd,hc,_⟩:=PySem.W.any_some y.hd
 unfold PySem.W.clsIn at hc
 split at hc
 ·rename_i ho
  exact⟨_,_,_,_,ho⟩
 ·cases hc
section
variable{X:Cx}{C dx a:Addr}{fs:List (Str×V)}{H:Hp}{s:Shared}
end
section
variable{X:Cx}
end
structure RoomH(k:Nat)(A:Around):Prop where
 dp:A.depth+3*k+5<recursionLimit
 un:A.units+16*k+200<cLine
theorem Room.h{j k:Nat}{A:Around}(r:Room k A)(h:j<=k):RoomH j A:=⟨(r.mono h).dp,(r.mono h).un⟩
theorem Room.hm{j k:Nat}{A:Around}{o:Option Value}(r:Room k A)(h:j<=k):RoomH j (A.mark o):=⟨(r.mono h).dp,(r.mono h).un⟩
theorem RoomH.mono{j k:Nat}{A:Around}(r:RoomH k A)(h:j<=k):RoomH j A:=⟨by have:=r.dp;lia,by have:=r.un;lia⟩
section
variable{P:Program}{w:World}{K:PySem.W.Frag}{mg:Str->Option Value}{base:Heap}
end
section
variable{X:Cx}{k:Nat}{f:Addr}{fd:FuncData}{ps:List Str}{sp:Sp}{x:Str}{p pos:Pos}{e:Expr}{es:List Expr}{t:TA}
end
section
variable{X:Cx}{C:Addr}
end
section
variable{X:Cx}{x n:Str}{np hpos pos:Pos}{body suite:List Stmt}{b0:Stmt}{C:Addr}{mt:Value->Prop}{tb:(St->XK)->TS}{th:TS}
end
section
variable{prog:Program}{w:World}{A:Around}{E:Value->Shared->Prop}{s:Shared}{C a:Addr}{bmB:List Value}{newId:String}
end
section
variable{prog:Program}{w:World}{A:Around}{E:Value->Shared->Prop}{h:Heap}{g:Array GenState}{d:Drawn}{t:Nat}{os:OsState}
variable{C:Addr}{bmB:List Value}{B newId initId:String}
end
section
variable{X:Cx}{x y:Str}{np hpos pos p cpos rpos cp:Pos}{kk:Nat}{body:List Stmt}{C D':Addr}{mt:Value->Prop}{tb:(St->XK)->TS}{EX:St->XK}{e:Expr}{es:List Expr}{t:TA}{bmB:List Value}{B newId initId:String}
end
open PySem.Builtin.ObjectAttr
section
variable{X:Cx}{C a:Addr}{H:Hp}{s:Shared}
end
def BI(i j:Int):Prop:=0<j/\j<1000000000000000000
section
variable{X:Cx}
theorem Ee:OpR X (binaryOp .FloorDiv) (fIC BI fun i j=>.int (i/j)):=by
 intro pins s σ H x y v u Q I rx ry h
 unfold fIC at h
 split at h
 ·rename_i i j
  obtain⟨⟨h1,h2⟩,q⟩:=h
  obtain⟨t,rfl⟩:=rx
  obtain⟨t',rfl⟩:=ry
  refine floordiv_int (by lia) ?_ (.inl (PyProof.noPylong_of_log2 ?_))
  ·rw[iE i (by lia)]
   exact⟨.int (i/j),H,I.tok _,⟨_,rfl⟩,q⟩
  ·by_cases h0:j.natAbs=0
   ·rw[h0];decide
   ·exact bj ((Nat.log2_lt h0).mpr (show j.natAbs<2^60 by lia)) (by decide)
 ·exact h.elim
end
theorem i7{a b:TS}{D:Ends}{σ:St}{H:Hp}(h:∀R,R=b->oC a R D σ H):oC a b D σ H:=h b rfl
theorem AV{ι:Type}{wi:TI}{g:TG}{tb:TS}{D:Ends}{σ:St}{H:Hp}(J:ι->It)(H1:ι->Hp)(ok:ι->Prop)(h1:∀R:It->Hp->Prop,(∀i,ok i->R (J i) (H1 i))->wi σ H R)
  (h2:∀i0,ok i0->∃W:Nat->Nat->St->Hp->Prop,(∃m,W 0 m σ (H1 i0))/\∀i m σ H,W i m σ H->((J i0).stop i H/\D.nx σ H)\/((J i0).go i H/\∃N:St->Hp->Prop,(∀σ' H',N σ' H'->∃m',m'<m/\W (i+1) m' σ' H')/\∀x H',(J i0).yld i H x H'->g x σ H' fun σ2 H2=>tb {D with nx:=N,ct:=N,bk:=D.nx} σ2 H2)):
  tE wi g tb D σ H:=h1 _ h2
section
variable{X:Cx}
end
end L2
namespace So
open PySem PyProof.Rows
noncomputable def kv(R:Keyed->Int)(xs:Array Keyed)(i:Nat):Int:=(xs[i]?.map R).getD 0
theorem mG{R:Keyed->Int}{xs ys:Array Keyed}{i j:Nat}(h:xs[i]? =ys[j]?):kv R xs i=kv R ys j:=by unfold kv;rw[h]
theorem kv_at{R:Keyed->Int}{xs:Array Keyed}{i:Nat}{x:Keyed}(h:xs[i]? =some x):kv R xs i=R x:=by unfold kv;rw[h];rfl
def Up(R:Keyed->Int)(xs:Array Keyed)(a b:Nat):Prop:=∀i j,a<=i->i<=j->j<b->kv R xs i<=kv R xs j
def Dn(R:Keyed->Int)(xs:Array Keyed)(a b:Nat):Prop:=∀i j,a<=i->i<=j->j<b->kv R xs j<=kv R xs i
def Fore(lo:Nat)(xs ys:Array Keyed):Prop:=∀i,i<lo->ys[i]? =xs[i]?
theorem Fore.rfl'{lo:Nat}{xs:Array Keyed}:Fore lo xs xs:=fun _ _=>rfl
theorem Fore.tr{lo:Nat}{xs ys zs:Array Keyed}(a:Fore lo xs ys)(b:Fore lo ys zs):Fore lo xs zs:=fun i h=>(b i h).trans (a i h)
theorem Up.one{R:Keyed->Int}{xs:Array Keyed}{a b:Nat}(h:b<=a+1):Up R xs a b:=fun i j h1 h2 h3=>by
 have e:i=j:=by lia
 rw[e];exact bI _
theorem Up.grow{R:Keyed->Int}{xs:Array Keyed}{a b:Nat}(h:Up R xs a b)(h2:a<b)(hl:kv R xs (b-1)<=kv R xs b):Up R xs a (b+1):=fun i j h3 h4 h5=>by
 by_cases hj:j<b
 ·exact h i j h3 h4 hj
 ·have e:j=b:=by lia
  rw[e]at h4 ⊢
  by_cases hi:i=b
  ·rw[hi];exact bI _
  ·exact cA (h i (b-1) h3 (by lia) (by lia)) hl
theorem Dn.grow{R:Keyed->Int}{xs:Array Keyed}{a b:Nat}(h:Dn R xs a b)(h2:a<b)(hl:kv R xs b<=kv R xs (b-1)):Dn R xs a (b+1):=fun i j h3 h4 h5=>by
 by_cases hj:j<b
 ·exact h i j h3 h4 hj
 ·have e:j=b:=by lia
  rw[e]at h4 ⊢
  by_cases hi:i=b
  ·rw[hi];exact bI _
  ·exact cA hl (h i (b-1) h3 (by lia) (by lia))
theorem Dn.like{R:Keyed->Int}{xs ys:Array Keyed}{a b:Nat}(h:Dn R xs a b)(e:∀k,kv R ys k=kv R xs k):Dn R ys a b:=fun i j h1 h2 h3=>by rw[e,e];exact h i j h1 h2 h3
theorem uR{R:Keyed->Int}{xs:Array Keyed}{i j:Nat}(hj:j<=xs.size)(k:Nat):
  kv R (mirror xs i j ((j-i)/2)) k=if i<=k/\k<j then kv R xs (i+j-1-k)else kv R xs k:=by
 have e:=getElem?_mirror_all (i:=i) hj k
 by_cases c:i<=k/\k<j
 ·rw[aA c]at e ⊢;exact mG e
 ·rw[ay c]at e ⊢;exact mG e
theorem vQ{R:Keyed->Int}{xs:Array Keyed}{i j:Nat}(hj:j<=xs.size)(q:∀k,i<=k->k<j->kv R xs k=kv R xs (j-1))(k:Nat):
  kv R (mirror xs i j ((j-i)/2)) k=kv R xs k:=by
 rw[uR hj]
 split
 ·rename_i c;rw[q _ (by lia) (by lia),q k c.1 c.2]
 ·rfl
theorem si{lo:Nat}{xs:Array Keyed}{i j:Nat}(hj:j<=xs.size)(hi:lo<=i):Fore lo xs (mirror xs i j ((j-i)/2)):=fun k hk=>by
 rw[getElem?_mirror_all hj,ay (by lia)]
theorem yB{R:Keyed->Int}{xs:Array Keyed}{src d:Nat}(hs:src<xs.size)(hd:d<=src)(k:Nat):
  kv R (bubble xs src d) k=if k=src-d then kv R xs src else if src-d<k/\k<=src then kv R xs (k-1)else kv R xs k:=by
 have e:=getElem?_bubble hs d hd k
 by_cases c:k=src-d
 ·rw[aA c]at e ⊢;exact mG e
 ·rw[ay c]at e ⊢
  by_cases c2:src-d<k/\k<=src
  ·rw[aA c2]at e ⊢;exact mG e
  ·rw[ay c2]at e ⊢;exact mG e
theorem FI{lo:Nat}{xs:Array Keyed}{src d:Nat}(hs:src<xs.size)(hd:lo+d<=src):Fore lo xs (bubble xs src d):=fun k hk=>by
 rw[getElem?_bubble hs d (by lia),ay (by lia),ay (by lia)]
structure Bs(κ:SortKind)(a₀:Array Keyed)(pd:Array (Nat×Nat×Nat))(st:SortSt):Prop where
 perm:(arrOf st).Perm a₀
 kind:kindOf st=κ
 ok:failedOf st=none
 pend:pendingOf st=pd
section
variable{prog:Program}{w:World}{A:Around}{E:Value->Shared->Prop}{s:Shared}{R:Keyed->Int}{κ:SortKind}{a₀:Array Keyed}{pd:Array (Nat×Nat×Nat)}
theorem Bs.size{st:SortSt}(b:Bs κ a₀ pd st):(arrOf st).size=a₀.size:=b.perm.size_eq
theorem Bs.put{st:SortSt}(b:Bs κ a₀ pd st){xs:Array Keyed}(p:xs.Perm (arrOf st)):Bs κ a₀ pd (setArr st xs):=⟨p.trans b.perm,b.kind,b.ok,b.pend⟩
theorem Bs.get{st:SortSt}(b:Bs κ a₀ pd st){i:Nat}(hi:i<a₀.size):∃x,(arrOf st)[i]? =some x/\x∈a₀.toList:=by
 have h1:i<(arrOf st).size:=by rw[b.size];exact hi
 exact⟨(arrOf st)[i],cH _ i h1,(eA.mp b.perm).mem_iff.mp (by simp)⟩
def Cm(prog:Program)(w:World)(A:Around)(s:Shared)(R:Keyed->Int)(κ:SortKind)(a₀:Array Keyed):Prop:=
 ∀x y,x∈a₀.toList->y∈a₀.toList->∀(Q:Bool->Shared->Prop) (E:Value->Shared->Prop),Q (decide (R x<R y)) s->wpAny (model prog w) A (keyLt' κ x.1 y.1) Q E s
theorem w_lt(C:Cm prog w A s R κ a₀){st:SortSt}{x y:Keyed}(hk:kindOf st=κ)(hx:x∈a₀.toList)(hy:y∈a₀.toList){Q:Option Bool->SortSt->Prop}(h:Q (some (decide (R x<R y))) st):
  wpS (model prog w) A E s (lt' x y) Q st:=by
 rw[lt'_eq]
 refine aG (fj ?_)
 rw[hk]
 refine aG (gn (gC (C x y hx hy _ _ ⟨rfl,?_⟩)))
 exact aO h
theorem j6{st:SortSt}{xs:Array Keyed}{i:Nat}{x:Keyed}(e:xs[i]? =some x){Q:Keyed->SortSt->Prop}(h:Q x st):wpS (model prog w) A E s (elem' xs i) Q st:=by
 rw[elem'_eq,e];exact aO h
theorem pV(C:Cm prog w A s R κ a₀){st:SortSt}(b:Bs κ a₀ pd st){i j:Nat}(hi:i<a₀.size)(hj:j<a₀.size){Q:Option Bool->SortSt->Prop}
  (h:Q (some (decide (kv R (arrOf st) i<kv R (arrOf st) j))) st):wpS (model prog w) A E s (ltAt' i j) Q st:=by
 obtain⟨x,e1,m1⟩:=b.get hi
 obtain⟨y,e2,m2⟩:=b.get hj
 rw[ltAt'_eq]
 refine aG (fj (aG (j6 e1 (aG (j6 e2 (w_lt C b.kind m1 m2 ?_))))))
 rw[kv_at e1,kv_at e2]at h
 exact h
abbrev wA:=Option (Option Nat)×Nat
abbrev wD:=Option (Option Nat)×Nat×Nat
noncomputable def qm(lo a nrem:Nat):StateT SortSt Sem wA:=
 forIn [a:nrem] ((none,a):wA) fun _ c=>do
  let z <- ltAt' (lo + c.snd) (lo + c.snd - 1)
  match z with
  |some less=>if less=true then pure (.done (none,c.snd))else pure (.yield (none,c.snd+1))
  |_=>pure (.done (some none,c.snd))
noncomputable def pS (lo n nrem:Nat):StateT SortSt Sem (Option Nat):=do
 reverseSlice' lo (lo+n)
 let c <- qm lo n nrem
 match c.fst with
 |some r=>pure r
 |none=>pure (some c.snd)
noncomputable def sO(lo n nrem:Nat):StateT SortSt Sem wD:=
 forIn [n:nrem] ((none,n,0):wD) fun _ c=>do
  let z <- ltAt' (lo + c.snd.fst) (lo + c.snd.fst - 1)
  match z with
  | some less=>
   if less=true then
    if c.snd.snd > 0 then do
     reverseSlice' (lo+c.snd.fst-(c.snd.snd+1)) (lo+c.snd.fst)
     pure (.yield (none,c.snd.fst+1,0))
    else pure (.yield (none,c.snd.fst+1,0))
   else do
    let y <- ltAt' (lo + c.snd.fst - 1) (lo + c.snd.fst)
    match y with
    |some more=>if more=true then pure (.done (none,c.snd.fst,c.snd.snd))else pure (.yield (none,c.snd.fst+1,c.snd.snd+1))
    |_=>pure (.done (some none,c.snd.fst,c.snd.snd))
  |_=>pure (.done (some none,c.snd.fst,c.snd.snd))
noncomputable def pM (lo n nrem:Nat):StateT SortSt Sem (Option Nat):=do
 liftM (rule "list.sort.descending-run")
 let c <- sO lo (n + 1) nrem
 match c.fst with
 |some r=>pure r
 | none=>
  if c.snd.snd > 0 then do
   reverseSlice' (lo+c.snd.fst-(c.snd.snd+1)) (lo+c.snd.fst)
   pS lo c.snd.fst nrem
  else pS lo c.snd.fst nrem
theorem Eu (lo nrem:Nat):countRun' lo nrem = (do
    let c <- qm lo 1 nrem
    match c.fst with
    |some r=>pure r
    | none =>
      if(c.snd==nrem)=true then pure (some c.snd)
      else if c.snd > 1 then do
        let z <- ltAt' lo (lo + c.snd - 1)
        match z with
        | some rose=>if rose = true then pure (some c.snd) else do
            reverseSlice' lo (lo+c.snd)
            pM lo c.snd nrem
        |_=>pure none
      else pM lo c.snd nrem):=by
  rw[countRun'_eq]
  unfold pM pS sO qm
  dsimp only
  congr 1
  funext c
  obtain⟨r,n⟩:=c
  cases r with
  |some r=>rfl
  | none =>
    dsimp only
    split
    · rfl
    · split
      · congr 1
        funext z
        cases z with
        |none=>rfl
        | some rose=>
          dsimp only
          split
          · rfl
          · congr 1
            funext _r
            (congr 1;funext _u;congr 1;congr 1;funext c2;obtain⟨r2,n2,q2⟩:=c2;cases r2 with
            |some r2=>rfl
            | none=>
              dsimp only
              split
              · congr 1;funext _t;congr 1;funext _v;congr 1;funext c3;obtain⟨r3,n3⟩:=c3;cases r3<;>rfl
              · congr 1;funext _v;congr 1;funext c3;obtain⟨r3,n3⟩:=c3;cases r3<;>rfl)
      · (congr 1;funext _u;congr 1;congr 1;funext c2;obtain⟨r2,n2,q2⟩:=c2;cases r2 with
            |some r2=>rfl
            | none=>
              dsimp only
              split
              · congr 1;funext _t;congr 1;funext _v;congr 1;funext c3;obtain⟨r3,n3⟩:=c3;cases r3<;>rfl
              · congr 1;funext _v;congr 1;funext c3;obtain⟨r3,n3⟩:=c3;cases r3<;>rfl)
theorem rD{st:SortSt}{i j:Nat}{Q:Unit->SortSt->Prop}(h:Q () (setArr st (mirror (arrOf st) i j ((j-i)/2)))):
  wpS (model prog w) A E s (reverseSlice' i j) Q st:=by
 rw[reverseSlice'_eq];exact eU h
theorem yi(C:Cm prog w A s R κ a₀){st:SortSt}{lo a nrem:Nat}{Q:wA->SortSt->Prop}(hn:lo+nrem<=a₀.size)(ha:1<=a)(han:a<=nrem)(b:Bs κ a₀ pd st)(u:Up R (arrOf st) lo (lo+a))
  (h:∀n,a<=n->n<=nrem->Up R (arrOf st) lo (lo+n)->(n=nrem\/kv R (arrOf st) (lo+n)<kv R (arrOf st) (lo+n-1))->Q (none,n) st):
  wpS (model prog w) A E s (qm lo a nrem) Q st:=by
 unfold qm
 refine bZ (I:=fun x c st'=>st'=st/\c=(none,x)/\Up R (arrOf st) lo (lo+x)) ?step ?fin ⟨rfl,rfl,u⟩
 case fin=>
  rintro c st' ⟨rfl,rfl,u'⟩
  rw[show max a nrem=nrem by lia]at u' ⊢
  exact h nrem han (ao _) u' (.inl rfl)
 case step=>
  rintro x c st' hax hxn ⟨rfl,rfl,u'⟩
  dsimp only
  refine aG (pV C b (by lia) (by lia) ?_)
  by_cases c:kv R (arrOf st') (lo+x)<kv R (arrOf st') (lo+x-1)
  ·simp only[c,df,if_true]
   exact aO (h x hax (by lia) u' (.inr c))
  ·simp only[c,fN,ba,if_false]
   exact aO ⟨rfl,rfl,u'.grow (by lia) (by lia)⟩
theorem Ac(C:Cm prog w A s R κ a₀){st:SortSt}{lo n nrem:Nat}{Q:Option Nat->SortSt->Prop}(hn:lo+nrem<=a₀.size)(h1:1<=n)(hnn:n<=nrem)(b:Bs κ a₀ pd st)(d:Dn R (arrOf st) lo (lo+n))
  (h:∀m st',Bs κ a₀ pd st'->Fore lo (arrOf st) (arrOf st')->1<=m->m<=nrem->Up R (arrOf st') lo (lo+m)->Q (some m) st'):
  wpS (model prog w) A E s (pS lo n nrem) Q st:=by
 unfold pS
 have hsz:lo+n<=(arrOf st).size:=by rw[b.size];lia
 refine aG (rD ?_)
 have b':=b.put (hX (arrOf st) lo (lo+n) ((lo+n-lo)/2))
 refine aG (yi C hn h1 hnn b' ?_ fun m hm1 hm2 u _=>aO (h m _ b' (si hsz (ao _)) (by lia) hm2 u))
 intro i j h3 h4 h5
 show kv R (mirror (arrOf st) lo (lo+n) _) i<=kv R (mirror (arrOf st) lo (lo+n) _) j
 rw[uR hsz,uR hsz,aA (by lia),aA (by lia)]
 exact d _ _ (by lia) (by lia) (by lia)
theorem BU(C:Cm prog w A s R κ a₀){st:SortSt}{lo n nrem:Nat}{Q:wD->SortSt->Prop}(hn:lo+nrem<=a₀.size)(h1:1<=n)(hnn:n<=nrem)(b:Bs κ a₀ pd st)(d:Dn R (arrOf st) lo (lo+n))
  (h:∀m q st',Bs κ a₀ pd st'->Fore lo (arrOf st) (arrOf st')->n<=m->m<=nrem->Dn R (arrOf st') lo (lo+m)->q+1<=m->(∀i,lo+m-(q+1)<=i->i<lo+m->kv R (arrOf st') i=kv R (arrOf st') (lo+m-1))->Q (none,m,q) st'):
  wpS (model prog w) A E s (sO lo n nrem) Q st:=by
 unfold sO
 refine bZ (I:=fun x c st'=>∃q,c=(none,x,q)/\Bs κ a₀ pd st'/\Fore lo (arrOf st) (arrOf st')/\Dn R (arrOf st') lo (lo+x)/\q+1<=x/\
   (∀i,lo+x-(q+1)<=i->i<lo+x->kv R (arrOf st') i=kv R (arrOf st') (lo+x-1))) ?step ?fin ⟨0,rfl,b,Fore.rfl',d,by lia,fun i h1 h2=>by congr 1;lia⟩
 case fin=>
  rintro c st' ⟨q,rfl,b',f,d',hq,he⟩
  rw[show max n nrem=nrem by lia]at d' hq he ⊢
  exact h nrem q st' b' f hnn (ao _) d' hq he
 case step=>
  rintro x c st' hax hxn ⟨q,rfl,b',f,d',hq,he⟩
  dsimp only
  have hsz:lo+x<=(arrOf st').size:=by rw[b'.size];lia
  refine aG (pV C b' (by lia) (by lia) ?_)
  by_cases c:kv R (arrOf st') (lo+x)<kv R (arrOf st') (lo+x-1)
  ·simp only[c,df,if_true]
   have g:=d'.grow (by lia) (cf c)
   by_cases hq0:q>0
   ·rw[aA hq0]
    exact aG (rD (aO ⟨0,rfl,b'.put (hX _ _ _ _),f.tr (si hsz (by lia)),g.like (vQ hsz he),by lia,fun i h1 h2=>by congr 1;lia⟩))
   ·rw[ay hq0]
    exact aO ⟨0,rfl,b',f,g,by lia,fun i h1 h2=>by congr 1;lia⟩
  ·simp only[c,fN,ba,if_false]
   refine aG (pV C b' (by lia) (by lia) ?_)
   by_cases c2:kv R (arrOf st') (lo+x-1)<kv R (arrOf st') (lo+x)
   ·simp only[c2,df,if_true]
    exact aO (h x q st' b' f hax (by lia) d' hq he)
   ·simp only[c2,fN,ba,if_false]
    have e2:kv R (arrOf st') (lo+x)=kv R (arrOf st') (lo+x-1):=by lia
    refine aO ⟨q+1,rfl,b',f,d'.grow (by lia) (by lia),by lia,fun i h1 h2=>?_⟩
    rw[show lo+(x+1)-1=lo+x by lia]
    by_cases hix:i=lo+x
    ·rw[hix]
    ·rw[e2];exact he i (by lia) (by lia)
theorem zj(C:Cm prog w A s R κ a₀){st:SortSt}{lo n nrem:Nat}{Q:Option Nat->SortSt->Prop}(hn:lo+nrem<=a₀.size)(hnn:n+1<=nrem)(b:Bs κ a₀ pd st)(d:Dn R (arrOf st) lo (lo+(n+1)))
  (h:∀m st',Bs κ a₀ pd st'->Fore lo (arrOf st) (arrOf st')->1<=m->m<=nrem->Up R (arrOf st') lo (lo+m)->Q (some m) st'):
  wpS (model prog w) A E s (pM lo n nrem) Q st:=by
 unfold pM
 refine aG (gn (cY ⟨rfl,?_⟩))
 refine aG (BU C hn (by lia) hnn b d fun m q st' b' f hm1 hm2 d' hq he=>?_)
 dsimp only
 have hsz:lo+m<=(arrOf st').size:=by rw[b'.size];lia
 by_cases hq0:q>0
 ·rw[aA hq0]
  exact aG (rD (Ac C hn (by lia) hm2 (b'.put (hX _ _ _ _)) (d'.like (vQ hsz he)) fun m2 st2 a1 a2=>h m2 st2 a1 ((f.tr (si hsz (by lia))).tr a2)))
 ·rw[ay hq0]
  exact Ac C hn (by lia) hm2 b' d' fun m2 st2 a1 a2=>h m2 st2 a1 (f.tr a2)
theorem En(C:Cm prog w A s R κ a₀){st:SortSt}{lo nrem:Nat}{Q:Option Nat->SortSt->Prop}(hn:lo+nrem<=a₀.size)(h1:1<=nrem)(b:Bs κ a₀ pd st)
  (h:∀m st',Bs κ a₀ pd st'->Fore lo (arrOf st) (arrOf st')->1<=m->m<=nrem->Up R (arrOf st') lo (lo+m)->Q (some m) st'):
  wpS (model prog w) A E s (countRun' lo nrem) Q st:=by
 rw[Eu]
 refine aG (yi C hn (ao 1) h1 b (Up.one (ao _)) fun n hn1 hn2 u hor=>?_)
 dsimp only
 by_cases c:n=nrem
 ·rw[aA (by simpa using c)]
  exact aO (h n st b Fore.rfl' hn1 hn2 u)
 ·rw [ay (by simpa using c)]
  have hlt:=hor.resolve_left c
  by_cases hgt:n>1
  ·rw[aA hgt]
   refine aG (pV C b (by lia) (by lia) ?_)
   by_cases c2:kv R (arrOf st) lo<kv R (arrOf st) (lo+n-1)
   ·simp only[c2,df,if_true]
    exact aO (h n st b Fore.rfl' hn1 hn2 u)
   ·simp only[c2,fN,ba,if_false]
    have hsz:lo+n<=(arrOf st).size:=by rw[b.size];lia
    have hall:∀k,lo<=k->k<lo+n->kv R (arrOf st) k=kv R (arrOf st) (lo+n-1):=by
     intro k h2 h3
     have a1:=u lo k (ao _) h2 h3
     have a2:=u k (lo+n-1) h2 (by lia) (by lia)
     lia
    have d:Dn R (arrOf st) lo (lo+n):=fun i j h3 h4 h5=>by rw[hall i h3 (by lia),hall j (by lia) h5];exact bI _
    have g:Dn R (arrOf st) lo (lo+(n+1)):=d.grow (by lia) (cf hlt)
    exact aG (rD (zj C hn (by lia) (b.put (hX _ _ _ _)) (g.like (vQ hsz hall)) fun m st' a1 a2=>h m st' a1 ((si hsz (ao _)).tr a2)))
  ·rw[ay hgt]
   have e:n=1:=by lia
   subst e
   have d:Dn R (arrOf st) lo (lo+1):=fun i j h3 h4 h5=>by
    have e:i=j:=by lia
    rw[e];exact bI _
   exact zj C hn (by lia) b (d.grow (by lia) (cf hlt)) h
theorem BS(C:Cm prog w A s R κ a₀){st:SortSt}{lo n ok:Nat}{Q:Bool->SortSt->Prop}(hn:lo+n<=a₀.size)(hok:ok<=n)(b:Bs κ a₀ pd st)(u:Up R (arrOf st) lo (lo+ok))
  (h:∀st',Bs κ a₀ pd st'->Fore lo (arrOf st) (arrOf st')->Up R (arrOf st') lo (lo+n)->Q true st'):wpS (model prog w) A E s (binarySort' lo n ok) Q st:=by
 rw[binarySort'_eq]
 refine aG (dM (bZ (I:=fun k c st'=>c=(none,())/\Bs κ a₀ pd st'/\Fore lo (arrOf st) (arrOf st')/\Up R (arrOf st') lo (lo+min k n))
  (Q:=fun c st'=>c=(none,())/\Bs κ a₀ pd st'/\Fore lo (arrOf st) (arrOf st')/\Up R (arrOf st') lo (lo+n)) ?step ?fin ?init) ?post)
 case post=>
  rintro c st' ⟨rfl,b',f,u'⟩
  exact aO (h st' b' f u')
 case init=>
  refine⟨rfl,b,Fore.rfl',fun i j h1 h2 h3=>?_⟩
  by_cases c:ok=0
  ·have e:i=j:=by lia
   rw[e];exact bI _
  ·exact u i j h1 h2 (by lia)
 case fin=>
  rintro c st' ⟨hc,b',f,u'⟩
  rw[show min (max (max ok 1) n) n=n by lia]at u'
  exact⟨hc,b',f,u'⟩
 case step=>
  rintro k c st' hak hkn ⟨rfl,b',f,u'⟩
  rw[show min k n=k by lia]at u'
  refine aG (dM (bZ (I:=fun x c st2=>st2=st'/\∃l r,c=(none,l,r)/\l<=r/\r<=k/\r-l<=k-x/\
    (∀i,i<l->kv R (arrOf st') (lo+i)<=kv R (arrOf st') (lo+k))/\(∀i,r<=i->i<k->kv R (arrOf st') (lo+k)<kv R (arrOf st') (lo+i)))
   (Q:=fun c st2=>st2=st'/\∃l r,c=(none,l,r)/\l<=k/\
    (∀i,i<l->kv R (arrOf st') (lo+i)<=kv R (arrOf st') (lo+k))/\(∀i,l<=i->i<k->kv R (arrOf st') (lo+k)<kv R (arrOf st') (lo+i))) ?istep ?ifin ?iinit) ?ipost)
  case iinit=>exact⟨rfl,0,k,rfl,by lia,by lia,by lia,fun i hi=>by lia,fun i h1 h2=>by lia⟩
  case ifin=>
   rintro c st2 ⟨rfl,l,r,rfl,hlr,hrk,hm,hlo,hhi⟩
   have e:l=r:=by lia
   subst e
   exact⟨rfl,l,l,rfl,hrk,hlo,hhi⟩
  case istep=>
   rintro x c st2 _ hxk ⟨rfl,l,r,rfl,hlr,hrk,hm,hlo,hhi⟩
   dsimp only
   by_cases hge:l ≥ r
   ·rw[aA hge]
    have e:l=r:=by lia
    subst e
    exact aO ⟨rfl,l,l,rfl,hrk,hlo,hhi⟩
   ·rw[ay hge]
    refine aG (pV C b' (by lia) (by lia) ?_)
    by_cases c:kv R (arrOf st2) (lo+k)<kv R (arrOf st2) (lo+(l+r)/2)
    ·simp only[c,df,if_true]
     exact aO ⟨rfl,l,(l+r)/2,rfl,by lia,by lia,by lia,hlo,fun i h1 h2=>eG c (u' _ _ (by lia) (by lia) (by lia))⟩
    ·simp only[c,fN,ba,if_false]
     exact aO ⟨rfl,(l+r)/2+1,r,rfl,by lia,by lia,by lia,fun i h1=>cA (u' (lo+i) (lo+(l+r)/2) (by lia) (by lia) (by lia)) (Int.not_lt.mp c),hhi⟩
  case ipost=>
   rintro c st2 ⟨rfl,l,r,rfl,hlk,hlo,hhi⟩
   show wpS _ _ _ _ (do moveDown' (lo + k) (lo + l); pure (ForInStep.yield (none,()))) _ _
   rw[moveDown'_eq]
   have hks:lo+k<(arrOf st2).size:=by rw[b'.size];lia
   refine aG (eU (aO ⟨rfl,b'.put (bubble_perm _ _ _),f.tr (FI hks (by lia)),?_⟩))
   rw[show min (k+1) n=k+1 by lia]
   intro i j h1 h2 h3
   show kv R (bubble (arrOf st2) (lo+k) (lo+k-(lo+l))) i<=kv R (bubble (arrOf st2) (lo+k) (lo+k-(lo+l))) j
   rw[yB hks (by lia),yB hks (by lia),show lo+k-(lo+k-(lo+l))=lo+l by lia]
   have lowof:∀i,lo<=i->i<lo+l->kv R (arrOf st2) i<=kv R (arrOf st2) (lo+k):=fun i a1 a2=>by
    have z:=hlo (i-lo) (by lia)
    rwa[show lo+(i-lo)=i by lia]at z
   have highof:∀i,lo+l<=i->i<lo+k->kv R (arrOf st2) (lo+k)<kv R (arrOf st2) i:=fun i a1 a2=>by
    have z:=hhi (i-lo) (by lia) (by lia)
    rwa[show lo+(i-lo)=i by lia]at z
   repeat' split
   all_goals first
    |(exfalso;lia)
    |exact bI _
    |exact lowof _ (by lia) (by lia)
    |exact cf (highof _ (by lia) (by lia))
    |exact u' _ _ (by lia) (by lia) (by lia)
end
end So
namespace So
open PySem PyProof.Rows
noncomputable def yu:Bool->Keyed->Array Keyed->Nat->Nat->Nat->StateT SortSt Sem (Option Nat):=sortPriv%PySem.Builtin.gallop
noncomputable def gl(R:Keyed->Int)(left:Bool)(key:Keyed)(v:Int):Bool:=if left=true then decide (v<R key)else !decide (R key<v)
theorem Ij{R:Keyed->Int}{left:Bool}{key:Keyed}{u v:Int}(h:gl R left key v=true)(huv:u<=v):gl R left key u=true:=by
 unfold gl at h ⊢
 cases left
 ·simp only[ba,if_false,Bool.not_eq_true',dy]at h ⊢;lia
 ·simp only[if_true,cI]at h ⊢;lia
section
variable{prog:Program}{w:World}{A:Around}{E:Value->Shared->Prop}{s:Shared}{R:Keyed->Int}{κ:SortKind}{a₀:Array Keyed}{pd:Array (Nat×Nat×Nat)}
abbrev pF:=Option (Option Nat)×Nat×Nat
theorem wG{st:SortSt}{n:Nat}{g:Nat->Bool}{M:Model}{f:Nat->pF->StateT SortSt Sem (ForInStep pF)}{z:pF->StateT SortSt Sem (Option Nat)}
  (up:∀i j,i<=j->j<n->g j=true->g i=true) {Q:Option Nat->SortSt->Prop} (h:∀k,k<=n->(∀i,i<k->g i=true)->(∀i,k<=i->i<n->g i=false)->Q (some k) st)
  (hf:∀x l r (Q':ForInStep pF->SortSt->Prop),l<r->r<=n->(g (l+(r-l)/2)=true->Q' (.yield (none,l+(r-l)/2+1,r)) st)->(g (l+(r-l)/2)=false->Q' (.yield (none,l,l+(r-l)/2)) st)->wpS M A E s (f x (none,l,r)) Q' st)
  (hf0:∀x l (Q':ForInStep pF->SortSt->Prop),Q' (.done (none,l,l)) st->wpS M A E s (f x (none,l,l)) Q' st)
  (hz:∀l (Q':Option Nat->SortSt->Prop),Q' (some l) st->wpS M A E s (z (none,l,l)) Q' st)
  {lo hi:Nat} (h1:lo<=hi) (h2:hi<=n) (h3:∀i,i<lo->g i=true) (h4:∀i,hi<=i->i<n->g i=false):
  wpS M A E s (forIn [0:n] ((none,lo,hi):pF) f>>=z) Q st:=by
 refine aG (dM (bZ (I:=fun x c st'=>st'=st/\∃l r,c=(none,l,r)/\l<=r/\r<=n/\r-l<=n-x/\(∀i,i<l->g i=true)/\(∀i,r<=i->i<n->g i=false))
  (Q:=fun c st'=>st'=st/\∃r,c=(none,r,r)/\r<=n/\(∀i,i<r->g i=true)/\(∀i,r<=i->i<n->g i=false)) ?step ?fin ⟨rfl,lo,hi,rfl,h1,h2,by lia,h3,h4⟩) ?post)
 case post=>
  rintro c st' ⟨rfl,r,rfl,a1,a2,a3⟩
  exact hz r Q (h r a1 a2 a3)
 case fin=>
  rintro c st' ⟨rfl,l,r,rfl,a1,a2,a3,a4,a5⟩
  have e:l=r:=by lia
  subst e
  exact⟨rfl,l,rfl,a2,a4,a5⟩
 case step=>
  rintro x c st' _ hx ⟨rfl,l,r,rfl,a1,a2,a3,a4,a5⟩
  by_cases hge:l=r
  ·subst hge
   exact hf0 x l _ ⟨rfl,l,rfl,a2,a4,a5⟩
  ·refine hf x l r _ (by lia) a2 (fun hg=>?_) fun hg=>?_
   ·exact⟨rfl,_,r,rfl,by lia,a2,by lia,fun i hi=>up i (l+(r-l)/2) (by lia) (by lia) hg,a5⟩
   ·refine⟨rfl,l,_,rfl,by lia,by lia,by lia,a4,fun i hi1 hi2=>?_⟩
    cases hgi:g i with
    |false=>rfl
    |true=>rw[up _ i hi1 hi2 hgi]at hg;cases hg
theorem o9(C:Cm prog w A s R κ a₀){st:SortSt}(hk:kindOf st=κ){left:Bool}{key:Keyed}{arr:Array Keyed}{base n hint:Nat}(hkey:key∈a₀.toList)(harr:∀i,i<n->∃x,arr[base+i]? =some x/\x∈a₀.toList)
  (hh:hint<n) (u:Up R arr base (base+n)) {Q:Option Nat->SortSt->Prop}
  (h:∀k,k<=n->(∀i,i<k->gl R left key (kv R arr (base+i))=true)->(∀i,k<=i->i<n->gl R left key (kv R arr (base+i))=false)->Q (some k) st):
  wpS (model prog w) A E s (yu left key arr base n hint) Q st:=by
 have bey:∀(i:Nat),i<n->∀(Q':Option Bool->SortSt->Prop),Q' (some (gl R left key (kv R arr (base+i)))) st->
   wpS (model prog w) A E s (do let x <- elem' arr (base + i); if left = true then lt' x key else do let z <- lt' key x; pure (z.map (!·))) Q' st:=by
  intro i hi Q' hq
  obtain⟨x,e,m⟩:=harr i hi
  rw[kv_at e]at hq
  refine aG (j6 e ?_)
  unfold gl at hq
  cases left
  ·simp only[ba,if_false]at hq ⊢
   exact aG (w_lt C hk hkey m (aO hq))
  ·simp only[if_true]at hq ⊢
   exact w_lt C hk m hkey hq
 have up:∀i j,i<=j->j<n->gl R left key (kv R arr (base+j))=true->gl R left key (kv R arr (base+i))=true:=fun i j h1 h2 h3=>Ij h3 (u _ _ (by lia) (by lia) (by lia))
 have dn:∀i j,i<=j->j<n->gl R left key (kv R arr (base+i))=false->gl R left key (kv R arr (base+j))=false:=fun i j h1 h2 h3=>by
  cases hj:gl R left key (kv R arr (base+j))with
  |false=>rfl
  |true=>rw[up i j h1 h2 hj]at h3;cases h3
 clear u harr hkey
 generalize hg:(fun i=>gl R left key (kv R arr (base+i)))=g at*
 have hgi:∀ i,gl R left key (kv R arr (base + i)) = g i:=fun i=>by rw [<- hg]
 simp only[hgi]at h bey up dn
 unfold yu
 refine aG (bey hint hh _ ?_)
 cases hgh:g hint with
 | true=>
  dsimp only
  rw[aA rfl]
  refine aG (dM (bZ (I:=fun x c st'=>st'=st/\∃l o,c=(none,l,o)/\l<o/\x<o/\hint+l<n/\g (hint+l)=true)
   (Q:=fun c st'=>st'=st/\∃l o,c=(none,l,o)/\l<o/\hint+l<n/\g (hint+l)=true/\(n-hint<=o\/g (hint+o)=false)) ?step ?fin ⟨rfl,0,1,rfl,by lia,by lia,by lia,hgh⟩) ?post)
  case fin=>
   rintro c st' ⟨rfl,l,o,rfl,a1,a2,a3,a4⟩
   exact⟨rfl,l,o,rfl,a1,a3,a4,.inl (by lia)⟩
  case step=>
   rintro x c st' _ hx ⟨rfl,l,o,rfl,a1,a2,a3,a4⟩
   dsimp only
   by_cases hge:o ≥ n-hint
   ·rw[aA hge]
    exact aO ⟨rfl,l,o,rfl,a1,a3,a4,.inl hge⟩
   ·rw[ay hge]
    refine aG (bey _ (by lia) _ ?_)
    cases hgo:g (hint+o)with
    |true=>exact aO ⟨rfl,o,_,rfl,by lia,by lia,by lia,hgo⟩
    |false=>exact aO ⟨rfl,l,o,rfl,a1,a3,a4,.inr hgo⟩
  case post=>
   rintro c st' ⟨rfl,l,o,rfl,a1,a2,a3,a4⟩
   dsimp only
   refine wG up h (fun x l r Q' c1 c2 y1 y2=>?hf) (fun x l Q' q=>?hf0) (fun l Q' q=>aO q) (lo:=hint+l+1) (hi:=hint+min o (n-hint)) (by lia) (by lia) (fun i hi=>up i (hint+l) (by lia) (by lia) a3) fun i hi1 hi2=>?_
   case hf=>
    dsimp only
    rw[ay (by lia)]
    refine aG (bey _ (by lia) _ ?_)
    cases hg:g (l+(r-l)/2)with
    |true=>exact aO (y1 hg)
    |false=>exact aO (y2 hg)
   case hf0=>
    dsimp only
    rw[aA (ao _)]
    exact aO q
   rcases a4 with a4|a4
   ·lia
   ·exact dn _ i (by lia) hi2 a4
 | false=>
  dsimp only
  rw[ay (by simp)]
  refine aG (dM (bZ (I:=fun x c st'=>st'=st/\∃l o,c=(none,l,o)/\l<o/\x<o/\l<=hint/\g (hint-l)=false)
   (Q:=fun c st'=>st'=st/\∃l o,c=(none,l,o)/\l<o/\l<=hint/\g (hint-l)=false/\(hint+1<=o\/g (hint-o)=true)) ?step2 ?fin2 ⟨rfl,0,1,rfl,by lia,by lia,by lia,hgh⟩) ?post2)
  case fin2=>
   rintro c st' ⟨rfl,l,o,rfl,a1,a2,a3,a4⟩
   exact⟨rfl,l,o,rfl,a1,a3,a4,.inl (by lia)⟩
  case step2=>
   rintro x c st' _ hx ⟨rfl,l,o,rfl,a1,a2,a3,a4⟩
   dsimp only
   by_cases hge:o ≥ hint+1
   ·rw[aA hge]
    exact aO ⟨rfl,l,o,rfl,a1,a3,a4,.inl hge⟩
   ·rw[ay hge]
    refine aG (bey _ (by lia) _ ?_)
    cases hgo:g (hint-o)with
    |true=>exact aO ⟨rfl,l,o,rfl,a1,a3,a4,.inr hgo⟩
    |false=>exact aO ⟨rfl,o,_,rfl,by lia,by lia,by lia,hgo⟩
  case post2=>
   rintro c st' ⟨rfl,l,o,rfl,a1,a2,a3,a4⟩
   dsimp only
   refine wG up h (fun x l r Q' c1 c2 y1 y2=>?hf2) (fun x l Q' q=>?hf02) (fun l Q' q=>aO q) (lo:=hint+1-min o (hint+1)) (hi:=hint-l) (by lia) (by lia) (fun i hi=>?_) fun i hi1 hi2=>dn (hint-l) i (by lia) hi2 a3
   case hf2=>
    dsimp only
    rw[ay (by lia)]
    refine aG (bey _ (by lia) _ ?_)
    cases hg:g (l+(r-l)/2)with
    |true=>exact aO (y1 hg)
    |false=>exact aO (y2 hg)
   case hf02=>
    dsimp only
    rw[aA (ao _)]
    exact aO q
   rcases a4 with a4|a4
   ·lia
   ·exact up i (hint-o) (by lia) (by lia) a4
end
end So
namespace So
open PySem PyProof.Rows
def Le(R:Keyed->Int):Keyed->Keyed->Prop:=fun x y=>R x<=R y
def MS(R:Keyed->Int)(o la lb tot:List Keyed):Prop:=(o++la).Pairwise (Le R)/\(o++lb).Pairwise (Le R)/\(o++(la++lb)).Perm tot
def Fi(R:Keyed->Int)(l tot:List Keyed):Prop:=l.Pairwise (Le R)/\l.Perm tot
section
variable{R:Keyed->Int}{o la lb tot xs:List Keyed}
theorem MS.a(h:MS R o (xs++la) lb tot)(hx:∀x∈xs,∀y∈lb,R x<=R y):MS R (o++xs) la lb tot:=by
 obtain⟨h1,h2,h3⟩:=h
 refine ⟨by rw [aQ]; exact h1,?_,by rw [aQ,<- aQ xs]; exact h3⟩
 rw[aQ,bu]
 rw[bu]at h1 h2
 obtain⟨o1,o2,o3⟩:=h1
 obtain⟨p1,p2,p3⟩:=h2
 rw[bu]at o2
 refine⟨o1,bu.mpr ⟨o2.1,p2,hx⟩,fun x m y n=>?_⟩
 rcases aW.mp n with n|n
 ·exact o3 x m y (cC _ n)
 ·exact p3 x m y n
theorem MS.b(h:MS R o la (xs++lb) tot)(hx:∀x∈xs,∀y∈la,R x<=R y):MS R (o++xs) la lb tot:=by
 have z:MS R o (xs++lb) la tot:=⟨h.2.1,h.1,(dW _ cO).trans h.2.2⟩
 have q:=z.a hx
 exact⟨q.2.1,q.1,(dW _ cO).trans q.2.2⟩
theorem MS.endA(h:MS R o la [] tot):Fi R (o++la) tot:=⟨h.1,by have z:=h.2.2;rwa[aY]at z⟩
theorem MS.endB(h:MS R o [] lb tot):Fi R (o++lb) tot:=⟨h.2.1,h.2.2⟩
theorem MS.last(h:MS R o la lb tot)(hx:∀y∈lb,∀x∈la,R y<=R x):Fi R (o++lb++la) tot:=by
 obtain⟨h1,h2,h3⟩:=h
 refine⟨?_,?_⟩
 ·rw[aQ,bu]
  rw[bu]at h1 h2
  refine⟨h1.1,bu.mpr ⟨h2.2.1,h1.2.1,hx⟩,fun x m y n=>?_⟩
  rcases aW.mp n with n|n
  ·exact h2.2.2 x m y n
  ·exact h1.2.2 x m y n
 ·rw[aQ];exact(dW _ cO).trans h3
end
section
variable{a:Array Keyed}{R:Keyed->Int}{i k:Nat}
theorem uK{x:Keyed}(e:a[i]? =some x):a.toList.drop i=x::a.toList.drop (i+1):=by
 have hi:i<a.toList.length:=by
  rw[Array.length_toList]
  exact(fq.mp e).1
 rw[cN hi]
 congr 1
 obtain⟨h1,h2⟩:=fq.mp e
 rw [<- h2,Array.getElem_toList]
theorem nG(a:Array Keyed)(i k:Nat):(a.extract i k).toList=(a.toList.drop i).take (k-i):=by
 rw[Array.toList_extract]
theorem rF(a:Array Keyed)(i:Nat):(a.extract i a.size).toList=a.toList.drop i:=by
 rw[nG]
 apply bQ
 rw[cX,Array.length_toList]
 exact ao _
theorem zr(a:Array Keyed)(i k:Nat):a.toList.drop i=(a.extract i (i+k)).toList++a.toList.drop (i+k):=by
 rw [nG,fJ,<- iC,bY]
theorem yD{x:Keyed}(h:x∈(a.extract i (i+k)).toList):∃j,j<k/\a[i+j]? =some x:=by
 rw[nG,fJ]at h
 obtain⟨j,hj,e⟩:=fc h
 rw[fA,gS]at e
 rw[aS]at hj
 refine⟨j,by lia,?_⟩
 rw [<- e,<- bH]
 exact gE _
theorem nH{x:Keyed}(h:x∈a.toList.drop i):∃j,i<=j/\j<a.size/\a[j]? =some x:=by
 obtain⟨j,hj,e⟩:=fc h
 rw[gS]at e
 rw[cX,Array.length_toList]at hj
 refine⟨i+j,by lia,by lia,?_⟩
 rw [<- e,<- bH]
 exact gE _
theorem jW(h:i<a.size):∃x,a[i]? =some x/\x∈a.toList:=⟨a[i],cH _ i h,by simp⟩
theorem Up.le(u:Up R a 0 a.size){j:Nat}{x y:Keyed}(hx:a[i]? =some x)(hy:a[j]? =some y)(h:i<=j):R x<=R y:=by
 have z:=u i j (bp _) h (fq.mp hy).1
 rwa[kv_at hx,kv_at hy]at z
end
theorem uN{R:Keyed->Int}{key:Keyed}{v:Int}(h:gl R true key v=true):v<R key:=by unfold gl at h;simpa using h
theorem vc{R:Keyed->Int}{key:Keyed}{v:Int}(h:gl R true key v=false):R key<=v:=by unfold gl at h;simpa using h
theorem vb{R:Keyed->Int}{key:Keyed}{v:Int}(h:gl R false key v=true):v<=R key:=by unfold gl at h;simpa using h
theorem vx{R:Keyed->Int}{key:Keyed}{v:Int}(h:gl R false key v=false):R key<v:=by unfold gl at h;simpa using h
section
variable{M:Model}{A:Around}{E:Value->Shared->Prop}{s:Shared}{σ α:Type}
theorem jo{c:Prop}[Decidable c]{m n:StateT σ Sem α}{Q:α->σ->Prop}{st:σ}(h1:c->wpS M A E s m Q st)(h2:¬c->wpS M A E s n Q st):wpS M A E s (if c then m else n) Q st:=by
 by_cases h:c
 ·rw[aA h];exact h1 h
 ·rw[ay h];exact h2 h
end
structure Lk(st st':SortSt):Prop where
 kind:kindOf st'=kindOf st
 arr:arrOf st'=arrOf st
 pend:pendingOf st'=pendingOf st
 ok:failedOf st'=failedOf st
theorem Lk.refl(st:SortSt):Lk st st:=⟨rfl,rfl,rfl,rfl⟩
theorem Lk.setg{st st':SortSt}(l:Lk st st')(g:Nat):Lk st (SortSt.mk' (kindOf st') (arrOf st') (pendingOf st') g (failedOf st')):=⟨l.kind,l.arr,l.pend,l.ok⟩
noncomputable def setg:Nat->StateT SortSt Sem Unit:=sortPriv%PySem.Builtin.setMinGallop
section
variable{R:Keyed->Int}{a b out:Array Keyed}{ia ib k:Nat}{tot:List Keyed}
theorem xr(m:MS R out.toList (a.toList.drop ia) (b.toList.drop ib) tot){x:Keyed}(e:b[ib]? =some x)(h:∀y∈a.toList.drop ia,R x<=R y):MS R (out.push x).toList (a.toList.drop ia) (b.toList.drop (ib+1)) tot:=by
 rw[uK e]at m
 rw[eQ]
 refine MS.b (xs:=[x]) m fun z hz y hy=>?_
 rw[aZ.mp hz];exact h y hy
theorem xt(m:MS R out.toList (a.toList.drop ia) (b.toList.drop ib) tot){x:Keyed}(e:a[ia]? =some x)(h:∀y∈b.toList.drop ib,R x<=R y):MS R (out.push x).toList (a.toList.drop (ia+1)) (b.toList.drop ib) tot:=by
 rw[uK e]at m
 rw[eQ]
 refine MS.a (xs:=[x]) m fun z hz y hy=>?_
 rw[aZ.mp hz];exact h y hy
theorem IT(m:MS R out.toList (a.toList.drop ia) (b.toList.drop ib) tot)(h:∀x∈(a.extract ia (ia+k)).toList,∀y∈b.toList.drop ib,R x<=R y):MS R (out++a.extract ia (ia+k)).toList (a.toList.drop (ia+k)) (b.toList.drop ib) tot:=by
 rw[zr a ia k]at m
 rw[bJ]
 exact MS.a m h
theorem IS(m:MS R out.toList (a.toList.drop ia) (b.toList.drop ib) tot)(h:∀x∈(b.extract ib (ib+k)).toList,∀y∈a.toList.drop ia,R x<=R y):MS R (out++b.extract ib (ib+k)).toList (a.toList.drop ia) (b.toList.drop (ib+k)) tot:=by
 rw[zr b ib k]at m
 rw[bJ]
 exact MS.b m h
end
noncomputable def xy:Array Keyed->Array Keyed->StateT SortSt Sem (Array Keyed):=sortPriv%PySem.Builtin.mergeLo
noncomputable def xA:Array Keyed->Array Keyed->StateT SortSt Sem (Array Keyed):=sortPriv%PySem.Builtin.mergeHi
section
variable{prog:Program}{w:World}{A:Around}{E:Value->Shared->Prop}{s:Shared}{R:Keyed->Int}{κ:SortKind}{a₀:Array Keyed}{pd:Array (Nat×Nat×Nat)}
theorem rC{st st':SortSt}{g:Nat}{Q:Unit->SortSt->Prop}(l:Lk st st')(h:∀st2,Lk st st2->Q () st2):wpS (model prog w) A E s (setg g) Q st':=eU (h _ (l.setg g))
theorem BR{M:Model}{α β:Type}(jp:Unit->α->StateT SortSt Sem β)(C:α->SortSt->Prop){B:StateT SortSt Sem β}{Q:β->SortSt->Prop}{st:SortSt}(h1:∀x st',C x st'->wpS M A E s (jp () x) Q st')(h2:(∀x st',C x st'->wpS M A E s (jp () x) Q st')->wpS M A E s B Q st):wpS M A E s B Q st:=h2 h1
theorem wF{M:Model}{α γ β:Type}(jp:Unit->α->γ->StateT SortSt Sem β)(C:α->γ->SortSt->Prop){B:StateT SortSt Sem β}{Q:β->SortSt->Prop}{st:SortSt}(h1:∀x y st',C x y st'->wpS M A E s (jp () x y) Q st')(h2:(∀x y st',C x y st'->wpS M A E s (jp () x y) Q st')->wpS M A E s B Q st):wpS M A E s B Q st:=h2 h1
abbrev BF:=Option (Array Keyed)×Array Keyed×Nat×Nat×Nat
theorem BP(C:Cm prog w A s R κ a₀){st:SortSt}(hk:kindOf st=κ){a b:Array Keyed}{tot:List Keyed}(ha:∀x∈a.toList,x∈a₀.toList)(hb:∀x∈b.toList,x∈a₀.toList)(ua:Up R a 0 a.size)(ub:Up R b 0 b.size)
  (na:1<=a.size) (nb:1<=b.size) (h0:∀x y,b[0]? =some x->a[0]? =some y->R x<R y) (hl:∀x y,x∈b.toList->a[a.size-1]? =some y->R x<R y) (ht:(a.toList++b.toList).Perm tot)
  {Q:Array Keyed->SortSt->Prop} (h:∀m st',Lk st st'->Fi R m.toList tot->Q m st'):wpS (model prog w) A E s (xy a b) Q st:=by
 obtain⟨b0,eb0,mb0⟩:=jW (a:=b) (i:=0) nb
 obtain⟨a0,ea0,ma0⟩:=jW (a:=a) (i:=0) na
 have m0:MS R [b0] (a.toList.drop 0) (b.toList.drop 1) tot:=by
  have e:=uK eb0
  have z:MS R [] (a.toList.drop 0) ([b0]++b.toList.drop 1) tot:=by
   refine⟨?_,?_,?_⟩
   ·rw[List.nil_append,eO,bK]
    intro i j hi hj hij
    rw[Array.length_toList]at hi hj
    exact ua.le (cH a i hi) (cH a j hj) (dF hij)
   ·rw [List.nil_append,List.singleton_append,<- e,eO,bK]
    intro i j hi hj hij
    rw[Array.length_toList]at hi hj
    exact ub.le (cH b i hi) (cH b j hj) (dF hij)
   ·rw [List.nil_append,List.singleton_append,<- e,eO,eO]; exact ht
  refine z.b fun x hx y hy=>?_
  rw[aZ]at hx
  subst hx
  obtain⟨j,j1,j2,j3⟩:=nH hy
  exact cf (eG (h0 _ _ eb0 ea0) (ua.le ea0 j3 (bp _)))
 have dn:∀(out:Array Keyed) (ia ib:Nat),MS R out.toList (a.toList.drop ia) (b.toList.drop ib) tot->(ia=a.size\/ib=b.size)->Fi R (out++a.extract ia a.size++b.extract ib b.size).toList tot:=by
  intro out ia ib m hor
  rw[bJ,bJ,rF,rF]
  rcases hor with e|e
  ·have e2:a.toList.drop ia=[]:=by rw[e];apply List.drop_of_length_le;rw[Array.length_toList];exact ao _
   rw[e2]at m ⊢
   rw[aY];exact m.endB
  ·have e2:b.toList.drop ib=[]:=by rw[e];apply List.drop_of_length_le;rw[Array.length_toList];exact ao _
   rw[e2]at m ⊢
   rw[aY];exact m.endA
 have ls:∀(out:Array Keyed) (ia ib:Nat),MS R out.toList (a.toList.drop ia) (b.toList.drop ib) tot->ia+1=a.size->Fi R (out++b.extract ib b.size++a.extract ia a.size).toList tot:=by
  intro out ia ib m e
  rw[bJ,bJ,rF,rF]
  refine m.last fun y hy x hx=>?_
  obtain⟨j,j1,j2,j3⟩:=nH hx
  have ej:j=a.size-1:=by lia
  rw[ej]at j3
  exact cf (hl _ _ (List.mem_of_mem_drop hy) j3)
 unfold xy
 refine aG (gn (cY ⟨rfl,?_⟩))
 refine aG (j6 eb0 ?_)
 refine jo (fun c=>aO (h _ _ (.refl _) (dn _ _ _ m0 (.inr (by simpa using c))))) fun c1=>?_
 refine jo (fun c=>aO (h _ _ (.refl _) (ls _ _ _ m0 (by simpa using c)))) fun c2=>?_
 have c1':1<b.size:=by simp at c1;lia
 have c2':1<a.size:=by simp at c2;lia
 refine aG (fj ?_)
 refine aG (dM (bZ (I:=fun x (c:BF) st'=>Lk st st'/\∃out ia ib mg,c=(none,out,ia,ib,mg)/\MS R out.toList (a.toList.drop ia) (b.toList.drop ib) tot/\ia+1<a.size/\ib<b.size/\x<ia+ib)
  (Q:=fun(c:BF) st'=>Lk st st'/\∃m out ia ib mg,c=(some m,out,ia,ib,mg)/\Fi R m.toList tot) ?step ?fin ⟨.refl _,#[b0],0,1,_,rfl,m0,by lia,by lia,by lia⟩) ?post)
 case fin=>
  rintro c st' ⟨l,out,ia,ib,mg,rfl,m,d1,d2,d3⟩
  lia
 case post=>
  rintro c st' ⟨l,m,out,ia,ib,mg,rfl,f⟩
  exact aO (h m st' l f)
 case step=>
  rintro x c st' _ hx ⟨l,out,ia,ib,mg,rfl,m,d1,d2,d3⟩
  refine aG (dM (bZ (I:=fun y (c:Option (Array Keyed)×Array Keyed×Nat×Nat×Nat×Nat) st2=>st2=st'/\∃out ia ib ac bc,c=(none,out,ia,ib,ac,bc)/\MS R out.toList (a.toList.drop ia) (b.toList.drop ib) tot/\ia+1<a.size/\ib<b.size/\x+min y 1<ia+ib)
   (Q:=fun(c:Option (Array Keyed)×Array Keyed×Nat×Nat×Nat×Nat) st2=>st2=st'/\((∃m out ia ib ac bc,c=(some m,out,ia,ib,ac,bc)/\Fi R m.toList tot)\/
    (∃out ia ib ac bc,c=(none,out,ia,ib,ac,bc)/\MS R out.toList (a.toList.drop ia) (b.toList.drop ib) tot/\ia+1<a.size/\ib<b.size/\x+1<ia+ib))) ?s1 ?f1 ⟨rfl,out,ia,ib,0,0,rfl,m,d1,d2,by lia⟩) ?p1)
  case f1=>
   rintro c st2 ⟨rfl,out,ia,ib,ac,bc,rfl,m,d1,d2,d3⟩
   exact⟨rfl,.inr ⟨out,ia,ib,ac,bc,rfl,m,d1,d2,by lia⟩⟩
  case s1=>
   rintro y c st2 _ hy ⟨rfl,out,ia,ib,ac,bc,rfl,m,d1,d2,d3⟩
   obtain⟨bx,eb,mb⟩:=jW (a:=b) d2
   obtain⟨ax,ea,ma⟩:=jW (a:=a) (i:=ia) (by lia)
   refine aG (j6 eb ?_)
   refine aG (j6 ea ?_)
   refine aG (w_lt C (l.kind.trans hk) (hb _ mb) (ha _ ma) ?_)
   by_cases hlt:R bx<R ax
   ·rw[aK hlt]
    refine aG (j6 eb ?_)
    have m2:=xr m eb fun z hz=>by
     obtain⟨j,j1,j2,j3⟩:=nH hz
     exact cf (eG hlt (ua.le ea j3 j1))
    refine jo (fun c=>aO ⟨rfl,.inl ⟨_,_,_,_,_,_,rfl,dn _ _ _ m2 (.inr (by simpa using c))⟩⟩) fun c=>?_
    have c':ib+1<b.size:=by simp at c;lia
    have n1:x+1<ia+(ib+1):=by lia
    have n2:x+min (y+1) 1<ia+(ib+1):=by lia
    exact jo (fun _=>aO ⟨rfl,.inr ⟨_,_,_,_,_,rfl,m2,d1,c',n1⟩⟩) fun _=>aO ⟨rfl,_,_,_,_,_,rfl,m2,d1,c',n2⟩
   ·rw[aP hlt]
    refine aG (j6 ea ?_)
    have m2:=xt m ea fun z hz=>by
     obtain⟨j,j1,j2,j3⟩:=nH hz
     exact cA (Int.not_lt.mp hlt) (ub.le eb j3 j1)
    refine jo (fun c=>aO ⟨rfl,.inl ⟨_,_,_,_,_,_,rfl,ls _ _ _ m2 (by simpa using c)⟩⟩) fun c=>?_
    have c':ia+1+1<a.size:=by simp at c;lia
    have n1:x+1<ia+1+ib:=by lia
    have n2:x+min (y+1) 1<ia+1+ib:=by lia
    exact jo (fun _=>aO ⟨rfl,.inr ⟨_,_,_,_,_,rfl,m2,c',d2,n1⟩⟩) fun _=>aO ⟨rfl,_,_,_,_,_,rfl,m2,c',d2,n2⟩
  case p1=>
   rintro c st2 ⟨rfl,⟨m',out,ia,ib,ac,bc,rfl,f⟩|⟨out,ia,ib,ac,bc,rfl,m,d1,d2,d3⟩⟩
   ·exact aO ⟨l,m',_,_,_,_,rfl,f⟩
   ·refine aG (gn (cY ⟨rfl,?_⟩))
    refine aG (dM (bZ (I:=fun y (c:Option (Array Keyed)×Array Keyed×Nat×Nat×Nat×Nat×Nat) st2=>Lk st st2/\∃out ia ib mg ac bc,c=(none,out,ia,ib,mg,ac,bc)/\MS R out.toList (a.toList.drop ia) (b.toList.drop ib) tot/\ia+1<a.size/\ib<b.size/\x+1<ia+ib)
     (Q:=fun(c:Option (Array Keyed)×Array Keyed×Nat×Nat×Nat×Nat×Nat) st2=>Lk st st2/\((∃m out ia ib mg ac bc,c=(some m,out,ia,ib,mg,ac,bc)/\Fi R m.toList tot)\/
      (∃out ia ib mg ac bc,c=(none,out,ia,ib,mg,ac,bc)/\MS R out.toList (a.toList.drop ia) (b.toList.drop ib) tot/\ia+1<a.size/\ib<b.size/\x+1<ia+ib))) ?s2 ?f2 ⟨l,out,ia,ib,_,ac,bc,rfl,m,d1,d2,d3⟩) ?p2)
    case f2=>
     rintro c st3 ⟨l3,out,ia,ib,mg,ac,bc,rfl,m,d1,d2,d3⟩
     exact⟨l3,.inr ⟨out,ia,ib,mg,ac,bc,rfl,m,d1,d2,d3⟩⟩
    case p2=>
     rintro c st3 ⟨l3,⟨m',out,ia,ib,mg,ac,bc,rfl,f⟩|⟨out,ia,ib,mg,ac,bc,rfl,m,d1,d2,d3⟩⟩
     ·exact aO ⟨l3,m',_,_,_,_,rfl,f⟩
     ·exact aG (rC l3 fun st4 l4=>aO ⟨l4,_,_,_,_,rfl,m,d1,d2,d3⟩)
    case s2=>
     rintro y c st3 _ hy ⟨l2,out,ia,ib,mg,ac,bc,rfl,m,d1,d2,d3⟩
     obtain⟨bx,eb,mb⟩:=jW (a:=b) d2
     extract_lets+onlyGivenNames _ _ _ _ _ _ _ _ _ _ _ _ jp
     refine BR jp (fun _ st'=>Lk st st') (fun mg' st' l2'=>?_) (fun hj=>jo (fun _=>hj _ _ l2) fun _=>hj _ _ l2)
     clear l2
     refine aG (rC l2' fun st4 l3=>?_)
     refine aG (j6 eb ?_)
     refine aG (o9 (base:=ia) (n:=a.size-ia) (hint:=0) C (l3.kind.trans hk) (hb _ mb) (fun i hi=>by
      obtain⟨z,z1,z2⟩:=jW (a:=a) (i:=ia+i) (by lia)
      exact⟨z,z1,ha _ z2⟩) (by lia) (fun i j q1 q2 q3=>ua i j (bp _) q2 (by lia)) fun k k1 k2 k3=>?_)
     have lowA:∀x∈(a.extract ia (ia+k)).toList,∀y∈b.toList.drop ib,R x<=R y:=fun x hx y hy=>by
      obtain⟨j,j1,j2⟩:=yD hx
      obtain⟨i,i1,i2,i3⟩:=nH hy
      have q:=vb (k2 j j1)
      rw[kv_at j2]at q
      exact cA q (ub.le eb i3 i1)
     have upA:∀y∈a.toList.drop (ia+k),R bx<=R y:=fun y hy=>by
      obtain⟨i,i1,i2,i3⟩:=nH hy
      have q:=vx (k3 (i-ia) (by lia) (by lia))
      rw[show ia+(i-ia)=i by lia,kv_at i3]at q
      exact cf q
     have mk:=IT m lowA
     dsimp -zeta only
     extract_lets+onlyGivenNames _ jp1
     refine wF jp1 (fun o' i' st'=>st'=st4/\MS R o'.toList (a.toList.drop i') (b.toList.drop ib) tot/\i'+1<a.size/\(∀y∈a.toList.drop i',R bx<=R y)/\x+1<i'+ib) (fun out' ia' st' hj=>?_) (fun hj=>?_)
     rotate_left
     ·refine jo (fun ck=>?_) fun ck=>hj _ _ _ (by
       obtain rfl:k=0:=by lia
       exact⟨rfl,m,d1,upA,d3⟩)
      refine jo (fun c=>aO ⟨l3,.inl ⟨_,_,_,_,_,_,_,rfl,ls _ _ _ mk (by simpa using c)⟩⟩) fun(c3:¬(ia+k+1==a.size)=true)=>?_
      refine jo (fun c=>aO ⟨l3,.inl ⟨_,_,_,_,_,_,_,rfl,dn _ _ _ mk (.inl (by simpa using c))⟩⟩) fun(c4:¬(ia+k==a.size)=true)=>?_
      exact hj (out++a.extract ia (ia+k)) (ia+k) _ ⟨rfl,mk,by simp at c3 c4;lia,upA,by lia⟩
     clear mk lowA upA m d1 d3
     obtain⟨rfl,mk,d4,upA,d3⟩:=hj
     obtain⟨ax,ea,ma⟩:=jW (a:=a) (i:=ia') (by lia)
     refine aG (j6 eb ?_)
     have m3:=xr mk eb upA
     refine jo (fun c=>aO ⟨l3,.inl ⟨_,_,_,_,_,_,_,rfl,dn _ _ _ m3 (.inr (by simpa using c))⟩⟩) fun(c5:¬(ib+1==b.size)=true)=>?_
     have d5:ib+1<b.size:=by simp at c5;lia
     refine aG (j6 ea ?_)
     refine aG (o9 (base:=ib+1) (n:=b.size-(ib+1)) (hint:=0) C (l3.kind.trans hk) (ha _ ma) (fun i hi=>by
      obtain⟨z,z1,z2⟩:=jW (a:=b) (i:=ib+1+i) (by lia)
      exact⟨z,z1,hb _ z2⟩) (by lia) (fun i j q1 q2 q3=>ub i j (bp _) q2 (by lia)) fun k' j1 j2 j3=>?_)
     have m4:=IS (k:=k') m3 fun x hx y hy=>by
      obtain⟨j,i1,i2⟩:=yD hx
      obtain⟨i,i3,i4,i5⟩:=nH hy
      have q:=uN (j2 j i1)
      rw[kv_at i2]at q
      exact cf (eG q (ua.le ea i5 i3))
     have upB:∀y∈b.toList.drop (ib+1+k'),R ax<=R y:=fun y hy=>by
      obtain⟨i,i1,i2,i3⟩:=nH hy
      have q:=vc (j3 (i-(ib+1)) (by lia) (by lia))
      rwa[show ib+1+(i-(ib+1))=i by lia,kv_at i3]at q
     dsimp -zeta only
     extract_lets+onlyGivenNames _ _ jp2
     refine wF jp2 (fun o' i' st5=>st5=st'/\MS R o'.toList (a.toList.drop ia') (b.toList.drop i') tot/\i'<b.size/\(∀y∈b.toList.drop i',R ax<=R y)/\x<ia'+i') (fun out2 ib' st5 hj=>?_) (fun hj=>?_)
     rotate_left
     ·refine jo (fun ck=>?_) fun ck=>hj (out'.push bx) (ib+1) _ (by
       obtain rfl:k'=0:=by lia
       exact⟨rfl,m3,d5,upB,by lia⟩)
      refine jo (fun c=>aO ⟨l3,.inl ⟨_,_,_,_,_,_,_,rfl,dn _ _ _ m4 (.inr (by simpa using c))⟩⟩) fun(c6:¬(ib+1+k'==b.size)=true)=>?_
      exact hj (out'.push bx++b.extract (ib+1) (ib+1+k')) (ib+1+k') _ ⟨rfl,m4,by simp at c6;lia,upB,by lia⟩
     clear m4 upB m3 mk
     obtain⟨rfl,m4,d6,upB,d7⟩:=hj
     refine aG (j6 ea ?_)
     have m5:=xt m4 ea upB
     refine jo (fun c=>aO ⟨l3,.inl ⟨_,_,_,_,_,_,_,rfl,ls _ _ _ m5 (by simpa using c)⟩⟩) fun(c7:¬(ia'+1+1==a.size)=true)=>?_
     have d8:=Nat.lt_of_le_of_ne (Nat.succ_le_of_lt d4) (by simpa using c7)
     have n2:x+1<ia'+1+ib':=by lia
     exact jo (fun _=>aO ⟨l3,.inr ⟨_,_,_,_,_,_,rfl,m5,d8,d6,n2⟩⟩) fun _=>aO ⟨l3,_,_,_,_,_,_,rfl,m5,d8,d6,n2⟩
end
end So
namespace So
open PySem PyProof.Rows
def MH(R:Keyed->Int)(la lb o tot:List Keyed):Prop:=(la++o).Pairwise (Le R)/\(lb++o).Pairwise (Le R)/\(la++(lb++o)).Perm tot
section
variable{R:Keyed->Int}{o la lb tot xs:List Keyed}
theorem MH.a(h:MH R (la++xs) lb o tot)(hx:∀x∈xs,∀y∈lb,R y<=R x):MH R la lb (xs++o) tot:=by
 obtain⟨h1,h2,h3⟩:=h
 refine ⟨by rw [<- aQ]; exact h1,?_,?_⟩
 ·rw[aQ,bu]at h1
  rw[bu]at h2 ⊢
  refine⟨h2.1,h1.2.1,fun y hy x hx2=>?_⟩
  rcases aW.mp hx2 with n|n
  ·exact hx x n y hy
  ·exact h2.2.2 y hy x n
 ·refine List.Perm.trans ?_ h3
  rw[aQ]
  refine dW _ ?_
  rw [<- aQ,<- aQ]
  exact fS _ cO
theorem MH.swap(h:MH R la lb o tot):MH R lb la o tot:=by
 refine⟨h.2.1,h.1,List.Perm.trans ?_ h.2.2⟩
 rw [<- aQ,<- aQ]
 exact fS _ cO
theorem MH.b(h:MH R la (lb++xs) o tot)(hx:∀x∈xs,∀y∈la,R y<=R x):MH R la lb (xs++o) tot:=(h.swap.a hx).swap
theorem MH.endB(h:MH R [] lb o tot):Fi R (lb++o) tot:=⟨h.2.1,h.2.2⟩
theorem MH.endA(h:MH R la [] o tot):Fi R (la++o) tot:=⟨h.1,h.2.2⟩
theorem MH.first(h:MH R la lb o tot)(hx:∀y∈lb,∀x∈la,R y<=R x):Fi R (lb++la++o) tot:=by
 obtain⟨h1,h2,h3⟩:=h.swap
 refine⟨?_,by rw[aQ];exact h3⟩
 rw[aQ]
 rw[bu]at h1 h2 ⊢
 refine⟨h1.1,bu.mpr h2,fun y hy x hx2=>?_⟩
 rcases aW.mp hx2 with n|n
 ·exact hx y hy x n
 ·exact h1.2.2 y hy x n
end
section
variable{a:Array Keyed}{R:Keyed->Int}{i k n:Nat}
theorem za{x:Keyed}(h:0<n)(e:a[n-1]? =some x):a.toList.take n=a.toList.take (n-1)++[x]:=by
 have e2:a.toList[n-1]? =some x:=by rw[bH];exact e
 have z:a.toList.take (n-1+1)=a.toList.take (n-1)++a.toList[n-1]?.toList:=List.take_succ
 rw[e2,Nat.sub_add_cancel h]at z
 exact z
theorem zZ(h:i<=n):a.toList.take n=a.toList.take i++(a.extract i n).toList:=by
 rw[nG]
 have z:a.toList.take (i+(n-i))=a.toList.take i++(a.toList.drop i).take (n-i):=List.take_add
 rwa[Nat.add_sub_cancel' h]at z
theorem sR(a:Array Keyed)(n:Nat):(a.extract 0 n).toList=a.toList.take n:=by rw[nG];rfl
theorem nI{x:Keyed}(h:x∈a.toList.take n):∃j,j<n/\j<a.size/\a[j]? =some x:=by
 obtain⟨j,hj,e⟩:=fc h
 rw[fA]at e
 rw[aS,Array.length_toList]at hj
 refine⟨j,by lia,by lia,?_⟩
 rw [<- e,<- bH]
 exact gE _
theorem oo{x:Keyed}(h:x∈(a.extract i n).toList):∃j,i<=j/\j<n/\a[j]? =some x:=by
 rw[nG]at h
 obtain⟨j,hj,e⟩:=fc h
 rw[fA,gS]at e
 rw[aS]at hj
 refine⟨i+j,by lia,by lia,?_⟩
 rw [<- e,<- bH]
 exact gE _
end
section
variable{R:Keyed->Int}{a b out:Array Keyed}{na nb k:Nat}{tot:List Keyed}
abbrev j7(R:Keyed->Int)(a b:Array Keyed)(tot:List Keyed)(na nb:Nat)(out:Array Keyed):Prop:=MH R (a.toList.take na) (b.toList.take nb) out.toList.reverse tot
theorem uu(m:j7 R a b tot na nb out)(h:0<na){x:Keyed}(e:a[na-1]? =some x)(hx:∀y∈b.toList.take nb,R y<=R x):j7 R a b tot (na-1) nb (out.push x):=by
 unfold j7 at m ⊢
 rw[za h e]at m
 rw[eQ,fb]
 exact m.a (xs:=[x]) fun z hz=>by rw[aZ.mp hz];exact hx
theorem xH(m:j7 R a b tot na nb out)(h:0<nb){x:Keyed}(e:b[nb-1]? =some x)(hx:∀y∈a.toList.take na,R y<=R x):j7 R a b tot na (nb-1) (out.push x):=by
 unfold j7 at m ⊢
 rw[za h e]at m
 rw[eQ,fb]
 exact m.b (xs:=[x]) fun z hz=>by rw[aZ.mp hz];exact hx
theorem Ii(m:j7 R a b tot na nb out)(h:k<=na)(hx:∀x∈(a.extract k na).toList,∀y∈b.toList.take nb,R y<=R x):j7 R a b tot k nb (out++(a.extract k na).reverse):=by
 unfold j7 at m ⊢
 rw[zZ h]at m
 rw[bJ,fb,eZ,List.reverse_reverse]
 exact m.a hx
theorem Ih(m:j7 R a b tot na nb out)(h:k<=nb)(hx:∀x∈(b.extract k nb).toList,∀y∈a.toList.take na,R y<=R x):j7 R a b tot na k (out++(b.extract k nb).reverse):=by
 unfold j7 at m ⊢
 rw[zZ h]at m
 rw[bJ,fb,eZ,List.reverse_reverse]
 exact m.b hx
end
section
variable{prog:Program}{w:World}{A:Around}{E:Value->Shared->Prop}{s:Shared}{R:Keyed->Int}{κ:SortKind}{a₀:Array Keyed}{pd:Array (Nat×Nat×Nat)}
abbrev BH:=Option (Array Keyed)×Nat×Nat×Array Keyed×Nat
theorem BQ(C:Cm prog w A s R κ a₀){st:SortSt}(hk:kindOf st=κ){a b:Array Keyed}{tot:List Keyed}(ha:∀x∈a.toList,x∈a₀.toList)(hb:∀x∈b.toList,x∈a₀.toList)(ua:Up R a 0 a.size)(ub:Up R b 0 b.size)
  (na1:1<=a.size) (nb1:1<=b.size) (h0:∀x y,b[0]? =some x->a[0]? =some y->R x<R y) (hl:∀x y,x∈b.toList->a[a.size-1]? =some y->R x<R y) (ht:(a.toList++b.toList).Perm tot)
  {Q:Array Keyed->SortSt->Prop} (h:∀m st',Lk st st'->Fi R m.toList tot->Q m st'):wpS (model prog w) A E s (xA a b) Q st:=by
 obtain⟨al,eal,mal⟩:=jW (a:=a) (i:=a.size-1) (by lia)
 obtain⟨b0,eb0,mb0⟩:=jW (a:=b) (i:=0) nb1
 obtain⟨a0,ea0,ma0⟩:=jW (a:=a) (i:=0) na1
 have alla:a.toList.take a.size=a.toList:=bQ (by rw[Array.length_toList];exact ao _)
 have allb:b.toList.take b.size=b.toList:=bQ (by rw[Array.length_toList];exact ao _)
 have m0:j7 R a b tot (a.size-1) b.size #[al]:=by
  have z:j7 R a b tot a.size b.size #[]:=by
   refine⟨?_,?_,?_⟩
   ·rw[show(#[]:Array Keyed).toList.reverse=[]from rfl,aY,alla,bK]
    intro i j hi hj hij
    rw[Array.length_toList]at hi hj
    exact ua.le (cH a i hi) (cH a j hj) (dF hij)
   ·rw[show(#[]:Array Keyed).toList.reverse=[]from rfl,aY,allb,bK]
    intro i j hi hj hij
    rw[Array.length_toList]at hi hj
    exact ub.le (cH b i hi) (cH b j hj) (dF hij)
   ·rw[show(#[]:Array Keyed).toList.reverse=[]from rfl,aY,alla,allb];exact ht
  refine uu z (by lia) eal fun y hy=>?_
  rw[allb]at hy
  exact cf (hl _ _ hy eal)
 have dn:∀(na nb:Nat) (out:Array Keyed),j7 R a b tot na nb out->(na=0\/nb=0)->Fi R (a.extract 0 na++b.extract 0 nb++out.reverse).toList tot:=by
  intro na nb out m hor
  unfold j7 at m
  rw[bJ,bJ,sR,sR,eZ]
  rcases hor with e|e
  ·rw[e,List.take_zero]at m ⊢
   exact m.endB
  ·rw[e,List.take_zero]at m ⊢
   rw[aY];exact m.endA
 have fs:∀(na nb:Nat) (out:Array Keyed),j7 R a b tot na nb out->nb=1->Fi R (b.extract 0 nb++a.extract 0 na++out.reverse).toList tot:=by
  intro na nb out m e
  unfold j7 at m
  rw[bJ,bJ,sR,sR,eZ]
  refine m.first fun y hy x hx=>?_
  obtain⟨j,j1,j2,j3⟩:=nI hy
  obtain⟨i,i1,i2,i3⟩:=nI hx
  have ej:j=0:=by lia
  rw[ej]at j3
  exact cf (eG (h0 _ _ j3 ea0) (ua.le ea0 i3 (bp _)))
 unfold xA
 refine aG (gn (cY ⟨rfl,?_⟩))
 refine aG (j6 eal ?_)
 refine jo (fun c=>aO (h _ _ (.refl _) (dn _ _ _ m0 (.inl (by simpa using c))))) fun c1=>?_
 refine jo (fun c=>aO (h _ _ (.refl _) (fs _ _ _ m0 (by simpa using c)))) fun c2=>?_
 have c1':0<a.size-1:=by
  rcases gJ (a.size-1)with z|z
  ·exact absurd (by rw[z];rfl) c1
  ·exact z
 have c2':1<b.size:=by simp at c2;lia
 refine aG (fj ?_)
 refine aG (dM (bZ (I:=fun x (c:BH) st'=>Lk st st'/\∃na nb out mg,c=(none,na,nb,out,mg)/\j7 R a b tot na nb out/\0<na/\na<=a.size/\1<nb/\nb<=b.size/\x+na+nb<a.size+b.size)
  (Q:=fun(c:BH) st'=>Lk st st'/\∃m na nb out mg,c=(some m,na,nb,out,mg)/\Fi R m.toList tot) ?step ?fin ⟨.refl _,a.size-1,b.size,#[al],_,rfl,m0,c1',by lia,c2',ao _,by lia⟩) ?post)
 case fin=>
  rintro c st' ⟨l,na,nb,out,mg,rfl,m,d1,d2,d3,d4,d5⟩
  lia
 case post=>
  rintro c st' ⟨l,m,na,nb,out,mg,rfl,f⟩
  exact aO (h m st' l f)
 case step=>
  rintro x c st' _ hx ⟨l,na,nb,out,mg,rfl,m,d1,d2,d3,d4,d5⟩
  refine aG (dM (bZ (I:=fun y (c:Option (Array Keyed)×Nat×Nat×Array Keyed×Nat×Nat) st2=>st2=st'/\∃na nb out ac bc,c=(none,na,nb,out,ac,bc)/\j7 R a b tot na nb out/\0<na/\na<=a.size/\1<nb/\nb<=b.size/\x+min y 1+na+nb<a.size+b.size)
   (Q:=fun(c:Option (Array Keyed)×Nat×Nat×Array Keyed×Nat×Nat) st2=>st2=st'/\((∃m na nb out ac bc,c=(some m,na,nb,out,ac,bc)/\Fi R m.toList tot)\/
    (∃na nb out ac bc,c=(none,na,nb,out,ac,bc)/\j7 R a b tot na nb out/\0<na/\na<=a.size/\1<nb/\nb<=b.size/\x+1+na+nb<a.size+b.size))) ?s1 ?f1 ⟨rfl,na,nb,out,0,0,rfl,m,d1,d2,d3,d4,by lia⟩) ?p1)
  case f1=>
   rintro c st2 ⟨rfl,na,nb,out,ac,bc,rfl,m,d1,d2,d3,d4,d5⟩
   exact⟨rfl,.inr ⟨na,nb,out,ac,bc,rfl,m,d1,d2,d3,d4,by lia⟩⟩
  case s1=>
   rintro y c st2 _ hy ⟨rfl,na,nb,out,ac,bc,rfl,m,d1,d2,d3,d4,d5⟩
   obtain⟨bx,eb,mb⟩:=jW (a:=b) (i:=nb-1) (by lia)
   obtain⟨ax,ea,ma⟩:=jW (a:=a) (i:=na-1) (by lia)
   refine aG (j6 eb ?_)
   refine aG (j6 ea ?_)
   refine aG (w_lt C (l.kind.trans hk) (hb _ mb) (ha _ ma) ?_)
   by_cases hlt:R bx<R ax
   ·rw[aK hlt]
    refine aG (j6 ea ?_)
    have m2:=uu m d1 ea fun z hz=>by
     obtain⟨j,j1,j2,j3⟩:=nI hz
     exact cA (ub.le j3 eb (by lia)) (cf hlt)
    refine jo (fun c=>aO ⟨rfl,.inl ⟨_,_,_,_,_,_,rfl,dn _ _ _ m2 (.inl (by simpa using c))⟩⟩) fun c=>?_
    have c':0<na-1:=by
     rcases gJ (na-1)with z|z
     ·exact absurd (by rw[show(none,na,nb,out,ac,bc).snd.fst=na from rfl,z];rfl) c
     ·exact z
    have n0:na-1<=a.size:=by lia
    have n1:x+1+(na-1)+nb<a.size+b.size:=by lia
    have n2:x+min (y+1) 1+(na-1)+nb<a.size+b.size:=by lia
    exact jo (fun _=>aO ⟨rfl,.inr ⟨_,_,_,_,_,rfl,m2,c',n0,d3,d4,n1⟩⟩) fun _=>aO ⟨rfl,_,_,_,_,_,rfl,m2,c',n0,d3,d4,n2⟩
   ·rw[aP hlt]
    refine aG (j6 eb ?_)
    have m2:=xH m (by lia) eb fun z hz=>by
     obtain⟨j,j1,j2,j3⟩:=nI hz
     exact cA (ua.le j3 ea (by lia)) (Int.not_lt.mp hlt)
    refine jo (fun c=>aO ⟨rfl,.inl ⟨_,_,_,_,_,_,rfl,fs _ _ _ m2 (by simpa using c)⟩⟩) fun c=>?_
    have c':1<nb-1:=by
     have z:nb-1≠1:=fun z=>c (by rw[show(none,na,nb,out,ac,bc).snd.snd.fst=nb from rfl,z];rfl)
     lia
    have n0:nb-1<=b.size:=by lia
    have n1:x+1+na+(nb-1)<a.size+b.size:=by lia
    have n2:x+min (y+1) 1+na+(nb-1)<a.size+b.size:=by lia
    exact jo (fun _=>aO ⟨rfl,.inr ⟨_,_,_,_,_,rfl,m2,d1,d2,c',n0,n1⟩⟩) fun _=>aO ⟨rfl,_,_,_,_,_,rfl,m2,d1,d2,c',n0,n2⟩
  case p1 =>
   rintro c st2 ⟨rfl,⟨m',na,nb,out,ac,bc,rfl,f⟩|⟨na,nb,out,ac,bc,rfl,m,d1,d2,d3,d4,d5⟩⟩
   ·exact aO ⟨l,m',_,_,_,_,rfl,f⟩
   ·refine aG (gn (cY ⟨rfl,?_⟩))
    refine aG (dM (bZ (I:=fun y (c:Option (Array Keyed)×Nat×Nat×Array Keyed×Nat×Nat×Nat) st2=>Lk st st2/\∃na nb out mg ac bc,c=(none,na,nb,out,mg,ac,bc)/\j7 R a b tot na nb out/\0<na/\na<=a.size/\1<nb/\nb<=b.size/\x+1+na+nb<a.size+b.size)
     (Q:=fun(c:Option (Array Keyed)×Nat×Nat×Array Keyed×Nat×Nat×Nat) st2=>Lk st st2/\((∃m na nb out mg ac bc,c=(some m,na,nb,out,mg,ac,bc)/\Fi R m.toList tot)\/
      (∃na nb out mg ac bc,c=(none,na,nb,out,mg,ac,bc)/\j7 R a b tot na nb out/\0<na/\na<=a.size/\1<nb/\nb<=b.size/\x+1+na+nb<a.size+b.size))) ?s2 ?f2 ⟨l,na,nb,out,_,ac,bc,rfl,m,d1,d2,d3,d4,d5⟩) ?p2)
    case f2=>
     rintro c st3 ⟨l3,na,nb,out,mg,ac,bc,rfl,m,d⟩
     exact⟨l3,.inr ⟨na,nb,out,mg,ac,bc,rfl,m,d⟩⟩
    case p2=>
     rintro c st3 ⟨l3,⟨m',na,nb,out,mg,ac,bc,rfl,f⟩|⟨na,nb,out,mg,ac,bc,rfl,m,d⟩⟩
     ·exact aO ⟨l3,m',_,_,_,_,rfl,f⟩
     ·exact aG (rC l3 fun st4 l4=>aO ⟨l4,_,_,_,_,rfl,m,d⟩)
    case s2=>
     rintro y c st3 _ hy ⟨l2,na,nb,out,mg,ac,bc,rfl,m,d1,d2,d3,d4,d5⟩
     obtain⟨bx,eb,mb⟩:=jW (a:=b) (i:=nb-1) (by lia)
     refine jo (fun _=>?_) fun _=>?_
     all_goals
      refine aG (rC l2 fun st4 l3=>?_)
      refine aG (j6 eb ?_)
      refine aG (o9 (base:=0) (n:=na) (hint:=na-1) C (l3.kind.trans hk) (hb _ mb) (fun i hi=>by
       obtain⟨z,z1,z2⟩:=jW (a:=a) (i:=0+i) (by lia)
       exact⟨z,z1,ha _ z2⟩) (by lia) (fun i j q1 q2 q3=>ua i j (bp _) q2 (by lia)) fun k k1 k2 k3=>?_)
      have upA:∀y∈a.toList.take k,R y<=R bx:=fun y hy=>by
       obtain⟨j,j1,j2,j3⟩:=nI hy
       have q:=vb (k2 j j1)
       rwa[gQ,kv_at j3]at q
      have mk:=Ii m k1 fun x hx y hy=>by
       obtain⟨j,j1,j2,j3⟩:=oo hx
       obtain⟨i,i1,i2,i3⟩:=nI hy
       have q:=vx (k3 j j1 j2)
       rw[gQ,kv_at j3]at q
       exact cA (ub.le i3 eb (by lia)) (cf q)
      refine jo (fun ck=>?_) fun ck=>?_
      case' refine_1=>
       refine jo (fun c=>aO ⟨l3,.inl ⟨_,_,_,_,_,_,_,rfl,dn _ _ _ mk (.inl (by simpa using c))⟩⟩) fun c3=>?_
       have e1:0<k:=by simp at c3;lia
       have e2:k<=a.size:=by lia
       have n1:∀z,z<=nb-1->x+1+(k-1)+z<a.size+b.size:=fun z hz=>by lia
       obtain⟨ax,ea,ma⟩:=jW (a:=a) (i:=k-1) (by lia)
       have e3:∀i,i<k->i<=k-1:=fun i hi=>by lia
      case' refine_2=>
       have e0:k=na:=by
        have ck':¬na-k>0:=ck
        lia
       subst e0
       have e1:=d1
       have e2:=d2
       have n1:∀z,z<=nb-1->x+1+(k-1)+z<a.size+b.size:=fun z hz=>by lia
       replace mk:=m
       obtain⟨ax,ea,ma⟩:=jW (a:=a) (i:=k-1) (by lia)
       have e3:∀i,i<k->i<=k-1:=fun i hi=>by lia
      all_goals
       refine aG (j6 eb ?_)
       have m3:=xH mk (by lia) eb upA
       refine jo (fun c=>aO ⟨l3,.inl ⟨_,_,_,_,_,_,_,rfl,fs _ _ _ m3 (by simpa using c)⟩⟩) fun c5=>?_
       have d6:1<nb-1:=by
        have z:nb-1≠1:=fun z=>c5 (by
         show(nb-1==1)=true
         rw[z];rfl)
        lia
       refine aG (j6 ea ?_)
       refine aG (o9 (base:=0) (n:=nb-1) (hint:=nb-1-1) C (l3.kind.trans hk) (ha _ ma) (fun i hi=>by
        obtain⟨z,z1,z2⟩:=jW (a:=b) (i:=0+i) (by lia)
        exact⟨z,z1,hb _ z2⟩) (by lia) (fun i j q1 q2 q3=>ub i j (bp _) q2 (by lia)) fun k' j1 j2 j3=>?_)
       have upB:∀y∈b.toList.take k',R y<=R ax:=fun y hy=>by
        obtain⟨i,i1,i2,i3⟩:=nI hy
        have q:=uN (j2 i i1)
        rw[gQ,kv_at i3]at q
        exact cf q
       have m4:=Ih m3 j1 fun x hx y hy=>by
        obtain⟨j,i1,i2,i3⟩:=oo hx
        obtain⟨i,i4,i5,i6⟩:=nI hy
        have q:=vc (j3 j i1 i2)
        rw[gQ,kv_at i3]at q
        exact cA (ua.le i6 ea (e3 i i4)) q
       refine jo (fun ck2=>?_) fun ck2=>?_
       case' refine_1=>
        refine jo (fun c=>aO ⟨l3,.inl ⟨_,_,_,_,_,_,_,rfl,fs _ _ _ m4 (by simpa using c)⟩⟩) fun c6=>?_
        refine jo (fun c=>aO ⟨l3,.inl ⟨_,_,_,_,_,_,_,rfl,dn _ _ _ m4 (.inr (by simpa using c))⟩⟩) fun c7=>?_
        have d7:1<k':=by simp at c6 c7;lia
        have d8:k'<=b.size:=by lia
        have n2:=n1 k' j1
       case' refine_2=>
        have e0:k'=nb-1:=by
         have ck':¬nb-1-k'>0:=ck2
         lia
        subst e0
        replace m4:=m3
        have d7:=d6
        have d8:nb-1<=b.size:=by lia
        have n2:=n1 (nb-1) (ao _)
       all_goals
        refine aG (j6 ea ?_)
        have m5:=uu m4 e1 ea upB
        refine jo (fun c=>aO ⟨l3,.inl ⟨_,_,_,_,_,_,_,rfl,dn _ _ _ m5 (.inl (by simpa using c))⟩⟩) fun c8=>?_
        have d9:0<k-1:=by
         rcases gJ (k-1)with z|z
         ·refine absurd ?_ c8
          show(k-1==0)=true
          rw[z];rfl
         ·exact z
        have d10:k-1<=a.size:=by lia
        exact jo (fun _=>aO ⟨l3,.inr ⟨_,_,_,_,_,_,rfl,m5,d9,d10,d7,d8,n2⟩⟩) fun _=>aO ⟨l3,_,_,_,_,_,_,rfl,m5,d9,d10,d7,d8,n2⟩
end
end So
namespace So
open PySem PyProof.Rows
noncomputable def lC(off:Nat)(l:List (Keyed×Nat))(xs:Array Keyed):Array Keyed:=l.foldl (fun a p=>a.setIfInBounds (off+p.2) p.1) xs
theorem vK(off:Nat):∀(m:List Keyed) (j:Nat) (xs:Array Keyed),off+j+m.length<=xs.size->∀i,
  (lC off (m.zipIdx j) xs)[i]? =if off+j<=i/\i<off+j+m.length then m[i-(off+j)]? else xs[i]?
 |[],j,xs,_,i=>by rw[ay (by simp)];rfl
 | p::m,j,xs,h,i=>by
  rw[List.zipIdx_cons]
  show(lC off (m.zipIdx (j+1)) (xs.setIfInBounds (off+j) p))[i]? =_
  rw[List.length_cons]at h ⊢
  rw[vK off m (j+1) _ (by rw[Array.size_setIfInBounds];lia) i]
  by_cases c:i=off+j
  ·rw[ay (by lia),aA (by lia),c,gR,List.getElem?_cons_zero,iq]
   rw[aA rfl,aA (by lia)]
  ·by_cases c2:off+j<=i/\i<off+j+(m.length+1)
   ·rw[aA (by lia),aA c2,show i-(off+j)=i-(off+(j+1))+1 by lia,List.getElem?_cons_succ]
   ·rw[ay (by lia),ay c2,iq,ay (by lia)]
theorem G8{off:Nat}{m:List Keyed}{xs:Array Keyed}(h:off+m.length<=xs.size)(hp:m.Perm ((xs.toList.drop off).take m.length)):(lC off (m.zipIdx 0) xs).Perm xs:=by
 rw[eA]
 have e:(lC off (m.zipIdx 0) xs).toList=xs.toList.take off++(m++xs.toList.drop (off+m.length)):=by
  apply eN
  intro i
  have hlen:xs.toList.length=xs.size:=Array.length_toList
  rw[bH,vK off m 0 xs (by lia),List.getElem?_append,aS,hlen,ij (by lia)]
  by_cases c:i<off
  ·rw[ay (by lia),aA c,List.getElem?_take,aA c,bH]
  ·rw[ay c,List.getElem?_append]
   by_cases c2:i<off+m.length
   ·rw[aA (by lia),aA (by lia),Nat.add_zero]
   ·rw[ay (by lia),ay (by lia),List.getElem?_drop,bH,show off+m.length+(i-off-m.length)=i by lia]
 rw[e]
 have e2:xs.toList=xs.toList.take off++((xs.toList.drop off).take m.length++xs.toList.drop (off+m.length)):=by
  rw [<- iC,bY,bY]
 conv=>rhs;rw[e2]
 exact dW _ (fS _ hp)
section
variable{prog:Program}{w:World}{A:Around}{E:Value->Shared->Prop}{s:Shared}{R:Keyed->Int}{κ:SortKind}{a₀:Array Keyed}{pd:Array (Nat×Nat×Nat)}
theorem BO{σ:Type}{M:Model}{st0:σ}{Q:PUnit->σ->Prop}{st:σ}(h:Q ⟨⟩ st0):wpS M A E s (set st0:StateT σ Sem PUnit) Q st:=by
 unfold wpS;exact aB ⟨rfl,h⟩
theorem Up.ext{xs:Array Keyed}{lo hi:Nat}(u:Up R xs lo hi)(h:hi<=xs.size):Up R (xs.extract lo hi) 0 (xs.extract lo hi).size:=fun i j _ h2 h3=>by
 rw[gL]at h3
 have e:∀k,k<hi-lo->(xs.extract lo hi)[k]? =xs[lo+k]?:=fun k hk=>by
  rw[fW]
  rw[aA (by lia)]
 rw[mG (e i (by lia)),mG (e j (by lia))]
 exact u _ _ (by lia) (by lia) (by lia)
theorem Ge(C:Cm prog w A s R κ a₀){st:SortSt}(b:Bs κ a₀ pd st){i:Nat}{sa na pa nb pb:Nat}(hp1:pd[i]? =some (sa,na,pa))(hp2:pd[i+1]? =some (sa+na,nb,pb))
  (h1:1<=na) (h2:1<=nb) (hs:sa+na+nb<=a₀.size) (ua:Up R (arrOf st) sa (sa+na)) (ub:Up R (arrOf st) (sa+na) (sa+na+nb)) {Q:Bool->SortSt->Prop}
  (h:∀st',Bs κ a₀ ((pd.setIfInBounds i (sa,na+nb,pa)).eraseIdxIfInBounds (i+1)) st'->(∀j,(j<sa\/sa+na+nb<=j)->(arrOf st')[j]? =(arrOf st)[j]?)->Up R (arrOf st') sa (sa+na+nb)->Q true st'):
  wpS (model prog w) A E s (mergeAt' i) Q st:=by
 rcases st with⟨kd,xs,pn,mg,fl⟩
 have e1:pn=pd:=b.pend
 have e2:kd=κ:=b.kind
 have e3:fl=none:=b.ok
 subst e1 e2 e3
 have hsz:xs.size=a₀.size:=b.size
 have hin:∀x,x∈xs.toList->x∈a₀.toList:=fun x hx=>(eA.mp (show xs.Perm a₀ from b.perm)).mem_iff.mp hx
 change Up R xs sa (sa+na)at ua
 change Up R xs (sa+na) (sa+na+nb)at ub
 change ∀st',_->(∀j,_->(arrOf st')[j]? =xs[j]?)->_ at h
 generalize hpd':(pn.setIfInBounds i (sa,na+nb,pa)).eraseIdxIfInBounds (i+1)=pd' at h
 have hle:∀{i j:Nat} {x y:Keyed},xs[i]? =some x->xs[j]? =some y->kv R xs i<=kv R xs j->R x<=R y:=fun q1 q2 q3=>by rwa[kv_at q1,kv_at q2]at q3
 unfold mergeAt'
 refine aG (fj ?_)
 dsimp only
 rw[hp1,hp2]
 refine aG (BO ?_)
 rw[hpd']
 have st1:Bs kd a₀ pd' (SortSt.mk' kd xs pd' mg none):=⟨b.perm,rfl,rfl,rfl⟩
 obtain⟨b0,eb0,mb0⟩:=jW (a:=xs) (i:=sa+na) (by lia)
 refine aG (j6 eb0 ?_)
 refine aG (o9 (base:=sa) (n:=na) (hint:=0) C rfl (hin _ mb0) (fun i hi=>by
  obtain⟨z,z1,z2⟩:=jW (a:=xs) (i:=sa+i) (by lia)
  exact⟨z,z1,hin _ z2⟩) (by lia) ua fun k k1 k2 k3=>?_)
 have lowk:∀j,sa<=j->j<sa+k->kv R xs j<=R b0:=fun j q1 q2=>by
  have q:=vb (k2 (j-sa) (by lia))
  rwa[show sa+(j-sa)=j by lia]at q
 have upk:∀j,sa+k<=j->j<sa+na->R b0<kv R xs j:=fun j q1 q2=>by
  have q:=vx (k3 (j-sa) (by lia) (by lia))
  rwa[show sa+(j-sa)=j by lia]at q
 have upb:∀j,sa+na<=j->j<sa+na+nb->R b0<=kv R xs j:=fun j q1 q2=>by
  have q:=ub (sa+na) j (ao _) q1 q2
  rwa[kv_at eb0]at q
 refine jo (fun c=>aO (h _ st1 (fun _ _=>rfl) ?_)) fun c1=>?_
 ·have ek:k=na:=by
   have c':na-k=0:=by simpa using c
   lia
  intro i j q1 q2 q3
  show kv R xs i<=kv R xs j
  by_cases cj:j<sa+na
  ·exact ua i j q1 q2 cj
  ·by_cases ci:i<sa+na
   ·exact cA (lowk i q1 (by lia)) (upb j (by lia) q3)
   ·exact ub i j (by lia) q2 q3
 have c1':k<na:=by
  have c':na-k≠0:=by simpa using c1
  lia
 obtain⟨al,eal,mal⟩:=jW (a:=xs) (i:=sa+k+(na-k)-1) (by lia)
 refine aG (j6 eal ?_)
 refine aG (o9 (base:=sa+na) (n:=nb) (hint:=nb-1) C rfl (hin _ mal) (fun i hi=>by
  obtain⟨z,z1,z2⟩:=jW (a:=xs) (i:=sa+na+i) (by lia)
  exact⟨z,z1,hin _ z2⟩) (by lia) ub fun n2 j1 j2 j3=>?_)
 rw[show sa+k+(na-k)-1=sa+na-1 by lia]at eal
 have lastA:∀j,sa<=j->j<sa+na->kv R xs j<=R al:=fun j q1 q2=>by
  have q:=ua j (sa+na-1) q1 (by lia) (by lia)
  rwa[kv_at eal]at q
 have lowB:∀j,sa+na<=j->j<sa+na+n2->kv R xs j<R al:=fun j q1 q2=>by
  have q:=uN (j2 (j-(sa+na)) (by lia))
  rwa[show sa+na+(j-(sa+na))=j by lia]at q
 have upB:∀j,sa+na+n2<=j->j<sa+na+nb->R al<=kv R xs j:=fun j q1 q2=>by
  have q:=vc (j3 (j-(sa+na)) (by lia) (by lia))
  rwa[show sa+na+(j-(sa+na))=j by lia]at q
 refine jo (fun c=>aO (h _ st1 (fun _ _=>rfl) ?_)) fun c2=>?_
 ·have e2:n2=0:=by simpa using c
  intro i j q1 q2 q3
  show kv R xs i<=kv R xs j
  by_cases cj:j<sa+na
  ·exact ua i j q1 q2 cj
  ·by_cases ci:i<sa+na
   ·exact cA (lastA i q1 ci) (upB j (by lia) q3)
   ·exact ub i j (by lia) q2 q3
 have c2':1<=n2:=by
  have c':n2≠0:=by simpa using c2
  lia
 have hx:Up R (xs.extract (sa+k) (sa+na)) 0 (xs.extract (sa+k) (sa+na)).size:=Up.ext (fun i j q1 q2 q3=>ua i j (by lia) q2 q3) (by lia)
 have hy:Up R (xs.extract (sa+na) (sa+na+n2)) 0 (xs.extract (sa+na) (sa+na+n2)).size:=Up.ext (fun i j q1 q2 q3=>ub i j (by lia) q2 (by lia)) (by lia)
 have sx:(xs.extract (sa+k) (sa+na)).size=na-k:=by rw[gL];lia
 have sy:(xs.extract (sa+na) (sa+na+n2)).size=n2:=by rw[gL];lia
 have gx:∀j,j<na-k->(xs.extract (sa+k) (sa+na))[j]? =xs[sa+k+j]?:=fun j hj=>by rw[fW,aA (by lia)]
 have gy:∀j,j<n2->(xs.extract (sa+na) (sa+na+n2))[j]? =xs[sa+na+j]?:=fun j hj=>by rw[fW,aA (by lia)]
 have ix:∀z∈(xs.extract (sa+k) (sa+na)).toList,z∈a₀.toList:=fun z hz=>by
  obtain⟨j,q1,q2,q3⟩:=oo hz
  obtain⟨v,v1,v2⟩:=jW (a:=xs) (i:=j) (by lia)
  rw[q3]at v1
  cases v1
  exact hin _ v2
 have iy:∀z∈(xs.extract (sa+na) (sa+na+n2)).toList,z∈a₀.toList:=fun z hz=>by
  obtain⟨j,q1,q2,q3⟩:=oo hz
  obtain⟨v,v1,v2⟩:=jW (a:=xs) (i:=j) (by lia)
  rw[q3]at v1
  cases v1
  exact hin _ v2
 have p0:∀x y,(xs.extract (sa+na) (sa+na+n2))[0]? =some x->(xs.extract (sa+k) (sa+na))[0]? =some y->R x<R y:=fun x y q1 q2=>by
  rw[gy 0 (by lia)]at q1
  rw[gx 0 (by lia)]at q2
  have q:=upk (sa+k+0) (by lia) (by lia)
  rw[kv_at q2]at q
  have e:x=b0:=by
   rw[Nat.add_zero,eb0]at q1
   cases q1;rfl
  rw[e];exact q
 have pl:∀x y,x∈(xs.extract (sa+na) (sa+na+n2)).toList->(xs.extract (sa+k) (sa+na))[(xs.extract (sa+k) (sa+na)).size-1]? =some y->R x<R y:=fun x y q1 q2=>by
  rw[sx,gx _ (by lia),show sa+k+(na-k-1)=sa+na-1 by lia,eal]at q2
  cases q2
  obtain⟨j,r1,r2,r3⟩:=oo q1
  have q:=lowB j r1 r2
  rwa[kv_at r3]at q
 have fini:∀(m:Array Keyed) (st':SortSt),Lk (SortSt.mk' kd xs pd' mg none) st'->Fi R m.toList ((xs.extract (sa+k) (sa+na)).toList++(xs.extract (sa+na) (sa+na+n2)).toList)->
   Q true (SortSt.mk' (kindOf st') (lC (sa+k) (m.toList.zipIdx 0) (arrOf st')) (pendingOf st') (gallopOf st') (failedOf st'))/\failedOf st'=none:=by
  intro m st' l f
  have ea:arrOf st'=xs:=l.arr
  have hml:m.toList.length=na-k+n2:=by
   rw[f.2.length_eq,av,Array.length_toList,Array.length_toList,sx,sy]
  have hmz:∀z∈m.toList,∃j,sa+k<=j/\j<sa+na+n2/\xs[j]? =some z:=fun z hz=>by
   rcases aW.mp (f.2.mem_iff.mp hz)with q|q
   ·obtain⟨j,q1,q2,q3⟩:=oo q
    exact⟨j,q1,by lia,q3⟩
   ·obtain⟨j,q1,q2,q3⟩:=oo q
    exact⟨j,by lia,q2,q3⟩
  have hperm:(lC (sa+k) (m.toList.zipIdx 0) xs).Perm xs:=by
   refine G8 (by lia) (f.2.trans ?_)
   rw[hml,List.take_add,nG,nG,iC,show sa+na-(sa+k)=na-k by lia,show sa+k+(na-k)=sa+na by lia,show sa+na+n2-(sa+na)=n2 by lia]
  have hget:=vK (sa+k) m.toList 0 xs (by lia)
  rw[hml]at hget
  refine⟨h _ ⟨?_,l.kind,l.ok,l.pend⟩ ?_ ?_,l.ok⟩
  ·show(lC (sa+k) (m.toList.zipIdx 0) (arrOf st')).Perm a₀
   rw[ea];exact hperm.trans b.perm
  ·intro j hj
   show(lC (sa+k) (m.toList.zipIdx 0) (arrOf st'))[j]? =xs[j]?
   rw[ea,hget,ay (by lia)]
  ·intro i j q1 q2 q3
   show kv R (lC (sa+k) (m.toList.zipIdx 0) (arrOf st')) i<=kv R (lC (sa+k) (m.toList.zipIdx 0) (arrOf st')) j
   rw[ea]
   have out:∀i,¬(sa+k<=i/\i<sa+na+n2)->kv R (lC (sa+k) (m.toList.zipIdx 0) xs) i=kv R xs i:=fun i hi=>mG (by rw[hget,ay (by lia)])
   have ins:∀i,sa+k<=i->i<sa+na+n2->∃z,m.toList[i-(sa+k)]? =some z/\z∈m.toList/\kv R (lC (sa+k) (m.toList.zipIdx 0) xs) i=R z:=fun i hi1 hi2=>by
    have hlt:i-(sa+k)<m.toList.length:=by lia
    refine⟨m.toList[i-(sa+k)],gE hlt,bO _,kv_at ?_⟩
    rw[hget,aA (by lia),Nat.add_zero]
    exact gE hlt
   by_cases ci:sa+k<=i/\i<sa+na+n2
   ·obtain⟨z,z1,z2,z3⟩:=ins i ci.1 ci.2
    obtain⟨iz,y1,y2,y3⟩:=hmz z z2
    by_cases cj:sa+k<=j/\j<sa+na+n2
    ·obtain⟨v,v1,v2,v3⟩:=ins j cj.1 cj.2
     rw[z3,v3]
     by_cases eij:i=j
     ·rw[eij]at z1
      rw[z1]at v1
      cases v1
      exact bI _
     ·have hlt1:i-(sa+k)<m.toList.length:=by lia
      have hlt2:j-(sa+k)<m.toList.length:=by lia
      have q:=bK.mp f.1 (i-(sa+k)) (j-(sa+k)) hlt1 hlt2 (by lia)
      rw[gE hlt1]at z1
      rw[gE hlt2]at v1
      cases z1
      cases v1
      exact q
    ·rw [z3,out j cj,<- kv_at (R:=R) y3]
     have hj2:sa+na+n2<=j:=by lia
     refine cA ?_ (upB j hj2 q3)
     by_cases cz:iz<sa+na
     ·exact lastA iz (by lia) cz
     ·exact cf (lowB iz (by lia) y2)
   ·rw[out i ci]
    by_cases cj:sa+k<=j/\j<sa+na+n2
    ·obtain⟨v,v1,v2,v3⟩:=ins j cj.1 cj.2
     obtain⟨iz,y1,y2,y3⟩:=hmz v v2
     rw [v3,<- kv_at (R:=R) y3]
     refine cA (lowk i q1 (by lia)) ?_
     by_cases cz:iz<sa+na
     ·exact cf (upk iz y1 cz)
     ·exact upb iz (by lia) (by lia)
    ·rw[out j cj]
     by_cases c3:j<sa+na
     ·exact ua i j q1 q2 c3
     ·by_cases c4:i<sa+na
      ·exact cA (lowk i q1 (by lia)) (upb j (by lia) q3)
      ·exact ub i j (by lia) q2 q3
 have close:∀(m:Array Keyed) (st':SortSt),Lk (SortSt.mk' kd xs pd' mg none) st'->Fi R m.toList ((xs.extract (sa+k) (sa+na)).toList++(xs.extract (sa+na) (sa+na+n2)).toList)->
   Q (failedOf (SortSt.mk' (kindOf st') (lC (sa+k) (m.toList.zipIdx 0) (arrOf st')) (pendingOf st') (gallopOf st') (failedOf st'))).isNone (SortSt.mk' (kindOf st') (lC (sa+k) (m.toList.zipIdx 0) (arrOf st')) (pendingOf st') (gallopOf st') (failedOf st')):=by
  intro m st' l f
  obtain⟨z1,z2⟩:=fini m st' l f
  show Q (failedOf st').isNone _
  rw[z2]at z1 ⊢
  exact z1
 refine jo (fun c=>?_) fun c=>?_
 ·exact aG (BP C rfl ix iy hx hy (by lia) (by lia) p0 pl (List.Perm.refl _) fun m st' l f=>aG (eU (aG (fj (aO (close m st' l f))))))
 ·exact aG (BQ C rfl ix iy hx hy (by lia) (by lia) p0 pl (List.Perm.refl _) fun m st' l f=>aG (eU (aG (fj (aO (close m st' l f))))))
end
end So
namespace So
open PySem PyProof.Rows
noncomputable def two(pd:Array (Nat×Nat×Nat)):List (Nat×Nat):=pd.toList.map fun t=>(t.1,t.2.1)
def Ch(R:Keyed->Int)(xs:Array Keyed):Nat->List (Nat×Nat)->Nat->Prop
 |p,[],q=>p=q
 |p,(s,n)::r,q=>s=p/\1<=n/\Up R xs s (s+n)/\Ch R xs (s+n) r q
section
variable{R:Keyed->Int}{xs ys:Array Keyed}
theorem Ch.app:∀{l1 l2:List (Nat×Nat)} {p q:Nat},Ch R xs p (l1++l2) q↔∃m,Ch R xs p l1 m/\Ch R xs m l2 q
 |[],l2,p,q=>⟨fun h=>⟨p,rfl,h⟩,fun⟨m,e,h⟩=>by rw[show p=m from e];exact h⟩
 |(s,n)::l1,l2,p,q=>by
  show s=p/\1<=n/\Up R xs s (s+n)/\Ch R xs (s+n) (l1++l2) q↔_
  rw[Ch.app (l1:=l1)]
  exact⟨fun⟨a,b,c,m,d,e⟩=>⟨m,⟨a,b,c,d⟩,e⟩,fun⟨m,⟨a,b,c,d⟩,e⟩=>⟨a,b,c,m,d,e⟩⟩
theorem Ch.le:∀{l:List (Nat×Nat)} {p q:Nat},Ch R xs p l q->p+l.length<=q
 |[],p,q,h=>by rw[show p=q from h];exact ao _
 |(s,n)::l,p,q,⟨a,b,c,d⟩=>by
  have z:=Ch.le d
  rw[List.length_cons];lia
theorem Up.like{lo hi:Nat}(u:Up R xs lo hi)(h:∀i,lo<=i->i<hi->ys[i]? =xs[i]?):Up R ys lo hi:=fun i j h1 h2 h3=>by
 rw[mG (h i h1 (by lia)),mG (h j (by lia) h3)]
 exact u i j h1 h2 h3
theorem Ch.like:∀{l:List (Nat×Nat)} {p q:Nat},Ch R xs p l q->(∀i,p<=i->i<q->ys[i]? =xs[i]?)->Ch R ys p l q
 |[],p,q,h,_=>h
 |(s,n)::l,p,q,⟨a,b,c,d⟩,e=>by
  have z:=Ch.le d
  exact⟨a,b,c.like fun i h1 h2=>e i (by lia) (by lia),d.like fun i h1 h2=>e i (by lia) h2⟩
end
theorem B8{α:Type}{l:List α}{i:Nat}(h:i+1<l.length):∃P x y S,l=P++x::y::S/\P.length=i/\l[i]? =some x/\l[i+1]? =some y:=by
 refine⟨l.take i,l[i],l[i+1],l.drop (i+2),?_,by rw[aS];lia,gE _,gE _⟩
 rw [<- cN,<- cN,bY]
theorem xx{α:Type}{P S:List α}{x y v:α}:((P++x::y::S).set P.length v).eraseIdx (P.length+1)=P++v::S:=by
 rw[List.set_append_right _ _ (ao _),gR,List.set_cons_zero,List.eraseIdx_append_of_length_le (dA _),show P.length.succ-P.length=1 by lia]
 rfl
section
variable{prog:Program}{w:World}{A:Around}{E:Value->Shared->Prop}{s:Shared}{R:Keyed->Int}{κ:SortKind}{a₀:Array Keyed}{pd:Array (Nat×Nat×Nat)}
theorem AH(C:Cm prog w A s R κ a₀){st:SortSt}(b:Bs κ a₀ pd st){i lo:Nat}(ch:Ch R (arrOf st) 0 (two pd) lo)(hlo:lo<=a₀.size)(hi:i+1<pd.size){Q:Bool->SortSt->Prop}
  (h:∀st' pd',Bs κ a₀ pd' st'->pd'.size+1=pd.size->Ch R (arrOf st') 0 (two pd') lo->(∀j,lo<=j->(arrOf st')[j]? =(arrOf st)[j]?)->Q true st'):wpS (model prog w) A E s (mergeAt' i) Q st:=by
 obtain⟨P,x,y,S,e1,e2,e3,e4⟩:=B8 (l:=pd.toList) (i:=i) (by rw[Array.length_toList];exact hi)
 obtain⟨s1,n1,p1⟩:=x
 obtain⟨s2,n2,p2⟩:=y
 rw[bH]at e3 e4
 unfold two at ch
 rw[e1,aq,Ch.app]at ch
 obtain⟨m,c1,c2⟩:=ch
 rw[ah,ah]at c2
 obtain⟨z1,z2,z3,z4,z5,z6,z7⟩:=c2
 have z1':s1=m:=z1
 have z4':s2=s1+n1:=z4
 subst z1' z4'
 have z5':1<=n2:=z5
 have le2:=Ch.le z7
 have le2':s1+n1+n2+(S.map fun t=>(t.1,t.2.1)).length<=lo:=le2
 have le1:=Ch.le c1
 refine Ge C b e3 e4 z2 z5' (by lia) z3 z6 fun st' b' hout u=>h st' _ b' ?_ ?_ fun j hj=>hout j (.inr (by lia))
 ·have q:((pd.setIfInBounds i (s1,n1+n2,p1)).eraseIdxIfInBounds (i+1)).toList.length+1=pd.toList.length:=by
   rw [gZ,iG,e1,<- e2,xx]
   simp only[av,List.length_cons]
   lia
  rwa[Array.length_toList,Array.length_toList]at q
 ·unfold two
  rw [gZ,iG,e1,<- e2,xx,aq,Ch.app]
  refine⟨s1,c1.like fun k q1 q2=>hout k (.inl q2),rfl,by show 1<=n1+n2;lia,?_,?_⟩
  ·show Up R (arrOf st') s1 (s1+(n1+n2))
   rw [<- gD]; exact u
  ·show Ch R (arrOf st') (s1+(n1+n2)) _ lo
   rw [<- gD]
   exact z7.like fun k q1 q2=>hout k (.inr q1)
theorem Fq(x:Nat×Nat×Nat):two (pd.push x)=two pd++[(x.1,x.2.1)]:=by
 unfold two;rw[eQ,aq];rfl
theorem El(i p:Nat):two (pd.modify i fun x=>match x with |(a,n,_)=>(a,n,p))=two pd:=by
 unfold two
 rw[Array.toList_modify]
 apply eN
 intro j
 rw[aC,aC,List.getElem?_modify]
 cases pd.toList[j]? with
 |none=>rfl
 |some t=>
  obtain⟨a,n,q⟩:=t
  by_cases c:i=j<;>simp[c]
theorem BN(C:Cm prog w A s R κ a₀){st:SortSt}(b:Bs κ a₀ #[] st)(h1:1<=a₀.size){Q:Unit->SortSt->Prop}
  (h:∀st',(arrOf st').Perm a₀->failedOf st'=none->Up R (arrOf st') 0 a₀.size->Q () st'):wpS (model prog w) A E s sortRuns' Q st:=by
 have pn:∀{st:SortSt} {pd:Array (Nat×Nat×Nat)},Bs κ a₀ pd st->(sortPriv%PySem.Builtin.SortState.pending) st=pd:=fun b=>b.pend
 have sz:(sortPriv%PySem.Builtin.SortState.a) st=arrOf st:=rfl
 unfold sortRuns'
 refine aG (fj ?_)
 rw[sz,b.size]
 refine aG (dM (bZ (I:=fun x (c:Option Unit×Nat) st'=>∃lo pd,c=(none,lo)/\Bs κ a₀ pd st'/\Ch R (arrOf st') 0 (two pd) lo/\lo<=a₀.size/\min x a₀.size<=lo)
  (Q:=fun(c:Option Unit×Nat) st'=>∃pd,c=(none,a₀.size)/\Bs κ a₀ pd st'/\Ch R (arrOf st') 0 (two pd) a₀.size) ?step ?fin ⟨0,#[],rfl,b,rfl,bp _,by lia⟩) ?post)
 case fin=>
  rintro c st' ⟨lo,pd,rfl,b',ch,q1,q2⟩
  have e:lo=a₀.size:=by lia
  subst e
  exact⟨pd,rfl,b',ch⟩
 case post=>
  rintro c st' ⟨pd,rfl,b',ch⟩
  refine aG (dM (bZ (I:=fun x (c:Option Unit×Unit) st'=>∃pd,c=(none,())/\Bs κ a₀ pd st'/\Ch R (arrOf st') 0 (two pd) a₀.size/\(pd.size+x<=a₀.size\/pd.size<=1))
   (Q:=fun(c:Option Unit×Unit) st'=>∃pd,c=(none,())/\Bs κ a₀ pd st'/\Ch R (arrOf st') 0 (two pd) a₀.size/\pd.size<=1) ?s2 ?f2 ⟨pd,rfl,b',ch,?_⟩) ?p2)
  case f2=>
   rintro c st2 ⟨pd,rfl,b2,ch2,q⟩
   exact⟨pd,rfl,b2,ch2,by lia⟩
  case p2=>
   rintro c st2 ⟨pd,rfl,b2,ch2,q⟩
   refine aO (h st2 b2.perm b2.ok ?_)
   match hl:two pd,ch2 with
   |[],e=>exact absurd (show 0=a₀.size from e) (by lia)
   |[(p1,n1)],⟨e1,e2,e3,e4⟩=>
    have e1':p1=0:=e1
    have e4':p1+n1=a₀.size:=e4
    rw[e4']at e3
    rw[e1']at e3
    exact e3
   |x::y::r,_=>
    have z:(two pd).length=pd.size:=by unfold two;rw[ae,Array.length_toList]
    rw[hl,List.length_cons,List.length_cons]at z
    lia
  case s2=>
   rintro x c st2 _ hx ⟨pd,rfl,b2,ch2,q⟩
   refine aG (fj ?_)
   rw[pn b2]
   refine jo (fun c=>aO ⟨pd,rfl,b2,ch2,c⟩) fun c=>?_
   refine aG (AH C b2 ch2 (ao _) ?_ fun st3 pd3 b3 q3 ch3 _=>?_)
   ·exact(fun(c:Prop) [Decidable c]=>(by split<;>lia:(if c then pd.size-2-1 else pd.size-2)+1<pd.size)) _
   ·exact jo (fun c=>by cases c) fun _=>aO ⟨pd3,rfl,b3,ch3,by lia⟩
  ·have z:=Ch.le ch
   unfold two at z
   rw[ae,Array.length_toList]at z
   lia
 case step=>
  rintro x c st' _ hx ⟨lo,pd,rfl,b',ch,q1,q2⟩
  refine jo (fun c=>?_) fun c=>?_
  ·have e:lo=a₀.size:=by
    have c':lo ≥ a₀.size:=c
    lia
   subst e
   exact aO ⟨pd,rfl,b',ch⟩
  have c':lo<a₀.size:=Nat.lt_of_not_le c
  refine aG (En (lo:=lo) (nrem:=a₀.size-lo) C (by lia) (by lia) b' fun m st2 b2 f2 m1 m2 u2=>?_)
  have ch2:Ch R (arrOf st2) 0 (two pd) lo:=ch.like fun i _ hi=>f2 i hi
  have push:∀(n:Nat) (st4:SortSt) (pd4:Array (Nat×Nat×Nat)),Bs κ a₀ pd4 st4->Ch R (arrOf st4) 0 (two pd4) lo->Up R (arrOf st4) lo (lo+n)->1<=n->lo+n<=a₀.size->
    ∃lo' pd',((none,lo+n):Option Unit×Nat)=(none,lo')/\Bs κ a₀ pd' (SortSt.mk' (kindOf st4) (arrOf st4) ((pendingOf st4).push (lo,n,0)) (gallopOf st4) (failedOf st4))/\Ch R (arrOf st4) 0 (two pd') lo'/\lo'<=a₀.size/\min (x+1) a₀.size<=lo':=by
   intro n st4 pd4 b4 ch4 u4 n1 n2
   refine⟨lo+n,pd4.push (lo,n,0),rfl,⟨b4.perm,b4.kind,b4.ok,?_⟩,?_,n2,by lia⟩
   ·show(pendingOf st4).push (lo,n,0)=_
    rw[b4.pend]
   ·rw[Fq,Ch.app]
    exact⟨lo,ch4,rfl,n1,u4,rfl⟩
  refine jo (fun cm=>?_) fun cm=>?_
  case' refine_1=>
   refine aG (gn (cY ⟨rfl,?_⟩))
   refine aG (BS (lo:=lo) (n:=min (a₀.size-lo) (minRun' a₀.size a₀.size 0)) (ok:=m) C (by lia) (by
    have cm':m<minRun' a₀.size a₀.size 0:=cm
    lia) b2 u2 fun st3 b3 f3 u3=>?_)
   refine jo (fun c=>by cases c) fun _=>?_
   have ch3:Ch R (arrOf st3) 0 (two pd) lo:=ch2.like fun i _ hi=>f3 i hi
   have n1:1<=min (a₀.size-lo) (minRun' a₀.size a₀.size 0):=by
    have cm':m<minRun' a₀.size a₀.size 0:=cm
    lia
   have n2:lo+min (a₀.size-lo) (minRun' a₀.size a₀.size 0)<=a₀.size:=by lia
   obtain⟨n,hn⟩:∃n,n=min (a₀.size-lo) (minRun' a₀.size a₀.size 0):=⟨_,rfl⟩
  case' refine_2=>
   have ch3:=ch2
   have b3:=b2
   have u3:=u2
   have n1:=m1
   have n2:lo+m<=a₀.size:=by lia
   obtain⟨n,hn⟩:∃n,n=m:=⟨_,rfl⟩
  all_goals
   refine aG (fj ?_)
   rw[pn b3]
   cases hb:pd.back? with
   |none=>exact aG (eU (aO (push _ _ _ b3 ch3 u3 n1 n2)))
   | some t=>
    obtain⟨s1,k1,p1⟩:=t
    rw [<- hn] at u3
    refine aG (dM (bZ (I:=fun y (c:Option Unit×Unit) st4=>c=(none,())/\∃pd4,Bs κ a₀ pd4 st4/\Ch R (arrOf st4) 0 (two pd4) lo/\Up R (arrOf st4) lo (lo+n))
     (Q:=fun(c:Option Unit×Unit) st4=>c=(none,())/\∃pd4,Bs κ a₀ pd4 st4/\Ch R (arrOf st4) 0 (two pd4) lo/\Up R (arrOf st4) lo (lo+n)) ?s4 (fun _ _ z=>z) ⟨rfl,pd,b3,ch3,u3⟩) ?p4)
    case s4=>
     rintro y c st4 _ hy ⟨rfl,pd4,b4,ch4,u4⟩
     refine aG (fj ?_)
     rw[pn b4]
     dsimp only
     by_cases c4:pd4.size>1
     ·have e:(if pd4.size>1 then pd4[pd4.size-2]? else none)=some (pd4[pd4.size-2]'(by lia)):=by rw[aA c4];exact cH _ _ (by lia)
      rw[e]
      obtain⟨v1,v2,v3⟩:=pd4[pd4.size-2]'(by lia)
      refine jo (fun _=>aO ⟨rfl,pd4,b4,ch4,u4⟩) fun _=>?_
      refine aG (AH C b4 ch4 (by lia) (by lia) fun st5 pd5 b5 _ ch5 o5=>?_)
      exact jo (fun c=>by cases c) fun _=>aO ⟨rfl,pd5,b5,ch5,u4.like fun i h1 _=>o5 i h1⟩
     ·rw[ay c4]
      exact aO ⟨rfl,pd4,b4,ch4,u4⟩
    case p4=>
     rintro c st4 ⟨rfl,pd4,b4,ch4,u4⟩
     rw[hn]at u4
     refine aG (eU (aG (eU (aO ?_))))
     refine push _ _ _ ⟨b4.perm,b4.kind,b4.ok,rfl⟩ ?_ u4 n1 n2
     refine(cx (fun z=>Ch R (arrOf st4) 0 z lo) (El (pd:=pendingOf st4) _ _)).mpr ?_
     rw[b4.pend]
     exact ch4
end
end So
namespace So
open PySem PyProof.Rows
section
variable{prog:Program}{w:World}{A:Around}{E:Value->Shared->Prop}{s:Shared}
theorem Ae(vs:List Value):vs.zip vs=vs.map fun v=>(v,v):=by
 induction vs with
 |nil=>rfl
 |cons v vs ih=>rw[List.zip_cons_cons,ih,ah]
theorem Up.all{R:Keyed->Int}{xs:Array Keyed}(u:Up R xs 0 xs.size):xs.toList.Pairwise (Le R):=by
 rw[bK]
 intro i j hi hj hij
 rw[Array.length_toList]at hi hj
 exact u.le (cH xs i hi) (cH xs j hj) (dF hij)
theorem C5{R:Keyed->Int}{vs:List Value}{xs:Array Keyed}(p:xs.Perm (pairsOf vs))(u:Up R xs 0 xs.size):(xs.map (·.2)).toList.Perm vs/\(xs.map (·.2)).toList.Pairwise fun a b=>R (a,a)<=R (b,b):=by
 have hp:xs.toList.Perm (vs.map fun v=>(v,v)):=by rw [<- Ae,<- pairsOf_toList]; exact eA.mp p
 rw[Array.toList_map]
 refine⟨?_,?_⟩
 ·have z:=hp.map (·.2)
  rw[bt]at z
  have e:vs.map ((fun x:Keyed=>x.2)∘fun v=>(v,v))=vs:=by
   rw[show((fun x:Keyed=>x.2)∘fun v=>(v,v))=id from rfl,List.map_id]
  rwa[e]at z
 ·rw[bB]
  refine fF ?_ u.all
  intro a b ha hb hab
  obtain⟨v,_,rfl⟩:=aw.mp (hp.mem_iff.mp ha)
  obtain⟨u',_,rfl⟩:=aw.mp (hp.mem_iff.mp hb)
  exact hab
def tm(prog:Program)(w:World)(s:Shared)(vs:List Value)(R:Keyed->Int)(κ:SortKind):Prop:=
 ∀(A:Around) (h':Heap),(∀b o,s.heap.get? b=some o->h'.get? b=some o)->
  (∀(Q:SortKind->Shared->Prop) (E:Value->Shared->Prop),Q κ {s with heap:=h'}->wpAny (model prog w) A (keyKind' vs.toArray) Q E {s with heap:=h'})/\Cm prog w A {s with heap:=h'} R κ (pairsOf vs)
theorem yO{a:Addr}{vs:List Value}{n:Nat}{P:PySem.Fin->Shared->Prop}{R:Keyed->Int}{κ:SortKind}{h₁:Heap}(ho:s.heap.get? a=some (seqObj "list" vs.toArray n))(hz:vs.length<=sizeLine)
  (hold:∀b o,h₁.get? b=some o->b≠a/\s.heap.get? b=some o) (hk:2<=vs.length->tm prog w {s with heap:=h₁} vs R κ)
  (h:∀out:Array Value,out.toList.Perm vs->out.toList.Pairwise (fun a b=>R (a,a)<=R (b,b))->P (.done (.ret .none)) {s with heap:=sortedHeap s.heap a vs out}):
  wpAny (model prog w) A (Builtin.«list.sort» ⟨[.ref a],[]⟩) P E s:=by
 rw[list_sort_plain]
 have ha:a<s.heap.objs.size:=aL ho
 have hz1:vs.toArray.size<=sizeLine:=by rw[au];exact hz
 refine af (listItems_at ho rfl (af (listUpdate_at ho rfl ?_ hz1 (bp _))))
 obtain⟨e1,ho1⟩:∃e1,(s.heap.update a (Obj.mapSeq fun _=>(#[]:Array Value))).get? a=some (seqObj "list" #[] e1):=⟨_,get?_update_seq ho fun _=>#[]⟩
 refine af (seqEpoch_at ho1 rfl (af (wpAny_newTuple (af (gB (cq ?_) (bp _))) hz)))
 have keep:∀b o,b≠a->s.heap.get? b=some o->(((s.heap.update a (Obj.mapSeq fun _=>(#[]:Array Value))).push (seqObj "tuple" vs.toArray 0)).push (seqObj "list" #[] 0)).get? b=some o:=fun b o hne q=>
  ag _ (ag _ (by rw[Heap.get?_update_ne _ _ _ _ hne];exact q))
 have ho6:(((s.heap.update a (Obj.mapSeq fun _=>(#[]:Array Value))).push (seqObj "tuple" vs.toArray 0)).push (seqObj "list" #[] 0)).get? a=some (seqObj "list" #[] e1):=ag _ (ag _ ho1)
 show wpAny (model prog w) A _ P E {s with heap:=((s.heap.update a (Obj.mapSeq fun _=>(#[]:Array Value))).push (seqObj "tuple" vs.toArray 0)).push (seqObj "list" #[] 0)}
 dsimp only
 have fin:∀st':SortSt,(arrOf st').Perm (pairsOf vs)->Up R (arrOf st') 0 (arrOf st').size->P (.done (.ret .none)) {s with heap:=sortedHeap s.heap a vs ((arrOf st').map (·.2))}:=fun st' p u=>by
  obtain⟨z1,z2⟩:=C5 p u
  exact h _ z1 z2
 by_cases c2:vs.toArray.size<2
 ·rw[aA c2,aA c2]
  refine af (aB ?_)
  rw[StateT.run_pure]
  refine af (aB (af (seqEpoch_at ho6 rfl (af (listUpdate_at ho6 rfl ?_ (bp _) (by rw[Array.size_map];show(pairsOf vs).size<=_;rw[gN];exact Nat.le_succ_of_le hz))))))
  simp only[bne_self_eq_false,ba,if_false]
  refine aB (fin (SortSt.mk' general' (vs.toArray.zip vs.toArray) #[] 7 none) (Array.Perm.refl _) (Up.one ?_))
  show(pairsOf vs).size<=1
  rw[gN]
  rw[au]at c2
  lia
 ·rw[ay c2,ay c2]
  rw[au]at c2
  obtain⟨k1,k2⟩:=hk (by lia) A _ fun b o q=>keep b o (hold b o q).1 (hold b o q).2
  refine af (k1 _ _ ?_)
  have k3:=BN (E:=E) (st:=SortSt.mk' κ (pairsOf vs) #[] 7 none) (Q:=fun _ st'=>(arrOf st').Perm (pairsOf vs)/\failedOf st'=none/\Up R (arrOf st') 0 (pairsOf vs).size) k2 ⟨Array.Perm.refl _,rfl,rfl,rfl⟩ (by rw[gN];lia) fun st' a1 a2 a3=>⟨a1,a2,a3⟩
  refine af (dh k3 ?_ fun _ _ e=>e)
  rintro⟨⟨⟩,st'⟩ s' ⟨rfl,hp,hf,hs⟩
  dsimp only
  refine af (seqEpoch_at ho6 rfl (af (listUpdate_at ho6 rfl ?_ (bp _) (by refine bE (Nat.le_of_eq ((Array.size_map ..).trans (hp.size_eq.trans (gN _)))) (Nat.le_succ_of_le hz)))))
  rw[hf]
  simp only[bne_self_eq_false,ba,if_false]
  rw [<- hp.size_eq] at hs
  exact aB (fin st' hp hs)
theorem Ga{l:Addr}{vs:List Value}{Q:Value->Shared->Prop}{R:Keyed->Int}{κ:SortKind}(hl:s.heap.IsList l vs.toArray)(hz:vs.length<=sizeLine)(hk:2<=vs.length->tm prog w s vs R κ)
  (h:∀out:Array Value,out.toList.Perm vs->out.toList.Pairwise (fun a b=>R (a,a)<=R (b,b))->Q (.ref (s.heap.objs.size+1)) {s with heap:=sortedAll s.heap vs out}):
  wpAny (model prog w) A (call (.builtin "sorted") [.ref l]) Q E s:=by
 refine Calls.call_function_entry kind_sorted plain_sorted entry_sorted (args_sorted1 _) ?_
 unfold Builtin.«sorted»
 refine af (m:=checkCount "sorted" 1 1 _) (aB (af (collect_list hl (af (gB ?_ hz)) hz)))
 have hsz:((s.heap.push (seqObj "list" #[] 0)).update s.heap.objs.size (Obj.mapSeq (·++vs.toArray))).objs.size=s.heap.objs.size+1:=by rw[Heap.size_update,size_push']
 generalize hh:((s.heap.push (seqObj "list" #[] 0)).update s.heap.objs.size (Obj.mapSeq (·++vs.toArray))).push (seqObj "list" vs.toArray 0)=h2
 have hoL:h2.get? (s.heap.objs.size + 1) = some (seqObj "list" vs.toArray 0):=by rw [<- hh,<- hsz]; exact aR _ rfl
 have keep:∀b o,s.heap.get? b=some o->b≠s.heap.objs.size+1/\h2.get? b=some o:=fun b o q=>by
  have hlt:b<s.heap.objs.size:=aL q
  refine⟨aX (dZ hlt),?_⟩
  rw [<- hh]
  exact ag _ (by rw[Heap.get?_update_ne _ _ _ _ (aX hlt)];exact ag _ q)
 show wpAny _ _ _ _ _ {s with heap:=h2}
 rw[hsz]
 refine af (cq (dq slot_list_sort ⟨_,hoL,rfl⟩ entry_list_sort (yO (s:={s with heap:=h2}) (h₁:=s.heap) hoL hz keep hk fun out p1 p2=>⟨_,rfl,?_⟩) (args_list_sort _)))
 refine aB ⟨_,rfl,?_⟩
 have z:=h out p1 p2
 unfold sortedAll at z
 rw[hh]at z
 exact z
theorem Fv{vs:List Value}{ns:List Int}(hI:IntsAre vs ns)(h2:2<=vs.length):tm prog w s vs (fun k=>numOf k.1) oneType':=by
 intro A h' _
 refine⟨fun Q E q=>?_,fun x y hx hy Q E q=>?_⟩
 ·obtain⟨v₁,v₂,rest,rfl⟩:∃v₁ v₂ rest,vs=v₁::v₂::rest:=by
   match vs,h2 with
   |v₁::v₂::rest,_=>exact⟨v₁,v₂,rest,rfl⟩
  rw[keyKind_ints hI]
  exact aB q
 ·obtain⟨a,t,e1⟩:=hI.intKeys x hx
  obtain⟨b,u,e2⟩:=hI.intKeys y hy
  rcases x with⟨x,x'⟩
  rcases y with⟨y,y'⟩
  dsimp only at e1 e2
  subst e1 e2
  rw[keyLt'_oneType]
  exact oneLt_int q
def PairAt(h:Heap)(v:Value)(x y:Int):Prop:=∃a o t u n,v= .ref a/\h.get? a=some o/\o.cls= .type "tuple"/\o.data= .seq #[.int x t,.int y u] n
theorem Ar{h:Heap}:∀{vs:List Value},(∀v∈vs,∃x y,PairAt h v x y)->∃fs,PySem.W.KatTups h vs fs/\fs.length=vs.length/\∀f∈fs,∃i t,f= .int i t
 |[],_=>⟨[],trivial,rfl,fun _ q=>by cases q⟩
 |v::vs,hv=>by
  obtain⟨fs,h1,h2,h3⟩:=Ar (vs:=vs) fun v m=>hv v (.tail _ m)
  obtain⟨x,y,a,o,t,u,n,rfl,e1,e2,e3⟩:=hv v (.head _)
  refine⟨.int x t::fs,.cons e1 e2 e3 rfl h1,by rw[List.length_cons,List.length_cons,h2],fun f m=>?_⟩
  rcases aM.mp m with rfl|m
  ·exact⟨x,t,rfl⟩
  ·exact h3 f m
theorem yC{B x y x' y':Int}(h1:0<=y)(h2:y<B)(h3:0<=y')(h4:y'<B):x*B+y<x'*B+y'↔x<x'\/(x=x'/\y<y'):=by
 constructor
 ·intro h
  rcases Int.lt_trichotomy x x' with c|c|c
  ·exact .inl c
  ·subst c;exact .inr ⟨rfl,by lia⟩
  ·exfalso
   have q:(x'+1)*B<=x*B:=hJ (by lia) (by lia)
   rw[ic,gv]at q
   lia
 ·rintro(c|⟨rfl,c⟩)
  ·have q:(x+1)*B<=x'*B:=hJ (by lia) (by lia)
   rw[ic,gv]at q
   lia
  ·lia
theorem Gh{vs:List Value}{R:Keyed->Int}{B:Int}(hv:∀v∈vs,∃x y,PairAt s.heap v x y/\R (v,v)=x*B+y/\0<=y/\y<B)(h2:2<=vs.length):tm prog w s vs R (tuples' true):=by
 intro A h' keep
 refine⟨fun Q E q=>?_,fun x y hx hy Q E q=>?_⟩
 ·obtain⟨fs,k1,k2,k3⟩:=Ar (h:=h') (vs:=vs) fun v m=>by
   obtain⟨x,y,⟨a,o,t,u,n,e0,e1,e2⟩,_⟩:=hv v m
   exact⟨x,y,a,o,t,u,n,e0,keep _ _ e1,e2⟩
  refine PySem.W.kat_kind (T:=.type "int") k1 (by lia) (fun f m=>?_) rfl q
  obtain⟨i,t,rfl⟩:=k3 f m
  exact PySem.W.Looks.of_pure rfl
 ·rw[pairsOf_toList,Ae]at hx hy
  obtain⟨v,mv,rfl⟩:=aw.mp hx
  obtain⟨u,mu,rfl⟩:=aw.mp hy
  obtain⟨x1,y1,⟨a,o,t1,t2,n,rfl,e1,e2,e3⟩,r1,r2,r3⟩:=hv v mv
  obtain⟨x2,y2,⟨b,p,t3,t4,m,rfl,e4,e5,e6⟩,r4,r5,r6⟩:=hv u mu
  rw[r1,r4]at q
  have lx:=yC (x:=x1) (x':=x2) r2 r3 r5 r6
  refine PySem.W.kat_lt (b:=true) (s:={s with heap:=h'}) (keep _ _ e1) e3 (keep _ _ e4) e6 ?_
  refine PySem.W.kat_cons (g9 ?_)
  by_cases c:x1=x2
  ·rw[show(x1==x2)=true by rw[c];exact fG _]
   refine PySem.W.kat_yes (PySem.W.kat_cons (g9 ?_))
   by_cases c2:y1=y2
   ·rw[show(y1==y2)=true by rw[c2];exact fG _]
    refine PySem.W.kat_yes (PySem.W.kat_nil ?_)
    rw[show decide (x1*B+y1<x2*B+y2)=false by rw[dy,lx];lia]at q
    exact q
   ·rw[show(y1==y2)=false by rw[bX];exact c2]
    refine PySem.W.kat_no (PySem.W.kat_one _ _ (lt_int ?_))
    rw[show decide (x1*B+y1<x2*B+y2)=decide (y1<y2) by rw[hC,lx];lia]at q
    exact q
  ·rw[show(x1==x2)=false by rw[bX];exact c]
   refine PySem.W.kat_no (oneLt_int ?_)
   rw[show decide (x1*B+y1<x2*B+y2)=decide (x1<x2) by rw[hC,lx];lia]at q
   exact q
end
end So
namespace L2
open PySem PySem.Spec PyProof.Rows
def oK(a b:Int×Int):Prop:=a.1<b.1\/(a.1=b.1/\a.2<=b.2)
noncomputable def ke(H:Hp):Value->Int×Int
 | .ref a=>match H a with
  |some (.tup [.int x,.int y])=>(x,y)
  |_=>(0,0)
 |_=>(0,0)
noncomputable def nO:Value->V
 | .ref a=>.ref a
 |_=>.non
def Cw:List V->Hp->VK->Prop:=fun vs H Q=>∃(p:Addr) (xs:List V) (ps:List (Int×Int)) (B:Int),vs=[.ref p]/\H p=some (.lst xs)/\Prs H xs ps/\xs.length<=1000/\(∀q∈ps,0<=q.2/\q.2<B)/\
 ∀(l:Addr) (ys:List V) (qs:List (Int×Int)),H l=none->Prs H ys qs->qs.Perm ps->qs.Pairwise oK->Q (.ref l) (upd H l (.lst ys))
theorem zi{H:Hp}:∀{xs:List V} {its:List Value} {ps:List (Int×Int)},Vals xs its->Prs H xs ps->its.map (ke H)=ps/\∀v∈its,RelV (nO v) v/\Pr H (nO v) (ke H v)
 |_,_,_,.nil,.nil=>⟨rfl,fun _ m=>by cases m⟩
 | _,_,_,.cons r t,.cons q u=>by
  obtain⟨e1,e2⟩:=zi t u
  obtain⟨a,rfl,ea⟩:=q
  cases r
  rename_i b _
  have e:ke H (.ref a)=b:=by unfold ke;dsimp only;rw[ea]
  refine⟨?_,fun v m=>?_⟩
  ·rw[ah,e1,e]
  ·rcases aM.mp m with rfl|m
   ·rw[e];exact⟨rfl,a,rfl,ea⟩
   ·exact e2 v m
theorem ym{H:Hp}:∀{us:List Value},(∀v∈us,RelV (nO v) v/\Pr H (nO v) (ke H v))->Vals (us.map nO) us/\Prs H (us.map nO) (us.map (ke H))
 |[],_=>⟨.nil,.nil⟩
 |v::us,h=>by
  obtain⟨a,b⟩:=ym (us:=us) fun v m=>h v (.tail _ m)
  obtain⟨c,d⟩:=h v (.head _)
  exact⟨.cons c a,.cons d b⟩
theorem Gn{X:Cx}:jbw X (.builtin "sorted") Cw:=by
 intro pins s σ H xs us Q I r h
 obtain⟨p,xs,ps,B,rfl,e,pp,hz,hB,q⟩:=h
 obtain⟨u,rfl,rx⟩:=mK r
 cases rx
 obtain⟨its,r',pl,_⟩:=I.list (SqL.of e)
 have hlen:=r'.length
 obtain⟨m1,m2⟩:=zi r' pp
 have hz2:(1000:Nat)<=sizeLine:=by decide
 have hpv:∀ v ∈ its,ke H v ∈ ps:=fun v m=>by rw [<- m1]; exact cM m
 refine So.Ga (R:=fun k=>(ke H k.1).1*B+(ke H k.1).2) pl.isList (by lia) (fun h2=>So.Gh (B:=B) (fun v m=>?_) h2) fun out o1 o2=>?_
 ·obtain⟨a,ea,eh⟩:=(m2 v m).2
  have ev:v= .ref a:=by
   have z:=(m2 v m).1
   rw[ea]at z
   exact z
  obtain⟨_,is2,rv,ob,eo,ec,n,en⟩:=I.hok _ _ eh
  match is2,rv with
  |_,.cons ⟨t1,e1⟩ (.cons ⟨t2,e2⟩ .nil)=>
   subst e1 e2
   exact⟨(ke H v).1,(ke H v).2,⟨a,ob,t1,t2,n,ev,eo,ec,en⟩,rfl,hB _ (hpv v m)⟩
 ·obtain⟨c,hc⟩:=sortedAll_at s.heap its out
  obtain⟨b1,b2⟩:=ym (H:=H) (us:=out.toList) fun v m=>m2 v (o1.mem_iff.mp m)
  have hol:=o1.length_eq
  refine⟨.ref (s.heap.objs.size+1),_,I.laid (t':=s.toks) (fun _ _=>sortedAll_old) (dA _) (show jbk X.prog X.w _ _ _ (.lst (out.toList.map nO))from⟨?_,out.toList,c,b1,?_⟩),rfl,q _ _ (out.toList.map (ke H)) (I.hok.fresh (dA _)) b2 ?_ ?_⟩
  ·rw[ae];lia
  ·rw[hc]
  ·have z:=o1.map (ke H)
   rwa[m1]at z
  ·rw[bB]
   refine fF ?_ o2
   intro u v mu mv huv
   have g1:=hB _ (hpv u (o1.mem_iff.mp mu))
   have g2:=hB _ (hpv v (o1.mem_iff.mp mv))
   have z:=So.yC (x:=(ke H v).1) (x':=(ke H u).1) g2.1 g2.2 g1.1 g1.2
   have z2:¬((ke H v).1<(ke H u).1\/((ke H v).1=(ke H u).1/\(ke H v).2<(ke H u).2)):=fun w=>by
    have:=z.mpr w
    dsimp only at huv
    lia
   unfold oK
   lia
def Cv:List V->Hp->VK->Prop:=fun vs H Q=>∃(p:Addr) (ns:List Int),vs=[.ref p]/\H p=some (.lst (ns.map V.int))/\Q (.int ns.sum) H
theorem pQ{X:Cx}(hc:X.calm=true):jbw X (.builtin "sum") Cv:=by
 intro pins s σ H xs us Q I r h
 obtain⟨p,ns,rfl,e,q⟩:=h
 obtain⟨u,rfl,rx⟩:=mK r
 cases rx
 obtain⟨its,r',pl,_⟩:=I.list (SqL.of e)
 have hI:=oq r'
 obtain⟨zs,hz⟩:=hI.allInts.items
 have hn:=hI.numsOf
 have hl:=pl.isList
 rw[hz]at hl
 refine sum_intListG (I.ok.hd hc) hl fun h' tk t' hk=>?_
 have e2:preSum (numAt zs) zs.size=ns.sum:=by
  rw [preSum_eq,bQ (by simp),<- hn,<- nums_intItems,<- hz]
 rw[e2]
 exact⟨.int ns.sum,H,I.kept hk,⟨t',rfl⟩,q⟩
noncomputable def qp(f:Bool->Bool):R2:=fun x y H Q=>match x,y with
 | .bl a,.bl b=>Q (.bl (f (a==b))) H
 |_,_=>False
theorem Iu{f:Bool->Bool}{x y:V}{H:Hp}{Q:VK}(h:qp f x y H Q):∃a b,x= .bl a/\y= .bl b/\Q (.bl (f (a==b))) H:=by
 unfold qp at h
 split at h
 ·exact⟨_,_,rfl,rfl,h⟩
 ·exact h.elim
theorem CQ{X:Cx}:OpR X (compareOp .IsNot) (qp not):=by
 intro pins s σ H x y v u Q I rx ry h
 obtain⟨a,b,rfl,rfl,q⟩:=Iu h
 cases rx
 cases ry
 exact isnot_bool (jG I q rfl)
theorem Fk{k:iJ}{v:Value}(h:mW k v=true):RelV (kV k) v:=by
 rcases mw h with⟨i,t,rfl,rfl⟩|⟨x,t,rfl,rfl⟩
 ·exact⟨t,rfl⟩
 ·exact⟨t,rfl⟩
theorem kv_at{kvs:List (iJ×V)}{vs:List (iJ×Value)}(r:KV kvs vs){i:Nat}{k:iJ}{x:Value}(e:vs[i]? =some (k,x)):∃kv,kvs[i]? =some kv/\kv.1=k:=by
 obtain⟨kv,e1,e2⟩:=vR r e
 exact⟨kv,e1,e2.1⟩
def CG:List V->Hp->VK->Prop:=fun vs H Q=>∃(p:Addr) (kvs:List (iJ×V)),vs=[.ref p]/\H p=some (.dK kvs)/\∀l,H l=none->Q (.ref l) (upd H l (.lst (kvs.map fun kv=>kV kv.1)))
theorem AF:∀{kvs:List (iJ×V)} {vs:List (iJ×Value)} {us:List Value},KV kvs vs->us.length=vs.length->(∀(j:Nat) (v:Value),us[j]? =some v->∃k x,vs[j]? =some (k,x)/\mW k v=true)->Vals (kvs.map fun kv=>kV kv.1) us
 |[],_,us,.nil,hl,_=>by
  cases us with
  |nil=>exact .nil
  |cons _ _=>simp at hl
 | kv::kvs,_,us,.cons (b:=b) r t,hl,hv=>by
  cases us with
  |nil=>simp at hl
  |cons u us=>
   obtain⟨k,x,e1,e2⟩:=hv 0 u rfl
   simp only[List.getElem?_cons_zero,cK]at e1
   have hk:kv.1=k:=by rw[r.1,e1]
   refine .cons (by show RelV (kV kv.1) u;rw[hk];exact Fk e2) (AF t (by simpa using hl) fun j v hj=>?_)
   obtain⟨k',x',z1,z2⟩:=hv (j+1) v (by simpa using hj)
   exact⟨k',x',by simpa using z1,z2⟩
theorem Gm{X:Cx}(hc:X.calm=true):jbw X (.type "list") CG:=by
 intro pins s σ H xs us Q I r h
 obtain⟨p,kvs,rfl,e,q⟩:=h
 obtain⟨u,rfl,rx⟩:=mK r
 cases rx
 obtain⟨z,lo,vs',rel,dd⟩:=qS I.hok e
 obtain⟨ep,hat⟩:=dd.dictAt
 have hkl:=rel.length
 refine PySem.W.kdl_call (PySem.W.kdl_dict (knd:=jR X.prog X.w) (kvs:=vs') (ep:=ep) lo) (I.ok.hd hc) hat (by lia) fun h' tk acc c hkp hS hacc=>?_
 have hl:acc.toList.length=vs'.length:=by rw[Array.length_toList];exact hacc.1
 have hv:=AF rel hl fun j v ej=>hacc.2 j v (by rw [<- bH]; exact ej)
 refine⟨.ref s.heap.objs.size,_,I.laid (t':=tk) hkp (ao _) (show jbk X.prog X.w _ _ _ (.lst _)from⟨by rw[ae];exact z,acc.toList,c,hv,?_⟩),rfl,q _ (I.hok.fresh (ao _))⟩
 rw[Array.toArray_toList]
 exact hS
noncomputable def mU(C:Addr)(o:Option HO)(f:Str):Option V:=match o with
 |some (.ins C' _ fs)=>if C'=C then fs.lookup f else none
 |_=>none
noncomputable def lZ(C:Addr)(o:Option HO)(m:Str):Bool:=match o with
 |some (.ins C' _ fs)=>decide (C'=C)&&(fs.lookup m).isNone
 |_=>false
def Bq(C:Addr)(f:Str)(ta:TE):TE:=fun σ H Q=>ta σ H fun x H1=>match x with
 | .ref a=>match mU C (H1 a) f with
  |some v=>Q v H1
  |none=>False
 |_=>False
def xj(C:Addr)(f:Str)(ta tv:TE):TS:=fun D σ H=>tv σ H fun y H1=>ta σ H1 fun x H2=>match x with
 | .ref a=>match H2 a with
  |some (.ins C' dx fs)=>C'=C/\fs.length<1000/\D.nx σ (upd H2 a (.ins C dx (jk f y fs)))
  |_=>False
 |_=>False
def qU(C:Addr)(m:Str)(sp:Sp)(dvs:List V)(E:XK)(ta:TE)(t:TA):TE:=fun σ H Q=>ta σ H fun x H1=>match x with
 | .ref a=>lZ C (H1 a) m=true/\t σ H1 fun vs H2=>sp (.ref a::(vs++dvs)) H2 Q E
 |_=>False
section
variable{X:Cx}{C:Addr}
theorem EC{o:Option HO}{f:Str}{v:V}(h:mU C o f=some v):∃dx fs,o=some (.ins C dx fs)/\fs.lookup f=some v:=by
 unfold mU at h
 split at h
 ·split at h
  ·rename_i c;subst c;exact⟨_,_,rfl,h⟩
  ·cases h
 ·cases h
theorem EW{o:Option HO}{m:Str}(h:lZ C o m=true):∃dx fs,o=some (.ins C dx fs)/\fs.lookup m=none:=by
 unfold lZ at h
 split at h
 ·rw[cE]at h
  have c:=cG h.1
  subst c
  exact⟨_,_,rfl,Option.isNone_iff_eq_none.mp h.2⟩
 ·cases h
theorem l6{e:Expr}{f:Str}{pos:Pos}{ta:TE}(c:Cls X.K C)(n:jea X.K C f)(he:PE X e ta)(hb:attributeBase e f X.env (eval e X.env)=eval e X.env):PE X (.Attribute e f pos) (Bq C f ta):=by
 intro pins s σ H Q I h
 refine DE hb (iP (he pins s σ H _ I h) fun u s1 ⟨x,H1,I1,rx,q⟩=>?_)
 dsimp only at q
 split at q
 ·rename_i a
  split at q
  ·rename_i v hv
   obtain⟨dx,fs,ea,l⟩:=EC hv
   obtain rfl:u=Value.ref a:=rx
   exact Gs I1 ea c n l fun u' s2 I2 ru=>⟨v,H1,I2,ru,q⟩
  ·exact q.elim
 ·exact q.elim
theorem uU{o value:Expr}{f:Str}{pos pos':Pos}{ta tv:TE}(c:Cls X.K C)(n:jea X.K C f)(ha:PE X o ta)(hv:PE X value tv)(hs:swapsWith value (some (.Attribute o f pos')) pos.line X.env=pure false):PS X (.Assign [.Attribute o f pos'] value pos) (xj C f ta tv):=by
 intro pins s σ H D I h
 refine plainObj_wpAny_Assign_Attribute (iP (hv pins s σ H _ I h) fun u s1 ⟨y,H1,I1,ry,q⟩=>iP (ha pins s1 σ H1 _ I1 q) fun ov s2 ⟨x,H2,I2,rx,q2⟩=>?_) hs
 dsimp only at q2
 split at q2
 ·rename_i a
  split at q2
  ·rename_i C' dx fs ea
   obtain⟨rfl,l,q2⟩:=q2
   obtain rfl:ov=Value.ref a:=rx
   exact GI I2 ea c n l ry fun s3 I3=>⟨σ,_,I3,q2⟩
  ·exact q2.elim
 ·exact q2.elim
theorem zA{m:Str}{sp:Sp}{dvs:List V}{E:XK}{ta:TE}{t:TA}{ex:Expr}(h:PE X ex (ug C m sp dvs E ta t))(hmono:∀pins s σ H Q Q',Inv X pins σ H s->(∀x H1,Q x H1->Q' x H1)->ta σ H Q->ta σ H Q'):PE X ex (qU C m sp dvs E ta t):=by
 intro pins s σ H Q I q
 refine h pins s σ H Q I (hmono pins s σ H _ _ I (fun x H1 q=>?_) q)
 split at q
 ·rename_i a
  obtain⟨dx,fs,e,l⟩:=EW q.1
  exact⟨a,dx,fs,rfl,e,l,q.2⟩
 ·exact q.elim
theorem ve{i:Nat}:∀(pins:List (Addr×Obj)) s σ H Q Q',Inv X pins σ H s->(∀x H1,Q x H1->Q' x H1)->kc i σ H Q->kc i σ H Q':=by
 intro pins s σ H Q Q' _ h q
 unfold kc at q ⊢
 split
 ·rename_i v e
  rw[e]at q
  exact h _ _ q
 ·rename_i hne
  split at q
  ·rename_i v e;exact absurd e (hne v)
  ·exact q
theorem nc{CX:lu}{k:Nat}{f:Addr}{fd:FuncData}{ps:List Str}{sp:Sp}{dvs:List V}{ds:List Value}{E:XK}{m:Str}{pos apos:Pos}{e o:Expr}{es:List Expr}{i:Nat}{t:TA}{pl:Sem Bool}
  (he:PE X o (kc i)) (c:Cls X.K C) (hm:Meth X.K C m f) (F:FnOk X.prog X.w X.K X.mg X.base CX k f fd ps sp) (hr:Room k X.A) (hb:jf0 X.K fd ps ds) (hd:Vals dvs ds) (hx:mZ CX X E) (ha:PA X (e::es) t)
  (hst:starEach (e::es) X.env=(false,eval e X.env)::starEach es X.env:=by rfl) (hpl:(backTo pos (starEach es X.env)).any (·.1)=false:=by rfl)
  (ht:eval (.Call (.Attribute o m apos) (e :: es) [] pos) X.env = (do
   let ov <- eval o X.env
   standAt apos.atName
   let (f,first) <- holding [ov] (getMethod ov m pl)
   callWith pos f first (backTo pos (starEach (e::es) X.env)) (backToKw pos (keywordEach [] X.env))):=by rfl):
  PE X (.Call (.Attribute o m apos) (e::es) [] pos) (qU C m sp dvs E (kc i) t):=
 zA (D9 (pl:=pl) he c hm F hr hb hd hx ha hst hpl ht) ve
theorem F4{CX:lu}{k:Nat}{f:Addr}{fd:FuncData}{ps:List Str}{sp:Sp}{dvs:List V}{ds:List Value}{E:XK}{m:Str}{pos apos:Pos}{o:Expr}{i:Nat}{pl:Sem Bool}
  (he:PE X o (kc i)) (c:Cls X.K C) (hm:Meth X.K C m f) (F:FnOk X.prog X.w X.K X.mg X.base CX k f fd ps sp) (hr:Room k X.A) (hb:jf0 X.K fd ps ds) (hd:Vals dvs ds) (hx:mZ CX X E)
  (ht:eval (.Call (.Attribute o m apos) [] [] pos) X.env = (do
   let ov <- eval o X.env
   standAt apos.atName
   let (f,first) <- holding [ov] (getMethod ov m pl)
   callWith pos f first (backTo pos (starEach [] X.env)) (backToKw pos (keywordEach [] X.env))):=by rfl):
  PE X (.Call (.Attribute o m apos) [] [] pos) (qU C m sp dvs E (kc i) pI):=
 zA (E5 (pl:=pl) he c hm F hr hb hd hx ht) ve
end
section
variable{X:Cx}
def um(td ty:TE):TE:=fun σ H Q=>td σ H fun x H1=>match x with
 | .ref a=>(∃kvs,H1 a=some (.dK kvs))/\ty σ H1 fun y H2=>match y with
  | .int n=>match H2 a with
   |some (.dK kvs)=>Q ((i8 kvs (Sum.inl n:iJ)).getD .non) H2
   |_=>False
  |_=>False
 |_=>False
theorem Ed{o e:Expr}{apos cpos:Pos}{td ty:TE}(hu:X.A.units+1<cLine)(ho:PE X o td)(he:PE X e ty)(m:M1 X o "get" apos e cpos:=by exact⟨rfl,rfl,rfl,rfl⟩):PE X (.Call (.Attribute o "get" apos) [e] [] cpos) (um td ty):=by
 intro pins s σ H Q I h
 refine wpAny_Call_method m.base m.few m.line PySem.F.plainAttrs_dict c0 PySem.F.type_dict_get (iP (ho pins s σ H _ I h) fun u s1 ⟨x,H1,I1,rx,q1⟩=>?_)
 dsimp only at q1
 split at q1
 ·rename_i a
  obtain⟨⟨kvs0,e0⟩,q1⟩:=q1
  obtain rfl:u=Value.ref a:=rx
  obtain⟨t1,t2,_⟩:=xI I1 (.inl ⟨kvs0,.inl e0⟩)
  refine⟨t1,t2,?_⟩
  rw[m.trees]
  refine fV rfl (gw (fo (iP (he pins s1 σ H1 _ I1 q1) fun iv s2 ⟨y,H2,I2,ry,q2⟩=>gX ?_)))
  dsimp only at q2
  split at q2
  ·rename_i n
   split at q2
   ·rename_i kvs ea
    exact IH hu I2 (DGet.k (k:=Sum.inl n) ea) ry fun w' s3 I3 rw'=>⟨_,H2,I3,rw',q2⟩
   ·exact q2.elim
  ·exact q2.elim
 ·exact q1.elim
noncomputable def uq(i:Nat):TE:=fun σ H Q=>match σ[i]? with
 |some (some (.int n))=>∀p,H p=none->Q (.ref p) (upd H p (.dK [(Sum.inl n,.non)]))
 |_=>False
theorem Em{H:Hp}{p:Addr}{a b:HO}:upd (upd H p a) p b=upd H p b:=by
 funext x
 by_cases c:x=p
 ·rw[c,iK,iK]
 ·rw[iQ c,iQ c,iQ c]
theorem E4{pos:Pos}{k v:Expr}{i:Nat}(hk:PE X k (kc i))(hv:PE X v (tC .non)):PE X (.Dict [some k] [v] pos) (uq i):=by
 intro pins s σ H Q I q
 refine D7 (Fb hk hv Eb) rfl rfl (fun z=>nomatch z) (dU rfl) pins s σ H Q I ?_
 intro p hp
 unfold uq at q
 split at q
 ·rename_i n e
  show kc i σ (upd H p (.dK [])) _
  unfold kc
  rw[e]
  show tC V.non σ _ _
  refine⟨iK,[(Sum.inl n,.non)],rfl,dU rfl,?_⟩
  rw[Em]
  exact q p hp
 ·exact q.elim
def tT:V->V->Hp->VK->Prop:=fun o i H Q=>match o,i with
 | .ref p,.int k=>match H p with
  |some (.lst xs)=>0<=k/\match jr xs k with
   |some v=>Q v H
   |none=>False
  |_=>False
 |_,_=>False
theorem As:BB X tT:=by
 intro pins s σ H o i ov iv Q I ro ri h
 unfold tT at h
 split at h
 ·rename_i p k
  split at h
  ·rename_i xs hp
   obtain⟨k0,h⟩:=h
   split at h
   ·rename_i v hv
    cases ro
    obtain⟨t,rfl⟩:=ri
    obtain⟨its,r,pl,hz⟩:=I.list (SqL.of hp)
    obtain⟨j,h1,h2,h3,h4,h5⟩:=uG hv
    obtain⟨w,ew,rw'⟩:=r.get h2
    have hn:=n6
    have hj:k.toNat=j:=by
     rw[hV k0 h5]at h1
     exact aI h1
    exact wpAny_getItem_list pl.isList k0 (by lia) (by rw[hj];simpa using ew) ⟨v,H,I,rw',h⟩
   ·exact h.elim
  ·exact h.elim
 ·exact h.elim
def tP:mO:=fun x y H Q=>match x,y with
 | .int i,.int j=>Q (.int (i-j)) H
 |_,_=>False
def tO:mO:=fun x y H Q=>match x,y with
 | .int i,.int j=>Q (.int (i+j)) H
 |_,_=>False
theorem DS:oy X .Sub tP:=by
 intro pins s σ H x y v u Q I r1 r2 h
 unfold tP at h
 split at h
 ·rename_i i j
  obtain⟨t,rfl⟩:=(show ∃t,v=Value.int i t from r1)
  obtain⟨t',rfl⟩:=(show ∃t,u=Value.int j t from r2)
  exact PyProof.Rows.isub_int ⟨.int (i-j),H,I.tok _,⟨_,rfl⟩,h⟩
 ·exact h.elim
theorem DQ:oy X .Add tO:=by
 intro pins s σ H x y v u Q I r1 r2 h
 unfold tO at h
 split at h
 ·rename_i i j
  obtain⟨t,rfl⟩:=(show ∃t,v=Value.int i t from r1)
  obtain⟨t',rfl⟩:=(show ∃t,u=Value.int j t from r2)
  exact PyProof.Rows.iadd_int ⟨.int (i+j),H,I.tok _,⟨_,rfl⟩,h⟩
 ·exact h.elim
def vX:R2:=fun x y H Q=>match x,y with
 | .int i,.int j=>Q (.int (Builtin.bitXor i j)) H
 |_,_=>False
theorem xo:OpR X (binaryOp .BitXor) vX:=by
 intro pins s σ H x y v u Q I r1 r2 h
 unfold vX at h
 split at h
 ·rename_i i j
  obtain⟨t,rfl⟩:=(show ∃t,v=Value.int i t from r1)
  obtain⟨t',rfl⟩:=(show ∃t,u=Value.int j t from r2)
  exact PyProof.Rows.xor_int ⟨.int (Builtin.bitXor i j),H,I.tok _,⟨_,rfl⟩,h⟩
 ·exact h.elim
theorem Ep(w:Nat):Builtin.bitXor (w:Int) 1=((if w%2=0 then w+1 else w-1:Nat):Int):=by
 have h1:(w|||1:Nat)=2*(w/2)+1:=by
  have a:=Nat.or_div_two (a:=w) (b:=1)
  have b:(w|||1)%2=1:=by rw[Nat.or_mod_two_eq_one];right;rfl
  rw[show 1/2=0 from rfl,Nat.or_zero]at a
  lia
 have h2:(w&&& 1:Nat)=w%2:=Nat.and_one_is_mod w
 have n1:¬(0:Int)<= -(w:Int)-1:=by lia
 have e:Builtin.bitXor (w:Int) 1=((w|||1:Nat):Int)-((w&&& 1:Nat):Int):=by
  unfold Builtin.bitXor Builtin.bitOr Builtin.bitAnd Builtin.bitNot
  simp only[aP n1,show decide ((0:Int)<= -(1:Int)-1)=false from rfl,show decide ((0:Int)<=(w:Int))=true from aK (by lia),show decide ((0:Int)<=1)=true from rfl]
  simp only[show(-(-(w:Int)-1)-1).toNat=w by lia,show(-(-(1:Int)-1)-1).toNat=1 from rfl,show((w:Int)).toNat=w from rfl,show((1:Int)).toNat=1 from rfl]
  lia
 rw[e,h1,h2]
 split<;>lia
noncomputable def jg{α:Type}:Bool->List α->List α
 |_,[]=>[]
 |true,x::xs=>x::jg false xs
 |false,_::xs=>jg true xs
def Bw(b:Bool)(te:TE):TE:=fun σ H Q=>te σ H fun x H1=>match x with
 | .ref a=>match H1 a with
  |some (.lst xs)=>∀p,H1 p=none->Q (.ref p) (upd H1 p (.lst (jg b xs)))
  |_=>False
 |_=>False
theorem vt:∀(b:Bool) {vs:List V} {us:List Value},Vals vs us->Vals (jg b vs) (jg b us)
 |_,_,_,.nil=>by cases ‹Bool›<;>exact .nil
 |true,_,_,.cons r t=>.cons r (vt false t)
 |false,_,_,.cons _ t=>vt true t
theorem uF{α:Type}:∀(b:Bool) (xs:List α),(jg b xs).length<=xs.length
 |true,[]=>ao _
 |false,[]=>ao _
 |true,x::xs=>by have:=uF false xs;show(jg false xs).length+1<=xs.length+1;lia
 |false,x::xs=>by have:=uF true xs;show(jg true xs).length<=xs.length+1;lia
theorem n5{α:Type}:∀(b:Bool) (xs:List α) (i:Nat),(jg b xs)[i]? =xs[2*i+(if b then 0 else 1)]?
 |true,[],i=>by simp[jg]
 |false,[],i=>by simp[jg]
 |true,x::xs,0=>rfl
 |true,x::xs,i+1=>by
  show(jg false xs)[i]? =_
  rw[n5 false xs i,aA rfl,ay (by decide),show 2*(i+1)+0=(2*i+1)+1 by lia,List.getElem?_cons_succ]
 |false,x::xs,i=>by
  show(jg true xs)[i]? =_
  rw[n5 true xs i,aA rfl,ay (by decide),List.getElem?_cons_succ]
  rfl
theorem E8(its:List Value)(b:Bool)(hb:b=false->0<its.length):slicePick its.toArray (some (if b then 0 else 1)) none (some 2)=(jg b its).toArray:=by
 unfold slicePick
 congr 1
 have h1:sliceBounds (some (if b then 0 else 1)) none (some 2) its.toArray.size=(((if b then 0 else 1:Nat):Int),(its.length:Int),2):=by
  cases b
  ·have:=hb rfl
   simp[sliceBounds]
   lia
  ·simp[sliceBounds]
   lia
 rw[h1]
 dsimp only
 have h2:∀c:Nat,sliceRange ((c:Nat):Int) (its.length:Int) 2=(List.range ((its.length+1-c)/2)).map fun k=>c+2*k:=fun c=>by
  unfold sliceRange
  dsimp only
  rw[aA (by decide)]
  have e:(if(c:Int)<(its.length:Int)then((its.length:Int)-c+2-1)/2 else 0).toNat=(its.length+1-c)/2:=by
   split<;>lia
  rw[e]
  exact dj fun k _=>by lia
 rw[h2,List.filterMap_map]
 have h3:∀(l:List Nat),(∀k∈l,(if b then 0 else 1)+2*k<its.length)->l.filterMap ((fun x=>its.toArray[x]?)∘fun k=>(if b then 0 else 1)+2*k)=l.map fun k=>its.getD ((if b then 0 else 1)+2*k) .none:=fun l=>by
  induction l with
  |nil=>intro _;rfl
  | cons k r ih=>
   intro hk
   have hk0:=hk k (.head _)
   rw[List.filterMap_cons]
   have e:((fun x=>its.toArray[x]?)∘fun k=>(if b then 0 else 1)+2*k) k=some (its.getD ((if b then 0 else 1)+2*k) .none):=by
    show its.toArray[(if b then 0 else 1)+2*k]? =_
    rw[List.getElem?_toArray,aJ,gE hk0]
    rfl
   rw[e]
   dsimp only
   rw[ah,ih fun j hj=>hk j (.tail _ hj)]
 rw[h3 _ fun k hk=>by have:=bg.mp hk;cases b<;>simp only[if_true,if_false,ba]at this ⊢ <;>lia]
 apply eN
 intro i
 rw[n5,aC]
 by_cases c:2*i+(if b then 0 else 1)<its.length
 ·rw[fe (by cases b<;>simp only[if_true,if_false,ba]at c ⊢ <;>lia)]
  show some (its.getD _ .none)=_
  rw[aJ,Nat.add_comm,gE c]
  rfl
 ·rw[bD (by rw[bz];cases b<;>simp only[if_true,if_false,ba]at c ⊢ <;>lia),bD (by lia)]
  rfl
theorem ux{b:Bool}{c:Int}(hc:c=if b then 0 else 1){e:Expr}{te:TE}{k k2:Nat}{z1 z2 p2 pos:Pos}(he:PE X e te):PE X (.Subscript e (.Slice (some (.Constant (.int c) k2 z2)) none (some (.Constant (.int 2) k z1)) p2) pos) (Bw b te):=by
 intro pins s σ H Q I h
 refine iw (iP (he pins s σ H _ I h) fun v s1 ⟨x,H1,I1,r1,q1⟩=>?_)
 refine wpAny_Slice ?_
 simp only[evalPart_none]
 rw[evalPart_some]
 refine iP ((iL (i:=c) (j:=k2) (pos:=z2):PE X _ _) pins s1 σ H1 (fun y H2=>y= .int c/\H2=H1) I1 ⟨rfl,rfl⟩) fun st s2 ⟨y,H2,I2,r2,ey,eh⟩=>?_
 subst ey eh
 obtain⟨t1,rfl⟩:=r2
 refine aB ?_
 rw[evalPart_some]
 refine iP ((iL (i:=2) (j:=k) (pos:=z1):PE X _ _) pins s2 σ H2 (fun y H3=>y= .int 2/\H3=H2) I2 ⟨rfl,rfl⟩) fun st s3 ⟨y,H3,I3,r3,ey,eh⟩=>?_
 subst ey eh
 obtain⟨t2,rfl⟩:=r3
 split at q1
 ·rename_i a
  split at q1
  ·rename_i xs ea
   cases r1
   have I4:Inv X pins σ H3 {s3 with heap:=s3.heap.push {cls:=.type "slice",data:=.fields #[.int c t1,.none,.int 2 t2]}}:=I3.kept (t':=s3.toks) fun b ob q=>ag _ q
   obtain⟨its,r,ht,hz⟩:=I4.list (SqL.of ea)
   have hlen:=r.length
   show wpAny (model X.prog X.w) X.A (subscriptTail e (.Slice (some (.Constant (.int c) k2 z2)) none (some (.Constant (.int 2) k z1)) p2) (.ref a) (.ref s3.heap.objs.size)) (EP X pins σ Q) X.xe {s3 with heap:=s3.heap.push {cls:=.type "slice",data:=.fields #[.int c t1,.none,.int 2 t2]}}
   refine tail_any (ops:=[.ref a,.ref s3.heap.objs.size]) ht.isList.typeIs gM.lookup ?_ (by with_unfolding_all rfl)
   refine wpAny_getItem_list_slice ht.isList (Heap.IsSliceOf.new ..) (.int _ t1) .none (.int 2 t2) (by decide) ?_ (by rw[au]<;>lia)
   by_cases hb:b=false->0<its.length
   ·rw[show slicePick its.toArray (some c) none (some 2)=(jg b its).toArray from by rw[hc];exact E8 _ _ hb]
    refine⟨.ref _,_,I4.laid (t':=s3.toks) (o:=.lst (jg b xs)) (fun b ob q=>ag _ q) (ao _) ?_,rfl,q1 _ (I4.hok.fresh (ao _))⟩
    exact⟨by have:=uF b xs;lia,_,0,vt b r,aR _ rfl⟩
   ·have hi:its=[]:=da fun z=>hb fun _=>List.length_pos_iff.mpr z
    have hx:xs=[]:=List.length_eq_zero_iff.mp (by rw[hi]at hlen;exact hlen)
    subst hi hx
    have e2:jg b ([]:List V)=[]:=by cases b<;>rfl
    rw[e2]at q1
    have e3:slicePick ([]:List Value).toArray (some c) none (some 2)=([]:List Value).toArray:=by rw[hc];cases b<;>rfl
    rw[e3]
    refine⟨.ref _,_,I4.laid (t':=s3.toks) (o:=.lst []) (fun b ob q=>ag _ q) (ao _) ?_,rfl,q1 _ (I4.hok.fresh (ao _))⟩
    exact⟨bp _,_,0,.nil,aR _ rfl⟩
  ·exact q1.elim
 ·exact q1.elim
def pN(ta:TE):TT:=fun σ H Q=>ta σ H fun x H1=>match x with
 | .ref a=>match H1 a with
  |some (.lst xs)=>Q (!xs.isEmpty) H1
  |_=>False
 |_=>False
theorem Ec {a:Expr} {i:Nat} (ha:PE X a (kc i)) (he:∀ whole,isTrue a X.env whole = (do let v <- whole; standAt a.pos; holding [v] (truthy v)):=by exact fun _=>rfl):PT X a (pN (kc i)):=by
 intro pins s σ H Q I h
 refine Fd ha he pins s σ H Q I ?_
 show kc i σ H _
 have h:kc i σ H _:=h
 refine ve pins s σ H _ _ I (fun x H1 q=>?_) h
 split at q
 ·rename_i a
  split at q
  ·rename_i xs e
   exact⟨_,.inl ⟨xs,SqL.of e,rfl⟩,q⟩
  ·exact q.elim
 ·exact q.elim
end
end L2
namespace My
open PySem L2
theorem Cf:(0<=sizeLine)=True:=eq_true (by decide)
theorem Ce:(1<=sizeLine)=True:=eq_true (by decide)
theorem mR:(2<=sizeLine)=True:=eq_true (by decide)
theorem Cd:(3<=sizeLine)=True:=eq_true (by decide)
theorem Cc:(4<=sizeLine)=True:=eq_true (by decide)
end My
local macro_rules | `(tactic| walk_at "SC") => `(tactic| exact ⟨rfl,rfl,rfl,by decide +kernel,rfl,by decide +kernel,by decide +kernel⟩)
local macro_rules | `(tactic| simp_arith [$args,*]) => do
 let l<-("L2.qp L2.oC L2.wU L2.wZ L2.wO L2.B3 L2.wX L2.qH L2.mF L2.wt L2.nQ L2.wK L2.tC L2.kc L2.fI L2.fIC L2.Bp L2.wm L2.v8 L2.sQ L2.pP L2.Bv L2.Ir L2.Bo L2.fB L2.wR L2.xf L2.wQ L2.uk L2.wg L2.sP L2.uM L2.v9 L2.wc L2.Iw L2.vZ L2.wN L2.Bn L2.y9 L2.uL L2.Bt L2.tS L2.Bl L2.tM L2.ur L2.tN L2.Iy L2.xE L2.xY L2.yf L2.wq L2.Iz L2.IA L2.vY L2.tR L2.B6 L2.wo L2.Br L2.wj L2.rf L2.uo L2.wd L2.xb L2.qG L2.uf L2.pI L2.wL L2.wW L2.wY L2.wM L2.Kd.nm L2.mY ah cL List.length_cons List.length_nil Nat.reduceAdd Nat.reduceSub List.replicate_succ List.replicate_zero List.getElem?_cons_zero List.getElem?_cons_succ List.set_cons_zero List.set_cons_succ aY List.nil_append List.cons_append eq_self true_and and_true if_true ba if_false eX Bool.not_false id_eq My.Cf My.Ce My.mR My.Cd My.Cc L2.wV L2.pN L2.tT L2.xj L2.um L2.qU L2.tP L2.xc L2.uq L2.Bq L2.vX L2.tO L2.Bw".splitOn " ").toArray.mapM fun s=>`(Lean.Parser.Tactic.simpLemma| $(Lean.mkIdent s.toName):ident)
 `(tactic| try simp only [$l,*,$args,*])
local macro_rules | `(tactic| walk_at "D") => `(tactic| simp_arith [L2.qp])
namespace My
open PySem L2
theorem qI{n:Nat}(h:n<=1000):n<=sizeLine:=bE h (by decide)
theorem jt{n:Nat}(h:n<=1000):n<sizeLine:=Nat.lt_of_le_of_lt h (by decide)
noncomputable def iM(i:Nat):Stmt:=PySem.Challenge.pw_touchall_k26_halves_of_bunches.main.body.getD i (.Pass ⟨0,0,0,0⟩)
structure DefAt(K:PySem.W.Frag)(mg:Str->Option Value)(x:Str)(st:Stmt)(ps:List Str)(f:Addr)(fd:FuncData):Prop where
 F:Fun K x x st f fd
 b:jf0 K fd ps []
 m:mg x=some (.ref f)
structure Blt(mg:Str->Option Value):Prop where
 len:mg "len"=none
 isinstance:mg "isinstance"=none
 all:mg "all"=none
 min:mg "min"=none
 list:mg "list"=none
 dict:mg "dict"=none
 int:mg "int"=none
 bool:mg "bool"=none
 str:mg "str"=none
 tuple:mg "tuple"=none
 range:mg "range"=none
 enumerate:mg "enumerate"=none
 zip:mg "zip"=none
 max:mg "max"=none
 any:mg "any"=none
 sum:mg "sum"=none
 sorted:mg "sorted"=none
 set:mg "set"=none
structure Cst(mg:Str->Option Value)(t1 t2 t3 t4:Tok):Prop where
 MOST_PLACES:mg "MOST_PLACES"=some (.int 40 t1)
 MOST_TIES:mg "MOST_TIES"=some (.int 120 t2)
 LAST_PLACE:mg "LAST_PLACE"=some (.int 999 t3)
 MOST_PRICE:mg "MOST_PRICE"=some (.int 1000000000000 t4)
section
variable{P:Program}{w:World}{K:PySem.W.Frag}{mg:Str->Option Value}{base:Heap}{c1 c2 c3 c4:Tok}
theorem jw{α:Type}{x:α}{r:List α}:jr (x::r) 0=some x:=by
 have e:jr (x::r) ((0:Nat):Int)=some x:=mm rfl
 exact e
theorem jQ{α:Type}{x y:α}{r:List α}:jr (x::y::r) 1=some y:=by
 have e:jr (x::y::r) ((1:Nat):Int)=some y:=mm rfl
 exact e
theorem at2{α:Type}{x y z:α}{r:List α}:jr (x::y::z::r) 2=some z:=by
 have e:jr (x::y::z::r) ((2:Nat):Int)=some z:=mm rfl
 exact e
noncomputable def nC:Kd->Bool
 | .int=>true
 |_=>false
def rV:Sp:=fun vs H Q _=>∃x k,vs=[x]/\kd H x=some k/\Q (.bl (nC k)) H
def vD:Sp:=fun vs H Q _=>∃a xs m,vs=[.ref a,.int m]/\H a=some (.tup xs)/\Q (.bl (decide ((xs.length:Int)=m))) H
def vL:Sp:=fun vs H Q _=>∃a xs m,vs=[.ref a,.int m]/\H a=some (.lst xs)/\Q (.bl (decide ((xs.length:Int)<=m))) H
def uC:Sp:=fun vs H Q _=>∃x p,vs=[x]/\Pr H x p/\Q (.bl true) H
def Be:Sp:=fun vs H Q _=>∃x p l s,vs=[x,.int l,.int s]/\Pr H x p/\(l<p.1/\p.1<=999/\1<=p.2/\p.2<=1000000000000-s)/\Q (.bl true) H
noncomputable def jH(kvs:List (iJ×V))(n:Int):Bool:=(i8 kvs (Sum.inl n:iJ)).isSome
def A5:Sp:=fun vs H Q _=>∃x p y q d kvs,vs=[x,y,.ref d]/\Pr H x p/\Pr H y q/\H d=some (.dK kvs)/\(HT.lexLt [q.1,q.2] [p.1,p.2]=true/\p.1<p.2/\jH kvs p.1=true/\jH kvs p.2=true)/\Q (.bl true) H
theorem GZ(B:Blt mg)(D:DefAt K mg "is_whole" (iM 7) ["thing"] f fd):FnOk P w K mg base iR 1 f fd ["thing"] rV:=by
 have sc:FnScope ["thing"] ["thing"] (je (iM 7)):=by walk_at "SC"
 refine D.F.ok sc (fun vs H Q E h=>?_) (fun cdv A outer s H vs Q E hr h=>?_)
 ·obtain⟨x,k,rfl,_⟩:=h
  rfl
 obtain⟨x,k,rfl,ek,h⟩:=h
 have hu:=jn hr
 have hu0:_<PySem.cLine:=aF hu
 refine⟨_,(iS (jh (lz (jq (nY .int) rfl B.isinstance bR (iH (qv 0) (iH (oh (v:=.ty "int") rfl B.int gk rfl) iI))) (m9 (CS (jq (nY .bl) rfl B.isinstance bR (iH (qv 0) (iH (oh (v:=.ty "bool") rfl B.bool PyProof.Rows.boot_bool rfl) iI)))))))),?_⟩
 simp_arith[ek]
 cases k<;>simpa only[lp,nC,if_true,if_false,ba,eX,Bool.not_false]using h
theorem HB(B:Blt mg)(D:DefAt K mg "is_tuple_of" (iM 8) ["thing","many"] f fd):FnOk P w K mg base iR 1 f fd ["thing","many"] vD:=by
 have sc:FnScope ["thing","many"] ["thing","many"] (je (iM 8)):=by walk_at "SC"
 refine D.F.ok sc (fun vs H Q E h=>?_) (fun cdv A outer s H vs Q E hr h=>?_)
 ·obtain⟨a,xs,m,rfl,_⟩:=h
  rfl
 obtain⟨a,xs,m,rfl,ea,h⟩:=h
 have hu:=jn hr
 have hu0:_<PySem.cLine:=aF hu
 refine⟨_,(iS (jh (lz (jq (nY .tup) rfl B.isinstance bR (iH (qv 0) (iH (oh (v:=.ty "tuple") rfl B.tuple PyProof.Rows.boot_tuple rfl) iI))) (m9 (lS pJ (jq lO rfl B.len bN (iH (qv 0) iI)) (qv 1) (jI _)))))),?_⟩
 simp_arith[kd,ea,iX,lp]
 exact h
theorem HQ(B:Blt mg)(D:DefAt K mg "is_list_up_to" (iM 10) ["thing","most"] f fd):FnOk P w K mg base iR 1 f fd ["thing","most"] vL:=by
 have sc:FnScope ["thing","most"] ["thing","most"] (je (iM 10)):=by walk_at "SC"
 refine D.F.ok sc (fun vs H Q E h=>?_) (fun cdv A outer s H vs Q E hr h=>?_)
 ·obtain⟨a,xs,m,rfl,_⟩:=h
  rfl
 obtain⟨a,xs,m,rfl,ea,h⟩:=h
 have hu:=jn hr
 have hu0:_<PySem.cLine:=aF hu
 refine⟨_,(iS (jh (lz (jq (nY .lst) rfl B.isinstance bR (iH (qv 0) (iH (oh (v:=.ty "list") rfl B.list cS rfl) iI))) (m9 (lS nR (jq lO rfl B.len bN (iH (qv 0) iI)) (qv 1) (jI _)))))),?_⟩
 simp_arith[kd,ea,iX,lp]
 exact h
theorem HW(B:Blt mg)(D:DefAt K mg "is_pair_of_wholes" (iM 9) ["thing"] f fd)(Dqb:DefAt K mg "is_tuple_of" (iM 8) ["thing","many"] fqb dqb)(Gqb:FnOk P w K mg base iR 1 fqb dqb ["thing","many"] vD)(Dqc:DefAt K mg "is_whole" (iM 7) ["thing"] fqc dqc)(Gqc:FnOk P w K mg base iR 1 fqc dqc ["thing"] rV):FnOk P w K mg base iR 2 f fd ["thing"] uC:=by
 have sc:FnScope ["thing"] ["thing"] (je (iM 9)):=by walk_at "SC"
 refine D.F.ok sc (fun vs H Q E h=>?_) (fun cdv A outer s H vs Q E hr h=>?_)
 ·obtain⟨x,p,rfl,_⟩:=h
  rfl
 obtain⟨x,p,rfl,⟨a,rfl,ea⟩,h⟩:=h
 have hu:=jn hr
 have hu0:_<PySem.cLine:=aF hu
 refine⟨_,(iS (jh (lz (jd Gqb (hr.mono (by decide)) rfl Dqb.m Dqb.F.kp Dqb.b .nil iZ (iH (qv 0) (iH iL iI))) (lz (jd Gqc (hr.mono (by decide)) rfl Dqc.m Dqc.F.kp Dqc.b .nil iZ (iH (iT iU (qv 0) iL (fun _ _=>rfl)) iI)) (m9 (jd Gqc (hr.mono (by decide)) rfl Dqc.m Dqc.F.kp Dqc.b .nil iZ (iH (iT iU (qv 0) iL (fun _ _=>rfl)) iI))))))),?_⟩
 simp_arith[iX,ea,jw,jQ]
 refine⟨a,_,2,rfl,ea,?_⟩
 simp_arith[iX,ea,jw,jQ,Int.cast_ofNat_Int,df]
 refine⟨_,.int,rfl,rfl,?_⟩
 simp_arith[nC,iX,ea,jw,jQ]
 exact⟨_,.int,rfl,rfl,h⟩
theorem HN(B:Blt mg)(C:Cst mg c1 c2 c3 c4)(D:DefAt K mg "place_stands" (iM 20) ["thing","last","spent"] f fd)(Dqd:DefAt K mg "is_pair_of_wholes" (iM 9) ["thing"] fqd dqd)(Gqd:FnOk P w K mg base iR 2 fqd dqd ["thing"] uC):FnOk P w K mg base iR 3 f fd ["thing","last","spent"] Be:=by
 have sc:FnScope ["thing","last","spent"] ["thing","last","spent"] (je (iM 20)):=by walk_at "SC"
 refine D.F.ok sc (fun vs H Q E h=>?_) (fun cdv A outer s H vs Q E hr h=>?_)
 ·obtain⟨x,p,l,s,rfl,_⟩:=h
  rfl
 obtain⟨x,p,l,sp,rfl,hp,⟨b1,b2,b3,b4⟩,h⟩:=h
 obtain⟨a,rfl,ea⟩:=id hp
 have hu:=jn hr
 have hu0:_<PySem.cLine:=aF hu
 refine⟨_,(iN (kr (lj (ll (jd Gqd (hr.mono (by decide)) rfl Dqd.m Dqd.F.kp Dqd.b .nil iZ (iH (qv 0) iI)))) (iS (jh lN)) ky) (iS (jh (lz (yJ qM nR (qv 1) (iT iU (qv 0) iL (fun _ _=>rfl)) (lU (v:=.int 999) rfl C.LAST_PLACE ⟨_,rfl⟩)) (m9 (yJ nR nR iL (iT iU (qv 0) iL (fun _ _=>rfl)) (i9 qY (lU (v:=.int 1000000000000) rfl C.MOST_PRICE ⟨_,rfl⟩) (qv 2)))))))),?_⟩
 walk_at "D"
 refine⟨_,p,rfl,hp,?_⟩
 simp_arith[iX,ea,jw,jQ,aK b1,aK b2,aK b3,aK b4]
 exact h
theorem Ht(B:Blt mg)(D:DefAt K mg "tie_stands" (iM 21) ["thing","last","prices"] f fd)(Dqd:DefAt K mg "is_pair_of_wholes" (iM 9) ["thing"] fqd dqd)(Gqd:FnOk P w K mg base iR 2 fqd dqd ["thing"] uC):FnOk P w K mg base iR 3 f fd ["thing","last","prices"] A5:=by
 have sc:FnScope ["thing","last","prices"] ["thing","last","prices"] (je (iM 21)):=by walk_at "SC"
 refine D.F.ok sc (fun vs H Q E h=>?_) (fun cdv A outer s H vs Q E hr h=>?_)
 ·obtain⟨x,p,y,q,d,kvs,rfl,_⟩:=h
  rfl
 obtain⟨x,p,y,q,d,kvs,rfl,hp,hq,hd,⟨b1,b2,b3,b4⟩,h⟩:=h
 obtain⟨a,rfl,ea⟩:=id hp
 obtain⟨b,rfl,eb⟩:=id hq
 unfold jH at b3 b4
 have hu:=jn hr
 have hu0:_<PySem.cLine:=aF hu
 refine⟨_,(iN (kr (lj (ll (jd Gqd (hr.mono (by decide)) rfl Dqd.m Dqd.F.kp Dqd.b .nil iZ (iH (qv 0) iI)))) (iS (jh lN)) ky) (iS (jh (lz (lS (CT hu0) (qv 1) (qv 0) (jI _)) (lz (lS qM (iT iU (qv 0) iL (fun _ _=>rfl)) (iT iU (qv 0) iL (fun _ _=>rfl)) (jI _)) (lz (xQ (qX hu (iT iU (qv 0) iL (fun _ _=>rfl)) (qv 2))) (m9 (xQ (qX hu (iT iU (qv 0) iL (fun _ _=>rfl)) (qv 2)))))))))),?_⟩
 walk_at "D"
 refine⟨_,p,rfl,hp,?_⟩
 simp_arith[iX,ea,eb,hd,jw,jQ,b1,aK b2,b3,b4]
 exact h
def PlOk:Int->Int->List (Int×Int)->Prop
 |_,_,[]=>True
 |l,s,p::r=>(l<p.1/\p.1<=999/\1<=p.2/\p.2<=1000000000000-s)/\PlOk p.1 (s+p.2) r
noncomputable def jx(ps:List (Int×Int)):List (iJ×V):=ps.map fun p=>(Sum.inl p.1,V.int p.2)
def TiOk(kvs:List (iJ×V)):Int×Int->List (Int×Int)->Prop
 |_,[]=>True
 |q,p::r=>(HT.lexLt [q.1,q.2] [p.1,p.2]=true/\p.1<p.2/\jH kvs p.1=true/\jH kvs p.2=true)/\TiOk kvs p r
structure WebOk(ps ts:List (Int×Int)):Prop where
 pl:ps.length<=40
 p:PlOk (-1) 0 ps
 tl:ts.length<=120
 t:TiOk (jx ps) (-1,-1) ts
def jdo(H:Hp)(v:V)(ps ts:List (Int×Int)):Prop:=
 ∃u pa ta xs ys,v= .ref u/\H u=some (.tup [.ref pa,.ref ta])/\H pa=some (.lst xs)/\H ta=some (.lst ys)/\Prs H xs ps/\Prs H ys ts
theorem jdo.same{H H':Hp}{v:V}{ps ts:List (Int×Int)}(h:jdo H v ps ts)(s:Same H H'):jdo H' v ps ts:=by
 obtain⟨u,pa,ta,xs,ys,e,h1,h2,h3,h4,h5⟩:=h
 exact⟨u,pa,ta,xs,ys,e,s _ _ h1,s _ _ h2,s _ _ h3,Prs.same s h4,Prs.same s h5⟩
theorem PlOk.gt:∀{ps:List (Int×Int)} {l s:Int},PlOk l s ps->∀p∈ps,l<p.1
 |[],_,_,_,_,h=>by cases h
 | q::r,l,s,h,p,hp=>by
  rcases aM.mp hp with e|hp
  ·rw[e];exact h.1.1
  ·have:=PlOk.gt h.2 p hp
   have:=h.1.1
   lia
theorem PlOk.nodup:∀{ps:List (Int×Int)} {l s:Int},PlOk l s ps->(ps.map (·.1)).Nodup
 |[],_,_,_=>eM
 |q::r,l,s,h=>by
  rw[ah]
  refine br.mpr ⟨fun hm=>?_,PlOk.nodup h.2⟩
  obtain⟨p,hp,e⟩:=aw.mp hm
  have:=PlOk.gt h.2 p hp
  lia
theorem sH{ps:List (Int×Int)}(h:(ps.map (·.1)).Nodup):((jx ps).map (·.1)).Nodup:=by
 unfold jx
 rw[bt]
 have e:((fun(x:iJ×V)=>x.1)∘fun(p:Int×Int)=>((Sum.inl p.1:iJ),V.int p.2))=(fun(n:Int)=>(Sum.inl n:iJ))∘fun(p:Int×Int)=>p.1:=rfl
 rw [e,<- bt]
 unfold List.Nodup at h ⊢
 rw[bB]
 exact h.imp fun q z=>q (cw z)
theorem qc{H:Hp}:∀{xs:List V} {ps:List (Int×Int)},Prs H xs ps->Paired (PairAt H) xs (jx ps)
 |_,_,.nil=>.nil
 |_,_,.cons r t=>by
  obtain⟨a,e,q⟩:=r
  exact .cons ⟨a,e,q⟩ (qc t)
theorem oY:∀{ps:List (Int×Int)} {p:Int×Int},(ps.map (·.1)).Nodup->p∈ps->i8 (jx ps) (Sum.inl p.1:iJ)=some (.int p.2)
 |[],_,_,h=>by cases h
 | q::r,p,hn,h=>by
  rw[ah]at hn
  unfold jx i8
  rw[ah,List.find?_cons]
  rcases aM.mp h with e|h
  ·rw[e]
   simp
  ·have hne:q.1≠p.1:=fun z=>(br.mp hn).1 (by rw[z];exact cM h)
   have hd:decide ((Sum.inl q.1:iJ)=Sum.inl p.1)=false:=aP fun z=>hne (cw z)
   dsimp only
   rw[hd]
   exact oY (br.mp hn).2 h
theorem yv{ps:List (Int×Int)}{p:Int×Int}(hn:(ps.map (·.1)).Nodup)(h:p∈ps):jH (jx ps) p.1=true:=by
 unfold jH
 rw[oY hn h]
 rfl
def A9:Sp:=fun vs H Q _=>∃a xs ps,vs=[.ref a]/\H a=some (.lst xs)/\Prs H xs ps/\ps.length<=40/\PlOk (-1) 0 ps/\∀H',Same H H'->Q .non H'
def AS:Sp:=fun vs H Q _=>∃a d xs ts kvs,vs=[.ref a,.ref d]/\H a=some (.lst xs)/\H d=some (.dK kvs)/\Prs H xs ts/\ts.length<=120/\TiOk kvs (-1,-1) ts/\∀H',Same H H'->Q .non H'
def vC:Sp:=fun vs H Q _=>∃v ps ts,vs=[v]/\jdo H v ps ts/\WebOk ps ts/\∀H',Same H H'->Q .non H'
theorem HV(B:Blt mg)(C:Cst mg c1 c2 c3 c4)(D:DefAt K mg "look_at_places" (iM 22) ["places"] f fd)(Dqe:DefAt K mg "is_list_up_to" (iM 10) ["thing","most"] fqe dqe)(Gqe:FnOk P w K mg base iR 1 fqe dqe ["thing","most"] vL)(Dq4:DefAt K mg "place_stands" (iM 20) ["thing","last","spent"] fq4 dq4)(Gq4:FnOk P w K mg base iR 3 fq4 dq4 ["thing","last","spent"] Be):FnOk P w K mg base iR 4 f fd ["places"] A9:=by
 have sc:FnScope ["places","last","spent","number","thing"] ["places"] (je (iM 22)):=by walk_at "SC"
 refine D.F.ok sc (fun vs H Q E h=>?_) (fun cdv A outer s H vs Q E hr h=>?_)
 ·obtain⟨a,xs,ps,rfl,_⟩:=h
  rfl
 obtain⟨a,xs,ps,rfl,ea,hp,hl,ok,h⟩:=h
 have hlx:xs.length=ps.length:=aD hp
 have hu:=jn hr
 have hu0:_<PySem.cLine:=aF hu
 refine⟨_,(iN (kr (lj (ll (jd Gqe (hr.mono (by decide)) rfl Dqe.m Dqe.F.kp Dqe.b .nil iZ (iH (qv 0) (iH (lU (v:=.int 40) rfl C.MOST_PLACES ⟨_,rfl⟩) iI))))) (iS qd) ky) (iN (jb (i:=1) sc.nd rfl (Or.inl rfl) (oM oN iL)) (iN (jb (i:=2) sc.nd rfl (Or.inl rfl) iL) (iS (kh bf rfl (rJ rfl B.enumerate (iH (qv 0) iI)) (ki (n:=2) rfl (ji (iY (i:=3) sc.nd rfl (Or.inl rfl)) (ji (iY (i:=4) sc.nd rfl (Or.inl rfl)) kj))) (iN (kr (lj (ll (jd Gq4 (hr.mono (by decide)) rfl Dq4.m Dq4.F.kp Dq4.b .nil iZ (iH (qv 4) (iH (qv 1) (iH (qv 2) iI)))))) (iS qd) ky) (iN (jb (i:=1) sc.nd rfl (Or.inl rfl) (iT iU (qv 4) iL (fun _ _=>rfl))) (iS (rn (i:=2) sc.nd rfl (Or.inl rfl) (iT iU (qv 4) iL (fun _ _=>rfl)) uy))))))))),?_⟩
 walk_at "D"
 refine⟨a,xs,40,rfl,ea,?_⟩
 rw[aK (show(xs.length:Int)<=40 by lia)]
 walk_at "D"
 refine⟨a,rfl,⟨xs,SqL.of ea⟩,u9 (K:=K) (a:=a) (xs:=xs) (fun i σ H1=>∃l sp nb th,σ=[some (.ref a),some (.int l),some (.int sp),nb,th]/\Same H H1/\PlOk l sp (ps.drop i)) ⟨-1,0,none,none,rfl,Same.refl _,ok⟩ (fun i σ H1 _ ⟨_,_,_,_,_,s1,_⟩=>SqL.of (s1 _ _ ea)) ?_ ?_⟩
 ·rintro i x σ H1 t hi ⟨l,sp,nb,th,rfl,s1,ok1⟩ ht
  obtain⟨p,hpi,px⟩:=kH hp hi
  rw[p9 hpi]at ok1
  have s2:Same H (upd H1 t (.tup [.int i,x])):=s1.trans (iO ht _)
  have px2:=px.same s2
  obtain⟨u,rfl,eu⟩:=id px2
  simp_arith[iK]
  refine⟨_,p,l,sp,rfl,px2,ok1.1,?_⟩
  simp_arith[iX,eu,jw,jQ]
  exact⟨_,_,_,_,rfl,s2,ok1.2⟩
 ·rintro σ H1 ⟨l,sp,nb,th,rfl,s1,_⟩
  exact h H1 s1
theorem HL(B:Blt mg)(C:Cst mg c1 c2 c3 c4)(D:DefAt K mg "look_at_ties" (iM 23) ["ties","prices"] f fd)(Dqe:DefAt K mg "is_list_up_to" (iM 10) ["thing","most"] fqe dqe)(Gqe:FnOk P w K mg base iR 1 fqe dqe ["thing","most"] vL)(Dq5:DefAt K mg "tie_stands" (iM 21) ["thing","last","prices"] fq5 dq5)(Gq5:FnOk P w K mg base iR 3 fq5 dq5 ["thing","last","prices"] A5):FnOk P w K mg base iR 4 f fd ["ties","prices"] AS:=by
 have sc:FnScope ["ties","prices","last","number","thing"] ["ties","prices"] (je (iM 23)):=by walk_at "SC"
 refine D.F.ok sc (fun vs H Q E h=>?_) (fun cdv A outer s H vs Q E hr h=>?_)
 ·obtain⟨a,d,xs,ts,kvs,rfl,_⟩:=h
  rfl
 obtain⟨a,d,xs,ts,kvs,rfl,ea,ed,hp,hl,ok,h⟩:=h
 have hlx:xs.length=ts.length:=aD hp
 have hu:=jn hr
 have hu0:_<PySem.cLine:=aF hu
 refine⟨_,(iN (kr (lj (ll (jd Gqe (hr.mono (by decide)) rfl Dqe.m Dqe.F.kp Dqe.b .nil iZ (iH (qv 0) (iH (lU (v:=.int 120) rfl C.MOST_TIES ⟨_,rfl⟩) iI))))) (iS qd) ky) (iN (jb (i:=2) sc.nd rfl (Or.inl rfl) (kg (iH (oM oN iL) (iH (oM oN iL) iI)))) (iS (kh bf rfl (rJ rfl B.enumerate (iH (qv 0) iI)) (ki (n:=2) rfl (ji (iY (i:=3) sc.nd rfl (Or.inl rfl)) (ji (iY (i:=4) sc.nd rfl (Or.inl rfl)) kj))) (iN (kr (lj (ll (jd Gq5 (hr.mono (by decide)) rfl Dq5.m Dq5.F.kp Dq5.b .nil iZ (iH (qv 4) (iH (qv 2) (iH (qv 1) iI)))))) (iS qd) ky) (iS (jb (i:=2) sc.nd rfl (Or.inl rfl) (qv 4)))))))),?_⟩
 walk_at "D"
 refine⟨a,xs,120,rfl,ea,?_⟩
 rw[aK (show(xs.length:Int)<=120 by lia)]
 walk_at "D"
 intro t0 ht0
 refine⟨a,rfl,⟨xs,SqL.of (iO ht0 _ _ _ ea)⟩,u9 (K:=K) (a:=a) (xs:=xs) (fun i σ H1=>∃lv q nb th,σ=[some (.ref a),some (.ref d),some lv,nb,th]/\Same H H1/\Pr H1 lv q/\TiOk kvs q (ts.drop i)) ⟨_,(-1,-1),none,none,rfl,iO ht0 _,⟨t0,rfl,iK⟩,ok⟩ (fun i σ H1 _ ⟨_,_,_,_,_,s1,_⟩=>SqL.of (s1 _ _ ea)) ?_ ?_⟩
 ·rintro i x σ H1 t hi ⟨lv,q,nb,th,rfl,s1,pq,ok1⟩ ht
  obtain⟨p,hpi,px⟩:=kH hp hi
  rw[p9 hpi]at ok1
  have s2:Same H (upd H1 t (.tup [.int i,x])):=s1.trans (iO ht _)
  have px2:=px.same s2
  simp_arith[iK]
  refine⟨_,p,_,q,d,kvs,rfl,px2,pq.same (iO ht _),s2 _ _ ed,ok1.1,?_⟩
  walk_at "D"
  exact⟨_,_,_,_,rfl,s2,px2,ok1.2⟩
 ·rintro σ H1 ⟨lv,q,nb,th,rfl,s1,_⟩
  exact h H1 s1
theorem HE(B:Blt mg)(D:DefAt K mg "look_at_web" (iM 24) ["thing"] f fd)(Dqb:DefAt K mg "is_tuple_of" (iM 8) ["thing","many"] fqb dqb)(Gqb:FnOk P w K mg base iR 1 fqb dqb ["thing","many"] vD)(Dq1:DefAt K mg "look_at_places" (iM 22) ["places"] fq1 dq1)(Gq1:FnOk P w K mg base iR 4 fq1 dq1 ["places"] A9)(Dq2:DefAt K mg "look_at_ties" (iM 23) ["ties","prices"] fq2 dq2)(Gq2:FnOk P w K mg base iR 4 fq2 dq2 ["ties","prices"] AS):FnOk P w K mg base iR 5 f fd ["thing"] vC:=by
 have sc:FnScope ["thing"] ["thing"] (je (iM 24)):=by walk_at "SC"
 refine D.F.ok sc (fun vs H Q E h=>?_) (fun cdv A outer s H vs Q E hr h=>?_)
 ·obtain⟨v,ps,ts,rfl,_⟩:=h
  rfl
 obtain⟨v,ps,ts,rfl,hw,ok,h⟩:=h
 obtain⟨u,pa,ta,xs,ys,rfl,eu,ep,et,pp,pt⟩:=hw
 have hlx:xs.length=ps.length:=aD pp
 have okl:=ok.pl
 have hu:=jn hr
 have hu0:_<PySem.cLine:=aF hu
 refine⟨_,(iN (kr (lj (ll (jd Gqb (hr.mono (by decide)) rfl Dqb.m Dqb.F.kp Dqb.b .nil iZ (iH (qv 0) (iH iL iI))))) (iS qd) ky) (iN (kF (jd Gq1 (hr.mono (by decide)) rfl Dq1.m Dq1.F.kp Dq1.b .nil iZ (iH (iT iU (qv 0) iL (fun _ _=>rfl)) iI))) (iS (kF (jd Gq2 (hr.mono (by decide)) rfl Dq2.m Dq2.F.kp Dq2.b .nil iZ (iH (iT iU (qv 0) iL (fun _ _=>rfl)) (iH (mr (p6 rfl) rfl B.dict cT (iH (iT iU (qv 0) iL (fun _ _=>rfl)) iI)) iI))))))),?_⟩
 walk_at "D"
 refine⟨u,_,2,rfl,eu,?_⟩
 simp_arith[iX,eu,jw,jQ,Int.cast_ofNat_Int,df]
 refine⟨pa,xs,ps,rfl,ep,pp,ok.pl,ok.p,fun H1 s1=>?_⟩
 simp_arith[iX,s1 _ _ eu,s1 _ _ ep,jw,jQ]
 refine⟨jx ps,qc (Prs.same s1 pp),by lia,sH ok.p.nodup,fun d hd=>?_⟩
 have s2:Same H (upd H1 d (.dK (jx ps))):=s1.trans (iO hd _)
 exact⟨ta,d,ys,ts,_,rfl,s2 _ _ et,iK,Prs.same s2 pt,ok.tl,ok.t,fun H3 s3=>h H3 (s2.trans s3)⟩
theorem Ia:kI 3 0=some 0:=rfl
theorem H0:kI 3 1=some 1:=rfl
theorem HZ:kI 3 2=some 2:=rfl
def StO(o:HO):Prop:=∃c st fl,o= .lst [.int c,.int st,.bl fl]/\0<=st/\st<4294967296
theorem StO.imm{o:HO}(h:StO o):tW o=false:=by obtain⟨_,_,_,rfl,_⟩:=h;rfl
def yP(K:PySem.W.Frag):Sp:=fun vs H Q _=>∃a k ns,vs=[.ref a,.int k]/\Scr K H a ns/\0<=k/\k<=1000/\∀s o,H s=none->StO o->Q (.ref s) (upd H s o)
def rq:Sp:=fun vs H Q _=>∃s o m,vs=[.ref s,.int m]/\H s=some o/\StO o/\1<=m/\m<1000000000000000000/\∀d o,0<=d->d<m->StO o->Q (.int d) (upd H s o)
theorem sU{i j:Int}(h1:-(2^64)<j)(h2:j<2^64):CMul i j:=.inr ⟨h1,h2⟩
theorem mN{i j:Int}(h1:-(2^64)<i)(h2:i<2^64):CMul i j:=.inl ⟨h1,h2⟩
def But(s:Addr)(H H':Hp):Prop:=∀b o,b≠s->H b=some o->H' b=some o
theorem But.trans{s:Addr}{H H1 H2:Hp}(a:But s H H1)(b:But s H1 H2):But s H H2:=fun c o n q=>b c o n (a c o n q)
theorem But.at(s:Addr)(H:Hp)(o:HO):But s H (upd H s o):=fun b u n q=>by rw[iQ n];exact q
theorem But.new{s t:Addr}{H:Hp}{o:HO}(h:H t=none):But s H (upd H t o):=fun b u n q=>by rw[iQ (iV q h)];exact q
theorem But.tups{s:Addr}{H H':Hp}(h:But s H H'){o:HO}(e:H s=some o)(i:tW o=false):lq H H':=fun b u z q=>h b u (fun x=>by rw[x,e]at q;cases q;rw[i]at z;cases z) q
theorem IP{α:Type}{x y z u:α}{r:List α}:jr (x::y::z::u::r) 3=some u:=by
 have e:jr (x::y::z::u::r) ((3:Nat):Int)=some u:=mm rfl
 exact e
theorem Ds{a b c e d:Int}(h0:0<=d)(h1:d<4):∃v,jr [V.int a,.int b,.int c,.int e] d=some (.int v)/\(v=a\/v=b\/v=c\/v=e):=by
 have hd:d=0\/d=1\/d=2\/d=3:=by lia
 rcases hd with rfl|rfl|rfl|rfl
 ·exact⟨a,jw,.inl rfl⟩
 ·exact⟨b,jQ,.inr (.inl rfl)⟩
 ·exact⟨c,at2,.inr (.inr (.inl rfl))⟩
 ·exact⟨e,IP,.inr (.inr (.inr rfl))⟩
def jro(H H':Hp)(t:Addr)(ps ts:List (Int×Int)):Prop:=∃l1 l2 xs ys,H l1=none/\H l2=none/\l1≠l2/\H' t=some (.tup [.ref l1,.ref l2])/\H' l1=some (.lst xs)/\H' l2=some (.lst ys)/\Prs H' xs ps/\Prs H' ys ts
def x8:Sp:=fun vs H Q _=>∃v ps ts,vs=[v]/\jdo H v ps ts/\∀t H',Same H H'->jro H H' t ps ts->Q (.ref t) H'
theorem G6(B:Blt mg)(D:DefAt K mg "_law_take" (iM 41) ["_law_state","_law_many"] f fd):FnOk P w K mg base iR 1 f fd ["_law_state","_law_many"] rq:=by
 have sc:FnScope ["_law_state","_law_many","_law_digit","_law_number"] ["_law_state","_law_many"] (je (iM 41)):=by walk_at "SC"
 refine D.F.ok sc (fun vs H Q E h=>?_) (fun cdv A outer s H vs Q E hr h=>?_)
 ·obtain⟨s,o,m,rfl,_⟩:=h
  rfl
 obtain⟨st,o,m,rfl,es,⟨c,x,fl,rfl,x0,x1⟩,m0,m1,h⟩:=h
 have hu:=jn hr
 have hu0:_<PySem.cLine:=aF hu
 refine⟨_,(iN (kr (ll (iT iU (qv 0) iL (fun _ _=>rfl))) (iN (jb (i:=2) sc.nd rfl (Or.inl rfl) (i9 nZ (iT iU (qv 0) iL (fun _ _=>rfl)) (qv 1))) (iN (oQ (i9 Ee (iT iU (qv 0) iL (fun _ _=>rfl)) (qv 1)) (rj (qv 0) iL oR)) (iN (oQ (lS nS (iT iU (qv 0) iL (fun _ _=>rfl)) iL (jI _)) (rj (qv 0) iL oR)) (iS (jh (qv 2)))))) ky) (iN (oQ (i9 nZ (i9 jM (i9 l5 (iT iU (qv 0) iL (fun _ _=>rfl)) iL) iL) iL) (rj (qv 0) iL oR)) (iN (jb (i:=3) sc.nd rfl (Or.inl rfl) (i9 xU (i9 nZ (i9 l5 (iT iU (qv 0) iL (fun _ _=>rfl)) (iT iU (qv 0) iL (fun _ _=>rfl))) iL) iL)) (iN (kr (kR nS (qv 1) (i9 uc iL iL) (jI _)) (iN (oQ (i9 nZ (i9 jM (i9 l5 (iT iU (qv 0) iL (fun _ _=>rfl)) iL) iL) iL) (rj (qv 0) iL oR)) (iS (jb (i:=3) sc.nd rfl (Or.inl rfl) (i9 jM (i9 l5 (qv 3) iL) (iT iU (qv 0) iL (fun _ _=>rfl)))))) ky) (iS (jh (i9 nZ (qv 3) (qv 1)))))))),?_⟩
 simp_arith[iX,es,jw,jQ,at2,Ia,H0,HZ,iK,zg]
 have lo:∀n:Int,0<=n%m:=fun n=>gb _ (by lia)
 have hi:∀n:Int,n%m<m:=fun n=>fm _ (by lia)
 have y0:0<=(x*48271+39373)%2147483647:=gb _ (by decide)
 have y1:(x*48271+39373)%2147483647<2147483647:=fm _ (by decide)
 generalize (x*48271+39373)%2147483647=y at y0 y1
 have z0:0<=(y*48271+39373)%2147483647:=gb _ (by decide)
 have z1:(y*48271+39373)%2147483647<2147483647:=fm _ (by decide)
 generalize (y*48271+39373)%2147483647=z at z0 z1
 have cd:BI c m:=⟨by lia,by lia⟩
 have cd2:∀n:Int,tj n 16:=fun n=>⟨by decide,by decide⟩
 have cp:tf 10 6:=⟨by decide,by decide,by decide⟩
 refine ou (fun _=>⟨by lia,cd,h _ _ (lo _) (hi _) ⟨_,_,_,rfl,x0,x1⟩⟩) (fun _=>⟨sU (by decide) (by decide),by decide,mN (by lia) (by lia),by decide,cd2 _,cp,?_⟩)
 refine ou (fun _=>⟨sU (by decide) (by decide),by decide,sU (by decide) (by decide),by lia,h _ _ (lo _) (hi _) ⟨_,_,_,rfl,z0,by lia⟩⟩) (fun _=>⟨by lia,h _ _ (lo _) (hi _) ⟨_,_,_,rfl,y0,by lia⟩⟩)
theorem Hk(B:Blt mg)(D:DefAt K mg "_law_begun" (iM 40) ["_law_script","_law_k"] f fd):FnOk P w K mg base iR 1 f fd ["_law_script","_law_k"] (yP K):=by
 have sc:FnScope ["_law_script","_law_k","_law_cell","_law_mixed"] ["_law_script","_law_k"] (je (iM 40)):=by walk_at "SC"
 refine D.F.ok sc (fun vs H Q E h=>?_) (fun cdv A outer s H vs Q E hr h=>?_)
 ·obtain⟨a,k,ns,rfl,_⟩:=h
  rfl
 obtain⟨a,k,ns,rfl,hs,k0,k1,h⟩:=h
 have hu:=jn hr
 have hu0:_<PySem.cLine:=aF hu
 refine⟨_,(iN (jb (i:=2) sc.nd rfl (Or.inl rfl) iL) (iN (kr (kR qM (qv 1) (jq vP rfl B.len bN (iH (qv 0) iI)) (jI _)) (iS (jb (i:=2) sc.nd rfl (Or.inl rfl) (iT yz (qv 0) (qv 1) (fun _ _=>rfl)))) ky) (iN (jb (i:=3) sc.nd rfl (Or.inl rfl) (i9 jM (i9 jM (i9 nZ (qv 2) iL) (i9 l5 iL (qv 1))) (i9 l5 iL (i9 xU (qv 1) iL)))) (iS (jh (kx (iH (qv 2) (iH (i9 nZ (qv 3) iL) (iH (lS tG (qv 2) (i9 uc iL iL) (jI _)) iI))))))))),?_⟩
 walk_at "D"
 refine⟨a,_,rfl,.inl hs.sq,?_⟩
 simp_arith[ae,xn]
 have q0:∀n:Int,0<=n%2147483629:=fun n=>gb _ (by decide)
 have q1:∀n:Int,n%2147483629<2147483629:=fun n=>fm _ (by decide)
 have cp:tf 10 18:=⟨by decide,by decide,by decide⟩
 have cd:tj k 7:=⟨by decide,by decide⟩
 refine ou (fun c=>?_) (fun c=>?_)
 ·have c':k<(ns.length:Int):=cG c
  have hk:k.toNat<ns.length:=by lia
  have e1:jr (ns.map V.int) ((k.toNat:Nat):Int)=some (.int ns[k.toNat]):=mm (by rw[aC,gE hk];rfl)
  rw[show((k.toNat:Nat):Int)=k by lia]at e1
  refine⟨a,_,k,_,rfl,rfl,hs.sq,e1,?_⟩
  walk_at "D"
  exact⟨by decide,mN (by decide) (by decide),cd,mN (by decide) (by decide),by decide,cp,fun p hp=>h p _ hp ⟨_,_,_,rfl,q0 _,by have:=q1 (ns[k.toNat]%2147483629+104729*k+7919*(k/7));lia⟩⟩
 ·exact⟨by decide,mN (by decide) (by decide),cd,mN (by decide) (by decide),by decide,cp,fun p hp=>h p _ hp ⟨_,_,_,rfl,q0 _,by have:=q1 (0%2147483629+104729*k+7919*(k/7));lia⟩⟩
end
end My
namespace So
open PySem PyProof.Rows
section
variable{prog:Program}{w:World}{A:Around}{E:Value->Shared->Prop}{s:Shared}
section
variable{prog:Program}{w:World}{A:Around}{E:Value->Shared->Prop}{s:Shared}{R:Keyed->Int}{κ:SortKind}{a₀:Array Keyed}{pd:Array (Nat×Nat×Nat)}
end
section
variable{prog:Program}{w:World}{A:Around}{E:Value->Shared->Prop}{s:Shared}
end
end
end So
namespace L2
open PySem PySem.Spec PyProof.Rows
end L2
namespace So
open PySem PySem.Spec PyProof.Rows
section
variable{prog:Program}{w:World}{s:Shared}
end
end So
namespace L2
open PySem PySem.Spec PyProof.Rows
def Tp(H:Hp)(v:V)(p:Int×Int×Int):Prop:=∃a,v= .ref a/\H a=some (.tup [.int p.1,.int p.2.1,.int p.2.2])
abbrev lg(H:Hp)(xs:List V)(ps:List (Int×Int×Int)):Prop:=Paired (Tp H) xs ps
section
variable{X:Cx}
end
theorem DN{K:PySem.W.Frag}{a c:Addr}{xs ys:List V}{g:TG}{tb:TS}{D:Ends}{σ:St}{H:Hp}(Pv:Nat->St->Hp->Prop)(hxy:xs.length=ys.length)(h0:Pv 0 σ H)(hl:∀i σ H,i<=xs.length->Pv i σ H->SqL K H a xs/\SqL K H c ys)
  (hs:∀i x y σ H t,xs[i]? =some x->ys[i]? =some y->Pv i σ H->H t=none->g (.ref t) σ (upd H t (.tup [x,y])) fun σ2 H2=>tb {D with nx:=Pv (i+1),ct:=Pv (i+1),bk:=D.nx} σ2 H2) (hd:∀σ H,Pv xs.length σ H->D.nx σ H):
  ∃W:Nat->Nat->St->Hp->Prop,(∃m,W 0 m σ H)/\∀i m σ H,W i m σ H->
   ((ni true K a c).stop i H/\D.nx σ H)\/((ni true K a c).go i H/\∃N:St->Hp->Prop,(∀σ' H',N σ' H'->∃m',m'<m/\W (i+1) m' σ' H')/\∀x H',(ni true K a c).yld i H x H'->g x σ H' fun σ2 H2=>tb {D with nx:=N,ct:=N,bk:=D.nx} σ2 H2):=by
 refine⟨fun i m σ H=>m=xs.length-i/\i<=xs.length/\Pv i σ H,⟨xs.length,by simp,bp _,h0⟩,?_⟩
 rintro i m σ H ⟨rfl,hi,p⟩
 obtain⟨q1,q2⟩:=hl i σ H hi p
 have q1':jY true K H a xs:=by unfold jY;rw[aA rfl];exact q1
 have q2':jY true K H c ys:=by unfold jY;rw[aA rfl];exact q2
 by_cases hlt:i<xs.length
 ·refine .inr ⟨⟨xs,ys,xs[i],ys[i]'(by lia),q1',q2',by simp[hlt],by simp[show i<ys.length by lia]⟩,Pv (i+1),fun σ' H' p'=>⟨xs.length-(i+1),by lia,rfl,hlt,p'⟩,fun x H' y=>?_⟩
  obtain⟨t,z1,z2,ht,e1,e2,y1,y2⟩:=y
  subst e1 e2
  exact hs i z1 z2 σ _ t (y1 xs q1') (y2 ys q2') p ht
 ·have e:i=xs.length:=by lia
  subst e
  exact .inl ⟨⟨xs,ys,q1',q2',.inl (ao _)⟩,hd σ H p⟩
section
variable{X:Cx}
noncomputable def tQ:V->List V->Hp->VK->Prop:=fun x vs H Q=>match x,vs with
 | .ref l,[.int k,y]=>match H l with
  |some (.lst xs)=>(0<=k/\k<=xs.length/\xs.length<1000)/\Q .non (upd H l (.lst (xs.take k.toNat++y::xs.drop k.toNat)))
  |_=>False
 |_,_=>False
theorem EJ(its:List Value)(k:Int)(u:Value)(h0:0<=k)(h1:k<=its.length):
  (fun xs:Array Value=>have j:=if k<0 then(k+(xs.size:Int)).toNat else min k.toNat xs.size;(xs.extract 0 j).push u++xs.extract j) its.toArray=(its.take k.toNat++u::its.drop k.toNat).toArray:=by
 have e:(if k<0 then(k+(its.toArray.size:Int)).toNat else min k.toNat its.toArray.size)=k.toNat:=by
  rw[ay (by lia),au]
  lia
 show((its.toArray.extract 0 (if k<0 then(k+(its.toArray.size:Int)).toNat else min k.toNat its.toArray.size)).push u++its.toArray.extract (if k<0 then(k+(its.toArray.size:Int)).toNat else min k.toNat its.toArray.size))=_
 rw[e]
 apply Array.ext'
 simp
 exact bQ (by rw[cX];lia)
theorem CV:MtR X "list.insert" tQ:=by
 intro pins s σ H x vs v us Q I rx rv h
 unfold tQ at h
 split at h
 ·rename_i l k y
  split at h
  ·rename_i xs hH
   obtain⟨⟨h0,h1,hz⟩,q⟩:=h
   cases rx
   obtain⟨u1,u2,rfl,r1,r2⟩:=rv.two
   obtain⟨t,rfl⟩:=r1
   obtain⟨z,its,n,r,hl,e⟩:=I.lstM hH
   have hsz:its.toArray.size<=sizeLine:=by rw[au,fu];lia
   refine iu F.slot_list_insert ⟨_,e,rfl⟩ F.entry_list_insert (F.args_list_insert_3 _ _ _) (PySem.AutoSeq1.list_insert_list_int_val_1 l its.toArray n k t u2 (by unfold Builtin.List.listFitsIndex;simp;lia) hsz) ⟨e,?_⟩
   refine⟨.non,_,I.lset (its':=its.take k.toNat++u2::its.drop k.toNat) hH e (EJ its k u2 h0 (by lia)) (Vals.append (r.take _) (.cons r2 (r.drop _))) ?_,rfl,q⟩
   rw[av,List.length_cons,aS,cX,fu]
   lia
  ·exact h.elim
 ·exact h.elim
end
section
variable{prog:Program}{w:World}{A:Around}{E:Value->Shared->Prop}{s:Shared}
end
noncomputable def oX{K:Type}[DecidableEq K](xs:List (K×Addr×Value)):List (K×Addr×Value)->List (K×Addr×Value)
 |[]=>xs
 |q::r=>oX (storedH xs q.1 q.2.1 q.2.2) r
theorem G9{K:Type}[DecidableEq K](xs:List (K×Addr×Value))(k:K)(a:Addr)(v:Value):(storedH xs k a v).length<=xs.length+1:=by
 unfold storedH
 split
 ·rw[ae];lia
 ·rw[av];exact ao _
section
variable{prog:Program}{w:World}{A:Around}{E:Value->Shared->Prop}{R:Result->Shared->Prop}
noncomputable abbrev TK(prog:Program)(w:World):HeapKind prog w (List iJ):=tupleKind (jR prog w)
theorem sv{h h':Heap}{d:Addr}{xs:List (List iJ×Addr×Value)}(hd:h.DictOfH (TK prog w) d xs)(k0:∀o,h.get? d=some o->h'.get? d=some o)(k1:∀b o,o.cls= .type "tuple"->h.get? b=some o->h'.get? b=some o):h'.DictOfH (TK prog w) d xs:=by
 obtain⟨o,es,ep,e1,e2,e3,e4,e5,e6⟩:=hd
 refine⟨o,es,ep,k0 _ e1,e2,e3,e4,fun x hx=>?_,e6⟩
 obtain⟨o2,its,n,f1,f2,f3⟩:=e5 x hx
 exact⟨o2,its,n,k1 _ _ f2 f1,f2,f3⟩
theorem Gp{d it l:Addr}{its:Array Value}{more:List (List iJ×Addr×Value)}(hh:A.handled=none)(hu:A.in1.units<cLine)(hlen:more.length=its.size)(hsz:its.size<=1000)(hdl:l≠d)(hdi:it≠d)(hil:l≠it):
  ∀(k i:Nat) (tk0:Tok) (s:Shared) (kvs:List (List iJ×Addr×Value)),its.size-i=k->i<=its.size->kvs.length<=i->s.heap.IsListIter it l i->s.heap.IsList l its->s.heap.DictOfH (TK prog w) d kvs->
   (∀(j:Nat) (q:List iJ×Addr×Value),more[j]? =some q->∃t,its[j]? =some (.ref t)/\s.heap.IsTuple t #[.ref q.2.1,q.2.2]/\(TK prog w).is s.heap q.1 q.2.1)->
   (∀h' tk,h'.DictOfH (TK prog w) d (oX kvs (more.drop i))->(∀b o,b≠d->b≠it->s.heap.get? b=some o->h'.get? b=some o)->R (.ok (.ret .none)) {s with heap:=h',toks:=tk})->
   codeAny (model prog w) A (.builtin "dict.update.loop" ⟨[.ref d,.ref it,.int i tk0,.none],[]⟩) R s:=by
 intro k
 induction k with
 |zero=>
  intro i tk0 s kvs hk hi hkl hit hl hd hp hR
  have e:i=its.size:=by lia
  subst e
  refine dP sM ?_
  rw[cQ nK _]
  show wpAny _ A.in1 (pyNext (.ref it)>>=_) _ _ s
  refine af (gf hh hit hl (by simp) fun h' eb=>?_)
  show wpAny _ A.in1 (Builtin.Dict.addKeywords d []>>=_) _ _ _
  refine af (aB (aB ?_))
  refine hR h' s.toks ?_ fun b o _ hb q=>eb b o hb q
  rw[dH (by lia)]
  refine sv hd (fun o q=>eb d o hdi.symm q) fun b o c q=>eb b o (fun z=>?_) q
  subst z
  obtain⟨o',e2,c2,_⟩:=hit
  rw[q]at e2;cases e2;rw[c]at c2;exact absurd c2 (by decide)
 | succ k ih=>
  intro i tk0 s kvs hk hi hkl hit hl hd hp hR
  have hlt:i<its.size:=by lia
  have hlm:i<more.length:=by lia
  obtain⟨t,hu',ht,hkey⟩:=hp i more[i] (by simp[hlm])
  have nit:∀{b:Addr} {o:Obj},o.cls= .type "tuple"->s.heap.get? b=some o->b≠it:=fun{b o} c q z=>by
   subst z
   obtain⟨o',e2,c2,_⟩:=hit
   rw[q]at e2;cases e2;rw[c]at c2;exact absurd c2 (by decide)
  have nd:∀{b:Addr} {o:Obj},o.cls= .type "tuple"->s.heap.get? b=some o->b≠d:=fun{b o} c q z=>by
   subst z
   obtain⟨o',_,_,e2,c2,_⟩:=hd
   rw[q]at e2;cases e2;rw[c2.1]at c;exact absurd c (by decide)
  refine dP sM ?_
  rw[cQ nK _]
  show wpAny _ A.in1 (pyNext (.ref it)>>=_) _ _ s
  refine af (fM hit hl hu' fun h1 hit1 sb1=>?_)
  obtain⟨ot0,et0,ct0,_⟩:=id ht
  have ht1:h1.IsTuple t #[.ref more[i].2.1,more[i].2.2]:=ht.extBut sb1.extBut (nit ct0 et0)
  have keep1:∀b o,o.cls= .type "tuple"->s.heap.get? b=some o->h1.get? b=some o:=fun b o c q=>sb1.extBut b o (nit c q) q
  have hd1:h1.DictOfH (TK prog w) d kvs:=sv hd (fun o q=>sb1.extBut d o hdi.symm q) keep1
  have hkey1:(TK prog w).is h1 more[i].1 more[i].2.1:=by
   obtain⟨o2,its2,n2,f1,f2,f3⟩:=hkey
   exact⟨o2,its2,n2,keep1 _ _ f2 f1,f2,f3⟩
  show wpAny _ A.in1 (holding [.ref t] _>>=_) _ _ _
  refine af (cq ?_)
  refine af (m:=(Builtin.Dict.pairItems (.ref t)).tryCatch _) ?_
  refine eJ ?_
  unfold Builtin.Dict.pairItems
  refine af (eI ht1.typeIs ?_)
  obtain⟨ot,e1,c1,n1,d1⟩:=id ht1
  rw[aA (by decide)]
  refine af (cg e1 d1 ?_)
  refine aB ?_
  show wpAny _ A.in1 (holding [.ref more[i].2.1,more[i].2.2] (dictSet d (.ref more[i].2.1) more[i].2.2)) _ _ _
  refine cq (wpAny_dictSet_heap (knd:=TK prog w) hu hkey1 hd1 (fun h2 hd2 sb2=>?_) (by have:=(by decide:1000<=sizeLine);lia))
  replace sb2:Heap.SameBut d h1 h2:=sb2
  have kk:∀b o,b≠d->b≠it->s.heap.get? b=some o->h2.get? b=some o:=fun b o b1 b2 q=>sb2.extBut b o b1 (sb1.extBut b o b2 q)
  refine aB ⟨dQ nK _,?_⟩
  have hik:((i:Int)+1)=((i+1:Nat):Int):=by lia
  show codeAny _ _ (.builtin "dict.update.loop" ⟨[.ref d,.ref it,rawInt ((i:Int)+1),.none],[]⟩) _ _
  rw[hik]
  refine ih (i+1) 0 _ (storedH kvs more[i].1 more[i].2.1 more[i].2.2) (by lia) (by lia) ?_ (hit1.extBut sb2.extBut hdi) ((hl.extBut sb1.extBut hil).extBut sb2.extBut hdl) hd2 ?_ ?_
  ·have:=G9 kvs more[i].1 more[i].2.1 more[i].2.2
   lia
  ·intro j q hq
   obtain⟨t',a1,a2,a3⟩:=hp j q hq
   obtain⟨o3,f1,f2,f3⟩:=a2
   obtain⟨o4,its4,n4,g1,g2,g3⟩:=a3
   exact⟨t',a1,⟨o3,kk _ _ (nd f2 f1) (nit f2 f1) f1,f2,f3⟩,⟨o4,its4,n4,kk _ _ (nd g2 g1) (nit g2 g1) g1,g2,g3⟩⟩
  ·intro h' tk hd' k'
   refine hR h' tk ?_ fun b o b1 b2 q=>k' b o b1 b2 (kk b o b1 b2 q)
   rw[cN hlm]
   exact hd'
theorem HF{l:Addr}{its:Array Value}{c:Nat}{more:List (List iJ×Addr×Value)}{s:Shared}{Q:Value->Shared->Prop}(hh:A.handled=none)(hu:A.in1.in1.units<cLine)(hl:s.heap.get? l=some {cls:=.type "list",dict:=none,data:=.seq its c,slots:=#[]})(hlen:more.length=its.size)(hsz:its.size<=1000)
  (hp:∀(j:Nat) (q:List iJ×Addr×Value),more[j]? =some q->∃t,its[j]? =some (.ref t)/\s.heap.IsTuple t #[.ref q.2.1,q.2.2]/\(TK prog w).is s.heap q.1 q.2.1)
  (h:∀h' tk,h'.DictOfH (TK prog w) s.heap.objs.size (oX [] more)->(∀b o,s.heap.get? b=some o->h'.get? b=some o)->Q (.ref s.heap.objs.size) {s with heap:=h',toks:=tk}):
  wpAny (model prog w) A (call (.type "dict") [.ref l]) Q E s:=by
 refine callType_codes (Q₁:=fun obj s₁=>obj= .ref s.heap.objs.size/\s₁={s with heap:=s.heap.push {cls:=.type "dict",data:=.dict #[]}}) F.kt_called_dict (F.kt_typeCall_dict_1 _) F.entry_dict_init (kt_code_dict_new _ ⟨rfl,rfl⟩) ?_
 rintro obj s₁ ⟨rfl,rfl⟩
 have hnew:(s.heap.push {cls:=.type "dict",data:=.dict #[]}).DictOfH (TK prog w) s.heap.objs.size []:=Heap.DictOfH.new s.heap
 have hl1:(s.heap.push {cls:=.type "dict",data:=.dict #[]}).get? l=some {cls:=.type "list",dict:=none,data:=.seq its c,slots:=#[]}:=ag _ hl
 have k1:∀b o,s.heap.get? b=some o->(s.heap.push {cls:=.type "dict",data:=.dict #[]}).get? b=some o:=fun b o q=>ag _ q
 have llt:l<s.heap.objs.size:=aL hl
 generalize s.heap.push {cls:=.type "dict",data:=.dict #[]}=h1 at hnew hl1 k1
 refine⟨hnew.typeIs,F.args_dict_init_2 _ _,?_⟩
 unfold Builtin.«dict.__init__»
 refine af ?_
 unfold Builtin.Dict.selfAndRest
 refine af (wpAny_notOrdered_dict hnew.typeIs ?_)
 show wpAny _ _ (pure (s.heap.objs.size,[Value.ref l])) _ _ _
 refine aB ?_
 show wpAny _ _ (Builtin.Dict.updateFrom "dict.__init__" s.heap.objs.size (.ref l) [] .none) _ _ _
 unfold Builtin.Dict.updateFrom
 refine af (eI (T:="list") ⟨_,hl1,rfl⟩ ?_)
 rw[aA (by decide)]
 refine af (xM hl1 hh fun h2 tk2 k2=>?_)
 have hl2:=k2 _ _ hl1
 have hd2:h2.DictOfH (TK prog w) s.heap.objs.size []:=sv hnew (fun o q=>k2 _ _ q) fun b o _ q=>k2 _ _ q
 have dlt:s.heap.objs.size<h2.objs.size:=by obtain⟨_,_,_,ho,_⟩:=hd2;exact aL ho
 simp only[Option.isNone_none,if_true]
 refine af (cY ?_)
 have hL:Heap.IsList h2 l its:=⟨_,hl2,rfl,_,rfl⟩
 refine af (eK (s:={s with heap:=h2,toks:=tk2}) hL ?_)
 refine aB ⟨dQ nK _,?_⟩
 have hit:(h2.push {cls:=.type "list_iterator",data:=.fields #[.ref l,.int 0 0]}).IsListIter h2.objs.size l 0:=⟨_,aR _ rfl,rfl,rfl⟩
 refine Gp (A:=A.in1) (more:=more) hh hu hlen hsz (aX llt) (dE dlt) (aX (Nat.lt_trans llt dlt)) its.size 0 0 {s with heap:=h2.push {cls:=.type "list_iterator",data:=.fields #[.ref l,.int 0 0]},toks:=tk2} [] rfl (bp _) (ao _) hit (hL.push _) (sv hd2 (fun o q=>ag _ q) fun b o _ q=>ag _ q) ?_ ?_
 ·intro j q hq
  obtain⟨t,a1,a2,a3⟩:=hp j q hq
  obtain⟨o,e,r⟩:=a2
  obtain⟨o4,its4,n4,g1,g2,g3⟩:=a3
  exact⟨t,a1,⟨o,ag _ (k2 _ _ (k1 _ _ e)),r⟩,⟨o4,its4,n4,ag _ (k2 _ _ (k1 _ _ g1)),g2,g3⟩⟩
 ·intro h' tk hd' k'
  rw[eO]at hd'
  refine⟨rfl,h h' tk hd' fun b o q=>k' b o (aX (aL q)) (aX (aL (k2 _ _ (k1 _ _ q)))) (ag _ (k2 _ _ (k1 _ _ q)))⟩
end
theorem Gi{K:Type}[DecidableEq K]{xs:List (K×Addr×Value)}{k:K}(h:k∉xs.map (·.1)):(atKey xs k).isSome=false:=by
 unfold atKey
 rw[fw]
 refine gY.mpr fun z=>?_
 rw[List.find?_isSome]at z
 obtain⟨x,hx,e⟩:=z
 exact h (by rw [<- cG e]; exact cM hx)
theorem A2{K:Type}[DecidableEq K]:∀(more xs:List (K×Addr×Value)),((xs++more).map (·.1)).Nodup->oX xs more=xs++more
 |[],xs,_=>by rw[oX,aY]
 | q::r,xs,h=>by
  have hq:q.1∉xs.map (·.1):=by
   rw[aq,bP]at h
   intro z
   exact h.2.2 _ z _ (cM (aH ..)) rfl
  rw[oX]
  have e:storedH xs q.1 q.2.1 q.2.2=xs++[q]:=by
   unfold storedH
   rw[Gi hq,ay aU]
  rw[e,A2 r (xs++[q]) (by rw[aQ];exact h),aQ]
  rfl
def jiq(H:Hp)(v:V)(p:List iJ×V):Prop:=∃t b,v= .ref t/\H t=some (.tup [.ref b,p.2])/\H b=some (.tup (p.1.map kV))
def CL:List V->Hp->VK->Prop:=fun vs H Q=>∃l xs kvs,vs=[.ref l]/\H l=some (.lst xs)/\Paired (jiq H) xs kvs/\xs.length<=1000/\(kvs.map (·.1)).Nodup/\∀d,H d=none->Q (.ref d) (upd H d (.dT kvs))
theorem A4{X:Cx}{pins:List (Addr×Obj)}{σ:St}{H:Hp}{s:Shared}(I:Inv X pins σ H s):∀{xs:List V} {kvs:List (List iJ×V)} {its:List Value},Paired (jiq H) xs kvs->Vals xs its->
  ∃more:List (List iJ×Addr×Value),KT H kvs more/\∀(j:Nat) (q:List iJ×Addr×Value),more[j]? =some q->∃t,its[j]? =some (.ref t)/\s.heap.IsTuple t #[.ref q.2.1,q.2.2]/\(TK X.prog X.w).is s.heap q.1 q.2.1
 |_,_,_,.nil,.nil=>⟨[],.nil,fun j q h=>by simp at h⟩
 | _,_,_,.cons hp tp,.cons rv tr=>by
  obtain⟨more,hk,hm⟩:=A4 I tp tr
  obtain⟨t,b,rfl,ht,hb⟩:=hp
  cases rv
  obtain⟨_,its',rt,hi⟩:=I.hok t _ ht
  obtain⟨u1,u2,rfl,r1,r2⟩:=rt.two
  cases(show u1=Value.ref b from r1)
  refine⟨(_,b,u2)::more,.cons ⟨rfl,hb,r2⟩ hk,fun j q h=>?_⟩
  cases j with
  |zero=>
   have e:=(show some _=some q from h)
   cases e
   exact⟨t,rfl,hi,ny I.hok hb⟩
  |succ j=>
   obtain⟨t2,a1,a2,a3⟩:=hm j q (by simpa using h)
   exact⟨t2,by simpa using a1,a2,a3⟩
theorem yj{H:Hp}:∀{kvs:List (List iJ×V)} {xs:List (List iJ×Addr×Value)},KT H kvs xs->kvs.map (·.1)=xs.map (·.1)
 |_,_,.nil=>rfl
 |_,_,.cons r t=>by rw[ah,ah,r.1,yj t]
theorem Gk{X:Cx}(hc:X.calm=true)(hu:X.A.units+64<cLine):jbw X (.type "dict") CL:=by
 intro pins s σ H vs us Q I rv h
 obtain⟨l,xs,kvs,rfl,hl,hp,hz,hn,q⟩:=h
 obtain⟨u,rfl,ru⟩:=rv.one
 cases ru
 obtain⟨z,its,n,r,hlen,e⟩:=I.lstM hl
 obtain⟨more,hkv,hm⟩:=A4 I hp r
 have hlm:kvs.length=more.length:=aD hkv
 have hlx:xs.length=kvs.length:=aD hp
 refine HF (more:=more) (I.ok.hd hc) (show X.A.units+1+1<cLine by lia) e (by rw[au];lia) (by rw[au];lia) (fun j q hj=>?_) fun h' tk dd k=>?_
 ·obtain⟨t,a1,a2,a3⟩:=hm j q hj
  exact⟨t,by simpa using a1,a2,a3⟩
 ·rw [A2 more [] (by rw [List.nil_append,<- yj hkv]; exact hn),List.nil_append] at dd
  obtain⟨o,es,ep,h1,h2,h3,h4,_,h5⟩:=dd
  refine⟨.ref s.heap.objs.size,upd H s.heap.objs.size (.dT kvs),I.laid k (ao _) (show jbk X.prog X.w _ _ _ (.dT kvs)from⟨by have:=(by decide:1000<=sizeLine);lia,by have:=I.big;exact beq_false_of_ne (dE this),more,hkv.keeps fun b ys eb=>?_,o,es,ep,h1,h2,h3,h4,h5⟩),rfl,q _ I.fresh⟩
  rw[iQ (iV eb I.fresh)]
  exact eb
noncomputable def mi:List Int->List Int->Bool
 |[],_=>true
 |_::_,[]=>false
 |x::xs,y::ys=>if x=y then mi xs ys else decide (x<=y)
theorem uv(x y:Int)(xs ys:List Int):mi (x::xs) (y::ys)=if x=y then mi xs ys else decide (x<=y):=rfl
theorem Cu(A:Around)(s:Shared)(a:Int)(t:Tok)(c:Int)(u:Tok)(prog:Program)(w:World)(E Q:Value->Shared->Prop)(h:Q (.bool (decide (a<=c))) s):
  wpAny (model prog w) A (richCompare .LtE (.int a t) (.int c u)) Q E s:=
 (PyProof.Rows.le_int h:wpAny (model prog w) A (compareOp .LtE (.int a t) (.int c u)) Q E s)
section
open PySem.SeqAt
open PySem.AutoSeq1 (wpAny_loadPart')
open PySem.MeetsSeq PySem.MeetsSeq2 PySem.MeetsSeq3
theorem ES(l b:Addr)(is js:Array Value)(n n2:Nat)(dd dd2:Option Addr)(sl mR:Array (Option Value))(ns ms:List Int)(hi:IntsAre is.toList ns)(hj:IntsAre js.toList ms):
  Meets (Builtin.«tuple.__le__» ⟨[.ref l,.ref b],[]⟩)
   (fun _ R s=>s.heap.get? l=some {cls:=.type "tuple",dict:=dd,data:=.seq is n,slots:=sl}/\s.heap.get? b=some {cls:=.type "tuple",dict:=dd2,data:=.seq js n2,slots:=mR}/\R (.ok (.ret (.bool (mi ns ms)))) s):=
 .of_wp fun prog w A R s h=>by
  obtain⟨hp,g,d,tk,os⟩:=s
  obtain⟨hl,hb,h⟩:=h
  have f2:=AutoSeq1.sub_tuple_tuple
  have z1:is.size = ns.length:=by rw [<- hi.length]; simp
  have z2:js.size = ms.length:=by rw [<- hj.length]; simp
  wp_walk using fX hl,fX hb,wpAny_forIn_list _ (fun rest b s'=>b.1=none/\s'=⟨hp,g,d,tk,os⟩/\∃(vs ws:List Value) (k m:List Int),rest=vs.zip ws/\IntsAre vs k/\IntsAre ws m/\k.length+js.size=m.length+is.size/\R (.ok (.ret (.bool (mi k m)))) ⟨hp,g,d,tk,os⟩) _
  case turn=>
   rintro⟨y,x⟩ rest b s' ⟨q0,rfl,vs,ws,k,m,hz,q1,q2,q3,q4⟩
   cases q1 with
   |nil=>rw[List.zip_nil_left]at hz;cases hz
   | cons a t q1=>
    cases q2 with
    |nil=>rw[List.zip_nil_right]at hz;cases hz
    | cons c u q2=>
     rw[List.zip_cons_cons]at hz
     injection hz with p1 p2
     injection p1 with p3 p4
     subst p3 p4
     rw[uv]at q4
     simp only[List.length_cons]at q3
     refine af (gH a t c u prog w _ _ ?_)
     by_cases e:a=c
     ·rw[aA e]at q4
      rw[show(a==c)=true by rw[e];exact fG _]
      wp_walk
      exact⟨rfl,rfl,_,_,_,_,p2,q1,q2,by lia,q4⟩
     ·rw[ay e]at q4
      rw[show(a==c)=false by rw[bX];exact e]
      have hri:=Cu A.in1 ⟨hp,g,d,tk,os⟩ a t c u prog w
      wp_walk using hri
      exact⟨_,rfl,by simpa using q4⟩
  case fin=>
   rintro⟨b1,b2⟩ s' ⟨q0,rfl,vs,ws,k,m,hz,q1,q2,q3,q4⟩
   simp only at q0
   subst q0
   have hv:mi k m=decide (is.size<=js.size):=by
    cases q1 with
    |nil=>
     simp only[List.length_nil]at q3
     rw[show mi [] m=true by cases m<;>rfl]
     exact(aK (by lia)).symm
    | cons a t q1=>
     cases q2 with
     |nil=>
      simp only[List.length_nil,List.length_cons]at q3
      exact(aP (by lia)).symm
     |cons c u q2=>
      rw[List.zip_cons_cons]at hz
      cases hz
   rw[hv]at q4
   wp_walk
   exact⟨_,rfl,by simpa[Builtin.Tuple.tupleCompareSizes]using q4⟩
  case h=>
   exact⟨rfl,rfl,is.toList,js.toList,ns,ms,rfl,hi,hj,by lia,h⟩
end
section
variable{X:Cx}{a b c:Expr}{ta tb tc:TE}{pos:Pos}
theorem Fg {op op':CmpOp}{g:Int->Int->Bool}{r':R2}(ho:OpR X (compareOp op) (fI fun i j=>.bl (g i j)))(ho':OpR X (compareOp op') r')(ha:PE X a ta)(hb:PE X b tb)(hc:PE X c tc)
    (hm:lastMarks [op,op'] [b,c]=false:=by with_unfolding_all rfl):PT X (.Compare a [op,op'] [b,c] pos) (fB (uk (fI fun i j=>.bl (g i j)) r' ta tb tc)):=by
  intro pins s σ H Q I h
  refine isTrue_chain (iP (ha pins s σ H _ I h) fun v s1 ⟨x,H1,I1,r1,q1⟩=>test_link (iP (hb pins s1 σ H1 _ I1 q1) fun u s2 ⟨y,H2,I2,r2,q2⟩=>
    iP (ho pins s2 σ H2 x y v u (fun z H3=>∃k,z= .bl k/\(if k=true then tc σ H3 fun w' H4=>r' y w' H4 fun z2 H5=>match z2 with | .bl q=>Q q H5|_=>False else Q false H3)) I2 r1 r2 ?_) fun d s3 ⟨z,H3,I3,r3,k,e,q3⟩=>?_)) hm
  · dsimp only at q2
    unfold fI at q2 ⊢
    cases x<;>cases y<;>first
      |exact q2.elim
      |exact⟨_,rfl,q2⟩
  · subst e
    cases r3
    refine cc ?_
    cases k with
    |false=>exact ite_ff ⟨H3,I3,q3⟩
    | true =>
      refine ite_tt (test_last (iP (hc pins s3 σ H3 _ I3 q3) fun w' s4 ⟨z',H4,I4,r4,q4⟩=>iP (ho' pins s4 σ H4 y z' u w' _ I4 r2 r4 q4) fun d2 s5 ⟨z2,H5,I5,r5,q5⟩=>?_))
      cases z2<;>first
        |exact False.elim q5
        | (cases r5
           exact cc ⟨H5,I5,q5⟩)
end
def we:R2:=fun x y H Q=>match x,y with
 | .ref a,.ref b=>match H a,H b with
  |some (.tup [.int i,.int j]),some (.tup [.int k,.int l])=>Q (.bl (mi [i,j] [k,l])) H
  |_,_=>False
 |_,_=>False
theorem CU{X:Cx}(hu:X.A.units<cLine):OpR X (compareOp .LtE) we:=by
 intro pins s σ H x y v u Q I rx ry h
 unfold we at h
 split at h
 ·split at h
  ·rename_i a b _ _ i j k l e1 e2
   cases rx
   cases ry
   obtain⟨its,r1,p1,_⟩:=I.tuple (SqT.of e1)
   obtain⟨its2,r2,p2,_⟩:=I.tuple (SqT.of e2)
   have i1:IntsAre its.toArray.toList [i,j]:=oq r1
   have i2:IntsAre its2.toArray.toList [k,l]:=oq r2
   obtain⟨⟨cls,dd,data,sl⟩,ho,hc,n,hd⟩:=id p1
   obtain⟨⟨cls2,dd2,data2,mR⟩,ho2,hc2,n2,hd2⟩:=id p2
   simp only at hc hd hc2 hd2
   subst hc hd hc2 hd2
   exact richCompare_meets_room (op:=.LtE) ⟨_,ho,rfl⟩ ⟨_,ho2,rfl⟩ PySem.F.slot_tuple_le PySem.F.entry_tuple_le (PySem.F.args_tuple_le_2 _ _) (ES _ _ _ _ n n2 dd dd2 sl mR _ _ i1 i2)
    ⟨ho,ho2,(fun z=>nomatch z),.bl _,H,I,rfl,h⟩ hu
  ·exact h.elim
 ·exact h.elim
end L2
namespace My
open PySem L2
section
variable{P:Program}{w:World}{K:PySem.W.Frag}{mg:Str->Option Value}{base:Heap}{c1 c2 c3 c4:Tok}{C_NoWeb fqi:Addr}{dI:FuncData}
noncomputable def mD:Dt->Option (Int×Int)
 | .tup [.int x,.int y]=>some (x,y)
 |_=>none
def BC(H:Hp)(x:V)(o:Option (Int×Int)):Prop:=∃d,Rep H d x/\mD d=o
theorem zI{d:Dt}{p:Int×Int}(h:mD d=some p):d=kq p:=by
 unfold mD at h
 split at h
 ·cases h;rfl
 ·cases h
theorem zE{H:Hp}{x:V}{p:Int×Int}(h:Rep H (kq p) x):Pr H x p:=by
 rw[kq,Rep]at h
 obtain⟨a,vs,rfl,ea,r⟩:=h
 rw[Reps]at r
 obtain⟨v,r1,rfl,e1,r⟩:=r
 rw[Reps]at r
 obtain⟨v2,r2,rfl,e2,r⟩:=r
 rw[Reps]at r
 subst r
 rw[Rep]at e1 e2
 subst e1 e2
 exact⟨a,rfl,ea⟩
theorem Pr.o{H:Hp}{x:V}{p:Int×Int}(h:Pr H x p):BC H x (some p):=⟨kq p,h.rep,rfl⟩
noncomputable def kL:Dt->Kd
 | .non=>.non
 | .bl _=>.bl
 | .int _=>.int
 | .str _=>.str
 | .tup _=>.tup
 | .lst _=>.lst
theorem oU{H:Hp}{d:Dt}{x:V}(h:Rep H d x):L2.kd H x=some (kL d):=by
 cases d with
 |non=>rw[Rep]at h;subst h;rfl
 |bl b=>rw[Rep]at h;subst h;rfl
 |int b=>rw[Rep]at h;subst h;rfl
 |str b=>rw[Rep]at h;subst h;rfl
 |tup ds=>rw[Rep]at h;obtain⟨a,vs,rfl,e,_⟩:=h;unfold L2.kd;dsimp only;rw[e];rfl
 |lst ds=>rw[Rep]at h;obtain⟨a,vs,rfl,e,_⟩:=h;unfold L2.kd;dsimp only;rw[e];rfl
noncomputable def lJ(m:Int):Dt->Bool
 | .tup ds=>decide ((ds.length:Int)=m)
 |_=>false
def rB:Sp:=fun vs H Q _=>∃x d m,vs=[x,.int m]/\Rep H d x/\Q (.bl (lJ m d)) H
def yY:Sp:=fun vs H Q _=>∃x o,vs=[x]/\BC H x o/\Q (.bl o.isSome) H
noncomputable def pH:Dt->Option (Int×Int×Int)
 | .tup [.int x,.int y,.int z]=>some (x,y,z)
 |_=>none
noncomputable def ku(d:Int×Int×Int):Dt:=.tup [.int d.1,.int d.2.1,.int d.2.2]
theorem Aa{d:Dt}{p:Int×Int×Int}(h:pH d=some p):d=ku p:=by
 unfold pH at h
 split at h
 ·cases h;rfl
 ·cases h
theorem vq{H:Hp}{x:V}{p:Int×Int×Int}(h:Rep H (ku p) x):Tp H x p:=by
 rw[ku,Rep]at h
 obtain⟨a,vs,rfl,ea,r⟩:=h
 rw[Reps]at r
 obtain⟨v,r1,rfl,e1,r⟩:=r
 rw[Reps]at r
 obtain⟨v2,r2,rfl,e2,r⟩:=r
 rw[Reps]at r
 obtain⟨v3,r3,rfl,e3,r⟩:=r
 rw[Reps]at r
 subst r
 rw[Rep]at e1 e2 e3
 subst e1 e2 e3
 exact⟨a,rfl,ea⟩
noncomputable def md(d:Dt):Option (Int×Int×Int):=match pH d with
 |some p=>if 1<=p.2.2 then some p else none
 |none=>none
def yV:Sp:=fun vs H Q _=>∃x d,vs=[x]/\Rep H d x/\∀H',Same H H'->Q (.bl (md d).isSome) H'
noncomputable def rE(ds:List Dt):Bool:=ds.all fun d=>nC (kL d)
theorem FG{ds:List Dt}(h:ds.length=3)(hw:rE ds=true):∃p:Int×Int×Int,ds=[.int p.1,.int p.2.1,.int p.2.2]:=by
 match ds,h with
 | [a,b,c],_=>
  unfold rE at hw
  simp only[List.all_cons,List.all_nil,Bool.and_true,cE]at hw
  obtain⟨h1,h2,h3⟩:=hw
  cases a with
  | int x=>cases b with
   |int y=>cases c with
    |int z=>exact⟨(x,y,z),rfl⟩
    |_=>cases h3
   |_=>cases h2
  |_=>cases h1
theorem yh{ds:List Dt}(h:¬ds.length=3\/rE ds=false):pH (.tup ds)=none:=by
 unfold pH
 split
 ·rename_i e
  cases e
  rcases h with h|h
  ·exact absurd rfl h
  ·cases h
 ·rfl
noncomputable def kB(ds:List (Int×Int×Int))(n:Int):Int:=(ds.map fun d=>(if d.1=n then d.2.2 else 0)+(if d.2.1=n then d.2.2 else 0)).sum
def jlg(kvs:List (iJ×V))(ds:List (Int×Int×Int)):Prop:=∀n:Int,(i8 kvs (Sum.inl n:iJ)=none/\kB ds n=0)\/i8 kvs (Sum.inl n:iJ)=some (.int (kB ds n))
theorem jlg.get{kvs:List (iJ×V)}{ds:List (Int×Int×Int)}(h:jlg kvs ds)(n:Int):(i8 kvs (Sum.inl n:iJ)).getD (.int 0)= .int (kB ds n):=by
 rcases h n with⟨e,f⟩|e
 ·rw[e,f];rfl
 ·rw[e];rfl
def yS:Sp:=fun vs H Q _=>∃l zs ds,vs=[.ref l]/\H l=some (.lst zs)/\lg H zs ds/\ds.length<=200/\∀d kvs H',Same H H'->H' d=some (.dK kvs)->jlg kvs ds->Q (.ref d) H'
theorem Tp.tups{H H':Hp}{v:V}{p:Int×Int×Int}(h:Tp H v p)(s:lq H H'):Tp H' v p:=let⟨a,e,q⟩:=h;⟨a,e,s _ _ rfl q⟩
theorem kG{H H':Hp}(s:lq H H'):∀{xs:List V} {ps:List (Int×Int×Int)},lg H xs ps->lg H' xs ps
 |_,_,.nil=>.nil
 |_,_,.cons r t=>.cons (Tp.tups r s) (kG s t)
theorem zK(kvs:List (iJ×V))(k:iJ)(v:V):(jF kvs k v).length<=kvs.length+1:=sL kvs k v
theorem HI(B:Blt mg)(D:DefAt K mg "is_tuple_of" (iM 8) ["thing","many"] f fd):FnOk P w K mg base iR 1 f fd ["thing","many"] rB:=by
 have sc:FnScope ["thing","many"] ["thing","many"] (je (iM 8)):=by walk_at "SC"
 refine D.F.ok sc (fun vs H Q E h=>?_) (fun cdv A outer s H vs Q E hr h=>?_)
 ·obtain⟨x,d,m,rfl,_⟩:=h
  rfl
 obtain⟨x,d,m,rfl,hd,h⟩:=h
 have hk:=oU hd
 have hu:=jn hr
 have hu0:_<PySem.cLine:=aF hu
 refine⟨_,(iS (jh (lz (jq (nY .tup) rfl B.isinstance bR (iH (qv 0) (iH (oh (v:=.ty "tuple") rfl B.tuple PyProof.Rows.boot_tuple rfl) iI))) (m9 (lS pJ (jq lO rfl B.len bN (iH (qv 0) iI)) (qv 1) (jI _)))))),?_⟩
 cases d with
 |tup ds=>
  rw[Rep]at hd
  obtain⟨a,vs,rfl,ea,r⟩:=hd
  simp_arith[kd,ea,iX,lp]
  rw[r.len]
  exact h
 |non=>simp_arith[hk,lp,kL];exact h
 |bl b=>simp_arith[hk,lp,kL];exact h
 |int b=>simp_arith[hk,lp,kL];exact h
 |str b=>simp_arith[hk,lp,kL];exact h
 |lst b=>simp_arith[hk,lp,kL];exact h
theorem HX(B:Blt mg)(D:DefAt K mg "is_pair_of_wholes" (iM 9) ["thing"] f fd)(Dqb:DefAt K mg "is_tuple_of" (iM 8) ["thing","many"] fqb dqb)(Gqb:FnOk P w K mg base iR 1 fqb dqb ["thing","many"] rB)(Dqc:DefAt K mg "is_whole" (iM 7) ["thing"] fqc dqc)(Gqc:FnOk P w K mg base iR 1 fqc dqc ["thing"] rV):FnOk P w K mg base iR 2 f fd ["thing"] yY:=by
 have sc:FnScope ["thing"] ["thing"] (je (iM 9)):=by walk_at "SC"
 refine D.F.ok sc (fun vs H Q E h=>?_) (fun cdv A outer s H vs Q E hr h=>?_)
 ·obtain⟨x,o,rfl,_⟩:=h
  rfl
 obtain⟨x,o,rfl,ho,h⟩:=h
 obtain⟨d,hd,rfl⟩:=ho
 have hu:=jn hr
 have hu0:_<PySem.cLine:=aF hu
 refine⟨_,(iS (jh (lz (jd Gqb (hr.mono (by decide)) rfl Dqb.m Dqb.F.kp Dqb.b .nil iZ (iH (qv 0) (iH iL iI))) (lz (jd Gqc (hr.mono (by decide)) rfl Dqc.m Dqc.F.kp Dqc.b .nil iZ (iH (iT iU (qv 0) iL (fun _ _=>rfl)) iI)) (m9 (jd Gqc (hr.mono (by decide)) rfl Dqc.m Dqc.F.kp Dqc.b .nil iZ (iH (iT iU (qv 0) iL (fun _ _=>rfl)) iI))))))),?_⟩
 walk_at "D"
 refine⟨_,d,2,rfl,hd,?_⟩
 cases d with
 | tup ds=>
  rw[Rep]at hd
  obtain⟨a,vs,rfl,ea,r⟩:=hd
  match ds,r,h with
  |[],r,h=>
   rw[show lJ 2 (.tup [])=false from rfl]
   walk_at "D"
   exact h
  |[d1],r,h=>
   have e2:mD (.tup [d1])=none:=by cases d1<;>rfl
   rw[e2]at h
   rw[show lJ 2 (.tup [d1])=false from rfl]
   walk_at "D"
   exact h
  | d1::d2::d3::ds,r,h=>
   have e:lJ 2 (.tup (d1::d2::d3::ds))=false:=by
    unfold lJ
    refine aP ?_
    rw[List.length_cons,List.length_cons,List.length_cons]
    lia
   have e2:mD (.tup (d1::d2::d3::ds))=none:=by cases d1<;>cases d2<;>rfl
   rw[e2]at h
   rw[e]
   walk_at "D"
   exact h
  | [d1,d2],r,h=>
   rw[Reps]at r
   obtain⟨v1,r1,rfl,e1,r⟩:=r
   rw[Reps]at r
   obtain⟨v2,r2,rfl,e2,r⟩:=r
   rw[Reps]at r
   subst r
   rw[show lJ 2 (.tup [d1,d2])=true from rfl]
   simp_arith[iX,ea,jw,jQ]
   refine⟨_,kL d1,rfl,oU e1,?_⟩
   cases d1 with
   |int i=>
    simp_arith[kL,nC,iX,ea,jw,jQ]
    refine⟨_,kL d2,rfl,oU e2,?_⟩
    cases d2<;>exact h
   |_=>simp_arith[kL,nC];exact h
 |_=>simp_arith[lJ];exact h
theorem FZ(B:Blt mg)(D:DefAt K mg "is_due" (iM 27) ["thing"] f fd)(Dqb:DefAt K mg "is_tuple_of" (iM 8) ["thing","many"] fqb dqb)(Gqb:FnOk P w K mg base iR 1 fqb dqb ["thing","many"] rB)(Dqc:DefAt K mg "is_whole" (iM 7) ["thing"] fqc dqc)(Gqc:FnOk P w K mg base iR 1 fqc dqc ["thing"] rV):FnOk P w K mg base iR 2 f fd ["thing"] yV:=by
 have sc:FnScope ["thing"] ["thing"] (je (iM 27)):=by walk_at "SC"
 refine D.F.ok sc (fun vs H Q E h=>?_) (fun cdv A outer s H vs Q E hr h=>?_)
 ·obtain⟨x,d,rfl,_⟩:=h
  rfl
 obtain⟨x,d,rfl,hd,h⟩:=h
 have hu:=jn hr
 have hu0:_<PySem.cLine:=aF hu
 refine⟨_,(iS (jh (lz (jd Gqb (hr.mono (by decide)) rfl Dqb.m Dqb.F.kp Dqb.b .nil iZ (iH (qv 0) (iH iL iI))) (lz (jq (tZ rfl) rfl B.all gm (iH (kN (CpScope.of (N:=["part"]) (src:=[none]) (by rfl)) rfl (C0 (qv 0)) (fun _ _ _ _=>(iY (i:=0) (jy (l:=["part"]) (by rfl)) rfl (Or.inl rfl))) (fun _ _ _ _=>kS) (fun _ _ _ _=>(jd Gqc (hr.mono (by decide)) rfl Dqc.m Dqc.F.kp Dqc.b .nil iZ (iH (qv 0) iI)))) iI)) (m9 (lS tG (iT iU (qv 0) iL (fun _ _=>rfl)) iL (jI _))))))),?_⟩
 walk_at "D"
 refine⟨_,d,3,rfl,hd,?_⟩
 cases d with
 | tup ds=>
  have hd0:=hd
  rw[Rep]at hd
  obtain⟨a,vs,rfl,ea,r⟩:=hd
  have hlv:=r.len
  by_cases c3:ds.length=3
  ·rw[show lJ 3 (.tup ds)=true from aK (by lia)]
   walk_at "D"
   refine kO (wC K a) H (fun R hR=>?_) (fun z hz0=>km ds.length (fun i σ' Hc=>∃w1,σ'=[w1]/\Same H Hc/\Hc z=some (.lst (((ds.take i).map fun d=>nC (kL d)).map V.bl))) ⟨none,rfl,iO hz0 _,iK⟩ ?_ ?_)
   ·unfold Bj
    walk_at "D"
    exact⟨a,rfl,⟨_,SqT.of ea⟩,hR⟩
   ·rintro i σ' Hc hi ⟨w1,rfl,s2,ez⟩
    have x1:vs[i]? =some (vs[i]'(by lia)):=gE _
    refine⟨⟨_,_,SqT.of (s2 _ _ ea),x1⟩,?_⟩
    rintro y H' ⟨rfl,hy⟩
    have E1:=aI (x1.symm.trans (hy _ (SqT.of (s2 _ _ ea))))
    subst E1
    obtain⟨dt,hdt,rdt⟩:=r.at x1
    walk_at "D"
    refine⟨_,kL dt,rfl,oU (Rep.same s2 _ rdt),?_⟩
    refine⟨_,ez,?_,_,rfl,jJ s2 hz0,?_⟩
    ·rw[ae,ae,aS]
     exact jt (by lia)
    ·rw[iK,jv hdt,aq,aq]
     rfl
   rintro σ' H1 ⟨w1,rfl,s1,ez⟩
   refine⟨⟨_,SqT.of (s1 _ _ ea),by lia⟩,?_⟩
   rw[aV]at ez
   simp_arith[ez]
   refine⟨_,rfl,?_⟩
   have ew:(ds.map fun d=>nC (kL d)).all id=rE ds:=by rw[gT];rfl
   refine ou (fun c=>?_) (fun c=>?_)
   ·have c:=ew.symm.trans c
    obtain⟨p,hp⟩:=FG c3 c
    subst hp
    obtain⟨a',ea',e3⟩:=vq (p:=p) hd0
    cases ea'
    simp_arith[iX,s1 _ _ e3,at2]
    have e9:(md (ku p)).isSome=decide (p.2.2 ≥ 1):=by
     unfold md
     show(match some (p.1,p.2.1,p.2.2)with |some p=>if 1<=p.2.2 then some p else none|none=>none).isSome=_
     dsimp only
     by_cases c9:1<=p.2.2
     ·rw[aA c9,aK c9];rfl
     ·rw[ay c9,aP c9];rfl
    have:=h H1 s1
    rw[show(Dt.tup [.int p.1,.int p.2.1,.int p.2.2])=ku p from rfl,e9]at this
    exact this
   ·have c:=ew.symm.trans (gY.mpr c)
    have:=h H1 s1
    unfold md at this
    rw[yh (.inr c)]at this
    exact this
  ·rw[show lJ 3 (.tup ds)=false from aP (by lia)]
   walk_at "D"
   have:=h H (Same.refl _)
   unfold md at this
   rw[yh (.inl c3)]at this
   exact this
 |_=>simp_arith[lJ];exact h H (Same.refl _)
noncomputable def lL(ts:List (Int×Int)):List (List iJ×V):=ts.map fun t=>([Sum.inl t.1,Sum.inl t.2],V.bl true)
theorem yF:∀(ts:List (Int×Int)) (t:Int×Int),(i8 (lL ts) ([Sum.inl t.1,Sum.inl t.2]:List iJ)).isSome=decide (t∈ts)
 |[],t=>by simp[lL,i8]
 | u::r,t=>by
  have ih:=yF r t
  unfold lL i8 at ih ⊢
  rw[ah,List.find?_cons]
  by_cases h:u=t
  ·subst h;simp
  ·have hne:¬(([Sum.inl u.1,Sum.inl u.2]:List iJ)=[Sum.inl t.1,Sum.inl t.2]):=fun z=>by
    injection z with z1 z2
    injection z2 with z2 _
    exact h (Prod.ext (cw z1) (cw z2))
   dsimp only
   rw[aP hne]
   dsimp only
   rw[ih]
   have hn:¬t=u:=fun z=>h z.symm
   simp[hn]
def yX:Sp:=fun vs H Q _=>∃u zs ts,vs=[.ref u]/\H u=some (.lst zs)/\Prs H zs ts/\ts.Nodup/\ts.length<=120/\∀d H',H d=none->Same H H'->H' d=some (.dT (lL ts))->Q (.ref d) H'
theorem jiq.tups{H H':Hp}{v:V}{p:List iJ×V}(h:jiq H v p)(s:lq H H'):jiq H' v p:=let⟨t,b,e,q,r⟩:=h;⟨t,b,e,s _ _ rfl q,s _ _ rfl r⟩
theorem vN{H H':Hp}(s:lq H H'):∀{xs:List V} {ps:List (List iJ×V)},Paired (jiq H) xs ps->Paired (jiq H') xs ps
 |_,_,.nil=>.nil
 |_,_,.cons r t=>.cons (jiq.tups r s) (vN s t)
theorem GD{ds:List (Int×Int×Int)}{i:Nat}{d:Int×Int×Int}(h:ds[i]? =some d)(n:Int):kB (ds.take (i+1)) n=kB (ds.take i) n+((if d.1=n then d.2.2 else 0)+(if d.2.1=n then d.2.2 else 0)):=by
 unfold kB
 rw[jv h,aq,cR]
 simp
theorem jlg.put{kvs:List (iJ×V)}{f:Int->Int}(h:∀n:Int,(i8 kvs (Sum.inl n:iJ)=none/\f n=0)\/i8 kvs (Sum.inl n:iJ)=some (.int (f n)))(m a:Int):∀n:Int,(i8 (jF kvs (Sum.inl m:iJ) (.int (f m+a))) (Sum.inl n:iJ)=none/\f n+(if m=n then a else 0)=0)\/i8 (jF kvs (Sum.inl m:iJ) (.int (f m+a))) (Sum.inl n:iJ)=some (.int (f n+(if m=n then a else 0))):=fun n=>by
 rw[Fs]
 by_cases c:m=n
 ·subst c
  rw[aA rfl,aA rfl]
  exact .inr rfl
 ·rw[ay (fun z=>c (cw z).symm),ay c,fU]
  exact h n
theorem FY(B:Blt mg)(D:DefAt K mg "due_at" (iM 28) ["dues"] f fd):FnOk P w K mg base iR 1 f fd ["dues"] yS:=by
 have sc:FnScope ["dues","paid","one","other","amount"] ["dues"] (je (iM 28)):=by walk_at "SC"
 refine D.F.ok sc (fun vs H Q E h=>?_) (fun cdv A outer s H vs Q E hr h=>?_)
 ·obtain⟨l,zs,ds,rfl,_⟩:=h
  rfl
 obtain⟨l,zs,ds,rfl,el,pz,h200,h⟩:=h
 have hlz:zs.length=ds.length:=aD pz
 have hu:=jn hr
 have hu0:_<PySem.cLine:=aF hu
 refine⟨_,(iN (jb (i:=1) sc.nd rfl (Or.inl rfl) vg) (iN (kh bf rfl (jO (qv 0)) (ki (n:=3) rfl (ji (iY (i:=2) sc.nd rfl (Or.inl rfl)) (ji (iY (i:=3) sc.nd rfl (Or.inl rfl)) (ji (iY (i:=4) sc.nd rfl (Or.inl rfl)) kj)))) (iN (nA hu (qv 1) (qv 2) (i9 jM (rO hu (qv 1) (qv 2) iL) (qv 4))) (iS (nA hu (qv 1) (qv 3) (i9 jM (rO hu (qv 1) (qv 3) iL) (qv 4)))))) (iS (jh (qv 1))))),?_⟩
 refine i7 fun R hR=>?_
 walk_at "D"
 intro d hd
 have s1:=iO hd (.dK [])
 have ed:upd H d (.dK []) d=some (.dK []):=iK
 generalize upd H d (.dK [])=H1 at s1 ed
 walk_at "D"
 subst hR
 refine i7 fun R hR=>?_
 refine kU (jD K l) H1 (fun R' hR'=>?_) (l8 (K:=K) (a:=l) (xs:=zs) (fun i σ H2=>∃v1 v2 v3 kvs,σ=[some (.ref l),some (.ref d),v1,v2,v3]/\Same H H2/\H2 d=some (.dK kvs)/\jlg kvs (ds.take i)/\kvs.length<=2*i) ⟨none,none,none,[],rfl,s1,ed,fun n=>.inl ⟨rfl,rfl⟩,bp _⟩ (fun i σ H2 _ ⟨_,_,_,_,_,s2,_⟩=>SqL.of (s2 _ _ el)) ?_ ?_)
 ·unfold jL
  walk_at "D"
  exact⟨l,rfl,⟨_,SqL.of (s1 _ _ el)⟩,hR'⟩
 ·rintro i x σ H2 hx ⟨v1,v2,v3,kvs,rfl,s2,ed2,pd,hkl⟩
  obtain⟨p,hp,px⟩:=kH pz hx
  obtain⟨t,rfl,ht⟩:=Tp.tups px s2.tups
  have hil:=(ak.mp hp).1
  simp_arith[ht,ed2,pd.get]
  have q1:=jlg.put (f:=kB (ds.take i)) pd p.1 p.2.2
  have kl1:=zK kvs (Sum.inl p.1:iJ) (.int (kB (ds.take i) p.1+p.2.2))
  refine⟨⟨_,rfl⟩,jt (by lia),⟨_,iK⟩,?_⟩
  generalize jF kvs (Sum.inl p.1:iJ) (.int (kB (ds.take i) p.1+p.2.2))=k1 at q1 kl1 ⊢
  have g2:(i8 k1 (Sum.inl p.2.1:iJ)).getD (.int 0)= .int (kB (ds.take i) p.2.1+(if p.1=p.2.1 then p.2.2 else 0)):=by
   rcases q1 p.2.1 with⟨e,z⟩|e
   ·rw[e,z];rfl
   ·rw[e];rfl
  have q2:=jlg.put (f:=fun n=>kB (ds.take i) n+(if p.1=n then p.2.2 else 0)) q1 p.2.1 p.2.2
  have kl2:=zK k1 (Sum.inl p.2.1:iJ) (.int (kB (ds.take i) p.2.1+(if p.1=p.2.1 then p.2.2 else 0)+p.2.2))
  rw[iK]
  dsimp only
  rw[g2]
  dsimp only
  refine⟨jt (by lia),_,_,_,_,rfl,?_,iK,?_,by lia⟩
  ·exact jJ (jJ s2 hd) hd
  ·intro n
   rw [GD hp n,<- Int.add_assoc]
   exact q2 n
 ·rintro σ H2 ⟨v1,v2,v3,kvs,rfl,s2,ed2,pd,hkl⟩
  rw[hlz,aV]at pd
  subst hR
  walk_at "D"
  exact h d kvs H2 s2 ed2 pd
theorem F0(B:Blt mg)(D:DefAt K mg "marked" (iM 11) ["places"] f fd):FnOk P w K mg base iR 1 f fd ["places"] yX:=by
 have sc:FnScope ["places"] ["places"] (je (iM 11)):=by walk_at "SC"
 refine D.F.ok sc (fun vs H Q E h=>?_) (fun cdv A outer s H vs Q E hr h=>?_)
 ·obtain⟨u,zs,ts,rfl,_⟩:=h
  rfl
 obtain⟨u,zs,ts,rfl,eu,pz,nd,h120,h⟩:=h
 have hlz:zs.length=ts.length:=aD pz
 have hu:=jn hr
 have hu0:_<PySem.cLine:=aF hu
 refine⟨_,(iS (jh (mr (Gk rfl hr.units) rfl B.dict cT (iH (kN (CpScope.of (N:=["place"]) (src:=[none]) (by rfl)) rfl (jO (qv 0)) (fun _ _ _ _=>(iY (i:=0) (jy (l:=["place"]) (by rfl)) rfl (Or.inl rfl))) (fun _ _ _ _=>kS) (fun _ _ _ _=>(kg (iH (qv 0) (iH lN iI))))) iI)))),?_⟩
 walk_at "D"
 refine kO (jD K u) H (fun R hR=>?_) (fun l hl0=>km ts.length (fun i σ' Hc=>∃w1 vs,σ'=[w1]/\Same H Hc/\Hc l=some (.lst vs)/\Paired (jiq Hc) vs (lL (ts.take i))) ⟨none,[],rfl,iO hl0 _,iK,.nil⟩ ?_ ?_)
 ·unfold jL
  walk_at "D"
  exact⟨u,rfl,⟨_,SqL.of eu⟩,hR⟩
 ·rintro i σ' Hc hi ⟨w1,vs,rfl,s2,ev,pv⟩
  have z1:SqL K Hc u zs:=SqL.of (s2 _ _ eu)
  have x1:zs[i]? =some (zs[i]'(by lia)):=gE _
  refine⟨⟨_,_,z1,x1⟩,?_⟩
  rintro y H' ⟨rfl,hy⟩
  obtain⟨q,hq,pq⟩:=kH pz (hy _ z1)
  obtain⟨b,rfl,hb⟩:=pq.same s2
  have hvl:vs.length<=120:=by
   have:=aD pv
   unfold lL at this
   rw[ae,aS]at this
   lia
  walk_at "D"
  intro t ht
  have q3:=iO ht (.tup [.ref b,.bl true])
  have ett:upd H' t (.tup [.ref b,.bl true]) t=some (.tup [.ref b,.bl true]):=iK
  have ev2:=q3 _ _ ev
  have hb2:=q3 _ _ hb
  generalize upd H' t (.tup [.ref b,.bl true])=H3 at q3 ett ev2 hb2
  have t6:=k6 (ys:=vs++[.ref t]) ev2
  refine⟨vs,ev2,jt (by lia),_,vs++[.ref t],rfl,jJ (s2.trans q3) hl0,(by first|rfl|exact iK),?_⟩
  have em:lL (ts.take (i+1))=lL (ts.take i)++[([Sum.inl q.1,Sum.inl q.2],V.bl true)]:=by
   unfold lL
   rw[jv hq,aq]
   rfl
  rw[em]
  exact k7 (vN t6 (vN q3.tups pv)) ⟨t,b,rfl,t6 _ _ rfl ett,t6 _ _ rfl hb2⟩
 ·rintro σ' Hc ⟨w1,vs,rfl,s2,ev,pv⟩
  refine⟨⟨_,SqL.of (s2 _ _ eu),by lia⟩,?_⟩
  rw[aV]at pv
  have hvl:vs.length<=120:=by
   have:=aD pv
   unfold lL at this
   rw[ae]at this
   lia
  refine⟨l,vs,lL ts,rfl,ev,pv,by lia,?_,fun d hd=>h d _ (s2.free hd) (s2.trans (iO hd _)) iK⟩
  unfold lL
  rw[bt]
  unfold List.Nodup at nd ⊢
  rw[bB]
  refine nd.imp fun{x y} hne e=>hne ?_
  have e:([Sum.inl x.1,Sum.inl x.2]:List iJ)=[Sum.inl y.1,Sum.inl y.2]:=e
  injection e with e1 e2
  injection e2 with e2 _
  exact Prod.ext (cw e1) (cw e2)
noncomputable def j4(ts:List (Int×Int)):Int×Int->List Dt->Option (List (Int×Int×Int))
 |_,[]=>some []
 |q,d::r=>match md d with
  |some p=>if(p.1,p.2.1)∈ts/\mi [p.1,p.2.1] [q.1,q.2]=false then(j4 ts (p.1,p.2.1) r).map (p::·)else none
  |none=>none
noncomputable def mH(ps:List (Int×Int))(qs:List (Int×Int×Int)):Bool:=ps.all fun p=>decide (kB qs p.1<=2*p.2)
noncomputable def oI(ps ts:List (Int×Int)):Dt->Bool
 | .lst ds=>match j4 ts (-1,-1) ds with
  |some qs=>mH ps qs
  |none=>false
 |_=>false
def xZ(d:Dt):Prop:=∀ds,d= .lst ds->ds.length<=200
def x9:Sp:=fun vs H Q _=>∃v ps ts y d,vs=[v,y]/\jdo H v ps ts/\WebOk ps ts/\Rep H d y/\xZ d/\∀H',Same H H'->Q (.bl (oI ps ts d)) H'
theorem vd{a b c d:Int}(h:HT.lexLt [a,b] [c,d]=true):a<c\/(a=c/\b<d):=by
 rw[HT.oG]at h
 by_cases e:a=c
 ·rw[aA e,HT.oG]at h
  by_cases e2:b=d
  ·rw[aA e2]at h
   cases h
  ·rw[ay e2]at h
   exact .inr ⟨e,cG h⟩
 ·rw[ay e]at h
  exact .inl (cG h)
theorem uw{a b c d:Int}(h:a<c):HT.lexLt [a,b] [c,d]=true:=by
 rw[HT.oG,ay (by lia)]
 exact aK h
theorem xJ{a b d:Int}(h:b<d):HT.lexLt [a,b] [a,d]=true:=by
 rw[HT.oG,aA rfl,HT.oG,ay (by lia)]
 exact aK h
theorem sF{ps ts:List (Int×Int)}{ds:List Dt}(h:j4 ts (-1,-1) ds=none):oI ps ts (.lst ds)=false:=by
 show(match j4 ts (-1,-1) ds with |some qs=>mH ps qs|none=>false)=false
 rw[h]
theorem vJ{ps ts:List (Int×Int)}{ds:List Dt}{qs:List (Int×Int×Int)}(h:j4 ts (-1,-1) ds=some qs):oI ps ts (.lst ds)=mH ps qs:=by
 show(match j4 ts (-1,-1) ds with |some qs=>mH ps qs|none=>false)=_
 rw[h]
theorem wu(a b c:V):mB [a,b,c] none (some 2)=[a,b]:=rfl
theorem tL(a b c:V):¬(HT.jc [a,b,c].length 0 none=0/\HT.jc [a,b,c].length [a,b,c].length (some 2)=[a,b,c].length):=fun h=>by cases h.2
theorem FS{a b c d e f:Int}(h:HT.lexLt [a,b] [c,d]=true)(g:HT.lexLt [c,d] [e,f]=true):HT.lexLt [a,b] [e,f]=true:=by
 have h:=vd h
 have g:=vd g
 by_cases c:a<e
 ·exact uw c
 ·have:a=e:=by lia
  subst this
  exact xJ (by lia)
theorem TiOk.lt{kvs:List (iJ×V)}:∀{ts:List (Int×Int)} {q:Int×Int},TiOk kvs q ts->∀p∈ts,HT.lexLt [q.1,q.2] [p.1,p.2]=true
 |[],_,_,_,h=>by cases h
 |u::r,q,h,p,hp=>by
  rcases aM.mp hp with e|hp
  ·rw[e];exact h.1.1
  ·exact FS h.1.1 (TiOk.lt h.2 p hp)
theorem TiOk.nodup{kvs:List (iJ×V)}:∀{ts:List (Int×Int)} {q:Int×Int},TiOk kvs q ts->ts.Nodup
 |[],_,_=>eM
 |u::r,q,h=>by
  refine br.mpr ⟨fun hm=>?_,TiOk.nodup h.2⟩
  have:=TiOk.lt h.2 u hm
  simp[HT.lexLt]at this
theorem Hr(B:Blt mg)(D:DefAt K mg "dues_stand" (iM 29) ["web","thing"] f fd)(Dqv:DefAt K mg "is_due" (iM 27) ["thing"] fqv dqv)(Gqv:FnOk P w K mg base iR 2 fqv dqv ["thing"] yV)(Dqg:DefAt K mg "marked" (iM 11) ["places"] fqg dqg)(Gqg:FnOk P w K mg base iR 1 fqg dqg ["places"] yX)(Dqp:DefAt K mg "due_at" (iM 28) ["dues"] fqp dqp)(Gqp:FnOk P w K mg base iR 1 fqp dqp ["dues"] yS):FnOk P w K mg base iR 4 f fd ["web","thing"] x9:=by
 have sc:FnScope ["web","thing","ties","last","due","paid"] ["web","thing"] (je (iM 29)):=by walk_at "SC"
 refine D.F.ok sc (fun vs H Q E h=>?_) (fun cdv A outer s H vs Q E hr h=>?_)
 ·obtain⟨v,ps,ts,y,d,rfl,_⟩:=h
  rfl
 obtain⟨v,ps,ts,y,d,rfl,hw,wk,hd,hs,h⟩:=h
 obtain⟨u,pa,ta,xs,ys,rfl,hu1,hpa,hta,hxs,hys⟩:=hw
 have hu:=jn hr
 have hu0:_<PySem.cLine:=aF hu
 refine⟨_,(iN (kr (lj (ll (jq (nY .lst) rfl B.isinstance bR (iH (qv 1) (iH (oh (v:=.ty "list") rfl B.list cS rfl) iI))))) (iS (jh lN)) ky) (iN (jb (i:=2) sc.nd rfl (Or.inl rfl) (jd Gqg (hr.mono (by decide)) rfl Dqg.m Dqg.F.kp Dqg.b .nil iZ (iH (iT iU (qv 0) iL (fun _ _=>rfl)) iI))) (iN (jb (i:=3) sc.nd rfl (Or.inl rfl) (kg (iH (oM oN iL) (iH (oM oN iL) iI)))) (iN (kh bf rfl (jO (qv 1)) (iY (i:=4) sc.nd rfl (Or.inl rfl)) (iN (kr (PW.pt (nX (lj (ll (jd Gqv (hr.mono (by decide)) rfl Dqv.m Dqv.F.kp Dqv.b .nil iZ (iH (qv 4) iI)))) (nX (CY (F3 hu (sd ud (qv 4) rM (rP iL)) (qv 2))) (rl (kR (CU hu0) (sd ud (qv 4) rM (rP iL)) (qv 3) (jI _)))))) (iS (jh lN)) ky) (iS (jb (i:=3) sc.nd rfl (Or.inl rfl) (sd ud (qv 4) rM (rP iL)))))) (iN (jb (i:=5) sc.nd rfl (Or.inr rfl) (jd Gqp (hr.mono (by decide)) rfl Dqp.m Dqp.F.kp Dqp.b .nil iZ (iH (qv 1) iI))) (iS (jh (jq (tZ rfl) rfl B.all gm (iH (kN (CpScope.of (N:=["place","price","paid"]) (src:=[none,none,some 5]) (by rfl)) rfl (jO (iT iU (qv 0) iL (fun _ _=>rfl))) (fun _ _ _ _=>(ki (n:=2) rfl (ji (iY (i:=0) (jy (l:=["place","price","paid"]) (by rfl)) rfl (Or.inl rfl)) (ji (iY (i:=1) (jy (l:=["place","price","paid"]) (by rfl)) rfl (Or.inl rfl)) kj)))) (fun _ _ _ _=>kS) (fun _ _ _ _=>(lS nR (rO hu (qv 2) (qv 0) iL) (i9 l5 iL (qv 1)) (jI _)))) iI))))))))),?_⟩
 have hkd:=oU hd
 simp_arith[hkd]
 cases d with
 | lst ds=>
  rw[Rep]at hd
  obtain⟨l,zs,rfl,el,r⟩:=hd
  have hlv:=r.len
  simp_arith[kL,lp,iX,hu1,jQ]
  refine⟨ta,ys,ts,rfl,hta,hys,wk.t.nodup,wk.tl,fun m H1 hm0 s1 em p hp=>?_⟩
  have s2:=s1.trans (iO hp (.tup [.int (-1),.int (-1)]))
  have em2:=iO hp (.tup [.int (-1),.int (-1)]) _ _ em
  have ep:upd H1 p (.tup [.int (-1),.int (-1)]) p=some (.tup [.int (-1),.int (-1)]):=iK
  generalize upd H1 p (.tup [.int (-1),.int (-1)])=H2 at s2 em2 ep
  refine kU (jD K l) H2 (fun R' hR'=>?_) (l8 (K:=K) (a:=l) (xs:=zs) (fun i σ Hc=>∃v4 pl q qs,σ=[some (.ref u),some (.ref l),some (.ref m),some (.ref pl),v4,none]/\Same H Hc/\Hc m=some (.dT (lL ts))/\Hc pl=some (.tup [.int q.1,.int q.2])/\j4 ts (-1,-1) ds=(j4 ts q (ds.drop i)).map (qs++·)/\lg H (zs.take i) qs) ⟨none,p,(-1,-1),[],rfl,s2,em2,ep,by simp,.nil⟩ (fun i σ Hc _ ⟨_,_,_,_,_,s3,_⟩=>SqL.of (s3 _ _ el)) ?_ ?_)
  ·unfold jL
   walk_at "D"
   exact⟨l,rfl,⟨_,SqL.of (s2 _ _ el)⟩,hR'⟩
  ·rintro i x σ Hc hx ⟨v4,pl,q,qs,rfl,s3,em3,epl,hdo,hq⟩
   obtain⟨dt,hdt,rdt⟩:=r.at hx
   have hdr:ds.drop i=dt::ds.drop (i+1):=p9 hdt
   walk_at "D"
   refine⟨_,dt,rfl,Rep.same s3 _ rdt,fun H4 s4=>?_⟩
   have s5:=s3.trans s4
   have em4:=s4 _ _ em3
   have ep4:=s4 _ _ epl
   cases hdu:md dt with
   |none=>
    simp_arith[Option.isSome]
    have hb:=h H4 s5
    rw[sF (by rw[hdo,hdr,j4,hdu];rfl)]at hb
    exact hb
   | some p=>
    simp_arith[Option.isSome]
    have htd:dt=ku p:=by
     unfold md at hdu
     split at hdu
     ·rename_i p' e
      split at hdu
      ·cases hdu;exact Aa e
      ·cases hdu
     ·cases hdu
    subst htd
    obtain⟨t,rfl,ht⟩:=vq rdt
    have ht4:=s5 _ _ ht
    simp_arith[ht4,tB,y8]
    refine⟨tL (.int p.1) (.int p.2.1) (.int p.2.2),fun k1 hk1=>?_⟩
    rw[wu]
    have s6:=iO hk1 (.tup [.int p.1,.int p.2.1])
    have e6:upd H4 k1 (.tup [.int p.1,.int p.2.1]) k1=some (.tup [.int p.1,.int p.2.1]):=iK
    generalize upd H4 k1 (.tup [.int p.1,.int p.2.1])=H6 at s6 e6
    refine⟨m,_,rfl,DGet.t (k:=[Sum.inl p.1,Sum.inl p.2.1]) (s6 _ _ em4) e6,?_⟩
    have hmk:=yF ts (p.1,p.2.1)
    dsimp only at hmk
    refine⟨_,rfl,?_⟩
    rw[hmk]
    by_cases cm:(p.1,p.2.1)∈ts
    ·rw[aK cm,ay (by decide),s6 _ _ ht4]
     refine⟨tL (.int p.1) (.int p.2.1) (.int p.2.2),fun k2 hk2=>?_⟩
     rw[wu]
     have s7:=iO hk2 (.tup [.int p.1,.int p.2.1])
     have e7:upd H6 k2 (.tup [.int p.1,.int p.2.1]) k2=some (.tup [.int p.1,.int p.2.1]):=iK
     generalize upd H6 k2 (.tup [.int p.1,.int p.2.1])=H7 at s7 e7
     have s8:=s6.trans s7
     simp_arith[we,e7,s8 _ _ ep4]
     by_cases cl:mi [p.1,p.2.1] [q.1,q.2]=true
     ·rw[aA cl]
      have hb:=h H7 (s5.trans s8)
      rw[sF (by rw[hdo,hdr,j4,hdu];dsimp only;rw[if_neg (fun z=>by rw[z.2]at cl;cases cl)];rfl)]at hb
      exact hb
     ·rw[ay cl,s8 _ _ ht4]
      refine⟨tL (.int p.1) (.int p.2.1) (.int p.2.2),fun k3 hk3=>?_⟩
      rw[wu]
      have s9:=s8.trans (iO hk3 (.tup [.int p.1,.int p.2.1]))
      refine⟨_,k3,(p.1,p.2.1),qs++[p],rfl,s5.trans s9,s9 _ _ em4,iK,?_,?_⟩
      ·rw[hdo,hdr,j4,hdu]
       dsimp only
       rw[aA ⟨cm,gY.mpr cl⟩,Option.map_map]
       congr 1
       funext w
       show qs++p::w=(qs++[p])++w
       rw[aQ]
       rfl
      ·rw[jv hx]
       exact k7 hq ⟨t,rfl,ht⟩
    ·rw[aP cm,aA (by decide)]
     have hb:=h H6 (s5.trans s6)
     rw[sF (by rw[hdo,hdr,j4,hdu];dsimp only;rw[if_neg (fun z=>cm z.1)];rfl)]at hb
     exact hb
  ·rintro σ Hc ⟨v4,pl,q,qs,rfl,s3,em3,epl,hdo,hq⟩
   rw[dH (by lia),j4,Option.map_some,aY]at hdo
   rw[aV]at hq
   walk_at "D"
   refine⟨l,zs,qs,rfl,s3 _ _ el,kG s3.tups hq,?_,fun d kvs H5 s5 ed5 pd=>?_⟩
   ·rw [<- aD hq,hlv]; exact hs _ rfl
   have s6:=s3.trans s5
   refine kO (jD K pa) H5 (fun R hR=>?_) (fun z hz0=>km ps.length (fun i σ' Hc=>∃w1 w2,σ'=[w1,w2,some (.ref d)]/\Same H5 Hc/\Hc z=some (.lst (((ps.take i).map fun p=>decide (kB qs p.1<=2*p.2)).map V.bl))) ⟨none,none,rfl,iO hz0 _,iK⟩ ?_ ?_)
   ·unfold jL
    simp_arith[iX,s6 _ _ hu1,jw]
    exact⟨pa,rfl,⟨_,SqL.of (s6 _ _ hpa)⟩,hR⟩
   ·rintro i σ' Hc hi ⟨w1,w2,rfl,s7,ez⟩
    have hxl:=aD hxs
    have x1:xs[i]? =some (xs[i]'(by lia)):=gE _
    have s8:=s6.trans s7
    refine⟨⟨_,_,SqL.of (s8 _ _ hpa),x1⟩,?_⟩
    rintro y H' ⟨rfl,hy⟩
    have E1:=aI (x1.symm.trans (hy _ (SqL.of (s8 _ _ hpa))))
    obtain⟨pr,hpr,px⟩:=kH hxs x1
    rw[E1]at px
    obtain⟨b,rfl,hb⟩:=px.same s8
    simp_arith[hb,s7 _ _ ed5,pd.get]
    refine⟨⟨_,rfl⟩,mN (by decide) (by decide),_,ez,?_,_,_,rfl,jJ s7 hz0,?_⟩
    ·rw[ae,ae,aS]
     have:=wk.pl
     exact jt (by lia)
    ·rw[iK,jv hpr,aq,aq]
     rfl
   ·rintro σ' Hc ⟨w1,w2,rfl,s7,ez⟩
    have s8:=s6.trans s7
    refine⟨⟨_,SqL.of (s8 _ _ hpa),by have:=aD hxs;lia⟩,?_⟩
    rw[aV]at ez
    simp_arith[ez]
    refine⟨_,rfl,?_⟩
    have hb:=h Hc s8
    rw[vJ hdo]at hb
    have ew:(ps.map fun p=>decide (kB qs p.1<=2*p.2)).all id=mH ps qs:=by rw[gT];rfl
    rw[ew]
    exact hb
 |_=>simp_arith[kL,lp];exact h H (Same.refl _)
noncomputable def jX:List (Int×Int)->List Dt->Option (List (Int×Int))
 |[],[]=>some []
 |p::ps,d::ds=>match mD d with
  |some h=>if h.1=p.1/\0<=h.2/\h.2<=2 then(jX ps ds).map (h::·)else none
  |none=>none
 |_,_=>none
noncomputable def kJ(hs:List (Int×Int))(n:Int):Int:=match i8 (jx hs) (Sum.inl n:iJ)with
 |some (.int i)=>i
 |_=>0
noncomputable def mJ(ts hs:List (Int×Int)):Bool:=ts.all fun t=>decide (kJ hs t.1+kJ hs t.2 ≥ 2)
noncomputable def pA(ps ts:List (Int×Int)):Dt->Bool
 | .lst ds=>match jX ps ds with
  |some hs=>mJ ts hs
  |none=>false
 |_=>false
theorem ph{ps ts:List (Int×Int)}{ds:List Dt}(h:jX ps ds=none):pA ps ts (.lst ds)=false:=by
 show(match jX ps ds with |some hs=>mJ ts hs|none=>false)=false
 rw[h]
theorem vy{ps ts:List (Int×Int)}{ds:List Dt}{hs:List (Int×Int)}(h:jX ps ds=some hs):pA ps ts (.lst ds)=mJ ts hs:=by
 show(match jX ps ds with |some hs=>mJ ts hs|none=>false)=_
 rw[h]
theorem zu:∀{ps:List (Int×Int)} {ds:List Dt},¬ds.length=ps.length->jX ps ds=none
 |[],[],h=>absurd rfl h
 |[],_::_,_=>rfl
 |_::_,[],_=>rfl
 |p::ps,d::ds,h=>by
  rw[jX,zu (ps:=ps) (ds:=ds) (fun z=>h (by rw[List.length_cons,List.length_cons,z]))]
  split
  ·split<;>rfl
  ·rfl
theorem oW{hs:List (Int×Int)}{n:Int}(hn:(hs.map (·.1)).Nodup)(h:n∈hs.map (·.1)):i8 (jx hs) (Sum.inl n:iJ)=some (.int (kJ hs n)):=by
 obtain⟨p,hp,rfl⟩:=aw.mp h
 have e:=oY hn hp
 unfold kJ
 rw[e]
theorem TiOk.in{kvs:List (iJ×V)}:∀{ts:List (Int×Int)} {q:Int×Int},TiOk kvs q ts->∀p∈ts,p.1<p.2/\jH kvs p.1=true/\jH kvs p.2=true
 |[],_,_,_,h=>by cases h
 |u::r,q,h,p,hp=>by
  rcases aM.mp hp with e|hp
  ·rw[e];exact h.1.2
  ·exact TiOk.in h.2 p hp
theorem pZ:∀{ps:List (Int×Int)} {n:Int},jH (jx ps) n=true->n∈ps.map (·.1)
 |[],_,h=>by cases h
 | p::r,n,h=>by
  by_cases c:p.1=n
  ·rw [<- c]; exact aH
  ·refine az _ (pZ ?_)
   unfold jH jx i8 at h
   rw[ah,List.find?_cons]at h
   dsimp only at h
   rw[aP (fun z=>c (cw z))]at h
   exact h
def zU:Sp:=fun vs H Q _=>∃v ps ts y d,vs=[v,y]/\jdo H v ps ts/\WebOk ps ts/\Rep H d y/\∀H',Same H H'->Q (.bl (pA ps ts d)) H'
noncomputable def oH(ps hs:List (Int×Int)):Int:=(hs.map fun h=>kJ ps h.1*h.2).sum
def yQ:Sp:=fun vs H Q _=>∃v ps ts l zs hs,vs=[v,.ref l]/\jdo H v ps ts/\WebOk ps ts/\H l=some (.lst zs)/\Prs H zs hs/\hs.length<=200/\(∀h∈hs,h.1∈ps.map (·.1)/\0<=h.2/\h.2<=2)/\∀H',Same H H'->Q (.int (oH ps hs)) H'
theorem HK(B:Blt mg)(D:DefAt K mg "halves_stand" (iM 26) ["web","thing"] f fd)(Dqd:DefAt K mg "is_pair_of_wholes" (iM 9) ["thing"] fqd dqd)(Gqd:FnOk P w K mg base iR 2 fqd dqd ["thing"] yY):FnOk P w K mg base iR 3 f fd ["web","thing"] zU:=by
 have sc:FnScope ["web","thing","pair","known","halves"] ["web","thing"] (je (iM 26)):=by walk_at "SC"
 refine D.F.ok sc (fun vs H Q E h=>?_) (fun cdv A outer s H vs Q E hr h=>?_)
 ·obtain⟨v,ps,ts,y,d,rfl,_⟩:=h
  rfl
 obtain⟨v,ps,ts,y,d,rfl,hw,wk,hd,h⟩:=h
 obtain⟨u,pa,ta,xs,ys,rfl,hu1,hpa,hta,hxs,hys⟩:=hw
 have hxl:=aD hxs
 have hu:=jn hr
 have hu0:_<PySem.cLine:=aF hu
 refine⟨_,(iN (kr (PW.pt (nX (lj (ll (jq (nY .lst) rfl B.isinstance bR (iH (qv 1) (iH (oh (v:=.ty "list") rfl B.list cS rfl) iI))))) (rl (kR qL (jq lO rfl B.len bN (iH (qv 1) iI)) (jq lO rfl B.len bN (iH (iT iU (qv 0) iL (fun _ _=>rfl)) iI)) (jI _))))) (iS (jh lN)) ky) (iN (kh bf rfl (uT rfl B.zip (iH (qv 1) (iH (iT iU (qv 0) iL (fun _ _=>rfl)) iI))) (ki (n:=2) rfl (ji (iY (i:=2) sc.nd rfl (Or.inl rfl)) (ji (iY (i:=3) sc.nd rfl (Or.inl rfl)) kj))) (iS (kr (PW.pt (nX (lj (ll (jd Gqd (hr.mono (by decide)) rfl Dqd.m Dqd.F.kp Dqd.b .nil iZ (iH (qv 2) iI)))) (nX (kR qL (iT iU (qv 2) iL (fun _ _=>rfl)) (iT iU (qv 3) iL (fun _ _=>rfl)) (jI _)) (rl (lj (Fg nR nR iL (iT iU (qv 2) iL (fun _ _=>rfl)) iL)))))) (iS (jh lN)) ky))) (iN (jb (i:=4) sc.nd rfl (Or.inr rfl) (mr (p6 rfl) rfl B.dict cT (iH (qv 1) iI))) (iS (jh (jq (tZ rfl) rfl B.all gm (iH (kN (CpScope.of (N:=["one","other","halves"]) (src:=[none,none,some 4]) (by rfl)) rfl (jO (iT iU (qv 0) iL (fun _ _=>rfl))) (fun _ _ _ _=>(ki (n:=2) rfl (ji (iY (i:=0) (jy (l:=["one","other","halves"]) (by rfl)) rfl (Or.inl rfl)) (ji (iY (i:=1) (jy (l:=["one","other","halves"]) (by rfl)) rfl (Or.inl rfl)) kj)))) (fun _ _ _ _=>kS) (fun _ _ _ _=>(lS tG (i9 jM (k4 hu (qv 2) (qv 0) (fun _ _=>rfl)) (k4 hu (qv 2) (qv 1) (fun _ _=>rfl))) iL (jI _)))) iI))))))),?_⟩
 have hkd:=oU hd
 simp_arith[hkd]
 cases d with
 | lst ds =>
  rw[Rep]at hd
  obtain⟨l,zs,rfl,el,r⟩:=hd
  have hlv:=r.len
  simp_arith[kL,lp,iX,hu1,jw,el,hpa]
  by_cases cl:zs.length=xs.length
  ·rw [aK (show(zs.length:Int)=(xs.length:Int) by lia),ay (by decide)]
   refine kU (ni true K l pa) H (fun R' hR'=>?_) (DN (K:=K) (a:=l) (c:=pa) (xs:=zs) (ys:=xs) (fun i σ H1=>∃w1 w2 hs,σ=[some (.ref u),some (.ref l),w1,w2,none]/\Same H H1/\jX ps ds=(jX (ps.drop i) (ds.drop i)).map (hs++·)/\Prs H (zs.take i) hs/\hs.map (·.1)=(ps.take i).map (·.1)) cl ⟨none,none,[],rfl,Same.refl _,by simp,.nil,rfl⟩ (fun i σ H1 _ ⟨_,_,_,_,s1,_⟩=>⟨SqL.of (s1 _ _ el),SqL.of (s1 _ _ hpa)⟩) ?_ ?_)
   ·unfold qW
    simp_arith[iX,hu1,jw]
    exact⟨true,l,pa,rfl,⟨zs,by unfold jY;rw[aA rfl];exact SqL.of el⟩,⟨xs,by unfold jY;rw[aA rfl];exact SqL.of hpa⟩,hR'⟩
   ·rintro i x y σ H1 t hx hy ⟨w1,w2,hs,rfl,s1,hho,hq,hk⟩ ht
    obtain⟨dt,hdt,rdt⟩:=r.at hx
    obtain⟨p,hp,pq⟩:=kH hxs hy
    rw[p9 hdt,p9 hp,jX]at hho
    have s2:Same H (upd H1 t (.tup [x,y])):=s1.trans (iO ht _)
    have et2:upd H1 t (.tup [x,y]) t=some (.tup [x,y]):=iK
    generalize upd H1 t (.tup [x,y])=H2 at s2 et2
    obtain⟨b2,rfl,eb2⟩:=pq.same s2
    simp_arith[et2]
    refine⟨_,mD dt,rfl,⟨dt,Rep.same s2 _ rdt,rfl⟩,?_⟩
    cases hpd:mD dt with
    |none=>
     simp_arith[Option.isSome]
     have hb:=h H2 s2
     rw[ph (by rw[hho,hpd];rfl)]at hb
     exact hb
    | some k=>
     have hpk:=zI hpd
     rw[hpk]at rdt
     have pk:=zE rdt
     obtain⟨b1,rfl,eb1⟩:=pk.same s2
     rw[hpd]at hho
     dsimp only at hho
     simp_arith[Option.isSome,iX,eb1,eb2,jw,jQ]
     by_cases c1:k.1=p.1
     ·by_cases c2:0<=k.2
      ·by_cases c3:k.2<=2
       ·rw[aA ⟨c1,c2,c3⟩]at hho
        simp only[c1,df,eX,ba,if_false,aK c2,aK c3]
        have hn:∃w1 w2 hs',[some (V.ref u),some (.ref l),some (.ref b1),some (.ref b2),none]=[some (V.ref u),some (.ref l),w1,w2,none]/\Same H H2/\jX ps ds=(jX (ps.drop (i+1)) (ds.drop (i+1))).map (hs'++·)/\Prs H (zs.take (i+1)) hs'/\hs'.map (·.1)=(ps.take (i+1)).map (·.1):=by
         refine⟨_,_,hs++[k],rfl,s2,?_,?_,?_⟩
         ·rw[hho,Option.map_map]
          congr 1
          funext w
          show hs++k::w=(hs++[k])++w
          rw[aQ]
          rfl
         ·rw[jv hx]
          exact k7 hq pk
         ·rw[jv hp,aq,aq,hk,List.map_singleton,List.map_singleton,c1]
        first|exact hn|(walk_at "D";exact hn)
       ·have hb:=h H2 s2
        rw[ph (by rw[hho,ay (fun z=>c3 z.2.2)];rfl)]at hb
        simp only[c1,df,eX,ba,if_false,aK c2,aP c3]
        first|exact hb|(walk_at "D";exact hb)
      ·have hb:=h H2 s2
       rw[ph (by rw[hho,ay (fun z=>c2 z.2.1)];rfl)]at hb
       simp only[c1,df,eX,ba,if_false,aP c2]
       first|exact hb|(walk_at "D";exact hb)
     ·have hb:=h H2 s2
      rw[ph (by rw[hho,ay (fun z=>c1 z.1)];rfl)]at hb
      simp only[aP c1]
      first|exact hb|(walk_at "D";exact hb)
   ·rintro σ H1 ⟨w1,w2,hs,rfl,s1,hho,hq,hk⟩
    rw[dH (show ps.length<=zs.length by lia),dH (show ds.length<=zs.length by lia),jX,Option.map_some,aY]at hho
    rw[aV]at hq
    rw[bQ (by lia)]at hk
    have nd:(hs.map (·.1)).Nodup:=by rw[hk];exact wk.p.nodup
    have hzl:=aD hq
    have hpl:=wk.pl
    simp_arith[s1 _ _ el]
    refine⟨jx hs,qc (Prs.same s1 hq),by lia,sH nd,fun d hd0=>?_⟩
    have s2:Same H (upd H1 d (.dK (jx hs))):=s1.trans (iO hd0 _)
    have ed:upd H1 d (.dK (jx hs)) d=some (.dK (jx hs)):=iK
    generalize upd H1 d (.dK (jx hs))=H2 at s2 ed
    refine kO (jD K ta) H2 (fun R hR=>?_) (fun z hz0=>km ts.length (fun i σ' Hc=>∃w1 w2,σ'=[w1,w2,some (.ref d)]/\Same H2 Hc/\Hc z=some (.lst (((ts.take i).map fun t=>decide (kJ hs t.1+kJ hs t.2 ≥ 2)).map V.bl))) ⟨none,none,rfl,iO hz0 _,iK⟩ ?_ ?_)
    ·unfold jL
     simp_arith[iX,s2 _ _ hu1,jQ]
     exact⟨ta,rfl,⟨_,SqL.of (s2 _ _ hta)⟩,hR⟩
    ·rintro i σ' Hc hi ⟨w1,w2,rfl,s7,ez⟩
     have hyl:=aD hys
     have x1:ys[i]? =some (ys[i]'(by lia)):=gE _
     have s8:=s2.trans s7
     refine⟨⟨_,_,SqL.of (s8 _ _ hta),x1⟩,?_⟩
     rintro y H' ⟨rfl,hy⟩
     have E1:=aI (x1.symm.trans (hy _ (SqL.of (s8 _ _ hta))))
     obtain⟨pr,hpr,px⟩:=kH hys x1
     rw[E1]at px
     obtain⟨b,rfl,hb⟩:=px.same s8
     obtain⟨_,k1,k2⟩:=wk.t.in pr (aE hpr)
     have v1:=oW nd (by rw[hk];exact pZ k1)
     have v2:=oW nd (by rw[hk];exact pZ k2)
     simp_arith[hb,s7 _ _ ed,v1,v2]
     refine⟨_,ez,?_,_,_,rfl,jJ s7 hz0,?_⟩
     ·rw[ae,ae,aS]
      have:=wk.tl
      exact jt (by lia)
     ·rw[iK,jv hpr,aq,aq]
      rfl
    ·rintro σ' Hc ⟨w1,w2,rfl,s7,ez⟩
     have s8:=s2.trans s7
     refine⟨⟨_,SqL.of (s8 _ _ hta),by have:=aD hys;lia⟩,?_⟩
     rw[aV]at ez
     simp_arith[ez]
     refine⟨_,rfl,?_⟩
     have hb:=h Hc s8
     rw[vy hho]at hb
     have ew:(ts.map fun t=>decide (kJ hs t.1+kJ hs t.2 ≥ 2)).all id=mJ ts hs:=by rw[gT];rfl
     rw[ew]
     exact hb
  ·have hb:=h H (Same.refl _)
   rw[ph (zu (by lia))]at hb
   rw[aP (show ¬(zs.length:Int)=(xs.length:Int) by lia),aA (by decide)]
   exact hb
 |_=>simp_arith[kL,lp];exact h H (Same.refl _)
theorem HS(B:Blt mg)(D:DefAt K mg "cost_in_halves" (iM 30) ["web","halves"] f fd):FnOk P w K mg base iR 1 f fd ["web","halves"] yQ:=by
 have sc:FnScope ["web","halves","prices"] ["web","halves"] (je (iM 30)):=by walk_at "SC"
 refine D.F.ok sc (fun vs H Q E h=>?_) (fun cdv A outer s H vs Q E hr h=>?_)
 ·obtain⟨v,ps,ts,l,zs,hs,rfl,_⟩:=h
  rfl
 obtain⟨v,ps,ts,l,zs,hs,rfl,hw,wk,el,hz,hl,hh,h⟩:=h
 obtain⟨u,pa,ta,xs,ys,rfl,hu1,hpa,hta,hxs,hys⟩:=hw
 have hxl:=aD hxs
 have hu:=jn hr
 have hu0:_<PySem.cLine:=aF hu
 refine⟨_,(iN (jb (i:=2) sc.nd rfl (Or.inr rfl) (mr (p6 rfl) rfl B.dict cT (iH (iT iU (qv 0) iL (fun _ _=>rfl)) iI))) (iS (jh (jq (pQ rfl) rfl B.sum dR (iH (kN (CpScope.of (N:=["place","h","prices"]) (src:=[none,none,some 2]) (by rfl)) rfl (jO (qv 1)) (fun _ _ _ _=>(ki (n:=2) rfl (ji (iY (i:=0) (jy (l:=["place","h","prices"]) (by rfl)) rfl (Or.inl rfl)) (ji (iY (i:=1) (jy (l:=["place","h","prices"]) (by rfl)) rfl (Or.inl rfl)) kj)))) (fun _ _ _ _=>kS) (fun _ _ _ _=>(i9 l5 (k4 hu (qv 2) (qv 0) (fun _ _=>rfl)) (qv 1)))) iI))))),?_⟩
 simp_arith[iX,hu1,jw,hpa]
 have hpl:=wk.pl
 refine⟨jx ps,qc hxs,by lia,sH wk.p.nodup,fun d hd0=>?_⟩
 have s2:Same H (upd H d (.dK (jx ps))):=iO hd0 _
 have ed:upd H d (.dK (jx ps)) d=some (.dK (jx ps)):=iK
 generalize upd H d (.dK (jx ps))=H2 at s2 ed
 have hzl:=aD hz
 refine kO (jD K l) H2 (fun R hR=>?_) (fun z hz0=>km hs.length (fun i σ' Hc=>∃w1 w2,σ'=[w1,w2,some (.ref d)]/\Same H2 Hc/\Hc z=some (.lst (((hs.take i).map fun h=>kJ ps h.1*h.2).map V.int))) ⟨none,none,rfl,iO hz0 _,iK⟩ ?_ ?_)
 ·unfold jL
  walk_at "D"
  exact⟨l,rfl,⟨_,SqL.of (s2 _ _ el)⟩,hR⟩
 ·rintro i σ' Hc hi ⟨w1,w2,rfl,s7,ez⟩
  have x1:zs[i]? =some (zs[i]'(by lia)):=gE _
  have s8:=s2.trans s7
  refine⟨⟨_,_,SqL.of (s8 _ _ el),x1⟩,?_⟩
  rintro y H' ⟨rfl,hy⟩
  have E1:=aI (x1.symm.trans (hy _ (SqL.of (s8 _ _ el))))
  obtain⟨pr,hpr,px⟩:=kH hz x1
  rw[E1]at px
  obtain⟨b,rfl,hb⟩:=px.same s8
  obtain⟨k1,k2,k3⟩:=hh pr (aE hpr)
  have v1:=oW wk.p.nodup k1
  simp_arith[hb,s7 _ _ ed,v1]
  refine⟨sU (by lia) (by lia),_,ez,?_,_,_,rfl,jJ s7 hz0,?_⟩
  ·rw[ae,ae,aS]
   exact jt (by lia)
  ·rw[iK,jv hpr,aq,aq]
   rfl
 ·rintro σ' Hc ⟨w1,w2,rfl,s7,ez⟩
  have s8:=s2.trans s7
  refine⟨⟨_,SqL.of (s8 _ _ el),by lia⟩,?_⟩
  rw[aV]at ez
  exact⟨z,_,rfl,ez,h Hc s8⟩
theorem vz:∀{ps:List (Int×Int)} {ds:List Dt} {hs:List (Int×Int)},jX ps ds=some hs->ds=hs.map kq/\hs.map (·.1)=ps.map (·.1)/\∀h∈hs,0<=h.2/\h.2<=2
 |[],[],hs,h=>by cases h;exact⟨rfl,rfl,fun _ z=>by cases z⟩
 |[],_::_,_,h=>by cases h
 |_::_,[],_,h=>by cases h
 | p ::ps,d::ds,hs,h=>by
  rw[jX]at h
  split at h
  ·rename_i k hk
   split at h
   ·rename_i c
    cases e:jX ps ds with
    |none=>rw[e]at h;cases h
    |some r=>
     rw[e]at h
     cases h
     obtain⟨i1,i2,i3⟩:=vz e
     refine ⟨by rw [ah,<- i1,zI hk],by rw [ah,ah,i2,c.1],fun z hz=>?_⟩
     rcases aM.mp hz with e|hz
     ·rw[e];exact c.2
     ·exact i3 z hz
   ·cases h
  ·cases h
theorem Ao{d:Dt}{p:Int×Int×Int}(hdu:md d=some p):d=ku p/\1<=p.2.2:=by
 unfold md at hdu
 split at hdu
 ·rename_i p' e
  split at hdu
  ·rename_i c;cases hdu;exact⟨Aa e,c⟩
  ·cases hdu
 ·cases hdu
theorem AK{ts:List (Int×Int)}:∀{ds:List Dt} {q:Int×Int} {qs:List (Int×Int×Int)},j4 ts q ds=some qs->ds=qs.map ku/\∀d∈qs,(d.1,d.2.1)∈ts/\1<=d.2.2
 |[],_,qs,h=>by cases h;exact⟨rfl,fun _ z=>by cases z⟩
 | d ::ds,q,qs,h=>by
  rw[j4]at h
  split at h
  ·rename_i k hk
   split at h
   ·rename_i c
    cases e:j4 ts (k.1,k.2.1) ds with
    |none=>rw[e]at h;cases h
    |some r=>
     rw[e]at h
     cases h
     obtain⟨i1,i3⟩:=AK e
     refine ⟨by rw [ah,<- i1,(Ao hk).1],fun z hz=>?_⟩
     rcases aM.mp hz with e|hz
     ·rw[e];exact⟨c.1,(Ao hk).2⟩
     ·exact i3 z hz
   ·cases h
  ·cases h
theorem zO{H:Hp}:∀{hs:List (Int×Int)} {zs:List V},Reps H (hs.map kq) zs->Prs H zs hs
 |[],zs,h=>by rw[cL,Reps]at h;subst h;exact .nil
 |k::r,zs,h=>by
  rw[ah,Reps]at h
  obtain⟨v,vs,rfl,h1,h2⟩:=h
  exact .cons (zE h1) (zO h2)
theorem zP{H:Hp}:∀{hs:List (Int×Int×Int)} {zs:List V},Reps H (hs.map ku) zs->lg H zs hs
 |[],zs,h=>by rw[cL,Reps]at h;subst h;exact .nil
 |k::r,zs,h=>by
  rw[ah,Reps]at h
  obtain⟨v,vs,rfl,h1,h2⟩:=h
  exact .cons (vq h1) (zP h2)
noncomputable def mS(ps ts:List (Int×Int))(a b:Dt):Bool:=match a,b with
 | .lst as,.lst bs=>match jX ps as,j4 ts (-1,-1) bs with
  |some hs,some qs=>mJ ts hs&&(mH ps qs&&decide ((qs.map (·.2.2)).sum=oH ps hs))
  |_,_=>false
 |_,_=>false
noncomputable def m8(ps ts:List (Int×Int)):Dt->Bool
 | .tup [a,b]=>mS ps ts a b
 |_=>false
theorem AQ{ps ts:List (Int×Int)}{a b:Dt}:m8 ps ts (.tup [a,b])=mS ps ts a b:=rfl
theorem F2{ps ts:List (Int×Int)}{ds:List Dt}(h:¬ds.length=2):m8 ps ts (.tup ds)=false:=by
 unfold m8
 split
 ·rename_i e;cases e;exact absurd rfl h
 ·rfl
theorem C3{ps ts:List (Int×Int)}{a b:Dt}(h:pA ps ts a=false):mS ps ts a b=false:=by
 unfold mS
 split
 ·rename_i as bs
  split
  ·rename_i hs qs e1 e2
   rw[vy e1]at h
   rw[h];rfl
  ·rfl
 ·rfl
theorem C4{ps ts:List (Int×Int)}{a b:Dt}(h:oI ps ts b=false):mS ps ts a b=false:=by
 unfold mS
 split
 ·rename_i as bs
  split
  ·rename_i hs qs e1 e2
   rw[vJ e2]at h
   rw[h,Bool.false_and,eP]
  ·rfl
 ·rfl
theorem FJ{ps ts:List (Int×Int)}{a:Dt}(h:pA ps ts a=true):∃hs,a= .lst (hs.map kq)/\jX ps (hs.map kq)=some hs/\mJ ts hs=true:=by
 cases a with
 | lst as=>
  cases e:jX ps as with
  |none=>rw[ph e]at h;cases h
  |some hs=>
   rw[vy e]at h
   have:=(vz e).1
   subst this
   exact⟨hs,rfl,e,h⟩
 |_=>cases h
theorem Gq{ps ts:List (Int×Int)}{a:Dt}(h:oI ps ts a=true):∃qs,a= .lst (qs.map ku)/\j4 ts (-1,-1) (qs.map ku)=some qs/\mH ps qs=true:=by
 cases a with
 | lst as=>
  cases e:j4 ts (-1,-1) as with
  |none=>rw[sF e]at h;cases h
  |some hs=>
   rw[vJ e]at h
   have:=(AK e).1
   subst this
   exact⟨hs,rfl,e,h⟩
 |_=>cases h
def x6(d:Dt):Prop:=∀a b,d= .tup [a,b]->xZ b
def rT:Sp:=fun vs H Q _=>∃v ps ts y d,vs=[v,y]/\jdo H v ps ts/\WebOk ps ts/\Rep H d y/\x6 d/\∀H',Same H H'->Q (.bl (m8 ps ts d)) H'
theorem HM(B:Blt mg)(D:DefAt K mg "paper_stands" (iM 31) ["web","thing"] f fd)(Dqb:DefAt K mg "is_tuple_of" (iM 8) ["thing","many"] fqb dqb)(Gqb:FnOk P w K mg base iR 1 fqb dqb ["thing","many"] rB)(Dqu:DefAt K mg "halves_stand" (iM 26) ["web","thing"] fqu dqu)(Gqu:FnOk P w K mg base iR 3 fqu dqu ["web","thing"] zU)(Dqr:DefAt K mg "dues_stand" (iM 29) ["web","thing"] fqr dqr)(Gqr:FnOk P w K mg base iR 4 fqr dqr ["web","thing"] x9)(Dqn:DefAt K mg "cost_in_halves" (iM 30) ["web","halves"] fqn dqn)(Gqn:FnOk P w K mg base iR 1 fqn dqn ["web","halves"] yQ):FnOk P w K mg base iR 5 f fd ["web","thing"] rT:=by
 have sc:FnScope ["web","thing"] ["web","thing"] (je (iM 31)):=by walk_at "SC"
 refine D.F.ok sc (fun vs H Q E h=>?_) (fun cdv A outer s H vs Q E hr h=>?_)
 ·obtain⟨v,ps,ts,y,d,rfl,_⟩:=h
  rfl
 obtain⟨v,ps,ts,y,d,rfl,hw,wk,hd,hs,h⟩:=h
 have hu:=jn hr
 have hu0:_<PySem.cLine:=aF hu
 refine⟨_,(iN (kr (PW.pt (nX (lj (ll (jd Gqb (hr.mono (by decide)) rfl Dqb.m Dqb.F.kp Dqb.b .nil iZ (iH (qv 1) (iH iL iI))))) (nX (lj (ll (jd Gqu (hr.mono (by decide)) rfl Dqu.m Dqu.F.kp Dqu.b .nil iZ (iH (qv 0) (iH (iT iU (qv 1) iL (fun _ _=>rfl)) iI))))) (rl (lj (ll (jd Gqr (hr.mono (by decide)) rfl Dqr.m Dqr.F.kp Dqr.b .nil iZ (iH (qv 0) (iH (iT iU (qv 1) iL (fun _ _=>rfl)) iI))))))))) (iS (jh lN)) ky) (iS (jh (lS pJ (jq (pQ rfl) rfl B.sum dR (iH (kN (CpScope.of (N:=["one","other","amount"]) (src:=[none,none,none]) (by rfl)) rfl (jO (iT iU (qv 1) iL (fun _ _=>rfl))) (fun _ _ _ _=>(ki (n:=3) rfl (ji (iY (i:=0) (jy (l:=["one","other","amount"]) (by rfl)) rfl (Or.inl rfl)) (ji (iY (i:=1) (jy (l:=["one","other","amount"]) (by rfl)) rfl (Or.inl rfl)) (ji (iY (i:=2) (jy (l:=["one","other","amount"]) (by rfl)) rfl (Or.inl rfl)) kj))))) (fun _ _ _ _=>kS) (fun _ _ _ _=>(qv 2))) iI)) (jd Gqn (hr.mono (by decide)) rfl Dqn.m Dqn.F.kp Dqn.b .nil iZ (iH (qv 0) (iH (iT iU (qv 1) iL (fun _ _=>rfl)) iI))) (jI _))))),?_⟩
 walk_at "D"
 refine⟨_,d,2,rfl,hd,?_⟩
 cases d with
 | tup ds=>
  by_cases c2:ds.length=2
  ·rw [show lJ 2 (.tup ds)=true from aK (by lia)]
   match ds,c2 with
   |[a,b],_=>
   have hsb:=hs a b rfl
   rw[Rep]at hd
   obtain⟨g,vs,rfl,ea,r⟩:=hd
   rw[Reps]at r
   obtain⟨v1,r1,rfl,e1,r⟩:=r
   rw[Reps]at r
   obtain⟨v2,r2,rfl,e2,r⟩:=r
   rw[Reps]at r
   subst r
   simp_arith[iX,ea,jw,jQ]
   refine⟨_,ps,ts,_,a,rfl,hw,wk,e1,fun H1 s1=>?_⟩
   cases ch:pA ps ts a with
   |false=>
    walk_at "D"
    have hb:=h H1 s1
    rw[show m8 ps ts (.tup [a,b])=mS ps ts a b from rfl,C3 ch]at hb
    exact hb
   | true=>
    simp_arith[iX,s1 _ _ ea,jQ]
    refine⟨_,ps,ts,_,b,rfl,hw.same s1,wk,Rep.same s1 _ e2,hsb,fun H2 s2=>?_⟩
    have s3:=s1.trans s2
    cases cd:oI ps ts b with
    |false=>
     walk_at "D"
     have hb:=h H2 s3
     rw[show m8 ps ts (.tup [a,b])=mS ps ts a b from rfl,C4 cd]at hb
     exact hb
    | true=>
     obtain⟨hs',rfl,ho,hti⟩:=FJ ch
     obtain⟨qs,rfl,qo,hpa⟩:=Gq cd
     rw[Rep]at e1 e2
     obtain⟨l1,z1,rfl,el1,r1⟩:=e1
     obtain⟨l2,z2,rfl,el2,r2⟩:=e2
     have p1:=zO r1
     have p2:=zP r2
     obtain⟨_,hk,hrg⟩:=vz ho
     have hzl:=aD p2
     have hql:qs.length<=200:=by have:=hsb _ rfl;rw[ae]at this;exact this
     simp_arith[iX,s3 _ _ ea,jQ,jw]
     refine kO (jD K l2) H2 (fun R hR=>?_) (fun z hz0=>km qs.length (fun i σ' Hc=>∃w1 w2 w3,σ'=[w1,w2,w3]/\Same H2 Hc/\Hc z=some (.lst (((qs.take i).map (·.2.2)).map V.int))) ⟨none,none,none,rfl,iO hz0 _,iK⟩ ?_ ?_)
     ·unfold jL
      simp_arith[iX,s3 _ _ ea,jQ]
      exact⟨l2,rfl,⟨_,SqL.of (s3 _ _ el2)⟩,hR⟩
     ·rintro i σ' Hc hi ⟨w1,w2,w3,rfl,s7,ez⟩
      have x1:z2[i]? =some (z2[i]'(by lia)):=gE _
      have s8:=s3.trans s7
      refine⟨⟨_,_,SqL.of (s8 _ _ el2),x1⟩,?_⟩
      rintro y H' ⟨rfl,hy⟩
      have E1:=aI (x1.symm.trans (hy _ (SqL.of (s8 _ _ el2))))
      obtain⟨pr,hpr,px⟩:=kH p2 x1
      rw[E1]at px
      obtain⟨b,rfl,hb⟩:=Tp.tups px s8.tups
      simp_arith[hb]
      refine⟨_,ez,?_,_,_,_,rfl,jJ s7 hz0,?_⟩
      ·rw[ae,ae,aS]
       exact jt (by lia)
      ·rw[iK,jv hpr,aq,aq]
       rfl
     ·rintro σ' Hc ⟨w1,w2,w3,rfl,s7,ez⟩
      have s8:=s3.trans s7
      refine⟨⟨_,SqL.of (s8 _ _ el2),by lia⟩,?_⟩
      rw[aV]at ez
      refine⟨z,_,rfl,ez,?_⟩
      simp only[s8 _ _ ea,jw]
      have hpl:hs'.length=ps.length:=by
       have:=cx List.length hk
       rw[ae,ae]at this
       exact this
      have h40:=wk.pl
      refine ⟨_,ps,ts,l1,z1,hs',rfl,hw.same s8,wk,s8 _ _ el1,Prs.same s8 p1,by lia,fun k hk'=>⟨by rw [<- hk]; exact cM hk',hrg k hk'⟩,fun H9 s9=>?_⟩
      have hb:=h H9 (s8.trans s9)
      have e9:m8 ps ts (.tup [.lst (hs'.map kq),.lst (qs.map ku)])=decide ((qs.map (·.2.2)).sum=oH ps hs'):=by
       rw[AQ]
       unfold mS
       dsimp only
       rw[ho,qo]
       dsimp only
       rw[hti,hpa,Bool.true_and,Bool.true_and]
      rw[e9]at hb
      exact hb
  ·rw[show lJ 2 (.tup ds)=false from aP (by lia)]
   walk_at "D"
   have hb:=h H (Same.refl _)
   rw[F2 c2]at hb
   exact hb
 |_=>simp_arith[lJ];exact h H (Same.refl _)
theorem HD(B:Blt mg)(D:DefAt K mg "lets_halves" (iM 32) ["web","thing"] f fd)(Dqf:DefAt K mg "look_at_web" (iM 24) ["thing"] fqf dqf)(Gqf:FnOk P w K mg base iR 5 fqf dqf ["thing"] vC)(Dq3:DefAt K mg "paper_stands" (iM 31) ["web","thing"] fq3 dq3)(Gq3:FnOk P w K mg base iR 5 fq3 dq3 ["web","thing"] rT):FnOk P w K mg base iR 6 f fd ["web","thing"] rT:=by
 have sc:FnScope ["web","thing"] ["web","thing"] (je (iM 32)):=by walk_at "SC"
 refine D.F.ok sc (fun vs H Q E h=>?_) (fun cdv A outer s H vs Q E hr h=>?_)
 ·obtain⟨v,ps,ts,y,d,rfl,_⟩:=h
  rfl
 obtain⟨v,ps,ts,y,d,rfl,hw,wk,hd,hs,h⟩:=h
 have hu:=jn hr
 have hu0:_<PySem.cLine:=aF hu
 refine⟨_,(iN (kF (jd Gqf (hr.mono (by decide)) rfl Dqf.m Dqf.F.kp Dqf.b .nil iZ (iH (qv 0) iI))) (iS (jh (jd Gq3 (hr.mono (by decide)) rfl Dq3.m Dq3.F.kp Dq3.b .nil iZ (iH (qv 0) (iH (qv 1) iI)))))),?_⟩
 walk_at "D"
 refine⟨_,ps,ts,rfl,hw,wk,fun H1 s1=>?_⟩
 exact⟨_,ps,ts,_,d,rfl,hw.same s1,wk,Rep.same s1 _ hd,hs,fun H2 s2=>h H2 (s1.trans s2)⟩
end
end My
namespace Fl
structure Tw where
 a:Int
 b:Int
 x:Int
 y:Int
noncomputable def ja(n m v:Int):Int:=if n=m then v else 0
theorem qh(n v:Int):ja n n v=v:=by unfold ja;rw[aA rfl]
theorem kE{n m:Int}(h:n≠m)(v:Int):ja n m v=0:=by unfold ja;rw[ay h]
theorem p8(c:Int->Int)(a x:Int):∀{ns:List Int},ns.Nodup->a∈ns->(ns.map fun p=>c p*ja a p x).sum=c a*x
 |[],_,h=>by cases h
 | n ::ns,nd,h=>by
  rw[ah,List.sum_cons]
  have nd':=br.mp nd
  by_cases e:a=n
  ·subst e
   have h0:∀{l:List Int},a∉l->(l.map fun p=>c p*ja a p x).sum=0:=by
    intro l
    induction l with
    |nil=>intro _;rfl
    |cons m l ih=>
     intro hm
     rw[ah,List.sum_cons,kE (fun z:a=m=>hm (by rw[z];exact aH ..)),gW,ih fun z=>hm (az _ z)]
     rfl
   rw[qh,h0 nd'.1,fU]
  ·have hm:a∈ns:=(aM.mp h).resolve_left e
   rw[kE e,gW,p8 c a x nd'.2 hm,gU]
theorem lE{α:Type}(f g:α->Int):∀(l:List α),(l.map fun p=>f p+g p).sum=(l.map f).sum+(l.map g).sum
 |[]=>rfl
 |a::l=>by
  rw[ah,ah,ah,List.sum_cons,List.sum_cons,List.sum_cons,lE f g l]
  lia
theorem mP{α:Type}:∀(l:List α),(l.map fun _=>(0:Int)).sum=0
 |[]=>rfl
 |_::l=>by rw[ah,List.sum_cons,mP l];rfl
theorem jV{α:Type}{f g:α->Int}:∀{l:List α},(∀p∈l,f p=g p)->(l.map f).sum=(l.map g).sum
 |[],_=>rfl
 |a::l,h=>by
  rw[ah,ah,List.sum_cons,List.sum_cons,h a (aH ..),jV fun p hp=>h p (az _ hp)]
noncomputable def kK(zs:List Tw)(p:Int):Int:=(zs.map fun z=>ja z.a p z.x+ja z.b p z.y).sum
noncomputable def inR(zs:List Tw)(p:Int):Int:=(zs.map fun z=>ja z.b p z.x+ja z.a p z.y).sum
theorem rY(c:Int->Int){ns:List Int}(nd:ns.Nodup):∀{zs:List Tw},(∀z∈zs,z.a∈ns/\z.b∈ns)->(ns.map fun p=>c p*kK zs p).sum=(zs.map fun z=>c z.a*z.x+c z.b*z.y).sum
 |[],_=>by
  show(ns.map fun p=>c p*0).sum=0
  rw[jV (g:=fun _=>0) fun p _=>gW _,mP]
 | z::zs,h=>by
  have hz:=h z (aH ..)
  have e:∀p∈ns,c p*kK (z::zs) p=(c p*ja z.a p z.x+c p*ja z.b p z.y)+c p*kK zs p:=fun p _=>by
   unfold kK
   rw[ah,List.sum_cons,cW,cW]
  rw[jV e,lE,lE,p8 c _ _ nd hz.1,p8 c _ _ nd hz.2,rY c nd fun z hz=>h z (az _ hz),ah,List.sum_cons]
theorem uE(c:Int->Int){ns:List Int}(nd:ns.Nodup):∀{zs:List Tw},(∀z∈zs,z.a∈ns/\z.b∈ns)->(ns.map fun p=>c p*inR zs p).sum=(zs.map fun z=>c z.b*z.x+c z.a*z.y).sum
 |[],_=>by
  show(ns.map fun p=>c p*0).sum=0
  rw[jV (g:=fun _=>0) fun p _=>gW _,mP]
 | z::zs,h=>by
  have hz:=h z (aH ..)
  have e:∀p∈ns,c p*inR (z::zs) p=(c p*ja z.b p z.x+c p*ja z.a p z.y)+c p*inR zs p:=fun p _=>by
   unfold inR
   rw[ah,List.sum_cons,cW,cW]
  rw[jV e,lE,lE,p8 c _ _ nd hz.2,p8 c _ _ nd hz.1,uE c nd fun z hz=>h z (az _ hz),ah,List.sum_cons]
structure Full(ns:List Int)(pr:Int->Int)(zs:List Tw)(fs ft:Int->Int)(SL SR:Int->Bool):Prop where
 nd:ns.Nodup
 ends:∀z∈zs,z.a∈ns/\z.b∈ns
 pos:∀z∈zs,0<=z.x/\0<=z.y
 left:∀p∈ns,fs p=kK zs p
 right:∀p∈ns,ft p=inR zs p
 capL:∀p∈ns,0<=fs p/\fs p<=pr p
 capR:∀p∈ns,0<=ft p/\ft p<=pr p
 satL:∀p∈ns,SL p=false->fs p=pr p
 satR:∀p∈ns,SR p=true->ft p=pr p
 go:∀z∈zs,(SL z.a=true->SR z.b=true)/\(SL z.b=true->SR z.a=true)
 zero:∀z∈zs,(SR z.b=true->SL z.a=false->z.x=0)/\(SR z.a=true->SL z.b=false->z.y=0)
noncomputable def one(b:Bool):Int:=if b=true then 1 else 0
noncomputable def kW(SL SR:Int->Bool)(p:Int):Int:=(1-one (SL p))+one (SR p)
theorem xO(b:Bool):0<=one b/\one b<=1:=by cases b<;>decide
section
variable{ns:List Int}{pr:Int->Int}{zs:List Tw}{fs ft:Int->Int}{SL SR:Int->Bool}
theorem Bk(p:Int):0<=kW SL SR p/\kW SL SR p<=2:=by
 unfold kW
 have:=xO (SL p)
 have:=xO (SR p)
 lia
theorem Full.two(F:Full ns pr zs fs ft SL SR):∀z∈zs,2<=kW SL SR z.a+kW SL SR z.b:=fun z hz=>by
 obtain⟨g1,g2⟩:=F.go z hz
 unfold kW one
 cases h1:SL z.a<;>cases h2:SL z.b<;>cases h3:SR z.a<;>cases h4:SR z.b<;>simp_all
theorem Full.paid(F:Full ns pr zs fs ft SL SR){p:Int}(hp:p∈ns):(zs.map fun z=>ja z.a p (z.x+z.y)+ja z.b p (z.x+z.y)).sum<=2*pr p:=by
 have e:(zs.map fun z=>ja z.a p (z.x+z.y)+ja z.b p (z.x+z.y)).sum=kK zs p+inR zs p:=by
  unfold kK inR
  rw [<- lE]
  refine jV fun z _=>?_
  unfold ja
  split<;>split<;>lia
 rw [e,<- F.left p hp,<- F.right p hp]
 have:=F.capL p hp
 have:=F.capR p hp
 lia
theorem Full.worth(F:Full ns pr zs fs ft SL SR):(zs.map fun z=>z.x+z.y).sum=(ns.map fun p=>pr p*kW SL SR p).sum:=by
 have h1:(zs.map fun z=>z.x+z.y).sum=(ns.map fs).sum:=by
  have:=rY (fun _=>1) F.nd (zs:=zs) F.ends
  rw[jV (g:=fs) (fun p hp=>by rw[gv,F.left p hp])]at this
  rw[this]
  exact jV fun z _=>by rw[gv,gv]
 have h2:(ns.map fs).sum=(ns.map fun p=>(1-one (SL p))*pr p).sum+(ns.map fun p=>one (SL p)*kK zs p).sum:=by
  rw [<- lE]
  refine jV fun p hp=>?_
  cases e:SL p with
  | true=>rw [<- F.left p hp]; show fs p = (1 - 1) * pr p + 1 * fs p; lia
  |false=>rw[F.satL p hp e];show pr p=(1-0)*pr p+0*kK zs p;lia
 have h3:(ns.map fun p=>one (SL p)*kK zs p).sum=(ns.map fun p=>one (SR p)*inR zs p).sum:=by
  rw[rY _ F.nd F.ends,uE _ F.nd F.ends]
  refine jV fun z hz=>?_
  obtain⟨g1,g2⟩:=F.go z hz
  obtain⟨z1,z2⟩:=F.zero z hz
  have e1:one (SL z.a)*z.x=one (SR z.b)*z.x:=by
   cases h1:SL z.a with
   |true=>rw[g1 h1]
   |false=>
    cases h2:SR z.b with
    |false=>rfl
    |true=>rw[z1 h2 h1];rfl
  have e2:one (SL z.b)*z.y=one (SR z.a)*z.y:=by
   cases h1:SL z.b with
   |true=>rw[g2 h1]
   |false=>
    cases h2:SR z.a with
    |false=>rfl
    |true=>rw[z2 h2 h1];rfl
  rw[e1,e2]
 have h4:(ns.map fun p=>one (SR p)*inR zs p).sum=(ns.map fun p=>one (SR p)*pr p).sum:=jV fun p hp=>by
  cases e:SR p with
  | true=>rw [<- F.right p hp,F.satR p hp e]
  |false=>show 0*_=0*_;lia
 rw [h1,h2,h3,h4,<- lE]
 refine jV fun p _=>?_
 unfold kW
 rw[cW,dJ (pr p),dJ (pr p)]
end
end Fl
namespace Fl
noncomputable def iW(w:Nat):Nat:=if w%2=0 then w+1 else w-1
theorem Ay(w:Nat):iW (iW w)=w:=by unfold iW;split<;>split<;>lia
theorem tK(w:Nat):iW w≠w:=by unfold iW;split<;>lia
theorem qQ{w m:Nat}(h:w<2*m):iW w<2*m:=by unfold iW;split<;>lia
noncomputable def at'(l:List Int)(i:Nat):Int:=l.getD i 0
theorem wz(l:List Int)(i j:Nat)(v:Int):at' (l.set i v) j=if i=j/\j<l.length then v else at' l j:=by
 unfold at'
 rw[aJ,aJ,List.getElem?_set]
 by_cases h:i=j
 ·by_cases h2:j<l.length
  ·rw[aA h,aA (by lia),aA ⟨h,h2⟩];rfl
  ·rw[aA h,ay (by lia),ay (fun z=>h2 z.2),bD (by lia)]
 ·rw[ay h,ay (fun z=>h z.1)]
noncomputable def bump(r:List Int)(w:Nat)(a:Int):List Int:=(r.set w (at' r w-a)).set (iW w) (at' r (iW w)+a)
theorem uZ(r:List Int)(w:Nat)(a:Int):(bump r w a).length=r.length:=by unfold bump;rw[eE,eE]
theorem uH{r:List Int}{w m:Nat}{a:Int}(hl:r.length=2*m)(hw:w<2*m)(j:Nat):at' (bump r w a) j=at' r j-(if j=w then a else 0)+(if j=iW w then a else 0):=by
 unfold bump
 rw[wz,wz]
 have hm:=qQ hw
 have hn:=tK w
 rw[eE,hl]
 by_cases h1:j=iW w
 ·subst h1
  rw[aA ⟨rfl,hm⟩,ay hn,aA rfl]
  lia
 ·rw[ay (fun z=>h1 z.1.symm),ay h1]
  by_cases h2:j=w
  ·subst h2
   rw[aA ⟨rfl,hw⟩,aA rfl]
   lia
  ·rw[ay (fun z=>h2 z.1.symm),ay h2]
   lia
theorem vT{g g':Nat->Int}:∀{m k0:Nat},k0<m->(∀k,k≠k0->g' k=g k)->((List.range m).map g').sum=((List.range m).map g).sum+(g' k0-g k0)
 |0,_,h,_=>by lia
 | m+1,k0,h,he=>by
  rw[bL,aq,aq,cR,cR]
  show _+(g' m+0)=_+(g m+0)+_
  by_cases c:k0=m
  ·subst c
   have e:((List.range k0).map g').sum=((List.range k0).map g).sum:=jV fun k hk=>he k (by have:=bg.mp hk;lia)
   rw[e]
   lia
  ·rw[vT (m:=m) (k0:=k0) (by lia) he,he m (fun z=>c z.symm)]
   lia
noncomputable def ex(hs:List Int)(m:Nat)(r:List Int)(v:Int):Int:=((List.range m).map fun k=>ja (at' hs (2*k)) v (at' r (2*k+1))-ja (at' hs (2*k+1)) v (at' r (2*k+1))).sum
theorem zG(n v a b:Int):ja n v (a+b)=ja n v a+ja n v b:=by unfold ja;split<;>lia
theorem zH(n v a b:Int):ja n v (a-b)=ja n v a-ja n v b:=by unfold ja;split<;>lia
theorem DM{hs r:List Int}{m w:Nat}{a:Int}(hl:r.length=2*m)(hw:w<2*m)(v:Int):ex hs m (bump r w a) v=ex hs m r v+ja (at' hs w) v a-ja (at' hs (iW w)) v a:=by
 unfold ex
 have hk:w/2<m:=by lia
 rw[vT (g:=fun k=>ja (at' hs (2*k)) v (at' r (2*k+1))-ja (at' hs (2*k+1)) v (at' r (2*k+1))) hk (fun k hne=>?_)]
 ·rw[uH hl hw]
  by_cases c:w%2=0
  ·have e1:iW w=w+1:=by unfold iW;rw[aA c]
   have e2:2*(w/2)=w:=by lia
   rw[e2,e1,ay (by lia),aA rfl,Int.sub_zero,zG,zG]
   lia
  ·have e1:iW w=w-1:=by unfold iW;rw[ay c]
   have e2:2*(w/2)+1=w:=by lia
   have e3:2*(w/2)=w-1:=by lia
   rw[e2,e3,e1,aA rfl,ay (by lia),fU,zH,zH]
   lia
 ·rw[uH hl hw,ay (by lia),ay (by unfold iW;split<;>lia),Int.sub_zero,fU]
noncomputable def push(r:List Int)(tr:List Nat)(a:Int):List Int:=tr.foldl (fun r w=>bump r w a) r
theorem qN:∀(tr:List Nat) (r:List Int) (a:Int),(push r tr a).length=r.length
 |[],_,_=>rfl
 |w::tr,r,a=>by
  show(push (bump r w a) tr a).length=_
  rw[qN tr,uZ]
def qR(hs:List Int):Int->List Nat->Int->Prop
 |t,[],s=>t=s
 |t,w::tr,s=>at' hs w=t/\qR hs (at' hs (iW w)) tr s
theorem yt{hs:List Int}{m:Nat}{a:Int}{s:Int}(v:Int):∀{tr:List Nat} {r:List Int} {t:Int},r.length=2*m->(∀w∈tr,w<2*m)->qR hs t tr s->ex hs m (push r tr a) v=ex hs m r v+ja t v a-ja s v a
 |[],r,t,_,_,h=>by
  have h:t=s:=h
  subst h
  show ex hs m r v=_
  lia
 |w::tr,r,t,hl,hw,h=>by
  show ex hs m (push (bump r w a) tr a) v=_
  obtain⟨h1,h2⟩:=h
  rw[yt v (by rw[uZ];exact hl) (fun x hx=>hw x (az _ hx)) h2,DM hl (hw w (aH ..)),h1]
  lia
theorem AA(a:Int)(n:Nat):a*((n+1:Nat):Int)=a*(n:Int)+a:=by rw[Int.natCast_add,cW];show _+a*1=_;rw[Int.mul_one]
theorem rN{m:Nat}{a:Int}(j:Nat):∀{tr:List Nat} {r:List Int},r.length=2*m->(∀w∈tr,w<2*m)->at' (push r tr a) j=at' r j-a*(tr.count j:Int)+a*(tr.count (iW j):Int)
 |[],r,_,_=>by
  show at' r j=at' r j-a*0+a*0
  lia
 | w::tr,r,hl,hw=>by
  show at' (push (bump r w a) tr a) j=_
  have hm:(j=iW w)↔(w=iW j):=⟨fun z=>by rw[z,Ay],fun z=>by rw[z,Ay]⟩
  rw[rN j (by rw[uZ];exact hl) (fun x hx=>hw x (az _ hx)),uH hl (hw w (aH ..)),List.count_cons,List.count_cons]
  by_cases c1:j=w
  ·by_cases c2:j=iW w
   ·exact absurd (c2.symm.trans c1) (tK w)
   ·rw[aA c1,ay c2,aA (by simp[c1]),ay (by simp;exact fun z=>c2 (hm.mpr z)),AA]
    simp only[Nat.add_zero]
    lia
  ·by_cases c2:j=iW w
   ·rw[ay c1,aA c2,ay (by simp;exact fun z=>c1 z.symm),aA (by simp;exact hm.mp c2),AA]
    simp only[Nat.add_zero]
    lia
   ·rw[ay c1,ay c2,ay (by simp;exact fun z=>c1 z.symm),ay (by simp;exact fun z=>c2 (hm.mpr z))]
    simp only[Nat.add_zero]
    lia
end Fl
namespace Fl
abbrev Cb:=List (Int×Option Nat)
noncomputable def seen(cb:Cb)(v:Int):Bool:=decide (v∈cb.map (·.1))
noncomputable def jP(hs r:List Int):Cb->List Nat->Cb
 |cb,[]=>cb
 |cb,w::ws=>jP hs r (if 0<at' r w/\seen cb (at' hs w)=false then cb++[(at' hs w,some w)]else cb) ws
noncomputable def jj(wf:Int->List Nat)(hs r:List Int)(s:Int):Nat->Cb
 |0=>[(s,none)]
 |k+1=>match(jj wf hs r s k)[k]? with
  |some p=>jP hs r (jj wf hs r s k) (wf p.1)
  |none=>jj wf hs r s k
structure Cam(hs r:List Int)(m:Nat)(s:Int)(cb:Cb):Prop where
 nd:(cb.map (·.1)).Nodup
 first:cb[0]? =some (s,none)
 came:∀i v o,cb[i]? =some (v,o)->0<i->∃w,o=some w/\w<2*m/\0<at' r w/\at' hs w=v/\∃j u,j<i/\(cb[j]?.map (·.1))=some u/\at' hs (iW w)=u
section
variable{hs r:List Int}{m:Nat}{s:Int}
theorem Cam.put{cb:Cb}(h:Cam hs r m s cb){w:Nat}{j:Nat}{u:Int}(hw:w<2*m)(hp:0<at' r w)(hn:seen cb (at' hs w)=false)(hj:(cb[j]?.map (·.1))=some u)(hu:at' hs (iW w)=u):Cam hs r m s (cb++[(at' hs w,some w)]):=by
 have hlen:0<cb.length:=by
  have:=h.first
  cases cb with
  |nil=>cases this
  |cons _ _=>simp
 have hjl:j<cb.length:=by
  cases e:cb[j]? with
  |none=>rw[e]at hj;cases hj
  |some p=>exact(ak.mp e).1
 refine⟨?_,?_,?_⟩
 ·rw[aq,bP]
  refine⟨h.nd,by simp,fun a ha b hb=>?_⟩
  simp at hb
  subst hb
  intro z
  subst z
  unfold seen at hn
  rw[dy]at hn
  exact hn ha
 ·rw[bq hlen]
  exact h.first
 ·intro i v o hi h0
  by_cases c:i<cb.length
  ·rw[bq c]at hi
   obtain⟨w',h1,h2,h3,h4,j',u',h5,h6,h7⟩:=h.came i v o hi h0
   exact⟨w',h1,h2,h3,h4,j',u',h5,by rw[bq (by lia)];exact h6,h7⟩
  ·rw[cn (by lia)]at hi
   have:i-cb.length=0:=by
    cases e:i-cb.length with
    |zero=>rfl
    |succ n=>rw[e]at hi;simp at hi
   rw[this]at hi
   simp at hi
   obtain⟨rfl,rfl⟩:=hi
   exact⟨w,rfl,hw,hp,rfl,j,u,by lia,by rw[bq hjl];exact hj,hu⟩
theorem vH:∀{ws:List Nat} {cb:Cb} {j:Nat} {u:Int},Cam hs r m s cb->(cb[j]?.map (·.1))=some u->(∀w∈ws,w<2*m/\at' hs (iW w)=u)->Cam hs r m s (jP hs r cb ws)
 |[],_,_,_,h,_,_=>h
 | w::ws,cb,j,u,h,hj,hw=>by
  unfold jP
  have h1:=hw w (aH ..)
  have hjl:j<cb.length:=by
   cases e:cb[j]? with
   |none=>rw[e]at hj;cases hj
   |some p=>exact(ak.mp e).1
  split
  ·rename_i c
   exact vH (j:=j) (u:=u) (h.put h1.1 c.1 c.2 hj h1.2) (by rw[bq hjl];exact hj) fun x hx=>hw x (az _ hx)
  ·exact vH h hj fun x hx=>hw x (az _ hx)
theorem oB:∀(ws:List Nat) (cb:Cb),∃l,jP hs r cb ws=cb++l
 |[],cb=>⟨[],(aY _).symm⟩
 | w::ws,cb=>by
  unfold jP
  split
  ·obtain⟨l,e⟩:=oB ws (cb++[(at' hs w,some w)])
   exact⟨(at' hs w,some w)::l,by rw[e,aQ];rfl⟩
  ·exact oB ws cb
theorem AG:∀{ws:List Nat} {cb:Cb} {w:Nat},w∈ws->0<at' r w->at' hs w∈(jP hs r cb ws).map (·.1)
 | x::ws,cb,w,h,hp=>by
  unfold jP
  rcases aM.mp h with rfl|h
  ·by_cases c:seen cb (at' hs w)=false
   ·rw[aA ⟨hp,c⟩]
    obtain⟨l,e⟩:=oB (hs:=hs) (r:=r) ws (cb++[(at' hs w,some w)])
    rw[e]
    simp
   ·rw[ay (fun z=>c z.2)]
    obtain⟨l,e⟩:=oB (hs:=hs) (r:=r) ws cb
    rw[e,aq,aW]
    left
    unfold seen at c
    simpa using c
  ·exact AG h hp
end
section
variable{wf:Int->List Nat}{hs r:List Int}{m:Nat}{s:Int}
theorem mQ(hwf:∀u,∀w∈wf u,w<2*m/\at' hs (iW w)=u):∀k,Cam hs r m s (jj wf hs r s k)
 | 0=>⟨by simp[jj],rfl,fun i v o h h0=>by
   cases i with
   |zero=>lia
   |succ i=>simp[jj]at h⟩
 | k+1=>by
  unfold jj
  have ih:=mQ hwf k
  split
  ·rename_i p e
   exact vH ih (j:=k) (u:=p.1) (by rw[e];rfl) (hwf p.1)
  ·exact ih
theorem xh(k:Nat):∃l,jj wf hs r s (k+1)=jj wf hs r s k++l:=by
 rw[jj]
 split
 ·exact oB _ _
 ·exact⟨[],(aY _).symm⟩
theorem tF{k:Nat}(h:(jj wf hs r s k).length<=k):∀j,jj wf hs r s (k+j)=jj wf hs r s k
 |0=>rfl
 |j+1=>by
  have ih:=tF h j
  show jj wf hs r s (k+j+1)=_
  rw[jj,ih,bD (by lia)]
theorem zX:∀{k:Nat} {i:Nat} {p:Int×Option Nat} {w:Nat},i<k->(jj wf hs r s k)[i]? =some p->w∈wf p.1->0<at' r w->at' hs w∈(jj wf hs r s k).map (·.1)
 | k+1,i,p,w,hi,hp,hw,h0=>by
  obtain⟨l,e⟩:=xh (wf:=wf) (hs:=hs) (r:=r) (s:=s) k
  by_cases c:i<(jj wf hs r s k).length
  ·rw[e,bq c]at hp
   by_cases c2:i=k
   ·subst c2
    rw[jj,hp]
    exact AG hw h0
   ·rw[e,aq,aW]
    left
    exact zX (by lia) hp hw h0
  ·by_cases c3:(jj wf hs r s k).length<=k
   ·have:=tF c3 1
    rw[this,bD (by lia)]at hp
    cases hp
   ·lia
end
end Fl
namespace Fl
noncomputable def lk(cb:Cb)(v:Int):Option Nat:=(cb.find? fun p=>decide (p.1=v)).bind (·.2)
theorem tX{cb:Cb}(nd:(cb.map (·.1)).Nodup){i:Nat}{v:Int}{o:Option Nat}(h:cb[i]? =some (v,o)):lk cb v=o:=by
 unfold lk
 induction cb generalizing i with
 |nil=>cases h
 | cons p cb ih=>
  rw[ah]at nd
  have nd':=br.mp nd
  rw[List.find?_cons]
  cases i with
  |zero=>
   simp at h
   subst h
   simp
  |succ i=>
   simp at h
   have hm:v∈cb.map (·.1):=aw.mpr ⟨(v,o),aE h,rfl⟩
   have hne:p.1≠v:=fun z=>nd'.1 (z▸hm)
   rw[aP hne]
   exact ih nd'.2 h
theorem DX{cb:Cb}{v:Int}(h:v∉cb.map (·.1)):lk cb v=none:=by
 unfold lk
 rw[List.find?_eq_none.mpr fun p hp=>by
  rw[cI]
  exact fun z=>h (aw.mpr ⟨p,hp,z⟩)]
 rfl
noncomputable def jE(hs:List Int)(cb:Cb):Nat->Int->List Nat
 |0,_=>[]
 |f+1,v=>match lk cb v with
  |some w=>w::jE hs cb f (at' hs (iW w))
  |none=>[]
noncomputable def key(cb:Cb)(i:Nat):Option Int:=cb[i]?.map (·.1)
theorem DU{cb:Cb}(nd:(cb.map (·.1)).Nodup){i j:Nat}{v:Int}(h1:key cb i=some v)(h2:key cb j=some v):i=j:=by
 unfold key at h1 h2
 rw [<- aC] at h1 h2
 obtain⟨a,b⟩:=ak.mp h1
 obtain⟨c,d⟩:=ak.mp h2
 exact(fK nd).mp (b.trans d.symm)
structure Good(hs r:List Int)(m:Nat)(cb:Cb)(i:Nat)(tr:List Nat):Prop where
 up:∀w∈tr,w<2*m/\0<at' r w/\∃k j,j<k/\k<=i/\key cb k=some (at' hs w)/\key cb j=some (at' hs (iW w))
 nd:tr.Nodup
section
variable{hs r:List Int}{m:Nat}{s:Int}{cb:Cb}
theorem AX(C:Cam hs r m s cb):∀(i:Nat) (v:Int) (o:Option Nat),cb[i]? =some (v,o)->∀f,i<=f->qR hs v (jE hs cb f v) s/\Good hs r m cb i (jE hs cb f v)/\(0<i->jE hs cb f v≠[]):=by
 intro i
 induction i using Nat.strongRecOn with
 | ind i ih=>
  intro v o h f hf
  by_cases h0:i=0
  ·subst h0
   have e:=C.first
   rw[h]at e
   have ho:o=none:=cx Prod.snd (aI e)
   have hv:v=s:=cx Prod.fst (aI e)
   have hl:=tX C.nd h
   rw[ho]at hl
   have ht:jE hs cb f v=[]:=by
    cases f with
    |zero=>rfl
    |succ f=>unfold jE;rw[hl]
   rw[ht]
   exact⟨hv,⟨(fun w hw=>by cases hw),.nil⟩,fun z=>by lia⟩
  ·obtain⟨w,rfl,h2,h3,h4,j,u,h5,h6,h7⟩:=C.came i v o h (by lia)
   have hl:=tX C.nd h
   obtain⟨f',rfl⟩:∃f',f=f'+1:=⟨f-1,by lia⟩
   have ht:jE hs cb (f'+1) v=w::jE hs cb f' u:=by
    rw[jE,hl]
    dsimp only
    rw[h7]
   obtain⟨p,hp⟩:∃p,cb[j]? =some p:=by
    cases e:cb[j]? with
    |none=>rw[e]at h6;cases h6
    |some p=>exact⟨p,rfl⟩
   have hpu:p.1=u:=by rw[hp]at h6;exact aI h6
   obtain⟨p1,p2⟩:=p
   dsimp only at hpu
   subst hpu
   obtain⟨t1,t2,_⟩:=ih j h5 p1 p2 hp f' (by lia)
   rw[ht]
   have kv:key cb i=some v:=by unfold key;rw[h];rfl
   refine⟨⟨h4,by rw[h7];exact t1⟩,⟨fun x hx=>?_,?_⟩,fun _=>by simp⟩
   ·rcases aM.mp hx with rfl|hx
    ·exact⟨h2,h3,i,j,h5,ao _,by rw[h4];exact kv,by rw[h7];exact h6⟩
    ·obtain⟨a,b,k,l,c1,c2,c3,c4⟩:=t2.up x hx
     exact⟨a,b,k,l,c1,by lia,c3,c4⟩
   ·refine br.mpr ⟨fun hm=>?_,t2.nd⟩
    obtain⟨a,b,k,l,c1,c2,c3,c4⟩:=t2.up w hm
    rw[h4]at c3
    have:=DU C.nd kv c3
    lia
structure Rooms(m:Nat)(cap:Nat->Int)(r:List Int):Prop where
 len:r.length=2*m
 pos:∀j,0<=at' r j
 two:∀k,k<m->at' r (2*k)+at' r (2*k+1)=cap k
theorem FA{l:List Nat}(nd:l.Nodup)(j:Nat):l.count j=if j∈l then 1 else 0:=by
 by_cases h:j∈l
 ·rw[aA h]
  have h1:=List.nodup_iff_count.mp nd j
  have h2:=List.count_pos_iff.mpr h
  lia
 ·rw[ay h];exact List.count_eq_zero.mpr h
theorem Rooms.push{cap:Nat->Int}(R:Rooms m cap r){tr:List Nat}(nd:tr.Nodup)(hw:∀w∈tr,w<2*m){a:Int}(ha:0<=a)(hm:∀w∈tr,a<=at' r w):Rooms m cap (push r tr a):=by
 refine⟨by rw[qN];exact R.len,fun j=>?_,fun k hk=>?_⟩
 ·rw[rN j R.len hw,FA nd j]
  have h0:0<=a*(tr.count (iW j):Int):=iD ha (gK _)
  by_cases h:j∈tr
  ·rw[aA h]
   have:=hm j h
   show 0<=at' r j-a*1+_
   lia
  ·rw[ay h]
   have:=R.pos j
   show 0<=at' r j-a*0+_
   lia
 ·rw[rN _ R.len hw,rN _ R.len hw]
  have e1:iW (2*k)=2*k+1:=by unfold iW;rw[aA (by lia)]
  have e2:iW (2*k+1)=2*k:=by unfold iW;rw[ay (by lia)];lia
  rw[e1,e2]
  have:=R.two k hk
  lia
end
end Fl
namespace Fl
structure Net(wf:Int->List Nat)(hs:List Int)(m n:Nat):Prop where
 len:hs.length=2*m
 from':∀u,∀w∈wf u,w<2*m/\at' hs (iW w)=u
 knot:∀w,w<2*m->0<=at' hs w/\at' hs w<n
 all:∀w,w<2*m->w∈wf (at' hs (iW w))
noncomputable def lh(r:List Int):List Nat->Int
 |[]=>0
 |[w]=>at' r w
 |w::x::tr=>if lh r (x::tr)<at' r w then lh r (x::tr)else at' r w
theorem tJ(r:List Int):∀{tr:List Nat} {w:Nat},w∈tr->lh r tr<=at' r w
 |[],_,h=>by cases h
 |[x],w,h=>by rw[aZ.mp h];exact bI _
 | y::x::tr,w,h=>by
  unfold lh
  rcases aM.mp h with rfl|h
  ·split<;>lia
  ·have:=tJ r h
   split<;>lia
theorem zB(r:List Int):∀{tr:List Nat},tr≠[]->(∀w∈tr,0<at' r w)->0<lh r tr
 |[],h,_=>absurd rfl h
 |[x],_,h=>h x (aZ.mpr rfl)
 |y::x::tr,_,h=>by
  unfold lh
  have h1:=h y (aH ..)
  have h2:=zB r (tr:=x::tr) (by simp) fun w hw=>h w (az _ hw)
  split<;>lia
section
variable(wf:Int->List Nat)(hs:List Int)(n:Nat)(s t:Int)
noncomputable def jC(r:List Int):Cb:=jj wf hs r s n
noncomputable def kz(r:List Int):List Nat:=jE hs (jC wf hs n s r) n t
noncomputable def kX(r:List Int):Option (List Int):=if kz wf hs n s t r=[]then none else some (push r (kz wf hs n s t r) (lh r (kz wf hs n s t r)))
inductive Runs:List Int->List Int->Prop
 |done (r:List Int):Runs r r
 |step {r r1 r':List Int}:kX wf hs n s t r=some r1->Runs r1 r'->Runs r r'
end
section
variable{wf:Int->List Nat}{hs:List Int}{n:Nat}{s t:Int}
theorem Runs.snoc{r r' r2:List Int}(h:Runs wf hs n s t r r')(e:kX wf hs n s t r'=some r2):Runs wf hs n s t r r2:=by
 induction h with
 |done r=>exact .step e (.done _)
 |step a _ ih=>exact .step a (ih e)
theorem Cr{r a b:List Int}(h1:Runs wf hs n s t r a)(e1:kX wf hs n s t a=none)(h2:Runs wf hs n s t r b)(e2:kX wf hs n s t b=none):a=b:=by
 induction h1 with
 |done r=>
  cases h2 with
  |done _=>rfl
  |step x _=>rw[e1]at x;cases x
 | step x _ ih=>
  cases h2 with
  |done _=>rw[e2]at x;cases x
  |step y z=>
   rw[x]at y
   cases y
   exact ih e1 z
variable{m:Nat}{r:List Int}
theorem xB(N:Net wf hs m n)(hs0:0<=s/\s<n)(k:Nat):∀v:Int,v∈(jj wf hs r s k).map (·.1)->0<=v/\v<(n:Int):=fun v hv=>by
 obtain⟨p,hp,rfl⟩:=aw.mp hv
 obtain⟨i,hi,e⟩:=bA.mp hp
 have C:=mQ (r:=r) (s:=s) N.from' k
 have he:(jj wf hs r s k)[i]? =some p:=by rw[gE hi,e]
 cases i with
 |zero=>
  have:=C.first
  rw[he]at this
  cases this
  exact hs0
 |succ i=>
  obtain⟨w,_,h2,_,h4,_⟩:=C.came (i+1) p.1 p.2 he (by lia)
  rw [<- h4]
  exact N.knot w h2
theorem Dw{l:List Int}(nd:l.Nodup):∀{n:Nat},(∀v:Int,v∈l->0<=v/\v<(n:Int))->l.length<=n:=fun{n} h=>by
 have h1:(l.map Int.toNat).Nodup:=by
  unfold List.Nodup at nd ⊢
  rw[bB]
  exact nd.imp_of_mem fun{a b} ha hb z e=>z (by have:=h a ha;have:=h b hb;lia)
 have h2:∀x∈l.map Int.toNat,x∈List.range n:=fun x hx=>by
  obtain⟨v,hv,rfl⟩:=aw.mp hx
  have:=h v hv
  exact bg.mpr (by lia)
 have h3:(l.map Int.toNat).length<=(List.range n).length:=by
  have key:∀(a b:List Nat),a.Nodup->(∀x∈a,x∈b)->a.length<=b.length:=by
   intro a
   induction a with
   |nil=>intro b _ _;exact bp _
   |cons x a ih=>
    intro b nd hb
    have nd':=br.mp nd
    have hx:=hb x (aH ..)
    have h4:=ih (b.erase x) nd'.2 fun y hy=>(List.mem_erase_of_ne (fun z:y = x=>nd'.1 (by rw [<- z]; exact hy))).mpr (hb y (az _ hy))
    rw[List.length_erase_of_mem hx]at h4
    have:=List.length_pos_of_mem hx
    rw[List.length_cons]
    lia
  exact key _ _ h1 h2
 rw[ae,bz]at h3
 exact h3
theorem nN(N:Net wf hs m n)(hs0:0<=s/\s<n)(k:Nat):(jj wf hs r s k).length<=n:=by
 have:=Dw (mQ (r:=r) (s:=s) N.from' k).nd (xB N hs0 k)
 rw[ae]at this
 exact this
theorem Al(N:Net wf hs m n)(hs0:0<=s/\s<n){w:Nat}(hw:w<2*m)(h0:0<at' r w)(hf:at' hs (iW w)∈(jC wf hs n s r).map (·.1)):at' hs w∈(jC wf hs n s r).map (·.1):=by
 obtain⟨p,hp,e⟩:=aw.mp hf
 obtain⟨i,hi,e2⟩:=bA.mp hp
 have:=nN (r:=r) N hs0 n
 unfold jC at hi
 exact zX (k:=n) (i:=i) (p:=p) (by lia) (by rw[gE hi];exact cx some e2) (by rw[e];exact N.all w hw) h0
theorem Cg(N:Net wf hs m n):s∈(jC wf hs n s r).map (·.1):=by
 have:=(mQ (r:=r) (s:=s) N.from' n).first
 exact aw.mpr ⟨_,aE this,rfl⟩
theorem wI(N:Net wf hs m n)(hst:s≠t)(hs0:0<=s/\s<n)(h:kX wf hs n s t r=none):t∉(jC wf hs n s r).map (·.1):=fun ht=>by
 obtain⟨p,hp,e⟩:=aw.mp ht
 obtain⟨i,hi,e2⟩:=bA.mp hp
 have C:=mQ (r:=r) (s:=s) N.from' n
 have he:(jj wf hs r s n)[i]? =some (t,p.2):=by
  unfold jC at hi e2
  rw [gE hi,e2,<- e]
 have hn:kz wf hs n s t r=[]:=by
  unfold kX at h
  split at h
  ·assumption
  ·cases h
 have hl:=nN (r:=r) N hs0 n
 unfold jC at hi
 have G:=AX C i t p.2 he n (by lia)
 by_cases h0:i=0
 ·subst h0
  have:=C.first
  rw[he]at this
  have:=cx Prod.fst (aI this)
  exact hst this.symm
 ·exact G.2.2 (by lia) hn
end
end Fl
namespace Fl
section
variable{wf:Int->List Nat}{hs:List Int}{m n:Nat}{s t:Int}{r:List Int}{cap:Nat->Int}
theorem wH(N:Net wf hs m n)(hst:s≠t)(hs0:0<=s/\s<(n:Int))(h:kz wf hs n s t r≠[]):qR hs t (kz wf hs n s t r) s/\∃i,Good hs r m (jC wf hs n s r) i (kz wf hs n s t r):=by
 have C:=mQ (r:=r) (s:=s) N.from' n
 by_cases ht:t∈(jC wf hs n s r).map (·.1)
 ·obtain⟨p,hp,e⟩:=aw.mp ht
  obtain⟨i,hi,e2⟩:=bA.mp hp
  have he:(jj wf hs r s n)[i]? =some (t,p.2):=by
   unfold jC at hi e2
   rw [gE hi,e2,<- e]
  have hl:=nN (r:=r) N hs0 n
  unfold jC at hi
  have G:=AX C i t p.2 he n (by lia)
  exact⟨G.1,i,G.2.1⟩
 ·refine absurd ?_ h
  unfold kz
  cases n with
  |zero=>rfl
  |succ k=>rw[jE,DX ht]
theorem xg(N:Net wf hs m n)(hst:s≠t)(hs0:0<=s/\s<(n:Int))(R:Rooms m cap r){r1:List Int}(h:kX wf hs n s t r=some r1):Rooms m cap r1/\(∀v,v≠s->v≠t->ex hs m r1 v=ex hs m r v)/\ex hs m r t+1<=ex hs m r1 t:=by
 unfold kX at h
 split at h
 ·cases h
 ·rename_i hne
  cases h
  obtain⟨T,i,G⟩:=wH N hst hs0 hne
  have hw:∀w∈kz wf hs n s t r,w<2*m:=fun w hw=>(G.up w hw).1
  have hp:=zB r hne fun w hw=>(G.up w hw).2.1
  have E:=fun v=>yt (a:=lh r (kz wf hs n s t r)) v R.len hw T
  refine⟨R.push G.nd hw (by lia) fun w hw=>tJ r hw,fun v h1 h2=>?_,?_⟩
  ·rw[E v,kE (fun z=>h2 z.symm),kE (fun z=>h1 z.symm)]
   lia
  ·rw[E t,qh,kE hst]
   lia
noncomputable def wx(cap:Nat->Int)(m:Nat):Int:=((List.range m).map cap).sum
theorem qJ{α:Type}{f g:α->Int}:∀{l:List α},(∀p∈l,f p<=g p)->(l.map f).sum<=(l.map g).sum
 |[],_=>bI _
 |a::l,h=>by
  rw[ah,ah,List.sum_cons,List.sum_cons]
  have:=h a (aH ..)
  have:=qJ fun p hp=>h p (az _ hp)
  lia
theorem IB(R:Rooms m cap r)(v:Int):ex hs m r v<=wx cap m:=by
 unfold ex wx
 refine qJ fun k hk=>?_
 have h1:=R.pos (2*k+1)
 have h2:=R.pos (2*k)
 have h3:=R.two k (bg.mp hk)
 unfold ja
 split<;>split<;>lia
theorem Cj(N:Net wf hs m n)(hst:s≠t)(hs0:0<=s/\s<(n:Int)){r':List Int}(h:Runs wf hs n s t r r'):Rooms m cap r->Rooms m cap r'/\∀v,v≠s->v≠t->ex hs m r' v=ex hs m r v:=by
 induction h with
 |done r=>exact fun R=>⟨R,fun _ _ _=>rfl⟩
 |step e _ ih=>
  intro R
  obtain⟨R1,E1,_⟩:=xg N hst hs0 R e
  obtain⟨R2,E2⟩:=ih R1
  exact⟨R2,fun v h1 h2=>(E2 v h1 h2).trans (E1 v h1 h2)⟩
theorem oZ(N:Net wf hs m n)(hs0:0<=s/\s<(n:Int))(R:Rooms m cap r){k:Nat}(hk:k<m):
  (at' hs (2*k+1)∈(jC wf hs n s r).map (·.1)->at' hs (2*k)∉(jC wf hs n s r).map (·.1)->at' r (2*k+1)=cap k)/\
  (at' hs (2*k)∈(jC wf hs n s r).map (·.1)->at' hs (2*k+1)∉(jC wf hs n s r).map (·.1)->at' r (2*k+1)=0):=by
 have e1:iW (2*k)=2*k+1:=by unfold iW;rw[aA (by lia)]
 have e2:iW (2*k+1)=2*k:=by unfold iW;rw[ay (by lia)];lia
 have h1:=R.pos (2*k+1)
 have h2:=R.pos (2*k)
 have h3:=R.two k hk
 refine⟨fun a b=>?_,fun a b=>?_⟩
 ·have:¬0<at' r (2*k):=fun z=>b (Al N hs0 (by lia) z (by rw[e1];exact a))
  lia
 ·have:¬0<at' r (2*k+1):=fun z=>b (Al N hs0 (by lia) z (by rw[e2];exact a))
  lia
end
end Fl
namespace Fl
theorem ql(g:Nat->Int)(a:Nat):∀b,((List.range (a+b)).map g).sum=((List.range a).map g).sum+((List.range b).map fun k=>g (a+k)).sum
 |0=>by show _=_+0;rw[fU];rfl
 |b+1=>by
  rw [<- gD,bL,aq,cR,ql g a b,bL,aq,cR]
  show _+(g (a+b)+0)=_+(_+(g (a+b)+0))
  lia
theorem vS(g:Nat->Int):∀b,((List.range (2*b)).map g).sum=((List.range b).map fun k=>g (2*k)+g (2*k+1)).sum
 |0=>rfl
 |b+1=>by
  rw[show 2*(b+1)=2*b+1+1 by lia,bL,aq,cR,bL,aq,cR,vS g b,bL,aq,cR]
  show _+(g (2*b)+0)+(g (2*b+1)+0)=_+(g (2*b)+g (2*b+1)+0)
  lia
theorem Bf(g:Nat->Int){n i:Nat}(hi:i<n)(h:∀k,k<n->k≠i->g k=0):((List.range n).map g).sum=g i:=by
 have h1:((List.range n).map g).sum=((List.range n).map fun k=>if k=i then g i else 0).sum:=jV fun k hk=>by
  by_cases c:k=i
  ·rw[aA c,c]
  ·rw[ay c];exact h k (bg.mp hk) c
 have h2:=vT (g:=fun _=>0) (g':=fun k=>if k=i then g i else 0) hi fun k hk=>ay hk
 rw[h1,h2,mP,aA rfl]
 lia
structure Dbl(ns:List Int)(ts:List (Int×Int))(sp:Int->Int)(hs:List Int):Prop where
 nd:ns.Nodup
 spot:∀(i:Nat) (p:Int),ns[i]? =some p->sp p=2+(i:Int)
 ends:∀t∈ts,t.1∈ns/\t.2∈ns
 src:∀i:Nat,i<ns.length->at' hs (2*i)=2+(i:Int)/\at' hs (2*i+1)=0
 snk:∀i:Nat,i<ns.length->at' hs (2*(ns.length+i))=1/\at' hs (2*(ns.length+i)+1)=2+(ns.length:Int)+i
 tie:∀(j:Nat) (t:Int×Int),ts[j]? =some t->(at' hs (2*(ns.length+ns.length+2*j))=sp t.2+ns.length/\at' hs (2*(ns.length+ns.length+2*j)+1)=sp t.1)/\(at' hs (2*(ns.length+ns.length+(2*j+1)))=sp t.1+ns.length/\at' hs (2*(ns.length+ns.length+(2*j+1))+1)=sp t.2)
section
variable{ns:List Int}{ts:List (Int×Int)}{sp:Int->Int}{hs r:List Int}
noncomputable def twAt(ns:List Int)(r:List Int)(ts:List (Int×Int))(j:Nat):Tw:=⟨(ts.getD j (0,0)).1,(ts.getD j (0,0)).2,at' r (2*(ns.length+ns.length+2*j)+1),at' r (2*(ns.length+ns.length+(2*j+1))+1)⟩
noncomputable def twS(ns:List Int)(r:List Int)(ts:List (Int×Int)):List Tw:=(List.range ts.length).map (twAt ns r ts)
theorem getD_at{l:List (Int×Int)}{j:Nat}(h:j<l.length):l[j]? =some (l.getD j (0,0)):=by
 rw[aJ,gE h];rfl
theorem Dbl.spI(D:Dbl ns ts sp hs){i:Nat}{p q:Int}(hp:ns[i]? =some p)(hq:q∈ns):sp q=2+(i:Int)↔q=p:=by
 obtain⟨k,hk,e⟩:=bA.mp hq
 have hk':ns[k]? =some q:=by rw[gE hk,e]
 constructor
 ·intro h
  rw[D.spot k q hk']at h
  have:k=i:=by lia
  subst this
  rw[hp]at hk'
  exact(aI hk').symm
 ·rintro rfl
  exact D.spot i q hp
theorem Dbl.spB(D:Dbl ns ts sp hs){q:Int}(hq:q∈ns):2<=sp q/\sp q<2+(ns.length:Int):=by
 obtain⟨k,hk,e⟩:=bA.mp hq
 rw[D.spot k q (by rw[gE hk,e])]
 lia
theorem se{a b c d v:Int}(h:a=b↔c=d):ja a b v=ja c d v:=by
 unfold ja
 by_cases x:a=b
 ·rw[aA x,aA (h.mp x)]
 ·rw[ay x,ay fun z=>x (h.mpr z)]
theorem Dbl.left(D:Dbl ns ts sp hs){i:Nat}{p:Int}(hp:ns[i]? =some p):ex hs (ns.length+ns.length+2*ts.length) r (2+(i:Int))=at' r (2*i+1)-kK (twS ns r ts) p:=by
 have hi:=(ak.mp hp).1
 unfold ex
 rw[ql,ql,vS]
 have h1:((List.range ns.length).map fun k=>ja (at' hs (2*k)) (2+(i:Int)) (at' r (2*k+1))-ja (at' hs (2*k+1)) (2+(i:Int)) (at' r (2*k+1))).sum=at' r (2*i+1):=by
  rw[Bf _ hi fun k hk hne=>?_]
  ·rw[(D.src i hi).1,(D.src i hi).2,qh,kE (by lia)];lia
  ·rw[(D.src k hk).1,(D.src k hk).2,kE (by lia),kE (by lia)];rfl
 have h2:((List.range ns.length).map fun k=>ja (at' hs (2*(ns.length+k))) (2+(i:Int)) (at' r (2*(ns.length+k)+1))-ja (at' hs (2*(ns.length+k)+1)) (2+(i:Int)) (at' r (2*(ns.length+k)+1))).sum=0:=by
  rw [<- mP (List.range ns.length)]
  refine jV fun k hk=>?_
  have hk:=bg.mp hk
  rw[(D.snk k hk).1,(D.snk k hk).2,kE (by lia),kE (by lia)]
  rfl
 rw[h1,h2]
 have h3:kK (twS ns r ts) p=((List.range ts.length).map fun j=>ja (twAt ns r ts j).a p (twAt ns r ts j).x+ja (twAt ns r ts j).b p (twAt ns r ts j).y).sum:=by
  unfold kK twS
  rw[bt]
  rfl
 have h4:∀(l:List Nat) (f g:Nat->Int),(∀j∈l,f j= -g j)->(l.map f).sum= -(l.map g).sum:=fun l f g h=>by
  induction l with
  |nil=>rfl
  |cons a l ih=>
   rw[ah,ah,List.sum_cons,List.sum_cons,h a (aH ..),ih fun j hj=>h j (az _ hj)]
   lia
 rw[h3,h4 _ _ (fun j=>ja (twAt ns r ts j).a p (twAt ns r ts j).x+ja (twAt ns r ts j).b p (twAt ns r ts j).y) fun j hj=>?_]
 ·lia
 ·have hj:=bg.mp hj
  have hg:=getD_at hj
  have hm:=aE hg
  have he:=D.ends _ hm
  obtain⟨⟨a1,a2⟩,b1,b2⟩:=D.tie j _ hg
  have l1:=D.spB he.1
  have l2:=D.spB he.2
  have n1:sp (ts.getD j (0,0)).2+ns.length≠2+(i:Int):=by lia
  have n2:sp (ts.getD j (0,0)).1+ns.length≠2+(i:Int):=by lia
  rw[a1,a2,b1,b2,kE n1,kE n2,se (D.spI hp he.1),se (D.spI hp he.2)]
  unfold twAt
  dsimp only
  lia
theorem Dbl.right(D:Dbl ns ts sp hs){i:Nat}{p:Int}(hp:ns[i]? =some p):ex hs (ns.length+ns.length+2*ts.length) r (2+(ns.length:Int)+i)=inR (twS ns r ts) p-at' r (2*(ns.length+i)+1):=by
 have hi:=(ak.mp hp).1
 unfold ex
 rw[ql,ql,vS]
 have h1:((List.range ns.length).map fun k=>ja (at' hs (2*k)) (2+(ns.length:Int)+i) (at' r (2*k+1))-ja (at' hs (2*k+1)) (2+(ns.length:Int)+i) (at' r (2*k+1))).sum=0:=by
  rw [<- mP (List.range ns.length)]
  refine jV fun k hk=>?_
  have hk:=bg.mp hk
  rw[(D.src k hk).1,(D.src k hk).2,kE (by lia),kE (by lia)]
  rfl
 have h2:((List.range ns.length).map fun k=>ja (at' hs (2*(ns.length+k))) (2+(ns.length:Int)+i) (at' r (2*(ns.length+k)+1))-ja (at' hs (2*(ns.length+k)+1)) (2+(ns.length:Int)+i) (at' r (2*(ns.length+k)+1))).sum= -at' r (2*(ns.length+i)+1):=by
  rw[Bf _ hi fun k hk hne=>?_]
  ·rw[(D.snk i hi).1,(D.snk i hi).2,qh,kE (by lia)];lia
  ·rw[(D.snk k hk).1,(D.snk k hk).2,kE (by lia),kE (by lia)];rfl
 rw[h1,h2]
 have h3:inR (twS ns r ts) p=((List.range ts.length).map fun j=>ja (twAt ns r ts j).b p (twAt ns r ts j).x+ja (twAt ns r ts j).a p (twAt ns r ts j).y).sum:=by
  unfold inR twS
  rw[bt]
  rfl
 rw[h3,jV (g:=fun j=>ja (twAt ns r ts j).b p (twAt ns r ts j).x+ja (twAt ns r ts j).a p (twAt ns r ts j).y) fun j hj=>?_]
 ·lia
 ·have hj:=bg.mp hj
  have hg:=getD_at hj
  have hm:=aE hg
  have he:=D.ends _ hm
  obtain⟨⟨a1,a2⟩,b1,b2⟩:=D.tie j _ hg
  have l1:=D.spB he.1
  have l2:=D.spB he.2
  have i1:sp (ts.getD j (0,0)).1+ns.length=2+(ns.length:Int)+i↔(ts.getD j (0,0)).1=p:=⟨fun z=>(D.spI hp he.1).mp (by lia),fun z=>by have:=(D.spI hp he.1).mpr z;lia⟩
  have i2:sp (ts.getD j (0,0)).2+ns.length=2+(ns.length:Int)+i↔(ts.getD j (0,0)).2=p:=⟨fun z=>(D.spI hp he.2).mp (by lia),fun z=>by have:=(D.spI hp he.2).mpr z;lia⟩
  have n1:sp (ts.getD j (0,0)).1≠2+(ns.length:Int)+i:=by lia
  have n2:sp (ts.getD j (0,0)).2≠2+(ns.length:Int)+i:=by lia
  rw[a1,a2,b1,b2,se i1,se i2,kE n1,kE n2]
  unfold twAt
  dsimp only
  lia
end
end Fl
namespace Fl
section
variable{ns:List Int}{ts:List (Int×Int)}{sp:Int->Int}{hs r:List Int}{wf:Int->List Nat}{pr:Int->Int}{cap:Nat->Int}
noncomputable def kf(ns:List Int):Nat:=2+(ns.length+ns.length)
noncomputable def arcs(ns:List Int)(ts:List (Int×Int)):Nat:=ns.length+ns.length+2*ts.length
noncomputable def my(sp:Int->Int)(r:List Int)(p:Int):Int:=at' r (2*(sp p-2).toNat+1)
noncomputable def nM(ns:List Int)(sp:Int->Int)(r:List Int)(p:Int):Int:=at' r (2*(ns.length+(sp p-2).toNat)+1)
noncomputable def mx(wf:Int->List Nat)(hs:List Int)(n:Nat)(r:List Int)(v:Int):Bool:=decide (v∈(jC wf hs n 0 r).map (·.1))
structure Caps(ns:List Int)(ts:List (Int×Int))(pr:Int->Int)(cap:Nat->Int):Prop where
 src:∀(i:Nat) (p:Int),ns[i]? =some p->cap i=pr p
 snk:∀(i:Nat) (p:Int),ns[i]? =some p->cap (ns.length+i)=pr p
 tie:∀j,j<2*ts.length->∀p∈ns,pr p<cap (ns.length+ns.length+j)
theorem nk{α:Type}{f:α->Int}:∀{l:List α},(∀p∈l,0<=f p)->∀p∈l,f p<=(l.map f).sum
 |[],_,p,h=>by cases h
 | a::l,h0,p,h=>by
  rw[ah,List.sum_cons]
  have ha:=h0 a (aH ..)
  have hl:0<=(l.map f).sum:=by
   have:=qJ (f:=fun _=>0) (g:=f) (l:=l) fun q hq=>h0 q (az _ hq)
   rw[mP]at this
   exact this
  rcases aM.mp h with rfl|h
  ·lia
  ·have:=nk (fun q hq=>h0 q (az _ hq)) p h
   lia
theorem rK{n m v:Int}(h:0<=v):0<=ja n m v:=by unfold ja;split<;>lia
theorem Ip(D:Dbl ns ts sp hs)(N:Net wf hs (arcs ns ts) (kf ns))(C:Caps ns ts pr cap)(R:Rooms (arcs ns ts) cap r)(B:∀v,v≠0->v≠1->ex hs (arcs ns ts) r v=0)(hr:kX wf hs (kf ns) 0 1 r=none):
  Full ns pr (twS ns r ts) (my sp r) (nM ns sp r) (fun p=>mx wf hs (kf ns) r (sp p)) (fun p=>mx wf hs (kf ns) r (sp p+ns.length)):=by
 have hs0:(0:Int)<=0/\(0:Int)<(kf ns:Nat):=⟨bI _,by unfold kf;lia⟩
 have h0:(0:Int)∈(jC wf hs (kf ns) 0 r).map (·.1):=Cg N
 have h1:(1:Int)∉(jC wf hs (kf ns) 0 r).map (·.1):=wI N (by decide) hs0 hr
 have idx:∀p∈ns,∃i:Nat,ns[i]? =some p/\i<ns.length/\(sp p-2).toNat=i/\sp p=2+(i:Int):=fun p hp=>by
  obtain⟨k,hk,e⟩:=bA.mp hp
  have hk':ns[k]? =some p:=by rw[gE hk,e]
  have:=D.spot k p hk'
  exact⟨k,hk',hk,by lia,this⟩
 have tw:∀z∈twS ns r ts,∃j,j<ts.length/\z=twAt ns r ts j:=fun z hz=>by
  unfold twS at hz
  obtain⟨j,hj,e⟩:=aw.mp hz
  exact⟨j,bg.mp hj,e.symm⟩
 have ends:∀z∈twS ns r ts,z.a∈ns/\z.b∈ns:=fun z hz=>by
  obtain⟨j,hj,rfl⟩:=tw z hz
  exact D.ends _ (aE (getD_at hj))
 have pos:∀z∈twS ns r ts,0<=z.x/\0<=z.y:=fun z hz=>by
  obtain⟨j,hj,rfl⟩:=tw z hz
  exact⟨R.pos _,R.pos _⟩
 have left:∀p∈ns,my sp r p=kK (twS ns r ts) p:=fun p hp=>by
  obtain⟨i,hi,hl,e,es⟩:=idx p hp
  have:=D.left (r:=r) hi
  have hb:=B (2+(i:Int)) (by lia) (by lia)
  unfold arcs at hb
  rw[hb]at this
  unfold my
  rw[e]
  lia
 have right:∀p∈ns,nM ns sp r p=inR (twS ns r ts) p:=fun p hp=>by
  obtain⟨i,hi,hl,e,es⟩:=idx p hp
  have:=D.right (r:=r) hi
  have hb:=B (2+(ns.length:Int)+i) (by lia) (by lia)
  unfold arcs at hb
  rw[hb]at this
  unfold nM
  rw[e]
  lia
 have capL:∀p∈ns,0<=my sp r p/\my sp r p<=pr p:=fun p hp=>by
  obtain⟨i,hi,hl,e,es⟩:=idx p hp
  have h2:=R.two i (by unfold arcs;lia)
  rw[C.src i p hi]at h2
  have h3:=R.pos (2*i)
  have h4:=R.pos (2*i+1)
  unfold my
  rw[e]
  lia
 have capR:∀p∈ns,0<=nM ns sp r p/\nM ns sp r p<=pr p:=fun p hp=>by
  obtain⟨i,hi,hl,e,es⟩:=idx p hp
  have h2:=R.two (ns.length+i) (by unfold arcs;lia)
  rw[C.snk i p hi]at h2
  have h3:=R.pos (2*(ns.length+i))
  have h4:=R.pos (2*(ns.length+i)+1)
  unfold nM
  rw[e]
  lia
 have xle:∀z∈twS ns r ts,z.x<=pr z.a/\z.y<=pr z.b:=fun z hz=>by
  obtain⟨e1,e2⟩:=ends z hz
  have nn:∀p,∀z∈twS ns r ts,0<=ja z.a p z.x+ja z.b p z.y:=fun p z hz=>by
   have:=rK (n:=z.a) (m:=p) (pos z hz).1
   have:=rK (n:=z.b) (m:=p) (pos z hz).2
   lia
  have a1:=nk (nn z.a) z hz
  have a2:=nk (nn z.b) z hz
  have b1:kK (twS ns r ts) z.a <= pr z.a:=by rw [<- left z.a e1]; exact (capL z.a e1).2
  have b2:kK (twS ns r ts) z.b <= pr z.b:=by rw [<- left z.b e2]; exact (capL z.b e2).2
  unfold kK at b1 b2
  rw[qh]at a1 a2
  have:=rK (n:=z.b) (m:=z.a) (pos z hz).2
  have:=rK (n:=z.a) (m:=z.b) (pos z hz).1
  lia
 refine⟨D.nd,ends,pos,left,right,capL,capR,fun p hp hS=>?_,fun p hp hS=>?_,fun z hz=>?_,fun z hz=>?_⟩
 ·obtain⟨i,hi,hl,e,es⟩:=idx p hp
  have:=(oZ N hs0 R (k:=i) (by unfold arcs;lia)).1
  rw[(D.src i hl).1,(D.src i hl).2,C.src i p hi]at this
  unfold mx at hS
  rw[dy,es]at hS
  unfold my
  rw[e]
  exact this h0 hS
 ·obtain⟨i,hi,hl,e,es⟩:=idx p hp
  have:=(oZ N hs0 R (k:=ns.length+i) (by unfold arcs;lia)).1
  rw[(D.snk i hl).1,(D.snk i hl).2,C.snk i p hi]at this
  unfold mx at hS
  rw[cI,es]at hS
  unfold nM
  rw[e]
  exact this (by rw[show(2:Int)+ns.length+i=2+i+ns.length by lia];exact hS) h1
 ·obtain⟨x1,x2⟩:=xle z hz
  obtain⟨e1,e2⟩:=ends z hz
  obtain⟨j,hj,rfl⟩:=tw z hz
  obtain⟨⟨a1,a2⟩,b1,b2⟩:=D.tie j _ (getD_at hj)
  have r1:=(oZ N hs0 R (k:=ns.length+ns.length+2*j) (by unfold arcs;lia)).1
  have r2:=(oZ N hs0 R (k:=ns.length+ns.length+(2*j+1)) (by unfold arcs;lia)).1
  rw[a1,a2]at r1
  rw[b1,b2]at r2
  have c1:=C.tie (2*j) (by lia) _ e1
  have c2:=C.tie (2*j+1) (by lia) _ e2
  unfold mx
  simp only[cI]
  unfold twAt at x1 x2 c1 c2 ⊢
  dsimp only at x1 x2 c1 c2 ⊢
  refine⟨fun h=>da fun hn=>?_,fun h=>da fun hn=>?_⟩
  ·have:=r1 h hn;lia
  ·have:=r2 h hn;lia
 ·obtain⟨j,hj,rfl⟩:=tw z hz
  obtain⟨⟨a1,a2⟩,b1,b2⟩:=D.tie j _ (getD_at hj)
  have r1:=(oZ N hs0 R (k:=ns.length+ns.length+2*j) (by unfold arcs;lia)).2
  have r2:=(oZ N hs0 R (k:=ns.length+ns.length+(2*j+1)) (by unfold arcs;lia)).2
  rw[a1,a2]at r1
  rw[b1,b2]at r2
  unfold mx
  simp only[cI,dy]
  unfold twAt
  exact⟨r1,r2⟩
end
end Fl
namespace Fl
abbrev jU:=Int×Int×Int
noncomputable def jl:List jU->List Int
 |[]=>[]
 |a::r=>a.2.1::a.1::jl r
noncomputable def jT:List jU->List Int
 |[]=>[]
 |a::r=>a.2.2::0::jT r
noncomputable def lW(as:List jU)(k:Nat):Int:=(as.getD k (0,0,0)).2.2
theorem sN:∀as:List jU,(jl as).length=2*as.length
 |[]=>rfl
 |a::r=>by rw[jl,List.length_cons,List.length_cons,sN r,List.length_cons];lia
theorem qK:∀as:List jU,(jT as).length=2*as.length
 |[]=>rfl
 |a::r=>by rw[jT,List.length_cons,List.length_cons,qK r,List.length_cons];lia
theorem rZ(x y:Int)(l:List Int)(i:Nat):at' (x::y::l) (i+2)=at' l i:=rfl
theorem oj:∀(as:List jU) (i:Nat),at' (jl as) (2*i)=(as.getD i (0,0,0)).2.1
 |[],i=>by simp[jl,at']
 |a::r,0=>rfl
 |a::r,i+1=>by rw[show 2*(i+1)=2*i+2 by lia,jl,rZ,oj r i];rfl
theorem oa:∀(as:List jU) (i:Nat),at' (jl as) (2*i+1)=(as.getD i (0,0,0)).1
 |[],i=>by simp[jl,at']
 |a::r,0=>rfl
 |a::r,i+1=>by rw[show 2*(i+1)+1=(2*i+1)+2 by lia,jl,rZ,oa r i];rfl
theorem vj:∀(as:List jU) (i:Nat),at' (jT as) (2*i)=lW as i
 |[],i=>by simp[jT,at',lW]
 |a::r,0=>rfl
 |a::r,i+1=>by rw[show 2*(i+1)=2*i+2 by lia,jT,rZ,vj r i];rfl
theorem rR:∀(as:List jU) (i:Nat),at' (jT as) (2*i+1)=0
 |[],i=>by simp[jT,at']
 |a::r,0=>rfl
 |a::r,i+1=>by rw[show 2*(i+1)+1=(2*i+1)+2 by lia,jT,rZ,rR r i]
noncomputable def jS(as:List jU)(u:Int):List Nat:=(List.range (2*as.length)).filter fun w=>decide (at' (jl as) (iW w)=u)
theorem ER(k:Nat):iW (2*k)=2*k+1:=by unfold iW;rw[aA (by lia)]
theorem FT(k:Nat):iW (2*k+1)=2*k:=by unfold iW;rw[ay (by lia)];lia
theorem nE{α:Type}{l:List α}{i:Nat}{a d:α}(h:l[i]? =some a):l.getD i d=a:=by
 rw[aJ,h];rfl
theorem va{α:Type}{l:List α}{i:Nat}(d:α)(h:i<l.length):l.getD i d∈l:=by
 rw[aJ,gE h]
 exact bO h
theorem xv{as:List jU}{n:Nat}(h:∀a∈as,(0<=a.1/\a.1<(n:Int))/\0<=a.2.1/\a.2.1<(n:Int)):Net (jS as) (jl as) as.length n:=by
 refine⟨sN as,fun u w hw=>?_,fun w hw=>?_,fun w hw=>?_⟩
 ·have hw:=de.mp hw
  exact⟨bg.mp hw.1,cG hw.2⟩
 ·by_cases c:w%2=0
  ·have e:w=2*(w/2):=by lia
   have hk:w/2<as.length:=by lia
   rw[e,oj]
   exact(h _ (va _ hk)).2
  ·have e:w=2*(w/2)+1:=by lia
   have hk:w/2<as.length:=by lia
   rw[e,oa]
   exact(h _ (va _ hk)).1
 ·exact de.mpr ⟨bg.mpr hw,aK rfl⟩
theorem Cq{as:List jU}(h:∀a∈as,0<=a.2.2):Rooms as.length (lW as) (jT as):=by
 refine⟨qK as,fun j=>?_,fun k hk=>?_⟩
 ·by_cases c:j%2=0
  ·rw[show j=2*(j/2) by lia,vj]
   unfold lW
   by_cases hk:j/2<as.length
   ·exact h _ (va _ hk)
   ·rw[aJ,bD (by lia)]
    exact bI _
  ·rw[show j=2*(j/2)+1 by lia,rR]
   exact bI _
 ·rw[vj,rR];lia
theorem IC(as:List jU)(hs:List Int)(m:Nat)(v:Int):ex hs m (jT as) v=0:=by
 unfold ex
 rw [<- mP (List.range m)]
 refine jV fun k _=>?_
 rw[rR]
 unfold ja
 split<;>split<;>rfl
theorem vW:∀(as:List jU) (a:jU),jl (as++[a])=jl as++[a.2.1,a.1]
 |[],a=>rfl
 |b::r,a=>by rw[List.cons_append,jl,vW r a,jl];rfl
theorem xk:∀(as:List jU) (a:jU),jT (as++[a])=jT as++[a.2.2,0]
 |[],a=>rfl
 |b::r,a=>by rw[List.cons_append,jT,xk r a,jT];rfl
theorem IM{l l':List Int}{i:Nat}(h:i<l.length):at' (l++l') i=at' l i:=by
 unfold at'
 rw[aJ,aJ,bq h]
theorem BJ(as:List jU)(a:jU)(u:Int):jS (as++[a]) u=(jS as u++(if a.1=u then[2*as.length]else[]))++(if a.2.1=u then[2*as.length+1]else[]):=by
 unfold jS
 rw[av,List.length_singleton,show 2*(as.length+1)=2*as.length+1+1 by lia,bL,dG,bL,dG]
 have e1:at' (jl (as++[a])) (iW (2*as.length))=a.1:=by
  rw[ER,oa,aJ,cn (ao _),gR];rfl
 have e2:at' (jl (as++[a])) (iW (2*as.length+1))=a.2.1:=by
  rw[FT,oj,aJ,cn (ao _),gR];rfl
 congr 1
 ·congr 1
  ·refine List.filter_congr fun w hw=>?_
   rw[vW,IM]
   rw[sN]
   exact qQ (bg.mp hw)
  ·rw[bV,e1]
   by_cases c:a.1=u
   ·rw[aA c,aA (aK c)];rfl
   ·rw[ay c,ay (by simp[c])];rfl
 ·rw[bV,e2]
  by_cases c:a.2.1=u
  ·rw[aA c,aA (aK c)];rfl
  ·rw[ay c,ay (by simp[c])];rfl
noncomputable def lK(sp:Int->Int)(n pl:Int):List (Int×Int)->List jU
 |[]=>[]
 |t::r=>(sp t.1,sp t.2+n,pl)::(sp t.2,sp t.1+n,pl)::lK sp n pl r
noncomputable def lX(sp:Int->Int)(pl:Int)(ps ts:List (Int×Int)):List jU:=((ps.map fun p=>((0:Int),sp p.1,p.2))++ps.map fun p=>(sp p.1+ps.length,(1:Int),p.2))++lK sp ps.length pl ts
theorem A6(sp:Int->Int)(n pl:Int):∀ts,(lK sp n pl ts).length=2*ts.length
 |[]=>rfl
 |t::r=>by rw[lK,List.length_cons,List.length_cons,A6 sp n pl r,List.length_cons];lia
theorem vM(sp:Int->Int)(n pl:Int):∀(ts:List (Int×Int)) (j:Nat) (t:Int×Int),ts[j]? =some t->(lK sp n pl ts)[2*j]? =some (sp t.1,sp t.2+n,pl)/\(lK sp n pl ts)[2*j+1]? =some (sp t.2,sp t.1+n,pl)
 |[],j,t,h=>by simp at h
 |u::r,0,t,h=>by cases h;exact⟨rfl,rfl⟩
 |u::r,j+1,t,h=>by
  obtain⟨a,b⟩:=vM sp n pl r j t (by simpa using h)
  rw[lK,show 2*(j+1)=2*j+1+1 by lia,show 2*j+1+1+1=(2*j+1)+1+1 by lia]
  exact⟨by rw[List.getElem?_cons_succ,List.getElem?_cons_succ];exact a,by rw[List.getElem?_cons_succ,List.getElem?_cons_succ];exact b⟩
theorem IR(sp:Int->Int)(pl:Int)(ps ts:List (Int×Int)):(lX sp pl ps ts).length=ps.length+ps.length+2*ts.length:=by
 unfold lX
 rw[av,av,ae,ae,A6]
section
variable{sp:Int->Int}{pl:Int}{ps ts:List (Int×Int)}
theorem Ag{i:Nat}{p:Int×Int}(h:ps[i]? =some p):(lX sp pl ps ts)[i]? =some (0,sp p.1,p.2):=by
 have hi:=(ak.mp h).1
 unfold lX
 rw[bq (by rw[av,ae,ae];lia),bq (by rw[ae];exact hi),aC,h]
 rfl
theorem Af{i:Nat}{p:Int×Int}(h:ps[i]? =some p):(lX sp pl ps ts)[ps.length+i]? =some (sp p.1+ps.length,1,p.2):=by
 have hi:=(ak.mp h).1
 unfold lX
 rw[bq (by rw[av,ae,ae];lia),cn (by rw[ae];lia),ae,fJ,aC,h]
 rfl
theorem sg{j:Nat}(k:Nat):(lX sp pl ps ts)[ps.length+ps.length+k]? =(lK sp ps.length pl ts)[k]?:=by
 unfold lX
 rw[cn (by rw[av,ae,ae];lia)]
 congr 1
 rw[av,ae,ae]
 lia
theorem Bx(nd:(ps.map (·.1)).Nodup)(hsp:∀(i:Nat) (p:Int),(ps.map (·.1))[i]? =some p->sp p=2+(i:Int))(hen:∀t∈ts,t.1∈ps.map (·.1)/\t.2∈ps.map (·.1)):Dbl (ps.map (·.1)) ts sp (jl (lX sp pl ps ts)):=by
 have get:∀i,i<ps.length->∃p,ps[i]? =some p/\sp p.1=2+(i:Int):=fun i hi=>by
  refine⟨ps[i],gE hi,hsp i _ ?_⟩
  rw[aC,gE hi];rfl
 refine⟨nd,hsp,hen,fun i hi=>?_,fun i hi=>?_,fun j t hj=>?_⟩
 ·rw[ae]at hi
  obtain⟨p,hp,e⟩:=get i hi
  rw[oj,oa,nE (Ag hp)]
  exact⟨e,rfl⟩
 ·rw[ae]at hi
  obtain⟨p,hp,e⟩:=get i hi
  rw[ae,oj,oa,nE (Af hp)]
  exact⟨rfl,by dsimp only;rw[e];lia⟩
 ·obtain⟨a,b⟩:=vM sp ps.length pl ts j t hj
  rw[ae,oj,oa,oj,oa,nE ((sg (j:=0) (2*j)).trans a),nE ((sg (j:=0) (2*j+1)).trans b)]
  exact⟨⟨rfl,rfl⟩,rfl,rfl⟩
theorem Bz{pr:Int->Int}(hpr:∀p∈ps,pr p.1=p.2)(hpl:∀p∈ps,p.2<pl):Caps (ps.map (·.1)) ts pr (lW (lX sp pl ps ts)):=by
 have get:∀(i:Nat) (p:Int),(ps.map (·.1))[i]? =some p->∃q,ps[i]? =some q/\q.1=p:=fun i p h=>by
  rw[aC]at h
  cases e:ps[i]? with
  |none=>rw[e]at h;cases h
  |some q=>rw[e]at h;exact⟨q,rfl,aI h⟩
 refine⟨fun i p h=>?_,fun i p h=>?_,fun j hj p hp=>?_⟩
 ·obtain⟨q,hq,rfl⟩:=get i p h
  unfold lW
  rw[nE (Ag hq),hpr q (aE hq)]
 ·obtain⟨q,hq,rfl⟩:=get i p h
  unfold lW
  rw[ae,nE (Af hq),hpr q (aE hq)]
 ·obtain⟨q,hq,rfl⟩:=aw.mp hp
  have hk:j/2<ts.length:=by lia
  have hg:ts[j/2]? =some ts[j/2]:=gE hk
  obtain⟨a,b⟩:=vM sp ps.length pl ts (j/2) _ hg
  unfold lW
  rw[ae,hpr q hq]
  by_cases c:j%2=0
  ·rw[show j=2*(j/2) by lia,nE ((sg (j:=0) _).trans a)]
   exact hpl q hq
  ·rw[show j=2*(j/2)+1 by lia,nE ((sg (j:=0) _).trans b)]
   exact hpl q hq
theorem IQ(hsp:∀p∈ps.map (·.1),2<=sp p/\sp p<2+(ps.length:Int))(hen:∀t∈ts,t.1∈ps.map (·.1)/\t.2∈ps.map (·.1))(hpp:∀p∈ps,0<=p.2)(hpl:0<=pl):∀a∈lX sp pl ps ts,((0<=a.1/\a.1<((2+(ps.length+ps.length):Nat):Int))/\0<=a.2.1/\a.2.1<((2+(ps.length+ps.length):Nat):Int))/\0<=a.2.2:=fun a ha=>by
 unfold lX at ha
 have tie:∀{us:List (Int×Int)},(∀t∈us,t.1∈ps.map (·.1)/\t.2∈ps.map (·.1))->a∈lK sp ps.length pl us->((0<=a.1/\a.1<((2+(ps.length+ps.length):Nat):Int))/\0<=a.2.1/\a.2.1<((2+(ps.length+ps.length):Nat):Int))/\0<=a.2.2:=fun{us}=>by
  induction us with
  |nil=>intro _ h;cases h
  | cons u r ih=>
   intro he h
   have h1:=hsp _ (he u (.head _)).1
   have h2:=hsp _ (he u (.head _)).2
   rcases aM.mp h with rfl|h
   ·dsimp only;lia
   ·rcases aM.mp h with rfl|h
    ·dsimp only;lia
    ·exact ih (fun t ht=>he t (.tail _ ht)) h
 rcases aW.mp ha with ha|ha
 ·rcases aW.mp ha with ha|ha
  ·obtain⟨p,hp,rfl⟩:=aw.mp ha
   have:=hsp p.1 (cM hp)
   have:=hpp p hp
   dsimp only
   lia
  ·obtain⟨p,hp,rfl⟩:=aw.mp ha
   have:=hsp p.1 (cM hp)
   have:=hpp p hp
   dsimp only
   lia
 ·exact tie hen ha
end
end Fl
namespace L2
open PySem PySem.Spec PyProof.Rows
section
variable{prog:Program}{w:World}{A:Around}{R:Result->Shared->Prop}{I:Addr}{fp wr:List Addr}{n:Nat}{P:Nat->Value->Prop}{St:Nat->Heap->Prop}
def jk8(val:Nat->Int)(n:Nat)(m:Int):Prop:=(∃i,i<n/\m=val i)/\∀i,i<n->m<=val i
theorem jk8.up{val:Nat->Int}{j:Nat}{m:Int}(h:jk8 val j m)(hb:val j<m):jk8 val (j+1) (val j):=
 ⟨⟨j,hG _,rfl⟩,fun i hi=>by
  rcases fE.mp hi with z|z
  ·have:=h.2 i z;lia
  ·rw[z];exact bI _⟩
theorem jk8.keep{val:Nat->Int}{j:Nat}{m:Int}(h:jk8 val j m)(hb:¬val j<m):jk8 val (j+1) m:=
 ⟨let⟨i,hi,e⟩:=h.1;⟨i,dZ hi,e⟩,fun i hi=>by
  rcases fE.mp hi with z|z
  ·exact h.2 i z
  ·rw[z];lia⟩
theorem r9:(toString "min"++toString ".loop":String)="min.loop":=by decide
theorem GV(W:Walks prog w A.in1 I fp wr n P St)(val:Nat->Int)(hval:∀i v,P i v->∃t:Tok,v=Value.int (val i) t)(kw:List (Str×Value))(S:Addr)(hSf:S∉fp):
  ∀(k j:Nat) (s:Shared) (m:Int) (t:Tok) (c:Nat),n-j=k->j<=n->St j s.heap->jk8 val j m->
  s.heap.get? S=some {cls:=.type "list",dict:=none,data:=.seq #[.int m t,.int m t] c,slots:=#[]}->
  (∀m' t' h' tk,jk8 val n m'->(∀b o,b∉wr->b≠S->s.heap.get? b=some o->h'.get? b=some o)->R (.ok (.ret (.int m' t'))) {s with heap:=h',toks:=tk})->
  codeAny (model prog w) A (.builtin "min.loop" ⟨[.ref I,.none,.ref S],kw⟩) R s:=by
 have hSw:S∉wr:=fun z=>hSf (W.sub _ z)
 intro k
 induction k with
 |zero=>
  intro j s m t c hk hj hst hb hS hR
  have hin:j=n:=by lia
  subst hin
  refine dP fO ?_
  rw[cQ cJ _]
  show wpAny _ A.in1 (seqItems? (.ref S)>>=_) _ _ s
  refine af (cg hS rfl ?_)
  show wpAny _ A.in1 (tryCatch (pyNext (.ref I)) _>>=_) _ _ s
  refine af (eJ (W.done s _ _ hst fun h' tk kp=>?_))
  have hS':=kp S _ hSw hS
  show wpAny _ A.in1 (updateSeq S (fun _=>#[])>>=_) _ _ _
  refine af ?_
  refine ie hS' rfl (af (eY (aB ?_)))
  exact hR m t _ tk hb fun b o hbw hbS e=>(cu _ _ (di hbS)).trans (kp b o hbw e)
 | succ k ih=>
  intro j s m t c hk hj hst hb hS hR
  have hlt:j<n:=by lia
  refine dP fO ?_
  rw[cQ cJ _]
  show wpAny _ A.in1 (seqItems? (.ref S)>>=_) _ _ s
  refine af (cg hS rfl ?_)
  show wpAny _ A.in1 (tryCatch (pyNext (.ref I)) _>>=_) _ _ s
  refine af (eJ (W.item j s _ _ hlt hst fun v h' tk hP hst' kp=>?_))
  obtain⟨t',rfl⟩:=hval j v hP
  have hS':=kp S _ hSw hS
  show wpAny _ A.in1 (tryCatch (holding [.int (val j) t',.int (val j) t'] (richCompare .Lt (.int (val j) t') (.int m t)>>=_)) _>>=_) _ _ _
  refine af (eJ (cq (af (lt_int ?_))))
  refine af (cq (cc ?_))
  refine af (eY (aB ?_))
  by_cases hc:val j<m
  ·rw[aK (show val j<m from hc)]
   simp only[if_true]
   refine af ?_
   refine ie hS' rfl (af (eY ?_))
   rw[r9]
   refine aB ⟨dQ cJ _,ih (j+1) _ (val j) t' _ (by lia) hlt (W.frame _ _ _ hst' fun b hbf o e=>?_) (hb.up hc) (dX _ hS' rfl) fun m' u h'' tk'' hB k''=>?_⟩
   ·exact(cu _ _ (fun z:S=b=>hSf (by rw[z];exact hbf))).trans e
   ·exact hR m' u h'' tk'' hB fun b o hbw hbS e=>k'' b o hbw hbS ((cu _ _ (di hbS)).trans (kp b o hbw e))
  ·rw[aP (show ¬val j<m from hc)]
   simp only[ba,if_false]
   refine af (eY ?_)
   rw[r9]
   refine aB ⟨dQ cJ _,ih (j+1) _ m t c (by lia) hlt hst' (hb.keep hc) hS' fun m' u h'' tk'' hB k''=>?_⟩
   exact hR m' u h'' tk'' hB fun b o hbw hbS e=>k'' b o hbw hbS (kp b o hbw e)
end
section
variable{X:Cx}
end
section
variable{X:Cx}
theorem GR(a:Value):argsOk "min" ⟨[a],[]⟩:=by unfold argsOk;kernel_rfl
def CD:List V->Hp->VK->Prop:=fun vs H Q=>∃(p:Addr) (ns:List Int),vs=[.ref p]/\H p=some (.lst (ns.map V.int))/\ns≠[]/\
 ∀m,m∈ns->(∀x∈ns,m<=x)->Q (.int m) H
theorem Fz(hc:X.calm=true):jbw X (.builtin "min") CD:=by
 intro pins s σ H xs us Q I r h
 obtain⟨p,ns,rfl,e,hne,q⟩:=h
 obtain⟨u,rfl,rx⟩:=mK r
 cases rx
 obtain⟨z,its,c,r',hlen,e'⟩:=I.lstM e
 have hI:=oq r'
 have plt:p<s.heap.objs.size:=aL e'
 have hL:s.heap.IsList p its.toArray:=⟨_,e',rfl,_,rfl⟩
 refine call_function_tree PySem.F.kind_min PySem.F.plain_min PySem.F.entry_min (GR _) ?_
 show wpAny _ X.A.in1 (Builtin.Builtins.bindParams "min" ["key","default"] 0 ⟨[],[]⟩>>=_) _ _ s
 refine af (gq (show Builtin.Builtins.bindParams "min" ["key","default"] 0 ⟨[],[]⟩=pure [none,none]from rfl) ?_)
 refine af (aB ?_)
 refine af (eK hL ?_)
 refine af (gB ?_ (bp _))
 rw[r9]
 have hS:(s.heap.push {cls:=.type "list_iterator",data:=.fields #[.ref p,.int 0 0]}).objs.size=s.heap.objs.size+1:=size_push' ..
 have W:=Walks.list (prog:=X.prog) (w:=X.w) (A:=X.A.in1) (show X.A.in1.handled=none from I.ok.hd hc) s.heap.objs.size p (aX plt) its.toArray
 have hsz:its.toArray.size = ns.length:=by rw [au,<- hlen,ae]
 have hval:∀(i:Nat) (v:Value),its.toArray[i]? =some v->∃t:Tok,v=Value.int (ns[i]?.getD 0) t:=fun i v hv=>by
  have hv':its[i]? =some v:=by simpa using hv
  have hi:i<ns.length:=by
   have:=(ak.mp hv').1
   rw[ae]at hlen
   lia
  obtain⟨u,e1,t,e2⟩:=r'.get (i:=i) (x:=.int ns[i]) (by rw[aC,gE hi];rfl)
  rw[hv']at e1
  cases e1
  exact⟨t,by rw[e2,gE hi];rfl⟩
 have kp0:∀(h':Heap) (tk:Nat),(∀b o,b∉[s.heap.objs.size]->b≠(s.heap.push {cls:=.type "list_iterator",data:=.fields #[.ref p,.int 0 0]}).objs.size->((s.heap.push {cls:=.type "list_iterator",data:=.fields #[.ref p,.int 0 0]}).push {cls:=.type "list",data:=.seq #[]}).get? b=some o->h'.get? b=some o)->
   Inv X pins σ H {s with heap:=h',toks:=tk}:=fun h' tk k=>I.kept fun b o qq=>k b o (by
    intro z
    have:b=s.heap.objs.size:=by simpa using z
    exact absurd (aL qq) (by rw[this];exact cV _)) (by rw[hS];exact aX (dZ (aL qq))) (ag _ (ag _ qq))
 have hst0:(fun i (h:Heap)=>h.IsListIter s.heap.objs.size p i/\h.IsList p its.toArray) 0 ((s.heap.push {cls:=.type "list_iterator",data:=.fields #[.ref p,.int 0 0]}).push {cls:=.type "list",data:=.seq #[]}):=
  ⟨⟨_,ag _ (aR _ rfl),rfl,rfl⟩,(hL.push _).push _⟩
 have hSg:((s.heap.push {cls:=.type "list_iterator",data:=.fields #[.ref p,.int 0 0]}).push {cls:=.type "list",data:=.seq #[]}).get? (s.heap.push {cls:=.type "list_iterator",data:=.fields #[.ref p,.int 0 0]}).objs.size=some {cls:=.type "list",dict:=none,data:=.seq #[] 0,slots:=#[]}:=aR _ rfl
 have hSf:(s.heap.push {cls:=.type "list_iterator",data:=.fields #[.ref p,.int 0 0]}).objs.size∉[s.heap.objs.size,p]:=by
  rw[hS]
  intro z
  rcases aM.mp z with z|z
  ·exact absurd z (Nat.succ_ne_self _)
  ·have z:=aZ.mp z
   rw [<- z] at plt
   exact cV _ (aF plt)
 refine aB ⟨dQ cJ _,?_⟩
 refine dP fO ?_
 rw[cQ cJ _]
 show wpAny _ X.A.in1 (seqItems? (.ref _)>>=_) _ _ _
 refine af (cg hSg rfl ?_)
 show wpAny _ X.A.in1 (tryCatch (pyNext (.ref s.heap.objs.size)) _>>=_) _ _ _
 cases hn:ns with
 |nil=>exact absurd hn hne
 | cons n0 rest=>
  have hpos:0<its.toArray.size:=by rw[hsz,hn];simp
  refine af (eJ (W.item 0 _ _ _ hpos hst0 fun v h' tk hP hst' kp=>?_))
  obtain⟨t',rfl⟩:=hval 0 v hP
  have hS':=kp _ _ (fun z=>hSf (aM.mpr (.inl (aZ.mp z)))) hSg
  show wpAny _ X.A.in1 (updateSeq _ (fun _=>#[_,_])>>=_) _ _ _
  refine af ?_
  refine ie hS' rfl ?_
  rw[r9]
  refine aB ⟨dQ cJ _,GV W (fun i=>ns[i]?.getD 0) hval _ _ hSf _ 1 _ _ t' _ rfl hpos (W.frame _ _ _ hst' fun b hbf o e=>?_) ⟨⟨0,Nat.one_pos,rfl⟩,fun i hi=>by
   have:i=0:=by lia
   subst this;exact bI _⟩ (dX _ hS' rfl) fun m u h'' tk'' hB k''=>?_⟩
  ·exact(cu _ _ (fun z=>hSf (by rw[z];exact hbf))).trans e
  ·refine⟨.int m,H,kp0 h'' tk'' fun b o h1 h2 h3=>k'' b o h1 h2 ((cu _ _ (di h2)).trans (kp b o h1 h3)),⟨u,rfl⟩,q m ?_ fun x hx=>?_⟩
   ·obtain⟨i,hi,e1⟩:=hB.1
    rw[hsz]at hi
    rw[e1]
    show ns[i]?.getD 0∈ns
    rw[gE hi]
    exact bO hi
   ·obtain⟨i,hi,e1⟩:=bA.mp hx
    have:m<=ns[i]?.getD 0:=hB.2 i (by rw[hsz];exact hi)
    rw[gE hi]at this
    rw [<- e1]
    exact this
end
end L2
namespace My
open PySem L2
section
variable{P:Program}{w:World}{K:PySem.W.Frag}{mg:Str->Option Value}{base:Heap}{c1 c2 c3 c4:Tok}{C_Net C_NoWeb fqi:Addr}{dI:FuncData}
noncomputable def DJ:Stmt->List Stmt
 | .ClassDef _ _ _ b _ _ _ _ _ _ _=>b
 |_=>[]
noncomputable def jB(i j:Nat):Stmt:=(DJ (iM i)).getD j (.Pass ⟨0,0,0,0⟩)
structure MthAt(K:PySem.W.Frag)(C:Addr)(x qual:Str)(st:Stmt)(ps:List Str)(f:Addr)(fd:FuncData):Prop where
 F:Fun K x qual st f fd
 b:jf0 K fd ps []
 m:Meth K C x f
structure NetC(K:PySem.W.Frag)(mg:Str->Option Value)(C:Addr):Prop where
 cl:Cls K C
 n_ways_from:jea K C "ways_from"
 n_heads:jea K C "heads"
 n_rooms:jea K C "rooms"
 m:mg "Net"=some (.ref C)
noncomputable def j0(C dx W Hd R:Addr):HO:=.ins C dx [("ways_from",.ref W),("heads",.ref Hd),("rooms",.ref R)]
section
variable{C dx W Hd R:Addr}
theorem Bm:mU C (some (j0 C dx W Hd R)) "ways_from"=some (.ref W):=by unfold mU j0;dsimp only;rw[if_pos rfl];rfl
theorem qV:mU C (some (j0 C dx W Hd R)) "heads"=some (.ref Hd):=by unfold mU j0;dsimp only;rw[if_pos rfl];rfl
theorem oJ:mU C (some (j0 C dx W Hd R)) "rooms"=some (.ref R):=by unfold mU j0;dsimp only;rw[if_pos rfl];rfl
theorem nV{m:Str}(h:(m==("ways_from":Str))=false)(h2:(m==("heads":Str))=false)(h3:(m==("rooms":Str))=false):lZ C (some (j0 C dx W Hd R)) m=true:=by
 unfold lZ j0
 simp only[df,Bool.true_and,List.lookup_cons,h,h2,h3,List.lookup_nil,Option.isNone_none]
theorem A3:lZ C (some (j0 C dx W Hd R)) "put_way"=true:=nV rfl rfl rfl
theorem AN:lZ C (some (j0 C dx W Hd R)) "spread"=true:=nV rfl rfl rfl
theorem A8:lZ C (some (j0 C dx W Hd R)) "shortest"=true:=nV rfl rfl rfl
theorem EV:lZ C (some (j0 C dx W Hd R)) "push"=true:=nV rfl rfl rfl
theorem EU:lZ C (some (j0 C dx W Hd R)) "fill"=true:=nV rfl rfl rfl
theorem FV:lZ C (some (j0 C dx W Hd R)) "flows"=true:=nV rfl rfl rfl
theorem GY:lZ C (some (j0 C dx W Hd R)) "reached_from"=true:=nV rfl rfl rfl
end
noncomputable def nv(ws:List Nat):List V:=ws.map fun w:Nat=>V.int (w:Int)
def NtS(C:Addr)(H:Hp)(p R:Addr)(wf:Int->List Nat)(hs:List Int)(n:Nat):Prop:=∃(dx W Hd:Addr) (ls:List Addr),H p=some (j0 C dx W Hd R)/\H W=some (.lst (ls.map V.ref))/\ls.length=n/\(∀(i:Nat) (a:Addr),ls[i]? =some a->H a=some (.lst (nv (wf (i:Int))))/\a≠R)/\H Hd=some (.lst (hs.map V.int))/\W≠R/\Hd≠R/\p≠R
theorem NtS.but{C:Addr}{H H':Hp}{p R:Addr}{wf:Int->List Nat}{hs:List Int}{n:Nat}(h:NtS C H p R wf hs n)(s:But R H H'):NtS C H' p R wf hs n:=by
 obtain⟨dx,W,Hd,ls,e1,e2,e3,e4,e5,n1,n2,n3⟩:=h
 exact⟨dx,W,Hd,ls,s _ _ n3 e1,s _ _ n1 e2,e3,fun i a ha=>⟨s _ _ (e4 i a ha).2 (e4 i a ha).1,(e4 i a ha).2⟩,s _ _ n2 e5,n1,n2,n3⟩
theorem NtS.same{C:Addr}{H H':Hp}{p R:Addr}{wf:Int->List Nat}{hs:List Int}{n:Nat}(h:NtS C H p R wf hs n)(s:Same H H'):NtS C H' p R wf hs n:=h.but fun b o _ q=>s b o q
theorem oO{l:List Int}{w:Nat}(h:w<l.length):jr (l.map V.int) (w:Int)=some (.int (Fl.at' l w)):=by
 refine mm ?_
 rw[aC,gE h]
 unfold Fl.at'
 rw[aJ,gE h]
 rfl
theorem xC{l:List Addr}{i:Nat}{a:Addr}(h:l[i]? =some a):jr (l.map V.ref) (i:Int)=some (.ref a):=by
 refine mm ?_
 rw[aC,h]
 rfl
noncomputable def oV:Option Nat->V
 |none=>.non
 |some w=>.int (w:Int)
noncomputable def kP(cb:Fl.Cb):List (iJ×V):=cb.map fun p=>(Sum.inl p.1,oV p.2)
theorem u5:∀(cb:Fl.Cb) (v:Int),(i8 (kP cb) (Sum.inl v:iJ)).isSome=Fl.seen cb v
 |[],v=>rfl
 | p::r,v=>by
  have ih:=u5 r v
  unfold kP i8 Fl.seen at ih ⊢
  rw[ah,List.find?_cons]
  by_cases c:p.1=v
  ·dsimp only
   rw[aK (show(Sum.inl p.1:iJ)=Sum.inl v from cx Sum.inl c)]
   dsimp only
   rw[aK (by rw[ah,c];exact aH)]
   rfl
  ·dsimp only
   rw[aP (fun z:(Sum.inl p.1:iJ)=Sum.inl v=>c (cw z))]
   dsimp only
   rw[ih,ah]
   congr 1
   simp only[aM,eq_iff_iff]
   exact⟨fun z=>.inr z,fun z=>z.resolve_left fun e=>c e.symm⟩
theorem uh:∀(cb:Fl.Cb) (v:Int),(i8 (kP cb) (Sum.inl v:iJ)).getD .non=oV (Fl.lk cb v)
 |[],v=>rfl
 | p::r,v=>by
  have ih:=uh r v
  unfold kP i8 Fl.lk at ih ⊢
  rw[ah,List.find?_cons,List.find?_cons]
  by_cases c:p.1=v
  ·dsimp only
   rw[aK (show(Sum.inl p.1:iJ)=Sum.inl v from cx Sum.inl c),aK c]
   rfl
  ·dsimp only
   rw[aP (fun z:(Sum.inl p.1:iJ)=Sum.inl v=>c (cw z)),aP c]
   dsimp only
   exact ih
theorem DH{cb:Fl.Cb}{v:Int}{w:Nat}(h:Fl.seen cb v=false):jF (kP cb) (Sum.inl v:iJ) (.int (w:Int))=kP (cb++[(v,some w)]):=by
 rw[zL]
 ·unfold kP
  rw[aq]
  rfl
 ·rw [<- u5] at h
  cases e:i8 (kP cb) (Sum.inl v:iJ)with
  |none=>rfl
  |some x=>rw[e]at h;cases h
theorem vG(hs r:List Int):∀(a b:List Nat) (cb:Fl.Cb),Fl.jP hs r cb (a++b)=Fl.jP hs r (Fl.jP hs r cb a) b
 |[],b,cb=>rfl
 |w::a,b,cb=>by
  rw[List.cons_append,Fl.jP,Fl.jP]
  exact vG hs r a b _
theorem Ft(hs r:List Int)(ws:List Nat)(i:Nat)(cb:Fl.Cb):(Fl.jP hs r cb (ws.take i)).length<=(Fl.jP hs r cb ws).length:=by
 have e:Fl.jP hs r cb ws = Fl.jP hs r (Fl.jP hs r cb (ws.take i)) (ws.drop i):=by rw [<- vG,bY]
 obtain⟨l,e2⟩:=Fl.oB (hs:=hs) (r:=r) (ws.drop i) (Fl.jP hs r cb (ws.take i))
 rw[e,e2,av]
 lia
structure Nt(C:Addr)(H:Hp)(p R:Addr)(wf:Int->List Nat)(hs:List Int)(m n:Nat)(r:List Int):Prop where
 st:NtS C H p R wf hs n
 eR:H R=some (.lst (r.map V.int))
 net:Fl.Net wf hs m n
 len:r.length=2*m
 big:2*m<=1000
 n200:n<=200
theorem Nt.same{C:Addr}{H H':Hp}{p R:Addr}{wf:Int->List Nat}{hs:List Int}{m n:Nat}{r:List Int}(h:Nt C H p R wf hs m n r)(s:Same H H'):Nt C H' p R wf hs m n r:=⟨h.st.same s,s _ _ h.eR,h.net,h.len,h.big,h.n200⟩
def vm(C:Addr):Sp:=fun vs H Q _=>∃p s R wf hs m n r,vs=[.ref p,.int s]/\Nt C H p R wf hs m n r/\0<=s/\s<(n:Int)/\∀d H',H d=none->Same H H'->H' d=some (.dK (kP (Fl.jC wf hs n s r)))->Q (.ref d) H'
noncomputable def nu(cb:Fl.Cb):List V:=cb.map fun p=>V.int p.1
theorem F1(B:Blt mg)(D:MthAt K C_Net "spread" "Net.spread" (jB 5 4) ["self","source"] f fd)(T:NetC K mg C_Net):FnOk P w K mg base iR 1 f fd ["self","source"] (vm C_Net):=by
 have sc:FnScope ["self","source","came_by","line","done","knot","way","head"] ["self","source"] (je (jB 5 4)):=by walk_at "SC"
 refine D.F.ok sc (fun vs H Q E h=>?_) (fun cdv A outer s H vs Q E hr h=>?_)
 ·obtain⟨p,s,R,wf,hs,m,n,r,rfl,_⟩:=h
  rfl
 obtain⟨p,s,R,wf,hs,m,n,r,rfl,N,s0,s1,h⟩:=h
 have hu:=jn hr
 have hu0:_<PySem.cLine:=aF hu
 refine⟨_,(iN (jb (i:=2) sc.nd rfl (Or.inl rfl) (E4 (qv 1) xR)) (iN (jb (i:=3) sc.nd rfl (Or.inl rfl) (kx (iH (qv 1) iI))) (iN (jb (i:=4) sc.nd rfl (Or.inl rfl) iL) (iN (vh bf (kR qM (qv 4) (jq lO rfl B.len bN (iH (qv 3) iI)) (jI _)) (iN (jb (i:=5) sc.nd rfl (Or.inl rfl) (iT iU (qv 3) (qv 4) (fun _ _=>rfl))) (iN (kh bf rfl (jO (iT iU (l6 T.cl T.n_ways_from (qv 0) rfl) (qv 5) (fun _ _=>rfl))) (iY (i:=6) sc.nd rfl (Or.inl rfl)) (iN (jb (i:=7) sc.nd rfl (Or.inl rfl) (iT iU (l6 T.cl T.n_heads (qv 0) rfl) (qv 6) (fun _ _=>rfl))) (iS (kr (PW.pt (xT (kR nS (iT iU (l6 T.cl T.n_rooms (qv 0) rfl) (qv 6) (fun _ _=>rfl)) iL (jI _)) (yI (ue (Fe hu (qv 7) (qv 2)))))) (iN (nA hu (qv 2) (qv 7) (qv 6)) (iS (kF (lY bw bG bF mL (qv 3) (iH (qv 7) iI))))) ky)))) (iS (rn (i:=4) sc.nd rfl (Or.inl rfl) iL uy))))) (iS (jh (qv 2))))))),?_⟩
 have N0:=N
 obtain⟨⟨dx,W,Hd,ls,e1,e2,e3,e4,e5,n1,n2,n3⟩,eR,net,hlen,hbig,hn⟩:=N
 refine i7 fun R' hR=>?_
 walk_at "D"
 intro d hd
 have q1:=iO hd (.dK [(Sum.inl s,.non)])
 have ed:upd H d (.dK [(Sum.inl s,.non)]) d=some (.dK [(Sum.inl s,.non)]):=iK
 generalize upd H d (.dK [(Sum.inl s,.non)])=H1 at q1 ed
 subst hR
 refine i7 fun R' hR=>?_
 walk_at "D"
 intro l hl
 have q2:=q1.trans (iO hl (.lst [.int s]))
 have ed2:=iO hl (.lst [.int s]) _ _ ed
 have el:upd H1 l (.lst [.int s]) l=some (.lst [.int s]):=iK
 have ld:l≠d:=(iV ed hl).symm
 have hlH:H l=none:=q1.free hl
 generalize upd H1 l (.lst [.int s])=H2 at q2 ed2 el
 subst hR
 refine i7 fun R' hR=>?_
 walk_at "D"
 subst hR
 refine i7 fun R' hR=>?_
 refine vv (fun σ Hc=>∃(k:Nat) (v5 v6 v7:Option V),σ=[some (.ref p),some (.int s),some (.ref d),some (.ref l),some (.int (k:Int)),v5,v6,v7]/\Same H Hc/\Hc d=some (.dK (kP (Fl.jj wf hs r s k)))/\Hc l=some (.lst (nu (Fl.jj wf hs r s k)))/\k<=(Fl.jj wf hs r s k).length) (fun σ _=>match σ with |[_,_,_,_,some (.int k),_,_,_]=>n-k.toNat|_=>0) ⟨0,none,none,none,rfl,q2,ed2,el,bp _⟩ ?_ ?_
 ·rintro σ Hc ⟨k,v5,v6,v7,rfl,s3,ed3,el3,hk⟩
  have hkl:=Fl.nN (r:=r) net ⟨s0,s1⟩ k
  have hlk:(nu (Fl.jj wf hs r s k)).length=(Fl.jj wf hs r s k).length:=ae _
  by_cases c:k<(Fl.jj wf hs r s k).length
  ·have hdt:decide ((k:Int)<((Fl.jj wf hs r s k).length:Int))=true:=aK (by lia)
   have hg:(Fl.jj wf hs r s k)[k]? =some (Fl.jj wf hs r s k)[k]:=gE c
   generalize hpk:(Fl.jj wf hs r s k)[k]=pk at hg
   have hgl:jr (nu (Fl.jj wf hs r s k)) (k:Int)=some (.int pk.1):=mm (by unfold nu;rw[aC,hg];rfl)
   simp_arith[iX,el3,hlk,hdt,hgl]
   have hkn:=Fl.xB (r:=r) net ⟨s0,s1⟩ k pk.1 (aw.mpr ⟨_,aE hg,rfl⟩)
   have hi:pk.1.toNat<ls.length:=by lia
   have hla:ls[pk.1.toNat]? =some ls[pk.1.toNat]:=gE hi
   generalize ls[pk.1.toNat]=wa at hla
   have ewa:=(e4 _ _ hla).1
   rw[show((pk.1.toNat:Nat):Int)=pk.1 by lia]at ewa
   have hwa:jr (ls.map V.ref) pk.1=some (.ref wa):=by have:=xC hla;rw[show((pk.1.toNat:Nat):Int)=pk.1 by lia]at this;exact this
   have hnext:Fl.jj wf hs r s (k+1)=Fl.jP hs r (Fl.jj wf hs r s k) (wf pk.1):=by rw[Fl.jj,hg]
   have hkl2:=Fl.nN (r:=r) net ⟨s0,s1⟩ (k+1)
   rw[hnext]at hkl2
   generalize hcb:Fl.jj wf hs r s k=cb at*
   refine kU (jD K wa) Hc (fun R3 hR3=>?_) (l8 (K:=K) (a:=wa) (xs:=nv (wf pk.1)) (fun i σ H4=>∃v6 v7,σ=[some (.ref p),some (.int s),some (.ref d),some (.ref l),some (.int (k:Int)),some (.int pk.1),v6,v7]/\Same H H4/\H4 d=some (.dK (kP (Fl.jP hs r cb ((wf pk.1).take i))))/\H4 l=some (.lst (nu (Fl.jP hs r cb ((wf pk.1).take i))))) ⟨v6,v7,rfl,s3,ed3,el3⟩ (fun i σ H4 _ ⟨_,_,_,s4,_⟩=>SqL.of (s4 _ _ ewa)) ?_ ?_)
   ·unfold jL
    simp_arith[iX,s3 _ _ e1,Bm,s3 _ _ e2,hwa]
    exact⟨wa,rfl,⟨_,SqL.of (s3 _ _ ewa)⟩,hR3⟩
   ·rintro i x σ H4 hx ⟨v6,v7,rfl,s4,ed4,el4⟩
    unfold nv at hx
    rw[aC]at hx
    obtain⟨w,hw,rfl⟩:=bM.mp hx
    have hwm:=net.from' pk.1 w (aE hw)
    have hh:jr (hs.map V.int) (w:Int)=some (.int (Fl.at' hs w)):=oO (by rw[net.len];exact hwm.1)
    have hr':jr (r.map V.int) (w:Int)=some (.int (Fl.at' r w)):=oO (by rw[hlen];exact hwm.1)
    have hv1:Fl.jP hs r cb ((wf pk.1).take (i+1))=if 0<Fl.at' r w/\Fl.seen (Fl.jP hs r cb ((wf pk.1).take i)) (Fl.at' hs w)=false then Fl.jP hs r cb ((wf pk.1).take i)++[(Fl.at' hs w,some w)]else Fl.jP hs r cb ((wf pk.1).take i):=by
     rw[jv hw,vG]
     rfl
    have hvl:=Ft hs r (wf pk.1) i cb
    generalize Fl.jP hs r cb ((wf pk.1).take i)=cb1 at*
    simp_arith[iX,s4 _ _ e1,qV,oJ,s4 _ _ e5,hh,s4 _ _ eR,hr',ed4,u5]
    by_cases c1:0<Fl.at' r w
    ·rw[aK c1,aA rfl]
     cases c2:Fl.seen cb1 (Fl.at' hs w)with
     |true=>
      walk_at "D"
      rw[ay (fun z=>by rw[c2]at z;cases z.2)]at hv1
      rw[hv1]
      exact⟨_,_,rfl,s4,(by first|rfl|exact ed4),el4⟩
     | false=>
      rw[aA ⟨c1,c2⟩]at hv1
      simp_arith[DH c2]
      have hcl:(kP cb1).length=cb1.length:=ae _
      refine⟨jt (by lia),?_⟩
      have el5:upd H4 d (.dK (kP (cb1++[(Fl.at' hs w,some w)]))) l=some (.lst (nu cb1)):=by rw[iQ ld];exact el4
      refine⟨⟨l,_,rfl,el5⟩,?_⟩
      rw[el5]
      dsimp only
      have hcl2:(nu cb1).length=cb1.length:=ae _
      refine⟨jt (by lia),_,_,rfl,jJ (jJ s4 hd) hlH,?_,?_⟩
      ·rw[iQ (di ld),iK,hv1]
      ·rw[iK,hv1]
       unfold nu
       rw[aq]
       rfl
    ·rw[aP c1,ay (by decide)]
     rw[ay (fun z=>c1 z.1)]at hv1
     rw[hv1]
     exact⟨_,_,rfl,s4,(by first|rfl|exact ed4),el4⟩
   ·rintro σ H4 ⟨v6,v7,rfl,s4,ed4,el4⟩
    have htl:(wf pk.1).take (nv (wf pk.1)).length=wf pk.1:=by unfold nv;rw[ae,aV]
    rw [htl,<- hnext] at ed4 el4
    walk_at "D"
    refine⟨⟨k+1,_,_,_,by rw[show((k+1:Nat):Int)=(k:Int)+1 by lia],s4,ed4,el4,?_⟩,?_⟩
    ·obtain⟨z,hz⟩:=Fl.xh (wf:=wf) (hs:=hs) (r:=r) (s:=s) k
     rw[hz,hcb,av]
     lia
    ·lia
  ·have hdt:decide ((k:Int)<((Fl.jj wf hs r s k).length:Int))=false:=aP (by lia)
   simp_arith[iX,el3,hlk,hdt]
   subst hR
   walk_at "D"
   have hfin:Fl.jC wf hs n s r=Fl.jj wf hs r s k:=by
    unfold Fl.jC
    rw[show n=k+(n-k) by lia]
    exact Fl.tF (by lia) _
   exact h d Hc hd s3 (by rw[hfin];exact ed3)
 ·intro σ Hc Q1 Q2 hq hc
  unfold fB nQ qG uf pI kc at hc ⊢
  cases e:σ[4]? with
  |none=>rw[e]at hc;exact hc.elim
  | some ov=>
   rw[e]at hc
   cases ov with
   |none=>exact hc.elim
   | some u=>
    dsimp only[sP,fI,tC]at hc ⊢
    cases e3:σ[3]? with
    |none=>rw[e3]at hc;exact hc.elim
    | some ov3=>
     rw[e3]at hc
     cases ov3 with
     |none=>exact hc.elim
     | some u3=>
      dsimp only at hc ⊢
      cases u3 with
      | ref b=>
       dsimp only at hc ⊢
       cases e2:iX Hc b with
       |none=>rw[e2]at hc;exact hc.elim
       |some us=>
        rw[e2]at hc
        dsimp only at hc ⊢
        cases u with
        |int i=>exact hq _ _ hc
        |_=>exact hc.elim
      |_=>exact hc.elim
end
end My
namespace Fl
section
variable{hs r:List Int}{m:Nat}{s:Int}{cb:Cb}
theorem DY{v:Int}{w:Nat}(h:lk cb v=some w):∃i:Nat,cb[i]? =some (v,some w):=by
 unfold lk at h
 cases e:cb.find? fun p=>decide (p.1=v)with
 |none=>rw[e]at h;cases h
 |some p=>
  rw[e]at h
  have hp:=List.mem_of_find?_eq_some e
  have hv:p.1=v:=by have:=List.find?_some e;exact cG (p:=p.1=v) this
  obtain⟨i,hi,e2⟩:=bA.mp hp
  refine⟨i,?_⟩
  rw[gE hi,e2]
  obtain⟨a,b⟩:=p
  dsimp only at hv
  have h:b=some w:=h
  rw[hv,h]
theorem GN(C:Cam hs r m s cb):∀(i:Nat) (v:Int) (o:Option Nat),cb[i]? =some (v,o)->∀f,i<=f->jE hs cb (f+1) v=jE hs cb f v:=by
 intro i
 induction i using Nat.strongRecOn with
 | ind i ih=>
  intro v o h f hf
  have hl:=tX C.nd h
  by_cases h0:i=0
  ·subst h0
   have e:=C.first
   rw[h]at e
   have ho:o=none:=cx Prod.snd (aI e)
   rw[ho]at hl
   rw[jE,hl]
   cases f with
   |zero=>rfl
   |succ f=>rw[jE,hl]
  ·obtain⟨w,rfl,h2,h3,h4,j,u,h5,h6,h7⟩:=C.came i v o h (by lia)
   obtain⟨f',rfl⟩:∃f',f=f'+1:=⟨f-1,by lia⟩
   obtain⟨p,hp⟩:∃p,cb[j]? =some p:=by
    cases e:cb[j]? with
    |none=>rw[e]at h6;cases h6
    |some p=>exact⟨p,rfl⟩
   have hpu:p.1=u:=by rw[hp]at h6;exact aI h6
   obtain⟨p1,p2⟩:=p
   dsimp only at hpu
   subst hpu
   have e1:jE hs cb (f'+1+1) v=w::jE hs cb (f'+1) p1:=by
    rw[jE,hl];dsimp only;rw[h7]
   have e2:jE hs cb (f'+1) v=w::jE hs cb f' p1:=by
    rw[jE,hl];dsimp only;rw[h7]
   rw[e1,e2,ih j h5 p1 p2 hp f' (by lia)]
theorem B0(C:Cam hs r m s cb){n:Nat}(hn:cb.length<=n){v:Int}{w:Nat}(h:lk cb v=some w):jE hs cb n v=w::jE hs cb n (at' hs (iW w))/\w<2*m:=by
 obtain⟨i,hi⟩:=DY h
 have hil:=(ak.mp hi).1
 have h0:0<i:=by
  by_cases z:i=0
  ·subst z
   have e:=C.first
   rw[hi]at e
   have:=cx Prod.snd (aI e)
   cases this
  ·lia
 obtain⟨w',hw',h2,h3,h4,j,u,h5,h6,h7⟩:=C.came i v _ hi h0
 cases hw'
 obtain⟨p,hp⟩:∃p,cb[j]? =some p:=by
  cases e:cb[j]? with
  |none=>rw[e]at h6;cases h6
  |some p=>exact⟨p,rfl⟩
 have hpu:p.1=u:=by rw[hp]at h6;exact aI h6
 obtain⟨f',rfl⟩:∃f',n=f'+1:=⟨n-1,by lia⟩
 refine⟨?_,h2⟩
 rw[jE,h]
 dsimp only
 rw [h7,<- hpu,GN C j p.1 p.2 hp f' (by lia)]
theorem B1{v:Int}{n:Nat}(h:lk cb v=none):jE hs cb n v=[]:=by
 cases n with
 |zero=>rfl
 |succ n=>rw[jE,h]
theorem tu:∀(n:Nat) (v:Int),(jE hs cb n v).length<=n
 |0,_=>ao _
 | n+1,v=>by
  rw[jE]
  split
  ·have:=tu n (at' hs (iW ‹Nat›))
   rw[List.length_cons];lia
  ·exact bp _
theorem xw(r:List Int):∀{tr:List Nat},tr≠[]->lh r tr∈tr.map (at' r)
 |[],h=>absurd rfl h
 |[w],_=>aZ.mpr rfl
 |w::x::tr,_=>by
  rw[lh]
  split
  ·exact az _ (xw r (tr:=x::tr) (by simp))
  ·exact aH
theorem CW(r:List Int)(tr:List Nat)(w:Nat)(a:Int):push r (tr++[w]) a=bump (push r tr a) w a:=by
 unfold push
 rw[List.foldl_append]
 rfl
end
end Fl
namespace My
open PySem L2
section
variable{P:Program}{w:World}{K:PySem.W.Frag}{mg:Str->Option Value}{base:Heap}{c1 c2 c3 c4:Tok}{C_Net C_NoWeb fqi:Addr}{dI:FuncData}
def y4(C:Addr):Sp:=fun vs H Q _=>∃p s t R wf hs m n r,vs=[.ref p,.int s,.int t]/\Nt C H p R wf hs m n r/\0<=s/\s<(n:Int)/\∀l H',H l=none->Same H H'->H' l=some (.lst (nv (Fl.kz wf hs n s t r)))->Q (.ref l) H'
def yd(C:Addr):Sp:=fun vs H Q _=>∃p l R wf hs m n r tr,vs=[.ref p,.ref l]/\Nt C H p R wf hs m n r/\H l=some (.lst (nv tr))/\l≠R/\tr≠[]/\tr.length<=200/\(∀w∈tr,w<2*m)/\∀H',But R H H'->H' R=some (.lst ((Fl.push r tr (Fl.lh r tr)).map V.int))->Q (.int (Fl.lh r tr)) H'
def ya(C:Addr):Sp:=fun vs H Q _=>∃p s t R wf hs m n r cap,vs=[.ref p,.int s,.int t]/\Nt C H p R wf hs m n r/\s≠t/\0<=s/\s<(n:Int)/\Fl.Rooms m cap r/\∀x r' H',Fl.Runs wf hs n s t r r'->Fl.kX wf hs n s t r'=none->But R H H'->H' R=some (.lst (r'.map V.int))->Q (.int x) H'
theorem Dm(o:Option Nat):pP (oV o)=o.isNone:=by cases o<;>rfl
theorem Ad(w:Nat):PySem.Builtin.bitXor (w:Int) 1=((Fl.iW w:Nat):Int):=Ep w
noncomputable def unI(xs:List V):List Int:=xs.map fun x=>match x with
 | .int i=>i
 |_=>0
theorem zf(r:List Int):unI (r.map V.int)=r:=by
 unfold unI
 rw[bt]
 exact List.map_id _
theorem yx{n w:Nat}(h:w<n):kI n (w:Int)=some w:=by
 unfold kI
 rw[aA (by lia),aA (by lia)]
 rfl
theorem Nt.but{C:Addr}{H H':Hp}{p R:Addr}{wf:Int->List Nat}{hs:List Int}{m n:Nat}{r r':List Int}(h:Nt C H p R wf hs m n r)(s:But R H H')(e:H' R=some (.lst (r'.map V.int)))(hl:r'.length=2*m):Nt C H' p R wf hs m n r':=⟨h.st.but s,e,h.net,hl,h.big,h.n200⟩
theorem DI{cb:Fl.Cb}{v:Int}{w:Nat}(h:Fl.lk cb v=some w):i8 (kP cb) (Sum.inl v:iJ)=some (.int (w:Int)):=by
 have:=uh cb v
 rw[h]at this
 cases e:i8 (kP cb) (Sum.inl v:iJ)with
 |none=>rw[e]at this;cases this
 |some x=>rw[e]at this;exact cx some this
theorem G7(B:Blt mg)(D:MthAt K C_Net "shortest" "Net.shortest" (jB 5 3) ["self","source","sink"] f fd)(Dqh:MthAt K C_Net "spread" "Net.spread" (jB 5 4) ["self","source"] fqh dqh)(Gqh:FnOk P w K mg base iR 1 fqh dqh ["self","source"] (vm C_Net))(T:NetC K mg C_Net):FnOk P w K mg base iR 2 f fd ["self","source","sink"] (y4 C_Net):=by
 have sc:FnScope ["self","source","sink","came_by","trail","knot"] ["self","source","sink"] (je (jB 5 3)):=by walk_at "SC"
 refine D.F.ok sc (fun vs H Q E h=>?_) (fun cdv A outer s H vs Q E hr h=>?_)
 ·obtain⟨p,s,t,R,wf,hs,m,n,r,rfl,_⟩:=h
  rfl
 obtain⟨p,s,t,R,wf,hs,m,n,r,rfl,N,s0,s1,h⟩:=h
 have hu:=jn hr
 have hu0:_<PySem.cLine:=aF hu
 refine⟨_,(iN (jb (i:=3) sc.nd rfl (Or.inl rfl) (nc (qv 0) T.cl Dqh.m Gqh (hr.mono (by decide)) Dqh.b .nil iZ (iH (qv 1) iI))) (iN (jb (i:=4) sc.nd rfl (Or.inl rfl) (kx iI)) (iN (jb (i:=5) sc.nd rfl (Or.inl rfl) (qv 2)) (iN (vh bf (kR CP (Ed hu (qv 3) (qv 5)) xR (jI _)) (iN (kF (lY bw bG bF mL (qv 4) (iH (k4 hu (qv 3) (qv 5) (fun _ _=>rfl)) iI))) (iS (jb (i:=5) sc.nd rfl (Or.inl rfl) (iT iU (l6 T.cl T.n_heads (qv 0) rfl) (i9 xo (k4 hu (qv 3) (qv 5) (fun _ _=>rfl)) iL) (fun _ _=>rfl)))))) (iS (jh (qv 4))))))),?_⟩
 have N0:=N
 obtain⟨⟨dx,W,Hd,ls,e1,e2,e3,e4,e5,n1,n2,n3⟩,eR,net,hlen,hbig,hn⟩:=N
 refine i7 fun R' hR=>?_
 simp_arith[e1,AN]
 refine⟨p,s,R,wf,hs,m,n,r,rfl,N0,s0,s1,fun d H1 hd q1 ed=>?_⟩
 subst hR
 refine i7 fun R' hR=>?_
 walk_at "D"
 intro l hl
 have q2:=q1.trans (iO hl (.lst []))
 have ed2:=iO hl (.lst []) _ _ ed
 have el:upd H1 l (.lst []) l=some (.lst []):=iK
 have hlH:H l=none:=q1.free hl
 have ld:l≠d:=(iV ed hl).symm
 generalize upd H1 l (.lst [])=H2 at q2 ed2 el
 subst hR
 refine i7 fun R' hR=>?_
 walk_at "D"
 subst hR
 refine i7 fun R' hR=>?_
 have Cm:=Fl.mQ (r:=r) (s:=s) net.from' n
 have hcl:=Fl.nN (r:=r) net ⟨s0,s1⟩ n
 have htl:=Fl.tu (hs:=hs) (cb:=Fl.jC wf hs n s r) n t
 have htr:Fl.kz wf hs n s t r=Fl.jE hs (Fl.jC wf hs n s r) n t:=rfl
 rw[htr]at h
 generalize hcb:Fl.jC wf hs n s r=cb at*
 unfold Fl.jC at hcb
 rw[hcb]at Cm hcl
 refine vv (fun σ Hc=>∃(v:Int) (tr:List Nat),σ=[some (.ref p),some (.int s),some (.int t),some (.ref d),some (.ref l),some (.int v)]/\Same H Hc/\Hc d=some (.dK (kP cb))/\Hc l=some (.lst (nv tr))/\Fl.jE hs cb n t=tr++Fl.jE hs cb n v) (fun σ _=>match σ with |[_,_,_,_,_,some (.int v)]=>(Fl.jE hs cb n v).length|_=>0) ⟨t,[],rfl,q2,ed2,el,rfl⟩ ?_ ?_
 ·rintro σ Hc ⟨v,tr,rfl,s3,ed3,el3,htv⟩
  simp_arith[ed3,uh,Dm]
  refine⟨⟨_,rfl⟩,?_⟩
  cases hlk:Fl.lk cb v with
  |none=>
   simp_arith[Option.isNone]
   subst hR
   walk_at "D"
   rw[Fl.B1 hlk,aY]at htv
   exact h l Hc hlH s3 (by rw[htv];exact el3)
  | some w=>
   obtain⟨hnx,hw⟩:=Fl.B0 Cm hcl hlk
   have hm:=Fl.qQ hw
   have hh:jr (hs.map V.int) ((Fl.iW w:Nat):Int)=some (.int (Fl.at' hs (Fl.iW w))):=oO (by rw[net.len];exact hm)
   have hval:=DI hlk
   have htl2:tr.length<=n:=by
    have:=cx List.length htv
    rw[av]at this
    lia
   simp_arith[Option.isNone,el3,ed3,hval]
   refine⟨⟨l,_,rfl,el3⟩,?_⟩
   have hnl:(nv tr).length=tr.length:=ae _
   refine⟨jt (by lia),?_⟩
   have ed4:upd Hc l (.lst (nv tr++[.int (w:Int)])) d=some (.dK (kP cb)):=by rw[iQ (di ld)];exact ed3
   have s4:Same H (upd Hc l (.lst (nv tr++[.int (w:Int)]))):=jJ s3 hlH
   have el4:upd Hc l (.lst (nv tr++[.int (w:Int)])) l=some (.lst (nv (tr++[w]))):=by rw[iK];unfold nv;rw[aq];rfl
   generalize upd Hc l (.lst (nv tr++[.int (w:Int)]))=H4 at ed4 s4 el4
   simp_arith[iX,s4 _ _ e1,qV,s4 _ _ e5,ed4,hval,Ad,hh]
   refine⟨⟨_,_,rfl,s4,el4,?_⟩,?_⟩
   ·rw[htv,hnx,aQ]
    rfl
   ·rw[hnx,List.length_cons]
    lia
 ·intro σ Hc Q1 Q2 hq hc
  unfold fB nQ um kc at hc ⊢
  cases e:σ[3]? with
  |none=>rw[e]at hc;exact hc.elim
  | some ov=>
   rw[e]at hc
   cases ov with
   |none=>exact hc.elim
   | some u=>
    dsimp only at hc ⊢
    cases u with
    | ref a=>
     dsimp only at hc ⊢
     refine⟨hc.1,?_⟩
     have hc:=hc.2
     cases e3:σ[5]? with
     |none=>rw[e3]at hc;exact hc.elim
     | some ov3=>
      rw[e3]at hc
      cases ov3 with
      |none=>exact hc.elim
      | some u3=>
       dsimp only at hc ⊢
       cases u3 with
       | int i=>
        dsimp only at hc ⊢
        cases e4:Hc a with
        |none=>rw[e4]at hc;exact hc.elim
        |some ob=>
         rw[e4]at hc
         cases ob with
         |dK kvs=>dsimp only[tC,sQ]at hc ⊢;exact hq _ _ hc
         |_=>exact hc.elim
       |_=>exact hc.elim
    |_=>exact hc.elim
theorem A1(r:List Int)(w:Nat)(x:Int):(r.map V.int).set w (.int x)=(r.set w x).map V.int:=by rw[List.map_set]
theorem ET{i:Nat}{σ:St}{H:Hp}{Q Q':Bool->Hp->Prop}(hq:∀b H1,Q b H1->Q' b H1)(hc:pN (kc i) σ H Q):pN (kc i) σ H Q':=by
 unfold pN kc at hc ⊢
 cases e:σ[i]? with
 |none=>rw[e]at hc;exact hc.elim
 | some ov=>
  rw[e]at hc
  cases ov with
  |none=>exact hc.elim
  | some u=>
   dsimp only at hc ⊢
   cases u with
   | ref a=>
    dsimp only at hc ⊢
    cases e4:H a with
    |none=>rw[e4]at hc;exact hc.elim
    |some ob=>
     rw[e4]at hc
     cases ob with
     |lst xs=>exact hq _ _ hc
     |_=>exact hc.elim
   |_=>exact hc.elim
theorem D4(B:Blt mg)(D:MthAt K C_Net "push" "Net.push" (jB 5 5) ["self","trail"] f fd)(T:NetC K mg C_Net):FnOk P w K mg base iR 1 f fd ["self","trail"] (yd C_Net):=by
 have sc:FnScope ["self","trail","amount","way"] ["self","trail"] (je (jB 5 5)):=by walk_at "SC"
 refine D.F.ok sc (fun vs H Q E h=>?_) (fun cdv A outer s H vs Q E hr h=>?_)
 ·obtain⟨p,l,R,wf,hs,m,n,r,tr,rfl,_⟩:=h
  rfl
 obtain⟨p,l,R,wf,hs,m,n,r,tr,rfl,N,el,lR,tr0,htl,hw,h⟩:=h
 have hu:=jn hr
 have hu0:_<PySem.cLine:=aF hu
 refine⟨_,(iN (jb (i:=2) sc.nd rfl (Or.inl rfl) (jq (Fz rfl) rfl B.min gh (iH (kN (CpScope.of (N:=["way","self"]) (src:=[none,some 0]) (by rfl)) rfl (jO (qv 1)) (fun _ _ _ _=>(iY (i:=0) (jy (l:=["way","self"]) (by rfl)) rfl (Or.inl rfl))) (fun _ _ _ _=>kS) (fun _ _ _ _=>(iT iU (l6 T.cl T.n_rooms (qv 1) rfl) (qv 0) (fun _ _=>rfl)))) iI))) (iN (kh bf rfl (jO (qv 1)) (iY (i:=3) sc.nd rfl (Or.inl rfl)) (iN (yH (l6 T.cl T.n_rooms (qv 0) rfl) (qv 3) As (qv 2) DS oR) (iS (yH (l6 T.cl T.n_rooms (qv 0) rfl) (i9 xo (qv 3) iL) As (qv 2) DQ oR)))) (iS (jh (qv 2))))),?_⟩
 have N0:=N
 obtain⟨⟨dx,W,Hd,ls,e1,e2,e3,e4,e5,n1,n2,n3⟩,eR,net,hlen,hbig,hn⟩:=N
 have hnl:(nv tr).length=tr.length:=ae _
 refine i7 fun R' hR=>?_
 walk_at "D"
 refine kO (jD K l) H (fun R2 hR2=>?_) (fun z hz0=>km tr.length (fun i σ' Hc=>∃w1,σ'=[w1,some (.ref p)]/\Same H Hc/\Hc z=some (.lst (((tr.take i).map (Fl.at' r)).map V.int))) ⟨none,rfl,iO hz0 _,iK⟩ ?_ ?_)
 ·unfold jL
  walk_at "D"
  exact⟨l,rfl,⟨_,SqL.of el⟩,hR2⟩
 ·rintro i σ' Hc hi ⟨w1,rfl,s7,ez⟩
  have x1:(nv tr)[i]? =some (.int ((tr[i]:Nat):Int)):=by unfold nv;rw[aC,gE hi];rfl
  have x2:tr[i]? =some tr[i]:=gE hi
  have hwi:=hw _ (bO hi)
  generalize tr[i]=wi at x1 x2 hwi
  refine⟨⟨_,_,SqL.of (s7 _ _ el),x1⟩,?_⟩
  rintro y H' ⟨rfl,hy⟩
  have E1:=aI (x1.symm.trans (hy _ (SqL.of (s7 _ _ el))))
  subst E1
  have hr':jr (r.map V.int) (wi:Int)=some (.int (Fl.at' r wi)):=oO (by rw[hlen];exact hwi)
  simp_arith[iX,s7 _ _ e1,oJ,s7 _ _ eR,hr']
  refine⟨_,ez,?_,_,rfl,jJ s7 hz0,?_⟩
  ·rw[ae,ae,aS]
   exact jt (by lia)
  ·rw[iK,jv x2,aq,aq]
   rfl
 ·rintro σ' Hc ⟨w1,rfl,s7,ez⟩
  refine⟨⟨_,SqL.of (s7 _ _ el),by lia⟩,?_⟩
  rw[aV]at ez
  refine⟨z,_,rfl,ez,by simpa using tr0,fun a ha hmin=>?_⟩
  have hae:a=Fl.lh r tr:=by
   have h1:=hmin _ (Fl.xw r tr0)
   obtain⟨w,hwt,rfl⟩:=aw.mp ha
   have h2:=Fl.tJ r hwt
   lia
  subst hae
  generalize Fl.lh r tr=a at*
  walk_at "D"
  subst hR
  refine i7 fun R' hR=>?_
  have zR:z≠R:=(iV eR hz0).symm
  refine kU (jD K l) Hc (fun R3 hR3=>?_) (l8 (K:=K) (a:=l) (xs:=nv tr) (fun i σ H4=>∃v3,σ=[some (.ref p),some (.ref l),some (.int a),v3]/\But R H H4/\H4 R=some (.lst ((Fl.push r (tr.take i) a).map V.int))) ⟨none,rfl,fun b o _ q=>s7 b o q,s7 _ _ eR⟩ (fun i σ H4 _ ⟨_,_,s4,_⟩=>SqL.of (s4 _ _ lR el)) ?_ ?_)
  ·unfold jL
   walk_at "D"
   exact⟨l,rfl,⟨_,SqL.of (s7 _ _ el)⟩,hR3⟩
  ·rintro i x σ H4 hx ⟨v3,rfl,s4,eR4⟩
   unfold nv at hx
   rw[aC]at hx
   obtain⟨w,hwt,rfl⟩:=bM.mp hx
   have hwm:=hw w (aE hwt)
   have hmm:=Fl.qQ hwm
   have hpl:(Fl.push r (tr.take i) a).length=2*m:=by rw[Fl.qN];exact hlen
   have hps:Fl.push r (tr.take (i+1)) a=Fl.bump (Fl.push r (tr.take i) a) w a:=by rw[jv hwt,Fl.CW]
   generalize Fl.push r (tr.take i) a=r1 at*
   have e14:=s4 _ _ n3 e1
   have h1:jr (r1.map V.int) (w:Int)=some (.int (Fl.at' r1 w)):=oO (by lia)
   have hx1:kI (r1.map V.int).length (w:Int)=some w:=yx (by rw[ae];lia)
   refine i7 fun R5 hR5=>?_
   simp_arith[e14,oJ,eR4,h1,hx1]
   refine⟨gK _,?_⟩
   rw[A1]
   have b5:But R H (upd H4 R (.lst ((r1.set w (Fl.at' r1 w-a)).map V.int))):=s4.trans (But.at R H4 _)
   have e15:=b5 _ _ n3 e1
   have eR5:upd H4 R (.lst ((r1.set w (Fl.at' r1 w-a)).map V.int)) R=some (.lst ((r1.set w (Fl.at' r1 w-a)).map V.int)):=iK
   generalize upd H4 R (.lst ((r1.set w (Fl.at' r1 w-a)).map V.int))=H5 at b5 e15 eR5
   have hl2:(r1.set w (Fl.at' r1 w-a)).length=2*m:=by rw[eE];exact hpl
   have h2:jr ((r1.set w (Fl.at' r1 w-a)).map V.int) ((Fl.iW w:Nat):Int)=some (.int (Fl.at' r1 (Fl.iW w))):=by
    rw[oO (by lia),Fl.wz,ay (fun z=>Fl.tK w z.1.symm)]
   have hx2:kI ((r1.set w (Fl.at' r1 w-a)).map V.int).length ((Fl.iW w:Nat):Int)=some (Fl.iW w):=yx (by rw[ae];lia)
   subst hR5
   simp_arith[e15,oJ,eR5,Ad,h2,hx2]
   refine⟨gK _,_,rfl,b5.trans (But.at R H5 _),?_⟩
   rw[iK,hps,A1]
   rfl
  ·rintro σ H4 ⟨v3,rfl,s4,eR4⟩
   rw[hnl,aV]at eR4
   subst hR
   walk_at "D"
   exact h H4 s4 eR4
theorem D2(B:Blt mg)(D:MthAt K C_Net "fill" "Net.fill" (jB 5 2) ["self","source","sink"] f fd)(Dql:MthAt K C_Net "shortest" "Net.shortest" (jB 5 3) ["self","source","sink"] fql dql)(Gql:FnOk P w K mg base iR 2 fql dql ["self","source","sink"] (y4 C_Net))(Dq9:MthAt K C_Net "push" "Net.push" (jB 5 5) ["self","trail"] fq9 dq9)(Gq9:FnOk P w K mg base iR 1 fq9 dq9 ["self","trail"] (yd C_Net))(T:NetC K mg C_Net):FnOk P w K mg base iR 3 f fd ["self","source","sink"] (ya C_Net):=by
 have sc:FnScope ["self","source","sink","flowing","trail"] ["self","source","sink"] (je (jB 5 2)):=by walk_at "SC"
 refine D.F.ok sc (fun vs H Q E h=>?_) (fun cdv A outer s H vs Q E hr h=>?_)
 ·obtain⟨p,s,t,R,wf,hs,m,n,r,cap,rfl,_⟩:=h
  rfl
 obtain⟨p,s,t,R,wf,hs,m,n,r,cap,rfl,N,st,s0,s1,rm,h⟩:=h
 have hu:=jn hr
 have hu0:_<PySem.cLine:=aF hu
 refine⟨_,(iN (jb (i:=3) sc.nd rfl (Or.inl rfl) iL) (iN (jb (i:=4) sc.nd rfl (Or.inl rfl) (nc (qv 0) T.cl Dql.m Gql (hr.mono (by decide)) Dql.b .nil iZ (iH (qv 1) (iH (qv 2) iI)))) (iN (vh bf (Ec (qv 4)) (iN (rn (i:=3) sc.nd rfl (Or.inl rfl) (nc (qv 0) T.cl Dq9.m Gq9 (hr.mono (by decide)) Dq9.b .nil iZ (iH (qv 4) iI)) uy) (iS (jb (i:=4) sc.nd rfl (Or.inl rfl) (nc (qv 0) T.cl Dql.m Gql (hr.mono (by decide)) Dql.b .nil iZ (iH (qv 1) (iH (qv 2) iI))))))) (iS (jh (qv 3)))))),?_⟩
 refine i7 fun R' hR=>?_
 walk_at "D"
 subst hR
 refine i7 fun R' hR=>?_
 obtain⟨dx,W,Hd,ls,e1,e2,e3,e4,e5,n1,n2,n3⟩:=N.st
 simp_arith[e1,A8]
 refine⟨p,s,t,R,wf,hs,m,n,r,rfl,N,s0,s1,fun l H1 hl q1 el=>?_⟩
 have lR:l≠R:=(iV N.eR hl).symm
 subst hR
 refine i7 fun R' hR=>?_
 refine vv (fun σ Hc=>∃(x:Int) (l:Addr) (r1:List Int),σ=[some (.ref p),some (.int s),some (.int t),some (.int x),some (.ref l)]/\But R H Hc/\Hc R=some (.lst (r1.map V.int))/\Fl.Runs wf hs n s t r r1/\Fl.Rooms m cap r1/\Hc l=some (.lst (nv (Fl.kz wf hs n s t r1)))/\l≠R) (fun _ Hc=>match Hc R with |some (.lst xs)=>(Fl.wx cap m-Fl.ex hs m (unI xs) t).toNat|_=>0) ⟨0,l,r,rfl,fun b o _ q=>q1 b o q,q1 _ _ N.eR,.done r,rm,el,lR⟩ ?_ ?_
 ·rintro σ Hc ⟨x,l,r1,rfl,b2,eR2,run,rm1,el2,lR⟩
  have N2:=N.but b2 eR2 rm1.len
  have e12:=b2 _ _ n3 e1
  by_cases ct:Fl.kz wf hs n s t r1=[]
  ·have hst:Fl.kX wf hs n s t r1=none:=by unfold Fl.kX;rw[aA ct]
   have hne:(nv (Fl.kz wf hs n s t r1)).isEmpty=true:=by rw[ct];rfl
   simp_arith[el2,hne]
   subst hR
   walk_at "D"
   exact h x r1 Hc run hst b2 eR2
  ·have hst:Fl.kX wf hs n s t r1=some (Fl.push r1 (Fl.kz wf hs n s t r1) (Fl.lh r1 (Fl.kz wf hs n s t r1))):=by unfold Fl.kX;rw[ay ct]
   have hne:(nv (Fl.kz wf hs n s t r1)).isEmpty=false:=by unfold nv;cases hq:Fl.kz wf hs n s t r1 with |nil=>exact absurd hq ct|cons _ _=>rfl
   obtain⟨_,gi,G⟩:=Fl.wH N.net st ⟨s0,s1⟩ ct
   have hk:=Fl.xg N.net st ⟨s0,s1⟩ rm1 hst
   have hle:=Fl.tu (hs:=hs) (cb:=Fl.jC wf hs n s r1) n t
   simp_arith[el2,hne,e12,EV]
   refine⟨p,l,R,wf,hs,m,n,r1,_,rfl,N2,el2,lR,ct,bE hle N.n200,fun w hw=>(G.up w hw).1,fun H3 b3 eR3=>?_⟩
   have b4:=b2.trans b3
   have N3:=N2.but b3 eR3 (by rw[Fl.qN];exact rm1.len)
   simp_arith[b4 _ _ n3 e1,A8]
   refine⟨p,s,t,R,wf,hs,m,n,_,rfl,N3,s0,s1,fun l2 H5 hl2 q5 el5=>?_⟩
   have eR5:=q5 _ _ eR3
   refine⟨⟨_,l2,_,rfl,b4.trans fun b o _ q=>q5 b o q,eR5,run.snoc hst,hk.1,el5,(iV eR3 hl2).symm⟩,?_⟩
   rw[eR5,eR2]
   dsimp only
   rw[zf,zf]
   have:=hk.2.2
   have:=Fl.IB (hs:=hs) hk.1 t
   lia
 ·intro σ Hc Q1 Q2 hq hc
  exact ET hq hc
structure NtG(C:Addr)(H:Hp)(p dx W Hd R:Addr)(ls:List Addr)(f:Nat->List V)(hv rv:List V):Prop where
 o:H p=some (j0 C dx W Hd R)
 w:H W=some (.lst (ls.map V.ref))
 l:∀(i:Nat) (a:Addr),ls[i]? =some a->H a=some (.lst (f i))/\a≠R/\a≠Hd/\a≠W
 nd:ls.Nodup
 h:H Hd=some (.lst hv)
 r:H R=some (.lst rv)
 n1:W≠R
 n2:Hd≠R
 n3:W≠Hd
noncomputable def pK(H:Hp)(wa Hd R:Addr)(a b c:List V):Hp:=upd (upd (upd H wa (.lst a)) Hd (.lst b)) R (.lst c)
theorem NtG.put{C:Addr}{H:Hp}{p dx W Hd R:Addr}{ls:List Addr}{f:Nat->List V}{hv rv:List V}(G:NtG C H p dx W Hd R ls f hv rv){i:Nat}{wa:Addr}(hi:ls[i]? =some wa)(x y z:V):
  NtG C (pK H wa Hd R (f i++[x]) (hv++[y]) (rv++[z])) p dx W Hd R ls (fun j=>if j=i then f i++[x]else f j) (hv++[y]) (rv++[z]):=by
 obtain⟨a1,a2,a3,a4⟩:=G.l i wa hi
 have p1:p≠wa:=nW G.o a1 (by intro z;cases z)
 have p2:p≠Hd:=nW G.o G.h (by intro z;cases z)
 have p3:p≠R:=nW G.o G.r (by intro z;cases z)
 unfold pK
 refine⟨by rw[iQ p3,iQ p2,iQ p1];exact G.o,by rw[iQ G.n1,iQ G.n3,iQ (di a4)];exact G.w,fun j a ha=>?_,G.nd,by rw[iQ G.n2,iK],iK,G.n1,G.n2,G.n3⟩
 obtain⟨b1,b2,b3,b4⟩:=G.l j a ha
 refine⟨?_,b2,b3,b4⟩
 rw[iQ b2,iQ b3]
 by_cases c:j=i
 ·subst c
  rw[hi]at ha
  cases ha
  rw[aA rfl,iK]
 ·rw[ay c,iQ (fun e=>c ?_)]
  ·exact b1
  ·subst e
   have h1:=(ak.mp ha)
   have h2:=(ak.mp hi)
   exact(fK G.nd).mp (h1.2.trans h2.2.symm)
def zW(C:Addr):Sp:=fun vs H Q _=>∃p dx W Hd R ls f hv rv i wa hd rm,vs=[.ref p,.int ((i:Nat):Int),.int hd,.int rm]/\NtG C H p dx W Hd R ls f hv rv/\ls[i]? =some wa/\(f i).length<=900/\hv.length<=900/\rv.length<=900/\Q .non (pK H wa Hd R (f i++[.int (hv.length:Int)]) (hv++[.int hd]) (rv++[.int rm]))
def yc(C:Addr):Sp:=fun vs H Q _=>∃p dx n al zs as,vs=[.ref p,.int ((n:Nat):Int),.ref al]/\H p=some (.ins C dx [])/\H al=some (.lst zs)/\lg H zs as/\n<=200/\as.length<=450/\(∀a∈as,(0<=a.1/\a.1<(n:Int))/\0<=a.2.1/\a.2.1<(n:Int))/\∀R H',H R=none->But p H H'->Nt C H' p R (Fl.jS as) (Fl.jl as) as.length n (Fl.jT as)->Q .non H'
theorem BL(as:List Fl.jU)(u:Int):(Fl.jS as u).length<=2*as.length:=by
 unfold Fl.jS
 have:=cP (fun w=>decide (Fl.at' (Fl.jl as) (Fl.iW w)=u)) (List.range (2*as.length))
 rw[bz]at this
 exact this
theorem But.upd{p q:Addr}{H H':Hp}{o:HO}(b:But p H H')(h:H q=none):But p H (upd H' q o):=fun c u n e=>by rw[iQ (iV e h)];exact b c u n e
theorem xN(a b:List Nat):nv (a++b)=nv a++nv b:=aq
theorem GC(B:Blt mg)(D:MthAt K C_Net "put_way" "Net.put_way" (jB 5 1) ["self","tail","head","room"] f fd)(T:NetC K mg C_Net):FnOk P w K mg base iR 1 f fd ["self","tail","head","room"] (zW C_Net):=by
 have sc:FnScope ["self","tail","head","room"] ["self","tail","head","room"] (je (jB 5 1)):=by walk_at "SC"
 refine D.F.ok sc (fun vs H Q E h=>?_) (fun cdv A outer s H vs Q E hr h=>?_)
 ·obtain⟨p,dx,W,Hd,R,ls,f,hv,rv,i,wa,hd,rm,rfl,_⟩:=h
  rfl
 obtain⟨p,dx,W,Hd,R,ls,f,hv,rv,i,wa,hd,rm,rfl,G,hi,l1,l2,l3,h⟩:=h
 have hu:=jn hr
 have hu0:_<PySem.cLine:=aF hu
 refine⟨_,(iN (kF (lY bw bG bF mL (iT iU (l6 T.cl T.n_ways_from (qv 0) rfl) (qv 1) (fun _ _=>rfl)) (iH (jq lO rfl B.len bN (iH (l6 T.cl T.n_heads (qv 0) rfl) iI)) iI))) (iN (kF (lY bw bG bF mL (l6 T.cl T.n_heads (qv 0) rfl) (iH (qv 2) iI))) (iS (kF (lY bw bG bF mL (l6 T.cl T.n_rooms (qv 0) rfl) (iH (qv 3) iI)))))),?_⟩
 have e1:=G.o
 have e2:=G.w
 have e3:=G.h
 have hat:=xC hi
 obtain⟨a1,a2,a3,a4⟩:=G.l i wa hi
 have p1:p≠wa:=nW G.o a1 (by intro z;cases z)
 have p2:p≠Hd:=nW G.o G.h (by intro z;cases z)
 refine i7 fun R' hR=>?_
 simp_arith[iX,e1,Bm,qV,e2,hat,a1,e3]
 refine⟨⟨wa,_,rfl,a1⟩,jt (by lia),?_⟩
 have e4:upd H wa (.lst (f i++[.int (hv.length:Int)])) p=some (j0 C_Net dx W Hd R):=by rw[iQ p1];exact e1
 have e5:upd H wa (.lst (f i++[.int (hv.length:Int)])) Hd=some (.lst hv):=by rw[iQ (di a3)];exact e3
 have e6:upd H wa (.lst (f i++[.int (hv.length:Int)])) R=some (.lst rv):=by rw[iQ (di a2)];exact G.r
 subst hR
 refine i7 fun R' hR=>?_
 simp_arith[e4,qV,e5]
 refine⟨⟨Hd,_,rfl,e5⟩,jt (by lia),?_⟩
 have e7:upd (upd H wa (.lst (f i++[.int (hv.length:Int)]))) Hd (.lst (hv++[.int hd])) p=some (j0 C_Net dx W Hd R):=by rw[iQ p2];exact e4
 have e8:upd (upd H wa (.lst (f i++[.int (hv.length:Int)]))) Hd (.lst (hv++[.int hd])) R=some (.lst rv):=by rw[iQ (di G.n2)];exact e6
 subst hR
 simp_arith[e7,oJ,e8]
 exact⟨⟨R,_,rfl,e8⟩,jt (by lia),h⟩
theorem NtG.congr{C:Addr}{H:Hp}{p dx W Hd R:Addr}{ls:List Addr}{f g:Nat->List V}{hv rv hv' rv':List V}(G:NtG C H p dx W Hd R ls f hv rv)(h:∀i,i<ls.length->f i=g i)(e1:hv=hv')(e2:rv=rv'):NtG C H p dx W Hd R ls g hv' rv':=by
 subst e1 e2
 exact ⟨G.o,G.w,fun i a ha=>by rw [<- h i (ak.mp ha).1]; exact G.l i a ha,G.nd,G.h,G.r,G.n1,G.n2,G.n3⟩
theorem zJ{p wa Hd R:Addr}{H H':Hp}{a b c:List V}(s:But p H H')(h1:H wa=none)(h2:H Hd=none)(h3:H R=none):But p H (pK H' wa Hd R a b c):=((s.upd h1).upd h2).upd h3
theorem Eo{as:List Fl.jU}{a:Fl.jU}{i1 i2 j:Nat}(h1:a.1=(i1:Int))(h2:a.2.1=(i2:Int)){x y:V}(hx:x= .int ((2*as.length:Nat):Int))(hy:y= .int ((2*as.length+1:Nat):Int)):
  (if j=i2 then(if i2=i1 then nv (Fl.jS as (i1:Int))++[x]else nv (Fl.jS as (i2:Int)))++[y]else(if j=i1 then nv (Fl.jS as (i1:Int))++[x]else nv (Fl.jS as (j:Int))))=nv (Fl.jS (as++[a]) (j:Int)):=by
 rw[Fl.BJ,xN,xN,h1,h2,hx,hy]
 by_cases c1:j=i1
 ·by_cases c2:j=i2
  ·have:i2=i1:=by lia
   subst c2
   subst this
   rw[aA rfl,aA rfl,aA rfl,aA rfl]
   rfl
  ·subst c1
   rw[ay c2,aA rfl,aA rfl,ay (by lia)]
   show _=_++[]
   rw[aY]
   rfl
 ·by_cases c2:j=i2
  ·subst c2
   rw[aA rfl,ay c1,ay (by lia),aA rfl]
   show _=(_++[])++_
   rw[aY]
   rfl
  ·rw[ay c2,ay c1,ay (by lia),ay (by lia)]
   show _=(_++[])++[]
   rw[aY,aY]
theorem D3(B:Blt mg)(D:MthAt K C_Net "__init__" "Net.__init__" (jB 5 0) ["self","many","arcs"] f fd)(Dqk:MthAt K C_Net "put_way" "Net.put_way" (jB 5 1) ["self","tail","head","room"] fqk dqk)(Gqk:FnOk P w K mg base iR 1 fqk dqk ["self","tail","head","room"] (zW C_Net))(T:NetC K mg C_Net):FnOk P w K mg base iR 2 f fd ["self","many","arcs"] (yc C_Net):=by
 have sc:FnScope ["self","many","arcs","tail","head","room"] ["self","many","arcs"] (je (jB 5 0)):=by walk_at "SC"
 refine D.F.ok sc (fun vs H Q E h=>?_) (fun cdv A outer s H vs Q E hr h=>?_)
 ·obtain⟨p,dx,n,al,zs,as,rfl,_⟩:=h
  rfl
 obtain⟨p,dx,n,al,zs,as,rfl,ep,eal,pz,hn,ha,hok,h⟩:=h
 have hu:=jn hr
 have hu0:_<PySem.cLine:=aF hu
 refine⟨_,(iN (uU T.cl T.n_ways_from (qv 0) (kN (CpScope.of (N:=["knot"]) (src:=[none]) (by rfl)) rfl (pj rfl B.range (iH (qv 1) iI)) (fun _ _ _ _=>(iY (i:=0) (jy (l:=["knot"]) (by rfl)) rfl (Or.inl rfl))) (fun _ _ _ _=>kS) (fun _ _ _ _=>(kx iI))) rfl) (iN (uU T.cl T.n_heads (qv 0) (kx iI) rfl) (iN (uU T.cl T.n_rooms (qv 0) (kx iI) rfl) (iS (kh bf rfl (jO (qv 2)) (ki (n:=3) rfl (ji (iY (i:=3) sc.nd rfl (Or.inl rfl)) (ji (iY (i:=4) sc.nd rfl (Or.inl rfl)) (ji (iY (i:=5) sc.nd rfl (Or.inl rfl)) kj)))) (iN (kF (nc (qv 0) T.cl Dqk.m Gqk (hr.mono (by decide)) Dqk.b .nil iZ (iH (qv 3) (iH (qv 4) (iH (qv 5) iI))))) (iS (kF (nc (qv 0) T.cl Dqk.m Gqk (hr.mono (by decide)) Dqk.b .nil iZ (iH (qv 4) (iH (qv 3) (iH iL iI)))))))))))),?_⟩
 have hlz:zs.length=as.length:=aD pz
 have alp:al≠p:=nW eal ep (by intro z;cases z)
 refine i7 fun R' hR=>?_
 walk_at "D"
 refine kO (me 0 n) H (fun R2 hR2=>?_) (fun W hW=>km n (fun i σ' Hc=>∃w1 ls,σ'=[w1]/\Same H Hc/\Hc W=some (.lst (ls.map V.ref))/\ls.length=i/\ls.Nodup/\∀a∈ls,Hc a=some (.lst [])/\a≠W/\H a=none) ⟨none,[],rfl,iO hW _,iK,rfl,.nil,fun a z=>by cases z⟩ ?_ ?_)
 ·unfold nU
  walk_at "D"
  exact⟨_,rfl,by lia,by lia,hR2⟩
 ·rintro i σ' Hc hi ⟨w1,ls,rfl,s1,eW,hl,nd,hls⟩
  refine⟨hi,?_⟩
  rintro y H' ⟨rfl,rfl⟩
  walk_at "D"
  intro b hb
  have q:=iO hb (.lst [])
  have eb:upd H' b (.lst []) b=some (.lst []):=iK
  have eW2:=q _ _ eW
  have bW:b≠W:=(iV eW hb).symm
  have s2:=s1.trans q
  have hls2:∀a∈ls,upd H' b (.lst []) a=some (.lst [])/\a≠b:=fun a ha=>⟨q _ _ (hls a ha).1,iV (hls a ha).1 hb⟩
  generalize upd H' b (.lst [])=H3 at q eb eW2 s2 hls2
  refine⟨_,eW2,by rw[ae];exact jt (by lia),_,ls++[b],rfl,jJ s2 hW,by rw[iK,aq];rfl,by rw[av,hl];rfl,?_,fun a ha=>?_⟩
  ·rw[bP]
   refine⟨nd,by simp,fun a ha c hc=>?_⟩
   rw[aZ.mp hc]
   exact(hls2 a ha).2
  ·rcases aW.mp ha with ha|ha
   ·refine⟨by rw[iQ (hls a ha).2.1];exact(hls2 a ha).1,(hls a ha).2⟩
   ·rw[aZ.mp ha]
    exact⟨by rw[iQ bW];exact eb,bW,s1.free hb⟩
 rintro σ' H1 ⟨w1,ls,rfl,s1,eW,hl,nd,hls⟩
 refine⟨ao _,?_⟩
 have ep1:=s1 _ _ ep
 simp_arith[ep1]
 refine⟨dU rfl,?_⟩
 have b2:But p H (upd H1 p (.ins C_Net dx (jk "ways_from" (.ref W) []))):=fun b o n q=>by rw[iQ n];exact s1 b o q
 have ep2:upd H1 p (.ins C_Net dx (jk "ways_from" (.ref W) [])) p=some (.ins C_Net dx (jk "ways_from" (.ref W) [])):=iK
 have Wp:W≠p:=(iV ep hW).symm
 have eW2:upd H1 p (.ins C_Net dx (jk "ways_from" (.ref W) [])) W=some (.lst (ls.map V.ref)):=by rw[iQ Wp];exact eW
 have hls2:∀a∈ls,upd H1 p (.ins C_Net dx (jk "ways_from" (.ref W) [])) a=some (.lst [])/\a≠W/\H a=none:=fun a ha=>⟨by rw[iQ (iV ep (hls a ha).2.2).symm];exact(hls a ha).1,(hls a ha).2⟩
 generalize upd H1 p (.ins C_Net dx (jk "ways_from" (.ref W) []))=H2 at b2 ep2 eW2 hls2
 clear hls eW ep1 s1
 have free:∀{H':Hp} {q:Addr},But p H H'->H' p≠none->H' q=none->H q=none:=fun{H' q} b hp hq=>by
  cases e:H q with
  |none=>rfl
  |some o=>
   have hqp:q ≠ p:=fun z=>hp (by rw [<- z]; exact hq)
   rw[b _ _ hqp e]at hq
   cases hq
 subst hR
 refine i7 fun R' hR=>?_
 walk_at "D"
 intro Hd hHd
 have fHd:H Hd=none:=free b2 (by rw[ep2];simp) hHd
 have ep3:upd H2 Hd (.lst []) p=some (.ins C_Net dx (jk "ways_from" (.ref W) [])):=iO hHd _ _ _ ep2
 have eHd:upd H2 Hd (.lst []) Hd=some (.lst []):=iK
 have WHd:W≠Hd:=iV eW2 hHd
 have hls3:∀a∈ls,upd H2 Hd (.lst []) a=some (.lst [])/\a≠Hd:=fun a ha=>⟨iO hHd _ _ _ (hls2 a ha).1,iV (hls2 a ha).1 hHd⟩
 have eW3:=iO hHd (.lst []) _ _ eW2
 have b3:But p H (upd H2 Hd (.lst [])):=b2.upd fHd
 generalize upd H2 Hd (.lst [])=H3 at ep3 eHd hls3 eW3 b3
 simp_arith[ep3]
 refine⟨dU rfl,?_⟩
 have Hdp:Hd≠p:=(iV ep fHd).symm
 have ep4:upd H3 p (.ins C_Net dx (jk "heads" (.ref Hd) (jk "ways_from" (.ref W) []))) p=some (.ins C_Net dx (jk "heads" (.ref Hd) (jk "ways_from" (.ref W) []))):=iK
 have eHd4:upd H3 p (.ins C_Net dx (jk "heads" (.ref Hd) (jk "ways_from" (.ref W) []))) Hd=some (.lst []):=by rw[iQ Hdp];exact eHd
 have eW4:upd H3 p (.ins C_Net dx (jk "heads" (.ref Hd) (jk "ways_from" (.ref W) []))) W=some (.lst (ls.map V.ref)):=by rw[iQ Wp];exact eW3
 have hls4:∀a∈ls,upd H3 p (.ins C_Net dx (jk "heads" (.ref Hd) (jk "ways_from" (.ref W) []))) a=some (.lst []):=fun a ha=>by rw[iQ (iV ep (hls2 a ha).2.2).symm];exact(hls3 a ha).1
 have b4:But p H (upd H3 p (.ins C_Net dx (jk "heads" (.ref Hd) (jk "ways_from" (.ref W) [])))):=b3.trans (But.at p H3 _)
 generalize upd H3 p (.ins C_Net dx (jk "heads" (.ref Hd) (jk "ways_from" (.ref W) [])))=H4 at ep4 eHd4 eW4 hls4 b4
 subst hR
 refine i7 fun R' hR=>?_
 walk_at "D"
 intro R hRn
 have fR:H R=none:=free b4 (by rw[ep4];simp) hRn
 have ep5:upd H4 R (.lst []) p=some (.ins C_Net dx (jk "heads" (.ref Hd) (jk "ways_from" (.ref W) []))):=iO hRn _ _ _ ep4
 have eR5:upd H4 R (.lst []) R=some (.lst []):=iK
 have eHd5:=iO hRn (.lst []) _ _ eHd4
 have eW5:=iO hRn (.lst []) _ _ eW4
 have WR:W≠R:=iV eW4 hRn
 have HdR:Hd≠R:=iV eHd4 hRn
 have hls5:∀a∈ls,upd H4 R (.lst []) a=some (.lst [])/\a≠R:=fun a ha=>⟨iO hRn _ _ _ (hls4 a ha),iV (hls4 a ha) hRn⟩
 have b5:But p H (upd H4 R (.lst [])):=b4.upd fR
 generalize upd H4 R (.lst [])=H5 at ep5 eR5 eHd5 eW5 hls5 b5
 simp_arith[ep5]
 refine⟨dU rfl,?_⟩
 have Rp:R≠p:=(iV ep fR).symm
 have eo:(HO.ins C_Net dx (jk "rooms" (.ref R) (jk "heads" (.ref Hd) (jk "ways_from" (.ref W) []))))=j0 C_Net dx W Hd R:=rfl
 rw[eo]
 have b6:But p H (upd H5 p (j0 C_Net dx W Hd R)):=b5.trans (But.at p H5 _)
 have G0:NtG C_Net (upd H5 p (j0 C_Net dx W Hd R)) p dx W Hd R ls (fun i=>nv (Fl.jS (as.take 0) (i:Int))) ((Fl.jl (as.take 0)).map V.int) ((Fl.jT (as.take 0)).map V.int):=by
  refine⟨iK,by rw[iQ Wp];exact eW5,fun i a hia=>?_,nd,by rw[iQ Hdp];exact eHd5,by rw[iQ Rp];exact eR5,WR,HdR,WHd⟩
  have ha:=aE hia
  exact⟨by rw[iQ (iV ep (hls2 a ha).2.2).symm];exact(hls5 a ha).1,(hls5 a ha).2,(hls3 a ha).2,(hls2 a ha).2.1⟩
 generalize upd H5 p (j0 C_Net dx W Hd R)=H6 at b6 G0
 have fls:∀a∈ls,H a=none:=fun a ha=>(hls2 a ha).2.2
 clear hls2 hls3 hls4 hls5 b2 b3 b4 b5 ep2 ep3 ep4 ep5 eW2 eW3 eW4 eW5 eHd eHd4 eHd5 eR5
 subst hR
 refine kU (jD K al) H6 (fun R3 hR3=>?_) (l8 (K:=K) (a:=al) (xs:=zs) (fun k σ Hc=>∃v1 v2 v3,σ=[some (.ref p),some (.int (n:Int)),some (.ref al),v1,v2,v3]/\But p H Hc/\NtG C_Net Hc p dx W Hd R ls (fun i=>nv (Fl.jS (as.take k) (i:Int))) ((Fl.jl (as.take k)).map V.int) ((Fl.jT (as.take k)).map V.int)) ⟨none,none,none,rfl,b6,G0⟩ (fun i σ Hc _ ⟨_,_,_,_,b,_⟩=>SqL.of (b _ _ alp eal)) ?_ ?_)
 ·unfold jL
  walk_at "D"
  exact⟨al,rfl,⟨_,SqL.of (b6 _ _ alp eal)⟩,hR3⟩
 ·rintro k x σ Hc hx ⟨v1,v2,v3,rfl,b7,G⟩
  obtain⟨a,hka,pa⟩:=kH pz hx
  obtain⟨t,rfl,et⟩:=Tp.tups pa (b7.tups ep rfl)
  have hkl:=(ak.mp hka).1
  obtain⟨⟨h1,h2⟩,h3,h4⟩:=hok a (aE hka)
  have i1:ls[a.1.toNat]? =some (ls[a.1.toNat]'(by lia)):=gE _
  have i2:ls[a.2.1.toNat]? =some (ls[a.2.1.toNat]'(by lia)):=gE _
  generalize ls[a.1.toNat]'(by lia)=w1 at i1
  generalize ls[a.2.1.toNat]'(by lia)=w2 at i2
  have c1:((a.1.toNat:Nat):Int)=a.1:=by lia
  have c2:((a.2.1.toNat:Nat):Int)=a.2.1:=by lia
  have htk:(as.take k).length=k:=by rw[aS];lia
  have hl1:((Fl.jl (as.take k)).map V.int).length=2*k:=by rw[ae,Fl.sN,htk]
  have hl2:((Fl.jT (as.take k)).map V.int).length=2*k:=by rw[ae,Fl.qK,htk]
  have hl3:∀u:Int,(nv (Fl.jS (as.take k) u)).length<=2*k:=fun u=>by
   have:=BL (as.take k) u
   rw[htk]at this
   unfold nv
   rw[ae]
   exact this
  simp_arith[et,G.o,A3]
  refine⟨p,dx,W,Hd,R,ls,_,_,_,a.1.toNat,w1,a.2.1,a.2.2,by rw[c1],G,i1,by have:=hl3 ((a.1.toNat:Nat):Int);lia,by lia,by lia,?_⟩
  have G1:=G.put i1 (.int (((Fl.jl (as.take k)).map V.int).length:Int)) (.int a.2.1) (.int a.2.2)
  have b8:=zJ (wa:=w1) (Hd:=Hd) (R:=R) (a:=nv (Fl.jS (as.take k) ((a.1.toNat:Nat):Int))++[.int (((Fl.jl (as.take k)).map V.int).length:Int)]) (b:=(Fl.jl (as.take k)).map V.int++[.int a.2.1]) (c:=(Fl.jT (as.take k)).map V.int++[.int a.2.2]) b7 (fls _ (aE i1)) fHd fR
  generalize pK Hc w1 Hd R (nv (Fl.jS (as.take k) ((a.1.toNat:Nat):Int))++[.int (((Fl.jl (as.take k)).map V.int).length:Int)]) ((Fl.jl (as.take k)).map V.int++[.int a.2.1]) ((Fl.jT (as.take k)).map V.int++[.int a.2.2])=H8 at G1 b8
  simp_arith[G1.o,A3]
  refine⟨p,dx,W,Hd,R,ls,_,_,_,a.2.1.toNat,w2,a.1,0,by rw[c2],G1,i2,?_,by rw[av,hl1];show _+1<=_;lia,by rw[av,hl2];show _+1<=_;lia,?_⟩
  ·split
   ·rw[av]
    have:=hl3 ((a.1.toNat:Nat):Int)
    show _+1<=_
    lia
   ·have:=hl3 ((a.2.1.toNat:Nat):Int);lia
  have G2:=G1.put i2 (.int ((((Fl.jl (as.take k)).map V.int)++[V.int a.2.1]).length:Int)) (.int a.1) (.int 0)
  have b9:=zJ (wa:=w2) (Hd:=Hd) (R:=R) (a:=(if a.2.1.toNat=a.1.toNat then nv (Fl.jS (as.take k) ((a.1.toNat:Nat):Int))++[.int (((Fl.jl (as.take k)).map V.int).length:Int)]else nv (Fl.jS (as.take k) ((a.2.1.toNat:Nat):Int)))++[.int ((((Fl.jl (as.take k)).map V.int)++[V.int a.2.1]).length:Int)]) (b:=((Fl.jl (as.take k)).map V.int++[.int a.2.1])++[.int a.1]) (c:=((Fl.jT (as.take k)).map V.int++[.int a.2.2])++[.int 0]) b8 (fls _ (aE i2)) fHd fR
  refine⟨_,_,_,rfl,b9,G2.congr (fun j hj=>?_) ?_ ?_⟩
  ·rw[jv hka]
   exact Eo c1.symm c2.symm (by rw[hl1,htk]) (by rw[av,hl1,htk];rfl)
  ·rw[jv hka,Fl.vW,aq,aQ];rfl
  ·rw[jv hka,Fl.xk,aq,aQ];rfl
 ·rintro σ Hc ⟨v1,v2,v3,rfl,b7,G⟩
  rw[hlz,aV]at G
  refine h R Hc fR b7 ⟨⟨dx,W,Hd,ls,G.o,G.w,hl,fun i a hia=>⟨(G.l i a hia).1,(G.l i a hia).2.1⟩,G.h,G.n1,G.n2,Rp.symm⟩,G.r,Fl.xv hok,Fl.qK as,by lia,hn⟩
end
end My
namespace L2
open PySem PySem.Spec PyProof.Rows
theorem zy:∀{vs:List Value} {ns:List Int},IntsAre vs ns->vs.map numOf=ns/\∀v∈vs,∃t,v= .int (numOf v) t
 |_,_,.nil=>⟨rfl,fun _ h=>by cases h⟩
 |_,_,.cons n t r=>by
  obtain⟨a,b⟩:=zy r
  refine⟨by rw[ah,a];rfl,fun v hv=>?_⟩
  rcases aM.mp hv with rfl|hv
  ·exact⟨t,rfl⟩
  ·exact b v hv
theorem Au:∀{vs:List Value},(∀v∈vs,∃t,v= .int (numOf v) t)->IntsAre vs (vs.map numOf)
 |[],_=>.nil
 |v::vs,h=>by
  obtain⟨t,e⟩:=h v (.head _)
  have:=Au (vs:=vs) fun u hu=>h u (.tail _ hu)
  rw[ah]
  have g:∀(v:Value) (n:Int),v= .int n t->IntsAre (v::vs) (n::vs.map numOf):=fun v n e=>by rw[e];exact .cons n t this
  exact g v _ e
def Ef:List V->Hp->VK->Prop:=fun vs H Q=>∃(p:Addr) (kvs:List (iJ×V)) (ns:List Int),vs=[.ref p]/\H p=some (.dK kvs)/\kvs.map (·.1)=ns.map Sum.inl/\ns.length<=900/\
 ∀(l:Addr) (ms:List Int),H l=none->ms.Perm ns->ms.Pairwise (·<=·)->Q (.ref l) (upd H l (.lst (ms.map V.int)))
theorem GS{X:Cx}(hc:X.calm=true):jbw X (.builtin "sorted") Ef:=by
 intro pins s σ H xs us Q I r h
 obtain⟨p,kvs,ns,rfl,e,hk,h64,q⟩:=h
 obtain⟨u,rfl,rx⟩:=mK r
 cases rx
 obtain⟨z,lo,vs',rel,dd⟩:=qS I.hok e
 obtain⟨ep,hat⟩:=dd.dictAt
 have hkl:=rel.length
 have hz9:(1000:Nat)<=sizeLine:=by decide
 have hnl:ns.length=kvs.length:=by
  have:=cx List.length hk
  simpa using this.symm
 refine Calls.call_function_entry kind_sorted plain_sorted entry_sorted (args_sorted1 _) ?_
 unfold Builtin.«sorted»
 refine af (m:=checkCount "sorted" 1 1 _) (aB ?_)
 refine af (PySem.W.kdu_collect (PySem.W.kdl_dict (knd:=jR X.prog X.w) (kvs:=vs') (ep:=ep) lo) (I.ok.hd hc) hat (by lia) fun h' tk acc hkp hacc=>?_)
 have hl:acc.toList.length=vs'.length:=by rw[Array.length_toList];exact hacc.1
 have hI:IntsAre acc.toList ns:=Ax rel hk hl fun j v ej=>hacc.2 j v (by rw [<- bH]; exact ej)
 obtain⟨n1,n2⟩:=zy hI
 refine af (gB ?_ (by lia))
 have hoL:(h'.push (seqObj "list" acc.toList.toArray 0)).get? h'.objs.size=some (seqObj "list" acc.toList.toArray 0):=aR _ rfl
 have hlt:∀b o,h'.get? b=some o->b<h'.objs.size:=fun b o eb=>aL eb
 have keep:∀b o,h'.get? b=some o->b≠h'.objs.size/\(h'.push (seqObj "list" acc.toList.toArray 0)).get? b=some o:=fun b o eb=>⟨aX (hlt b o eb),ag _ eb⟩
 show wpAny _ _ _ _ _ {s with heap:=h'.push (seqObj "list" acc.toList.toArray 0),toks:=tk}
 refine af (cq (dq slot_list_sort ⟨_,hoL,rfl⟩ entry_list_sort (So.yO (s:={s with heap:=h'.push (seqObj "list" acc.toList.toArray 0),toks:=tk}) (R:=fun k=>numOf k.1) (h₁:=h') hoL (by lia) keep (fun h2=>So.Fv hI h2) fun out a1 a2=>⟨_,rfl,?_⟩) (args_list_sort _)))
 refine aB ⟨_,rfl,?_⟩
 have kp:∀b o,h'.get? b=some o->(sortedHeap (h'.push (seqObj "list" acc.toList.toArray 0)) h'.objs.size acc.toList out).get? b=some o:=fun b o eb=>by
  rw[sortedHeap_old (aX (hlt b o eb)) (by rw[size_push'];exact dZ (hlt b o eb)),Heap.get?_push_ne _ _ _ (aX (hlt b o eb))]
  exact eb
 obtain⟨c,hcc⟩:=sortedHeap_at (out:=out) hoL
 have I1:Inv X pins σ H {s with heap:=h',toks:=tk}:=I.kept hkp
 have om:∀v∈out.toList,∃t,v= .int (numOf v) t:=fun v hv=>n2 v (a1.mem_iff.mp hv)
 have pm:(out.toList.map numOf).Perm ns:=by have:=a1.map numOf;rwa[n1]at this
 have hml:=pm.length_eq
 refine⟨.ref h'.objs.size,_,I1.laid (t':=tk) kp (ao _) (show jbk X.prog X.w _ _ _ (.lst ((out.toList.map numOf).map V.int))from⟨?_,out.toList,c,su (Au om),?_⟩),rfl,q _ (out.toList.map numOf) (I1.hok.fresh (ao _)) pm ?_⟩
 ·rw[ae,hml];lia
 ·rw[hcc]
 ·rw[bB];exact a2
end L2
namespace My
open PySem L2
section
variable{P:Program}{w:World}{K:PySem.W.Frag}{mg:Str->Option Value}{base:Heap}{c1 c2 c3 c4 e1 e2 e3:Tok}{C_Net C_NoWeb fqi:Addr}{dI:FuncData}
noncomputable def lM(ns:List Int):List (iJ×V):=ns.map fun n=>(Sum.inl n,V.bl true)
theorem yE:∀(ns:List Int) (n:Int),jH (lM ns) n=decide (n∈ns)
 |[],n=>rfl
 | m::r,n=>by
  have ih:=yE r n
  unfold jH i8 lM at ih ⊢
  rw[ah,List.find?_cons]
  by_cases c:m=n
  ·subst c
   simp
  ·have hd:decide ((Sum.inl m:iJ)=Sum.inl n)=false:=aP fun z=>c (cw z)
   dsimp only
   rw[hd]
   rw[ih,eF,cI,cI,aM]
   exact⟨.inr,fun z=>z.resolve_left fun y=>c y.symm⟩
def yW:Sp:=fun vs H Q _=>∃u,∃ns:List Int,vs=[.ref u]/\H u=some (.lst (ns.map V.int))/\ns.Nodup/\ns.length<=120/\∀d H',H d=none->Same H H'->H' d=some (.dK (lM ns))->Q (.ref d) H'
structure Cst2(mg:Str->Option Value)(t1 t2 t3:Tok):Prop where
 SOURCE:mg "SOURCE"=some (.int 0 t1)
 SINK:mg "SINK"=some (.int 1 t2)
 FIRST:mg "FIRST"=some (.int 2 t3)
theorem vO{ι:Type}{src:List (Option Nat)}{wi:TI}{g:TG}{tc:TT}{te:TE}{Q:VK}{σ:St}{H:Hp}(J:ι->It)(H1:ι->Hp)(ok:ι->Prop)(h1:∀R:It->Hp->Prop,(∀p,ok p->R (J p) (H1 p))->wi σ H R)
  (h2:∀p,ok p->∀l,H1 p l=none->pL (J p) src g tc te Q σ (H1 p) l):rb src wi g tc te σ H Q:=h1 _ h2
theorem pW{α β:Type}(f:α->β):∀(b:Bool) (xs:List α),jg b (xs.map f)=(jg b xs).map f
 |true,[]=>rfl
 |false,[]=>rfl
 |true,x::xs=>by show f x::jg false (xs.map f)=f x::(jg false xs).map f;rw[pW f false xs]
 |false,x::xs=>pW f true xs
def yU(C:Addr):Sp:=fun vs H Q _=>∃p R wf hs m n r,vs=[.ref p]/\Nt C H p R wf hs m n r/\∀l H',H l=none->Same H H'->H' l=some (.lst ((jg false r).map V.int))->Q (.ref l) H'
def yZ(C:Addr):Sp:=fun vs H Q _=>∃p s R wf hs m n r,vs=[.ref p,.int s]/\Nt C H p R wf hs m n r/\0<=s/\s<(n:Int)/\n<=100/\∀(l:Addr) (ms:List Int) (H':Hp),H l=none->Same H H'->H' l=some (.lst (ms.map V.int))->ms.Perm ((Fl.jC wf hs n s r).map (·.1))->Q (.ref l) H'
noncomputable def mM(S:Int->Bool)(many:Int)(ps:List (Int×Int))(k:Nat):List (Int×Int):=(List.range k).map fun i=>((ps.getD i (0,0)).1,(if S (2+(i:Int))=true then 0 else 1)+(if S (2+many+(i:Int))=true then 1 else 0))
def yb:Sp:=fun vs H Q _=>∃v ps ts d kvs,vs=[v,.ref d]/\jdo H v ps ts/\WebOk ps ts/\H d=some (.dK kvs)/\∀l zs H',H l=none->Same H H'->H' l=some (.lst zs)->Prs H' zs (mM (jH kvs) ps.length ps ps.length)->Q (.ref l) H'
noncomputable def nh(fs:List Int)(n:Nat)(ts:List (Int×Int))(k:Nat):List (Int×Int×Int):=((List.range k).map fun j=>((ts.getD j (0,0)).1,(ts.getD j (0,0)).2,Fl.at' fs (2*n+2*j)+Fl.at' fs (2*n+2*j+1))).filter fun d=>decide (d.2.2>0)
def yT:Sp:=fun vs H Q _=>∃v ps ts fl fs,vs=[v,.ref fl]/\jdo H v ps ts/\WebOk ps ts/\H fl=some (.lst (fs.map V.int))/\fs.length=2*ps.length+2*ts.length/\∀l zs H',H l=none->Same H H'->H' l=some (.lst zs)->lg H' zs (nh fs ps.length ts ts.length)->Q (.ref l) H'
theorem oi{α:Type}{l:List α}{i:Nat}{a d:α}(h:l[i]? =some a):l.getD i d=a:=by rw[aJ,h];rfl
theorem Ex{xs:List V}{k:Nat}(h1:k<=xs.length):mB xs (some (k:Int)) none=xs.drop k:=by
 unfold mB HT.jc
 simp only[ay (show ¬(k:Int)<0 by lia)]
 rw[ij (by lia)]
 exact bQ (by rw[cX];exact ao _)
theorem EZ(B:Blt mg)(D:MthAt K C_Net "flows" "Net.flows" (jB 5 6) ["self"] f fd)(T:NetC K mg C_Net):FnOk P w K mg base iR 1 f fd ["self"] (yU C_Net):=by
 have sc:FnScope ["self"] ["self"] (je (jB 5 6)):=by walk_at "SC"
 refine D.F.ok sc (fun vs H Q E h=>?_) (fun cdv A outer s H vs Q E hr h=>?_)
 ·obtain⟨p,R,wf,hs,m,n,r,rfl,_⟩:=h
  rfl
 obtain⟨p,R,wf,hs,m,n,r,rfl,N,h⟩:=h
 have hu:=jn hr
 have hu0:_<PySem.cLine:=aF hu
 refine⟨_,(iS (jh (ux (b:=false) rfl (l6 T.cl T.n_rooms (qv 0) rfl)))),?_⟩
 obtain⟨⟨dx,W,Hd,ls,e1,e2,e3,e4,e5,n1,n2,n3⟩,eR,net,hlen,hbig,hn⟩:=N
 simp_arith[e1,oJ,eR]
 intro l hl
 rw[pW]
 exact h l _ hl (iO hl _) iK
theorem HP(B:Blt mg)(D:MthAt K C_Net "reached_from" "Net.reached_from" (jB 5 7) ["self","source"] f fd)(Dqh:MthAt K C_Net "spread" "Net.spread" (jB 5 4) ["self","source"] fqh dqh)(Gqh:FnOk P w K mg base iR 1 fqh dqh ["self","source"] (vm C_Net))(T:NetC K mg C_Net):FnOk P w K mg base iR 2 f fd ["self","source"] (yZ C_Net):=by
 have sc:FnScope ["self","source"] ["self","source"] (je (jB 5 7)):=by walk_at "SC"
 refine D.F.ok sc (fun vs H Q E h=>?_) (fun cdv A outer s H vs Q E hr h=>?_)
 ·obtain⟨p,s,R,wf,hs,m,n,r,rfl,_⟩:=h
  rfl
 obtain⟨p,s,R,wf,hs,m,n,r,rfl,N,s0,s1,h64,h⟩:=h
 have hu:=jn hr
 have hu0:_<PySem.cLine:=aF hu
 refine⟨_,(iS (jh (jq (GS rfl) rfl B.sorted eB (iH (nc (qv 0) T.cl Dqh.m Gqh (hr.mono (by decide)) Dqh.b .nil iZ (iH (qv 1) iI)) iI)))),?_⟩
 have N0:=N
 obtain⟨⟨dx,W,Hd,ls,e1,e2,e3,e4,e5,n1,n2,n3⟩,eR,net,hlen,hbig,hn⟩:=N
 simp_arith[e1,AN]
 refine⟨p,s,R,wf,hs,m,n,r,rfl,N0,s0,s1,fun d H1 hd q1 ed=>?_⟩
 have hcl:=Fl.nN (r:=r) net ⟨s0,s1⟩ n
 refine⟨d,_,(Fl.jC wf hs n s r).map (·.1),rfl,ed,?_,by rw[ae];exact bE hcl (by lia),fun l ms hl pm _=>?_⟩
 ·unfold kP
  rw[bt,bt]
  rfl
 ·exact h l ms _ (q1.free hl) (q1.trans (iO hl _)) iK pm
theorem Gz(B:Blt mg)(D:DefAt K mg "marked" (iM 11) ["places"] f fd):FnOk P w K mg base iR 1 f fd ["places"] yW:=by
 have sc:FnScope ["places"] ["places"] (je (iM 11)):=by walk_at "SC"
 refine D.F.ok sc (fun vs H Q E h=>?_) (fun cdv A outer s H vs Q E hr h=>?_)
 ·obtain⟨u,ns,rfl,_⟩:=h
  rfl
 obtain⟨u,ns,rfl,eu,nd,hl,h⟩:=h
 have hu:=jn hr
 have hu0:_<PySem.cLine:=aF hu
 refine⟨_,(iS (jh (mr (p6 rfl) rfl B.dict cT (iH (kN (CpScope.of (N:=["place"]) (src:=[none]) (by rfl)) rfl (jO (qv 0)) (fun _ _ _ _=>(iY (i:=0) (jy (l:=["place"]) (by rfl)) rfl (Or.inl rfl))) (fun _ _ _ _=>kS) (fun _ _ _ _=>(kg (iH (qv 0) (iH lN iI))))) iI)))),?_⟩
 walk_at "D"
 refine kO (jD K u) H (fun R hR=>?_) (fun l hl0=>km ns.length (fun i σ' Hc=>∃w1 zs,σ'=[w1]/\Same H Hc/\Hc l=some (.lst zs)/\Paired (PairAt Hc) zs (lM (ns.take i))) ⟨none,[],rfl,iO hl0 _,iK,.nil⟩ ?_ ?_)
 ·unfold jL
  walk_at "D"
  exact⟨u,rfl,⟨_,SqL.of eu⟩,hR⟩
 ·rintro i σ' Hc hi ⟨w1,zs,rfl,s2,ez,pz⟩
  have x1:ns[i]? =some ns[i]:=gE hi
  have X1:(ns.map V.int)[i]? =some (.int ns[i]):=by rw[aC,x1];rfl
  have hlz:zs.length=(lM (ns.take i)).length:=aD pz
  have hlz2:zs.length<=i:=by
   rw[hlz,lM,ae,aS]
   lia
  refine⟨⟨_,_,SqL.of (s2 _ _ eu),X1⟩,?_⟩
  rintro y H' ⟨rfl,hy⟩
  have E1:V.int ns[i]=y:=aI (X1.symm.trans (hy _ (SqL.of (s2 _ _ eu))))
  subst E1
  walk_at "D"
  intro t ht
  have ez2:=iO ht (.tup [.int ns[i],.bl true]) _ _ ez
  have t6:=k6 (ys:=zs++[.ref t]) ez2
  refine⟨zs,ez2,jt (by lia),_,zs++[.ref t],rfl,jJ (s2.trans (iO ht _)) hl0,(by first|rfl|exact iK),?_⟩
  rw[jv x1,lM,aq]
  refine k7 (Paired.mapP pz fun v p q=>?_) ?_
  ·obtain⟨b,e,q⟩:=q
   exact⟨b,e,t6 _ _ rfl (iO ht _ _ _ q)⟩
  ·exact⟨t,rfl,t6 _ _ rfl iK⟩
 ·rintro σ' Hc ⟨w1,zs,rfl,s2,ez,pz⟩
  refine⟨⟨_,SqL.of (s2 _ _ eu),by rw[ae];exact ao _⟩,?_⟩
  rw[aV]at pz
  have hlz:zs.length=(lM ns).length:=aD pz
  rw[lM,ae]at hlz
  simp_arith[ez]
  refine⟨lM ns,pz,by lia,?_,fun d hd=>h d _ (s2.free hd) (s2.trans (iO hd _)) iK⟩
  unfold lM
  rw[bt]
  have e:((fun(x:iJ×V)=>x.1)∘fun(n:Int)=>((Sum.inl n:iJ),V.bl true))=fun(n:Int)=>(Sum.inl n:iJ):=rfl
  rw[e]
  unfold List.Nodup at nd ⊢
  rw[bB]
  exact nd.imp fun q z=>q (cw z)
theorem HU(B:Blt mg)(D:DefAt K mg "halves_reached" (iM 35) ["web","reached"] f fd)(C2:Cst2 mg e1 e2 e3):FnOk P w K mg base iR 1 f fd ["web","reached"] yb:=by
 have sc:FnScope ["web","reached","many","halves","at","pair","left","right"] ["web","reached"] (je (iM 35)):=by walk_at "SC"
 refine D.F.ok sc (fun vs H Q E h=>?_) (fun cdv A outer s H vs Q E hr h=>?_)
 ·obtain⟨v,ps,ts,d,kvs,rfl,_⟩:=h
  rfl
 obtain⟨v,ps,ts,d,kvs,rfl,hw,wk,ed,h⟩:=h
 obtain⟨u,pa,ta,xs,ys,rfl,hu1,hpa,hta,hxs,hys⟩:=hw
 have hxl:=aD hxs
 have hu:=jn hr
 have hu0:_<PySem.cLine:=aF hu
 refine⟨_,(iN (jb (i:=2) sc.nd rfl (Or.inl rfl) (jq lO rfl B.len bN (iH (iT iU (qv 0) iL (fun _ _=>rfl)) iI))) (iN (jb (i:=3) sc.nd rfl (Or.inl rfl) (kx iI)) (iN (kh bf rfl (rJ rfl B.enumerate (iH (iT iU (qv 0) iL (fun _ _=>rfl)) iI)) (ki (n:=2) rfl (ji (iY (i:=4) sc.nd rfl (Or.inl rfl)) (ji (iY (i:=5) sc.nd rfl (Or.inl rfl)) kj))) (iN (jb (i:=6) sc.nd rfl (Or.inl rfl) (zF (ue (qX hu (i9 jM (lU (v:=.int 2) rfl C2.FIRST ⟨_,rfl⟩) (qv 4)) (qv 1))) iL iL)) (iN (jb (i:=7) sc.nd rfl (Or.inl rfl) (zF (ue (qX hu (i9 jM (i9 jM (lU (v:=.int 2) rfl C2.FIRST ⟨_,rfl⟩) (qv 2)) (qv 4)) (qv 1))) iL iL)) (iS (kF (lY bw bG bF mL (qv 3) (iH (kg (iH (iT iU (qv 5) iL (fun _ _=>rfl)) (iH (i9 jM (qv 6) (qv 7)) iI))) iI))))))) (iS (jh (qv 3)))))),?_⟩
 have hpl:=wk.pl
 refine i7 fun R' hR=>?_
 simp_arith[iX,hu1,jw,hpa]
 subst hR
 refine i7 fun R' hR=>?_
 walk_at "D"
 intro l hl
 have q1:=iO hl (.lst [])
 have el:upd H l (.lst []) l=some (.lst []):=iK
 generalize upd H l (.lst [])=H1 at q1 el
 subst hR
 refine i7 fun R' hR=>?_
 refine kU (oz K pa) H1 (fun R3 hR3=>?_) (u9 (K:=K) (a:=pa) (xs:=xs) (fun i σ Hc=>∃v4 v5 v6 v7 zs,σ=[some (.ref u),some (.ref d),some (.int (xs.length:Int)),some (.ref l),v4,v5,v6,v7]/\Same H Hc/\Hc l=some (.lst zs)/\Prs Hc zs (mM (jH kvs) ps.length ps i)) ⟨none,none,none,none,[],rfl,q1,el,.nil⟩ (fun i σ Hc _ ⟨_,_,_,_,_,_,s1,_⟩=>SqL.of (s1 _ _ hpa)) ?_ ?_)
 ·unfold tV
  simp_arith[iX,q1 _ _ hu1,jw]
  exact⟨pa,rfl,⟨_,SqL.of (q1 _ _ hpa)⟩,hR3⟩
 ·rintro i x σ Hc t hx ⟨v4,v5,v6,v7,zs,rfl,s2,el2,pz⟩ ht
  obtain⟨p,hp,px⟩:=kH hxs hx
  have hil:=(ak.mp hp).1
  have q3:=iO ht (.tup [.int i,x])
  have s3:=s2.trans q3
  have et:upd Hc t (.tup [.int i,x]) t=some (.tup [.int i,x]):=iK
  have el3:=q3 _ _ el2
  have pz3:=Prs.same q3 pz
  obtain⟨b,rfl,eb⟩:=px.same s3
  generalize upd Hc t (.tup [.int i,.ref b])=H3 at q3 s3 et el3 pz3 eb
  have ed3:=s3 _ _ ed
  have hzl:=aD pz
  have hhl:(mM (jH kvs) ps.length ps i).length=i:=by unfold mM;rw[ae,bz]
  have key:∀n:Int,(i8 kvs (Sum.inl n:iJ)).isSome=jH kvs n:=fun n=>rfl
  have fin:∀(a c:Int),a=(if jH kvs (2+(i:Int))=true then 0 else 1)->c=(if jH kvs (2+(xs.length:Int)+(i:Int))=true then 1 else 0)->∀t2,H3 t2=none->∃v4 v5 v6 v7 zs',[some (V.ref u),some (.ref d),some (.int (xs.length:Int)),some (.ref l),some (.int i),some (.ref b),some (.int a),some (.int c)]=[some (V.ref u),some (.ref d),some (.int (xs.length:Int)),some (.ref l),v4,v5,v6,v7]/\Same H (upd (upd H3 t2 (.tup [.int p.1,.int (a+c)])) l (.lst (zs++[.ref t2])))/\upd (upd H3 t2 (.tup [.int p.1,.int (a+c)])) l (.lst (zs++[.ref t2])) l=some (.lst zs')/\Prs (upd (upd H3 t2 (.tup [.int p.1,.int (a+c)])) l (.lst (zs++[.ref t2]))) zs' (mM (jH kvs) ps.length ps (i+1)):=fun a c ha hc t2 ht2=>by
   have q4:=iO ht2 (.tup [.int p.1,.int (a+c)])
   have t6:=k6 (ys:=zs++[.ref t2]) (q4 _ _ el3)
   refine⟨_,_,_,_,zs++[.ref t2],rfl,jJ (s3.trans q4) hl,iK,?_⟩
   have eh:mM (jH kvs) ps.length ps (i+1)=mM (jH kvs) ps.length ps i++[(p.1,a+c)]:=by
    unfold mM
    rw[bL,aq,List.map_singleton,oi hp,ha,hc,hxl]
   rw[eh]
   exact k7 (Prs.tups t6 (Prs.same q4 pz3)) ⟨t2,rfl,t6 _ _ rfl iK⟩
  simp_arith[et,ed3,key]
  cases c1:jH kvs (2+(i:Int))<;>cases c3:jH kvs (2+(xs.length:Int)+(i:Int))
  all_goals
   simp_arith[iX,eb,jw,c3,ed3,key]
   refine⟨⟨l,zs,rfl,el3⟩,fun t2 ht2=>?_⟩
   have e9:=fun o=>iO ht2 o _ _ el3
   simp only[e9]
   exact⟨jt (by lia),fin _ _ (by rw[c1];rfl) (by rw[c3];rfl) t2 ht2⟩
 ·rintro σ Hc ⟨v4,v5,v6,v7,zs,rfl,s2,el2,pz⟩
  subst hR
  walk_at "D"
  rw[hxl]at pz
  exact h l zs Hc hl s2 el2 pz
theorem HJ(B:Blt mg)(D:DefAt K mg "dues_flowing" (iM 34) ["web","flows"] f fd):FnOk P w K mg base iR 1 f fd ["web","flows"] yT:=by
 have sc:FnScope ["web","flows","across","amounts"] ["web","flows"] (je (iM 34)):=by walk_at "SC"
 refine D.F.ok sc (fun vs H Q E h=>?_) (fun cdv A outer s H vs Q E hr h=>?_)
 ·obtain⟨v,ps,ts,fl,fs,rfl,_⟩:=h
  rfl
 obtain⟨v,ps,ts,fl,fs,rfl,hw,wk,ef,hfl,h⟩:=h
 obtain⟨u,pa,ta,xs,ys,rfl,hu1,hpa,hta,hxs,hys⟩:=hw
 have hxl:=aD hxs
 have hyl:=aD hys
 have hu:=jn hr
 have hu0:_<PySem.cLine:=aF hu
 refine⟨_,(iN (jb (i:=2) sc.nd rfl (Or.inl rfl) (sd CO (qv 1) (rP (i9 l5 iL (jq lO rfl B.len bN (iH (iT iU (qv 0) iL (fun _ _=>rfl)) iI)))) rM)) (iN (uV (i:=3) sc.nd rfl (Or.inl rfl) (CpScope.of (N:=["there","back"]) (src:=[none,none]) (by rfl)) rfl (uT rfl B.zip (iH (ux (b:=true) rfl (qv 2)) (iH (ux (b:=false) rfl (qv 2)) iI))) (fun _ _ _ _=>(ki (n:=2) rfl (ji (iY (i:=0) (jy (l:=["there","back"]) (by rfl)) rfl (Or.inl rfl)) (ji (iY (i:=1) (jy (l:=["there","back"]) (by rfl)) rfl (Or.inl rfl)) kj)))) (fun _ _ _ _=>kS) (fun _ _ _ _=>(i9 jM (qv 0) (qv 1)))) (iS (jh (kN (CpScope.of (N:=["tie","amount"]) (src:=[none,none]) (by rfl)) rfl (uT rfl B.zip (iH (iT iU (qv 0) iL (fun _ _=>rfl)) (iH (qv 3) iI))) (fun _ _ _ _=>(ki (n:=2) rfl (ji (iY (i:=0) (jy (l:=["tie","amount"]) (by rfl)) rfl (Or.inl rfl)) (ji (iY (i:=1) (jy (l:=["tie","amount"]) (by rfl)) rfl (Or.inl rfl)) kj)))) (fun _ _ _ _=>(rL (kR nS (qv 1) iL (jI _)))) (fun _ _ _ _=>(kg (iH (iT iU (qv 0) iL (fun _ _=>rfl)) (iH (iT iU (qv 0) iL (fun _ _=>rfl)) (iH (qv 1) iI)))))))))),?_⟩
 have hpl:=wk.pl
 have htl:=wk.tl
 refine i7 fun R' hR=>?_
 simp_arith[iX,hu1,jw,hpa,ef]
 refine⟨mN (by decide) (by decide),?_⟩
 intro ac hac
 rw [show (2:Int) * (xs.length:Int) = ((2 * ps.length:Nat):Int) by lia,Ex (by rw [ae]; lia),<- List.map_drop]
 have q1:=iO hac (.lst ((fs.drop (2*ps.length)).map V.int))
 have ea:upd H ac (.lst ((fs.drop (2*ps.length)).map V.int)) ac=some (.lst ((fs.drop (2*ps.length)).map V.int)):=iK
 generalize upd H ac (.lst ((fs.drop (2*ps.length)).map V.int))=H1 at q1 ea
 have hgl:(fs.drop (2*ps.length)).length=2*ts.length:=by rw[cX];lia
 have hgat:∀k,Fl.at' (fs.drop (2*ps.length)) k=Fl.at' fs (2*ps.length+k):=fun k=>by unfold Fl.at';rw[aJ,aJ,List.getElem?_drop]
 generalize fs.drop (2*ps.length)=gs at*
 have la:∀b,(jg b gs).length=ts.length:=fun b=>by
  have hb1:(if b=true then 0 else 1:Nat)<=1:=by split<;>decide
  have h1:=n5 b gs
  have hlt:∀j,j<ts.length->j<(jg b gs).length:=fun j hj=>by
   have:=h1 j
   rw[gE (show 2*j+(if b=true then 0 else 1)<gs.length by lia)]at this
   exact(ak.mp this).1
  have hge:¬ts.length<(jg b gs).length:=fun z=>by
   have:=h1 ts.length
   rw[gE z,bD (show gs.length<=2*ts.length+(if b=true then 0 else 1) by lia)]at this
   cases this
  by_cases c:ts.length=0
  ·lia
  ·have:=hlt (ts.length-1) (by lia)
   lia
 subst hR
 refine i7 fun R' hR=>?_
 walk_at "D"
 refine vO (ι:=Addr×Addr×Hp) (fun y=>ni true K y.1 y.2.1) (fun y=>y.2.2) (fun y=>Same H1 y.2.2/\y.2.2 y.1=some (.lst ((jg true gs).map V.int))/\y.2.2 y.2.1=some (.lst ((jg false gs).map V.int))) (fun R2 hR2=>?_) ?_
 ·unfold qW
  simp_arith[ea]
  intro b1 hb1
  rw[pW]
  have s1:=iO hb1 (.lst ((jg true gs).map V.int))
  have eb1:upd H1 b1 (.lst ((jg true gs).map V.int)) b1=some (.lst ((jg true gs).map V.int)):=iK
  generalize upd H1 b1 (.lst ((jg true gs).map V.int))=H2 at s1 eb1
  simp_arith[s1 _ _ ea]
  intro b2 hb2
  rw[pW]
  have s2:=s1.trans (iO hb2 (.lst ((jg false gs).map V.int)))
  have eb2:upd H2 b2 (.lst ((jg false gs).map V.int)) b2=some (.lst ((jg false gs).map V.int)):=iK
  have eb1':=iO hb2 (.lst ((jg false gs).map V.int)) _ _ eb1
  generalize upd H2 b2 (.lst ((jg false gs).map V.int))=H3 at s2 eb2 eb1'
  exact⟨true,b1,b2,rfl,⟨_,SqL.of eb1'⟩,⟨_,SqL.of eb2⟩,hR2 (b1,b2,H3) ⟨s2,eb1',eb2⟩⟩
 rintro⟨b1,b2,H3⟩ ⟨s3,eb1,eb2⟩ am ham
 refine km ts.length (fun i σ' Hc=>∃w1 w2,σ'=[w1,w2]/\Same H3 Hc/\Hc am=some (.lst (((List.range i).map fun j=>Fl.at' gs (2*j)+Fl.at' gs (2*j+1)).map V.int))) ⟨none,none,rfl,iO ham _,iK⟩ ?_ ?_
 ·rintro i σ' Hc hi ⟨w1,w2,rfl,s4,em⟩
  have z1:jY true K Hc b1 ((jg true gs).map V.int):=SqL.of (s4 _ _ eb1)
  have z2:jY true K Hc b2 ((jg false gs).map V.int):=SqL.of (s4 _ _ eb2)
  have at1':∀b,(jg b gs)[i]? =some (Fl.at' gs (2*i+(if b then 0 else 1))):=fun b=>by
   rw[n5,gE (by cases b<;>simp<;>lia)]
   unfold Fl.at'
   rw[aJ,gE (by cases b<;>simp<;>lia)]
   rfl
  have x1:((jg true gs).map V.int)[i]? =some (.int (Fl.at' gs (2*i))):=by rw[aC,at1' true];rfl
  have x2:((jg false gs).map V.int)[i]? =some (.int (Fl.at' gs (2*i+1))):=by rw[aC,at1' false];rfl
  refine⟨⟨_,_,_,_,z1,z2,x1,x2⟩,?_⟩
  rintro x H' ⟨t,y1,y2,ht,rfl,rfl,g1,g2⟩
  have E1:=aI (x1.symm.trans (g1 _ z1))
  have E2:=aI (x2.symm.trans (g2 _ z2))
  subst E1 E2
  have q5:=iO ht (.tup [.int (Fl.at' gs (2*i)),.int (Fl.at' gs (2*i+1))])
  simp_arith[iK]
  refine⟨_,q5 _ _ em,?_,_,_,rfl,jJ (s4.trans q5) ham,?_⟩
  ·rw[ae,ae,bz]
   exact jt (by lia)
  ·try rw[iK]
   rw[bL,aq,aq]
   rfl
 rintro σ' H4 ⟨w1,w2,rfl,s4,em⟩
 refine⟨⟨_,_,SqL.of (s4 _ _ eb1),SqL.of (s4 _ _ eb2),.inl (by rw[ae,la];exact ao _)⟩,?_⟩
 have s5:=(q1.trans s3).trans s4
 walk_at "D"
 subst hR
 walk_at "D"
 refine kO (ni true K ta am) H4 (fun R2 hR2=>?_) (fun l hl0=>km ts.length (fun i σ' Hc=>∃w1 w2 zs,σ'=[w1,w2]/\Same H4 Hc/\Hc l=some (.lst zs)/\lg Hc zs (nh fs ps.length ts i)) ⟨none,none,[],rfl,iO hl0 _,iK,.nil⟩ ?_ ?_)
 ·unfold qW
  simp_arith[iX,s5 _ _ hu1,jQ]
  exact⟨true,ta,am,rfl,⟨_,SqL.of (s5 _ _ hta)⟩,⟨_,SqL.of em⟩,hR2⟩
 ·rintro i σ' Hc hi ⟨w1,w2,zs,rfl,s6,el,pz⟩
  have s7:=s5.trans s6
  have z1:jY true K Hc ta ys:=SqL.of (s7 _ _ hta)
  have z2:jY true K Hc am (((List.range ts.length).map fun j=>Fl.at' gs (2*j)+Fl.at' gs (2*j+1)).map V.int):=SqL.of (s6 _ _ em)
  have x1:ys[i]? =some (ys[i]'(by lia)):=gE _
  have x2:(((List.range ts.length).map fun j=>Fl.at' gs (2*j)+Fl.at' gs (2*j+1)).map V.int)[i]? =some (.int (Fl.at' gs (2*i)+Fl.at' gs (2*i+1))):=by
   rw[aC,aC,fe hi];rfl
  refine⟨⟨_,_,_,_,z1,z2,x1,x2⟩,?_⟩
  rintro x H' ⟨t,y1,y2,ht,rfl,rfl,g1,g2⟩
  have E2:=aI (x2.symm.trans (g2 _ z2))
  subst E2
  obtain⟨tt,htt,pt⟩:=kH hys (g1 _ z1)
  have q8:=iO ht (.tup [y1,.int (Fl.at' gs (2*i)+Fl.at' gs (2*i+1))])
  have s8:=s7.trans q8
  obtain⟨tb,rfl,etb⟩:=pt.same s8
  have et:upd Hc t (.tup [.ref tb,.int (Fl.at' gs (2*i)+Fl.at' gs (2*i+1))]) t=some (.tup [.ref tb,.int (Fl.at' gs (2*i)+Fl.at' gs (2*i+1))]):=iK
  have el8:=q8 _ _ el
  have pz8:=kG q8.tups pz
  have s68:=s6.trans q8
  generalize upd Hc t (.tup [.ref tb,.int (Fl.at' gs (2*i)+Fl.at' gs (2*i+1))])=H8 at q8 s8 etb et el8 pz8 s68
  have hdu:nh fs ps.length ts (i+1)=nh fs ps.length ts i++(if Fl.at' gs (2*i)+Fl.at' gs (2*i+1)>0 then[(tt.1,tt.2,Fl.at' gs (2*i)+Fl.at' gs (2*i+1))]else[]):=by
   unfold nh
   rw[bL,aq,dG,List.map_singleton,oi htt,hgat,hgat,gD]
   congr 1
   rw[bV]
   by_cases c:Fl.at' fs (2*ps.length+2*i)+Fl.at' fs (2*ps.length+(2*i+1))>0
   ·rw[aA c,aA (aK c)];rfl
   ·rw[ay c,ay (by simpa using c)];rfl
  have hzl:=aD pz
  have hzl2:zs.length<=i:=by
   rw[hzl]
   unfold nh
   refine bE (cP _ _) ?_
   rw[ae,bz]
   exact ao _
  simp_arith[et]
  refine ou (fun c=>?_) (fun c=>?_)
  ·rw[aA (cG c)]at hdu
   simp_arith[iX,etb,jw,jQ]
   intro t2 ht2
   have q9:=iO ht2 (.tup [.int tt.1,.int tt.2,.int (Fl.at' gs (2*i)+Fl.at' gs (2*i+1))])
   have el9:=q9 _ _ el8
   have t9:=k6 (ys:=zs++[.ref t2]) el9
   refine⟨zs,el9,jt (by lia),_,_,zs++[.ref t2],rfl,jJ (s68.trans q9) hl0,(by first|rfl|exact iK),?_⟩
   rw[hdu]
   exact k7 (kG t9 (kG q9.tups pz8)) ⟨t2,rfl,t9 _ _ rfl iK⟩
  ·rw[ay (fun z=>c (aK z)),aY]at hdu
   rw[hdu]
   exact⟨_,_,zs,rfl,s68,el8,pz8⟩
 ·rintro σ' Hc ⟨w1,w2,zs,rfl,s6,el,pz⟩
  refine⟨⟨_,_,SqL.of ((s5.trans s6) _ _ hta),SqL.of (s6 _ _ em),.inl (by lia)⟩,?_⟩
  exact h l zs Hc (s5.free hl0) (s5.trans s6) el pz
end
end My
namespace L2
open PySem PySem.Spec PyProof.Rows
section
variable{X:Cx}
theorem F8:seqSlot? (.type "list") (dunderI "add")=pure (some (.builtin "list.__iadd__")):=PySem.seqSlot_of hU.lookup (by decide+kernel)
theorem Gr:fillsInplaceSlot (.type "list") "add" (Operator.Add== .Add)=pure false:=by
 unfold fillsInplaceSlot
 show(typeLookup (.type "list") (dunderI "add")>>=fun fi=>pure (fi.isSome&& !isSeqSlot fi))=pure false
 rw[hU.lookup]
 have:isSeqSlot (some (Value.builtin "list.__iadd__"))=true:=by decide+kernel
 show(pure (true&& !isSeqSlot (some (Value.builtin "list.__iadd__"))):Sem Bool)=pure false
 rw[this]
 rfl
def j5:mO:=fun x y H Q=>match x,y with
 | .ref l,.ref b=>match H l,H b with
  |some (.lst xs),some (.lst zs)=>xs.length+zs.length<=sizeLine/\Q (.ref l) (upd H l (.lst (xs++zs)))
  |_,_=>False
 |_,_=>False
theorem DR:oy X .Add j5:=by
 intro pins s σ H x y v u Q I rx ry h
 unfold j5 at h
 split at h
 ·rename_i l b
  split at h
  ·rename_i xs zs hH hB
   obtain⟨hz,q⟩:=h
   cases rx
   cases ry
   obtain⟨z,its,n,r,hl,e⟩:=I.lstM hH
   obtain⟨z2,its2,n2,r2,hl2,e2⟩:=I.lstM hB
   have hsz:its.toArray.size+its2.toArray.size<=sizeLine:=by rw[au,au];lia
   have hlong:¬(!its.toArray.isEmpty&&Builtin.List.listTooLong (its.toArray.size+its2.toArray.size))=true:=by
    rw[zD hsz,eP]
    exact aU
   have ha:s.TypeIs (.ref l) "list":=⟨_,e,rfl⟩
   have hb:s.TypeIs (.ref b) "list":=⟨_,e2,rfl⟩
   unfold inplaceOp
   refine cq ?_
   refine af (eI ha (af (gq Gr ?_)))
   show wpAny _ _ (if false=true then _ else _) _ _ s
   rw[ay aU]
   refine af (wpAny_binaryOp1_none (nm:="add") ha hb noFill_list_add ?_)
   refine af (gq F8 ?_)
   refine af (cY ?_)
   refine iu hU ha F.entry_list_iadd (F.args_list_iadd_2 _ _)
    (AutoSeq1.list___iadd___list_list_0 l its.toArray n b its2.toArray n2 hlong (by rw[au];lia) (by lia)) ⟨e,e2,?_⟩
   refine⟨.ref l,_,I.lset (its':=its++its2) hH e (by simp) (r.append r2) ?_,rfl,q⟩
   rw[av]
   lia
  ·exact h.elim
 ·exact h.elim
end
end L2
namespace My
open PySem L2
section
variable{P:Program}{w:World}{K:PySem.W.Frag}{mg:Str->Option Value}{base:Heap}{c1 c2 c3 c4 e1 e2 e3:Tok}{C_Net C_NoWeb fqi:Addr}{dI:FuncData}
noncomputable def j9(ps:List (Int×Int))(k:Nat):List (Int×Int):=(List.range k).map fun i=>((ps.getD i (0,0)).1,2+(i:Int))
theorem uX(ps:List (Int×Int)):∀k,k<=ps.length->(j9 ps k).map (·.1)=(ps.take k).map (·.1)
 |0,_=>by simp[j9]
 |k+1,h=>by
  have hk:ps[k]? =some ps[k]:=gE (by lia)
  have ih:=uX ps k (by lia)
  unfold j9 at ih ⊢
  rw[bL,aq,aq,ih,jv hk,aq,List.map_singleton,List.map_singleton,List.map_singleton,oi hk]
noncomputable def jA(ps:List (Int×Int))(n:Int):Int:=kJ (j9 ps ps.length) n
noncomputable def ly(ps:List (Int×Int)):Int:=1+(ps.map (·.2)).sum
noncomputable def jz(ps ts:List (Int×Int)):List Fl.jU:=Fl.lX (jA ps) (ly ps) ps ts
theorem uB{ps ts:List (Int×Int)}(wk:WebOk ps ts):((j9 ps ps.length).map (·.1)).Nodup:=by
 rw[uX ps ps.length (ao _),aV]
 exact wk.p.nodup
theorem p7{ps ts:List (Int×Int)}(wk:WebOk ps ts){n:Int}(h:n∈ps.map (·.1)):i8 (jx (j9 ps ps.length)) (Sum.inl n:iJ)=some (.int (jA ps n)):=by
 refine oW (uB wk) ?_
 rw[uX ps ps.length (ao _),aV]
 exact h
theorem rp{ps ts:List (Int×Int)}(wk:WebOk ps ts){i:Nat}{p:Int}(h:(ps.map (·.1))[i]? =some p):jA ps p=2+(i:Int):=by
 have hi:=(ak.mp h).1
 rw[ae]at hi
 have hm:(p,2+(i:Int))∈j9 ps ps.length:=by
  unfold j9
  refine aw.mpr ⟨i,bg.mpr hi,?_⟩
  rw[aC,gE hi]at h
  have h2:ps[i].1=p:=aI h
  rw[oi (gE hi),h2]
 have e:=oY (uB wk) hm
 rw[p7 wk (aE h)]at e
 exact V.int.inj (aI e)
theorem B9{ps ts:List (Int×Int)}(wk:WebOk ps ts){p:Int}(h:p∈ps.map (·.1)):2<=jA ps p/\jA ps p<2+(ps.length:Int):=by
 obtain⟨i,hi,e⟩:=bA.mp h
 rw[rp wk (i:=i) (by rw[gE hi,e])]
 rw[ae]at hi
 lia
theorem pX{ps ts:List (Int×Int)}(wk:WebOk ps ts):∀t∈ts,t.1∈ps.map (·.1)/\t.2∈ps.map (·.1):=fun t ht=>by
 obtain⟨_,a,b⟩:=wk.t.in t ht
 exact⟨pZ a,pZ b⟩
theorem PlOk.pos:∀{ps:List (Int×Int)} {l s:Int},PlOk l s ps->∀p∈ps,1<=p.2
 |[],_,_,_,p,h=>by cases h
 |q::r,l,s,h,p,hp=>by
  rcases aM.mp hp with e|hp
  ·rw[e];exact h.1.2.2.1
  ·exact PlOk.pos h.2 p hp
theorem uY{ps ts:List (Int×Int)}(wk:WebOk ps ts):∀a∈jz ps ts,((0<=a.1/\a.1<((2+(ps.length+ps.length):Nat):Int))/\0<=a.2.1/\a.2.1<((2+(ps.length+ps.length):Nat):Int))/\0<=a.2.2:=
 Fl.IQ (fun p hp=>B9 wk hp) (pX wk) (fun p hp=>by have:=wk.p.pos p hp;lia) (by
  have h:0<=(ps.map (·.2)).sum:=by
   have:=Fl.qJ (f:=fun _=>(0:Int)) (g:=fun p:Int×Int=>p.2) (l:=ps) fun p hp=>by have:=wk.p.pos p hp;lia
   rw[Fl.mP]at this
   exact this
  unfold ly
  lia)
theorem sh(ps ts:List (Int×Int)):(jz ps ts).length=ps.length+ps.length+2*ts.length:=Fl.IR _ _ _ _
def AC(C:Addr):Sp:=fun vs H Q _=>∃v ps ts,vs=[v]/\jdo H v ps ts/\WebOk ps ts/\∀p R H',H R=none->Same H H'->Nt C H' p R (Fl.jS (jz ps ts)) (Fl.jl (jz ps ts)) (jz ps ts).length (2+(ps.length+ps.length)) (Fl.jT (jz ps ts))->Q (.ref p) H'
theorem Ba(sp:Int->Int)(n pl:Int)(t:Int×Int):∀ts,Fl.lK sp n pl (ts++[t])=(Fl.lK sp n pl ts++[(sp t.1,sp t.2+n,pl)])++[(sp t.2,sp t.1+n,pl)]
 |[]=>rfl
 |u::r=>by rw[List.cons_append,Fl.lK,Ba sp n pl t r];rfl
theorem qk{α β:Type}{F:α->β->Prop}:∀{xs xs':List α} {ys ys':List β},Paired F xs ys->Paired F xs' ys'->Paired F (xs++xs') (ys++ys')
 |_,_,_,_,.nil,h=>h
 |_,_,_,_,.cons a t,h=>.cons a (qk t h)
theorem GA(B:Blt mg)(D:DefAt K mg "doubled" (iM 33) ["web"] f fd)(Dqm:MthAt K C_Net "__init__" "Net.__init__" (jB 5 0) ["self","many","arcs"] fqm dqm)(Gqm:FnOk P w K mg base iR 2 fqm dqm ["self","many","arcs"] (yc C_Net))(T:NetC K mg C_Net)(C2:Cst2 mg e1 e2 e3)(MK:Mk K C_Net fqm):FnOk P w K mg base iR 5 f fd ["web"] (AC C_Net):=by
 have sc:FnScope ["web","many","plenty","spots","arcs","one","other"] ["web"] (je (iM 33)):=by walk_at "SC"
 refine D.F.ok sc (fun vs H Q E h=>?_) (fun cdv A outer s H vs Q E hr h=>?_)
 ·obtain⟨v,ps,ts,rfl,_⟩:=h
  rfl
 obtain⟨v,ps,ts,rfl,hw,wk,h⟩:=h
 obtain⟨u,pa,ta,xs,ys,rfl,hu1,hpa,hta,hxs,hys⟩:=hw
 have hxl:=aD hxs
 have hyl:=aD hys
 have hu:=jn hr
 have hu0:_<PySem.cLine:=aF hu
 refine⟨_,(iN (jb (i:=1) sc.nd rfl (Or.inr rfl) (jq lO rfl B.len bN (iH (iT iU (qv 0) iL (fun _ _=>rfl)) iI))) (iN (jb (i:=2) sc.nd rfl (Or.inl rfl) (i9 jM iL (jq (pQ rfl) rfl B.sum dR (iH (kN (CpScope.of (N:=["place","price"]) (src:=[none,none]) (by rfl)) rfl (jO (iT iU (qv 0) iL (fun _ _=>rfl))) (fun _ _ _ _=>(ki (n:=2) rfl (ji (iY (i:=0) (jy (l:=["place","price"]) (by rfl)) rfl (Or.inl rfl)) (ji (iY (i:=1) (jy (l:=["place","price"]) (by rfl)) rfl (Or.inl rfl)) kj)))) (fun _ _ _ _=>kS) (fun _ _ _ _=>(qv 1))) iI)))) (iN (jb (i:=3) sc.nd rfl (Or.inr rfl) (mr (p6 rfl) rfl B.dict cT (iH (kN (CpScope.of (N:=["at","pair"]) (src:=[none,none]) (by rfl)) rfl (rJ rfl B.enumerate (iH (iT iU (qv 0) iL (fun _ _=>rfl)) iI)) (fun _ _ _ _=>(ki (n:=2) rfl (ji (iY (i:=0) (jy (l:=["at","pair"]) (by rfl)) rfl (Or.inl rfl)) (ji (iY (i:=1) (jy (l:=["at","pair"]) (by rfl)) rfl (Or.inl rfl)) kj)))) (fun _ _ _ _=>kS) (fun _ _ _ _=>(kg (iH (iT iU (qv 1) iL (fun _ _=>rfl)) (iH (i9 jM (lU (v:=.int 2) rfl C2.FIRST ⟨_,rfl⟩) (qv 0)) iI))))) iI))) (iN (uV (i:=4) sc.nd rfl (Or.inl rfl) (CpScope.of (N:=["place","price","spots"]) (src:=[none,none,some 3]) (by rfl)) rfl (jO (iT iU (qv 0) iL (fun _ _=>rfl))) (fun _ _ _ _=>(ki (n:=2) rfl (ji (iY (i:=0) (jy (l:=["place","price","spots"]) (by rfl)) rfl (Or.inl rfl)) (ji (iY (i:=1) (jy (l:=["place","price","spots"]) (by rfl)) rfl (Or.inl rfl)) kj)))) (fun _ _ _ _=>kS) (fun _ _ _ _=>(kg (iH (lU (v:=.int 0) rfl C2.SOURCE ⟨_,rfl⟩) (iH (k4 hu (qv 2) (qv 0) (fun _ _=>rfl)) (iH (qv 1) iI)))))) (iN (rn (i:=4) sc.nd rfl (Or.inl rfl) (kN (CpScope.of (N:=["place","price","many","spots"]) (src:=[none,none,some 1,some 3]) (by rfl)) rfl (jO (iT iU (qv 0) iL (fun _ _=>rfl))) (fun _ _ _ _=>(ki (n:=2) rfl (ji (iY (i:=0) (jy (l:=["place","price","many","spots"]) (by rfl)) rfl (Or.inl rfl)) (ji (iY (i:=1) (jy (l:=["place","price","many","spots"]) (by rfl)) rfl (Or.inl rfl)) kj)))) (fun _ _ _ _=>kS) (fun _ _ _ _=>(kg (iH (i9 jM (k4 hu (qv 3) (qv 0) (fun _ _=>rfl)) (qv 2)) (iH (lU (v:=.int 1) rfl C2.SINK ⟨_,rfl⟩) (iH (qv 1) iI)))))) DR) (iN (kh bf rfl (jO (iT iU (qv 0) iL (fun _ _=>rfl))) (ki (n:=2) rfl (ji (iY (i:=5) sc.nd rfl (Or.inl rfl)) (ji (iY (i:=6) sc.nd rfl (Or.inl rfl)) kj))) (iN (kF (lY bw bG bF mL (qv 4) (iH (kg (iH (k4 hu (qv 3) (qv 5) (fun _ _=>rfl)) (iH (i9 jM (k4 hu (qv 3) (qv 6) (fun _ _=>rfl)) (qv 1)) (iH (qv 2) iI)))) iI))) (iS (kF (lY bw bG bF mL (qv 4) (iH (kg (iH (k4 hu (qv 3) (qv 6) (fun _ _=>rfl)) (iH (i9 jM (k4 hu (qv 3) (qv 5) (fun _ _=>rfl)) (qv 1)) (iH (qv 2) iI)))) iI)))))) (iS (jh (D8 MK Gqm (hr.mono (by decide)) rfl T.m Dqm.b .nil iZ (iH (i9 jM (lU (v:=.int 2) rfl C2.FIRST ⟨_,rfl⟩) (i9 l5 iL (qv 1))) (iH (qv 4) iI))))))))))),?_⟩
 have hpl:=wk.pl
 have htl:=wk.tl
 refine i7 fun R' hR=>?_
 simp_arith[j5,iX,hu1,jw,hpa]
 subst hR
 refine i7 fun R' hR=>?_
 simp_arith[j5]
 refine kO (jD K pa) H (fun R2 hR2=>?_) (fun z hz0=>km ps.length (fun i σ' Hc=>∃w1 w2,σ'=[w1,w2]/\Same H Hc/\Hc z=some (.lst (((ps.take i).map (·.2)).map V.int))) ⟨none,none,rfl,iO hz0 _,iK⟩ ?_ ?_)
 ·unfold jL
  simp_arith[j5,iX,hu1,jw]
  exact⟨pa,rfl,⟨_,SqL.of hpa⟩,hR2⟩
 ·rintro i σ' Hc hi ⟨w1,w2,rfl,s7,ez⟩
  have x1:xs[i]? =some (xs[i]'(by lia)):=gE _
  refine⟨⟨_,_,SqL.of (s7 _ _ hpa),x1⟩,?_⟩
  rintro y H' ⟨rfl,hy⟩
  have E1:=aI (x1.symm.trans (hy _ (SqL.of (s7 _ _ hpa))))
  obtain⟨pr,hpr,px⟩:=kH hxs x1
  rw[E1]at px
  obtain⟨b,rfl,hb⟩:=px.same s7
  simp_arith[j5,hb]
  refine⟨_,ez,?_,_,_,rfl,jJ s7 hz0,?_⟩
  ·rw[ae,ae,aS]
   exact jt (by lia)
  ·rw[iK,jv hpr,aq,aq]
   rfl
 rintro σ' H1 ⟨w1,w2,rfl,s1,ez⟩
 refine⟨⟨_,SqL.of (s1 _ _ hpa),by lia⟩,?_⟩
 rw[aV]at ez
 refine⟨z,_,rfl,ez,?_⟩
 simp_arith[j5]
 rw[show(1:Int)+(ps.map (·.2)).sum=ly ps from rfl]
 clear ez
 subst hR
 refine i7 fun R' hR=>?_
 simp_arith[j5]
 refine kO (oz K pa) H1 (fun R2 hR2=>?_) (fun z hz0=>km ps.length (fun i σ' Hc=>∃w1 w2 zs,σ'=[w1,w2]/\Same H1 Hc/\Hc z=some (.lst zs)/\Prs Hc zs (j9 ps i)) ⟨none,none,[],rfl,iO hz0 _,iK,.nil⟩ ?_ ?_)
 ·unfold tV
  simp_arith[j5,iX,s1 _ _ hu1,jw]
  exact⟨pa,rfl,⟨_,SqL.of (s1 _ _ hpa)⟩,hR2⟩
 ·rintro i σ' Hc hi ⟨w1,w2,zs,rfl,s2,ez,pz⟩
  have s3:=s1.trans s2
  have x1:xs[i]? =some (xs[i]'(by lia)):=gE _
  have z1:SqL K Hc pa xs:=SqL.of (s3 _ _ hpa)
  refine⟨⟨_,_,z1,x1⟩,?_⟩
  rintro x H' ⟨t,y,ht,rfl,rfl,g⟩
  obtain⟨p,hp,px⟩:=kH hxs (g _ z1)
  have q4:=iO ht (.tup [.int i,y])
  have s4:=s3.trans q4
  obtain⟨b,rfl,eb⟩:=px.same s4
  have et:upd Hc t (.tup [.int i,.ref b]) t=some (.tup [.int i,.ref b]):=iK
  have ez4:=q4 _ _ ez
  have pz4:=Prs.same q4 pz
  have s24:=s2.trans q4
  generalize upd Hc t (.tup [.int i,.ref b])=H4 at q4 s4 eb et ez4 pz4 s24
  have hzl:zs.length=i:=by rw[aD pz];unfold j9;rw[ae,bz]
  simp_arith[j5,et,iX,eb,jw]
  intro t2 ht2
  have q5:=iO ht2 (.tup [.int p.1,.int (2+(i:Int))])
  have ez5:=q5 _ _ ez4
  have t6:=k6 (ys:=zs++[.ref t2]) ez5
  refine⟨zs,ez5,jt (by lia),_,_,zs++[.ref t2],rfl,jJ (s24.trans q5) hz0,(by first|rfl|exact iK),?_⟩
  have e:j9 ps (i+1)=j9 ps i++[(p.1,2+(i:Int))]:=by
   unfold j9
   rw[bL,aq,List.map_singleton,oi hp]
  rw[e]
  exact k7 (Prs.tups t6 (Prs.same q5 pz4)) ⟨t2,rfl,t6 _ _ rfl iK⟩
 rintro σ' H2 ⟨w1,w2,zs,rfl,s2,ez,pz⟩
 have s3:=s1.trans s2
 refine⟨⟨_,SqL.of (s3 _ _ hpa),by lia⟩,?_⟩
 have hzl:zs.length=ps.length:=by rw[aD pz];unfold j9;rw[ae,bz]
 simp_arith[j5,ez]
 refine⟨jx (j9 ps ps.length),qc pz,by lia,sH (uB wk),fun d hd0=>?_⟩
 have s4:=s3.trans (iO hd0 (.dK (jx (j9 ps ps.length))))
 have ed:upd H2 d (.dK (jx (j9 ps ps.length))) d=some (.dK (jx (j9 ps ps.length))):=iK
 generalize upd H2 d (.dK (jx (j9 ps ps.length)))=H3 at s4 ed
 clear ez pz hzl
 subst hR
 refine i7 fun R' hR=>?_
 simp_arith[j5]
 refine kO (jD K pa) H3 (fun R2 hR2=>?_) (fun al hal=>km ps.length (fun i σ' Hc=>∃w1 w2 zs,σ'=[w1,w2,some (.ref d)]/\Same H3 Hc/\Hc al=some (.lst zs)/\lg Hc zs ((ps.take i).map fun p=>((0:Int),jA ps p.1,p.2))) ⟨none,none,[],rfl,iO hal _,iK,.nil⟩ ?_ ?_)
 ·unfold jL
  simp_arith[j5,iX,s4 _ _ hu1,jw]
  exact⟨pa,rfl,⟨_,SqL.of (s4 _ _ hpa)⟩,hR2⟩
 ·rintro i σ' Hc hi ⟨w1,w2,zs,rfl,s7,ez,pz⟩
  have s8:=s4.trans s7
  have x1:xs[i]? =some (xs[i]'(by lia)):=gE _
  refine⟨⟨_,_,SqL.of (s8 _ _ hpa),x1⟩,?_⟩
  rintro y H' ⟨rfl,hy⟩
  have E1:=aI (x1.symm.trans (hy _ (SqL.of (s8 _ _ hpa))))
  obtain⟨pr,hpr,px⟩:=kH hxs x1
  rw[E1]at px
  obtain⟨b,rfl,hb⟩:=px.same s8
  have hv:=p7 wk (aw.mpr ⟨pr,aE hpr,rfl⟩)
  have hzl:zs.length<=i:=by rw[aD pz,ae,aS];lia
  simp_arith[j5,hb,s7 _ _ ed,hv]
  intro t2 ht2
  have q5:=iO ht2 (.tup [.int 0,.int (jA ps pr.1),.int pr.2])
  have ez5:=q5 _ _ ez
  have t6:=k6 (ys:=zs++[.ref t2]) ez5
  refine⟨zs,ez5,jt (by lia),_,_,zs++[.ref t2],rfl,jJ (s7.trans q5) hal,(by first|rfl|exact iK),?_⟩
  rw[jv hpr,aq]
  exact k7 (kG t6 (kG q5.tups pz)) ⟨t2,rfl,t6 _ _ rfl iK⟩
 rintro σ' H4 ⟨w1,w2,zs,rfl,s5,eal,pz⟩
 have s6:=s4.trans s5
 refine⟨⟨_,SqL.of (s6 _ _ hpa),by lia⟩,?_⟩
 rw[aV]at pz
 have falH:H al=none:=s4.free hal
 have hzl:zs.length=ps.length:=by rw[aD pz,ae]
 simp_arith[j5]
 subst hR
 refine i7 fun R' hR=>?_
 have ed4:=s5 _ _ ed
 simp_arith[j5]
 refine kO (jD K pa) H4 (fun R2 hR2=>?_) (fun bl hbl=>km ps.length (fun i σ' Hc=>∃w1 w2 us,σ'=[w1,w2,some (.int (xs.length:Int)),some (.ref d)]/\Same H4 Hc/\Hc bl=some (.lst us)/\lg Hc us ((ps.take i).map fun p=>(jA ps p.1+(ps.length:Int),(1:Int),p.2))) ⟨none,none,[],rfl,iO hbl _,iK,.nil⟩ ?_ ?_)
 ·unfold jL
  simp_arith[j5,iX,s6 _ _ hu1,jw]
  exact⟨pa,rfl,⟨_,SqL.of (s6 _ _ hpa)⟩,hR2⟩
 ·rintro i σ' Hc hi ⟨w1,w2,us,rfl,s7,ez,pu⟩
  have s8:=s6.trans s7
  have x1:xs[i]? =some (xs[i]'(by lia)):=gE _
  refine⟨⟨_,_,SqL.of (s8 _ _ hpa),x1⟩,?_⟩
  rintro y H' ⟨rfl,hy⟩
  have E1:=aI (x1.symm.trans (hy _ (SqL.of (s8 _ _ hpa))))
  obtain⟨pr,hpr,px⟩:=kH hxs x1
  rw[E1]at px
  obtain⟨b,rfl,hb⟩:=px.same s8
  have hv:=p7 wk (aw.mpr ⟨pr,aE hpr,rfl⟩)
  have hul:us.length<=i:=by rw[aD pu,ae,aS];lia
  simp_arith[j5,hb,s7 _ _ ed4,hv]
  intro t2 ht2
  have q5:=iO ht2 (.tup [.int (jA ps pr.1+(xs.length:Int)),.int 1,.int pr.2])
  have ez5:=q5 _ _ ez
  have t6:=k6 (ys:=us++[.ref t2]) ez5
  refine⟨us,ez5,jt (by lia),_,_,us++[.ref t2],rfl,jJ (s7.trans q5) hbl,(by first|rfl|exact iK),?_⟩
  rw[jv hpr,aq]
  exact k7 (kG t6 (kG q5.tups pu)) ⟨t2,rfl,by rw [<- hxl]; exact t6 _ _ rfl iK⟩
 rintro σ' H5 ⟨w1,w2,us,rfl,s7,ebl,pu⟩
 have s8:=s6.trans s7
 refine⟨⟨_,SqL.of (s8 _ _ hpa),by lia⟩,?_⟩
 rw[aV]at pu
 have hul:us.length=ps.length:=by rw[aD pu,ae]
 have eal5:=s7 _ _ eal
 simp_arith[j5,eal5,ebl]
 refine⟨qI (by lia),?_⟩
 have s9:Same H (upd H5 al (.lst (zs++us))):=jJ s8 falH
 have t9:=k6 (ys:=zs++us) eal5
 have pz9:=qk (kG t9 (kG s7.tups pz)) (kG t9 pu)
 have eal9:upd H5 al (.lst (zs++us)) al=some (.lst (zs++us)):=iK
 have dal:d≠al:=iV ed hal
 have ed9:upd H5 al (.lst (zs++us)) d=some (.dK (jx (j9 ps ps.length))):=by rw[iQ dal];exact s7 _ _ ed4
 generalize upd H5 al (.lst (zs++us))=H6 at s9 pz9 eal9 ed9
 clear eal5 ebl pu pz eal t9
 subst hR
 refine i7 fun R' hR=>?_
 refine kU (jD K ta) H6 (fun R3 hR3=>?_) (l8 (K:=K) (a:=ta) (xs:=ys) (fun k σ Hc=>∃v5 v6 ws,σ=[some (.ref u),some (.int (xs.length:Int)),some (.int (ly ps)),some (.ref d),some (.ref al),v5,v6]/\Same H Hc/\Hc d=some (.dK (jx (j9 ps ps.length)))/\Hc al=some (.lst ws)/\ws.length<=80+2*k/\lg Hc ws (((ps.map fun p=>((0:Int),jA ps p.1,p.2))++ps.map fun p=>(jA ps p.1+(ps.length:Int),(1:Int),p.2))++Fl.lK (jA ps) ps.length (ly ps) (ts.take k))) ⟨none,none,zs++us,rfl,s9,ed9,eal9,by rw[av];lia,by rw[List.take_zero];show lg H6 _ (_++[]);rw[aY];exact pz9⟩ (fun i σ Hc _ ⟨_,_,_,_,s,_⟩=>SqL.of (s _ _ hta)) ?_ ?_)
 ·unfold jL
  simp_arith[j5,iX,s9 _ _ hu1,jQ]
  exact⟨ta,rfl,⟨_,SqL.of (s9 _ _ hta)⟩,hR3⟩
 ·rintro k x σ Hc hx ⟨v5,v6,ws,rfl,sA,edA,ealA,hwl,pw⟩
  obtain⟨t,htk,pt⟩:=kH hys hx
  obtain⟨tb,rfl,etb⟩:=pt.same sA
  have hkl:=(ak.mp htk).1
  obtain⟨m1,m2⟩:=pX wk t (aE htk)
  have hv1:=p7 wk m1
  have hv2:=p7 wk m2
  simp_arith[j5,etb,edA,hv1,hv2]
  refine⟨⟨al,ws,rfl,ealA⟩,fun t1 ht1=>?_⟩
  have qB:=iO ht1 (.tup [.int (jA ps t.1),.int (jA ps t.2+(xs.length:Int)),.int (ly ps)])
  have ealB:=qB _ _ ealA
  have edB:=qB _ _ edA
  simp only[ealB]
  refine⟨jt (by lia),?_⟩
  have tB:=k6 (ys:=ws++[.ref t1]) ealB
  have sC:Same H (upd (upd Hc t1 (.tup [.int (jA ps t.1),.int (jA ps t.2+(xs.length:Int)),.int (ly ps)])) al (.lst (ws++[.ref t1]))):=jJ (sA.trans qB) falH
  have ealC:upd (upd Hc t1 (.tup [.int (jA ps t.1),.int (jA ps t.2+(xs.length:Int)),.int (ly ps)])) al (.lst (ws++[.ref t1])) al=some (.lst (ws++[.ref t1])):=iK
  have edC:upd (upd Hc t1 (.tup [.int (jA ps t.1),.int (jA ps t.2+(xs.length:Int)),.int (ly ps)])) al (.lst (ws++[.ref t1])) d=some (.dK (jx (j9 ps ps.length))):=by rw[iQ dal];exact edB
  have pC:=k7 (kG tB (kG qB.tups pw)) (show Tp _ (.ref t1) (jA ps t.1,jA ps t.2 + (ps.length:Int),ly ps) from ⟨t1,rfl,by rw [<- hxl]; exact tB _ _ rfl iK⟩)
  generalize upd (upd Hc t1 (.tup [.int (jA ps t.1),.int (jA ps t.2+(xs.length:Int)),.int (ly ps)])) al (.lst (ws++[.ref t1]))=HC at sC ealC edC pC
  simp_arith[j5,edC,hv1,hv2]
  refine⟨⟨al,_,rfl,ealC⟩,fun t2 ht2=>?_⟩
  have qD:=iO ht2 (.tup [.int (jA ps t.2),.int (jA ps t.1+(xs.length:Int)),.int (ly ps)])
  have ealD:=qD _ _ ealC
  have edD:=qD _ _ edC
  simp only[ealD]
  have tD:=k6 (ys:=(ws++[.ref t1])++[.ref t2]) ealD
  refine⟨jt (by rw[av];show _+1<=_;lia),_,_,(ws++[.ref t1])++[.ref t2],rfl,jJ (sC.trans qD) falH,by rw[iQ dal];exact edD,iK,by rw[av,av];show _+1+1<=_;lia,?_⟩
  rw [jv htk,Ba,<- aQ,<- aQ]
  exact k7 (kG tD (kG qD.tups pC)) ⟨t2,rfl,by rw [<- hxl]; exact tD _ _ rfl iK⟩
 ·rintro σ Hc ⟨v5,v6,ws,rfl,sA,edA,ealA,hwl,pw⟩
  rw[hyl,aV]at pw
  have pw:lg Hc ws (jz ps ts):=pw
  subst hR
  simp_arith[j5]
  refine⟨mN (by decide) (by decide),?_⟩
  intro p dx hp hdx hne
  have hpal:al≠p:=iV ealA hp
  have hdal:al≠dx:=iV ealA hdx
  have sB:Same Hc (upd (upd Hc dx (.own p)) p (.ins C_Net dx [])):=fun b o q=>by rw[iQ (iV q hp),iQ (iV q hdx)];exact q
  refine⟨p,dx,2+(ps.length+ps.length),al,ws,jz ps ts,by rw[show((2+(ps.length+ps.length):Nat):Int)=2+2*(xs.length:Int) by lia],iK,sB _ _ ealA,kG sB.tups pw,by lia,by rw[sh];lia,fun a ha=>(uY wk a ha).1,fun R H' hR' b N=>?_⟩
  refine⟨rfl,h p R H' (sA.free (sB.free hR')) (fun b' o q=>b b' o (iV (sA _ _ q) hp) (sB _ _ (sA _ _ q))) N⟩
noncomputable def mE(ps:List (Int×Int)):Nat:=2+(ps.length+ps.length)
structure Rst(ps ts:List (Int×Int))(r:List Int):Prop where
 run:Fl.Runs (Fl.jS (jz ps ts)) (Fl.jl (jz ps ts)) (mE ps) 0 1 (Fl.jT (jz ps ts)) r
 end_:Fl.kX (Fl.jS (jz ps ts)) (Fl.jl (jz ps ts)) (mE ps) 0 1 r=none
theorem Rst.one{ps ts:List (Int×Int)}{a b:List Int}(h:Rst ps ts a)(g:Rst ps ts b):a=b:=Fl.Cr h.run h.end_ g.run g.end_
noncomputable def nL(ps ts:List (Int×Int))(r:List Int)(v:Int):Bool:=Fl.mx (Fl.jS (jz ps ts)) (Fl.jl (jz ps ts)) (mE ps) r v
noncomputable def l9(ps ts:List (Int×Int))(r:List Int):List (Int×Int):=mM (nL ps ts r) ps.length ps ps.length
noncomputable def mz(ps ts:List (Int×Int))(r:List Int):List (Int×Int×Int):=nh (jg false r) ps.length ts ts.length
def rA:Sp:=fun vs H Q _=>∃v ps ts,vs=[v]/\jdo H v ps ts/\WebOk ps ts/\ps.length<=40/\∀t l1 l2 zs us r H',Same H H'->H' t=some (.tup [.ref l1,.ref l2])->H' l1=some (.lst zs)->H' l2=some (.lst us)->H t=none->H l1=none->H l2=none->l1≠l2->Rst ps ts r->Prs H' zs (l9 ps ts r)->lg H' us (mz ps ts r)->Q (.ref t) H'
theorem EH{ps ts:List (Int×Int)}{r:List Int}{ms:List Int}(h:ms.Perm ((Fl.jC (Fl.jS (jz ps ts)) (Fl.jl (jz ps ts)) (mE ps) 0 r).map (·.1))):jH (lM ms)=nL ps ts r:=by
 funext n
 rw[yE]
 unfold nL Fl.mx
 exact hC.mpr h.mem_iff
theorem xX{ps ts:List (Int×Int)}(wk:WebOk ps ts):Fl.Rooms (jz ps ts).length (Fl.lW (jz ps ts)) (Fl.jT (jz ps ts)):=Fl.Cq fun a ha=>(uY wk a ha).2
theorem tI{ps ts:List (Int×Int)}(wk:WebOk ps ts):Fl.Net (Fl.jS (jz ps ts)) (Fl.jl (jz ps ts)) (jz ps ts).length (mE ps):=Fl.xv fun a ha=>(uY wk a ha).1
theorem Rst.rooms{ps ts:List (Int×Int)}{r:List Int}(wk:WebOk ps ts)(h:Rst ps ts r):Fl.Rooms (jz ps ts).length (Fl.lW (jz ps ts)) r/\∀v,v≠0->v≠1->Fl.ex (Fl.jl (jz ps ts)) (jz ps ts).length r v=0:=by
 obtain⟨a,b⟩:=Fl.Cj (tI wk) (by decide) ⟨bI _,by unfold mE;lia⟩ h.run (xX wk)
 exact⟨a,fun v h1 h2=>(b v h1 h2).trans (Fl.IC _ _ _ _)⟩
theorem Er{α:Type}{xs:List α}{k:Nat}(h:xs.length=2*k):(jg false xs).length=k:=by
 have h1:=n5 false xs
 have hge:¬k<(jg false xs).length:=fun z=>by
  have:=h1 k
  rw[gE z,bD (show xs.length<=2*k+(if false=true then 0 else 1) by rw[ay (by decide)];lia)]at this
  cases this
 by_cases c:k=0
 ·lia
 ·have:=h1 (k-1)
  rw[gE (show 2*(k-1)+(if false=true then 0 else 1)<xs.length by rw[ay (by decide)];lia)]at this
  have:=(ak.mp this).1
  lia
theorem Hu(B:Blt mg)(D:DefAt K mg "told_paper" (iM 36) ["web"] f fd)(Dqo:DefAt K mg "doubled" (iM 33) ["web"] fqo dqo)(Gqo:FnOk P w K mg base iR 5 fqo dqo ["web"] (AC C_Net))(Dq7:MthAt K C_Net "fill" "Net.fill" (jB 5 2) ["self","source","sink"] fq7 dq7)(Gq7:FnOk P w K mg base iR 3 fq7 dq7 ["self","source","sink"] (ya C_Net))(Dza:MthAt K C_Net "reached_from" "Net.reached_from" (jB 5 7) ["self","source"] fza dza)(Gza:FnOk P w K mg base iR 2 fza dza ["self","source"] (yZ C_Net))(Dqg:DefAt K mg "marked" (iM 11) ["places"] fqg dqg)(Gqg:FnOk P w K mg base iR 1 fqg dqg ["places"] yW)(Dqt:DefAt K mg "halves_reached" (iM 35) ["web","reached"] fqt dqt)(Gqt:FnOk P w K mg base iR 1 fqt dqt ["web","reached"] yb)(Dq8:MthAt K C_Net "flows" "Net.flows" (jB 5 6) ["self"] fq8 dq8)(Gq8:FnOk P w K mg base iR 1 fq8 dq8 ["self"] (yU C_Net))(Dqq:DefAt K mg "dues_flowing" (iM 34) ["web","flows"] fqq dqq)(Gqq:FnOk P w K mg base iR 1 fqq dqq ["web","flows"] yT)(T:NetC K mg C_Net)(C2:Cst2 mg e1 e2 e3):FnOk P w K mg base iR 6 f fd ["web"] rA:=by
 have sc:FnScope ["web","net","halves"] ["web"] (je (iM 36)):=by walk_at "SC"
 refine D.F.ok sc (fun vs H Q E h=>?_) (fun cdv A outer s H vs Q E hr h=>?_)
 ·obtain⟨v,ps,ts,rfl,_⟩:=h
  rfl
 obtain⟨v,ps,ts,rfl,hw,wk,h30,h⟩:=h
 have hu:=jn hr
 have hu0:_<PySem.cLine:=aF hu
 refine⟨_,(iN (jb (i:=1) sc.nd rfl (Or.inl rfl) (jd Gqo (hr.mono (by decide)) rfl Dqo.m Dqo.F.kp Dqo.b .nil iZ (iH (qv 0) iI))) (iN (kF (nc (qv 1) T.cl Dq7.m Gq7 (hr.mono (by decide)) Dq7.b .nil iZ (iH (lU (v:=.int 0) rfl C2.SOURCE ⟨_,rfl⟩) (iH (lU (v:=.int 1) rfl C2.SINK ⟨_,rfl⟩) iI)))) (iN (jb (i:=2) sc.nd rfl (Or.inl rfl) (jd Gqt (hr.mono (by decide)) rfl Dqt.m Dqt.F.kp Dqt.b .nil iZ (iH (qv 0) (iH (jd Gqg (hr.mono (by decide)) rfl Dqg.m Dqg.F.kp Dqg.b .nil iZ (iH (nc (qv 1) T.cl Dza.m Gza (hr.mono (by decide)) Dza.b .nil iZ (iH (lU (v:=.int 0) rfl C2.SOURCE ⟨_,rfl⟩) iI)) iI)) iI)))) (iS (jh (kg (iH (qv 2) (iH (jd Gqq (hr.mono (by decide)) rfl Dqq.m Dqq.F.kp Dqq.b .nil iZ (iH (qv 0) (iH (F4 (qv 1) T.cl Dq8.m Gq8 (hr.mono (by decide)) Dq8.b .nil iZ) iI))) iI)))))))),?_⟩
 refine i7 fun R' hR=>?_
 walk_at "D"
 refine⟨v,ps,ts,rfl,hw,wk,fun p R H1 fR s1 N=>?_⟩
 subst hR
 refine i7 fun R' hR=>?_
 obtain⟨dx,W,Hd,ls,o1,_,_,_,_,_,_,pR⟩:=N.st
 simp_arith[o1,EU]
 refine⟨p,0,1,R,_,_,_,_,_,Fl.lW (jz ps ts),rfl,N,by decide,bI _,by lia,xX wk,fun x r H2 run fin b2 eR2=>?_⟩
 have rst:Rst ps ts r:=⟨run,fin⟩
 have rm:=(rst.rooms wk).1
 have N2:=N.but b2 eR2 rm.len
 have s2:Same H H2:=fun b o q=>b2 b o (iV q fR) (s1 _ _ q)
 have o2:=b2 _ _ pR o1
 subst hR
 refine i7 fun R' hR=>?_
 simp_arith[o2,GY]
 refine⟨p,0,R,_,_,_,_,r,rfl,N2,bI _,by lia,by lia,fun l ms H3 hl s3 el pm=>?_⟩
 have hmn:ms.Nodup:=pm.nodup_iff.mpr (Fl.mQ (r:=r) (s:=0) N.net.from' _).nd
 have hml:ms.length<=120:=by
  rw[pm.length_eq,ae]
  have:=Fl.nN (r:=r) N.net ⟨bI 0,by lia⟩ (2+(ps.length+ps.length))
  show(Fl.jj _ _ _ _ _).length<=120
  lia
 refine⟨l,ms,rfl,el,hmn,hml,fun d H4 hd s4 ed=>?_⟩
 have s24:=s3.trans s4
 have s14:=s2.trans s24
 refine⟨v,ps,ts,d,lM ms,rfl,hw.same s14,wk,ed,fun l1 zs H5 hl1 s5 el1 pz=>?_⟩
 rw[EH pm]at pz
 have s25:=s24.trans s5
 have s15:=s14.trans s5
 subst hR
 simp_arith[s25 _ _ o2,FV]
 refine⟨p,R,_,_,_,_,r,rfl,N2.same s25,fun fl H6 hfl s6 ef=>?_⟩
 refine⟨v,ps,ts,fl,jg false r,rfl,hw.same (s15.trans s6),wk,ef,?_,fun l2 us H7 hl2 s7 el2 pu=>?_⟩
 ·rw[Er rm.len,sh];lia
 intro t ht
 have q8:=iO ht (.tup [.ref l1,.ref l2])
 have s57:=s6.trans s7
 refine h t l1 l2 zs us r _ ((s15.trans s57).trans q8) iK (q8 _ _ (s57 _ _ el1)) (q8 _ _ el2) ((s15.trans s57).free ht) (s14.free hl1) ((s15.trans s6).free hl2) (iV (s6 _ _ el1) hl2) rst (Prs.same (s57.trans q8) pz) (kG q8.tups pu)
theorem Hj(B:Blt mg)(D:DefAt K mg "halves_of" (iM 37) ["web"] f fd)(Dqf:DefAt K mg "look_at_web" (iM 24) ["thing"] fqf dqf)(Gqf:FnOk P w K mg base iR 5 fqf dqf ["thing"] vC)(Dq6:DefAt K mg "told_paper" (iM 36) ["web"] fq6 dq6)(Gq6:FnOk P w K mg base iR 6 fq6 dq6 ["web"] rA):FnOk P w K mg base iR 7 f fd ["web"] rA:=by
 have sc:FnScope ["web"] ["web"] (je (iM 37)):=by walk_at "SC"
 refine D.F.ok sc (fun vs H Q E h=>?_) (fun cdv A outer s H vs Q E hr h=>?_)
 ·obtain⟨v,ps,ts,rfl,_⟩:=h
  rfl
 obtain⟨v,ps,ts,rfl,hw,wk,h30,h⟩:=h
 have hu:=jn hr
 have hu0:_<PySem.cLine:=aF hu
 refine⟨_,(iN (kF (jd Gqf (hr.mono (by decide)) rfl Dqf.m Dqf.F.kp Dqf.b .nil iZ (iH (qv 0) iI))) (iS (jh (jd Gq6 (hr.mono (by decide)) rfl Dq6.m Dq6.F.kp Dq6.b .nil iZ (iH (qv 0) iI))))),?_⟩
 walk_at "D"
 refine⟨v,ps,ts,rfl,hw,wk,fun H1 s1=>?_⟩
 walk_at "D"
 refine⟨v,ps,ts,rfl,hw.same s1,wk,h30,fun t l1 l2 zs us r H2 s2 e1 e2 e3 f1 f2 f3 ne rst pz pu=>?_⟩
 exact h t l1 l2 zs us r H2 (s1.trans s2) e1 e2 e3 (s1.free f1) (s1.free f2) (s1.free f3) ne rst pz pu
end
end My
namespace My
open PySem L2
section
variable{P:Program}{w:World}{K:PySem.W.Frag}{mg:Str->Option Value}{base:Heap}{c1 c2 c3 c4:Tok}{C_NoWeb fqi:Addr}{dI:FuncData}
theorem zd{kvs:List (iJ×V)}:∀{ts:List (Int×Int)} {q:Int×Int},TiOk kvs q ts->ts.Pairwise fun a b=>HT.lexLt [a.1,a.2] [b.1,b.2]=true
 |[],_,_=>.nil
 |u::r,q,h=>cZ.mpr ⟨fun p hp=>TiOk.lt h.2 p hp,zd h.2⟩
theorem DW{a b c d:Int}(h:HT.lexLt [a,b] [c,d]=true):mi [c,d] [a,b]=false:=by
 have h:=vd h
 rw[uv]
 by_cases e:c=a
 ·rw[aA e,uv,ay (by lia)]
  exact aP (by lia)
 ·rw[ay e]
  exact aP (by lia)
theorem Aq{ts:List (Int×Int)}:∀{qs:List (Int×Int×Int)} {q:Int×Int},qs.Pairwise (fun a b=>HT.lexLt [a.1,a.2.1] [b.1,b.2.1]=true)->(∀d∈qs,HT.lexLt [q.1,q.2] [d.1,d.2.1]=true)->(∀d∈qs,(d.1,d.2.1)∈ts/\1<=d.2.2)->j4 ts q (qs.map ku)=some qs
 |[],_,_,_,_=>rfl
 | d::r,q,hp,hq,hm=>by
  have hp':=cZ.mp hp
  have h1:=hm d (.head _)
  have hd:md (ku d)=some d:=by
   unfold md
   show(if 1<=d.2.2 then some d else none)=some d
   rw[aA h1.2]
  rw[ah,j4,hd]
  dsimp only
  rw[aA ⟨h1.1,DW (hq d (.head _))⟩,Aq hp'.2 (fun e he=>hp'.1 e he) fun e he=>hm e (.tail _ he)]
  rfl
theorem zw{hf:Int->Int}(hb:∀n,0<=hf n/\hf n<=2):∀ps:List (Int×Int),jX ps ((ps.map fun p=>(p.1,hf p.1)).map kq)=some (ps.map fun p=>(p.1,hf p.1))
 |[]=>rfl
 |p::r=>by
  rw[ah,ah,jX]
  show(match mD (.tup [.int p.1,.int (hf p.1)])with |some h=>if h.1=p.1/\0<=h.2/\h.2<=2 then _ else none|none=>none)=_
  rw[show mD (.tup [.int p.1,.int (hf p.1)])=some (p.1,hf p.1)from rfl]
  dsimp only
  rw[aA ⟨rfl,hb p.1⟩,zw hb r]
  rfl
theorem AB{n:Int}:∀{L:List (Int×Int×Int)},(∀d∈L,0<=d.2.2)->kB (L.filter fun d=>decide (d.2.2>0)) n=kB L n
 |[],_=>rfl
 | d::r,h=>by
  have ih:=AB (n:=n) (L:=r) fun e he=>h e (.tail _ he)
  unfold kB at ih ⊢
  rw[bV]
  by_cases c:d.2.2>0
  ·rw[aA (aK c),ah,List.sum_cons,ih,ah,List.sum_cons]
  ·have h0:d.2.2=0:=by have:=h d (.head _);lia
   rw[ay (by simpa using c),ih,ah,List.sum_cons,h0]
   split<;>split<;>lia
theorem y6:∀{L:List (Int×Int×Int)},(∀d∈L,0<=d.2.2)->((L.filter fun d=>decide (d.2.2>0)).map (·.2.2)).sum=(L.map (·.2.2)).sum
 |[],_=>rfl
 | d::r,h=>by
  have ih:=y6 (L:=r) fun e he=>h e (.tail _ he)
  rw[bV]
  by_cases c:d.2.2>0
  ·rw[aA (aK c),ah,List.sum_cons,ih,ah,List.sum_cons]
  ·have h0:d.2.2=0:=by have:=h d (.head _);lia
   rw[ay (by simpa using c),ih,ah,List.sum_cons,h0]
   lia
theorem yk(r:List Int)(k:Nat):Fl.at' (jg false r) k=Fl.at' r (2*k+1):=by
 unfold Fl.at'
 rw[aJ,aJ,n5,ay (by decide)]
noncomputable def pE(ps ts:List (Int×Int))(r:List Int)(p:Int):Bool:=nL ps ts r (jA ps p)
noncomputable def pD(ps ts:List (Int×Int))(r:List Int)(p:Int):Bool:=nL ps ts r (jA ps p+ps.length)
noncomputable def k8(ps ts:List (Int×Int))(r:List Int):Int->Int:=Fl.kW (pE ps ts r) (pD ps ts r)
theorem sf{ps ts:List (Int×Int)}(wk:WebOk ps ts):∀p∈ps,kJ ps p.1=p.2:=fun p hp=>by
 have a:=oY wk.p.nodup hp
 rw[oW wk.p.nodup (aw.mpr ⟨p,hp,rfl⟩)]at a
 exact V.int.inj (aI a)
theorem rG{ps ts:List (Int×Int)}{r:List Int}(wk:WebOk ps ts)(h:Rst ps ts r):Fl.Full (ps.map (·.1)) (kJ ps) (Fl.twS (ps.map (·.1)) r ts) (Fl.my (jA ps) r) (Fl.nM (ps.map (·.1)) (jA ps) r) (pE ps ts r) (pD ps ts r):=by
 have hl:(ps.map (·.1)).length=ps.length:=ae _
 have e1:(jz ps ts).length=Fl.arcs (ps.map (·.1)) ts:=by rw[sh];unfold Fl.arcs;rw[hl]
 have e2:mE ps=Fl.kf (ps.map (·.1)):=by unfold mE Fl.kf;rw[hl]
 have D:Fl.Dbl (ps.map (·.1)) ts (jA ps) (Fl.jl (jz ps ts)):=Fl.Bx wk.p.nodup (fun i p hp=>rp wk hp) (pX wk)
 have C:Fl.Caps (ps.map (·.1)) ts (kJ ps) (Fl.lW (jz ps ts)):=Fl.Bz (sf wk) fun p hp=>by
  have h0:∀q∈ps,0<=q.2:=fun q hq=>by have:=wk.p.pos q hq;lia
  have:=Fl.nk (f:=fun q:Int×Int=>q.2) h0 p hp
  unfold ly
  lia
 obtain⟨rm,bal⟩:=h.rooms wk
 have N:=tI wk
 have en:=h.end_
 rw[e1]at rm bal N
 rw[e2]at N en
 have F:=Fl.Ip D N C rm bal en
 rw[hl]at F
 unfold pE pD nL
 rw[e2]
 exact F
theorem pY{ps ts:List (Int×Int)}{r:List Int}(wk:WebOk ps ts):l9 ps ts r=ps.map fun p=>(p.1,k8 ps ts r p.1):=by
 unfold l9 mM
 apply eN
 intro i
 rw[aC,aC]
 by_cases c:i<ps.length
 ·have hi:ps[i]? =some ps[i]:=gE c
  have hs:=rp wk (i:=i) (p:=ps[i].1) (by rw[aC,hi];rfl)
  rw[fe c,hi]
  show some _=some _
  dsimp only
  rw[oi hi]
  unfold k8 Fl.kW Fl.one pE pD
  rw[hs,show(2:Int)+(i:Int)+(ps.length:Int)=2+(ps.length:Int)+(i:Int) by lia]
  congr 2
  cases nL ps ts r (2+(i:Int))<;>rfl
 ·rw[bD (by rw[bz];lia),bD (by lia)]
  rfl
noncomputable def mf(ps ts:List (Int×Int))(r:List Int):List (Int×Int×Int):=(Fl.twS (ps.map (·.1)) r ts).map fun z=>(z.a,z.b,z.x+z.y)
theorem uj(ps ts:List (Int×Int))(r:List Int):mz ps ts r=(mf ps ts r).filter fun d=>decide (d.2.2>0):=by
 unfold mz nh mf Fl.twS
 rw[bt]
 congr 1
 refine dj fun j _=>?_
 show _=((Fl.twAt _ _ _ j).a,(Fl.twAt _ _ _ j).b,_)
 unfold Fl.twAt
 dsimp only
 rw[yk,yk,ae,show 2*ps.length+2*j=ps.length+ps.length+2*j by lia,show ps.length+ps.length+2*j+1=ps.length+ps.length+(2*j+1) by lia]
theorem sr(ps ts:List (Int×Int))(r:List Int):(mf ps ts r).map (fun d=>(d.1,d.2.1))=ts:=by
 unfold mf Fl.twS
 rw[bt,bt]
 apply eN
 intro i
 rw[aC]
 by_cases c:i<ts.length
 ·rw[fe c,gE c]
  show some ((ts.getD i (0,0)).1,(ts.getD i (0,0)).2)=_
  rw[oi (gE c)]
 ·rw[bD (by rw[bz];lia),bD (by lia)]
  rfl
theorem GM{ps ts:List (Int×Int)}{r:List Int}(wk:WebOk ps ts)(h:Rst ps ts r):jX ps ((l9 ps ts r).map kq)=some (l9 ps ts r)/\j4 ts (-1,-1) ((mz ps ts r).map ku)=some (mz ps ts r)/\mJ ts (l9 ps ts r)=true/\mH ps (mz ps ts r)=true/\((mz ps ts r).map (·.2.2)).sum=oH ps (l9 ps ts r):=by
 have F:=rG wk h
 have hb:∀n,0<=k8 ps ts r n/\k8 ps ts r n<=2:=fun n=>Fl.Bk n
 have nn:∀d∈mf ps ts r,0<=d.2.2:=fun d hd=>by
  obtain⟨z,hz,rfl⟩:=aw.mp hd
  have:=F.pos z hz
  dsimp only
  lia
 have nd:((l9 ps ts r).map (·.1)).Nodup:=by
  rw[pY wk,bt]
  exact wk.p.nodup
 have hat:∀n∈ps.map (·.1),kJ (l9 ps ts r) n=k8 ps ts r n:=fun n hn=>by
  obtain⟨p,hp,rfl⟩:=aw.mp hn
  have hm:(p.1,k8 ps ts r p.1)∈l9 ps ts r:=by rw[pY wk];exact aw.mpr ⟨p,hp,rfl⟩
  have a:=oY nd hm
  rw[oW nd (aw.mpr ⟨_,hm,rfl⟩)]at a
  exact V.int.inj (aI a)
 refine⟨by rw[pY wk];exact zw hb ps,?_,?_,?_,?_⟩
 ·rw[uj]
  have hpw:(mf ps ts r).Pairwise (fun a b=>HT.lexLt [a.1,a.2.1] [b.1,b.2.1]=true):=by
   have:=zd wk.t
   rw [<- sr ps ts r,bB] at this
   exact this
  have hin:∀d∈mf ps ts r,(d.1,d.2.1)∈ts:=fun d hd=>by
   have:=cM (f:=fun d:Int×Int×Int=>(d.1,d.2.1)) hd
   rw[sr]at this
   exact this
  refine Aq (hpw.filter _) (fun d hd=>?_) fun d hd=>?_
  ·have:=TiOk.lt wk.t _ (hin d (de.mp hd).1)
   exact this
  ·have:=de.mp hd
   exact⟨hin d this.1,by have:=cG this.2;lia⟩
 ·unfold mJ
  rw[eV]
  intro t ht
  obtain⟨m1,m2⟩:=pX wk t ht
  rw[hat _ m1,hat _ m2]
  refine aK ?_
  have hz:t∈(mf ps ts r).map (fun d=>(d.1,d.2.1)):=by rw[sr];exact ht
  obtain⟨d,hd,rfl⟩:=aw.mp hz
  obtain⟨z,hz2,rfl⟩:=aw.mp hd
  exact F.two z hz2
 ·unfold mH
  rw[eV]
  intro p hp
  refine aK ?_
  rw[uj,AB nn]
  have:=F.paid (aw.mpr ⟨p,hp,rfl⟩)
  rw[sf wk p hp]at this
  unfold kB mf
  rw[bt]
  exact this
 ·rw[uj,y6 nn]
  have:=F.worth
  unfold oH
  rw[pY wk]
  unfold mf
  rw[bt,bt]
  rw[bt]at this
  exact this
theorem Ha{ps ts:List (Int×Int)}{r:List Int}(wk:WebOk ps ts)(h:Rst ps ts r):m8 ps ts (.tup [.lst ((l9 ps ts r).map kq),.lst ((mz ps ts r).map ku)])=true:=by
 obtain⟨a,b,c,d,e⟩:=GM wk h
 rw[AQ]
 show(match jX ps _,j4 ts (-1,-1) _ with |some hs,some qs=>mJ ts hs&&(mH ps qs&&decide ((qs.map (·.2.2)).sum=oH ps hs))|_,_=>false)=true
 rw[a,b]
 dsimp only
 rw[c,d,aK e]
 rfl
end
end My
namespace L2
open PySem PySem.Spec PyProof.Rows
section
variable{X:Cx}
end
section
variable{X:Cx}
theorem Ff:MtR X "list.extend" yL:=fun pins s σ H x xs v us Q I rx rv q=>FU pins s σ H x xs v us Q I rx rv q
end
end L2
namespace Fl
def sW(ns:List Int)(pr:Int->Int)(zs:List Tw)(fs:Int->Int)(SL SR:Int->Bool):Prop:=
 ∀(A B:Int->Prop),(∀p∈ns,fs p<pr p->A p)->(∀z∈zs,(A z.a->B z.b)/\(A z.b->B z.a))->(∀z∈zs,(0<z.x->B z.b->A z.a)/\(0<z.y->B z.a->A z.b))->∀p∈ns,(SL p=true->A p)/\(SR p=true->B p)
section
variable{ns:List Int}{ts:List (Int×Int)}{sp:Int->Int}{hs r:List Int}{wf:Int->List Nat}{pr:Int->Int}{cap:Nat->Int}
theorem Cs(D:Dbl ns ts sp hs)(N:Net wf hs (arcs ns ts) (kf ns))(C:Caps ns ts pr cap)(R:Rooms (arcs ns ts) cap r)(hr:kX wf hs (kf ns) 0 1 r=none):
  sW ns pr (twS ns r ts) (my sp r) (fun p=>mx wf hs (kf ns) r (sp p)) (fun p=>mx wf hs (kf ns) r (sp p+ns.length)):=fun A B a1 a2 a3=>by
 have hs0:(0:Int)<=0/\(0:Int)<(kf ns:Nat):=⟨bI _,by unfold kf;lia⟩
 have h1:(1:Int)∉(jC wf hs (kf ns) 0 r).map (·.1):=wI N (by decide) hs0 hr
 have cam:Cam hs r (arcs ns ts) 0 (jC wf hs (kf ns) 0 r):=mQ N.from' _
 unfold mx
 generalize jC wf hs (kf ns) 0 r=cb at h1 cam ⊢
 have inj:∀p∈ns,∀q∈ns,sp p=sp q->p=q:=fun p hp q hq e=>by
  obtain⟨k,hk,ek⟩:=bA.mp hq
  have hk':ns[k]? =some q:=by rw[gE hk,ek]
  exact(D.spI hk' hp).mp (by rw[e];exact D.spot k q hk')
 have key:∀(i:Nat) (v:Int) (o:Option Nat),cb[i]? =some (v,o)->(∀p∈ns,sp p=v->A p)/\(∀p∈ns,sp p+ns.length=v->B p):=by
  intro i
  induction i using Nat.strongRecOn with
  | ind i ih=>
   intro v o hi
   by_cases i0:i=0
   ·subst i0
    rw[cam.first]at hi
    cases hi
    exact⟨fun p hp e=>by have:=D.spB hp;lia,fun p hp e=>by have:=D.spB hp;lia⟩
   ·obtain⟨w,rfl,hw,hrw,hv,j,u,hj,hu,hm⟩:=cam.came i v o hi (by lia)
    have hv1:v ≠ 1:=fun e=>h1 (by rw [<- e]; exact aw.mpr ⟨_,aE hi,rfl⟩)
    obtain⟨⟨u',o'⟩,hu2,hu3⟩:=bM.mp hu
    dsimp only at hu3
    subst hu3
    have hu1:u' ≠ 1:=fun e=>h1 (by rw [<- e]; exact aw.mpr ⟨_,aE hu2,rfl⟩)
    obtain⟨iA,iB⟩:=ih j hj u' o' hu2
    unfold arcs at hw
    by_cases c1:w<2*ns.length
    ·obtain⟨k,hk⟩:∃k,w=2*k\/w=2*k+1:=⟨w/2,by lia⟩
     have kl:k<ns.length:=by lia
     obtain⟨s1,s2⟩:=D.src k kl
     rcases hk with rfl|rfl
     ·rw[s1]at hv
      refine⟨fun p hp e=>?_,fun p hp e=>by have:=D.spB hp;lia⟩
      have hk':ns[k]? =some ns[k]:=gE kl
      have e2:=(D.spI hk' hp).mp (by lia)
      have two:=R.two k (by unfold arcs;lia)
      rw[C.src k _ hk']at two
      refine a1 p hp ?_
      unfold my
      rw[e2,D.spot k _ hk',show(2+(k:Int)-2).toNat=k by lia]
      lia
     ·rw[s2]at hv
      exact⟨fun p hp e=>by have:=D.spB hp;lia,fun p hp e=>by have:=D.spB hp;lia⟩
    ·by_cases c2:w<2*(ns.length+ns.length)
     ·obtain⟨k,hk⟩:∃k,w=2*(ns.length+k)\/w=2*(ns.length+k)+1:=⟨w/2-ns.length,by lia⟩
      obtain⟨s1,s2⟩:=D.snk k (by lia)
      rcases hk with rfl|rfl
      ·exact absurd (hv.symm.trans s1) hv1
      ·rw[show iW (2*(ns.length+k)+1)=2*(ns.length+k) by unfold iW;rw[ay (by lia)];lia]at hm
       exact absurd (hm.symm.trans s1) hu1
     ·obtain⟨k,hk⟩:∃k,w=2*(ns.length+ns.length+2*k)\/w=2*(ns.length+ns.length+2*k)+1\/w=2*(ns.length+ns.length+(2*k+1))\/w=2*(ns.length+ns.length+(2*k+1))+1:=⟨(w/2-(ns.length+ns.length))/2,by lia⟩
      have kl:k<ts.length:=by lia
      have ht:=getD_at kl
      obtain⟨⟨t1,t2⟩,t3,t4⟩:=D.tie k _ ht
      obtain⟨m1,m2⟩:=D.ends _ (aE ht)
      have hz:twAt ns r ts k∈twS ns r ts:=aw.mpr ⟨k,bg.mpr kl,rfl⟩
      have z2:=a2 _ hz
      have z3:=a3 _ hz
      unfold twAt at z2 z3
      dsimp only at z2 z3
      have b1:=D.spB m1
      have b2:=D.spB m2
      rcases hk with rfl|rfl|rfl|rfl
      ·rw[show iW (2*(ns.length+ns.length+2*k))=2*(ns.length+ns.length+2*k)+1 by unfold iW;rw[aA (by lia)]]at hm
       have q:=z2.1 (iA _ m1 (t2.symm.trans hm))
       refine⟨fun p hp e=>by have:=D.spB hp;lia,fun p hp e=>?_⟩
       rw[inj p hp _ m2 (by lia)]
       exact q
      ·rw[show iW (2*(ns.length+ns.length+2*k)+1)=2*(ns.length+ns.length+2*k) by unfold iW;rw[ay (by lia)];lia]at hm
       have q:=z3.1 hrw (iB _ m2 (t1.symm.trans hm))
       refine⟨fun p hp e=>?_,fun p hp e=>by have:=D.spB hp;lia⟩
       rw[inj p hp _ m1 (by lia)]
       exact q
      ·rw[show iW (2*(ns.length+ns.length+(2*k+1)))=2*(ns.length+ns.length+(2*k+1))+1 by unfold iW;rw[aA (by lia)]]at hm
       have q:=z2.2 (iA _ m2 (t4.symm.trans hm))
       refine⟨fun p hp e=>by have:=D.spB hp;lia,fun p hp e=>?_⟩
       rw[inj p hp _ m1 (by lia)]
       exact q
      ·rw[show iW (2*(ns.length+ns.length+(2*k+1))+1)=2*(ns.length+ns.length+(2*k+1)) by unfold iW;rw[ay (by lia)];lia]at hm
       have q:=z3.2 hrw (iB _ m1 (t3.symm.trans hm))
       refine⟨fun p hp e=>?_,fun p hp e=>by have:=D.spB hp;lia⟩
       rw[inj p hp _ m2 (by lia)]
       exact q
 intro p hp
 simp only[cI]
 refine⟨fun h=>?_,fun h=>?_⟩
 all_goals
  obtain⟨⟨v,o⟩,hm,e⟩:=aw.mp h
  obtain⟨i,hi⟩:=List.mem_iff_getElem?.mp hm
 ·exact(key i v o hi).1 p hp e.symm
 ·exact(key i v o hi).2 p hp e.symm
end
section
variable{ns:List Int}{pr:Int->Int}{zs:List Tw}{fs ft:Int->Int}{SL SR:Int->Bool}
theorem oE{α:Type}{f:α->Int}:∀{l:List α},(∀p∈l,0<=f p)->0<=(l.map f).sum
 |[],_=>bI _
 |a::l,h=>by
  rw[ah,List.sum_cons]
  have:=h a (aH ..)
  have:=oE (f:=f) (l:=l) fun p hp=>h p (az _ hp)
  lia
theorem Full.gap(F:Full ns pr zs fs ft SL SR)(y:Int->Int):(ns.map fun p=>y p*(2*pr p-(fs p+ft p))).sum+(zs.map fun z=>(z.x+z.y)*(y z.a+y z.b-2)).sum=2*(ns.map fun p=>pr p*y p).sum-2*(ns.map fun p=>pr p*kW SL SR p).sum:=by
 have e1:(ns.map fun p=>y p*(2*pr p-(fs p+ft p))).sum+((ns.map fun p=>y p*kK zs p).sum+(ns.map fun p=>y p*inR zs p).sum)=(ns.map fun p=>pr p*y p).sum+(ns.map fun p=>pr p*y p).sum:=by
  rw [<- lE,<- lE,<- lE]
  refine jV fun p hp=>?_
  rw [<- F.left p hp,<- F.right p hp,Int.mul_sub,cW,dJ (pr p),<- Int.mul_assoc,dJ (y p) 2,Int.mul_assoc]
  lia
 have e2:(zs.map fun z=>(z.x+z.y)*(y z.a+y z.b-2)).sum+((zs.map fun z=>z.x+z.y).sum+(zs.map fun z=>z.x+z.y).sum)=(zs.map fun z=>y z.a*z.x+y z.b*z.y).sum+(zs.map fun z=>y z.b*z.x+y z.a*z.y).sum:=by
  rw [<- lE,<- lE,<- lE]
  refine jV fun z _=>?_
  rw[Int.mul_sub,cW,ic,ic,dJ z.x,dJ z.y,dJ z.x,dJ z.y]
  lia
 rw[rY y F.nd F.ends,uE y F.nd F.ends]at e1
 rw[F.worth]at e2
 lia
theorem Full.nnP(F:Full ns pr zs fs ft SL SR){y:Int->Int}(y0:∀p∈ns,0<=y p):∀p∈ns,0<=y p*(2*pr p-(fs p+ft p)):=fun p hp=>by
 have a:=F.capL p hp
 have b:=F.capR p hp
 exact iD (y0 p hp) (by lia)
theorem Full.nnZ(F:Full ns pr zs fs ft SL SR){y:Int->Int}(y2:∀z∈zs,2<=y z.a+y z.b):∀z∈zs,0<=(z.x+z.y)*(y z.a+y z.b-2):=fun z hz=>by
 have a:=F.pos z hz
 have b:=y2 z hz
 exact iD (by lia) (by lia)
theorem Full.least(F:Full ns pr zs fs ft SL SR){y:Int->Int}(y0:∀p∈ns,0<=y p)(y2:∀z∈zs,2<=y z.a+y z.b):(ns.map fun p=>pr p*kW SL SR p).sum<=(ns.map fun p=>pr p*y p).sum:=by
 have g:=F.gap y
 have a:=oE (F.nnP y0)
 have b:=oE (F.nnZ y2)
 lia
theorem zl{a b:Int}(h:a*b<=0)(ha:0<=a)(hb:0<b):a=0:=by
 by_cases c:a=0
 ·exact c
 ·have:=Int.mul_pos (show 0<a by lia) hb
  lia
theorem Full.agree(F:Full ns pr zs fs ft SL SR)(W:sW ns pr zs fs SL SR){y:Int->Int}(y0:∀p∈ns,0<=y p/\y p<=2)(y2:∀z∈zs,2<=y z.a+y z.b)(hc:(ns.map fun p=>pr p*y p).sum<=(ns.map fun p=>pr p*kW SL SR p).sum):∀p∈ns,(SL p=true->y p=0)/\(SR p=true->y p=2):=by
 have g:=F.gap y
 have n1:=F.nnP fun p hp=>(y0 p hp).1
 have n2:=F.nnZ y2
 have s1:=oE n1
 have s2:=oE n2
 have l1:=nk n1
 have l2:=nk n2
 refine W (fun p=>y p=0) (fun p=>y p=2) (fun p hp h=>?_) (fun z hz=>?_) (fun z hz=>?_)
 ·have a:=F.capR p hp
  have:=l1 p hp
  exact zl (b:=2*pr p-(fs p+ft p)) (by lia) (y0 p hp).1 (by lia)
 ·obtain⟨i1,i2⟩:=F.ends z hz
  have:=y0 _ i1
  have:=y0 _ i2
  have:=y2 z hz
  exact⟨fun h=>by lia,fun h=>by lia⟩
 ·have:=l2 z hz
  have hp:=F.pos z hz
  have h2:=y2 z hz
  refine⟨fun h h3=>?_,fun h h3=>?_⟩
  all_goals
   have q:=zl (a:=y z.a+y z.b-2) (b:=z.x+z.y) (by rw[dJ];lia) (by lia) (by lia)
   lia
theorem Full.fixed(F:Full ns pr zs fs ft SL SR)(W:sW ns pr zs fs SL SR){y:Int->Int}(y0:∀p∈ns,0<=y p/\y p<=2)(y2:∀z∈zs,2<=y z.a+y z.b)(hc:(ns.map fun p=>pr p*y p).sum<=(ns.map fun p=>pr p*kW SL SR p).sum):∀p∈ns,kW SL SR p≠1->y p=kW SL SR p:=fun p hp h=>by
 obtain⟨a,b⟩:=F.agree W y0 y2 hc p hp
 unfold kW at h ⊢
 cases e1:SL p<;>cases e2:SR p<;>rw[e1,e2]at h
 ·exact absurd rfl h
 ·rw[b e2];rfl
 ·rw[a e1];rfl
 ·exact absurd rfl h
end
end Fl
namespace My
open PySem L2
section
variable{P:Program}{w:World}{K:PySem.W.Frag}{mg:Str->Option Value}{base:Heap}{c1 c2 c3 c4:Tok}{C_NoWeb fqi:Addr}{dI:FuncData}
theorem Ct{ps ts:List (Int×Int)}{r:List Int}(wk:WebOk ps ts)(h:Rst ps ts r):Fl.sW (ps.map (·.1)) (kJ ps) (Fl.twS (ps.map (·.1)) r ts) (Fl.my (jA ps) r) (pE ps ts r) (pD ps ts r):=by
 have hl:(ps.map (·.1)).length=ps.length:=ae _
 have e1:(jz ps ts).length=Fl.arcs (ps.map (·.1)) ts:=by rw[sh];unfold Fl.arcs;rw[hl]
 have e2:mE ps=Fl.kf (ps.map (·.1)):=by unfold mE Fl.kf;rw[hl]
 have D:Fl.Dbl (ps.map (·.1)) ts (jA ps) (Fl.jl (jz ps ts)):=Fl.Bx wk.p.nodup (fun i p hp=>rp wk hp) (pX wk)
 have C:Fl.Caps (ps.map (·.1)) ts (kJ ps) (Fl.lW (jz ps ts)):=Fl.Bz (sf wk) fun p hp=>by
  have h0:∀q∈ps,0<=q.2:=fun q hq=>by have:=wk.p.pos q hq;lia
  have:=Fl.nk (f:=fun q:Int×Int=>q.2) h0 p hp
  unfold ly
  lia
 obtain⟨rm,bal⟩:=h.rooms wk
 have N:=tI wk
 have en:=h.end_
 rw[e1]at rm bal N
 rw[e2]at N en
 have F:=Fl.Cs D N C rm en
 rw[hl]at F
 unfold pE pD nL
 rw[e2]
 exact F
theorem tw_in{ps ts:List (Int×Int)}{r:List Int}:∀z∈Fl.twS (ps.map (·.1)) r ts,(z.a,z.b)∈ts:=fun z hz=>by
 unfold Fl.twS at hz
 obtain⟨j,hj,rfl⟩:=aw.mp hz
 exact aE (Fl.getD_at (bg.mp hj))
theorem rW{ps ts:List (Int×Int)}(wk:WebOk ps ts)(y:Int->Int):((ps.map (·.1)).map fun n=>kJ ps n*y n).sum=(ps.map fun p=>p.2*y p.1).sum:=by
 rw[bt]
 exact Fl.jV fun p hp=>by show kJ ps p.1*_=_;rw[sf wk p hp]
noncomputable def ju(ps:List (Int×Int))(y:Int->Int):Int:=(ps.map fun p=>p.2*y p.1).sum
structure Cov(ps ts:List (Int×Int))(y:Int->Int):Prop where
 b:∀p∈ps,0<=y p.1/\y p.1<=2
 t:∀t∈ts,2<=y t.1+y t.2
theorem Ew{ps ts:List (Int×Int)}{r:List Int}(wk:WebOk ps ts)(h:Rst ps ts r):Cov ps ts (k8 ps ts r):=by
 refine⟨fun p _=>Fl.Bk p.1,fun t ht=>?_⟩
 have F:=rG wk h
 have hz:t∈(mf ps ts r).map (fun d=>(d.1,d.2.1)):=by rw[sr];exact ht
 obtain⟨d,hd,rfl⟩:=aw.mp hz
 obtain⟨z,hz2,rfl⟩:=aw.mp hd
 exact F.two z hz2
theorem GL{ps ts:List (Int×Int)}{r:List Int}(wk:WebOk ps ts)(h:Rst ps ts r){y:Int->Int}(c:Cov ps ts y):ju ps (k8 ps ts r)<=ju ps y:=by
 have:=(rG wk h).least (y:=y) (fun n hn=>by obtain⟨p,hp,rfl⟩:=aw.mp hn;exact(c.b p hp).1) fun z hz=>c.t _ (tw_in z hz)
 rw[rW wk,rW wk]at this
 exact this
theorem GK{ps ts:List (Int×Int)}{r:List Int}(wk:WebOk ps ts)(h:Rst ps ts r){y:Int->Int}(c:Cov ps ts y)(hc:ju ps y<=ju ps (k8 ps ts r)):∀p∈ps,k8 ps ts r p.1≠1->y p.1=k8 ps ts r p.1:=fun p hp=>by
 refine(rG wk h).fixed (Ct wk h) (fun n hn=>by obtain⟨p,hp,rfl⟩:=aw.mp hn;exact c.b p hp) (fun z hz=>c.t _ (tw_in z hz)) ?_ p.1 (aw.mpr ⟨p,hp,rfl⟩)
 rw[rW wk,rW wk]
 exact hc
theorem rX{α:Type}{f g:α->Int}:∀{l:List α},(∀p∈l,f p<=g p)->(l.map f).sum<=(l.map g).sum
 |[],_=>bI _
 |a::l,h=>by
  have:=rX (l:=l) fun p hp=>h p (az _ hp)
  have:=h a (aH ..)
  rw[ah,ah,List.sum_cons,List.sum_cons]
  lia
section
variable{ps ts:List (Int×Int)}{D:Int->Int}
def sZ(ps ts:List (Int×Int))(D:Int->Int)(g:List (Int×Int)):Prop:=∀y,Cov ps ts y->ju g D<=ju g y/\(ju g y<=ju g D->∀p∈g,D p.1≠1->y p.1=D p.1)
theorem Gb{a b:List Int}(h:a.Perm b):a.sum=b.sum:=by
 induction h with
 |nil=>rfl
 |cons x _ ih=>rw[List.sum_cons,List.sum_cons,ih]
 |swap x y l=>rw[List.sum_cons,List.sum_cons,List.sum_cons,List.sum_cons];lia
 |trans _ _ h1 h2=>rw[h1,h2]
theorem pf{a b:List (Int×Int)}(h:a.Perm b)(y:Int->Int):ju a y=ju b y:=Gb (h.map fun p:Int×Int=>p.2*y p.1)
theorem qf(y:Int->Int):∀gs:List (List (Int×Int)),ju gs.flatten y=(gs.map fun g=>ju g y).sum
 |[]=>rfl
 |g::gs=>by
  rw [List.flatten_cons,ah,List.sum_cons,<- qf y gs]
  unfold ju
  rw[aq,cR]
theorem AU{α:Type}{f g:α->Int}:∀{l:List α},(∀p∈l,f p<=g p)->(l.map g).sum<=(l.map f).sum->∀p∈l,g p<=f p
 |[],_,_,_,h=>by cases h
 |a::l,hn,h,p,hp=>by
  rw[ah,ah,List.sum_cons,List.sum_cons]at h
  have h1:=hn a (aH ..)
  have h2:=rX (f:=f) (g:=g) (l:=l) fun q hq=>hn q (az _ hq)
  rcases aM.mp hp with rfl|hp
  ·lia
  ·exact AU (fun q hq=>hn q (az _ hq)) (by lia) p hp
theorem Fo{r:List Int}(wk:WebOk ps ts)(h:Rst ps ts r)(c:Cov ps ts D){gs:List (List (Int×Int))}(hp:ps.Perm gs.flatten)(hg:∀g∈gs,sZ ps ts D g):∀p∈ps,k8 ps ts r p.1=D p.1:=fun p hm=>by
 have ct:=Ew wk h
 have l1:=GL wk h c
 rw[pf hp,pf hp,qf,qf]at l1
 have al:=AU (f:=fun g=>ju g D) (g:=fun g=>ju g (k8 ps ts r)) (l:=gs) (fun g hgm=>(hg g hgm _ ct).1) l1
 obtain⟨g,hgm,hpg⟩:=bS.mp (hp.mem_iff.mp hm)
 by_cases d1:D p.1=1
 ·rw[d1]
  refine da fun n1=>?_
  have lD:ju ps D<=ju ps (k8 ps ts r):=by
   rw[pf hp,pf hp,qf,qf]
   exact rX fun g hgm=>(hg g hgm _ ct).1
  have:=GK wk h c lD p hm n1
  exact n1 (by rw [<- this,d1])
 ·exact(hg g hgm _ ct).2 (al g hgm) p hpg d1
noncomputable def j8(g:List (Int×Int)):Int:=(g.map (·.2)).sum
theorem zp(g:List (Int×Int)):ju g (fun _=>1)=j8 g:=by
 unfold ju j8
 exact Fl.jV fun p _=>Int.mul_one _
theorem zo{g:List (Int×Int)}(nd:(g.map (·.1)).Nodup){d:Int×Int}(hd:d∈g){y:Int->Int}(h0:y d.1=0)(h2:∀p∈g,p.1≠d.1->y p.1=2):ju g y=2*(j8 g-d.2):=by
 have aux:∀{g:List (Int×Int)},(g.map (·.1)).Nodup->(∀p∈g,p.1≠d.1->y p.1=2)->(d.1∉g.map (·.1)->ju g y=2*j8 g)/\(d∈g->ju g y=2*(j8 g-d.2)):=by
  intro g
  induction g with
  |nil=>exact fun _ _=>⟨fun _=>rfl,fun h=>by cases h⟩
  | cons a l ih=>
   intro nd h2
   rw[ah,br]at nd
   obtain⟨i1,i2⟩:=ih nd.2 fun p hp=>h2 p (az _ hp)
   unfold ju j8 at i1 i2 ⊢
   simp only[ah,List.sum_cons]
   refine⟨fun hn=>?_,fun hm=>?_⟩
   ·have n1:a.1 ≠ d.1:=fun z=>hn (by rw [<- z]; exact aH ..)
    rw[i1 fun z=>hn (az _ z),h2 a (aH ..) n1]
    lia
   ·by_cases e:a.1=d.1
    ·have ea:d=a:=by
      rcases aM.mp hm with z|z
      ·exact z
      ·exact absurd (by rw[e];exact aw.mpr ⟨d,z,rfl⟩) nd.1
     rw [i1 (by rw [<- e]; exact nd.1),e,h0,ea]
     lia
    ·have hm':d∈l:=(aM.mp hm).resolve_left fun z=>e (by rw[z])
     rw[i2 hm',h2 a (aH ..) e]
     lia
 exact(aux nd h2).2 hd
structure Bun(ps ts g:List (Int×Int)):Prop where
 nd:(g.map (·.1)).Nodup
 sub:∀p∈g,p∈ps
 tie:∀p∈g,∀q∈g,p.1≠q.1->(p.1,q.1)∈ts\/(q.1,p.1)∈ts
 pos:∀p∈g,1<=p.2
theorem Bun.two{g:List (Int×Int)}(B:Bun ps ts g){y:Int->Int}(c:Cov ps ts y):∀p∈g,∀q∈g,p.1≠q.1->2<=y p.1+y q.1:=fun p hp q hq hne=>by
 rcases B.tie p hp q hq hne with t|t
 ·exact c.t _ t
 ·have:=c.t _ t;dsimp only at this;lia
theorem Bun.cases{g:List (Int×Int)}(B:Bun ps ts g){y:Int->Int}(c:Cov ps ts y):(∃z∈g,y z.1=0/\ju g y=2*(j8 g-z.2)/\∀p∈g,p.1≠z.1->y p.1=2)\/j8 g<=ju g y:=by
 by_cases e:∃z∈g,y z.1=0
 ·obtain⟨z,hz,h0⟩:=e
  have h2:∀p∈g,p.1≠z.1->y p.1=2:=fun p hp hne=>by
   have:=B.two c p hp z hz hne
   have:=c.b p (B.sub p hp)
   lia
  exact .inl ⟨z,hz,h0,zo B.nd hz h0 h2,h2⟩
 ·right
  rw [<- zp]
  unfold ju
  refine rX fun p hp=>?_
  have:=c.b p (B.sub p hp)
  have n0:y p.1≠0:=fun z=>e ⟨p,hp,z⟩
  have:=B.pos p hp
  exact h8 (show(1:Int)<=y p.1 by lia) (by lia)
theorem EF{g:List (Int×Int)}(B:Bun ps ts g)(h1:∀p∈g,p.2<=j8 g-p.2)(hD:∀p∈g,D p.1=1):sZ ps ts D g:=fun y c=>by
 have e:ju g D=j8 g:=by
  rw [<- zp]
  unfold ju
  exact Fl.jV fun p hp=>by rw[hD p hp]
 refine⟨?_,fun _ p hp n=>absurd (hD p hp) n⟩
 rw[e]
 rcases B.cases c with⟨z,hz,_,h,_⟩|h
 ·have:=h1 z hz
  lia
 ·exact h
theorem FH{g:List (Int×Int)}(nd:(g.map (·.1)).Nodup){a b:Int×Int}(ha:a∈g)(hb:b∈g)(e:a.1=b.1):a=b:=by
 induction g with
 |nil=>cases ha
 | cons x l ih=>
  rw[ah,br]at nd
  rcases aM.mp ha with ea|ha'
  ·rcases aM.mp hb with eb|hb'
   ·rw[ea,eb]
   ·exact absurd (aw.mpr ⟨b,hb',by rw [<- e,ea]⟩) nd.1
  ·rcases aM.mp hb with eb|hb'
   ·exact absurd (aw.mpr ⟨a,ha',by rw[e,eb]⟩) nd.1
   ·exact ih nd.2 ha' hb'
theorem Fc{g:List (Int×Int)}(pos:∀p∈g,1<=p.2){p q:Int×Int}(hp:p∈g)(hq:q∈g)(hne:p.1≠q.1):p.2+q.2<=j8 g:=by
 have h0:∀{l:List (Int×Int)},(∀p∈l,1<=p.2)->∀p∈l,p.2<=j8 l:=fun h p hp=>Fl.nk (f:=fun q:Int×Int=>q.2) (fun q hq=>by have:=h q hq;lia) p hp
 induction g with
 |nil=>cases hp
 |cons a l ih=>
  have pl:∀p∈l,1<=p.2:=fun p hp=>pos p (az _ hp)
  have pa:=pos a (aH ..)
  unfold j8
  rw[ah,List.sum_cons]
  rcases aM.mp hp with rfl|hp'<;>rcases aM.mp hq with rfl|hq'
  ·exact absurd rfl hne
  ·have:=h0 pl q hq';unfold j8 at this;lia
  ·have:=h0 pl p hp';unfold j8 at this;lia
  ·have:=ih pl hp' hq';unfold j8 at this;lia
theorem EE{g:List (Int×Int)}(B:Bun ps ts g){d:Int×Int}(hd:d∈g)(h1:j8 g-d.2<d.2)(hD:∀p∈g,D p.1=if p.1=d.1 then 0 else 2):sZ ps ts D g:=fun y c=>by
 have e:ju g D=2*(j8 g-d.2):=zo B.nd hd (by rw[hD d hd,aA rfl]) fun p hp hne=>by rw[hD p hp,ay hne]
 rw[e]
 have key:2*(j8 g-d.2)<=ju g y/\(ju g y<=2*(j8 g-d.2)->y d.1=0/\∀p∈g,p.1≠d.1->y p.1=2):=by
  rcases B.cases c with⟨z,hz,h0,h,h2⟩|h
  ·by_cases ez:z.1=d.1
   ·have:d.2=z.2:=by
     have:=(bB.mp B.nd)
     refine da fun n=>?_
     exact absurd (FH B.nd hz hd ez) (fun q=>n (by rw[q]))
    rw[ez]at h0 h2
    exact⟨by lia,fun _=>⟨h0,h2⟩⟩
   ·have:=Fc B.pos hz hd ez
    exact⟨by lia,fun _=>by lia⟩
  ·exact⟨by lia,fun _=>by lia⟩
 refine⟨key.1,fun hc p hp _=>?_⟩
 obtain⟨k0,k2⟩:=key.2 hc
 rw[hD p hp]
 by_cases ep:p.1=d.1
 ·rw[aA ep,ep];exact k0
 ·rw[ay ep];exact k2 p hp ep
noncomputable def qZ(a:Int):List Int->List (Int×Int)
 |[]=>[]
 |b::l=>(a,b)::qZ b l
theorem zS{y:Int->Int}:∀(l:List Int) (a:Int),(∀t∈qZ a l,2<=y t.1+y t.2)->2*(l.length:Int)<=2*((a::l).map y).sum-y a-y ((a::l).getLast (by simp))
 |[],a,_=>by simp;lia
 |b::l,a,h=>by
  have ih:=zS l b fun t ht=>h t (az _ ht)
  have:=h (a,b) (aH ..)
  rw[ah,List.sum_cons,List.length_cons,List.getLast_cons (by simp)]
  rw[ah,List.sum_cons]at ih ⊢
  dsimp only at this
  lia
theorem EG{g:List (Int×Int)}{w a:Int}{l:List Int}(hw:1<=w)(hg:g.Perm ((a::l).map fun n=>(n,w)))(ht:∀t∈qZ a l,t∈ts\/(t.2,t.1)∈ts)(hl:((a::l).getLast (by simp),a)∈ts\/(a,(a::l).getLast (by simp))∈ts)(hD:∀p∈g,D p.1=1):sZ ps ts D g:=fun y c=>by
 refine⟨?_,fun _ p hp n=>absurd (hD p hp) n⟩
 have e1:ju g D=w*((a::l).length:Int):=by
  have:ju g D=ju g fun _=>1:=by unfold ju;exact Fl.jV fun p hp=>by rw[hD p hp]
  rw[this,pf hg]
  unfold ju
  rw[bt]
  generalize a::l=k
  induction k with
  |nil=>simp
  |cons b k ih=>rw[ah,List.sum_cons,ih,List.length_cons,Int.natCast_add,cW];show w*1+_=_;lia
 have e2:ju g y=w*((a::l).map y).sum:=by
  rw[pf hg]
  unfold ju
  rw[bt]
  generalize a::l=k
  induction k with
  |nil=>simp
  |cons b k ih=>rw[ah,List.sum_cons,ih,ah,List.sum_cons,cW];rfl
 have two:∀t,(t∈ts\/(t.2,t.1)∈ts)->2<=y t.1+y t.2:=fun t h=>by
  rcases h with h|h
  ·exact c.t _ h
  ·have:=c.t _ h;dsimp only at this;lia
 have s:=zS (y:=y) l a fun t h=>two t (ht t h)
 have sl:2<=y ((a::l).getLast (by simp))+y a:=two (_,a) hl
 rw[e1,e2]
 refine h8 ?_ (by lia)
 rw[List.length_cons]
 lia
end
theorem F9{a b:TS}{D:Ends}{σ:St}{H:Hp}(h:∀R E,R=b->E=D->oC a R E σ H):oC a b D σ H:=h b D rfl rfl
def IZ(H:Hp)(v:V)(row:List Int):Prop:=∃a,v= .ref a/\H a=some (.lst (row.map V.int))
abbrev IY(H:Hp):List V->List (List Int)->Prop:=Paired (IZ H)
def LsN(ls:List Addr)(H:Hp)(v:V)(row:List Int):Prop:=∃a,v= .ref a/\a∉ls/\H a=some (.lst (row.map V.int))
theorem LsN.to{l:List Addr}{H:Hp}{xs:List V}{rs:List (List Int)}(h:Paired (LsN l H) xs rs):IY H xs rs:=Paired.imp' (fun _ _ ⟨a,e,_,q⟩=>⟨a,e,q⟩) h
theorem LsN.of{l:List Addr}{p:Addr}(hp:p∈l){H:Hp}{o:HO}{xs:List V}{rs:List (List Int)}(h:Paired (LsN l H) xs rs):Paired (LsN l (upd H p o)) xs rs:=Paired.imp' (fun _ _ ⟨a,e,n,q⟩=>⟨a,e,n,by rw[iQ (fun z:a=p=>n (by rw[z];exact hp))];exact q⟩) h
theorem DZ{H:Hp}{a st:Addr}{ns:List Int}{o:HO}(ha:H a=some (.lst (ns.map V.int)))(hs:H st=some o)(so:StO o):a≠st:=by
 rintro rfl
 obtain⟨c,x,fl,rfl,_⟩:=so
 rw[ha]at hs
 have e:=HO.lst.inj (aI hs)
 match ns,e with
 |[_,_,_],e=>simp at e
theorem zx:∀ns:List Int,kM (ns.map Dt.int)<=1
 |[]=>by rw[cL,kM];lia
 |n::r=>by
  rw[ah,kM]
  have:=zx r
  have e:lG (Dt.int n)=0:=rfl
  lia
theorem Du{a b c d:Int}(h0:0<=d)(h1:d<3):∃v,jr [V.int a,.int b,.int c] d=some (.int v)/\(v=a\/v=b\/v=c):=by
 have hd:d=0\/d=1\/d=2:=by lia
 rcases hd with rfl|rfl|rfl
 ·exact⟨a,jw,.inl rfl⟩
 ·exact⟨b,jQ,.inr (.inl rfl)⟩
 ·exact⟨c,at2,.inr (.inr rfl)⟩
theorem EY{α:Type}{l:List α}(h:l.Nodup){i j:Nat}{a b:α}(h1:l[i]? =some a)(h2:l[j]? =some b)(hij:i≠j):a≠b:=by
 intro e
 subst e
 obtain⟨p1,q1⟩:=ak.mp h1
 obtain⟨p2,q2⟩:=ak.mp h2
 exact hij ((fK h).mp (q1.trans q2.symm))
def LsA(H:Hp)(al:List Addr)(sts:List (List Int)):Prop:=al.length=sts.length/\∀(i:Nat) (a:Addr) (s:List Int),al[i]? =some a->sts[i]? =some s->H a=some (.lst (s.map V.int))
theorem LsA.set{H:Hp}{al:List Addr}{sts:List (List Int)}(h:LsA H al sts)(nd:al.Nodup){j:Nat}{a:Addr}(ha:al[j]? =some a)(s':List Int):LsA (upd H a (.lst (s'.map V.int))) al (sts.set j s'):=by
 refine⟨by rw[eE];exact h.1,fun i b s hb hs=>?_⟩
 by_cases e:i=j
 ·subst e
  rw[ha]at hb
  cases hb
  rw[iK]
  have hi:i<sts.length:=by have:=(ak.mp ha).1;have:=h.1;lia
  rw[fQ hi]at hs
  cases hs
  rfl
 ·rw[gu (di e)]at hs
  rw[iQ (EY nd hb ha e)]
  exact h.2 i b s hb hs
theorem LsA.but{H H':Hp}{st:Addr}{o:HO}{al:List Addr}{sts:List (List Int)}(h:LsA H al sts)(hs:H st=some o)(so:StO o)(b:But st H H'):LsA H' al sts:=⟨h.1,fun i a s h1 h2=>b _ _ (DZ (h.2 i a s h1 h2) hs so) (h.2 i a s h1 h2)⟩
theorem LsA.same{H H':Hp}{al:List Addr}{sts:List (List Int)}(h:LsA H al sts)(b:Same H H'):LsA H' al sts:=⟨h.1,fun i a s h1 h2=>b _ _ (h.2 i a s h1 h2)⟩
theorem But.free{s:Addr}{H H':Hp}(b:But s H H'){a:Addr}(ns:a≠s)(h:H' a=none):H a=none:=by
 cases e:H a with
 |none=>rfl
 |some u=>rw[b _ _ ns e]at h;cases h
theorem Ig{s:List Int}{k:Int}{n:Int}:(s.map V.int).take k.toNat++V.int n::(s.map V.int).drop k.toNat=(s.take k.toNat++n::s.drop k.toNat).map V.int:=by
 rw[aq,ah,List.map_take,List.map_drop]
theorem AW{ns:List Int}(nd:ns.Nodup){i:Nat}{n:Int}(h:ns[i]? =some n):n∉ns.take i:=fun hm=>by
 obtain⟨j,hj,e⟩:=bA.mp hm
 rw[fA]at e
 rw[aS]at hj
 obtain⟨hi,e2⟩:=ak.mp h
 exact bK.mp nd j i (by lia) hi (by lia) (e.trans e2.symm)
noncomputable def jf(pr:Int->Int)(ns:List Int):List (iJ×V):=ns.map fun n=>((Sum.inl n:iJ),V.int (pr n))
noncomputable def lI(pr:Int->Int)(n v:Int):Int->Int:=fun m=>if m=n then v else pr m
theorem o8(pr:Int->Int)(n v:Int):lI pr n v n=v:=aA rfl
theorem nB(pr:Int->Int){n m v:Int}(h:m≠n):lI pr n v m=pr m:=ay h
theorem og{pr:Int->Int}:∀{ns:List Int} {n:Int},n∈ns->i8 (jf pr ns) (Sum.inl n:iJ)=some (.int (pr n))
 |[],_,h=>by cases h
 | a::r,n,h=>by
  unfold jf i8
  rw[ah,List.find?_cons]
  by_cases c:a=n
  ·subst c;simp
  ·rw[aP (fun z=>c (cw z))]
   have:=og (pr:=pr) (ns:=r) ((aM.mp h).resolve_left fun z=>c z.symm)
   unfold jf i8 at this
   exact this
theorem EM(pr:Int->Int)(ns:List Int):(jf pr ns).map (fun kv=>kV kv.1)=ns.map V.int:=by
 unfold jf
 rw[bt]
 rfl
theorem zz{pr:Int->Int}{ns:List Int}{n:Int}(h:n∉ns):i8 (jf pr ns) (Sum.inl n:iJ)=none:=by
 unfold jf i8
 rw[Option.map_eq_none_iff,List.find?_eq_none]
 intro kv hkv
 obtain⟨m,hm,rfl⟩:=aw.mp hkv
 simp only[cI]
 exact fun z=>h (by rw [<- cw z]; exact hm)
theorem uP{pr:Int->Int}{ns:List Int}{n v:Int}(h:n∉ns):jF (jf pr ns) (Sum.inl n:iJ) (.int v)=jf (lI pr n v) (ns++[n]):=by
 rw[L2.zL _ (zz h)]
 unfold jf
 rw[aq]
 congr 1
 ·exact dj fun m hm=>by rw [nB pr (fun z=>h (by rw [<- z]; exact hm))]
 ·rw[List.map_singleton,o8]
theorem uQ{pr:Int->Int}{ns:List Int}{n v:Int}(h:n∈ns):jF (jf pr ns) (Sum.inl n:iJ) (.int v)=jf (lI pr n v) ns:=by
 unfold jF jf
 rw[aA (List.any_eq_true.mpr ⟨_,aw.mpr ⟨n,h,rfl⟩,by simp⟩),bt]
 refine dj fun m hm=>?_
 show(if(Sum.inl m:iJ)=Sum.inl n then _ else _)=_
 by_cases c:m=n
 ·subst c;rw[aA rfl,o8]
 ·rw[ay (fun z=>c (cw z)),nB pr c]
theorem nJ{sts:List (List Int)}{i:Nat}{s:List Int}(h:sts[i]? =some s):(sts.take (i+1)).flatten=(sts.take i).flatten++s:=by
 rw[jv h,fh]
 simp
theorem But.updf{s p:Addr}{o':HO}(b:But s H H')(h:H p=none):But s H (L2.upd H' p o'):=fun c u n e=>by rw[iQ (iV e h)];exact b c u n e
theorem But.updS{s:Addr}{o':HO}(b:But s H H'):But s H (L2.upd H' s o'):=fun c u n e=>by rw[iQ n];exact b c u n e
theorem But.same{s:Addr}{H2:Hp}(b:But s H H')(q:Same H' H2):But s H H2:=fun c u n e=>q _ _ (b c u n e)
theorem Dp{c l:Int}:(if l<c then l else c)=min c l:=by split<;>lia
theorem Do{c l:Int}:(if l>c then l else c)=max c l:=by split<;>lia
theorem zb{sts:List (List Int)}(h:sts.flatten.Nodup)(i:Nat):(sts.take i).flatten.Nodup:=by
 rw [<- bY i sts,fh] at h
 exact(bP.mp h).1
theorem vp(sts:List (List Int))(i:Nat):(sts.take i).flatten.length<=sts.flatten.length:=by
 conv=>rhs; rw [<- bY i sts]
 rw[fh,av]
 lia
structure Pw(H:Hp)(st dl bl:Addr)(al:List Addr)(bs:List (List Int))(o:HO)(kvs:List (iJ×V)):Prop where
 es:H st=some o
 so:StO o
 ed:H dl=some (.dK kvs)
 eb:H bl=some (.lst (al.map V.ref))
 la:LsA H al bs
section
variable{H H':Hp}{st dl bl:Addr}{al:List Addr}{bs:List (List Int)}{o:HO}{kvs:List (iJ×V)}
theorem lA{H:Hp}{a b:Addr}{x y:HO}(ha:H a=some x)(hb:H b=some y)(h:x≠y):a≠b:=by
 rintro rfl
 rw[ha]at hb
 exact h (aI hb)
theorem zN{al:List Addr}{c:Int}{l:List V}:HO.lst (al.map V.ref)≠HO.lst (V.int c::l):=by
 cases al with
 |nil=>intro h;cases h
 |cons=>intro h;cases h
theorem Pw.bs'(w:Pw H st dl bl al bs o kvs):bl≠st:=by
 refine lA w.eb w.es ?_
 obtain⟨c,x,fl,rfl,_⟩:=w.so
 exact zN
theorem Pw.ds'(w:Pw H st dl bl al bs o kvs):dl≠st:=by
 refine lA w.ed w.es ?_
 obtain⟨c,x,fl,rfl,_⟩:=w.so
 intro h;cases h
theorem Pw.bd'(w:Pw H st dl bl al bs o kvs):bl≠dl:=lA w.eb w.ed (by intro h;cases h)
theorem Pw.same(w:Pw H st dl bl al bs o kvs)(s:Same H H'):Pw H' st dl bl al bs o kvs:=⟨s _ _ w.es,w.so,s _ _ w.ed,s _ _ w.eb,w.la.same s⟩
theorem Pw.but(w:Pw H st dl bl al bs o kvs)(s:But st H H'){o':HO}(e:H' st=some o')(so:StO o'):Pw H' st dl bl al bs o' kvs:=⟨e,so,s _ _ w.ds' w.ed,s _ _ w.bs' w.eb,w.la.but w.es w.so s⟩
theorem Pw.st'(w:Pw H st dl bl al bs o kvs){o':HO}(so':StO o'):Pw (upd H st o') st dl bl al bs o' kvs:=w.but (But.at _ _ _) iK so'
theorem Pw.dl'(w:Pw H st dl bl al bs o kvs)(k2:List (iJ×V)):Pw (upd H dl (.dK k2)) st dl bl al bs o k2:=
 ⟨by rw[iQ w.ds'.symm];exact w.es,w.so,iK,by rw[iQ w.bd'];exact w.eb,w.la.1,fun i a s h1 h2=>by
  have e:=w.la.2 i a s h1 h2
  rw[iQ (lA e w.ed (by intro h;cases h))]
  exact e⟩
end
theorem Ej{pr:Int->Int}{s:List Int}{B:Int}(hB:0<=B)(h:∀n∈s,1<=pr n/\pr n<=B)(f:Int->Bool):0<=((s.filter f).map pr).sum/\((s.filter f).map pr).sum<=B*(s.length:Int):=by
 induction s with
 |nil=>simp
 |cons a r ih=>
  have h1:=h a (aH ..)
  have h2:=ih fun n hn=>h n (az _ hn)
  rw[List.length_cons,show B*((r.length+1:Nat):Int)=B*(r.length:Int)+B by rw[Int.natCast_add,cW];simp,bV]
  split
  ·rw[ah,List.sum_cons];lia
  ·lia
def zV:Sp:=fun vs H Q _=>∃s o bl al bs,vs=[.ref s,.ref bl]/\H s=some o/\StO o/\H bl=some (.lst (al.map V.ref))/\LsA H al bs/\bs.flatten.Nodup/\bs.flatten.length<=16/\∀d H' o' pr,But s H H'->H' s=some o'->StO o'->H d=none->H' d=some (.dK (jf pr bs.flatten))->(∀n∈bs.flatten,1<=pr n/\pr n<=16000000001)->Q (.ref d) H'
theorem Hs(B:Blt mg)(D:DefAt K mg "_law_prices" (iM 42) ["_law_state","_law_bunches"] f fd)(Dqa:DefAt K mg "_law_take" (iM 41) ["_law_state","_law_many"] fqa dqa)(Gqa:FnOk P w K mg base iR 1 fqa dqa ["_law_state","_law_many"] rq):FnOk P w K mg base iR 3 f fd ["_law_state","_law_bunches"] zV:=by
 have sc:FnScope ["_law_state","_law_bunches","_law_great","_law_prices_here","_law_bunch","_law_place","_law_others"] ["_law_state","_law_bunches"] (je (iM 42)):=by walk_at "SC"
 refine D.F.ok sc (fun vs H Q E h=>?_) (fun cdv A outer s H vs Q E hr h=>?_)
 ·obtain⟨s,o,bl,al,bs,rfl,_⟩:=h
  rfl
 obtain⟨st,o,bl,al,bs,rfl,es,so,eb,la,nd,hl16,h⟩:=h
 have hu:=jn hr
 have hu0:_<PySem.cLine:=aF hu
 refine⟨_,(iN (jb (i:=2) sc.nd rfl (Or.inl rfl) (iT iU (kx (iH iL (iH iL (iH iL (iH (i9 uc iL iL) iI))))) (jd Gqa (hr.mono (by decide)) rfl Dqa.m Dqa.F.kp Dqa.b .nil iZ (iH (qv 0) (iH iL iI))) (fun _ _=>rfl))) (iN (jb (i:=3) sc.nd rfl (Or.inr rfl) vg) (iN (kh bf rfl (jO (qv 1)) (iY (i:=4) sc.nd rfl (Or.inl rfl)) (iN (kh bf rfl (jO (qv 4)) (iY (i:=5) sc.nd rfl (Or.inr rfl)) (iS (nA hu (qv 3) (qv 5) (i9 jM iL (jd Gqa (hr.mono (by decide)) rfl Dqa.m Dqa.F.kp Dqa.b .nil iZ (iH (qv 0) (iH (qv 2) iI))))))) (iS (kr (PW.pt (xT (kR (xP hr.units) (qv 4) (kx iI) (jI _)) (yI (kR pJ (jd Gqa (hr.mono (by decide)) rfl Dqa.m Dqa.F.kp Dqa.b .nil iZ (iH (qv 0) (iH iL iI))) iL (jI _))))) (iN (jb (i:=5) sc.nd rfl (Or.inr rfl) (iT iU (qv 4) (jd Gqa (hr.mono (by decide)) rfl Dqa.m Dqa.F.kp Dqa.b .nil iZ (iH (qv 0) (iH (jq lO rfl B.len bN (iH (qv 4) iI)) iI))) (fun _ _=>rfl))) (iN (jb (i:=6) sc.nd rfl (Or.inl rfl) (jq (pQ rfl) rfl B.sum dR (iH (kN (CpScope.of (N:=["_law_other","_law_prices_here","_law_place"]) (src:=[none,some 3,some 5]) (by rfl)) rfl (jO (qv 4)) (fun _ _ _ _=>(iY (i:=0) (jy (l:=["_law_other","_law_prices_here","_law_place"]) (by rfl)) rfl (Or.inl rfl))) (fun _ _ _ _=>(rL (kR qL (qv 0) (qv 2) (jI _)))) (fun _ _ _ _=>(k4 hu (qv 1) (qv 0) (fun _ _=>rfl)))) iI))) (iS (nA hu (qv 3) (qv 5) (jq (t8 rfl) rfl B.max gj (iH iL (iH (i9 qY (i9 jM (qv 6) (jd Gqa (hr.mono (by decide)) rfl Dqa.m Dqa.F.kp Dqa.b .nil iZ (iH (qv 0) (iH iL iI)))) iL) iI))))))) ky)))) (iS (jh (qv 3)))))),?_⟩
 refine i7 fun R hR=>?_
 walk_at "D"
 refine⟨⟨by decide,by decide,by decide⟩,?_⟩
 intro p1 hp1
 have np:p1≠st:=(iV es hp1).symm
 refine⟨st,o,4,rfl,(by rw[iQ np.symm];exact es),so,by decide,by decide,fun kind o1 k0 k1 so1=>?_⟩
 obtain⟨gr,eg,g0,g1⟩:∃v,jr [V.int 1,.int 3,.int 9,.int (10^Int.toNat 9)] kind=some (.int v)/\1<=v/\v<=1000000000:=by
  obtain⟨v,ev,hv⟩:=Ds (a:=1) (b:=3) (c:=9) (e:=10^Int.toNat 9) k0 k1
  rw[show(10:Int)^Int.toNat 9=1000000000 by decide]at hv
  exact⟨v,ev,by lia,by lia⟩
 simp_arith[iX,iQ np,iK,eg]
 have b1:But st H (upd (upd H p1 (.lst [.int 1,.int 3,.int 9,.int (10^Int.toNat 9)])) st o1):=(But.new hp1).trans (But.at _ _ _)
 have e1:(upd (upd H p1 (.lst [.int 1,.int 3,.int 9,.int (10^Int.toNat 9)])) st o1) st=some o1:=iK
 generalize upd (upd H p1 (.lst [.int 1,.int 3,.int 9,.int (10^Int.toNat 9)])) st o1=H1 at b1 e1
 have nbl:bl≠st:=by
  refine lA eb es ?_
  obtain⟨c,x,fl,rfl,_⟩:=so
  exact zN
 have eb1:=b1 _ _ nbl eb
 have la1:=la.but es so b1
 subst hR
 refine i7 fun R hR=>?_
 walk_at "D"
 intro dl hdl
 have q2:=iO hdl (.dK [])
 have W2:Pw (upd H1 dl (.dK [])) st dl bl al bs o1 (jf (fun _=>1) []):=⟨q2 _ _ e1,so1,iK,q2 _ _ eb1,la1.same q2⟩
 have b2:=b1.same q2
 have fdl:H dl=none:=b1.free (iV e1 hdl).symm hdl
 generalize upd H1 dl (.dK [])=H2 at q2 W2 b2
 clear b1 e1 eb1 la1 q2 hdl
 subst hR
 refine i7 fun R hR=>?_
 refine kU (jD K bl) H2 (fun R' hR'=>?_) (l8 (K:=K) (a:=bl) (xs:=al.map V.ref) (fun i σ Hc=>∃w4 w5 w6 pr oc,σ=[some (.ref st),some (.ref bl),some (.int gr),some (.ref dl),w4,w5,w6]/\But st H Hc/\Pw Hc st dl bl al bs oc (jf pr (bs.take i).flatten)/\∀n∈(bs.take i).flatten,1<=pr n/\pr n<=16000000001) ⟨none,none,none,fun _=>1,o1,rfl,b2,W2,fun n hn=>by simp at hn⟩ (fun i σ Hc _ ⟨_,_,_,_,_,_,_,w,_⟩=>SqL.of w.eb) ?_ ?_)
 ·unfold jL
  walk_at "D"
  exact⟨bl,rfl,⟨_,SqL.of W2.eb⟩,hR'⟩
 ·rintro i y σ Hc hy ⟨w4,w5,w6,pr,oc,rfl,bc,Wc,hp1⟩
  rw[aC]at hy
  obtain⟨a,ha,rfl⟩:=bM.mp hy
  have hi:i<bs.length:=by have:=(ak.mp ha).1;have:=la.1;lia
  have hs:bs[i]? =some bs[i]:=gE hi
  generalize bs[i]=s at hs
  have fnd:=zb nd (i+1)
  rw[nJ hs]at fnd
  obtain⟨fn1,fn2,fn3⟩:=bP.mp fnd
  have hfl:((bs.take i).flatten++s).length<=16:=by
   have:=vp bs (i+1)
   rw[nJ hs]at this
   lia
  rw[av]at hfl
  generalize hF:(bs.take i).flatten=F at*
  simp only[mF,List.set_cons_zero,List.set_cons_succ]
  refine i7 fun R9 hR9=>?_
  refine kU (jD K a) Hc (fun R' hR'=>?_) (l8 (K:=K) (a:=a) (xs:=s.map V.int) (fun j σ Hd=>∃w5 pr' od,σ=[some (.ref st),some (.ref bl),some (.int gr),some (.ref dl),some (.ref a),w5,w6]/\But st H Hd/\Pw Hd st dl bl al bs od (jf pr' (F++s.take j))/\(∀n∈F,pr' n=pr n)/\∀n∈s.take j,1<=pr' n/\pr' n<=1000000000) ⟨w5,pr,oc,rfl,bc,by rw[List.take_zero,aY];exact Wc,fun _ _=>rfl,fun n hn=>by simp at hn⟩ (fun j σ Hd _ ⟨_,_,_,_,_,w,_⟩=>SqL.of (w.la.2 i a s ha hs)) ?_ ?_)
  ·unfold jL
   walk_at "D"
   exact⟨a,rfl,⟨_,SqL.of (Wc.la.2 i a s ha hs)⟩,hR'⟩
  ·rintro j y σ Hd hj ⟨w5,pr',od,rfl,bd,Wd,hp2,hp3⟩
   rw[aC]at hj
   obtain⟨n,hn1,rfl⟩:=bM.mp hj
   have hnm:=aE hn1
   have hjl:=(ak.mp hn1).1
   have nF:n∉F:=fun z=>fn3 n z n hnm rfl
   have nT:n∉s.take j:=AW fn2 hn1
   have hnew:n∉F++s.take j:=fun z=>(aW.mp z).elim nF nT
   walk_at "D"
   refine⟨st,od,gr,rfl,Wd.es,Wd.so,by lia,by lia,fun d o4 dd0 dd1 so4=>?_⟩
   have W4:=Wd.st' so4
   have b4:=bd.updS (o':=o4)
   generalize upd Hd st o4=H4 at W4 b4
   simp_arith[W4.ed,uP hnew]
   refine⟨?_,?_⟩
   ·unfold jf
    rw[ae,av,aS]
    exact jt (by lia)
   have W5:=W4.dl' (jf (lI pr' n (1+d)) ((F++s.take j)++[n]))
   rw[aQ]at W5 ⊢
   have e5:s.take j++[n]=s.take (j+1):=(jv hn1).symm
   rw[e5]at W5 ⊢
   refine⟨_,_,o4,rfl,b4.updf fdl,W5,fun m hm=>?_,fun m hm=>?_⟩
   ·rw [nB _ (fun z=>nF (by rw [<- z]; exact hm))]
    exact hp2 m hm
   ·rw [<- e5] at hm
    rcases aW.mp hm with hm|hm
    ·rw [nB _ (fun z=>nT (by rw [<- z]; exact hm))]
     exact hp3 m hm
    ·rw[aZ.mp hm,o8]
     lia
  rintro σ Hd ⟨w5',pr',od,rfl,bd,Wd,hp2,hp3⟩
  rw[ae,aV]at Wd hp3
  have inFs:∀n∈s,n∈F++s:=fun n hn=>bo _ hn
  have ea:=Wd.la.2 i a s ha hs
  have fin:∀pr2 o2 H2 w5 w6,But st H H2->Pw H2 st dl bl al bs o2 (jf pr2 (F++s))->(∀n∈F,pr2 n=pr n)->(∀n∈s,1<=pr2 n/\pr2 n<=16000000001)->∃w4' w5' w6' pr oc,[some (.ref st),some (.ref bl),some (.int gr),some (.ref dl),some (.ref a),w5,w6]=[some (V.ref st),some (V.ref bl),some (V.int gr),some (V.ref dl),w4',w5',w6']/\But st H H2/\Pw H2 st dl bl al bs oc (jf pr (bs.take (i+1)).flatten)/\∀n∈(bs.take (i+1)).flatten,1<=pr n/\pr n<=16000000001:=by
   intro pr2 o2 H2 w5 w6 bb W2 hpF hpS
   refine⟨_,_,_,pr2,o2,rfl,bb,by rw[nJ hs,hF];exact W2,fun n hn=>?_⟩
   rw[nJ hs,hF]at hn
   rcases aW.mp hn with hn|hn
   ·rw[hpF n hn]
    exact hp1 n hn
   ·exact hpS n hn
  refine(?_:R9 _ _ _)
  subst hR9
  walk_at "D"
  intro e0 he0
  have q0:=iO he0 (.lst [])
  have ee0:upd Hd e0 (.lst []) e0=some (.lst []):=iK
  have W8:=Wd.same q0
  have b8:=bd.same q0
  generalize upd Hd e0 (.lst [])=H8 at q0 ee0 W8 b8
  refine⟨.lst (s.map Dt.int),.lst [],(by rw[Rep];exact⟨a,_,rfl,W8.la.2 i a s ha hs,Av _⟩),(by rw[Rep];exact⟨e0,[],rfl,ee0,by rw[Reps]⟩),(by rw[lG];have:=zx s;lia),.inl ⟨_,_,rfl,rfl⟩,?_⟩
  have hq:jK (.lst (s.map Dt.int)) (.lst [])=s.isEmpty:=by
   cases s with
   |nil=>exact qa _
   |cons=>rfl
  have hs3:∀n∈s,1<=pr' n/\pr' n<=16000000001:=fun n hn=>by have:=hp3 n hn;lia
  rw[hq]
  by_cases cs:s=[]
  ·rw[show s.isEmpty=true by rw[cs];rfl]
   walk_at "D"
   exact fin pr' od H8 _ _ b8 W8 hp2 hs3
  have s0:1<=s.length:=by cases s with |nil=>exact absurd rfl cs|cons=>rw[List.length_cons];lia
  rw[show s.isEmpty=false by cases s with |nil=>exact absurd rfl cs|cons=>rfl]
  walk_at "D"
  refine⟨st,od,2,rfl,W8.es,W8.so,by decide,by decide,fun x o4 x0 x1 so4=>?_⟩
  have W4:=W8.st' so4
  have b4:=b8.updS (o':=o4)
  generalize upd H8 st o4=H4 at W4 b4
  walk_at "D"
  refine ou (fun c=>?_) (fun c=>?_)
  ·simp_arith[iX,W4.la.2 i a s ha hs,ae]
   refine⟨st,o4,(s.length:Int),rfl,W4.es,W4.so,by lia,by lia,fun d5 o5 f0 f1 so5=>?_⟩
   have W5:=W4.st' so5
   have b5:=b4.updS (o':=o5)
   generalize upd H4 st o5=H5 at W5 b5
   obtain⟨j,rfl⟩:∃j:Nat,d5=(j:Int):=⟨d5.toNat,by lia⟩
   have xm:s[j]? =some s[j]:=gE (by lia)
   have hm:=bO (l:=s) (n:=j) (by lia)
   generalize s[j]=m at xm hm
   have am:jr (s.map V.int) (j:Int)=some (.int m):=by
    refine mm ?_
    rw[aC,xm]
    rfl
   have ea5:=W5.la.2 i a s ha hs
   simp_arith[iX,ea5,am]
   refine kO (jD K a) H5 (fun R2 hR2=>?_) (fun z hz0=>km s.length (fun j σ' He=>∃w1,σ'=[w1,some (.ref dl),some (.int m)]/\Same H5 He/\He z=some (.lst ((((s.take j).filter fun x=>decide (x≠m)).map pr').map V.int))) ⟨none,rfl,iO hz0 _,iK⟩ ?_ ?_)
   ·unfold jL
    walk_at "D"
    exact⟨a,rfl,⟨_,SqL.of ea5⟩,hR2⟩
   ·rintro j σ' He hj ⟨w1,rfl,s9,ez⟩
    have hj0:s[j]? =some s[j]:=gE hj
    have hjm:=bO hj
    generalize s[j]=n at hj0 hjm
    have hj1:(s.map V.int)[j]? =some (.int n):=by rw[aC,hj0];rfl
    have z1:SqL K He a (s.map V.int):=SqL.of (s9 _ _ ea5)
    refine⟨⟨_,_,z1,hj1⟩,?_⟩
    rintro y H' ⟨rfl,hy'⟩
    have:=hy' _ z1
    rw[hj1]at this
    cases this
    have ev:=og (pr:=pr') (inFs n hjm)
    rw[jv hj0,dG,bV,List.filter_nil]
    walk_at "D"
    by_cases c:n=m
    ·rw[show(!decide (n=m))=false by simp[c]]
     walk_at "D"
     refine⟨_,rfl,s9,?_⟩
     rw[ez,show decide (n≠m)=false by simp[c],ay (by decide),aY]
    ·rw[show(!decide (n=m))=true by simp[c]]
     simp_arith[s9 _ _ W5.ed,ev]
     refine⟨_,ez,?_,_,rfl,jJ s9 hz0,?_⟩
     ·rw[ae,ae]
      have:=cP (fun x=>decide (x≠m)) (s.take j)
      rw[aS]at this
      exact jt (by lia)
     ·rw[iK,show decide (n≠m)=true by simp[c],aA rfl,aq,aq]
      rfl
   rintro σ' He ⟨w1,rfl,s9,ez⟩
   refine⟨⟨_,SqL.of (s9 _ _ ea5),by rw[ae];exact ao _⟩,?_⟩
   rw[aV]at ez
   walk_at "D"
   refine⟨z,_,rfl,ez,?_⟩
   have We:=W5.same s9
   have be:=b5.same s9
   obtain⟨z0,z1⟩:=Ej (B:=1000000000) (by decide) hp3 fun x=>decide (x≠m)
   generalize (((s.filter fun x=>decide (x≠m)).map pr').sum)=S at z0 z1
   walk_at "D"
   refine⟨st,o5,3,rfl,We.es,We.so,by decide,by decide,fun d6 o6 g60 g61 so6=>?_⟩
   have W6:=We.st' so6
   have b6:=be.updS (o':=o6)
   generalize upd He st o6=H6 at W6 b6
   simp_arith[W6.ed,uQ (inFs _ hm)]
   refine⟨by unfold jf;rw[ae,av];exact jt (by lia),fin _ o6 _ _ _ (b6.updf fdl) (W6.dl' _) (fun n hn=>?_) (fun n hn=>?_)⟩
   ·rw[nB _ (fun z=>fn3 n hn m hm z)]
    exact hp2 n hn
   ·by_cases c2:n=m
    ·subst c2
     rw[o8]
     split<;>lia
    ·rw[nB _ c2]
     exact hs3 n hn
  ·exact fin pr' o4 H4 _ _ b4 W4 hp2 hs3
 rintro σ Hc ⟨w4,w5,w6,pr,oc,rfl,bc,Wc,hp1⟩
 rw[ae,bQ (by have:=la.1;lia)]at Wc hp1
 refine(?_:R _ _ _)
 subst hR
 walk_at "D"
 exact h dl Hc oc pr bc Wc.es Wc.so fdl Wc.ed hp1
noncomputable def lV(n:Int)(i:Nat):List Int:=(List.range i).map fun k:Nat=>n+(k:Int)
theorem EL(n:Int)(i:Nat):lV n (i+1)=lV n i++[n+(i:Int)]:=by
 unfold lV
 rw[bL,aq]
 rfl
theorem uO{n x:Int}{i:Nat}(h:x∈lV n i):n<=x/\x<n+(i:Int):=by
 obtain⟨k,hk,rfl⟩:=aw.mp h
 have:=bg.mp hk
 lia
theorem Ic(n:Int)(i:Nat):(lV n i).Nodup:=by
 unfold lV
 refine bB.mpr (fD (fun{a b} h e=>h ?_) (List.nodup_range (n:=i)))
 lia
theorem EK(s:List Int)(k:Nat)(n:Int):(s.take k++n::s.drop k).Perm (n::s):=by
 have:=List.perm_middle (a:=n) (l₁:=s.take k) (l₂:=s.drop k)
 rw[bY]at this
 exact this
noncomputable def kQ(sp:List Int)(k:Nat):Int:=sp.getD (if k=0 then sp.length-1 else k-1) 0
noncomputable def rt(sp:List Int)(k:Nat):Int×Int:=(min (kQ sp k) (sp.getD k 0),max (kQ sp k) (sp.getD k 0))
noncomputable def kY(sp:List Int):List (Int×Int):=(List.range sp.length).map (rt sp)
theorem getD_at{sp:List Int}{k:Nat}(h:k<sp.length):jr (sp.map V.int) (k:Int)=some (.int (sp.getD k 0)):=by
 refine mm ?_
 rw[aC,aJ,gE h]
 rfl
theorem IK{sp:List Int}{k:Nat}(h:k<sp.length):jr (sp.map V.int) ((k:Int)-1)=some (.int (kQ sp k)):=by
 unfold kQ
 by_cases c:k=0
 ·subst c
  rw[aA rfl]
  have e:jr (sp.map V.int) (((0:Nat):Int)-1)=jr (sp.map V.int) ((sp.length-1:Nat):Int):=by
   have e1:kI sp.length (((0:Nat):Int)-1)=some (sp.length-1):=by
    unfold kI
    rw[ay (by decide),aA (by lia)]
    congr 1
    lia
   have e2:kI sp.length ((sp.length-1:Nat):Int)=some (sp.length-1):=by
    unfold kI
    rw[aA (by lia),aA (by lia)]
    congr 1
   unfold jr
   rw[ae,e1,e2]
  rw[e,getD_at (by lia)]
 ·rw[ay c,show((k:Int)-1)=((k-1:Nat):Int) by lia,getD_at (by lia)]
def ye:Sp:=fun vs H Q _=>∃s o n,vs=[.ref s,.int n]/\H s=some o/\StO o/\400<=n/\n<=430/\∀t pl tl zs us H' o' (sp ms:List Int) (w:Int),But s H H'->H' s=some o'->StO o'->H t=none->H pl=none->H tl=none->H' t=some (.tup [.ref pl,.ref tl])->H' pl=some (.lst zs)->H' tl=some (.lst us)->Prs H' zs (ms.map fun n=>(n,w))->Prs H' us (kY sp)->ms.Perm sp->ms.Pairwise (·<=·)->sp.Perm (lV n sp.length)->3<=sp.length->sp.length<=7->1<=w->w<=9->Q (.ref t) H'
theorem G5(B:Blt mg)(D:DefAt K mg "_law_ring" (iM 43) ["_law_state","_law_first"] f fd)(Dqa:DefAt K mg "_law_take" (iM 41) ["_law_state","_law_many"] fqa dqa)(Gqa:FnOk P w K mg base iR 1 fqa dqa ["_law_state","_law_many"] rq):FnOk P w K mg base iR 3 f fd ["_law_state","_law_first"] ye:=by
 have sc:FnScope ["_law_state","_law_first","_law_size","_law_spots","_law_k","_law_ties","_law_price"] ["_law_state","_law_first"] (je (iM 43)):=by walk_at "SC"
 refine D.F.ok sc (fun vs H Q E h=>?_) (fun cdv A outer s H vs Q E hr h=>?_)
 ·obtain⟨s,o,n,rfl,_⟩:=h
  rfl
 obtain⟨st,o,n,rfl,es,so,n0,n1,h⟩:=h
 have hu:=jn hr
 have hu0:_<PySem.cLine:=aF hu
 refine⟨_,(iN (jb (i:=2) sc.nd rfl (Or.inl rfl) (i9 jM iL (i9 l5 iL (jd Gqa (hr.mono (by decide)) rfl Dqa.m Dqa.F.kp Dqa.b .nil iZ (iH (qv 0) (iH iL iI)))))) (iN (jb (i:=3) sc.nd rfl (Or.inl rfl) (kx iI)) (iN (kh bf rfl (pj rfl B.range (iH (qv 2) iI)) (iY (i:=4) sc.nd rfl (Or.inl rfl)) (iS (kF (lY bw PySem.F.slot_list_insert PySem.F.type_list_insert CV (qv 3) (iH (jd Gqa (hr.mono (by decide)) rfl Dqa.m Dqa.F.kp Dqa.b .nil iZ (iH (qv 0) (iH (i9 jM (jq lO rfl B.len bN (iH (qv 3) iI)) iL) iI))) (iH (i9 jM (qv 1) (qv 4)) iI)))))) (iN (jb (i:=5) sc.nd rfl (Or.inl rfl) (kx iI)) (iN (kh bf rfl (pj rfl B.range (iH (qv 2) iI)) (iY (i:=4) sc.nd rfl (Or.inl rfl)) (iS (kF (lY bw bG bF mL (qv 5) (iH (kg (iH (jq (xp rfl) rfl B.min gh (iH (iT iU (qv 3) (i9 qY (qv 4) iL) (fun _ _=>rfl)) (iH (iT iU (qv 3) (qv 4) (fun _ _=>rfl)) iI))) (iH (jq (t8 rfl) rfl B.max gj (iH (iT iU (qv 3) (i9 qY (qv 4) iL) (fun _ _=>rfl)) (iH (iT iU (qv 3) (qv 4) (fun _ _=>rfl)) iI))) iI))) iI))))) (iN (jb (i:=6) sc.nd rfl (Or.inr rfl) (i9 jM iL (jd Gqa (hr.mono (by decide)) rfl Dqa.m Dqa.F.kp Dqa.b .nil iZ (iH (qv 0) (iH iL iI))))) (iS (jh (kg (iH (kN (CpScope.of (N:=["_law_place","_law_price"]) (src:=[none,some 6]) (by rfl)) rfl (jO (jq AI rfl B.sorted eB (iH (qv 3) iI))) (fun _ _ _ _=>(iY (i:=0) (jy (l:=["_law_place","_law_price"]) (by rfl)) rfl (Or.inl rfl))) (fun _ _ _ _=>kS) (fun _ _ _ _=>(kg (iH (qv 0) (iH (qv 1) iI))))) (iH (qv 5) iI))))))))))),?_⟩
 refine i7 fun R hR=>?_
 walk_at "D"
 refine⟨st,o,3,rfl,es,so,by decide,by decide,fun d1 o1 d10 d11 so1=>?_⟩
 have b1:But st H (upd H st o1):=But.at _ _ _
 have e1:upd H st o1 st=some o1:=iK
 generalize upd H st o1=H1 at b1 e1
 walk_at "D"
 refine⟨mN (by decide) (by decide),?_⟩
 subst hR
 refine i7 fun R hR=>?_
 walk_at "D"
 intro sl hsl
 have q2:=iO hsl (.lst [])
 have esl:upd H1 sl (.lst []) sl=some (.lst (([]:List Int).map V.int)):=iK
 have es2:=q2 _ _ e1
 have b2:=b1.same q2
 have nsl:sl≠st:=(iV e1 hsl).symm
 have fsl:H sl=none:=b1.free nsl hsl
 generalize upd H1 sl (.lst [])=H2 at q2 esl es2 b2
 clear q2 hsl b1 e1
 subst hR
 refine i7 fun R hR=>?_
 obtain⟨N,hN,hN3,hN7⟩:∃N:Nat,(N:Int)=3+2*d1/\3<=N/\N<=7:=⟨(3+2*d1).toNat,by lia,by lia,by lia⟩
 refine kU (me 0 N) H2 (fun R' hR'=>?_) (qg (n:=N) (fun i σ Hc=>∃w4 sp oc,σ=[some (.ref st),some (.int n),some (.int (3+2*d1)),some (.ref sl),w4,none,none]/\But st H Hc/\Hc st=some oc/\StO oc/\Hc sl=some (.lst (sp.map V.int))/\sp.Perm (lV n i)) ⟨none,[],o1,rfl,b2,es2,so1,esl,.refl _⟩ ?_ ?_)
 ·unfold nU
  walk_at "D"
  exact ⟨_,rfl,by lia,by lia,by rw [<- hN]; simpa using hR'⟩
 ·rintro i σ Hc hi ⟨w4,sp,oc,rfl,bc,ec,soc,eslc,pc⟩
  have hspl:=pc.length_eq
  rw[show(lV n i).length=i by unfold lV;rw[ae,bz]]at hspl
  walk_at "D"
  refine⟨⟨sl,_,rfl,eslc⟩,?_⟩
  simp_arith[iX,eslc,ae]
  refine⟨st,oc,(sp.length:Int)+1,rfl,ec,soc,by lia,by lia,fun d7 o7 d70 d71 so7=>?_⟩
  have b7:But st Hc (upd Hc st o7):=But.at _ _ _
  have e7:upd Hc st o7 st=some o7:=iK
  generalize upd Hc st o7=H7 at b7 e7
  have esl7:=b7 _ _ nsl eslc
  unfold tQ
  dsimp only
  rw[esl7]
  dsimp only
  rw[Ig]
  refine⟨⟨d70,by rw[ae];lia,by rw[ae];lia⟩,_,_,o7,rfl,(bc.trans b7).updf fsl,by rw[iQ nsl.symm];exact e7,so7,iK,?_⟩
  rw[EL]
  refine(EK ..).trans ?_
  rw[gU]
  exact((pc.cons _).trans (cO (l₁:=[_])))
 rintro σ Hc ⟨w4,sp,oc,rfl,bc,ec,soc,eslc,pc⟩
 have hspl:=pc.length_eq
 rw[show(lV n N).length=N by unfold lV;rw[ae,bz]]at hspl
 subst hspl
 refine(?_:R _ _ _)
 subst hR
 refine i7 fun R hR=>?_
 walk_at "D"
 intro tl htl
 have q3:=iO htl (.lst [])
 have etl:upd Hc tl (.lst []) tl=some (.lst []):=iK
 have es3:=q3 _ _ ec
 have esl3:=q3 _ _ eslc
 have b3:=bc.same q3
 have ntl:tl≠st:=(iV ec htl).symm
 have ftl:H tl=none:=bc.free ntl htl
 have nts:tl≠sl:=(iV eslc htl).symm
 generalize upd Hc tl (.lst [])=H3 at q3 etl es3 esl3 b3
 clear q3 htl ec bc eslc
 subst hR
 refine i7 fun R hR=>?_
 refine kU (me 0 sp.length) H3 (fun R' hR'=>?_) (qg (n:=sp.length) (fun i σ Hc=>∃w4 us,σ=[some (.ref st),some (.int n),some (.int (3+2*d1)),some (.ref sl),w4,some (.ref tl),none]/\But st H Hc/\Hc st=some oc/\Hc sl=some (.lst (sp.map V.int))/\Hc tl=some (.lst us)/\Prs Hc us ((List.range i).map (rt sp))) ⟨w4,[],rfl,b3,es3,esl3,etl,.nil⟩ ?_ ?_)
 ·unfold nU
  walk_at "D"
  exact ⟨_,rfl,by lia,by lia,by rw [<- hN]; simpa using hR'⟩
 ·rintro i σ Hc hi ⟨w4,us,rfl,bc,ec,eslc,etlc,pu⟩
  have hul:=aD pu
  rw[ae,bz]at hul
  have a1:=getD_at hi
  have a2:=IK hi
  simp_arith[iX,eslc,gU,a1,a2,Dp,Do]
  refine⟨⟨tl,us,rfl,etlc⟩,?_⟩
  intro p hp
  have q5:=iO hp (.tup [V.int (min (kQ sp i) (sp.getD i 0)),V.int (max (kQ sp i) (sp.getD i 0))])
  have etl5:=q5 _ _ etlc
  rw[etl5]
  dsimp only
  have t6:=k6 (ys:=us++[.ref p]) etl5
  refine⟨jt (by lia),_,us++[.ref p],rfl,(bc.same q5).updf ftl,(by rw[iQ ntl.symm];exact q5 _ _ ec),(by rw[iQ nts.symm];exact q5 _ _ eslc),iK,?_⟩
  rw[bL,aq]
  exact k7 (Prs.tups t6 (Prs.same q5 pu)) ⟨p,rfl,t6 _ _ rfl iK⟩
 rintro σ Hc ⟨w4,us,rfl,bc,ec,eslc,etlc,pu⟩
 refine(?_:R _ _ _)
 subst hR
 refine i7 fun R hR=>?_
 walk_at "D"
 refine⟨st,oc,9,rfl,ec,soc,by decide,by decide,fun d2 o2 d20 d21 so2=>?_⟩
 have b4:=bc.updS (o':=o2)
 have e4:upd Hc st o2 st=some o2:=iK
 have t4:lq Hc (upd Hc st o2):=(But.at st Hc o2).tups ec soc.imm
 have pu4:=Prs.tups t4 pu
 have esl4:upd Hc st o2 sl=_:=(iQ nsl).trans eslc
 have etl4:upd Hc st o2 tl=_:=(iQ ntl).trans etlc
 generalize upd Hc st o2=H4 at b4 e4 t4 pu4 esl4 etl4
 walk_at "D"
 subst hR
 walk_at "D"
 refine vO (ι:=Addr×List Int×Hp) (fun y=>jD K y.1) (fun y=>y.2.2) (fun y=>Same H4 y.2.2/\y.2.2 y.1=some (.lst (y.2.1.map V.int))/\y.2.1.Perm sp/\y.2.1.Pairwise (·<=·)) (fun R2 hR2=>?_) ?_
 ·unfold jL
  walk_at "D"
  refine⟨sl,sp,rfl,esl4,by lia,fun l1 ms hl1 pm sm=>?_⟩
  exact⟨l1,rfl,⟨_,SqL.of iK⟩,hR2 (l1,ms,_) ⟨iO hl1 _,iK,pm,sm⟩⟩
 rintro⟨ml,ms,H8⟩ ⟨s8,eml,pm,sm⟩ z hz0
 dsimp only at s8 eml pm sm hz0 ⊢
 have hml:=pm.length_eq
 refine km ms.length (fun j σ' He=>∃w1 vs,σ'=[w1,some (.int (1+d2))]/\Same H8 He/\He z=some (.lst vs)/\Prs He vs ((ms.take j).map fun n=>(n,1+d2))) ⟨none,[],rfl,iO hz0 _,iK,.nil⟩ ?_ ?_
 ·rintro j σ' He hj ⟨w1,vs,rfl,s9,ez,pv⟩
  have hj0:ms[j]? =some ms[j]:=gE hj
  generalize ms[j]=n at hj0
  have hj1:(ms.map V.int)[j]? =some (.int n):=by rw[aC,hj0];rfl
  have z1:SqL K He ml (ms.map V.int):=SqL.of (s9 _ _ eml)
  refine⟨⟨_,_,z1,hj1⟩,?_⟩
  rintro y H' ⟨rfl,hy'⟩
  have:=hy' _ z1
  rw[hj1]at this
  cases this
  have hvl:vs.length<=j:=by
   rw[aD pv,ae,aS]
   exact fZ _ _
  walk_at "D"
  intro t5 ht5
  have q5:=iO ht5 (.tup [.int n,.int (1+d2)])
  have ez5:=q5 _ _ ez
  have t6:=k6 (ys:=vs++[.ref t5]) ez5
  refine⟨vs,ez5,jt (by lia),_,vs++[.ref t5],rfl,jJ (s9.trans q5) hz0,iK,?_⟩
  rw[jv hj0,aq]
  exact k7 (Prs.tups t6 (Prs.same q5 pv)) ⟨t5,rfl,t6 _ _ rfl iK⟩
 rintro σ' He ⟨w1,vs,rfl,s9,ez,pv⟩
 refine⟨⟨_,SqL.of (s9 _ _ eml),by rw[ae];exact ao _⟩,?_⟩
 rw[aV]at pv
 have s29:=s8.trans s9
 walk_at "D"
 intro t ht
 have qC:=iO ht (.tup [.ref z,.ref tl])
 have bC:=b4.same (s29.trans qC)
 have fz:H z=none:=b4.free (iV (s8 _ _ e4) hz0).symm (by
  cases e:H4 z with
  |none=>rfl
  |some u=>rw[s8 _ _ e]at hz0;cases hz0)
 have ft:H t=none:=(b4.same s29).free (iV (s29 _ _ e4) ht).symm ht
 exact h t z tl vs us _ o2 sp ms (1+d2) bC ((s29.trans qC) _ _ e4) so2 ft fz ftl iK (qC _ _ ez) ((s29.trans qC) _ _ etl4) (Prs.same qC pv) (Prs.same (s29.trans qC) pu4) pm sm pc hN3 hN7 (by lia) (by lia)
theorem An:∀(ps:List (Int×Int)),kM (ps.map kq)<=1
 |[]=>by rw[cL,kM];lia
 |p::r=>by
  rw[ah,kM]
  have:=An r
  have e:lG (kq p)=1:=rfl
  lia
theorem zt:∀{sts:List (List Int)} {j:Nat} {s s':List Int} {n:Int},sts[j]? =some s->s'.Perm (n::s)->(sts.set j s').flatten.Perm (n::sts.flatten)
 |[],j,_,_,_,h,_=>by simp at h
 |a::r,0,s,s',n,h,p=>by
  have e:a=s:=aI h
  subst e
  rw[List.set_cons_zero,List.flatten_cons,List.flatten_cons]
  exact p.append_right _
 |a::r,j+1,s,s',n,h,p=>by
  rw[List.set_cons_succ,List.flatten_cons,List.flatten_cons]
  have ih:=zt (sts:=r) (j:=j) h p
  exact(ih.append_left a).trans List.perm_middle
theorem ze{H:Hp}{l:Addr}{xs ys:List (iJ×V)}(h:H l=some (.dK xs)):lq H (upd H l (.dK ys)):=fun b o i q=>by
 have:b≠l:=fun z=>by rw[z,h]at q;cases q;cases i
 rw[iQ this]
 exact q
structure BsOk(bs:List (List Int)):Prop where
 asc:∀s∈bs,s.Pairwise (·<·)
 nd:bs.flatten.Nodup
 rng:∀n∈bs.flatten,0<=n/\n<=340
 len:bs.flatten.length<=16
noncomputable def oS(pr:Int->Int)(s:List Int)(n:Int):Int:=((s.filter fun x=>decide (x≠n)).map pr).sum
def GrD(pr dv:Int->Int)(s:List Int):Prop:=((∀x∈s,dv x=1)/\∀p∈s,pr p<=oS pr s p)\/∃d∈s,oS pr s d<pr d/\∀x∈s,dv x=if x=d then 0 else 2
noncomputable def mh(s:List Int)(n:Int):List (Int×Int):=(s.filter fun m=>decide (n<m)).map fun m=>(n,m)
noncomputable def nP(s:List Int):List (Int×Int):=s.flatMap (mh s)
noncomputable def kC(bs:List (List Int)):List (Int×Int):=bs.flatMap nP
structure Rg(n:Int)(r:List Int×List Int×Int):Prop where
 pm:r.2.1.Perm r.1
 sm:r.2.1.Pairwise (·<=·)
 pi:r.1.Perm (lV n r.1.length)
 l3:3<=r.1.length
 l7:r.1.length<=7
 w1:1<=r.2.2
 w9:r.2.2<=9
noncomputable def jZ(rg:List (List Int×List Int×Int)):List (Int×Int):=rg.flatMap fun r=>r.2.1.map fun n=>(n,r.2.2)
noncomputable def ko(rg:List (List Int×List Int×Int)):List (Int×Int):=rg.flatMap fun r=>kY r.1
def qu(rg:List (List Int×List Int×Int)):Prop:=rg.length<=3/\∀(i:Nat) r,rg[i]? =some r->Rg (400+10*(i:Int)) r
theorem yl:∀{s:List Int},s.Pairwise (·<·)->2*(nP s).length+s.length=s.length*s.length:=by
 have key:∀{s:List Int},s.Pairwise (·<·)->2*(s.map fun n=>(s.filter fun m=>decide (n<m)).length).sum+s.length=s.length*s.length:=by
  intro s
  induction s with
  |nil=>intro _;rfl
  | cons a r ih=>
   intro h
   have h':=cZ.mp h
   have ih:=ih h'.2
   have e1:(List.filter (fun m=>decide (a<m)) (a::r)).length=r.length:=by
    rw[bV,ay (by simp),List.filter_eq_self.mpr fun m hm=>aK (h'.1 m hm)]
   have e2:(r.map fun n=>((a::r).filter fun m=>decide (n<m)).length)=r.map fun n=>(r.filter fun m=>decide (n<m)).length:=by
    refine dj fun n hn=>?_
    have:=h'.1 n hn
    rw[bV,ay (by simp;lia)]
   have e3:(r.length+1)*(r.length+1)=r.length*r.length+2*r.length+1:=by rw[Nat.succ_mul,Nat.mul_succ];lia
   rw[ah,List.sum_cons,e1,e2,List.length_cons,e3]
   lia
 intro s h
 rw [<- key h]
 unfold nP mh
 rw[List.length_flatMap]
 simp only[ae]
theorem sk:∀{bs:List (List Int)},(∀s∈bs,s.Pairwise (·<·))->bs.flatten.length<=16->2*(kC bs).length<=15*bs.flatten.length
 |[],_,_=>ao _
 |s::r,h,hl=>by
  rw[List.flatten_cons,av]at hl
  have ih:=sk (bs:=r) (fun x hx=>h x (az _ hx)) (by lia)
  have h1:=yl (h s (aH ..))
  have h2:s.length*s.length<=16*s.length:=Nat.mul_le_mul_right _ (by lia)
  unfold kC at ih ⊢
  rw[dg,av,List.flatten_cons,av]
  lia
theorem yA{dv:Int->Int}{F s:List Int}(nd:(F++s).Nodup){k m:Nat}{n v:Int}(hk:s[k]? =some n)(h1:k<=m)(h2:m<=s.length):∃m',m<=m'/\k+1<=m'/\m'<=s.length/\jF (jf dv (F++s.take m)) (Sum.inl n:iJ) (.int v)=jf (lI dv n v) (F++s.take m'):=by
 have hkl:=(ak.mp hk).1
 obtain⟨n1,n2,n3⟩:=bP.mp nd
 by_cases c:k<m
 ·refine⟨m,ao _,c,h2,uQ (bo _ ?_)⟩
  refine aE (i:=k) ?_
  rw[List.getElem?_take,aA c]
  exact hk
 ·have e:k=m:=by lia
  subst e
  refine⟨k+1,dA _,ao _,hkl,?_⟩
  rw[uP fun z=>(aW.mp z).elim (fun z=>n3 n z n (aE hk) rfl) (AW n2 hk),aQ,jv hk]
theorem DT{dv:Int->Int}{ks:List Int}(h1:∀x,x∉ks->dv x=1)(n:Int):(i8 (jf dv ks) (Sum.inl n:iJ)).getD (.int 1)= .int (dv n):=by
 by_cases c:n∈ks
 ·rw[og c];rfl
 ·rw[zz c,h1 n c];rfl
theorem BV(dv:Int->Int)(n:Int):lI dv n (dv n)=dv:=by
 funext x
 unfold lI
 by_cases c:x=n
 ·rw[aA c,c]
 ·rw[ay c]
theorem vF{F s:List Int}{m m':Nat}(h:m<=m'){x:Int}(z:x∈F++s.take m):x∈F++s.take m':=by
 rcases aW.mp z with z|z
 ·exact cC _ z
 ·refine bo _ ?_
  have e:s.take m=(s.take m').take m:=by rw[List.take_take,ij h]
  rw[e]at z
  exact List.mem_of_mem_take z
theorem Ho{β:Type}(f:List Int->List β){sts:List (List Int)}{i:Nat}{s:List Int}(h:sts[i]? =some s):(sts.take (i+1)).flatMap f=(sts.take i).flatMap f++f s:=by
 rw[jv h,dk]
 simp
structure Dq(H:Hp)(st dl bl du tl:Addr)(al:List Addr)(bs:List (List Int))(o:HO)(kp kd:List (iJ×V))(ws:List V):Prop where
 p:Pw H st dl bl al bs o kp
 edu:H du=some (.dK kd)
 etl:H tl=some (.lst ws)
theorem xK{H:Hp}{a st:Addr}{xs:List V}{ps:List (Int×Int)}{o:HO}(ha:H a=some (.lst xs))(p:Prs H xs ps)(hs:H st=some o)(so:StO o):a≠st:=by
 refine lA ha hs ?_
 obtain⟨c,x,fl,rfl,_⟩:=so
 intro h
 have e:=HO.lst.inj h
 subst e
 cases ps with
 |nil=>cases p
 |cons q r=>cases p with |cons r0 _=>obtain⟨b,e,_⟩:=r0;cases e
theorem DF{sp:List Int}{k:Nat}(h:k<sp.length):kQ sp k∈sp/\sp.getD k 0∈sp:=by
 have g:∀m,m<sp.length->sp.getD m 0∈sp:=fun m hm=>by
  rw[aJ,gE hm]
  exact bO hm
 refine⟨?_,g k h⟩
 unfold kQ
 split
 ·exact g _ (by lia)
 ·exact g _ (by lia)
theorem rS{sp:List Int}{t:Int×Int}(h:t∈kY sp):t.1∈sp/\t.2∈sp:=by
 obtain⟨k,hk,rfl⟩:=aw.mp h
 obtain⟨h1,h2⟩:=DF (bg.mp hk)
 unfold rt
 dsimp only
 rcases Int.le_total (kQ sp k) (sp.getD k 0)with c|c
 ·rw[Int.min_eq_left c,Int.max_eq_right c];exact⟨h1,h2⟩
 ·rw[Int.min_eq_right c,Int.max_eq_left c];exact⟨h2,h1⟩
theorem qi{bs:List (List Int)}{t:Int×Int}(h:t∈kC bs):∃s∈bs,t.1∈s/\t.2∈s/\t.1<t.2:=by
 obtain⟨s,hs,h⟩:=bU.mp h
 obtain⟨n,hn,h⟩:=bU.mp h
 obtain⟨m,hm,rfl⟩:=aw.mp h
 obtain⟨m1,m2⟩:=de.mp hm
 exact⟨s,hs,hn,m1,by simpa using m2⟩
theorem rQ:∀{rg:List (List Int×List Int×Int)},(∀r∈rg,r.1.length<=7)->(ko rg).length<=7*rg.length
 |[],_=>ao _
 |r::l,h=>by
  have ih:=rQ (rg:=l) fun x hx=>h x (az _ hx)
  have h1:=h r (aH ..)
  unfold ko at ih ⊢
  rw[dg,av,List.length_cons]
  have:(kY r.1).length=r.1.length:=by unfold kY;rw[ae,bz]
  lia
theorem uW:∀{rg:List (List Int×List Int×Int)},(∀r∈rg,r.2.1.length<=7)->(jZ rg).length<=7*rg.length
 |[],_=>ao _
 |r::l,h=>by
  have ih:=uW (rg:=l) fun x hx=>h x (az _ hx)
  have h1:=h r (aH ..)
  unfold jZ at ih ⊢
  rw[dg,av,List.length_cons,ae]
  lia
structure Ap2(st dl bl du tl:Addr)(al:List Addr):Prop where
 ds:du≠st
 dd:du≠dl
 ts:tl≠st
 tb:tl≠bl
 ta:∀a∈al,a≠tl
section
variable{H H':Hp}{st dl bl du tl:Addr}{al:List Addr}{bs:List (List Int)}{o:HO}{kp kd:List (iJ×V)}{ws:List V}
theorem Dq.same(w:Dq H st dl bl du tl al bs o kp kd ws)(s:Same H H'):Dq H' st dl bl du tl al bs o kp kd ws:=⟨w.p.same s,s _ _ w.edu,s _ _ w.etl⟩
theorem Dq.du'(w:Dq H st dl bl du tl al bs o kp kd ws)(A:Ap2 st dl bl du tl al)(k2:List (iJ×V)):Dq (upd H du (.dK k2)) st dl bl du tl al bs o kp k2 ws:=
 ⟨⟨by rw[iQ A.ds.symm];exact w.p.es,w.p.so,by rw[iQ A.dd.symm];exact w.p.ed,by rw[iQ (lA w.p.eb w.edu (by intro h;cases h))];exact w.p.eb,w.p.la.1,fun i a s h1 h2=>by
  have e:=w.p.la.2 i a s h1 h2
  rw[iQ (lA e w.edu (by intro h;cases h))]
  exact e⟩,iK,by rw[iQ (lA w.etl w.edu (by intro h;cases h))];exact w.etl⟩
theorem Dq.tl'(w:Dq H st dl bl du tl al bs o kp kd ws)(A:Ap2 st dl bl du tl al)(w2:List V):Dq (upd H tl (.lst w2)) st dl bl du tl al bs o kp kd w2:=
 ⟨⟨by rw[iQ A.ts.symm];exact w.p.es,w.p.so,by rw[iQ (lA w.p.ed w.etl (by intro h;cases h))];exact w.p.ed,by rw[iQ A.tb.symm];exact w.p.eb,w.p.la.1,fun i a s h1 h2=>by
  rw[iQ (A.ta a (aE h1))]
  exact w.p.la.2 i a s h1 h2⟩,by rw[iQ (lA w.edu w.etl (by intro h;cases h))];exact w.edu,iK⟩
end
def yR:Sp:=fun vs H Q _=>∃s o,vs=[.ref s]/\H s=some o/\StO o/\∀(t w du:Addr) (kd:List (iJ×V)) (H':Hp) (o':HO) (ps ts:List (Int×Int)) (bs:List (List Int)) (ms:List Int) (pr dv:Int->Int) (ks:List Int) (rg:List (List Int×List Int×Int)),But s H H'->H' s=some o'->StO o'->H' t=some (.tup [.ref w,.ref du])->jdo H' (.ref w) ps ts->H' du=some (.dK kd)->kd=jf dv ks->BsOk bs->(∀n∈bs.flatten,1<=pr n/\pr n<=16000000001)->ms.Perm bs.flatten->ms.Pairwise (·<=·)->qu rg->ps=(ms.map fun n=>(n,pr n))++jZ rg->ts.Perm (kC bs++ko rg)->ts.Pairwise oK->((kC bs).length<=99\/rg=[])->(∀s∈bs,GrD pr dv s)->(∀p∈jZ rg,dv p.1=1)->(∀p∈ps,p.1∈ks)->Q (.ref t) H'
theorem Hl(B:Blt mg)(D:DefAt K mg "_law_drawn" (iM 44) ["_law_state"] f fd)(Dqa:DefAt K mg "_law_take" (iM 41) ["_law_state","_law_many"] fqa dqa)(Gqa:FnOk P w K mg base iR 1 fqa dqa ["_law_state","_law_many"] rq)(Dqy:DefAt K mg "_law_prices" (iM 42) ["_law_state","_law_bunches"] fqy dqy)(Gqy:FnOk P w K mg base iR 3 fqy dqy ["_law_state","_law_bunches"] zV)(Dqz:DefAt K mg "_law_ring" (iM 43) ["_law_state","_law_first"] fqz dqz)(Gqz:FnOk P w K mg base iR 3 fqz dqz ["_law_state","_law_first"] ye):FnOk P w K mg base iR 4 f fd ["_law_state"] yR:=by
 have sc:FnScope ["_law_state","_law_bunches","_law_many","_law_number","_law_k","_law_prices_here","_law_due","_law_ties","_law_bunch","_law_place","_law_others","_law_other","_law_places","_law_more","_law_tied","_law_price"] ["_law_state"] (je (iM 44)):=by walk_at "SC"
 refine D.F.ok sc (fun vs H Q E h=>?_) (fun cdv A outer s H vs Q E hr h=>?_)
 ·obtain⟨s,o,rfl,_⟩:=h
  rfl
 obtain⟨st,o,rfl,es,so,h⟩:=h
 have hu:=jn hr
 have hu0:_<PySem.cLine:=aF hu
 refine⟨_,(iN (jb (i:=1) sc.nd rfl (Or.inl rfl) (kx (iH (kx iI) (iH (kx iI) (iH (kx iI) (iH (kx iI) iI)))))) (iN (jb (i:=2) sc.nd rfl (Or.inl rfl) (i9 jM iL (jd Gqa (hr.mono (by decide)) rfl Dqa.m Dqa.F.kp Dqa.b .nil iZ (iH (qv 0) (iH iL iI))))) (iN (jb (i:=3) sc.nd rfl (Or.inl rfl) (oM oN iL)) (iN (kh bf rfl (pj rfl B.range (iH (jd Gqa (hr.mono (by decide)) rfl Dqa.m Dqa.F.kp Dqa.b .nil iZ (iH (qv 0) (iH iL iI))) iI)) (iY (i:=4) sc.nd rfl (Or.inl rfl)) (iN (jb (i:=3) sc.nd rfl (Or.inl rfl) (i9 jM (i9 jM (qv 3) iL) (jd Gqa (hr.mono (by decide)) rfl Dqa.m Dqa.F.kp Dqa.b .nil iZ (iH (qv 0) (iH (iT iU (kx (iH iL (iH iL (iH iL iI)))) (jd Gqa (hr.mono (by decide)) rfl Dqa.m Dqa.F.kp Dqa.b .nil iZ (iH (qv 0) (iH iL iI))) (fun _ _=>rfl)) iI))))) (iS (kF (lY bw bG bF mL (iT iU (qv 1) (jd Gqa (hr.mono (by decide)) rfl Dqa.m Dqa.F.kp Dqa.b .nil iZ (iH (qv 0) (iH (qv 2) iI))) (fun _ _=>rfl)) (iH (qv 3) iI)))))) (iN (jb (i:=5) sc.nd rfl (Or.inr rfl) (jd Gqy (hr.mono (by decide)) rfl Dqy.m Dqy.F.kp Dqy.b .nil iZ (iH (qv 0) (iH (qv 1) iI)))) (iN (jb (i:=6) sc.nd rfl (Or.inl rfl) vg) (iN (jb (i:=7) sc.nd rfl (Or.inl rfl) (kx iI)) (iN (kh bf rfl (jO (qv 1)) (iY (i:=8) sc.nd rfl (Or.inl rfl)) (iS (kh bf rfl (jO (qv 8)) (iY (i:=9) sc.nd rfl (Or.inr rfl)) (iN (jb (i:=10) sc.nd rfl (Or.inl rfl) (jq (pQ rfl) rfl B.sum dR (iH (kN (CpScope.of (N:=["_law_other","_law_prices_here","_law_place"]) (src:=[none,some 5,some 9]) (by rfl)) rfl (jO (qv 8)) (fun _ _ _ _=>(iY (i:=0) (jy (l:=["_law_other","_law_prices_here","_law_place"]) (by rfl)) rfl (Or.inl rfl))) (fun _ _ _ _=>(rL (kR qL (qv 0) (qv 2) (jI _)))) (fun _ _ _ _=>(k4 hu (qv 1) (qv 0) (fun _ _=>rfl)))) iI))) (iN (nA hu (qv 6) (qv 9) (rO hu (qv 6) (qv 9) iL)) (iN (kr (kR nS (k4 hu (qv 5) (qv 9) (fun _ _=>rfl)) (qv 10) (jI _)) (iS (kh bf rfl (jO (qv 8)) (iY (i:=11) sc.nd rfl (Or.inl rfl)) (iS (nA hu (qv 6) (qv 11) (iT iU (kx (iH iL (iH iL iI))) (mr xV rfl B.int gk (iH (lS pJ (qv 11) (qv 9) (jI _)) iI)) (fun _ _=>rfl)))))) ky) (iS (kF (lY bw PySem.F.slot_list_extend PySem.F.type_list_extend Ff (qv 7) (iH (kN (CpScope.of (N:=["_law_other","_law_place"]) (src:=[none,some 9]) (by rfl)) rfl (jO (qv 8)) (fun _ _ _ _=>(iY (i:=0) (jy (l:=["_law_other","_law_place"]) (by rfl)) rfl (Or.inl rfl))) (fun _ _ _ _=>(rL (kR nS (qv 0) (qv 1) (jI _)))) (fun _ _ _ _=>(kg (iH (qv 1) (iH (qv 0) iI))))) iI)))))))))) (iN (uV (i:=12) sc.nd rfl (Or.inl rfl) (CpScope.of (N:=["_law_place","_law_prices_here"]) (src:=[none,some 5]) (by rfl)) rfl (jO (jq AI rfl B.sorted eB (iH (mr (Gm rfl) rfl B.list cS (iH (qv 5) iI)) iI))) (fun _ _ _ _=>(iY (i:=0) (jy (l:=["_law_place","_law_prices_here"]) (by rfl)) rfl (Or.inl rfl))) (fun _ _ _ _=>kS) (fun _ _ _ _=>(kg (iH (qv 0) (iH (k4 hu (qv 1) (qv 0) (fun _ _=>rfl)) iI))))) (iN (kh bf rfl (pj rfl B.range (iH (iT iU (kx (iH (jd Gqa (hr.mono (by decide)) rfl Dqa.m Dqa.F.kp Dqa.b .nil iZ (iH (qv 0) (iH iL iI))) (iH iL iI))) (mr xV rfl B.int gk (iH (lS nS (jq lO rfl B.len bN (iH (qv 7) iI)) iL (jI _)) iI)) (fun _ _=>rfl)) iI)) (iY (i:=4) sc.nd rfl (Or.inl rfl)) (iN (oQ (jd Gqz (hr.mono (by decide)) rfl Dqz.m Dqz.F.kp Dqz.b .nil iZ (iH (qv 0) (iH (i9 jM iL (i9 l5 iL (qv 4))) iI))) (ki (n:=2) rfl (ji (iY (i:=13) sc.nd rfl (Or.inl rfl)) (ji (iY (i:=14) sc.nd rfl (Or.inl rfl)) kj)))) (iN (jb (i:=12) sc.nd rfl (Or.inl rfl) (i9 xq (qv 12) (qv 13))) (iN (jb (i:=7) sc.nd rfl (Or.inl rfl) (i9 xq (qv 7) (qv 14))) (iS (kh bf rfl (jO (qv 13)) (ki (n:=2) rfl (ji (iY (i:=9) sc.nd rfl (Or.inr rfl)) (ji (iY (i:=15) sc.nd rfl (Or.inl rfl)) kj))) (iS (nA hu (qv 6) (qv 9) iL)))))))) (iS (jh (kg (iH (kg (iH (qv 12) (iH (jq Gn rfl B.sorted eB (iH (qv 7) iI)) iI))) (iH (qv 6) iI))))))))))))))),?_⟩
 refine i7 fun R hR=>?_
 obtain⟨G0,hG0⟩:∃G:Hp,G=H:=⟨H,rfl⟩
 rw [<- hG0]
 walk_at "D"
 intro a0 ha0
 have q0:=(iO ha0 (.lst []))
 have ea0:upd G0 a0 (.lst []) a0=some (.lst []):=iK
 generalize upd G0 a0 (.lst [])=G1 at q0 ea0
 walk_at "D"
 intro a1 ha1
 have q1:=q0.trans (iO ha1 (.lst []))
 have n0_1:a0≠a1:=iV ea0 ha1
 replace ea0:=iO ha1 (.lst []) _ _ ea0
 have ea1:upd G1 a1 (.lst []) a1=some (.lst []):=iK
 generalize upd G1 a1 (.lst [])=G2 at q1 ea0 ea1
 walk_at "D"
 intro a2 ha2
 have q2:=q1.trans (iO ha2 (.lst []))
 have n0_2:a0≠a2:=iV ea0 ha2
 replace ea0:=iO ha2 (.lst []) _ _ ea0
 have n1_2:a1≠a2:=iV ea1 ha2
 replace ea1:=iO ha2 (.lst []) _ _ ea1
 have ea2:upd G2 a2 (.lst []) a2=some (.lst []):=iK
 generalize upd G2 a2 (.lst [])=G3 at q2 ea0 ea1 ea2
 walk_at "D"
 intro a3 ha3
 have q3:=q2.trans (iO ha3 (.lst []))
 have n0_3:a0≠a3:=iV ea0 ha3
 replace ea0:=iO ha3 (.lst []) _ _ ea0
 have n1_3:a1≠a3:=iV ea1 ha3
 replace ea1:=iO ha3 (.lst []) _ _ ea1
 have n2_3:a2≠a3:=iV ea2 ha3
 replace ea2:=iO ha3 (.lst []) _ _ ea2
 have ea3:upd G3 a3 (.lst []) a3=some (.lst []):=iK
 generalize upd G3 a3 (.lst [])=G4 at q3 ea0 ea1 ea2 ea3
 walk_at "D"
 intro sl hsl
 have q5:=q3.trans (iO hsl (.lst [V.ref a0,V.ref a1,V.ref a2,V.ref a3]))
 have esl:upd G4 sl (.lst [V.ref a0,V.ref a1,V.ref a2,V.ref a3]) sl=some (.lst [V.ref a0,V.ref a1,V.ref a2,V.ref a3]):=iK
 have LA:LsA (upd G4 sl (.lst [V.ref a0,V.ref a1,V.ref a2,V.ref a3])) [a0,a1,a2,a3] [[],[],[],[]]:=by
  have qs:=iO hsl (.lst [V.ref a0,V.ref a1,V.ref a2,V.ref a3])
  refine⟨rfl,fun i a s h1 h2=>?_⟩
  match i,h1,h2 with
  |0,h1,h2=>cases h1;cases h2;exact qs _ _ ea0
  |1,h1,h2=>cases h1;cases h2;exact qs _ _ ea1
  |2,h1,h2=>cases h1;cases h2;exact qs _ _ ea2
  |3,h1,h2=>cases h1;cases h2;exact qs _ _ ea3
 have nd:[a0,a1,a2,a3].Nodup:=by simp[n0_1,n0_2,n0_3,n1_2,n1_3,n2_3]
 have hfr:∀a∈[a0,a1,a2,a3],G0 a=none/\a≠st:=fun a ha=>by
  have e0:G0 st=some o:=by rw[hG0];exact es
  have f0:G0 a0=none:=ha0
  have f1:G0 a1=none:=q0.free ha1
  have f2:G0 a2=none:=q1.free ha2
  have f3:G0 a3=none:=q2.free ha3
  have:G0 a=none:=by
   rcases aM.mp ha with rfl|ha
   ·exact f0
   rcases aM.mp ha with rfl|ha
   ·exact f1
   rcases aM.mp ha with rfl|ha
   ·exact f2
   rw[aZ.mp ha]
   exact f3
  exact⟨this,(iV e0 this).symm⟩
 have hslA:∀a∈[a0,a1,a2,a3],a≠sl:=fun a ha=>by
  rcases aM.mp ha with rfl|ha
  ·exact iV ea0 hsl
  rcases aM.mp ha with rfl|ha
  ·exact iV ea1 hsl
  rcases aM.mp ha with rfl|ha
  ·exact iV ea2 hsl
  rw[aZ.mp ha]
  exact iV ea3 hsl
 generalize upd G4 sl (.lst [V.ref a0,V.ref a1,V.ref a2,V.ref a3])=H1 at q5 esl LA
 subst hG0
 have hslG:G0 sl=none:=q3.free hsl
 have nsl:sl≠st:=(iV es hslG).symm
 rw[show([V.ref a0,V.ref a1,V.ref a2,V.ref a3]:List V)=[a0,a1,a2,a3].map V.ref from rfl]at esl
 have hal4:[a0,a1,a2,a3].length=4:=rfl
 generalize [a0,a1,a2,a3]=al at esl LA nd hfr hslA hal4
 clear ea0 ea1 ea2 ea3 n0_1 n0_2 n0_3 n1_2 n1_3 n2_3 ha0 ha1 ha2 ha3 q0 q1 q2 q3
 have es1:=q5 _ _ es
 subst hR
 refine i7 fun R hR=>?_
 walk_at "D"
 refine⟨st,o,4,rfl,es1,so,by decide,by decide,fun d1 o1 d10 d11 so1=>?_⟩
 have b2:But st G0 (upd H1 st o1):=fun b u nb q=>by rw[iQ nb];exact q5 _ _ q
 have es2:upd H1 st o1 st=some o1:=iK
 have esl2:upd H1 st o1 sl=some (.lst (al.map V.ref)):=by rw[iQ nsl];exact esl
 have LA2:=LA.but es1 so (But.at st H1 o1)
 generalize upd H1 st o1=H2 at b2 es2 esl2 LA2
 walk_at "D"
 subst hR
 refine i7 fun R hR=>?_
 walk_at "D"
 subst hR
 refine i7 fun R hR=>?_
 refine AV (ι:=Nat×HO×Hp) (fun y=>me 0 y.1) (fun y=>y.2.2) (fun y=>y.1<=16/\y.2.2=upd H2 st y.2.1/\StO y.2.1) (fun R' hR'=>?_) ?_
 ·unfold nU
  walk_at "D"
  refine⟨st,o1,17,rfl,es2,so1,by decide,by decide,fun d2 o2 d20 d21 so2=>?_⟩
  exact⟨_,rfl,by lia,by lia,hR' (d2.toNat,o2,_) ⟨by show d2.toNat<=16;lia,rfl,so2⟩⟩
 rintro⟨N,o2,H3⟩ ⟨hN,e3,so2⟩
 dsimp only at hN e3 so2
 have b3:But st G0 H3:=fun b u nb q=>by rw[e3,iQ nb];exact b2 _ _ nb q
 have es3:H3 st=some o2:=by rw[e3];exact iK
 have esl3:H3 sl=some (.lst (al.map V.ref)):=by rw[e3,iQ nsl];exact esl2
 have LA3:LsA H3 al [[],[],[],[]]:=by rw[e3];exact LA2.but es2 so1 (But.at st H2 o2)
 clear e3
 refine qg (n:=N) (fun i σ Hc=>∃num w4 bs o',σ=[some (.ref st),some (.ref sl),some (.int (1+d1)),some (.int num),w4,none,none,none,none,none,none,none,none,none,none,none]/\But st G0 Hc/\Hc st=some o'/\StO o'/\Hc sl=some (.lst (al.map V.ref))/\LsA Hc al bs/\bs.flatten.Nodup/\(∀s∈bs,s.Pairwise (·<·))/\(∀n∈bs.flatten,0<=n/\n<=num)/\num<= -1+20*(i:Int)/\-1<=num/\bs.flatten.length=i) ⟨-1,none,[[],[],[],[]],o2,rfl,b3,es3,so2,esl3,LA3,by simp,by simp,fun n hn=>by simp at hn,by lia,by lia,rfl⟩ ?_ ?_
 ·rintro i σ Hc hi ⟨num,w4,sts,o',rfl,bc,ec,so',eslc,LAc,ndc,asc,hb,hnum,hnum1,hfl⟩
  simp only[mF,List.set_cons_zero,List.set_cons_succ]
  refine i7 fun R9 hR9=>?_
  walk_at "D"
  intro p1 hp1
  have np:p1≠st:=(iV ec hp1).symm
  refine⟨st,o',3,rfl,(by rw[iQ np.symm];exact ec),so',by decide,by decide,fun d4 o4 d40 d41 so4=>?_⟩
  obtain⟨v,ev,v0,v1⟩:∃v,jr [V.int 1,.int 3,.int 20] d4=some (.int v)/\1<=v/\v<=20:=by
   obtain⟨v,ev,hv⟩:=Du (a:=1) (b:=3) (c:=20) d40 d41
   exact⟨v,ev,by lia,by lia⟩
  simp_arith[iX,iQ np,iK,ev]
  refine⟨st,o4,v,rfl,iK,so4,by lia,by lia,fun d5 o5 d50 d51 so5=>?_⟩
  simp_arith[zg]
  have b5:But st Hc (upd (upd Hc p1 (.lst [.int 1,.int 3,.int 20])) st o5):=(But.new hp1).trans (But.at _ _ _)
  have e5:(upd (upd Hc p1 (.lst [.int 1,.int 3,.int 20])) st o5) st=some o5:=iK
  generalize upd (upd Hc p1 (.lst [.int 1,.int 3,.int 20])) st o5=H5 at b5 e5
  have esl5:=b5 _ _ nsl eslc
  have LA5:=LAc.but ec so' b5
  have bc5:=bc.trans b5
  subst hR9
  walk_at "D"
  refine⟨st,o5,1+d1,rfl,e5,so5,by lia,by lia,fun d6 o6 d60 d61 so6=>?_⟩
  have b6:But st H5 (upd H5 st o6):=But.at _ _ _
  have e6:upd H5 st o6 st=some o6:=iK
  generalize upd H5 st o6=H6 at b6 e6
  have esl6:=b6 _ _ nsl esl5
  have LA6:=LA5.but e5 so5 b6
  have bc6:=bc5.trans b6
  obtain⟨j,rfl⟩:∃j:Nat,d6=(j:Int):=⟨d6.toNat,by lia⟩
  have hj:j<al.length:=by lia
  have xa:al[j]? =some al[j]:=gE hj
  have haj:=bO hj
  generalize al[j]=aj at xa haj
  have hjs:j<sts.length:=by have:=LA6.1;lia
  have xs:sts[j]? =some sts[j]:=gE hjs
  generalize sts[j]=sj at xs
  have eaj:=LA6.2 j aj sj xa xs
  have aa:jr (al.map V.ref) (j:Int)=some (.ref aj):=by
   refine mm ?_
   rw[aC,xa]
   rfl
  have naj:=(hfr aj haj).2
  have hsjl:sj.length<=i:=by
   have:=(List.sublist_flatten_of_mem (aE xs)).length_le
   lia
  have P:=zt xs (s':=sj++[num+1+d5]) (n:=num+1+d5) (cO (l₁:=sj) (l₂:=[_]))
  simp_arith[iX,esl6,aa]
  refine⟨⟨aj,_,rfl,eaj⟩,?_⟩
  rw[eaj]
  dsimp only
  rw[show sj.map V.int++[V.int (num+1+d5)]=(sj++[num+1+d5]).map V.int by rw[aq];rfl]
  have inF:∀x∈sj,x∈sts.flatten:=fun x hx=>bS.mpr ⟨sj,aE xs,hx⟩
  refine⟨by rw[ae];exact jt (by lia),_,_,sts.set j (sj++[num+1+d5]),o6,rfl,fun b u nb q=>?_,?_,so6,?_,LA6.set nd xa _,?_,fun s hs=>?_,fun n hn=>?_,?_,?_,?_⟩
  ·rw[iQ (iV q (hfr aj haj).1)]
   exact bc6 _ _ nb q
  ·rw[iQ naj.symm]
   exact e6
  ·rw[iQ (hslA aj haj).symm]
   exact esl6
  ·refine P.nodup_iff.mpr (br.mpr ⟨fun z=>?_,ndc⟩)
   have:=hb _ z
   lia
  ·rcases List.mem_or_eq_of_mem_set hs with hs|rfl
   ·exact asc s hs
   ·refine bu.mpr ⟨asc sj (aE xs),List.pairwise_singleton _ _,fun a ha b hb'=>?_⟩
    rw[aZ.mp hb']
    have:=hb a (inF a ha)
    lia
  ·rcases aM.mp (P.mem_iff.mp hn)with rfl|hn
   ·lia
   ·have:=hb _ hn
    lia
  ·lia
  ·lia
  ·rw[P.length_eq,List.length_cons,hfl]
 rintro σ Hc ⟨num,w4,bs,oc,rfl,bc,ec,soc,eslc,LAc,ndc,asc,hb,hnum,hnum1,hfl⟩
 have BK:BsOk bs:=⟨asc,ndc,fun n hn=>by have:=hb n hn;lia,by lia⟩
 refine(?_:R _ _ _)
 clear b3 es3 so2 esl3 LA3 asc ndc hb hnum hfl
 subst hR
 refine i7 fun R hR=>?_
 walk_at "D"
 refine⟨st,oc,sl,al,bs,rfl,ec,soc,eslc,LAc,BK.nd,BK.len,fun dl H4 o4 pr b4 e4 so4 fdl0 edl hpr=>?_⟩
 have W4:Pw H4 st dl sl al bs o4 (jf pr bs.flatten):=⟨e4,so4,edl,b4 _ _ nsl eslc,LAc.but ec soc b4⟩
 have b4:=bc.trans b4
 subst hR
 refine i7 fun R hR=>?_
 walk_at "D"
 intro du hdu
 have q5:=iO hdu (.dK [])
 have edu:upd H4 du (.dK []) du=some (.dK []):=iK
 have W5:=W4.same q5
 have b5:=b4.same q5
 have ds:du≠st:=(iV e4 hdu).symm
 have dd:du≠dl:=(iV edl hdu).symm
 have fdu:G0 du=none:=b4.free ds hdu
 generalize upd H4 du (.dK [])=H5 at q5 edu W5 b5
 subst hR
 refine i7 fun R hR=>?_
 walk_at "D"
 intro tl htl
 have q6:=iO htl (.lst [])
 have etl:upd H5 tl (.lst []) tl=some (.lst []):=iK
 have ts0:tl≠st:=(iV W5.es htl).symm
 have ftl:G0 tl=none:=b5.free ts0 htl
 have Ap:Ap2 st dl sl du tl al:=⟨ds,dd,ts0,(iV W5.eb htl).symm,fun a ha=>by
  obtain⟨i,hi⟩:=cD ha
  have hil:=(ak.mp hi).1
  have:i<bs.length:=by have:=W5.la.1;lia
  exact iV (W5.la.2 i a _ hi (gE this)) htl⟩
 have W6:Dq (upd H5 tl (.lst [])) st dl sl du tl al bs o4 (jf pr bs.flatten) (jf (fun _=>1) []) []:=⟨W5.same q6,q6 _ _ edu,etl⟩
 have b6:=b5.same q6
 generalize upd H5 tl (.lst [])=H6 at q6 W6 b6
 clear q5 q6 W5 b5 b4 W4 etl edu hdu htl e4 edl so4 ec eslc LAc soc ds dd ts0 bc
 subst hR
 refine i7 fun R hR=>?_
 refine kU (jD K sl) H6 (fun R' hR'=>?_) (l8 (K:=K) (a:=sl) (xs:=al.map V.ref) (fun i σ Hc=>∃w8 w9 w10 w11 dv ws,σ=[some (.ref st),some (.ref sl),some (.int (1+d1)),some (.int num),w4,some (.ref dl),some (.ref du),some (.ref tl),w8,w9,w10,w11,none,none,none,none]/\But st G0 Hc/\Dq Hc st dl sl du tl al bs o4 (jf pr bs.flatten) (jf dv (bs.take i).flatten) ws/\Prs Hc ws (kC (bs.take i))/\(∀x,x∉(bs.take i).flatten->dv x=1)/\∀s∈bs.take i,GrD pr dv s) ⟨none,none,none,none,fun _=>1,[],rfl,b6,W6,.nil,fun _ _=>rfl,fun s hs=>by simp at hs⟩ (fun i σ Hc _ ⟨_,_,_,_,_,_,_,_,w,_⟩=>SqL.of w.p.eb) ?_ ?_)
 ·unfold jL
  walk_at "D"
  exact⟨sl,rfl,⟨_,SqL.of W6.p.eb⟩,hR'⟩
 ·rintro i y σ Hc hy ⟨w8,w9,w10,w11,dv0,ws0,rfl,bc,Wc,pc,dv1,grs⟩
  rw[aC]at hy
  obtain⟨a,ha,rfl⟩:=bM.mp hy
  have hi:i<bs.length:=by have:=(ak.mp ha).1;have:=W6.p.la.1;lia
  have hs:bs[i]? =some bs[i]:=gE hi
  have hsm:bs[i]∈bs:=bO hi
  generalize bs[i]=s at hs hsm
  have hsF:∀x∈s,x∈bs.flatten:=fun x hx=>bS.mpr ⟨s,hsm,hx⟩
  have fnd:=zb BK.nd (i+1)
  rw[nJ hs]at fnd
  obtain⟨fn1,fn2,fn3⟩:=bP.mp fnd
  have hfl:((bs.take i).flatten++s).length<=16:=by
   have h1:=BK.len
   have:=vp bs (i+1)
   rw[nJ hs]at this
   lia
  rw[av]at hfl
  have hT:=sk (bs:=bs.take i) (fun x hx=>BK.asc x (List.mem_of_mem_take hx)) (by have:=vp bs i;have:=BK.len;lia)
  have hTs:=yl (BK.asc s hsm)
  generalize hF:(bs.take i).flatten=F at*
  simp only[mF,List.set_cons_zero,List.set_cons_succ]
  refine kU (jD K a) Hc (fun R' hR'=>?_) (l8 (K:=K) (a:=a) (xs:=s.map V.int) (fun j σ Hd=>∃w9 w10 w11 dv m ws,σ=[some (.ref st),some (.ref sl),some (.int (1+d1)),some (.int num),w4,some (.ref dl),some (.ref du),some (.ref tl),some (.ref a),w9,w10,w11,none,none,none,none]/\But st G0 Hd/\Dq Hd st dl sl du tl al bs o4 (jf pr bs.flatten) (jf dv (F++s.take m)) ws/\Prs Hd ws (kC (bs.take i)++(s.take j).flatMap (mh s))/\j<=m/\m<=s.length/\(∀x,x∉F++s.take m->dv x=1)/\(∀x∈F,dv x=dv0 x)/\(((∀x∈s,dv x=1)/\∀p∈s.take j,pr p<=oS pr s p)\/(m=s.length/\∃d∈s,oS pr s d<pr d/\∀x∈s,dv x=if x=d then 0 else 2))) ⟨w9,w10,w11,dv0,0,ws0,rfl,bc,by rw[List.take_zero,aY];exact Wc,by rw[List.take_zero];simpa using pc,ao _,bp _,by rw[List.take_zero,aY];exact dv1,fun _ _=>rfl,.inl ⟨fun x hx=>dv1 x fun z=>fn3 x z x hx rfl,fun p hp=>by simp at hp⟩⟩ (fun j σ Hd _ ⟨_,_,_,_,_,_,_,_,w,_⟩=>SqL.of (w.p.la.2 i a s ha hs)) ?_ ?_)
  ·unfold jL
   walk_at "D"
   exact⟨a,rfl,⟨_,SqL.of (Wc.p.la.2 i a s ha hs)⟩,hR'⟩
  ·rintro j y σ Hd hj ⟨w9,w10,w11,dv,m,ws,rfl,bd,Wd,pd,jm,ms,dvo,dvF,gr⟩
   rw[aC]at hj
   obtain⟨n,hn1,rfl⟩:=bM.mp hj
   have hnm:=aE hn1
   have hjl:=(ak.mp hn1).1
   have ea:=Wd.p.la.2 i a s ha hs
   simp only[mF,List.set_cons_zero,List.set_cons_succ]
   refine i7 fun R7 hR7=>?_
   walk_at "D"
   refine kO (jD K a) Hd (fun R2 hR2=>?_) (fun z hz0=>km s.length (fun j σ' He=>∃w1,σ'=[w1,some (.ref dl),some (.int n)]/\Same Hd He/\He z=some (.lst ((((s.take j).filter fun x=>decide (x≠n)).map pr).map V.int))) ⟨none,rfl,iO hz0 _,iK⟩ ?_ ?_)
   ·unfold jL
    walk_at "D"
    exact⟨a,rfl,⟨_,SqL.of ea⟩,hR2⟩
   ·rintro j σ' He hj ⟨w1,rfl,s9,ez⟩
    have hj0:s[j]? =some s[j]:=gE hj
    have hjm:=bO hj
    generalize s[j]=x at hj0 hjm
    have hj1:(s.map V.int)[j]? =some (.int x):=by rw[aC,hj0];rfl
    have z1:SqL K He a (s.map V.int):=SqL.of (s9 _ _ ea)
    refine⟨⟨_,_,z1,hj1⟩,?_⟩
    rintro y H' ⟨rfl,hy'⟩
    have:=hy' _ z1
    rw[hj1]at this
    cases this
    have ev:=og (pr:=pr) (hsF x hjm)
    rw[jv hj0,dG,bV,List.filter_nil]
    walk_at "D"
    by_cases c:x=n
    ·rw[show(!decide (x=n))=false by simp[c]]
     walk_at "D"
     refine⟨_,rfl,s9,?_⟩
     rw[ez,show decide (x≠n)=false by simp[c],ay (by decide),aY]
    ·rw[show(!decide (x=n))=true by simp[c]]
     simp_arith[s9 _ _ Wd.p.ed,ev]
     refine⟨_,ez,?_,_,rfl,jJ s9 hz0,?_⟩
     ·rw[ae,ae]
      have:=cP (fun x=>decide (x≠n)) (s.take j)
      rw[aS]at this
      exact jt (by lia)
     ·rw[iK,show decide (x≠n)=true by simp[c],aA rfl,aq,aq]
      rfl
   rintro σ' He ⟨w1,rfl,s9,ez⟩
   refine⟨⟨_,SqL.of (s9 _ _ ea),by rw[ae];exact ao _⟩,?_⟩
   rw[aV]at ez
   walk_at "D"
   refine⟨z,_,rfl,ez,?_⟩
   have We:=Wd.same s9
   have be:=bd.same s9
   have pe:=Prs.same s9 pd
   rw[show((s.filter fun x=>decide (x≠n)).map pr).sum=oS pr s n from rfl]
   clear s9 ez hz0 Wd bd pd ea
   subst hR7
   refine i7 fun R7 hR7=>?_
   simp_arith[We.edu]
   refine⟨⟨_,rfl⟩,by unfold jf;rw[ae,av,aS];exact jt (by lia),?_⟩
   rw[DT dvo]
   obtain⟨m1,m1m,m1j,m1s,pe1⟩:=yA (dv:=dv) (v:=dv n) (F:=F) (s:=s) fnd hn1 jm ms
   rw[pe1,BV]
   have W1:=We.du' Ap (jf dv (F++s.take m1))
   have b1:=be.updf (o':=.dK (jf dv (F++s.take m1))) fdu
   have p1:=Prs.tups (ze (ys:=jf dv (F++s.take m1)) We.edu) pe
   have dvo1:∀x,x∉F++s.take m1->dv x=1:=fun x hx=>dvo x fun z=>hx (vF m1m z)
   generalize upd He du (.dK (jf dv (F++s.take m1)))=H1 at W1 b1 p1 ⊢
   clear We be pe dvo pe1
   subst hR7
   refine F9 fun R7 E7 hR7 hE7=>?_
   have fin:∀dv2 m2 w11 H2,But st G0 H2->Dq H2 st dl sl du tl al bs o4 (jf pr bs.flatten) (jf dv2 (F++s.take m2)) ws->Prs H2 ws (kC (bs.take i)++(s.take j).flatMap (mh s))->j+1<=m2->m2<=s.length->(∀x,x∉F++s.take m2->dv2 x=1)->(∀x∈F,dv2 x=dv0 x)->(((∀x∈s,dv2 x=1)/\∀p∈s.take (j+1),pr p<=oS pr s p)\/(m2=s.length/\∃d∈s,oS pr s d<pr d/\∀x∈s,dv2 x=if x=d then 0 else 2))->R7 E7 [some (.ref st),some (.ref sl),some (.int (1+d1)),some (.int num),w4,some (.ref dl),some (.ref du),some (.ref tl),some (.ref a),some (.int n),some (.int (oS pr s n)),w11,none,none,none,none] H2:=by
    intro dv2 m2 w11 H2 b2 W2 p2 j2 s2 o2' f2 g2
    subst hR7
    subst hE7
    have ea:=W2.p.la.2 i a s ha hs
    have hwl:=aD p2
    rw[av]at hwl
    have hpl:((s.take j).flatMap (mh s)).length<=(nP s).length:=by
     have e:nP s = (s.take j).flatMap (mh s) ++ (s.drop j).flatMap (mh s):=by rw [<- dk,bY]; rfl
     rw[e,av]
     lia
    have hss:s.length*s.length<=16*s.length:=Nat.mul_le_mul_right _ (by lia)
    walk_at "D"
    refine⟨⟨tl,ws,rfl,W2.etl⟩,?_⟩
    refine kO (jD K a) H2 (fun R2 hR2=>?_) (fun z hz0=>km s.length (fun k σ' He=>∃w1 vs,σ'=[w1,some (.int n)]/\Same H2 He/\He z=some (.lst vs)/\Prs He vs (((s.take k).filter fun m=>decide (n<m)).map fun m=>(n,m))) ⟨none,[],rfl,iO hz0 _,iK,.nil⟩ ?_ ?_)
    ·unfold jL
     walk_at "D"
     exact⟨a,rfl,⟨_,SqL.of ea⟩,hR2⟩
    ·rintro k σ' He hk ⟨w1,vs,rfl,s9,ez,pv⟩
     have hk0:s[k]? =some s[k]:=gE hk
     generalize s[k]=x at hk0
     have hk1:(s.map V.int)[k]? =some (.int x):=by rw[aC,hk0];rfl
     have z1:SqL K He a (s.map V.int):=SqL.of (s9 _ _ ea)
     refine⟨⟨_,_,z1,hk1⟩,?_⟩
     rintro y H' ⟨rfl,hy'⟩
     have:=hy' _ z1
     rw[hk1]at this
     cases this
     have hvl:vs.length<=k:=by
      rw[aD pv,ae]
      refine bE (cP ..) ?_
      rw[aS]
      exact fZ _ _
     rw[jv hk0,dG,bV,List.filter_nil]
     walk_at "D"
     by_cases c:n<x
     ·rw[show decide (x>n)=true from aK c]
      walk_at "D"
      intro t5 ht5
      have q5:=iO ht5 (.tup [.int n,.int x])
      have ez5:=q5 _ _ ez
      have t6:=k6 (ys:=vs++[.ref t5]) ez5
      refine⟨vs,ez5,jt (by lia),_,vs++[.ref t5],rfl,jJ (s9.trans q5) hz0,iK,?_⟩
      rw[aq]
      exact k7 (Prs.tups t6 (Prs.same q5 pv)) ⟨t5,rfl,t6 _ _ rfl iK⟩
     ·rw[show decide (x>n)=false from aP c]
      walk_at "D"
      exact⟨_,vs,rfl,s9,ez,pv⟩
    rintro σ' He ⟨w1,vs,rfl,s9,ez,pv⟩
    refine⟨⟨_,SqL.of (s9 _ _ ea),by rw[ae];exact ao _⟩,?_⟩
    rw[aV]at pv
    have hvl:=aD pv
    rw[ae]at hvl
    have:=cP (fun m=>decide (n<m)) s
    refine⟨tl,z,ws,vs,rfl,rfl,s9 _ _ W2.etl,ez,qI (by lia),?_⟩
    have W3:=(W2.same s9).tl' Ap (ws++vs)
    have t3:=k6 (ys:=ws++vs) (s9 _ _ W2.etl)
    have b3:=(b2.same s9).updf (o':=.lst (ws++vs)) ftl
    have p3:=qk (Prs.tups t3 (Prs.same s9 p2)) (Prs.tups t3 pv)
    refine⟨_,_,_,dv2,m2,ws++vs,rfl,b3,W3,?_,j2,s2,o2',f2,g2⟩
    rw [jv hn1,dk,<- aQ]
    simpa[mh]using p3
   simp_arith[W1.p.ed,og (pr:=pr) (hsF n hnm)]
   refine ou (fun c=>?_) (fun c=>?_)
   ·have cd:oS pr s n<pr n:=by simpa using c
    refine kU (jD K a) H1 (fun R' hR'=>?_) (l8 (K:=K) (a:=a) (xs:=s.map V.int) (fun k σ Hd=>∃w11 dv2 m2,σ=[some (.ref st),some (.ref sl),some (.int (1+d1)),some (.int num),w4,some (.ref dl),some (.ref du),some (.ref tl),some (.ref a),some (.int n),some (.int (oS pr s n)),w11,none,none,none,none]/\But st G0 Hd/\Dq Hd st dl sl du tl al bs o4 (jf pr bs.flatten) (jf dv2 (F++s.take m2)) ws/\Prs Hd ws (kC (bs.take i)++(s.take j).flatMap (mh s))/\j+1<=m2/\k<=m2/\m2<=s.length/\(∀x,x∉F++s.take m2->dv2 x=1)/\(∀x∈F,dv2 x=dv0 x)/\∀x∈s.take k,dv2 x=if x=n then 0 else 2) ⟨w11,dv,m1,rfl,b1,W1,p1,m1j,bp _,m1s,dvo1,dvF,fun x hx=>by simp at hx⟩ (fun k σ Hd _ ⟨_,_,_,_,_,w,_⟩=>SqL.of (w.p.la.2 i a s ha hs)) ?_ ?_)
    ·unfold jL
     walk_at "D"
     exact⟨a,rfl,⟨_,SqL.of (W1.p.la.2 i a s ha hs)⟩,hR'⟩
    ·rintro k y σ Hd hk ⟨w11,dv2,m2,rfl,b2,W2,p2,j2,k2,s2,o2',f2,g2⟩
     rw[aC]at hk
     obtain⟨x,hk1,rfl⟩:=bM.mp hk
     have hxm:=aE hk1
     walk_at "D"
     intro p hp
     have q5:=iO hp (.lst [V.int 2,V.int 0])
     have W3:=W2.same q5
     have b3:=b2.same q5
     have p3:=Prs.same q5 p2
     have epp:upd Hd p (.lst [V.int 2,V.int 0]) p=some (.lst [V.int 2,V.int 0]):=iK
     generalize upd Hd p (.lst [V.int 2,V.int 0])=H3 at q5 W3 b3 p3 epp ⊢
     have at2:jr [V.int 2,V.int 0] (if decide (x=n)=true then 1 else 0)=some (.int (if x=n then 0 else 2)):=by
      by_cases c:x=n
      ·rw[aA (aK c),aA c];exact jQ
      ·rw[ay (by simpa using c),ay c];exact jw
     simp_arith[iX,epp,at2,W3.edu]
     obtain⟨m3,m3m,m3j,m3s,pe3⟩:=yA (dv:=dv2) (v:=if x=n then 0 else 2) (F:=F) (s:=s) fnd hk1 k2 s2
     rw[pe3]
     have up:∀y,y≠x->lI dv2 x (if x=n then 0 else 2) y=dv2 y:=fun y h=>nB _ h
     refine⟨by unfold jf;rw[ae,av,aS];exact jt (by lia),_,_,m3,rfl,b3.updf fdu,W3.du' Ap _,Prs.tups (ze W3.edu) p3,by lia,m3j,m3s,fun y hy=>?_,fun y hy=>?_,fun y hy=>?_⟩
     ·rw[up y fun z=>hy (vF m3j (by rw[z,jv hk1];simp))]
      exact o2' y fun z=>hy (vF m3m z)
     ·rw[up y fun z=>fn3 y hy x hxm z]
      exact f2 y hy
     ·rw[jv hk1]at hy
      by_cases c:y=x
      ·rw[c,o8]
      ·rw[up y c]
       refine g2 y ((aW.mp hy).resolve_right fun z=>c (aZ.mp z))
    rintro σ Hd ⟨w11,dv2,m2,rfl,b2,W2,p2,j2,k2,s2,o2',f2,g2⟩
    rw[ae]at k2
    simp only[ae,aV]at g2
    exact fin dv2 m2 w11 Hd b2 W2 p2 j2 s2 o2' f2 (.inr ⟨by lia,n,hnm,cd,g2⟩)
   ·have cd:pr n<=oS pr s n:=by simpa using c
    refine fin dv m1 w11 H1 b1 W1 p1 m1j m1s dvo1 dvF ?_
    rcases gr with⟨g1,g2⟩|⟨g1,g2⟩
    ·refine .inl ⟨g1,fun p hp=>?_⟩
     rw[jv hn1]at hp
     rcases aW.mp hp with hp|hp
     ·exact g2 p hp
     ·rw[aZ.mp hp]
      exact cd
    ·exact .inr ⟨by lia,g2⟩
  rintro σ Hd ⟨w9,w10,w11,dv,m,ws,rfl,bd,Wd,pd,jm,ms,dvo,dvF,gr⟩
  rw[ae]at jm
  have em:m=s.length:=by lia
  subst em
  simp only[ae,aV]at Wd pd dvo gr
  refine⟨_,_,_,_,dv,ws,rfl,bd,?_,?_,?_,fun s' hs'=>?_⟩
  ·rw[nJ hs,hF]
   exact Wd
  ·unfold kC
   rw[Ho _ hs]
   exact pd
  ·rw[nJ hs,hF]
   exact dvo
  ·rw[jv hs]at hs'
   rcases aW.mp hs' with hs'|hs'
   ·have inF:∀ x ∈ s',x ∈ F:=fun x hx=>by rw [<- hF]; exact bS.mpr ⟨s',hs',hx⟩
    rcases grs s' hs' with⟨g1,g2⟩|⟨d,g1,g2,g3⟩
    ·exact .inl ⟨fun x hx=>by rw[dvF x (inF x hx)];exact g1 x hx,g2⟩
    ·exact .inr ⟨d,g1,g2,fun x hx=>by rw[dvF x (inF x hx)];exact g3 x hx⟩
   ·rw[aZ.mp hs']
    rcases gr with g|⟨_,g⟩
    ·exact .inl g
    ·exact .inr g
 rintro σ Hc ⟨w8,w9,w10,w11,dv,ws,rfl,bc,Wc,pc,dv1,grs⟩
 rw[ae,bQ (by have:=W6.p.la.1;lia)]at Wc pc dv1 grs
 refine(?_:R _ _ _)
 subst hR
 refine i7 fun R hR=>?_
 have hwl0:=aD pc
 have htl0:=sk BK.asc BK.len
 refine vO (ι:=Addr×List Int×Hp) (fun y=>jD K y.1) (fun y=>y.2.2) (fun y=>Same Hc y.2.2/\y.2.2 y.1=some (.lst (y.2.1.map V.int))/\y.2.1.Perm bs.flatten/\y.2.1.Pairwise (·<=·)) (fun R2 hR2=>?_) ?_
 ·unfold jL
  walk_at "D"
  refine⟨dl,_,rfl,Wc.p.ed,fun l0 hl0=>?_⟩
  rw[EM]
  have:=BK.len
  refine⟨l0,bs.flatten,rfl,iK,by lia,fun l1 ms hl1 pm sm=>?_⟩
  exact⟨l1,rfl,⟨_,SqL.of iK⟩,hR2 (l1,ms,_) ⟨(iO hl0 _).trans (iO hl1 _),iK,pm,sm⟩⟩
 rintro⟨ml,ms,H8⟩ ⟨s8,eml,pm,sm⟩ z hz0
 dsimp only at s8 eml pm sm hz0 ⊢
 have hml:=pm.length_eq
 have hbl:=BK.len
 refine km ms.length (fun j σ' He=>∃w1 vs,σ'=[w1,some (.ref dl)]/\Same H8 He/\He z=some (.lst vs)/\Prs He vs ((ms.take j).map fun n=>(n,pr n))) ⟨none,[],rfl,iO hz0 _,iK,.nil⟩ ?_ ?_
 ·rintro j σ' He hj ⟨w1,vs,rfl,s9,ez,pv⟩
  have hj0:ms[j]? =some ms[j]:=gE hj
  have hjm:=bO hj
  generalize ms[j]=n at hj0 hjm
  have hj1:(ms.map V.int)[j]? =some (.int n):=by rw[aC,hj0];rfl
  have z1:SqL K He ml (ms.map V.int):=SqL.of (s9 _ _ eml)
  refine⟨⟨_,_,z1,hj1⟩,?_⟩
  rintro y H' ⟨rfl,hy'⟩
  have:=hy' _ z1
  rw[hj1]at this
  cases this
  have hvl:vs.length<=j:=by
   rw[aD pv,ae,aS]
   exact fZ _ _
  have ev:=og (pr:=pr) (pm.mem_iff.mp hjm)
  simp_arith[(s8.trans s9) _ _ Wc.p.ed,ev]
  intro t5 ht5
  have q5:=iO ht5 (.tup [.int n,.int (pr n)])
  have ez5:=q5 _ _ ez
  have t6:=k6 (ys:=vs++[.ref t5]) ez5
  refine⟨vs,ez5,jt (by lia),_,vs++[.ref t5],rfl,jJ (s9.trans q5) hz0,iK,?_⟩
  rw[jv hj0,aq]
  exact k7 (Prs.tups t6 (Prs.same q5 pv)) ⟨t5,rfl,t6 _ _ rfl iK⟩
 rintro σ' He ⟨w1,vs,rfl,s9,ez,pv⟩
 refine⟨⟨_,SqL.of (s9 _ _ eml),by rw[ae];exact ao _⟩,?_⟩
 rw[aV]at pv
 have We:=Wc.same (s8.trans s9)
 have be:=bc.same (s8.trans s9)
 have pe:=Prs.same (s8.trans s9) pc
 have hzc:Hc z=none:=by
  cases e:Hc z with
  |none=>rfl
  |some u=>rw[s8 _ _ e]at hz0;cases hz0
 have nz:z≠st:=(iV Wc.p.es hzc).symm
 have fz:G0 z=none:=bc.free nz hzc
 clear s8 s9 eml hz0 Wc bc pc W6 b6
 subst hR
 refine i7 fun R hR=>?_
 have hwE:=aD pe
 have hvE:=aD pv
 rw[ae]at hvE
 refine AV (ι:=Nat×HO×Hp) (fun y=>me 0 y.1) (fun y=>y.2.2) (fun y=>y.1<=3/\(y.1=0\/ws.length<=99)/\But st He y.2.2/\y.2.2 st=some y.2.1/\StO y.2.1) (fun R' hR'=>?_) ?_
 ·unfold nU
  walk_at "D"
  refine⟨st,o4,4,rfl,We.p.es,We.p.so,by decide,by decide,fun d5 o5 f0 f1 so5=>?_⟩
  have et5:upd He st o5 tl=some (.lst ws):=(iQ Ap.ts).trans We.etl
  have es5:upd He st o5 st=some o5:=iK
  have b5:But st He (upd He st o5):=But.at _ _ _
  generalize upd He st o5=H5 at et5 es5 b5 ⊢
  simp_arith[iX,et5]
  intro p hp
  have q5:=iO hp (.lst [V.int d5,V.int 0])
  have epp:upd H5 p (.lst [V.int d5,V.int 0]) p=some (.lst [V.int d5,V.int 0]):=iK
  have et6:=q5 _ _ et5
  have es6:=q5 _ _ es5
  have b6:=b5.same q5
  generalize upd H5 p (.lst [V.int d5,V.int 0])=H6 at q5 epp et6 es6 b6 ⊢
  have ai:jr [V.int d5,V.int 0] (if decide ((ws.length:Int)>99)=true then 1 else 0)=some (.int (if(ws.length:Int)>99 then 0 else d5)):=by
   by_cases c:(ws.length:Int)>99
   ·rw[aA (aK c),aA c];exact jQ
   ·rw[ay (by simpa using c),ay c];exact jw
  simp_arith[iX,epp,et6,ai]
  exact⟨_,rfl,by split<;>lia,by split<;>lia,hR' ((if(ws.length:Int)>99 then 0 else d5).toNat,o5,H6) ⟨by show(if(ws.length:Int)>99 then 0 else d5).toNat<=3;split<;>lia,by show(if(ws.length:Int)>99 then 0 else d5).toNat=0\/_;split<;>lia,b6,es6,so5⟩⟩
 rintro⟨N,o7,H7⟩ ⟨hN3,hN9,b7,es7,so7⟩
 dsimp only at hN3 hN9 b7 es7 so7
 have t7:lq He H7:=b7.tups We.p.es We.p.so.imm
 have edu7:=b7 _ _ Ap.ds We.edu
 have ez7:=b7 _ _ nz ez
 have et7:=b7 _ _ Ap.ts We.etl
 have pv7:=Prs.tups t7 pv
 have pe7:=Prs.tups t7 pe
 have be7:=be.trans b7
 clear b7 We be pe pv ez t7
 refine qg (n:=N) (fun i σ Hc=>∃w4' w9 w13 w14 w15 pl vs t7 ws dv' ks rg oc,σ=[some (.ref st),some (.ref sl),some (.int (1+d1)),some (.int num),w4',some (.ref dl),some (.ref du),some (.ref t7),w8,w9,w10,w11,some (.ref pl),w13,w14,w15]/\But st G0 Hc/\Hc st=some oc/\StO oc/\Hc du=some (.dK (jf dv' ks))/\Hc pl=some (.lst vs)/\Hc t7=some (.lst ws)/\Prs Hc vs ((ms.map fun n=>(n,pr n))++jZ rg)/\Prs Hc ws (kC bs++ko rg)/\rg.length=i/\(∀(k:Nat) r,rg[k]? =some r->Rg (400+10*(k:Int)) r)/\(∀n∈bs.flatten,dv' n=dv n)/\(∀p∈jZ rg,dv' p.1=1/\p.1∈ks)/\(∀n∈bs.flatten,n∈ks)/\ks.length<=16+7*i) ⟨w4,w9,none,none,none,z,vs,tl,ws,dv,bs.flatten,[],o7,rfl,be7,es7,so7,edu7,ez7,et7,(by unfold jZ;simpa using pv7),(by unfold ko;simpa using pe7),rfl,fun k r h=>by simp at h,fun _ _=>rfl,fun p hp=>by unfold jZ at hp;simp at hp,fun _ h=>h,by lia⟩ ?_ ?_
 ·rintro i σ Hc hi ⟨w4',w9,w13,w14,w15,pl,vs,t7,ws,dv',ks,rg,oc,rfl,bc,ec,soc,edu,epl,et7,pvc,pec,hrl,hrg,dvb,dvr,ksb,ksl⟩
  simp only[mF,List.set_cons_zero,List.set_cons_succ]
  refine i7 fun R9 hR9=>?_
  walk_at "D"
  refine⟨mN (by decide) (by decide),st,oc,400+10*(0+(i:Int)),rfl,ec,soc,by lia,by lia,fun tq pl2 tl2 zs us H1 o1 sp ms2 w b1 e1 so1 fT fP fL etq epl2 etl2 pz pu pm2 sm2 pi2 l3 l7 wa wb=>?_⟩
  have npl:=xK epl pvc ec soc
  have nt7:=xK et7 pec ec soc
  have tt1:lq Hc H1:=b1.tups ec soc.imm
  have epl1:=b1 _ _ npl epl
  have et71:=b1 _ _ nt7 et7
  have edu1:=b1 _ _ Ap.ds edu
  have pvc1:=Prs.tups tt1 pvc
  have pec1:=Prs.tups tt1 pec
  have bc1:=bc.trans b1
  have hrl7:(ko rg).length<=7*rg.length/\(jZ rg).length<=7*rg.length:=by
   have h7:∀r∈rg,r.1.length<=7/\r.2.1.length<=7:=fun r hr=>by
    obtain⟨k,hk⟩:=cD hr
    have R:=hrg k r hk
    exact⟨R.l7,by rw[R.pm.length_eq];exact R.l7⟩
   exact⟨rQ fun r hr=>(h7 r hr).1,uW fun r hr=>(h7 r hr).2⟩
  have hvl:=aD pvc
  have hel:=aD pec
  rw[av]at hvl hel
  rw[ae]at hvl
  have hzl:=aD pz
  have hul:=aD pu
  rw[ae,pm2.length_eq]at hzl
  rw[show(kY sp).length=sp.length by unfold kY;rw[ae,bz]]at hul
  clear b1 tt1 npl nt7 ec soc edu epl et7 pvc pec bc
  simp_arith[etq]
  subst hR9
  refine i7 fun R9 hR9=>?_
  simp_arith[epl1,epl2]
  refine⟨qI (by lia),?_⟩
  intro pn hpn
  have q2:=iO hpn (.lst (vs++zs))
  have epn:upd H1 pn (.lst (vs++zs)) pn=some (.lst (vs++zs)):=iK
  have et72:=q2 _ _ et71
  have edu2:=q2 _ _ edu1
  have epl22:=q2 _ _ epl2
  have etl22:=q2 _ _ etl2
  have es2:=q2 _ _ e1
  have pv2:=Prs.same q2 (qk pvc1 pz)
  have pz2:=Prs.same q2 pz
  have pe2:=Prs.same q2 pec1
  have pu2:=Prs.same q2 pu
  have b2:=bc1.same q2
  generalize upd H1 pn (.lst (vs++zs))=H2 at q2 epn et72 edu2 epl22 etl22 es2 pv2 pz2 pe2 pu2 b2
  clear q2 hpn epl1 et71 edu1 epl2 etl2 e1 pvc1 pz pec1 pu bc1 etq fT fP fL
  subst hR9
  refine i7 fun R9 hR9=>?_
  simp_arith[et72,etl22]
  refine⟨qI (by lia),?_⟩
  intro tn htn
  have q3:=iO htn (.lst (ws++us))
  have etn:upd H2 tn (.lst (ws++us)) tn=some (.lst (ws++us)):=iK
  have epn3:=q3 _ _ epn
  have edu3:=q3 _ _ edu2
  have epl23:=q3 _ _ epl22
  have es3:=q3 _ _ es2
  have pv3:=Prs.same q3 pv2
  have pz3:=Prs.same q3 pz2
  have pe3:=Prs.same q3 (qk pe2 pu2)
  have b3:=b2.same q3
  generalize upd H2 tn (.lst (ws++us))=H3 at q3 etn epn3 edu3 epl23 es3 pv3 pz3 pe3 b3
  clear q3 htn epn et72 edu2 epl22 etl22 es2 pv2 pz2 pe2 pu2 b2
  have hnp:pl2≠du:=lA epl23 edu3 (by intro h;cases h)
  have n400:∀n∈ms2,400<=n:=fun n hn=>by
   have:=uO (pi2.mem_iff.mp (pm2.mem_iff.mp hn))
   lia
  have tt:∀Hd:Hp,(∀b,b≠du->Hd b=H3 b)->lq H3 Hd:=fun Hd f b o i q=>by
   rw[f b fun z=>by rw[z,edu3]at q;cases q;cases i]
   exact q
  subst hR9
  refine kU (jD K pl2) H3 (fun R' hR'=>?_) (l8 (K:=K) (a:=pl2) (xs:=zs) (fun k σ Hd=>∃w9 w15 dv2 ks2,σ=[some (.ref st),some (.ref sl),some (.int (1+d1)),some (.int num),some (.int (0+(i:Int))),some (.ref dl),some (.ref du),some (.ref tn),w8,w9,w10,w11,some (.ref pn),some (.ref pl2),some (.ref tl2),w15]/\(∀b,b≠du->Hd b=H3 b)/\Hd du=some (.dK (jf dv2 ks2))/\(∀n∈bs.flatten,dv2 n=dv n)/\(∀p∈jZ rg,dv2 p.1=1/\p.1∈ks2)/\(∀n∈ms2.take k,dv2 n=1/\n∈ks2)/\(∀n∈bs.flatten,n∈ks2)/\ks2.length<=ks.length+k) ⟨w9,w15,dv',ks,rfl,fun _ _=>rfl,edu3,dvb,dvr,fun n hn=>by simp at hn,ksb,ao _⟩ (fun k σ Hd _ ⟨_,_,_,_,_,f,_⟩=>SqL.of (by rw[f _ hnp];exact epl23)) ?_ ?_)
  ·unfold jL
   walk_at "D"
   exact⟨pl2,rfl,⟨_,SqL.of epl23⟩,hR'⟩
  ·rintro k y σ Hd hk ⟨w9,w15,dv2,ks2,rfl,fr,ed,db,dr,dm,kb,kl⟩
   obtain⟨q,hq,u,rfl,eu⟩:=kH pz3 hk
   rw[aC]at hq
   obtain⟨n,hn,rfl⟩:=bM.mp hq
   have hkz:=(ak.mp hk).1
   have eud:Hd u=some _:=(tt Hd fr) _ _ rfl eu
   have h4:=n400 n (aE hn)
   simp_arith[eud,ed]
   have put:∃ks3,jF (jf dv2 ks2) (Sum.inl n:iJ) (.int 1)=jf (lI dv2 n 1) ks3/\(∀x∈ks2,x∈ks3)/\n∈ks3/\ks3.length<=ks2.length+1:=by
    by_cases c:n∈ks2
    ·exact⟨ks2,uQ c,fun _ h=>h,c,dA _⟩
    ·exact⟨ks2++[n],uP c,fun _ h=>cC _ h,by simp,by simp⟩
   obtain⟨ks3,pe,k3,kn,kl3⟩:=put
   rw[pe]
   have u1:∀x,dv2 x=1->lI dv2 n 1 x=1:=fun x h=>by
    unfold lI
    split
    ·rfl
    ·exact h
   refine⟨by unfold jf;rw[ae];exact jt (by lia),_,_,lI dv2 n 1,ks3,rfl,fun b nb=>by rw[iQ nb];exact fr b nb,iK,fun x hx=>?_,fun p hp=>⟨u1 _ (dr p hp).1,k3 _ (dr p hp).2⟩,fun x hx=>?_,fun x hx=>k3 _ (kb x hx),by lia⟩
   ·have:=BK.rng x hx
    rw[nB _ (by lia)]
    exact db x hx
   ·rw[jv hn]at hx
    rcases aW.mp hx with hx|hx
    ·exact⟨u1 _ (dm x hx).1,k3 _ (dm x hx).2⟩
    ·rw[aZ.mp hx]
     exact⟨o8 _ _ _,kn⟩
  rintro σ Hd ⟨w9,w15,dv2,ks2,rfl,fr,ed,db,dr,dm,kb,kl⟩
  have hzm:zs.length=ms2.length:=by rw[hzl,pm2.length_eq]
  rw[hzm,aV]at dm
  have td:=tt Hd fr
  have fg:∀b o,H3 b=some o->b≠du->Hd b=some o:=fun b o e n=>by rw[fr b n];exact e
  refine⟨_,_,_,_,_,pn,vs++zs,tn,ws++us,dv2,ks2,rg++[(sp,ms2,w)],o1,rfl,fun b u nb q=>?_,fg _ _ es3 Ap.ds.symm,so1,ed,fg _ _ epn3 (lA epn3 edu3 (by intro h;cases h)),fg _ _ etn (lA etn edu3 (by intro h;cases h)),?_,?_,by rw[av,hrl];rfl,fun k r hk=>?_,db,fun p hp=>?_,kb,by lia⟩
  ·rw[fr b (iV q fdu)]
   exact b3 b u nb q
  ·have:jZ (rg++[(sp,ms2,w)])=jZ rg++ms2.map fun n=>(n,w):=by unfold jZ;rw[dk];simp
   rw [this,<- aQ]
   exact Prs.tups td pv3
  ·have:ko (rg++[(sp,ms2,w)])=ko rg++kY sp:=by unfold ko;rw[dk];simp
   rw [this,<- aQ]
   exact Prs.tups td pe3
  ·by_cases c:k<rg.length
   ·rw[bq c]at hk
    exact hrg k r hk
   ·rw[cn (by lia)]at hk
    have hkl:=(ak.mp hk).1
    have e0:k-rg.length=0:=by simpa using hkl
    rw[e0]at hk
    cases hk
    have ek:k=i:=by lia
    subst ek
    rw[gU]at pi2
    exact⟨pm2,sm2,pi2,l3,l7,wa,wb⟩
  ·have:jZ (rg++[(sp,ms2,w)])=jZ rg++ms2.map fun n=>(n,w):=by unfold jZ;rw[dk];simp
   rw[this]at hp
   rcases aW.mp hp with hp|hp
   ·exact dr p hp
   ·obtain⟨n,hn,rfl⟩:=aw.mp hp
    exact dm n hn
 rintro σ Hc ⟨w4',w9,w13,w14,w15,pl,vs,t7,ws,dv',ks,rg,oc,rfl,bc,ec,soc,edu,epl,et7,pvc,pec,hrl,hrg,dvb,dvr,ksb,ksl⟩
 have RK:qu rg:=⟨by lia,hrg⟩
 have hrl7:(ko rg).length<=7*rg.length:=by
  refine rQ fun r hr=>?_
  obtain⟨k,hk⟩:=cD hr
  exact(hrg k r hk).l7
 have hel:=aD pec
 rw[av]at hel
 refine(?_:R _ _ _)
 subst hR
 walk_at "D"
 refine⟨t7,ws,kC bs++ko rg,440,rfl,et7,pec,by lia,fun q hq=>?_,fun l ys qs hl pq pmq sq=>?_⟩
 ·rcases aW.mp hq with hq|hq
  ·obtain⟨s,hs,_,h2,_⟩:=qi hq
   have:=BK.rng _ (bS.mpr ⟨s,hs,h2⟩)
   lia
  ·obtain⟨r,hr,h2⟩:=bU.mp hq
   obtain⟨k,hk⟩:=cD hr
   have hkl:=(ak.mp hk).1
   have R:=hrg k r hk
   have:=uO (R.pi.mem_iff.mp (rS h2).2)
   have:=R.l7
   lia
 have qA:=iO hl (.lst ys)
 intro w hw
 have qB:=iO hw (.tup [.ref pl,.ref l])
 intro t ht
 have qC:=iO ht (.tup [.ref w,.ref du])
 have qq:=(qA.trans qB).trans qC
 refine h t w du (jf dv' ks) _ oc _ qs bs ms pr dv' ks rg (bc.same qq) (qq _ _ ec) soc iK ⟨w,pl,l,vs,ys,rfl,qC _ _ iK,qq _ _ epl,(qB.trans qC) _ _ iK,Prs.same qq pvc,Prs.same (qA.trans (qB.trans qC)) pq⟩ (qq _ _ edu) rfl BK hpr pm sm RK rfl pmq sq (by
  rcases hN9 with hN9|hN9
  ·right
   exact List.length_eq_zero_iff.mp (by lia)
  ·left
   lia) (fun s hs=>?_) (fun p hp=>(dvr p hp).1) (fun p hp=>?_)
 ·have inF:∀x∈s,x∈bs.flatten:=fun x hx=>bS.mpr ⟨s,hs,hx⟩
  rcases grs s hs with⟨g1,g2⟩|⟨d,g1,g2,g3⟩
  ·exact .inl ⟨fun x hx=>by rw[dvb x (inF x hx)];exact g1 x hx,g2⟩
  ·exact .inr ⟨d,g1,g2,fun x hx=>by rw[dvb x (inF x hx)];exact g3 x hx⟩
 ·rcases aW.mp hp with hp|hp
  ·obtain⟨n,hn,rfl⟩:=aw.mp hp
   exact ksb n (pm.mem_iff.mp hn)
  ·exact(dvr p hp).2
theorem vE:∀{ms:List Int},ms.Pairwise (·<=·)->ms.Nodup->ms.Pairwise (·<·)
 |[],_,_=>.nil
 |n::r,h,nd=>by
  have h':=cZ.mp h
  have nd':=br.mp nd
  refine cZ.mpr ⟨fun m hm=>?_,vE h'.2 nd'.2⟩
  have:=h'.1 m hm
  have:n≠m:=fun z=>nd'.1 (by rw[z];exact hm)
  lia
theorem zc{kvs:List (iJ×V)}:∀{ts:List (Int×Int)} {q:Int×Int},ts.Pairwise oK->ts.Nodup->(∀t∈ts,HT.lexLt [q.1,q.2] [t.1,t.2]=true)->(∀t∈ts,t.1<t.2/\jH kvs t.1=true/\jH kvs t.2=true)->TiOk kvs q ts
 |[],_,_,_,_,_=>trivial
 | t::r,q,h,nd,hq,hk=>by
  have h':=cZ.mp h
  have nd':=br.mp nd
  refine⟨⟨hq t (aH ..),hk t (aH ..)⟩,zc h'.2 nd'.2 (fun u hu=>?_) fun u hu=>hk u (az _ hu)⟩
  have le:=h'.1 u hu
  have ne:t≠u:=fun z=>nd'.1 (by rw[z];exact hu)
  unfold oK at le
  rcases le with le|⟨e,le⟩
  ·exact uw le
  ·rw[e]
   refine xJ ?_
   rcases Int.lt_or_eq_of_le le with z|z
   ·exact z
   ·exact absurd (Prod.ext e z) ne
theorem yG:∀{ps:List (Int×Int)} {l s:Int},(∀p∈ps,l<p.1/\p.1<=999/\1<=p.2)->ps.Pairwise (fun a b=>a.1<b.1)->s+(ps.map (·.2)).sum<=1000000000000->PlOk l s ps
 |[],_,_,_,_,_=>trivial
 |p::r,l,s,h,hp,hs=>by
  have h1:=h p (aH ..)
  have hp':=cZ.mp hp
  rw[ah,List.sum_cons]at hs
  have nn:=Fl.oE (f:=fun q:Int×Int=>q.2) (l:=r) fun m hm=>by have:=h m (az _ hm);lia
  exact⟨⟨h1.1,h1.2.1,h1.2.2,by lia⟩,yG (fun m hm=>⟨hp'.1 m hm,(h m (az _ hm)).2⟩) hp'.2 (by lia)⟩
theorem zY{B:Int}:∀{ps:List (Int×Int)},(∀p∈ps,p.2<=B)->(ps.map (·.2)).sum<=B*(ps.length:Int)
 |[],_=>by simp
 |p::r,h=>by
  have ih:=zY (ps:=r) fun q hq=>h q (az _ hq)
  have:=h p (aH ..)
  rw[ah,List.sum_cons,List.length_cons,show B*((r.length+1:Nat):Int)=B*(r.length:Int)+B by rw[Int.natCast_add,cW];simp]
  lia
def jgd(c:Int)(rg:List (List Int×List Int×Int)):Prop:=∀(k:Nat) r,rg[k]? =some r->Rg (c+10*(k:Int)) r
theorem jgd.tail{c:Int}{r:List Int×List Int×Int}{l:List (List Int×List Int×Int)}(h:jgd c (r::l)):Rg c r/\jgd (c+10) l:=by
 refine⟨?_,fun k q hq=>?_⟩
 ·have:=h 0 r rfl
  simpa using this
 ·have:=h (k+1) q (by rw[List.getElem?_cons_succ];exact hq)
  rw[show c+10+10*(k:Int)=c+10*((k+1:Nat):Int) by lia]
  exact this
theorem Rg.rng{c:Int}{r:List Int×List Int×Int}(R:Rg c r){n:Int}(h:n∈r.1):c<=n/\n<c+7:=by
 have:=uO (R.pi.mem_iff.mp h)
 have:=R.l7
 lia
theorem Rg.nd{c:Int}{r:List Int×List Int×Int}(R:Rg c r):r.1.Nodup:=R.pi.nodup_iff.mpr (Ic _ _)
theorem Rg.strict{c:Int}{r:List Int×List Int×Int}(R:Rg c r):r.2.1.Pairwise (·<·):=vE R.sm (R.pm.nodup_iff.mpr R.nd)
theorem yM:∀{rg:List (List Int×List Int×Int)} {c:Int},jgd c rg->(jZ rg).Pairwise (fun a b=>a.1<b.1)/\∀p∈jZ rg,c<=p.1/\p.1<c+10*(rg.length:Int)/\1<=p.2/\p.2<=9
 |[],_,_=>⟨.nil,fun p hp=>by cases hp⟩
 | r::l,c,h=>by
  obtain⟨R,h'⟩:=h.tail
  obtain⟨i1,i2⟩:=yM h'
  have e:jZ (r::l)=(r.2.1.map fun n=>(n,r.2.2))++jZ l:=dg
  rw[e]
  have hr:∀p∈r.2.1.map (fun n=>(n,r.2.2)),c<=p.1/\p.1<c+7/\1<=p.2/\p.2<=9:=fun p hp=>by
   obtain⟨n,hn,rfl⟩:=aw.mp hp
   have:=R.rng (R.pm.mem_iff.mp hn)
   exact⟨this.1,this.2,R.w1,R.w9⟩
  refine⟨bu.mpr ⟨bB.mpr R.strict,i1,fun a ha b hb=>?_⟩,fun p hp=>?_⟩
  ·have:=hr a ha
   have:=i2 b hb
   lia
  ·rw[List.length_cons]
   rcases aW.mp hp with hp|hp
   ·have:=hr p hp
    lia
   ·have:=i2 p hp
    lia
noncomputable def pi(n k:Nat):Nat:=if k=0 then n-1 else k-1
theorem r8{sp:List Int}(nd:sp.Nodup){i j:Nat}(hi:i<sp.length)(hj:j<sp.length)(e:sp.getD i 0=sp.getD j 0):i=j:=by
 rw[aJ,aJ,gE hi,gE hj]at e
 rcases Nat.lt_trichotomy i j with c|c|c
 ·exact absurd e (bK.mp nd i j hi hj c)
 ·exact c
 ·exact absurd e.symm (bK.mp nd j i hj hi c)
theorem tY{n k:Nat}(h:k<n):pi n k<n:=by unfold pi;split<;>lia
theorem Co{sp:List Int}(nd:sp.Nodup)(h3:3<=sp.length){k:Nat}(hk:k<sp.length):kQ sp k≠sp.getD k 0:=fun e=>by
 have:=r8 nd (tY hk) hk e
 unfold pi at this
 split at this<;>lia
theorem Dr{a b c d:Int}(e:(min a b,max a b)=(min c d,max c d)):(a=c/\b=d)\/(a=d/\b=c):=by
 have e1:=(hZ e).1
 have e2:=(hZ e).2
 lia
theorem Ck{sp:List Int}(nd:sp.Nodup)(h3:3<=sp.length):(kY sp).Nodup:=by
 refine bB.mpr (fF (fun{i j} hi hj h e=>h ?_) (List.nodup_range (n:=sp.length)))
 have hi:=bg.mp hi
 have hj:=bg.mp hj
 rcases Dr e with⟨_,e2⟩|⟨e1,e2⟩
 ·exact r8 nd hi hj e2
 ·have a1:=r8 nd (tY hi) hj e1
  have a2:=r8 nd hi (tY hj) e2
  unfold pi at a1 a2
  split at a1<;>split at a2<;>lia
theorem Cn{sp:List Int}(nd:sp.Nodup)(h3:3<=sp.length){t:Int×Int}(h:t∈kY sp):t.1<t.2:=by
 obtain⟨k,hk,rfl⟩:=aw.mp h
 have:=Co nd h3 (bg.mp hk)
 unfold rt
 dsimp only
 lia
theorem yN{rg:List (List Int×List Int×Int)}{c:Int}(h:jgd c rg){t:Int×Int}(m:t∈ko rg):∃r∈rg,t∈kY r.1/\t.1∈r.1/\t.2∈r.1/\t.1<t.2/\c<=t.1/\∃k,Rg k r:=by
 obtain⟨r,hr,h2⟩:=bU.mp m
 obtain⟨k,hk⟩:=cD hr
 have R:=h k r hk
 have m2:=rS h2
 have:=R.rng m2.1
 exact⟨r,hr,h2,m2.1,m2.2,Cn R.nd R.l3 h2,by lia,_,R⟩
theorem uz:∀{rg:List (List Int×List Int×Int)} {c:Int},jgd c rg->(ko rg).Nodup/\∀t∈ko rg,c<=t.1
 |[],_,_=>⟨eM,fun t ht=>by cases ht⟩
 | r::l,c,h=>by
  obtain⟨R,h'⟩:=h.tail
  obtain⟨i1,i2⟩:=uz h'
  have e:ko (r::l)=kY r.1++ko l:=dg
  rw[e]
  refine⟨bP.mpr ⟨Ck R.nd R.l3,i1,fun t ht t' ht' q=>?_⟩,fun t ht=>?_⟩
  ·subst q
   have:=R.rng (rS ht).1
   have:=i2 _ ht'
   lia
  ·rcases aW.mp ht with ht|ht
   ·exact(R.rng (rS ht).1).1
   ·have:=i2 t ht
    lia
theorem Ek{s:List Int}(nd:s.Nodup):(nP s).Nodup:=by
 have key:∀l:List Int,l.Nodup->(l.flatMap (mh s)).Nodup:=by
  intro l
  induction l with
  |nil=>intro _;exact eM
  | cons a r ih=>
   intro h
   have h':=br.mp h
   rw[dg]
   refine bP.mpr ⟨?_,ih h'.2,fun t ht t' ht' q=>?_⟩
   ·unfold mh
    refine bB.mpr (fD (fun{x y} h e=>h (hZ e).2) (List.Pairwise.sublist List.filter_sublist nd))
   ·subst q
    obtain⟨m,_,rfl⟩:=aw.mp ht
    obtain⟨n,hn,h2⟩:=bU.mp ht'
    obtain⟨m2,_,e⟩:=aw.mp h2
    have:=(hZ e).1
    subst this
    exact h'.1 hn
 exact key s nd
theorem z8:∀{bs:List (List Int)},bs.flatten.Nodup->(kC bs).Nodup
 |[],_=>eM
 |s::r,nd=>by
  rw[List.flatten_cons]at nd
  obtain⟨n1,n2,n3⟩:=bP.mp nd
  have ih:=z8 (bs:=r) n2
  have e:kC (s::r)=nP s++kC r:=dg
  rw[e]
  refine bP.mpr ⟨Ek n1,ih,fun t ht t' ht' q=>?_⟩
  subst q
  obtain⟨n,hn,h2⟩:=bU.mp ht
  obtain⟨m,_,rfl⟩:=aw.mp h2
  obtain⟨s',hs',h3,_⟩:=qi ht'
  exact n3 _ hn _ (bS.mpr ⟨s',hs',h3⟩) rfl
section
variable{bs:List (List Int)}{ms:List Int}{pr dv:Int->Int}{rg:List (List Int×List Int×Int)}{ts:List (Int×Int)}
noncomputable def kA(ms:List Int)(pr:Int->Int)(rg:List (List Int×List Int×Int)):List (Int×Int):=(ms.map fun n=>(n,pr n))++jZ rg
theorem Ey(BK:BsOk bs)(hpr:∀n∈bs.flatten,1<=pr n/\pr n<=16000000001)(pm:ms.Perm bs.flatten)(sm:ms.Pairwise (·<=·))(RK:qu rg)(pt:ts.Perm (kC bs++ko rg))(st:ts.Pairwise oK)(h9:(kC bs).length<=99\/rg=[]):WebOk (kA ms pr rg) ts:=by
 have RF:jgd 400 rg:=RK.2
 obtain⟨r1,r2⟩:=yM RF
 have hrg:=RK.1
 have rr:∀r∈rg,r.1.length<=7/\r.2.1.length<=7:=fun r hr=>by
  obtain⟨k,hk⟩:=cD hr
  have R:=RK.2 k r hk
  exact⟨R.l7,by rw[R.pm.length_eq];exact R.l7⟩
 have lT:=rQ fun r hr=>(rr r hr).1
 have lP:=uW fun r hr=>(rr r hr).2
 have lB:=BK.len
 have lQ:=sk BK.asc BK.len
 have hm:∀p∈ms.map (fun n=>(n,pr n)),0<=p.1/\p.1<=340/\1<=p.2/\p.2<=16000000001:=fun p hp=>by
  obtain⟨n,hn,rfl⟩:=aw.mp hp
  have hn:=pm.mem_iff.mp hn
  have:=BK.rng n hn
  have:=hpr n hn
  dsimp only
  lia
 have hall:∀p∈kA ms pr rg,-1<p.1/\p.1<=999/\1<=p.2:=fun p hp=>by
  rcases aW.mp hp with hp|hp
  ·have:=hm p hp
   lia
  ·have:=r2 p hp
   lia
 have hlen:(kA ms pr rg).length<=37:=by
  unfold kA
  rw[av,ae,pm.length_eq]
  lia
 have hsum:((kA ms pr rg).map (·.2)).sum<=16000000001*((kA ms pr rg).length:Int):=zY fun p hp=>by
  rcases aW.mp hp with hp|hp
  ·exact(hm p hp).2.2.2
  ·have:=r2 p hp
   lia
 have ndm:ms.Nodup:=pm.nodup_iff.mpr BK.nd
 have asc:(kA ms pr rg).Pairwise (fun a b=>a.1<b.1):=bu.mpr ⟨bB.mpr (vE sm ndm),r1,fun a ha b hb=>by
  have:=hm a ha
  have:=r2 b hb
  lia⟩
 have ndp:((kA ms pr rg).map (·.1)).Nodup:=bB.mpr (fD (fun{a b} h=>by lia) asc)
 have hkm:∀n∈bs.flatten,jH (jx (kA ms pr rg)) n=true:=fun n hn=>yv (p:=(n,pr n)) ndp (cC _ (aw.mpr ⟨n,pm.mem_iff.mpr hn,rfl⟩))
 have hkr:∀r∈rg,∀n∈r.1,jH (jx (kA ms pr rg)) n=true:=fun r hr n hn=>by
  obtain⟨k,hk⟩:=cD hr
  have R:=RK.2 k r hk
  exact yv (p:=(n,r.2.2)) ndp (bo _ (bU.mpr ⟨r,hr,aw.mpr ⟨n,R.pm.mem_iff.mpr hn,rfl⟩⟩))
 have hts:∀t∈ts,t.1<t.2/\jH (jx (kA ms pr rg)) t.1=true/\jH (jx (kA ms pr rg)) t.2=true/\0<=t.1:=fun t ht=>by
  rcases aW.mp (pt.mem_iff.mp ht)with h|h
  ·obtain⟨s,hs,h1,h2,h3⟩:=qi h
   have f1:=bS.mpr ⟨s,hs,h1⟩
   exact⟨h3,hkm _ f1,hkm _ (bS.mpr ⟨s,hs,h2⟩),(BK.rng _ f1).1⟩
  ·obtain⟨r,hr,_,h1,h2,h3,h4,_⟩:=yN RF h
   exact⟨h3,hkr r hr _ h1,hkr r hr _ h2,by lia⟩
 have ndt:ts.Nodup:=pt.nodup_iff.mpr (bP.mpr ⟨z8 BK.nd,(uz RF).1,fun t ht t' ht' q=>by
  subst q
  obtain⟨s,hs,h1,_⟩:=qi ht
  have:=BK.rng _ (bS.mpr ⟨s,hs,h1⟩)
  have:=(uz RF).2 _ ht'
  lia⟩)
 refine⟨by lia,yG hall asc (by lia),?_,zc st ndt (fun t ht=>?_) fun t ht=>⟨(hts t ht).1,(hts t ht).2.1,(hts t ht).2.2.1⟩⟩
 ·rw[pt.length_eq,av]
  rcases h9 with h9|h9
  ·lia
  ·subst h9
   have:(ko []).length=0:=rfl
   lia
 ·have:=(hts t ht).2.2.2
  exact uw (a:=(-1)) (by lia)
theorem xu{s:List Int}(nd:s.Nodup){d:Int}(hd:d∈s):oS pr s d=(s.map pr).sum-pr d:=by
 unfold oS
 induction s with
 |nil=>cases hd
 | cons a r ih=>
  have nd':=br.mp nd
  rw[bV,ah,List.sum_cons]
  by_cases c:a=d
  ·subst c
   rw [ay (by simp),List.filter_eq_self.mpr fun x hx=>by simp; exact fun z=>nd'.1 (by rw [<- z]; exact hx)]
   lia
  ·rw[aA (by simpa using c),ah,List.sum_cons,ih nd'.2 ((aM.mp hd).resolve_left fun z=>c z.symm)]
   lia
theorem GrD.two{s:List Int}(g:GrD pr dv s):(∀n∈s,0<=dv n/\dv n<=2)/\∀a∈s,∀b∈s,a≠b->2<=dv a+dv b:=by
 rcases g with⟨g,_⟩|⟨d,_,_,g⟩
 ·exact⟨fun n hn=>by rw[g n hn];decide,fun a ha b hb _=>by rw[g a ha,g b hb];decide⟩
 ·refine⟨fun n hn=>by rw[g n hn];split<;>decide,fun a ha b hb h=>?_⟩
  rw[g a ha,g b hb]
  split<;>split<;>first|decide|(rename_i x y;exact absurd (x.trans y.symm) h)
theorem FE(pm:ms.Perm bs.flatten)(RK:qu rg)(pt:ts.Perm (kC bs++ko rg))(gd:∀s∈bs,GrD pr dv s)(d1:∀p∈jZ rg,dv p.1=1):Cov (kA ms pr rg) ts dv:=by
 refine⟨fun p hp=>?_,fun t ht=>?_⟩
 ·rcases aW.mp hp with hp|hp
  ·obtain⟨n,hn,rfl⟩:=aw.mp hp
   obtain⟨s,hs,h⟩:=bS.mp (pm.mem_iff.mp hn)
   exact(gd s hs).two.1 n h
  ·rw[d1 p hp];decide
 ·rcases aW.mp (pt.mem_iff.mp ht)with h|h
  ·obtain⟨s,hs,h1,h2,h3⟩:=qi h
   exact(gd s hs).two.2 _ h1 _ h2 (by lia)
  ·obtain⟨r,hr,_,h1,h2,_,_,k,R⟩:=yN (c:=400) RK.2 h
   have e:∀n∈r.1,dv n=1:=fun n hn=>d1 (n,r.2.2) (bU.mpr ⟨r,hr,aw.mpr ⟨n,R.pm.mem_iff.mpr hn,rfl⟩⟩)
   rw[e _ h1,e _ h2]
   decide
theorem Cp{sp:List Int}{k:Nat}(h:k<sp.length):(kQ sp k,sp.getD k 0)∈kY sp\/(sp.getD k 0,kQ sp k)∈kY sp:=by
 have m:rt sp k∈kY sp:=aw.mpr ⟨k,bg.mpr h,rfl⟩
 unfold rt at m
 rcases Int.le_total (kQ sp k) (sp.getD k 0)with c|c
 ·rw[Int.min_eq_left c,Int.max_eq_right c]at m;exact .inl m
 ·rw[Int.min_eq_right c,Int.max_eq_left c]at m;exact .inr m
theorem zQ:∀{l:List Int} {a:Int} {t:Int×Int},t∈qZ a l->∃k,k+1<(a::l).length/\t=((a::l).getD k 0,(a::l).getD (k+1) 0)
 |[],_,_,h=>by cases h
 | b::l,a,t,h=>by
  rcases aM.mp h with rfl|h
  ·exact⟨0,by simp,rfl⟩
  ·obtain⟨k,hk,e⟩:=zQ h
   refine⟨k+1,by simpa using hk,?_⟩
   rw[e]
   rfl
theorem FF{r:List Int}(BK:BsOk bs)(hpr:∀n∈bs.flatten,1<=pr n/\pr n<=16000000001)(pm:ms.Perm bs.flatten)(RK:qu rg)(pt:ts.Perm (kC bs++ko rg))(gd:∀s∈bs,GrD pr dv s)(d1:∀p∈jZ rg,dv p.1=1)(wk:WebOk (kA ms pr rg) ts)(h:Rst (kA ms pr rg) ts r):∀p∈kA ms pr rg,k8 (kA ms pr rg) ts r p.1=dv p.1:=by
 have c:=FE (pr:=pr) pm RK pt gd d1
 refine Fo wk h c (gs:=(bs.map fun s=>s.map fun n=>(n,pr n))++rg.map fun r=>r.2.1.map fun n=>(n,r.2.2)) ?_ fun g hg=>?_
 ·rw [fh,<- List.map_flatten]
  exact(pm.map _).append_right _
 ·rcases aW.mp hg with hg|hg
  ·obtain⟨s,hs,rfl⟩:=aw.mp hg
   have hsF:∀n∈s,n∈bs.flatten:=fun n hn=>bS.mpr ⟨s,hs,hn⟩
   have nds:s.Nodup:=fD (fun{a b} h=>by lia) (BK.asc s hs)
   have tin:∀a∈s,∀b∈s,a<b->(a,b)∈ts:=fun a ha b hb l=>pt.mem_iff.mpr (cC _ (bU.mpr ⟨s,hs,bU.mpr ⟨a,ha,aw.mpr ⟨b,de.mpr ⟨hb,aK l⟩,rfl⟩⟩⟩))
   have Bu:Bun (kA ms pr rg) ts (s.map fun n=>(n,pr n)):=by
    refine⟨?_,fun p hp=>?_,fun p hp q hq ne=>?_,fun p hp=>?_⟩
    ·rw[bt]
     show(s.map id).Nodup
     rw[List.map_id]
     exact nds
    ·obtain⟨n,hn,rfl⟩:=aw.mp hp
     exact cC _ (aw.mpr ⟨n,pm.mem_iff.mpr (hsF n hn),rfl⟩)
    ·obtain⟨a,ha,rfl⟩:=aw.mp hp
     obtain⟨b,hb,rfl⟩:=aw.mp hq
     dsimp only at ne ⊢
     rcases Int.lt_or_gt_of_ne ne with l|l
     ·exact .inl (tin a ha b hb l)
     ·exact .inr (tin b hb a ha l)
    ·obtain⟨n,hn,rfl⟩:=aw.mp hp
     exact(hpr n (hsF n hn)).1
   have eS:j8 (s.map fun n=>(n,pr n))=(s.map pr).sum:=by unfold j8;rw[bt];rfl
   rcases gd s hs with⟨g1,g2⟩|⟨d,hd,g2,g3⟩
   ·refine EF Bu (fun p hp=>?_) fun p hp=>?_
    ·obtain⟨n,hn,rfl⟩:=aw.mp hp
     have:=g2 n hn
     rw[xu nds hn]at this
     rw[eS]
     exact this
    ·obtain⟨n,hn,rfl⟩:=aw.mp hp
     exact g1 n hn
   ·rw[xu nds hd]at g2
    refine EE Bu (d:=(d,pr d)) (aw.mpr ⟨d,hd,rfl⟩) (by rw[eS];exact g2) fun p hp=>?_
    obtain⟨n,hn,rfl⟩:=aw.mp hp
    exact g3 n hn
  ·obtain⟨q,hq,rfl⟩:=aw.mp hg
   obtain⟨k,hk⟩:=cD hq
   have R:=RK.2 k q hk
   have tin:∀k,k<q.1.length->(kQ q.1 k,q.1.getD k 0)∈ts\/(q.1.getD k 0,kQ q.1 k)∈ts:=fun k hk=>by
    have up:∀t∈kY q.1,t∈ts:=fun t ht=>pt.mem_iff.mpr (bo _ (bU.mpr ⟨q,hq,ht⟩))
    exact(Cp hk).imp (up _) (up _)
   have l3:=R.l3
   have hpm:=R.pm
   have hD:∀p∈q.2.1.map (fun n=>(n,q.2.2)),dv p.1=1:=fun p hp=>d1 p (bU.mpr ⟨q,hq,hp⟩)
   generalize q.1=sp at tin l3 hpm
   cases sp with
   |nil=>simp at l3
   | cons a l=>
    refine EG R.w1 (hpm.map _) (fun t ht=>?_) ?_ hD
    ·obtain⟨k,hk,e⟩:=zQ ht
     have:=tin (k+1) hk
     rw[show kQ (a::l) (k+1)=(a::l).getD k 0 from rfl]at this
     rw[e]
     exact this
    ·have:=tin 0 (by simp)
     have e:kQ (a::l) 0=(a::l).getLast (by simp):=by
      rw[List.getLast_eq_getElem]
      unfold kQ
      rw[aA rfl,aJ,gE (by simp)]
      rfl
     rw[e]at this
     exact this
end
def ra(K:PySem.W.Frag):Sp:=fun vs H Q _=>∃a ns,vs=[.ref a]/\Scr K H a ns/\∀H',Q (.bl true) H'
theorem B2{H:Hp}{v:V}{d:Int×Int×Int}(h:Tp H v d):Rep H (ku d) v:=by
 obtain⟨t,e,q⟩:=h
 rw[ku,Rep]
 refine⟨t,_,e,q,?_⟩
 rw[Reps]
 refine⟨_,_,rfl,by rw[Rep],?_⟩
 rw[Reps]
 refine⟨_,_,rfl,by rw[Rep],?_⟩
 rw[Reps]
 exact⟨_,_,rfl,by rw[Rep],by rw[Reps]⟩
theorem z9{H:Hp}:∀{xs:List V} {ds:List (Int×Int×Int)},lg H xs ds->Reps H (ds.map ku) xs
 |_,_,.nil=>by rw[cL,Reps]
 |_,_,.cons r t=>by
  rw[ah,Reps]
  exact⟨_,_,rfl,B2 r,z9 t⟩
noncomputable def oF(hs:List (Int×Int))(qs:List (Int×Int×Int)):Dt:=.tup [.lst (hs.map kq),.lst (qs.map ku)]
theorem E3{H:Hp}{t l1 l2:Addr}{zs us:List V}{hs:List (Int×Int)}{qs:List (Int×Int×Int)}(e:H t=some (.tup [.ref l1,.ref l2]))(e1:H l1=some (.lst zs))(e2:H l2=some (.lst us))(p:Prs H zs hs)(q:lg H us qs):Rep H (oF hs qs) (.ref t):=by
 rw[oF,Rep]
 refine⟨t,_,rfl,e,?_⟩
 rw[Reps]
 refine⟨_,_,rfl,by rw[Rep];exact⟨l1,zs,rfl,e1,Prs.reps p⟩,?_⟩
 rw[Reps]
 exact⟨_,_,rfl,by rw[Rep];exact⟨l2,us,rfl,e2,z9 q⟩,by rw[Reps]⟩
theorem GF{hs:List (Int×Int)}{qs:List (Int×Int×Int)}(h:qs.length<=200):x6 (oF hs qs):=fun a b e ds e2=>by
 unfold oF at e
 cases e
 cases e2
 rw[ae]
 exact h
theorem DL(ps ts:List (Int×Int))(r:List Int):(mz ps ts r).length<=ts.length:=by
 unfold mz nh
 refine bE (cP _ _) ?_
 rw[ae,bz]
 exact ao _
theorem jro.at{H H':Hp}{t:Addr}{ps ts:List (Int×Int)}(h:jro H H' t ps ts):jdo H' (.ref t) ps ts:=by
 obtain⟨l1,l2,xs,ys,_,_,_,e,e1,e2,p1,p2⟩:=h
 exact⟨t,l1,l2,xs,ys,rfl,e,e1,e2,p1,p2⟩
theorem GB(B:Blt mg)(D:DefAt K mg "_law_own" (iM 39) ["_law_web"] f fd):FnOk P w K mg base iR 1 f fd ["_law_web"] x8:=by
 have sc:FnScope ["_law_web"] ["_law_web"] (je (iM 39)):=by walk_at "SC"
 refine D.F.ok sc (fun vs H Q E h=>?_) (fun cdv A outer s H vs Q E hr h=>?_)
 ·obtain⟨v,ps,ts,rfl,_⟩:=h
  rfl
 obtain⟨v,ps,ts,rfl,hw,h⟩:=h
 obtain⟨u,pa,ta,xs,ys,rfl,eu,ep,et,pp,pt⟩:=id hw
 have hu:=jn hr
 have hu0:_<PySem.cLine:=aF hu
 refine⟨_,(iS (jh (kg (iH (mr zM rfl B.list cS (iH (iT iU (qv 0) iL (fun _ _=>rfl)) iI)) (iH (mr zM rfl B.list cS (iH (iT iU (qv 0) iL (fun _ _=>rfl)) iI)) iI))))),?_⟩
 simp_arith[iX,eu,ep,jw,jQ]
 intro l1 h1
 have s1:Same H (upd H l1 (.lst xs)):=iO h1 _
 simp_arith[iX,s1 _ _ eu,s1 _ _ et,jw,jQ]
 intro l2 h2
 have s2:Same H (upd (upd H l1 (.lst xs)) l2 (.lst ys)):=s1.trans (iO h2 _)
 intro t h3
 have s3:Same (upd (upd H l1 (.lst xs)) l2 (.lst ys)) (upd (upd (upd H l1 (.lst xs)) l2 (.lst ys)) t (.tup [.ref l1,.ref l2])):=iO h3 _
 refine h _ _ (s2.trans s3) ⟨l1,l2,xs,ys,h1,s1.free h2,iV iK h2,iK,s3 _ _ (iO h2 _ _ _ iK),s3 _ _ iK,Prs.same (s2.trans s3) pp,Prs.same (s2.trans s3) pt⟩
theorem Dl(B:Blt mg)(D:DefAt K mg "law" (iM 45) ["_law_script"] f fd)(Dqw:DefAt K mg "_law_begun" (iM 40) ["_law_script","_law_k"] fqw dqw)(Gqw:FnOk P w K mg base iR 1 fqw dqw ["_law_script","_law_k"] (yP K))(Dqx:DefAt K mg "_law_drawn" (iM 44) ["_law_state"] fqx dqx)(Gqx:FnOk P w K mg base iR 4 fqx dqx ["_law_state"] yR)(Dqj:DefAt K mg "_law_own" (iM 39) ["_law_web"] fqj dqj)(Gqj:FnOk P w K mg base iR 1 fqj dqj ["_law_web"] x8)(Dqs:DefAt K mg "halves_of" (iM 37) ["web"] fqs dqs)(Gqs:FnOk P w K mg base iR 7 fqs dqs ["web"] rA)(Dq0:DefAt K mg "lets_halves" (iM 32) ["web","thing"] fq0 dq0)(Gq0:FnOk P w K mg base iR 6 fq0 dq0 ["web","thing"] rT):FnOk P w K mg base iR 9 f fd ["_law_script"] (ra K):=by
 have sc:FnScope ["_law_script","_law_k","_law_web","_law_due","_law_found"] ["_law_script"] (je (iM 45)):=by walk_at "SC"
 refine D.F.ok sc (fun vs H Q E h=>?_) (fun cdv A outer s H vs Q E hr h=>?_)
 ·obtain⟨a,ns,rfl,_⟩:=h
  rfl
 obtain⟨a,ns,rfl,hs,h⟩:=h
 have hu:=jn hr
 have hu0:_<PySem.cLine:=aF hu
 refine⟨_,(iN (kh bf rfl (pj rfl B.range (iH (jq (t8 rfl) rfl B.max gj (iH iL (iH (jq (xp rfl) rfl B.min gh (iH (jq vP rfl B.len bN (iH (qv 0) iI)) (iH iL iI))) iI))) iI)) (iY (i:=1) sc.nd rfl (Or.inl rfl)) (iN (oQ (jd Gqx (hr.mono (by decide)) rfl Dqx.m Dqx.F.kp Dqx.b .nil iZ (iH (jd Gqw (hr.mono (by decide)) rfl Dqw.m Dqw.F.kp Dqw.b .nil iZ (iH (qv 0) (iH (qv 1) iI))) iI)) (ki (n:=2) rfl (ji (iY (i:=2) sc.nd rfl (Or.inl rfl)) (ji (iY (i:=3) sc.nd rfl (Or.inr rfl)) kj)))) (iN (jb (i:=4) sc.nd rfl (Or.inl rfl) (jd Gqs (hr.mono (by decide)) rfl Dqs.m Dqs.F.kp Dqs.b .nil iZ (iH (jd Gqj (hr.mono (by decide)) rfl Dqj.m Dqj.F.kp Dqj.b .nil iZ (iH (qv 2) iI)) iI))) (iN (kr (kR (xP hr.units) (iT iU (qv 4) iL (fun _ _=>rfl)) (kN (CpScope.of (N:=["_law_place","_law_price","_law_due"]) (src:=[none,none,some 3]) (by rfl)) rfl (jO (iT iU (qv 2) iL (fun _ _=>rfl))) (fun _ _ _ _=>(ki (n:=2) rfl (ji (iY (i:=0) (jy (l:=["_law_place","_law_price","_law_due"]) (by rfl)) rfl (Or.inl rfl)) (ji (iY (i:=1) (jy (l:=["_law_place","_law_price","_law_due"]) (by rfl)) rfl (Or.inl rfl)) kj)))) (fun _ _ _ _=>kS) (fun _ _ _ _=>(kg (iH (qv 0) (iH (k4 hu (qv 2) (qv 0) (fun _ _=>rfl)) iI))))) (jI _)) (iS (jh lN)) ky) (iS (kr (kR CQ (jd Gq0 (hr.mono (by decide)) rfl Dq0.m Dq0.F.kp Dq0.b .nil iZ (iH (jd Gqj (hr.mono (by decide)) rfl Dqj.m Dqj.F.kp Dqj.b .nil iZ (iH (qv 2) iI)) (iH (qv 4) iI))) lN (jI _)) (iS (jh lN)) ky)))))) (iS (jh lN))),?_⟩
 refine i7 fun R hR=>?_
 obtain⟨N,hN,hN2⟩:∃N:Nat,N=(if(1:Int)<(if(4:Int)<(ns.length:Int)then 4 else(ns.length:Int))then(if(4:Int)<(ns.length:Int)then 4 else(ns.length:Int))else 1).toNat/\N<70:=⟨_,rfl,by split<;>split<;>lia⟩
 refine kU (me 0 N) H (fun R' hR'=>?_) (qg (n:=N) (fun i σ H1=>∃v1 v2 v3 v4,σ=[some (.ref a),v1,v2,v3,v4]/\Scr K H1 a ns) ⟨none,none,none,none,rfl,hs⟩ ?_ ?_)
 ·unfold nU
  walk_at "D"
  refine⟨a,_,rfl,.inl hs.sq,?_⟩
  simp_arith[ae]
  refine⟨_,rfl,?_,?_,?_⟩
  ·split<;>split<;>lia
  ·split<;>split<;>lia
  ·rw [<- hN]
   exact hR'
 ·rintro i σ H1 hi ⟨v1,v2,v3,v4,rfl,hs1⟩
  simp only[mF,List.set_cons_zero,List.set_cons_succ]
  refine i7 fun R9 hR9=>?_
  walk_at "D"
  refine⟨a,0+(i:Int),ns,rfl,hs1,by lia,by lia,fun st o hst so=>?_⟩
  have s2:=iO hst o
  have e2:upd H1 st o st=some o:=iK
  have hs2:=hs1.tups s2.tups
  generalize upd H1 st o=H2 at s2 e2 hs2
  refine⟨st,o,rfl,e2,so,fun t w du kd H3 o3 ps ts bs ms pr dv ks rg b3 e3 so3 et W3 edu ek BK hpr pm sm RK eps pt pst h9 gd d1 hks=>?_⟩
  have hs3:=hs2.tups (b3.tups e2 so.imm)
  have eps:ps=kA ms pr rg:=eps
  have wk:WebOk ps ts:=by rw[eps];exact Ey BK hpr pm sm RK pt pst h9
  have key:∀r,Rst ps ts r->∀p∈ps,k8 ps ts r p.1=dv p.1:=by
   rw[eps]at wk ⊢
   exact fun r h=>FF BK hpr pm RK pt gd d1 wk h
  subst ek
  clear BK hpr pm sm RK eps pt pst h9 gd d1 b3 e2 so s2 hs2 hst so3 e3
  simp_arith[iX,et]
  first
  |refine⟨rfl,?_⟩
  |skip
  subst hR9
  refine i7 fun R9 hR9=>?_
  walk_at "D"
  refine⟨.ref w,ps,ts,rfl,W3,fun t1 H4 s4 nw=>?_⟩
  walk_at "D"
  refine⟨.ref t1,ps,ts,rfl,nw.at,wk,wk.pl,fun t0 f1 f2 zs us r H5 s5 et0 ef1 ef2 n0 n1 n2 ff rst pz pu=>?_⟩
  have s35:=s4.trans s5
  have W5:=W3.same s35
  have edu5:=s35 _ _ edu
  have hs5:=hs3.tups s35.tups
  have std:=Ha wk rst
  have key:=key r rst
  have hq:=pY (r:=r) wk
  have hq2:l9 ps ts r=ps.map fun p=>(p.1,dv p.1):=by
   rw[hq]
   exact dj fun p hp=>by rw[key p hp]
  have hdl:=DL ps ts r
  have htk:=wk.tl
  have hpk:=wk.pl
  generalize mz ps ts r=qs at pu std hdl
  rw[hq2]at std pz
  clear key hq hq2 rst
  have hqs:qs.length<=200:=by lia
  clear s4 s5 nw edu W3 hs3 s35
  subst hR9
  refine i7 fun R9 hR9=>?_
  obtain⟨u,pa,ta,xs,ys,hwu,eu,epa,eta,hxs,hys⟩:=id W5
  cases hwu
  have hxl:=aD hxs
  simp_arith[iX,et0,jw]
  refine kO (jD K pa) H5 (fun R2 hR2=>?_) (fun z hz0=>km ps.length (fun j σ' Hd=>∃w1 w2 vs,σ'=[w1,w2,some (.ref du)]/\Same H5 Hd/\Hd z=some (.lst vs)/\Prs Hd vs ((ps.take j).map fun p=>(p.1,dv p.1))) ⟨none,none,[],rfl,iO hz0 _,iK,.nil⟩ ?_ ?_)
  ·unfold jL
   simp_arith[iX,eu,jw]
   exact⟨pa,rfl,⟨_,SqL.of epa⟩,hR2⟩
  ·rintro j σ' Hd hj ⟨w1,w2,vs,rfl,s9,ez,pv⟩
   have x1:ps[j]? =some ps[j]:=gE hj
   have hpm:=bO hj
   generalize ps[j]=p at x1 hpm
   obtain⟨x,hx,px⟩:=vR hxs x1
   obtain⟨b,rfl,hb⟩:=px.same s9
   have z1:SqL K Hd pa xs:=SqL.of (s9 _ _ epa)
   refine⟨⟨_,_,z1,hx⟩,?_⟩
   rintro y H' ⟨rfl,hy'⟩
   have:=hy' _ z1
   rw[hx]at this
   cases this
   have hvl:vs.length<=j:=by
    rw[aD pv,ae,aS]
    exact fZ _ _
   have ev:=og (pr:=dv) (hks p hpm)
   simp_arith[hb,s9 _ _ edu5,ev]
   intro t5 ht5
   have q5:=iO ht5 (.tup [.int p.1,.int (dv p.1)])
   have ez5:=q5 _ _ ez
   have t6:=k6 (ys:=vs++[.ref t5]) ez5
   refine⟨vs,ez5,jt (by lia),_,_,vs++[.ref t5],rfl,jJ (s9.trans q5) hz0,iK,?_⟩
   rw[jv x1,aq]
   exact k7 (Prs.tups t6 (Prs.same q5 pv)) ⟨t5,rfl,t6 _ _ rfl iK⟩
  rintro σ' H6 ⟨w1,w2,vs,rfl,s6,ez,pv⟩
  refine⟨⟨_,SqL.of (s6 _ _ epa),by lia⟩,?_⟩
  rw[aV]at pv
  refine⟨.lst ((ps.map fun p=>(p.1,dv p.1)).map kq),.lst ((ps.map fun p=>(p.1,dv p.1)).map kq),(by rw[Rep];exact⟨f1,zs,rfl,s6 _ _ ef1,Prs.reps (Prs.same s6 pz)⟩),(by rw[Rep];exact⟨z,vs,rfl,ez,Prs.reps pv⟩),(by rw[lG];have:=An (ps.map fun p=>(p.1,dv p.1));lia),.inl ⟨_,_,rfl,rfl⟩,?_⟩
  rw[qa]
  walk_at "D"
  subst hR9
  walk_at "D"
  refine⟨.ref w,ps,ts,rfl,W5.same s6,fun t1' H7 s7 nw=>?_⟩
  have s57:=s6.trans s7
  walk_at "D"
  refine⟨.ref t1',ps,ts,.ref t0,oF (ps.map fun p=>(p.1,dv p.1)) qs,rfl,nw.at,wk,E3 (s57 _ _ et0) (s57 _ _ ef1) (s57 _ _ ef2) (Prs.same s57 pz) (kG s57.tups pu),GF hqs,fun H8 s8=>?_⟩
  rw[show m8 ps ts (oF (ps.map fun p=>(p.1,dv p.1)) qs)=true from std]
  walk_at "D"
  exact⟨_,_,_,_,rfl,hs5.tups (s57.trans s8).tups⟩
 ·rintro σ H1 ⟨v1,v2,v3,v4,rfl,hs1⟩
  subst hR
  walk_at "D"
  exact h _
end
end My
set_option autoImplicit true
namespace My
open PySem L2
abbrev aT(K:PySem.W.Frag)(x:Str)(f:Addr):Prop:=PySem.W.nsIn K mainGlobals x=some (some (.ref f))
abbrev zT(K:PySem.W.Frag)(x:Str):Prop:=PySem.W.nsIn K mainGlobals x=some none
abbrev kT(K:PySem.W.Frag)(f:Addr):Prop:=PySem.W.keepIn K (.ref f)=true
abbrev qT(K:PySem.W.Frag)(x q:Str)(st:Stmt)(f:Addr):Prop:=∃(oc:Value) (od:Option Addr) (sl:Array (Option Value)) (kV dc pm:Value) (an:Option Addr) (cd ct:Value),K.lookup f=some ⟨oc,od,.func (PySem.W.fnOf x q (n8 st) (nD st) (je st) .none kV dc pm an cd ct),sl⟩/\PySem.W.codeIn K cd q=true/\kT K f
abbrev dT(K:PySem.W.Frag)(x:Str)(st:Stmt):Prop:=∃f,aT K x f/\qT K x x st f
theorem dI{K:PySem.W.Frag}{x:Str}{st:Stmt}{f:Addr}{oc:Value}{od:Option Addr}{sl:Array (Option Value)}{kV dc pm:Value}{an:Option Addr}{cd ct:Value}(a:aT K x f)(l:K.lookup f=some ⟨oc,od,.func (PySem.W.fnOf x x (n8 st) (nD st) (je st) .none kV dc pm an cd ct),sl⟩)(c:PySem.W.codeIn K cd x=true)(k:kT K f):dT K x st:=⟨f,a,oc,od,sl,kV,dc,pm,an,cd,ct,l,c,k⟩
abbrev bT(x q:Str)(st:Stmt)(us:List Value)(bs:List (Str×Value)):Prop:=∀(kV dc pm:Value) (an:Option Addr) (cd ct:Value),bindArgs (PySem.W.fnOf x q (n8 st) (nD st) (je st) .none kV dc pm an cd ct) ⟨us,[]⟩=pure bs
theorem jN{K:PySem.W.Frag}{h:Heap}{mg:Str->Option Value}(X:K.In h)(G:h.Ns mainGlobals mg){x:Str}{st:Stmt}(a:dT K x st)(ps:List Str)(b:∀us:List Value,us.length=ps.length->bT x x st us (ps.zip us)):∃f fd,DefAt K mg x st ps f fd/\∀s us,us.length=ps.length->BindsTo s fd ⟨us,[]⟩ (ps.zip us):=by
 obtain⟨f,a,oc,od,sl,kV,dc,pm,an,cd,ct,l,g,k⟩:=a
 exact⟨f,_,⟨xG l g k,.all fun us h=>b us h _ _ _ _ _ _,cU X G a⟩,fun s us h=>.of_eq (b us h _ _ _ _ _ _)⟩
abbrev mT(K:PySem.W.Frag)(C:Addr)(x q:Str)(st:Stmt):Prop:=∃f,PySem.W.findIn K (.ref C) x=some (some (.ref f))/\PySem.W.isFn K (.ref f)=true/\qT K x q st f
theorem mI{K:PySem.W.Frag}{C:Addr}{x q:Str}{st:Stmt}{f:Addr}{oc:Value}{od:Option Addr}{sl:Array (Option Value)}{kV dc pm:Value}{an:Option Addr}{cd ct:Value}(a:PySem.W.findIn K (.ref C) x=some (some (.ref f)))(i:PySem.W.isFn K (.ref f)=true)(l:K.lookup f=some ⟨oc,od,.func (PySem.W.fnOf x q (n8 st) (nD st) (je st) .none kV dc pm an cd ct),sl⟩)(c:PySem.W.codeIn K cd q=true)(k:kT K f):mT K C x q st:=⟨f,a,i,oc,od,sl,kV,dc,pm,an,cd,ct,l,c,k⟩
theorem nj{K:PySem.W.Frag}{C:Addr}{x q:Str}{st:Stmt}(a:mT K C x q st)(ps:List Str)(b:∀us:List Value,us.length=ps.length->bT x q st us (ps.zip us)):∃f fd,MthAt K C x q st ps f fd:=by
 obtain⟨f,a,i,oc,od,sl,kV,dc,pm,an,cd,ct,l,g,k⟩:=a
 exact⟨f,_,xG l g k,.all fun us h=>b us h _ _ _ _ _ _,a,i,k⟩
theorem b1{x q:Str}{st:Stmt}{p0:Str}(h:∀u0,bT x q st [u0] [(p0,u0)]:=by exact fun _ _ _ _ _ _ _=>rfl):∀us:List Value,us.length=1->bT x q st us ([p0].zip us)|[u0],_=>h u0
theorem b2{x q:Str}{st:Stmt}{p0 p1:Str}(h:∀u0 u1,bT x q st [u0,u1] [(p0,u0),(p1,u1)]:=by exact fun _ _ _ _ _ _ _ _=>rfl):∀us:List Value,us.length=2->bT x q st us ([p0,p1].zip us)|[u0,u1],_=>h u0 u1
theorem b3{x q:Str}{st:Stmt}{p0 p1 p2:Str}(h:∀u0 u1 u2,bT x q st [u0,u1,u2] [(p0,u0),(p1,u1),(p2,u2)]:=by exact fun _ _ _ _ _ _ _ _ _=>rfl):∀us:List Value,us.length=3->bT x q st us ([p0,p1,p2].zip us)|[u0,u1,u2],_=>h u0 u1 u2
theorem b4{x q:Str}{st:Stmt}{p0 p1 p2 p3:Str}(h:∀u0 u1 u2 u3,bT x q st [u0,u1,u2,u3] [(p0,u0),(p1,u1),(p2,u2),(p3,u3)]:=by exact fun _ _ _ _ _ _ _ _ _ _=>rfl):∀us:List Value,us.length=4->bT x q st us ([p0,p1,p2,p3].zip us)|[u0,u1,u2,u3],_=>h u0 u1 u2 u3
theorem IU{l:PySem.W.OpenLaw}{w:World}{K:PySem.W.Frag}{h:Heap}{mg:Str->Option Value}{fa:Addr}(X:K.In h)(G:h.Ns mainGlobals mg)(hfa:mg "law"=some (.ref fa))(a0:dT K "is_whole" (iM 7))(a1:dT K "is_tuple_of" (iM 8))(a2:dT K "is_pair_of_wholes" (iM 9))(a3:dT K "is_list_up_to" (iM 10))(a4:dT K "marked" (iM 11))(a5:dT K "place_stands" (iM 20))(a6:dT K "tie_stands" (iM 21))(a7:dT K "look_at_places" (iM 22))(a8:dT K "look_at_ties" (iM 23))(a9:dT K "look_at_web" (iM 24))(a10:dT K "halves_stand" (iM 26))(a11:dT K "is_due" (iM 27))(a12:dT K "due_at" (iM 28))(a13:dT K "dues_stand" (iM 29))(a14:dT K "cost_in_halves" (iM 30))(a15:dT K "paper_stands" (iM 31))(a16:dT K "lets_halves" (iM 32))(a17:dT K "doubled" (iM 33))(a18:dT K "dues_flowing" (iM 34))(a19:dT K "halves_reached" (iM 35))(a20:dT K "told_paper" (iM 36))(a21:dT K "halves_of" (iM 37))(a22:dT K "_law_own" (iM 39))(a23:dT K "_law_begun" (iM 40))(a24:dT K "_law_take" (iM 41))(a25:dT K "_law_prices" (iM 42))(a26:dT K "_law_ring" (iM 43))(a27:dT K "_law_drawn" (iM 44))(a28:dT K "law" (iM 45))(z_len:zT K "len")(z_isinstance:zT K "isinstance")(z_all:zT K "all")(z_min:zT K "min")(z_list:zT K "list")(z_dict:zT K "dict")(z_int:zT K "int")(z_bool:zT K "bool")(z_str:zT K "str")(z_tuple:zT K "tuple")(z_range:zT K "range")(z_enumerate:zT K "enumerate")(z_zip:zT K "zip")(z_max:zT K "max")(z_any:zT K "any")(z_sum:zT K "sum")(z_sorted:zT K "sorted")(z_set:zT K "set")(n_MOST_PLACES:PySem.W.nsIn K mainGlobals "MOST_PLACES"=some (some (.int 40 c1)))(n_MOST_TIES:PySem.W.nsIn K mainGlobals "MOST_TIES"=some (some (.int 120 c2)))(n_LAST_PLACE:PySem.W.nsIn K mainGlobals "LAST_PLACE"=some (some (.int 999 c3)))(n_MOST_PRICE:PySem.W.nsIn K mainGlobals "MOST_PRICE"=some (some (.int 1000000000000 c4)))(aN:aT K "Net" C_Net)(pgN:PySem.W.plainGet K C_Net Str.empty=true)(hdN:PySem.W.hasDictIn K C_Net=true)(poN:PySem.W.plainOver K C_Net=true)(saN:PySem.W.findIn K (.ref C_Net) "__setattr__"=some (some (.builtin "object.__setattr__")))(mkN:PySem.W.makesIn K C_Net=true)(kcN:kT K C_Net)(n_ways_from:PySem.W.findIn K (.ref C_Net) "ways_from"=some none)(n_heads:PySem.W.findIn K (.ref C_Net) "heads"=some none)(n_rooms:PySem.W.findIn K (.ref C_Net) "rooms"=some none)(nn_SOURCE:PySem.W.nsIn K mainGlobals "SOURCE"=some (some (.int 0 ee1)))(nn_SINK:PySem.W.nsIn K mainGlobals "SINK"=some (some (.int 1 ee2)))(nn_FIRST:PySem.W.nsIn K mainGlobals "FIRST"=some (some (.int 2 ee3)))(m0:mT K C_Net "__init__" "Net.__init__" (jB 5 0))(m1:mT K C_Net "put_way" "Net.put_way" (jB 5 1))(m2:mT K C_Net "fill" "Net.fill" (jB 5 2))(m3:mT K C_Net "shortest" "Net.shortest" (jB 5 3))(m4:mT K C_Net "spread" "Net.spread" (jB 5 4))(m5:mT K C_Net "push" "Net.push" (jB 5 5))(m6:mT K C_Net "flows" "Net.flows" (jB 5 6))(m7:mT K C_Net "reached_from" "Net.reached_from" (jB 5 7))
 :∃fd:FuncData,(∀(s:Shared) (v:Value),BindsTo s fd ⟨[v],[]⟩ [("_law_script",v)])/\∀base:Heap,K.In base->base.Ns mainGlobals mg->FnOk l.prog w K mg base iR 9 fa fd ["_law_script"] (ra K):=by
 have B:Blt mg:=⟨bh X G z_len,bh X G z_isinstance,bh X G z_all,bh X G z_min,bh X G z_list,bh X G z_dict,bh X G z_int,bh X G z_bool,bh X G z_str,bh X G z_tuple,bh X G z_range,bh X G z_enumerate,bh X G z_zip,bh X G z_max,bh X G z_any,bh X G z_sum,bh X G z_sorted,bh X G z_set⟩
 have C:Cst mg c1 c2 c3 c4:=⟨cU X G n_MOST_PLACES,cU X G n_MOST_TIES,cU X G n_LAST_PLACE,cU X G n_MOST_PRICE⟩
 obtain⟨f0,d0,Dqc,_⟩:=jN X G a0 ["thing"] b1
 obtain⟨f1,d1,Dqb,_⟩:=jN X G a1 ["thing","many"] b2
 obtain⟨f2,d2,Dqd,_⟩:=jN X G a2 ["thing"] b1
 obtain⟨f3,d3,Dqe,_⟩:=jN X G a3 ["thing","most"] b2
 obtain⟨f4,d4,Dqg,_⟩:=jN X G a4 ["places"] b1
 obtain⟨f5,d5,Dq4,_⟩:=jN X G a5 ["thing","last","spent"] b3
 obtain⟨f6,d6,Dq5,_⟩:=jN X G a6 ["thing","last","prices"] b3
 obtain⟨f7,d7,Dq1,_⟩:=jN X G a7 ["places"] b1
 obtain⟨f8,d8,Dq2,_⟩:=jN X G a8 ["ties","prices"] b2
 obtain⟨f9,d9,Dqf,_⟩:=jN X G a9 ["thing"] b1
 obtain⟨f10,d10,Dqu,_⟩:=jN X G a10 ["web","thing"] b2
 obtain⟨f11,d11,Dqv,_⟩:=jN X G a11 ["thing"] b1
 obtain⟨f12,d12,Dqp,_⟩:=jN X G a12 ["dues"] b1
 obtain⟨f13,d13,Dqr,_⟩:=jN X G a13 ["web","thing"] b2
 obtain⟨f14,d14,Dqn,_⟩:=jN X G a14 ["web","halves"] b2
 obtain⟨f15,d15,Dq3,_⟩:=jN X G a15 ["web","thing"] b2
 obtain⟨f16,d16,Dq0,_⟩:=jN X G a16 ["web","thing"] b2
 obtain⟨f17,d17,Dqo,_⟩:=jN X G a17 ["web"] b1
 obtain⟨f18,d18,Dqq,_⟩:=jN X G a18 ["web","flows"] b2
 obtain⟨f19,d19,Dqt,_⟩:=jN X G a19 ["web","reached"] b2
 obtain⟨f20,d20,Dq6,_⟩:=jN X G a20 ["web"] b1
 obtain⟨f21,d21,Dqs,_⟩:=jN X G a21 ["web"] b1
 obtain⟨f22,d22,Dqj,_⟩:=jN X G a22 ["_law_web"] b1
 obtain⟨f23,d23,Dqw,_⟩:=jN X G a23 ["_law_script","_law_k"] b2
 obtain⟨f24,d24,Dqa,_⟩:=jN X G a24 ["_law_state","_law_many"] b2
 obtain⟨f25,d25,Dqy,_⟩:=jN X G a25 ["_law_state","_law_bunches"] b2
 obtain⟨f26,d26,Dqz,_⟩:=jN X G a26 ["_law_state","_law_first"] b2
 obtain⟨f27,d27,Dqx,_⟩:=jN X G a27 ["_law_state"] b1
 obtain⟨f28,d28,Dzb,bl⟩:=jN X G a28 ["_law_script"] b1
 obtain⟨fm0,dm0,Dqm⟩:=nj m0 ["self","many","arcs"] b3
 obtain⟨fm1,dm1,Dqk⟩:=nj m1 ["self","tail","head","room"] b4
 obtain⟨fm2,dm2,Dq7⟩:=nj m2 ["self","source","sink"] b3
 obtain⟨fm3,dm3,Dql⟩:=nj m3 ["self","source","sink"] b3
 obtain⟨fm4,dm4,Dqh⟩:=nj m4 ["self","source"] b2
 obtain⟨fm5,dm5,Dq9⟩:=nj m5 ["self","trail"] b2
 obtain⟨fm6,dm6,Dq8⟩:=nj m6 ["self"] b1
 obtain⟨fm7,dm7,Dza⟩:=nj m7 ["self","source"] b2
 cases hfa.symm.trans Dzb.m
 refine⟨d28,fun s v=>bl s [v] rfl,fun base _ _=>?_⟩
 have C2:Cst2 mg ee1 ee2 ee3:=⟨cU X G nn_SOURCE,cU X G nn_SINK,cU X G nn_FIRST⟩
 have T:NetC K mg C_Net:=⟨⟨pgN,hdN,poN,saN⟩,n_ways_from,n_heads,n_rooms,cU X G aN⟩
 have MK:Mk K C_Net fm0:=⟨mkN,Dqm.m.at_,Dqm.m.fn,kcN⟩
 have Gqc:=GZ (P:=l.prog) (w:=w) (base:=base) B Dqc
 have Gqb:=HB (P:=l.prog) (w:=w) (base:=base) B Dqb
 have Gqd:=HW (P:=l.prog) (w:=w) (base:=base) B Dqd Dqb Gqb Dqc Gqc
 have Gqe:=HQ (P:=l.prog) (w:=w) (base:=base) B Dqe
 have Gqg:=F0 (P:=l.prog) (w:=w) (base:=base) B Dqg
 have Gq4:=HN (P:=l.prog) (w:=w) (base:=base) B C Dq4 Dqd Gqd
 have Gq5:=Ht (P:=l.prog) (w:=w) (base:=base) B Dq5 Dqd Gqd
 have Gq1:=HV (P:=l.prog) (w:=w) (base:=base) B C Dq1 Dqe Gqe Dq4 Gq4
 have Gq2:=HL (P:=l.prog) (w:=w) (base:=base) B C Dq2 Dqe Gqe Dq5 Gq5
 have Gqf:=HE (P:=l.prog) (w:=w) (base:=base) B Dqf Dqb Gqb Dq1 Gq1 Dq2 Gq2
 have Gqp:=FY (P:=l.prog) (w:=w) (base:=base) B Dqp
 have Gqn:=HS (P:=l.prog) (w:=w) (base:=base) B Dqn
 have Gqq:=HJ (P:=l.prog) (w:=w) (base:=base) B Dqq
 have Gqt:=HU (P:=l.prog) (w:=w) (base:=base) B Dqt C2
 have Gqj:=GB (P:=l.prog) (w:=w) (base:=base) B Dqj
 have Gqw:=Hk (P:=l.prog) (w:=w) (base:=base) B Dqw
 have Gqa:=G6 (P:=l.prog) (w:=w) (base:=base) B Dqa
 have Gqy:=Hs (P:=l.prog) (w:=w) (base:=base) B Dqy Dqa Gqa
 have Gqz:=G5 (P:=l.prog) (w:=w) (base:=base) B Dqz Dqa Gqa
 have Gqx:=Hl (P:=l.prog) (w:=w) (base:=base) B Dqx Dqa Gqa Dqy Gqy Dqz Gqz
 have GD_is_tuple_of:=HI (P:=l.prog) (w:=w) (base:=base) B Dqb
 have GD_is_pair_of_wholes:=HX (P:=l.prog) (w:=w) (base:=base) B Dqd Dqb GD_is_tuple_of Dqc Gqc
 have GI_marked:=Gz (P:=l.prog) (w:=w) (base:=base) B Dqg
 have Gqk:=GC (P:=l.prog) (w:=w) (base:=base) B Dqk T
 have Gqh:=F1 (P:=l.prog) (w:=w) (base:=base) B Dqh T
 have Gq9:=D4 (P:=l.prog) (w:=w) (base:=base) B Dq9 T
 have Gq8:=EZ (P:=l.prog) (w:=w) (base:=base) B Dq8 T
 have Gza:=HP (P:=l.prog) (w:=w) (base:=base) B Dza Dqh Gqh T
 have Gqu:=HK (P:=l.prog) (w:=w) (base:=base) B Dqu Dqd GD_is_pair_of_wholes
 have Gqv:=FZ (P:=l.prog) (w:=w) (base:=base) B Dqv Dqb GD_is_tuple_of Dqc Gqc
 have Gqr:=Hr (P:=l.prog) (w:=w) (base:=base) B Dqr Dqv Gqv Dqg Gqg Dqp Gqp
 have Gq3:=HM (P:=l.prog) (w:=w) (base:=base) B Dq3 Dqb GD_is_tuple_of Dqu Gqu Dqr Gqr Dqn Gqn
 have Gq0:=HD (P:=l.prog) (w:=w) (base:=base) B Dq0 Dqf Gqf Dq3 Gq3
 have Gqm:=D3 (P:=l.prog) (w:=w) (base:=base) B Dqm Dqk Gqk T
 have Gql:=G7 (P:=l.prog) (w:=w) (base:=base) B Dql Dqh Gqh T
 have Gqo:=GA (P:=l.prog) (w:=w) (base:=base) B Dqo Dqm Gqm T C2 MK
 have Gq7:=D2 (P:=l.prog) (w:=w) (base:=base) B Dq7 Dql Gql Dq9 Gq9 T
 have Gq6:=Hu (P:=l.prog) (w:=w) (base:=base) B Dq6 Dqo Gqo Dq7 Gq7 Dza Gza Dqg GI_marked Dqt Gqt Dq8 Gq8 Dqq Gqq T C2
 have Gqs:=Hj (P:=l.prog) (w:=w) (base:=base) B Dqs Dqf Gqf Dq6 Gq6
 exact Dl B Dzb Dqw Gqw Dqx Gqx Dqj Gqj Dqs Gqs Dq0 Gq0
theorem BM{l:PySem.W.OpenLaw}{q:Program}{loose:List Str}{XP:(Str->Option Value)->Heap->Prop}{YP:World->Heap->Prop}{d:DefRec}{K:Params->PySem.W.Frag}(hn:l.most=some 63)(hdf:d.params.defaults=[])
  (hY:∀(w:World) (h:Heap),YP w h->(K w.params).In h)
  (F:∀(w:World) (mg:Str->Option Value) (fa:Addr) (h:Heap),(K w.params).In h->h.Ns mainGlobals mg->mg d.name=some (.ref fa)->
   ∃fd:FuncData,(∀(s:Shared) (u:Value),BindsTo s fd ⟨[u],[]⟩ [("_law_script",u)])/\∀base:Heap,(K w.params).In base->base.Ns mainGlobals mg->FnOk l.prog w (K w.params) mg base iR 9 fa fd ["_law_script"] (ra (K w.params))):
  PySem.W.WalkO q loose XP YP l.row.toRowW d [] (fun f vs=>PySem.call f vs):=
 L2.zk (n:=63) (k:=9) (x:="_law_script") (CX:=fun _=>iR) (sp:=fun w=>ra (K w.params)) hn (by decide) hdf ⟨rfl,by decide,by decide,rfl⟩ hY F (fun _ _ a ns hl hO hS=>⟨a,ns,rfl,Scr.of hS hO,fun _=>rfl⟩) fun _ _ _ _ _ z=>z
end My
open PySem PySem.W PyProof.Rows
set_option maxRecDepth 100000 in
set_option maxHeartbeats 0 in
theorem PySem.Challenge.cw_touchall_k26_halves_of_bunches_holds : PySem.Challenge.rw_touchall_k26_halves_of_bunches.Holds := by
 refine MyHead ?_
 k_fill
 refine My.BM (l:=PySem.Challenge.rw_touchall_k26_halves_of_bunches) rfl rfl (fun w h Y=>PySem.W.kIn_of Y) ?F
 case F =>
  intro w mg fa h KX G hmg
  refine' My.IU KX G hmg ?_ ?_ ?_ ?_ ?_ ?_ ?_ ?_ ?_ ?_ ?_ ?_ ?_ ?_ ?_ ?_ ?_ ?_ ?_ ?_ ?_ ?_ ?_ ?_ ?_ ?_ ?_ ?_ ?_ ?_ ?_ ?_ ?_ ?_ ?_ ?_ ?_ ?_ ?_ ?_ ?_ ?_ ?_ ?_ ?_ ?_ ?_ ?_ ?_ ?_ ?_ ?_ ?_ ?_ ?_ ?_ ?_ ?_ ?_ ?_ ?_ ?_ ?_ ?_ ?_ ?_ ?_ ?_ ?_ ?_ ?_ ?_
  any_goals first | k_is | ((first | refine' My.dI ?_ ?_ ?_ ?_ | refine' My.mI ?_ ?_ ?_ ?_ ?_) <;> first | k_is | (delta My.aT; k_is) | (delta My.kT; k_is) | skip) | (delta My.aT; k_is) | (delta My.kT; k_is) | (delta My.zT; k_is) | kernel_rfl | rfl
#print axioms PySem.Challenge.cw_touchall_k26_halves_of_bunches_holds
