import PyProof.Rows.All
import Wide.All
import OpenK.AllK
import Wide.FinOn
import Lean
import PyProof.EqAt
import PyProof.EqKinds
import PyProof.TupleCall
import PyProof.NeKinds
import PyProof.NeData
import PySem.Challenge.RW_touchall_k31_told_chains
import PyProof.StationsW
import PyProof.ExcInit
import PyProof.InstStoreFacts
import PyProof.NsDelKeeps
import PyProof.RulesAs
import PyProof.ExcAttrAll.ValueError
import KE.KIsAll
import PyProof.AutoSeq1
import PyProof.Rows.SetFrom
import PyProof.SetRoads
import PyProof.Rows.SortRuns
import PyProof.Rows.SortShell
import KE.KSortTup
import PyProof.Rows.SumAny
import PyProof.DictWalks
import PyProof.DictUpdate
import KE.KDictList
section
open PySem PySem.W PyProof.Rows
set_option Elab.async false
set_option maxRecDepth 100000
set_option maxHeartbeats 0
namespace PySem.W.Fast
theorem tw9713411584729754176:True:=⟨⟩
theorem tw15175985003622655297:True:=⟨⟩
theorem tw14781562103584300300:True:=⟨⟩
theorem tw18004234820734870348:True:=⟨⟩
theorem tw16599119404929089777:True:=⟨⟩
theorem tw2641674147624346897:True:=⟨⟩
theorem tw9523907401933072244:True:=⟨⟩
theorem tw280475905095942100:True:=⟨⟩
theorem tw17883986908372840214:True:=⟨⟩
theorem tw3532348617687762170:True:=⟨⟩
theorem tw12741150589568328955:True:=⟨⟩
theorem tw6509818178443640315:True:=⟨⟩
theorem tw2394965854965877950:True:=⟨⟩
theorem tw9175961044122824137:True:=⟨⟩
theorem tw17937840454232152400:True:=⟨⟩
theorem tw749475842917359531:True:=⟨⟩
theorem tw13210472384168294381:True:=⟨⟩
theorem tw994784650385719441:True:=⟨⟩
theorem tw17481501184410151347:True:=⟨⟩
theorem tw17164885772072472456:True:=⟨⟩
theorem tw2220164997069877358:True:=⟨⟩
theorem tw15680639221432451046:True:=⟨⟩
theorem tw13746473478093034556:True:=⟨⟩
theorem tw4871235832867041519:True:=⟨⟩
theorem tw2299995472670780312:True:=⟨⟩
theorem tw974156796107087720:True:=⟨⟩
theorem tw4766716671846750097:True:=⟨⟩
theorem tw12485154272163604117:True:=⟨⟩
theorem tw13277132962383359998:True:=⟨⟩
theorem tw9762787882097571856:True:=⟨⟩
theorem tw17998473541372339751:True:=⟨⟩
theorem tw2994093840504715005:True:=⟨⟩
theorem tw14046072485561619853:True:=⟨⟩
theorem tw8513872578731894556:True:=⟨⟩
theorem tw16134669214637943945:True:=⟨⟩
theorem tw11033941645859556090:True:=⟨⟩
theorem tw4263479457205056145:True:=⟨⟩
theorem tw7862102932997402818:True:=⟨⟩
theorem tw14435066647053243028:True:=⟨⟩
theorem tw13478289464576461938:True:=⟨⟩
theorem tw15583159890976612112:True:=⟨⟩
theorem tw9211910785286423148:True:=⟨⟩
theorem tw2965769552864237175:True:=⟨⟩
theorem tw5193228197388695436:True:=⟨⟩
theorem tw12653114381597422123:True:=⟨⟩
theorem tw839797487601484142:True:=⟨⟩
theorem tw12343798008286848705:True:=⟨⟩
theorem tw1412105097100734851:True:=⟨⟩
theorem tw1104488647094209902:True:=⟨⟩
theorem tw1446046372975601066:True:=⟨⟩
theorem tw2232508010609702249:True:=⟨⟩
theorem tw12285054315132010732:True:=⟨⟩
theorem tw10913997214970868764:True:=⟨⟩
theorem tw11936626435949851141:True:=⟨⟩
theorem tw4269231566189308580:True:=⟨⟩
theorem tw5954876327221452193:True:=⟨⟩
theorem tw12855419698269193786:True:=⟨⟩
theorem tw17225890555602619104:True:=⟨⟩
theorem tw9580164878673987830:True:=⟨⟩
theorem tw8871029021759738552:True:=⟨⟩
theorem tw2363903611795592705:True:=⟨⟩
theorem tw1204304298147611602:True:=⟨⟩
theorem tw6584695149455985699:True:=⟨⟩
theorem tw10073281139201949855:True:=⟨⟩
theorem tw17784476363750532300:True:=⟨⟩
theorem tw9857830821546525648:True:=⟨⟩
theorem tw429126050991680652:True:=⟨⟩
theorem tw6145129637773361727:True:=⟨⟩
theorem tw1726813977947389158:True:=⟨⟩
theorem tw14819694531884392017:True:=⟨⟩
theorem tw8079341929624369548:True:=⟨⟩
theorem tw16770910964881924072:True:=⟨⟩
theorem tw8153494736163193282:True:=⟨⟩
theorem tw6513457511325554244:True:=⟨⟩
theorem tw13058793742947418118:True:=⟨⟩
theorem tw15335128613735910151:True:=⟨⟩
theorem tw1162147626044643054:True:=⟨⟩
theorem tw15514634696500728796:True:=⟨⟩
theorem tw12306747795182409104:True:=⟨⟩
theorem tw5860442181038395455:True:=⟨⟩
theorem tw14248016213943530440:True:=⟨⟩
theorem tw7492884703717757881:True:=⟨⟩
theorem tw5786271111882089314:True:=⟨⟩
theorem tw14172657290863477674:True:=⟨⟩
theorem tw17382730591349914884:True:=⟨⟩
theorem tw1718328181716237790:True:=⟨⟩
theorem tw9000492280638625789:True:=⟨⟩
theorem tw1349069014647357223:True:=⟨⟩
theorem tw9482120283554068594:True:=⟨⟩
theorem tw17790621613727568432:True:=⟨⟩
theorem tw1946033789281374818:True:=⟨⟩
theorem tw13651674943635200488:True:=⟨⟩
theorem tw3768600909522892029:True:=⟨⟩
theorem tw16595222665725666158:True:=⟨⟩
theorem tw11647574858823915943:True:=⟨⟩
theorem tw9202793077811905852:True:=⟨⟩
theorem tw4279476487421269338:True:=⟨⟩
theorem tw18435423981051818222:True:=⟨⟩
theorem tw11024633210396038669:True:=⟨⟩
theorem tw2198618278216875009:True:=⟨⟩
theorem tw15227233571305852144:True:=⟨⟩
theorem tw18111414595329612538:True:=⟨⟩
theorem tw17457086080872000736:True:=⟨⟩
theorem tw15500006721023040547:True:=⟨⟩
theorem tw17670709185726934248:True:=⟨⟩
theorem tw6730875953044847916:True:=⟨⟩
theorem tw15361482211156371885:True:=⟨⟩
theorem tw11669262180485523366:True:=⟨⟩
theorem tw2269460933442521542:True:=⟨⟩
theorem tw3386007157573418628:True:=⟨⟩
theorem tw6521518918535766600:True:=⟨⟩
theorem tw17948796234568494333:True:=⟨⟩
theorem tw13557064101490781197:True:=⟨⟩
theorem tw420471366415179010:True:=⟨⟩
theorem tw9619610745294895768:True:=⟨⟩
theorem tw18053077524576164845:True:=⟨⟩
theorem tw850951039455432525:True:=⟨⟩
theorem tw2962389570615649833:True:=⟨⟩
theorem tw7552589387619456655:True:=⟨⟩
theorem tw4463166748007049108:True:=⟨⟩
theorem tw4419083898468804903:True:=⟨⟩
theorem tw12981107023279619863:True:=⟨⟩
theorem tw13569509383360899128:True:=⟨⟩
theorem tw17341298701788093120:True:=⟨⟩
theorem tw360715681367275602:True:=⟨⟩
theorem tw1292984125890801270:True:=⟨⟩
theorem tw1623218935358935076:True:=⟨⟩
theorem tw1118109838406661019:True:=⟨⟩
theorem tw12010976375034376571:True:=⟨⟩
theorem tw7761872477267044100:True:=⟨⟩
theorem tw563053371679183329:True:=⟨⟩
theorem tw3251091792226649815:True:=⟨⟩
theorem tw15693294657385995021:True:=⟨⟩
theorem tw10661231254371446707:True:=⟨⟩
theorem tw5061831166103267206:True:=⟨⟩
theorem tw5729796969671028974:True:=⟨⟩
theorem tw15118457964073289629:True:=⟨⟩
theorem tw8212859607379937844:True:=⟨⟩
theorem tw12299380988638202590:True:=⟨⟩
theorem tw8898292398566908254:True:=⟨⟩
theorem tw4014273260406839204:True:=⟨⟩
theorem tw12838189731587688999:True:=⟨⟩
theorem tw16539750171811967457:True:=⟨⟩
theorem tw4943674162513202160:True:=⟨⟩
theorem tw11906391868283360964:True:=⟨⟩
theorem tw13149991164589372472:True:=⟨⟩
theorem tw5140643216894729713:True:=⟨⟩
theorem tw18438347639502009901:True:=⟨⟩
theorem tw1459643596898847606:True:=⟨⟩
theorem tw5101450760185418553:True:=⟨⟩
theorem tw5099301408519554050:True:=⟨⟩
theorem tw16690788079638538773:True:=⟨⟩
theorem tw14100869705339816407:True:=⟨⟩
theorem tw12021910400016799448:True:=⟨⟩
theorem tw9562907100761335393:True:=⟨⟩
theorem tw5774174942400694725:True:=⟨⟩
theorem tw16409236330492884371:True:=⟨⟩
theorem tw17699127499869388257:True:=⟨⟩
theorem tw14982153563136074336:True:=⟨⟩
theorem tw6822298609184292527:True:=⟨⟩
theorem tw12832714438019067581:True:=⟨⟩
theorem tw13777678184960627923:True:=⟨⟩
theorem tw14508702681240927338:True:=⟨⟩
theorem tw13422686555198387815:True:=⟨⟩
theorem tw7596331427218883981:True:=⟨⟩
theorem tw11930511757121121756:True:=⟨⟩
theorem tw577511202878901248:True:=⟨⟩
theorem tw17899455434026235383:True:=⟨⟩
theorem tw14756317111538670632:True:=⟨⟩
theorem tw1104458783644820503:True:=⟨⟩
theorem tw4128578146920847476:True:=⟨⟩
theorem tw1103776672011430090:True:=⟨⟩
theorem tw9307431955463701274:True:=⟨⟩
theorem tw16255763314203305198:True:=⟨⟩
theorem tw13918767385064653732:True:=⟨⟩
theorem tw18415491594491465074:True:=⟨⟩
theorem tw17426358754788277328:True:=⟨⟩
theorem tw18366049866466480393:True:=⟨⟩
theorem tw16435145116260540403:True:=⟨⟩
theorem tw17748890715401807743:True:=⟨⟩
theorem tw17507916543043632276:True:=⟨⟩
theorem tw1254726082602250670:True:=⟨⟩
theorem tw600212407440205806:True:=⟨⟩
theorem tw3333966505458403725:True:=⟨⟩
theorem tw2204380585850004632:True:=⟨⟩
theorem tw11867328985658093342:True:=⟨⟩
theorem tw5202776660221476824:True:=⟨⟩
theorem tw8802154206927592950:True:=⟨⟩
theorem tw18412816545115006207:True:=⟨⟩
theorem tw9016929935483840578:True:=⟨⟩
theorem tw6590878139351659348:True:=⟨⟩
theorem tw12992367483169920845:True:=⟨⟩
theorem tw2807939160141173056:True:=⟨⟩
theorem tw18051402899012708777:True:=⟨⟩
theorem tw9578137325174995177:True:=⟨⟩
theorem tw17478704713776998801:True:=⟨⟩
theorem tw5799083521025948683:True:=⟨⟩
theorem tw13810174693335883931:True:=⟨⟩
theorem tw9197129900319299892:True:=⟨⟩
theorem tw7853399458379906777:True:=⟨⟩
theorem tw3421753523302657214:True:=⟨⟩
theorem tw14079483211463739728:True:=⟨⟩
end PySem.W.Fast
open_top MyHead for PySem.Challenge.rw_touchall_k31_told_chains
end
-- CHANGE: your row's module here, as the last of these rows
noncomputable section
def aa:=@List.length_map
def ae:=@PySem.wpAny_bind
def af:=@decide_eq_true
def ag:=@PySem.Heap.get?_push_of_some
def ah:=@List.map_append
def ai:=@List.map_cons
def ao:=@PySem.Paired.length
def aq:=@List.getElem?_eq_some_iff
def au:=@Nat.lt_of_succ_lt
def av:=@List.mem_map
def az:=@decide_eq_false
def aA:=@List.mem_of_getElem?
def aC:=@List.size_toArray
def aD:=@Option.some.inj
def aE:=@if_neg
def aF:=@Nat.le_refl
def aG:=@List.take_length
def aH:=@if_pos
def aI:=@PySem.wpAny_pure
def aJ:=@List.getElem?_map
def aK:=@List.length_append
def aL:=@PySem.Heap.lt_size
def aM:=@Bool.false_eq_true
def aO:=@List.length_take
def aP:=@List.mem_cons_of_mem
def aQ:=@PySem.Heap.get?_push_size
def aR:=@List.mem_cons
def aS:=@PyProof.Rows.boot_isinstance
def aU:=@List.mem_singleton
def aV:=@List.getD_eq_getElem?_getD
def aW:=@Bool.false_ne_true
def aY:=@PySem.F.plainAttrs_list
def aZ:=@List.mem_cons_self
def ba:=@PySem.PassesOwn.never
def bb:=@List.append_nil
def bf:=@List.append_assoc
def bg:=@PySem.F.type_list_append
def bh:=@PySem.F.slot_list_append
def bj:=@Nat.ne_of_lt
def bo:=@Bool.and_eq_true
def bp:=@of_decide_eq_true
def bq:=@List.mem_iff_getElem
def br:=@Nat.le_trans
def bu:=@PySem.boot_len
def bw:=@List.map_map
def bx:=@List.getElem?_append_left
def bz:=@List.mem_append
def bC:=@PySem.W.mg_none_of
def bD:=@Nat.lt_of_lt_of_le
def bE:=@decide_eq_true_eq
def bF:=@List.getElem?_eq_none
def bG:=@List.mem_filter
def bH:=@PyProof.Rows.boot_list
def bI:=@List.mem_range
def bJ:=@List.map_nil
def bK:=@List.mem_append_right
def bL:=@Sum.inl.inj
def bM:=@Nat.zero_le
def bN:=@Bool.not_true
def bO:=@List.nodup_cons
def bP:=@Bool.eq_iff_iff
def bQ:=@PySem.F.plain_min_loop
def bR:=@PySem.Heap.get?_update_other
def bS:=@List.length_filter_le
def bU:=@List.length_range
def bV:=@congrArg
def bY:=@PySem.wpAny_seqItems
def bZ:=@List.range_succ
def cf:=@List.getElem_mem
def cg:=@List.mem_map_of_mem
def cj:=@PySem.wpAny_truthy_bool
def cn:=@List.filter_append
def cu:=@Bool.true_and
def cz:=@beq_eq_false_iff_ne
def cA:=@PySem.mem_of_lookup
def cC:=@decide_true
def cD:=@Option.some.injEq
def cE:=@Int.le_refl
def cF:=@PySem.W.kia_one
def cG:=@List.sum_append
def cH:=@PySem.wpAny_field
def cI:=@PyProof.Rows.boot_tuple
def cJ:=@List.pairwise_append
def cK:=@PySem.Around.under_plainId
def cL:=@PyProof.Rows.callWith_type1
def cM:=@PySem.wpAny_holding
def cN:=@Nat.lt_irrefl
def cO:=@PySem.wpAny_newObj_type
def cP:=@PyProof.Rows.boot_dict
def cQ:=@List.getElem?_append_right
def cR:=@Bool.false_and
def cS:=@Ne.symm
def cT:=@List.filter_cons
def cV:=@List.all_eq_true
def cW:=@PySem.W.mg_of
def cY:=@List.take_of_length_le
def cZ:=@PySem.plainId_quiet
def c6:=@PySem.F.slot_dict_get
def c7:=@PySem.Heap.get?_update_self
def de:=@PySem.codeAny_builtin
def df:=@List.pairwise_map
def dg:=@List.mem_append_left
def dh:=@Int.mul_comm
def dj:=@PyProof.Rows.boot_sorted
def dk:=@PySem.wpAny_tryCatch
def dq:=@PySem.wpAny_callSpecial?_slot
def du:=@Bool.not_false
def dw:=@PySem.wpAny_setField_rec
def dy:=@PySem.wpAny_mono
def dA:=@PySem.wpAny_Call_Name_kw
def dC:=@PySem.tupleKind_room_in1
def dD:=@Nat.ne_of_gt
def dE:=@List.drop_eq_nil_of_le
def dF:=@PySem.Calls.callWith_builtin
def dG:=@PySem.wpAny_passesOwn
def dH:=@PyProof.Rows.boot_sum
def dJ:=@Nat.le_of_ble_eq_true
def dM:=@PySem.wpAny_pyIter_list
def dP:=@Option.isSome_map
def dQ:=@Nat.lt_succ_of_lt
def dR:=@PySem.Heap.size_push
def dU:=@PySem.F.slot_tuple_iterator_next
def dW:=@Bool.and_eq_true_iff
def dX:=@PySem.wpAny_call_entry
def dY:=@decide_false
def dZ:=@List.any_eq_true
def eC:=@List.pairwise_iff_getElem
def eD:=@List.filter_sublist
def eE:=@Option.isSome_iff_exists
def eF:=@PySem.F.slot_list_getattribute
def eG:=@List.length_set
def eI:=@PySem.Calls.spliced_cons
def eJ:=@Int.mul_add
def eK:=@PySem.wpAny_typeOf
def eM:=@PySem.F.entry_min_loop
def eO:=@PySem.F.entry_dict_get
def eP:=@Option.map_eq_some_iff
def eQ:=@List.nodup_append
def eS:=@List.ext_getElem?
def eT:=@Int.zero_add
def eU:=@Int.add_zero
def eX:=@Bool.eq_false_iff
def eY:=@PyProof.Rows.slot_tuple_getitem
def eZ:=@PyProof.Rows.boot_all
def fb:=@List.perm_append_comm
def fc:=@PySem.wpAny_rule
def fe:=@List.not_mem_nil
def ff:=@List.mem_flatMap
def fg:=@List.length_drop
def fh:=@Bool.and_self
def fj:=@PySem.wpAny_letGo
def fk:=@Nat.le_succ
def fm:=@List.map_congr_left
def fo:=@List.getElem?_range
def fq:=@Int.mul_zero
def fu:=@List.nodup_nil
def fw:=@List.drop_zero
def fA:=@Int.emod_lt_of_pos
def fD:=@Bool.and_false
def fE:=@List.drop_eq_getElem_cons
def fF:=@Classical.byContradiction
def fG:=@PySem.wpAny_of_eq
def fH:=@Nat.lt_succ_iff_lt_or_eq
def fJ:=@decide_eq_false_iff_not
def fK:=@PySem.F.plainAttrs_dict
def fL:=@Nat.min_le_right
def fM:=@Nat.le_add_right
def fN:=@List.getElem_inj
def fO:=@PySem.wpAny_pyNext_list_item
def fP:=@PySem.call_meetsIn
def fQ:=@Nat.le_of_lt
def fS:=@List.all_map
def fT:=@PySem.wpAny_updateSeq
def fU:=@PySem.wpAny_loadPart'
def fV:=@PySem.wpAny_execs_nil
def fW:=@Int.emod_nonneg
def fX:=@PySem.F.slot_zip_next
def fY:=@PySem.wpAny_pyNext_list_end
def fZ:=@PySem.wpAny_isTrue_Compare1
def gb:=@PyProof.Rows.boot_min
def gf:=@PyProof.Rows.boot_int
def gg:=@List.mem_iff_getElem?
def gh:=@List.Perm.append_left
def gm:=@PySem.wpAny_updateSeq_pair
def gp:=@PySem.Calls.evalArgs_plain
def gq:=@PySem.W.plainGet_of
def gr:=@List.flatMap_append
def gu:=@PySem.wpAny_standAt
def gv:=@PySem.wpAny_onRaise
def gw:=@Bool.and_true
def gA:=@PySem.wpAny_pyIter_tuple
def gB:=@PyProof.Rows.size_push'
def gC:=@beq_iff_eq
def gD:=@PySem.SeqAt.EqAt.int_int
def gF:=@PySem.W.callWith_K
def gG:=@Nat.lt_of_le_of_lt
def gH:=@Int.natCast_nonneg
def gI:=@PySem.slot_list_getitem
def gJ:=@eq_false
def gK:=@PySem.codeAny_mono
def gL:=@Prod.ext
def gM:=@List.find?_isSome
def gN:=@PySem.Calls.spliced_nil
def gO:=@PySem.wpAny_isInstance
def gP:=@Nat.succ_ne_self
def gQ:=@Nat.lt_succ_self
def gR:=@List.Sublist.map
def gS:=@PySem.F.slot_list_iadd
def gT:=@PySem.sizeLine_eq
def gU:=@PySem.seqIndex_of
def gW:=@beq_false_of_ne
def gX:=@PySem.SeqAt.EqAt.same
def gY:=@Nat.min_le_left
def gZ:=@List.of_mem_zip
def g0:=@List.forIn_cons
def g6:=@PySem.F.args_tuple_iterator_next_1
def g9:=@Bool.or_eq_true
def hG:=@PySem.F.entry_tuple_iterator_next
def hJ:=@or_false
def hU:=@PyProof.Rows.Subscript_
def hV:=@Int.mul_nonneg
def hX:=@Int.fdiv_eq_ediv_of_nonneg
def hZ:=@PySem.Calls.Name_function_global
set_option Elab.async false
set_option linter.all false
set_option maxRecDepth 100000
theorem gE{α:Type}{l:List α}{i:Nat}(h:i<l.length):l[i]? =some l[i]:=List.getElem?_eq_getElem h
namespace L2
open PySem PySem.Spec PyProof.Rows
abbrev ij:=Sum Int Str
noncomputable def oq:ij->Value->Bool
 | .inl k,v=>Value.isInt k v
 | .inr x,v=>Value.isStrOf x v
def EK(w:World):ij->Int
 | .inl k=>hashInt k
 | .inr x=>hashStr w x
theorem mN:∀{k:ij} {v:Value},oq k v=true->(∃i t,k=Sum.inl i/\v=Value.int i t)\/(∃x t,k=Sum.inr x/\v=Value.str x t)
 | .inl i,v,h=>by
  obtain⟨t,e⟩:=Value.isInt_shape (k:=i) (v:=v) h
  exact .inl ⟨i,t,rfl,e⟩
 | .inr x,v,h=>by
  obtain⟨t,e⟩:=Value.isStrOf_shape (x:=x) (v:=v) h
  exact .inr ⟨x,t,rfl,e⟩
theorem GN(i:Int)(t:Tok):oq (.inl i) (.int i t)=true:=by simp[oq,Value.isInt]
theorem GO(x:Str)(t:Tok):oq (.inr x) (.str x t)=true:=by simp[oq,Value.isStrOf]
theorem EJ(a b:Int):decide ((Sum.inl a:ij)=Sum.inl b)=(a==b):=by
 by_cases e:a=b
 ·subst e;simp
 ·have h:¬(Sum.inl a:ij)=Sum.inl b:=fun q=>e (bL q)
  rw[az h]
  exact(cz.mpr e).symm
theorem EG(a b:Str):decide ((Sum.inr a:ij)=Sum.inr b)=decide (a=b):=by
 by_cases e:a=b
 ·subst e;simp
 ·have h:¬(Sum.inr a:ij)=Sum.inr b:=fun q=>e (Sum.inr.inj q)
  rw[az h,az e]
theorem EI(a:Int)(b:Str):decide ((Sum.inl a:ij)=Sum.inr b)=false:=az (fun q=>nomatch q)
theorem EH(a:Str)(b:Int):decide ((Sum.inr a:ij)=Sum.inl b)=false:=az (fun q=>nomatch q)
noncomputable def jY(prog:Program)(w:World):PySem.KeyKind prog w ij where
 is:=oq
 hash:=EK w
 inj:=fun v a b ha hb=>by
  rcases mN ha with⟨i,t,rfl,rfl⟩|⟨x,t,rfl,rfl⟩
  ·rcases mN hb with⟨j,u,rfl,e⟩|⟨y,u,rfl,e⟩
   ·injection e with e1 _;rw[e1]
   ·exact nomatch e
  ·rcases mN hb with⟨j,u,rfl,e⟩|⟨y,u,rfl,e⟩
   ·exact nomatch e
   ·injection e with e1 _;rw[e1]
 byValue:=fun k v h=>by
  rcases mN h with⟨i,t,rfl,rfl⟩|⟨x,t,rfl,rfl⟩<;>rfl
 pyHash:=fun hv h=>by
  rcases mN hv with⟨i,t,rfl,rfl⟩|⟨x,t,rfl,rfl⟩
  ·exact wpAny_pyHash_int h
  ·exact wpAny_pyHash_str h
 eqBool:=fun hu hv h=>by
  rcases mN hu with⟨i,t,rfl,rfl⟩|⟨x,t,rfl,rfl⟩
  ·rcases mN hv with⟨j,u,rfl,rfl⟩|⟨y,u,rfl,rfl⟩
   ·rw[EJ]at h;exact wpAny_eqBool_int h
   ·rw[EI]at h;exact SeqAt.EqAt.int_str i t y u _ _ _ _ h
  ·rcases mN hv with⟨j,u,rfl,rfl⟩|⟨y,u,rfl,rfl⟩
   ·rw[EH]at h;exact SeqAt.EqAt.str_int x t j u _ _ _ _ h
   ·rw[EG]at h;exact wpAny_eqBool_str h
 «strs»:=fun k x t v h=>by
  rcases mN h with⟨i,u,rfl,e⟩|⟨y,u,rfl,e⟩
  ·exact nomatch e
  ·injection e with e1 _
   subst e1
   cases v<;>rfl
theorem IC(prog:Program)(w:World)(i:Int)(t:Tok):(jY prog w).is (.inl i) (.int i t)=true:=GN i t
theorem ID(prog:Program)(w:World)(x:Str)(t:Tok):(jY prog w).is (.inr x) (.str x t)=true:=GO x t
inductive V where
 |non|bl (b:Bool)|int (i:Int)|str (x:Str)|byt (b:Array UInt8)|flt (b:UInt64)|ref (a:Addr)|ty (n:String)
 deriving DecidableEq
def RelV:V->Value->Prop
 | .non,u=>u=Value.none
 | .bl b,u=>u=Value.bool b
 | .int i,u=>∃t,u=Value.int i t
 | .str x,u=>∃t,u=Value.str x t
 | .byt b,u=>∃t,u=Value.bytes b t
 | .flt b,u=>∃t,u=Value.float b t
 | .ref a,u=>u=Value.ref a
 | .ty n,u=>u=Value.type n
abbrev Vals:List V->List Value->Prop:=Paired RelV
theorem Vals.length{xs:List V}{us:List Value}(r:Vals xs us):xs.length=us.length:=ao r
theorem Vals.get:∀{xs:List V} {us:List Value} {i:Nat} {x:V},Vals xs us->xs[i]? =some x->∃u,us[i]? =some u/\RelV x u
 |_,_,_,_,.nil,e=>by simp at e
 |_,_,0,_,.cons r _,e=>by simp at e;subst e;exact⟨_,rfl,r⟩
 |_,_,i+1,x,.cons _ t,e=>by
  obtain⟨u,h1,h2⟩:=Vals.get (i:=i) (x:=x) t (by simpa using e)
  exact⟨u,by simpa using h1,h2⟩
theorem Vals.set{x:V}{u:Value}(r:RelV x u):∀{xs:List V} {us:List Value} (i:Nat),Vals xs us->Vals (xs.set i x) (us.set i u)
 |_,_,_,.nil=>.nil
 |_,_,0,.cons _ t=>.cons r t
 |_,_,i+1,.cons q t=>.cons q (Vals.set r i t)
theorem Vals.append:∀{xs ys:List V} {us ws:List Value},Vals xs us->Vals ys ws->Vals (xs++ys) (us++ws)
 |_,_,_,_,.nil,s=>s
 |_,_,_,_,.cons r t,s=>.cons r (Vals.append t s)
theorem Vals.take:∀{xs:List V} {us:List Value} (n:Nat),Vals xs us->Vals (xs.take n) (us.take n)
 |_,_,0,_=>.nil
 |_,_,_+1,.nil=>.nil
 |_,_,n+1,.cons r t=>.cons r (Vals.take n t)
theorem Vals.drop:∀{xs:List V} {us:List Value} (n:Nat),Vals xs us->Vals (xs.drop n) (us.drop n)
 |_,_,0,r=>r
 |_,_,_+1,.nil=>.nil
 |_,_,n+1,.cons _ t=>Vals.drop n t
def RelO:Option V->Option Value->Prop
 |some v,some u=>RelV v u
 |none,none=>True
 |_,_=>False
def KV{κ:Type}:List (κ×V)->List (κ×Value)->Prop:=Paired fun(p:κ×V) (q:κ×Value)=>p.1=q.1/\RelV p.2 q.2
noncomputable def kV:ij->V
 | .inl i=>.int i
 | .inr x=>.str x
inductive HO where
 |lst (xs:List V)
 |tup (xs:List V)
 |dK (kvs:List (ij×V))|dT (kvs:List (List ij×V))
 |set (S:Int->Bool) (n:Nat)
 |ins (C dx:Addr) (fs:List (Str×V))
 |own (x:Addr)
 |xd (fs:List (Str×V))
 |met (f x:Addr)
 |rng (lo hi:Int)
 |frz (o:Obj) (u:HO)
 |tbl (ps:Array Value)
 |ext (φ:Heap->Prop)
abbrev Hp:=Addr->Option HO
noncomputable def upd(H:Hp)(a:Addr)(o:HO):Hp:=fun b=>if b=a then some o else H b
theorem ie{H:Hp}{a:Addr}{o:HO}:upd H a o a=some o:=by unfold upd;rw[aH rfl]
theorem ix{H:Hp}{a b:Addr}{o:HO}(h:b≠a):upd H a o b=H b:=by unfold upd;rw[aE h]
theorem Aq{H:Hp}{a:Addr}{o u:HO}:upd (upd H a o) a u=upd H a u:=by
 funext b;unfold upd;split<;>rfl
theorem ow{H:Hp}{a b:Addr}{o u:HO}(h:H a=some o)(h':H b=some u)(d:o≠u):a≠b:=by
 intro e;subst e;rw[h]at h';exact d (aD h')
theorem iI{H:Hp}{a b:Addr}{o:HO}(h:H a=some o)(h':H b=none):a≠b:=by
 intro e;subst e;rw[h]at h';cases h'
section
variable(P:Program)(w:World)
def jc7(H:Hp)(h:Heap)(a:Addr):HO->Prop
 | .lst xs=>xs.length<=sizeLine/\∃(its:List Value) (n:Nat),Vals xs its/\h.get? a=some {cls:=.type "list",data:=.seq its.toArray n}
 | .tup xs=>xs.length<=sizeLine/\∃its:List Value,Vals xs its/\IsTup h a its.toArray
 | .dK kvs=>kvs.length<=sizeLine/\(a==sysModules)=false/\∃vs,KV kvs vs/\h.DictOf (jY P w) a vs
 | .dT kvs=>kvs.length<=sizeLine/\(a==sysModules)=false/\∃xs:List (List ij×Addr×Value),
   Paired (fun(p:List ij×V) (q:List ij×Addr×Value)=>p.1=q.1/\H q.2.1=some (.tup (p.1.map kV))/\RelV p.2 q.2.2) kvs xs/\
   ∃o es ep,h.get? a=some o/\o.ExactDict/\o.data= .dict es ep/\es.toList=xs.map (entryOfKey (tupleKind (jY P w)))/\(xs.map (·.1)).Nodup
 | .set S n=>h.SetOf (intKind P w) a S n
 | .ins C dx fs=>H dx=some (.own a)/\fs.length<=1000/\dx≠a/\h.get? a=some (PySem.W.instObj C dx)/\
   ∃mA,h.Ns1 dx mA/\(∀f,RelO (fs.lookup f) (mA f))/\PySem.Within mA (fs.map (·.1))
 | .own _=>∃o,h.get? a=some o
 | .xd fs=>∃mA,h.Ns1 a mA/\∀f,RelO (fs.lookup f) (mA f)
 | .rng lo hi=>∃t u v,h.get? a=some {cls:=.type "range",data:=.fields #[.int lo t,.int hi u,.int 1 v]}
 | .frz o u=>h.get? a=some o/\jc7 H h a u
 | .tbl ps=>h.get? a=some {cls:=.none,data:=.fields ps}
 | .met f x=>h.get? a=some (PySem.W.methodObj (.ref f) (.ref x))
 | .ext φ=>φ h/\(∃o,h.get? a=some o)/\∀h1 h2:Heap,φ h1->(∀o,h1.get? a=some o->h2.get? a=some o)->φ h2
def HOk(H:Hp)(h:Heap):Prop:=∀a o,H a=some o->jc7 P w H h a o
end
section
variable{P:Program}{w:World}{H H':Hp}{h h':Heap}{a:Addr}{o:HO}
theorem jc7.lt(x:jc7 P w H h a o):a<h.objs.size:=by
 cases o with
 |lst xs=>obtain⟨_,_,_,_,e⟩:=x;exact aL e
 |tup xs=>obtain⟨_,_,_,p⟩:=x;exact p.lt
 |dK kvs=>obtain⟨_,_,_,_,o,_,_,e,_⟩:=x;exact aL e
 |dT kvs=>obtain⟨_,_,_,_,o,_,_,e,_⟩:=x;exact aL e
 |set S n=>obtain⟨o,_,_,_,e,_⟩:=x;exact aL e
 |ins C dx fs=>obtain⟨_,_,_,e,_⟩:=x;exact aL e
 |own y=>obtain⟨_,e⟩:=x;exact aL e
 |xd fs=>obtain⟨_,⟨_,_,_,e,_⟩,_⟩:=x;exact aL e
 |rng lo hi=>obtain⟨_,_,_,e⟩:=x;exact aL e
 |frz ob u=>obtain⟨e,_⟩:=x;exact aL e
 |tbl ps=>exact aL (show h.get? a=some _ from x)
 |met f y=>exact aL (show h.get? a=some _ from x)
 |ext φ=>obtain⟨_,⟨_,e⟩,_⟩:=x;exact aL e
theorem Paired.mapP{α β:Type}{F G:α->β->Prop}:∀{l₁:List α} {l₂:List β},Paired F l₁ l₂->(∀a b,F a b->G a b)->Paired G l₁ l₂
 |_,_,.nil,_=>.nil
 |_,_,.cons r t,f=>.cons (f _ _ r) (Paired.mapP t f)
theorem jc7.stay(x:jc7 P w H h a o)(k:∀b u,(b=a\/H b=some (.own a))->h.get? b=some u->h'.get? b=some u)
  (ho:∀b,H b=some (.own a)->H' b=some (.own a)) (ht:∀b xs,H b=some (.tup xs)->H' b=some (.tup xs)):jc7 P w H' h' a o:=by
 induction o with
 |lst xs=>obtain⟨z,its,n,r,e⟩:=x;exact⟨z,its,n,r,k _ _ (.inl rfl) e⟩
 |tup xs=>obtain⟨z,its,r,ob,e,c⟩:=x;exact⟨z,its,r,ob,k _ _ (.inl rfl) e,c⟩
 |dK kvs=>obtain⟨z,y,vs,r,ob,es,ep,e,c⟩:=x;exact⟨z,y,vs,r,ob,es,ep,k _ _ (.inl rfl) e,c⟩
 |dT kvs=>
  obtain⟨z,y,xs,r,ob,es,ep,e,c⟩:=x
  exact⟨z,y,xs,Paired.mapP r fun p q z=>⟨z.1,ht _ _ z.2.1,z.2.2⟩,ob,es,ep,k _ _ (.inl rfl) e,c⟩
 |set S n=>obtain⟨ob,es,ep,t,e,c⟩:=x;exact⟨ob,es,ep,t,k _ _ (.inl rfl) e,c⟩
 |ins C dx fs=>
  obtain⟨d,z,ne,e,mA,⟨od,es,ep,e2,c⟩,r⟩:=x
  exact⟨ho _ d,z,ne,k _ _ (.inl rfl) e,mA,⟨od,es,ep,k _ _ (.inr d) e2,c⟩,r⟩
 |own y=>obtain⟨ob,e⟩:=x;exact⟨ob,k _ _ (.inl rfl) e⟩
 |xd fs=>obtain⟨mA,⟨od,es,ep,e,c⟩,r⟩:=x;exact⟨mA,⟨od,es,ep,k _ _ (.inl rfl) e,c⟩,r⟩
 |rng lo hi=>obtain⟨t,u,v,e⟩:=x;exact⟨t,u,v,k _ _ (.inl rfl) e⟩
 |frz ob u ih=>obtain⟨e,q⟩:=x;exact⟨k _ _ (.inl rfl) e,ih q⟩
 |tbl ps=>
  have e:h.get? a=some {cls:=.none,data:=.fields ps}:=x
  show h'.get? a=some {cls:=.none,data:=.fields ps}
  exact k a _ (.inl rfl) e
 |met f y=>
  have e:h.get? a=some (PySem.W.methodObj (.ref f) (.ref y)):=x
  show h'.get? a=some (PySem.W.methodObj (.ref f) (.ref y))
  exact k a _ (.inl rfl) e
 |ext φ=>obtain⟨p,⟨o,e⟩,st⟩:=x;exact⟨st _ _ p fun o q=>k _ _ (.inl rfl) q,⟨o,k _ _ (.inl rfl) e⟩,st⟩
theorem HOk.lt(x:HOk P w H h)(e:H a=some o):a<h.objs.size:=(x a o e).lt
theorem HOk.fresh(x:HOk P w H h)(e:h.objs.size<=a):H a=none:=by
 cases q:H a with
 |none=>rfl
 |some u=>exact absurd (bD (x.lt q) e) (cN _)
theorem HOk.kept(x:HOk P w H h)(k:∀b u,h.get? b=some u->h'.get? b=some u):HOk P w H h':=fun a o e=>
 (x a o e).stay (fun b u _ q=>k b u q) (fun _ q=>q) fun _ _ q=>q
theorem HOk.laid(x:HOk P w H h)(k:∀b u,h.get? b=some u->h'.get? b=some u)(hp:h.objs.size<=a)(new:jc7 P w (upd H a o) h' a o):HOk P w (upd H a o) h':=fun b u e=>by
 have hn:=x.fresh hp
 by_cases hb:b=a
 ·subst hb;rw[ie]at e;cases e;exact new
 ·rw[ix hb]at e
  exact(x b u e).stay (fun c v _ q=>k c v q) (fun c q=>by rw[ix (iI q hn)];exact q) fun c xs q=>by rw[ix (iI q hn)];exact q
end
def Rd(H:Hp)(a:Addr)(u:HO):Prop:=H a=some u\/∃o,H a=some (.frz o u)
theorem Rd.of{H:Hp}{a:Addr}{u:HO}(h:H a=some u):Rd H a u:=.inl h
theorem Rd.ok{P:Program}{w:World}{H:Hp}{h:Heap}{a:Addr}{u:HO}(r:Rd H a u)(x:HOk P w H h):jc7 P w H h a u:=by
 rcases r with r|⟨o,r⟩
 ·exact x a u r
 ·obtain⟨_,q⟩:=x a _ r
  exact q
def rb:Option HO->Prop
 |some (.lst _)=>True
 |some (.dK _)=>True
 |some (.dT _)=>True
 |some (.set _ _)=>True
 |some (.ins _ _ _)=>True
 |some (.ext _)=>True
 |_=>False
section
variable{P:Program}{w:World}{H:Hp}{h h':Heap}{x e:Addr}{o':HO}
theorem HOk.write(ok:HOk P w H h)(mu:rb (H x))(he:e=x\/H e=some (.own x))(k:∀b u,b≠e->h.get? b=some u->h'.get? b=some u)(heo:∃u,h'.get? e=some u)
  (new:jc7 P w (upd H x o') h' x o'):HOk P w (upd H x o') h':=fun b u q=>by
 have nown:∀c y,H c=some (.own y)->c≠x:=fun c y r z=>by subst z;rw[r]at mu;exact mu
 have ntup:∀c xs,H c=some (.tup xs)->c≠x:=fun c xs r z=>by subst z;rw[r]at mu;exact mu
 by_cases hb:b=x
 ·subst hb;rw[ie]at q;cases q;exact new
 ·rw[ix hb]at q
  by_cases hbe:b=e
  ·have q':H b=some (.own x):=by
    rcases he with z|z
    ·exact absurd (hbe.trans z) hb
    ·rw[hbe];exact z
   rw[q]at q';cases q'
   obtain⟨v,hv⟩:=heo
   exact⟨v,by rw[hbe];exact hv⟩
  ·refine(ok b u q).stay (fun c v hc r=>k c v ?_ r) (fun c r=>by rw[ix (nown c b r)];exact r) fun c xs r=>by rw[ix (ntup c xs r)];exact r
   rcases hc with rfl|hc
   ·exact hbe
   ·rintro rfl
    rcases he with z|z
    ·exact nown c b hc z
    ·rw[hc]at z;cases z;exact hb rfl
end
structure Un(fs ex:List Addr)(H H':Hp)(h h':Heap):Prop where
 keep:∀b o,h.get? b=some o->H b=none->b∉fs->b∉ex->h'.get? b=some o
 slot:∀b o,h.get? b=some o->H b=none->b∈fs->b∉ex->∃sl,h'.get? b=some {o with slots:=sl}
 free:∀b o,h.get? b=some o->H b=none->b∉ex->H' b=none
 there:∀b o,h.get? b=some o->b∉ex->∃o',h'.get? b=some o'
 tups:∀b xs,H b=some (.tup xs)->H' b=some (.tup xs)
 frzs:∀b o u,H b=some (.frz o u)->H' b=some (.frz o u)
 tbls:∀b ps,H b=some (.tbl ps)->∃more,H' b=some (.tbl (ps++more))
section
variable{fs fs' ex ex':List Addr}{H H1 H2:Hp}{h h1 h2 h':Heap}{a x e:Addr}{o:HO}
theorem Un.any(u:Un fs ex H H1 h h1){b:Addr}{ob:Obj}(q:h.get? b=some ob)(n:H b=none)(hx:b∉ex):∃sl,h1.get? b=some {ob with slots:=sl}:=by
 by_cases hb:b∈fs
 ·exact u.slot b ob q n hb hx
 ·exact⟨ob.slots,u.keep b ob q n hb hx⟩
theorem Un.trans(a:Un fs ex H H1 h h1)(b:Un fs ex H1 H2 h1 h2):Un fs ex H H2 h h2 where
 keep:=fun c ob q n hc hx=>b.keep c ob (a.keep c ob q n hc hx) (a.free c ob q n hx) hc hx
 slot:=fun c ob q n hc hx=>by
  obtain⟨sl,e1⟩:=a.slot c ob q n hc hx
  obtain⟨sl',e2⟩:=b.slot c _ e1 (a.free c ob q n hx) hc hx
  exact⟨sl',e2⟩
 free:=fun c ob q n hx=>by
  obtain⟨o',e1⟩:=a.there c ob q hx
  exact b.free c o' e1 (a.free c ob q n hx) hx
 there:=fun c ob q hx=>by
  obtain⟨o',e1⟩:=a.there c ob q hx
  exact b.there c o' e1 hx
 tups:=fun c xs q=>b.tups c xs (a.tups c xs q)
 frzs:=fun c ob xs q=>b.frzs c ob xs (a.frzs c ob xs q)
 tbls:=fun c ps q=>by
  obtain⟨m1,e1⟩:=a.tbls c ps q
  obtain⟨m2,e2⟩:=b.tbls c _ e1
  exact⟨m1++m2,by rw[e2,Array.append_assoc]⟩
theorem Un.kept(k:∀b u,h.get? b=some u->h'.get? b=some u):Un fs ex H H h h':=
 ⟨fun b ob q _ _ _=>k b ob q,fun b ob q _ _ _=>⟨ob.slots,k b ob q⟩,fun _ _ _ n _=>n,fun b ob q _=>⟨ob,k b ob q⟩,fun _ _ q=>q,fun _ _ _ q=>q,fun _ ps q=>⟨#[],by rw[q];simp⟩⟩
theorem Un.refl:Un fs ex H H h h:=Un.kept fun _ _ q=>q
theorem Un.laid(k:∀b u,h.get? b=some u->h'.get? b=some u)(hp:h.objs.size<=a)(hn:H a=none):Un fs ex H (upd H a o) h h' where
 keep:=fun b u q _ _ _=>k b u q
 slot:=fun b u q _ _ _=>⟨u.slots,k b u q⟩
 free:=fun b u q n _=>by rw[ix (bj (bD (aL q) hp))];exact n
 there:=fun b u q _=>⟨u,k b u q⟩
 tups:=fun b xs q=>by rw[ix (iI q hn)];exact q
 frzs:=fun b u xs q=>by rw[ix (iI q hn)];exact q
 tbls:=fun b ps q=>⟨#[],by rw[ix (iI q hn),q];simp⟩
theorem Un.write(mu:rb (H x))(he:e=x\/H e=some (.own x))(k:∀b u,b≠e->h.get? b=some u->h'.get? b=some u)(heo:∃u,h'.get? e=some u):Un fs ex H (upd H x o) h h':=by
 have hx:∀b,H b=none->b≠x:=fun b n z=>by subst z;rw[n]at mu;exact mu
 have hb:∀b,H b=none->b≠e:=fun b n z=>by
  subst z
  rcases he with r|r
  ·exact hx b n r
  ·rw[n]at r;cases r
 have hm:∀b u,H b=some u->¬rb (some u)->b≠x:=fun b u q nm z=>by subst z;rw[q]at mu;exact nm mu
 refine⟨fun b u q n _ _=>k b u (hb b n) q,fun b u q n _ _=>⟨u.slots,k b u (hb b n) q⟩,fun b u q n _=>by rw[ix (hx b n)];exact n,fun b u q _=>?_,
  fun b xs q=>by rw[ix (hm b _ q fun z=>z)];exact q,fun b u xs q=>by rw[ix (hm b _ q fun z=>z)];exact q,fun b ps q=>⟨#[],by rw[ix (hm b _ q fun z=>z),q];simp⟩⟩
 by_cases hbe:b=e
 ·subst hbe;exact heo
 ·exact⟨u,k b u hbe q⟩
theorem Un.mono(u:Un fs ex H H1 h h1)(hs:∀b∈fs,b∈fs')(hx:∀b∈ex,b∈ex'):Un fs' ex' H H1 h h1:=
 ⟨fun b ob q n hb he=>u.keep b ob q n (fun z=>hb (hs b z)) fun z=>he (hx b z),fun _ _ q n _ he=>u.any q n fun z=>he (hx _ z),fun b ob q n he=>u.free b ob q n fun z=>he (hx b z),fun b ob q he=>u.there b ob q fun z=>he (hx b z),u.tups,u.frzs,u.tbls⟩
end
def rl(h:Heap)(H:Hp):List Addr:=(List.range h.objs.size).filter fun a=>(H a).isSome
def nq(h:Heap)(H:Hp):Heap:=PySem.W.hideAll h (rl h H)
theorem GJ(h:Heap)(H:Hp):(nq h H).objs.size=h.objs.size:=PySem.W.hideAll_size _ _
theorem FZ{h:Heap}{H:Hp}{b:Addr}{o:Obj}(e:h.get? b=some o)(n:H b=none):(nq h H).get? b=some o:=
 PySem.W.hideAll_get _ e fun hm=>by
  have q:(H b).isSome=true:=(bG.mp hm).2
  rw[n]at q;simp at q
theorem Fj{h:Heap}{H:Hp}{b:Addr}{o:Obj}(e:(nq h H).get? b=some o):h.get? b=some o/\H b=none:=by
 have e':h.get? b=some o:=PySem.W.of_hideAll (rl h H) e
 refine⟨e',?_⟩
 cases q:H b with
 |none=>rfl
 |some x=>
  have hm:b∈rl h H:=bG.mpr ⟨bI.mpr (aL e'),by simp[q]⟩
  have z:(nq h H).get? b=none:=PySem.W.hideAll_none (rl h H) hm
  rw[z]at e;cases e
structure Mod(K:PySem.W.Frag)(mg:Str->Option Value)(base:Heap):Prop where
 kin:K.In base
 glob:base.Ns mainGlobals mg
 blt:∃mb,base.Ns builtinsNs mb/\∀x:Str,x≠"__name__"->mb x=bootBuiltins x
 nolimit:base.NoLimit
structure Cx where
 prog:Program
 w:World
 K:PySem.W.Frag
 mg:Str->Option Value
 base:Heap
 A:Around
 N:List Str
 s₀:Shared
 H₀:Hp
 env:Env
 outer:List Env
 stack:List Env
 ex:List Addr
 fn:Str->Bool
 calm:Bool
 pn:List (Addr×Obj)
 xe:Value->Shared->Prop
def lp(l:List Env):List Addr:=l.filterMap (·.frame)
abbrev Cx.fs(X:Cx):List Addr:=lp X.outer
def uB(sc:Scope)(x:Str):Prop:=sc.names.lookup x=some .local\/sc.names.lookup x=some .cell\/sc.names.lookup x=some .free
def Loc(sc:Scope)(x:Str):Prop:=sc.names.lookup x=some .local\/sc.names.lookup x=some .cell
def Look(env:Env)(h:Heap)(m:Str->Option Value)(x:Str)(u:Value):Prop:=
 (env.kindOf x=some .local/\m x=some u)\/((env.kindOf x=some .cell\/env.kindOf x=some .free)/\∃c,env.cells.lookup x=some c/\h.IsCell c (some u))
structure Cx.Ok(X:Cx):Prop where
 mod:Mod X.K X.mg X.base
 kind:X.env.scope.kind= .function
 glob:X.env.globals=mainGlobals
 blt:X.env.builtins=builtinsNs
 above:X.s₀.heap.objs.size<=X.env.locals
 inj:∀x y c,X.env.cells.lookup x=some c->X.env.cells.lookup y=some c->x=y
 has:∀x,(X.env.kindOf x=some .cell\/X.env.kindOf x=some .free)->∃c,X.env.cells.lookup x=some c
 cab:∀x c,X.fn x=true->X.env.cells.lookup x=some c->X.s₀.heap.objs.size<=c
 hd:X.calm=true->X.A.handled=none
 frames:X.A.frames=some X.stack
 stk:X.stack=X.outer\/(X.stack=X.env::X.outer/\X.env.frame=some X.env.locals)
 exf:∀b∈X.ex,b≠X.env.locals/\∀x c,X.env.cells.lookup x=some c->c≠b
 bs:∀b o,X.base.get? b=some o->X.s₀.heap.get? b=some o/\X.H₀ b=none
 bsz:X.base.objs.size<=X.s₀.heap.objs.size
 noex:∀b o,X.base.get? b=some o->b∉X.ex
 exfs:∀b∈X.ex,b∉X.fs
 funs:X.s₀.heap.FunFrames X.base X.outer
 frf:∀b∈X.fs,X.H₀ b=none
structure Inv(X:Cx)(pins:List (Addr×Obj))(σ:List (Option V))(H:Hp)(s:Shared):Prop where
 ok:X.Ok
 os:s.os=X.s₀.os
 bare:AllBare s.gens
 base:Un X.fs X.ex X.H₀ H X.s₀.heap s.heap
 loc:∃m,s.heap.Ns X.env.locals m/\∀(i:Nat) (x:Str) (v:V),X.N[i]? =some x->σ[i]? =some (some v)->uB X.env.scope x->∃u,RelV v u/\Look X.env s.heap m x u
 cell:∀x c,X.env.cells.lookup x=some c->∃v,s.heap.IsCell c v
 free:H X.env.locals=none
 freeC:∀x c,X.env.cells.lookup x=some c->H c=none
 pin:∀p∈X.pn++pins,s.heap.get? p.1=some p.2/\H p.1=none/\p.1≠X.env.locals/\p.1∉X.fs/\∀v,p.2.data≠ .cell v
 hok:HOk X.prog X.w H s.heap
 len:σ.length=X.N.length
section
variable{X:Cx}{pins:List (Addr×Obj)}{σ:List (Option V)}{H H':Hp}{s:Shared}{h':Heap}
theorem Cx.Ok.nofr(ok:X.Ok){b:Addr}{o:Obj}(e:X.base.get? b=some o):b∉X.fs:=fun hb=>by
 have:=(ok.funs.mem hb).1
 rw[e]at this;cases this
theorem Inv.bs(I:Inv X pins σ H s):∀b o,X.base.get? b=some o->s.heap.get? b=some o/\H b=none:=fun b o e=>
 ⟨I.base.keep b o (I.ok.bs b o e).1 (I.ok.bs b o e).2 (I.ok.nofr e) (I.ok.noex b o e),I.base.free b o (I.ok.bs b o e).1 (I.ok.bs b o e).2 (I.ok.noex b o e)⟩
theorem Inv.bk(I:Inv X pins σ H s):∀b o,X.base.get? b=some o->s.heap.get? b=some o:=fun b o e=>(I.bs b o e).1
theorem Inv.mod(I:Inv X pins σ H s):Mod X.K X.mg X.base:=I.ok.mod
theorem Inv.kIn(I:Inv X pins σ H s):X.K.In s.heap:=I.ok.mod.kin.keeps I.bk
theorem Inv.fr(I:Inv X pins σ H s):∃m,Fr X.base X.env.locals s.heap m:=
 let⟨m,hn,_⟩:=I.loc
 ⟨m,hn,I.bk,br I.ok.bsz I.ok.above⟩
theorem Inv.lt(I:Inv X pins σ H s):X.env.locals<s.heap.objs.size:=let⟨_,hn,_⟩:=I.loc;hn.lt
theorem Inv.sz(I:Inv X pins σ H s):X.s₀.heap.objs.size<=s.heap.objs.size:=br I.ok.above (fQ I.lt)
theorem Inv.nofs(I:Inv X pins σ H s){a:Addr}(h:s.heap.objs.size<=a):a∉X.fs:=fun hb=>by
 obtain⟨_,o,ho,_⟩:=I.ok.funs.mem hb
 exact absurd (bD (aL ho) (br I.sz h)) (cN _)
theorem Inv.cne(I:Inv X pins σ H s):∀x c,X.env.cells.lookup x=some c->c≠X.env.locals:=fun x c e z=>by
 obtain⟨v,o,ho,hd⟩:=I.cell x c e
 obtain⟨m,⟨o',es,ep,ho',hd',_⟩,_⟩:=I.loc
 rw[z,ho']at ho;cases ho;rw[hd']at hd;cases hd
theorem Inv.funs(I:Inv X pins σ H s):s.heap.FunFrames X.base X.outer:=by
 have all:∀(l:List Env),(∀b∈lp l,b∈X.fs)->X.s₀.heap.FunFrames X.base l->s.heap.FunFrames X.base l:=by
  intro l
  induction l with
  |nil=>intro _ _;trivial
  |cons env r ih=>
   intro hs hl
   obtain⟨hk,⟨L,o,hf,hn,ho,hd⟩,hr⟩:=hl
   have hL:L∈X.fs:=hs L (by unfold lp;rw[List.filterMap_cons,hf];exact aZ)
   obtain⟨sl,e⟩:=I.base.slot L o ho (I.ok.frf L hL) hL fun z=>I.ok.exfs L z hL
   exact⟨hk,⟨L,_,hf,hn,e,hd⟩,ih (fun b hb=>hs b (by unfold lp;rw[List.filterMap_cons,hf];exact aP _ hb)) hr⟩
 exact all X.outer (fun _ hb=>hb) I.ok.funs
theorem Inv.stack(I:Inv X pins σ H s):s.heap.FunFrames X.base X.stack:=by
 rcases I.ok.stk with e|⟨e,hf⟩
 ·rw[e];exact I.funs
 ·rw[e]
  obtain⟨m,hn,_⟩:=I.loc
  refine .cons (by rw[I.ok.kind];decide) hf hn ?_ I.funs
  exact Heap.get?_none_of_le (br I.ok.bsz I.ok.above)
theorem Inv.stkSub(I:Inv X pins σ H s):∀b∈lp X.stack,b∈X.env.locals::X.fs:=fun b hb=>by
 rcases I.ok.stk with e|⟨e,hf⟩
 ·rw[e]at hb;exact aP _ hb
 ·rw[e]at hb
  unfold lp at hb
  rw[List.filterMap_cons,hf]at hb
  exact hb
theorem Inv.stkFree(I:Inv X pins σ H s):∀b∈lp X.stack,H b=none:=fun b hb=>by
 rcases aR.mp (I.stkSub b hb)with e|hb
 ·rw[e];exact I.free
 ·obtain⟨_,o,ho,_⟩:=I.ok.funs.mem hb
  exact I.base.free b o ho (I.ok.frf b hb) fun z=>I.ok.exfs b z hb
theorem Inv.step{g':Array GenState}{t':Nat}{d':Drawn}{ch:List Addr}(I:Inv X pins σ H s)
  (hch:∀b∈ch,(b∈X.ex\/X.s₀.heap.objs.size<=b)/\b≠X.env.locals/\(∀x c,X.env.cells.lookup x=some c->c≠b)/\∀p∈X.pn++pins,p.1≠b)
  (keep:∀b o,b≠X.env.locals->b∉X.fs->b∉ch->s.heap.get? b=some o->H b=none->h'.get? b=some o)
  (slot:∀b o,b≠X.env.locals->b∈X.fs->b∉ch->s.heap.get? b=some o->H b=none->∃sl,h'.get? b=some {o with slots:=sl}) (free:∀b o,b∉ch->s.heap.get? b=some o->H b=none->H' b=none)
  (there:∀b o,b∉ch->s.heap.get? b=some o->∃o',h'.get? b=some o')
  (tups:∀b xs,H b=some (.tup xs)->H' b=some (.tup xs)) (frzs:∀b o u,H b=some (.frz o u)->H' b=some (.frz o u)) (tbls:∀b ps,H b=some (.tbl ps)->∃more,H' b=some (.tbl (ps++more)))
  (ns:∀m,s.heap.Ns X.env.locals m->h'.Ns X.env.locals m) (hok:HOk X.prog X.w H' h') (hg:AllBare g'):
  Inv X pins σ H' {s with heap:=h',gens:=g',drawn:=d',toks:=t'}:=by
 have neL:∀b o,X.s₀.heap.get? b=some o->b≠X.env.locals:=fun b o e=>bj (bD (aL e) I.ok.above)
 have neC:∀b o,X.s₀.heap.get? b=some o->b∉X.ex->b∉ch:=fun b o e hx hb=>by
  rcases(hch b hb).1 with z|z
  ·exact hx z
  ·exact absurd (bD (aL e) z) (cN _)
 have cellK:∀x c,X.env.cells.lookup x=some c->∀v,s.heap.IsCell c v->h'.IsCell c v:=fun x c e v ⟨o,ho,hd⟩=>by
  have nch:c∉ch:=fun z=>(hch c z).2.2.1 x c e rfl
  by_cases hc:c∈X.fs
  ·obtain⟨sl,q⟩:=slot c o (I.cne x c e) hc nch ho (I.freeC x c e)
   exact⟨_,q,hd⟩
  ·exact⟨o,keep c o (I.cne x c e) hc nch ho (I.freeC x c e),hd⟩
 refine⟨I.ok,I.os,hg,⟨fun b o e n hb hx=>?_,fun b o e n hb hx=>?_,fun b o e n hx=>?_,fun b o e hx=>?_,fun b xs e=>tups b xs (I.base.tups b xs e),fun b o xs e=>frzs b o xs (I.base.frzs b o xs e),fun b ps e=>?_⟩,?_,fun x c e=>?_,?_,fun x c e=>?_,fun p hp=>?_,hok,I.len⟩
 ·exact keep b o (neL b o e) hb (neC b o e hx) (I.base.keep b o e n hb hx) (I.base.free b o e n hx)
 ·obtain⟨sl,e1⟩:=I.base.slot b o e n hb hx
  obtain⟨sl',e2⟩:=slot b _ (neL b o e) hb (neC b o e hx) e1 (I.base.free b o e n hx)
  exact⟨sl',e2⟩
 ·obtain⟨o',e1⟩:=I.base.there b o e hx
  exact free b o' (neC b o e hx) e1 (I.base.free b o e n hx)
 ·obtain⟨o',e1⟩:=I.base.there b o e hx
  exact there b o' (neC b o e hx) e1
 ·obtain⟨m1,e1⟩:=I.base.tbls b ps e
  obtain⟨m2,e2⟩:=tbls b _ e1
  exact⟨m1++m2,by rw[e2,Array.append_assoc]⟩
 ·obtain⟨m,hn,hl⟩:=I.loc
  refine⟨m,ns m hn,fun i x v e1 e2 e3=>?_⟩
  obtain⟨u,r,l⟩:=hl i x v e1 e2 e3
  refine⟨u,r,?_⟩
  rcases l with l|⟨k,c,e,z⟩
  ·exact .inl l
  ·exact .inr ⟨k,c,e,cellK x c e _ z⟩
 ·obtain⟨v,z⟩:=I.cell x c e
  exact⟨v,cellK x c e v z⟩
 ·obtain⟨m,⟨o,_,_,ho,_⟩,_⟩:=I.loc
  exact free _ o (fun z=>(hch _ z).2.1 rfl) ho I.free
 ·obtain⟨v,o,ho,hd⟩:=I.cell x c e
  exact free c o (fun z=>(hch c z).2.2.1 x c e rfl) ho (I.freeC x c e)
 ·obtain⟨e,n,ne,nf,d⟩:=I.pin p hp
  have nch:p.1∉ch:=fun z=>(hch p.1 z).2.2.2 p hp rfl
  exact⟨keep p.1 p.2 ne nf nch e n,free p.1 p.2 nch e n,ne,nf,d⟩
theorem Inv.un{t':Nat}(I:Inv X pins σ H s)(u:Un X.fs [] H H' s.heap h')(hok:HOk X.prog X.w H' h'):Inv X pins σ H' {s with heap:=h',toks:=t'}:=by
 obtain⟨m,⟨o,es,ep,ho,r⟩,_⟩:=id I.loc
 obtain⟨sl,hL⟩:=u.any ho I.free (by simp)
 exact I.step (g':=s.gens) (d':=s.drawn) (ch:=[]) (fun _ z=>nomatch z) (fun b o _ hb _ e n=>u.keep b o e n hb (by simp)) (fun b o _ hb _ e n=>u.slot b o e n hb (by simp)) (fun b o _ e n=>u.free b o e n (by simp)) (fun b o _ e=>u.there b o e (by simp)) u.tups u.frzs u.tbls (fun m' hm=>by
  obtain⟨o',es',ep',ho',r'⟩:=hm
  rw[ho]at ho';cases ho'
  exact⟨_,es',ep',hL,r'⟩) hok I.bare
theorem Inv.call{g':Array GenState}{t':Nat}{d':Drawn}{ch:List Addr}(I:Inv X pins σ H s)(u:Un (lp X.stack) ch H H' s.heap h')(hok:HOk X.prog X.w H' h')(hg:AllBare g')
  (hch:∀b∈ch,(b∈X.ex\/X.s₀.heap.objs.size<=b)/\b≠X.env.locals/\(∀x c,X.env.cells.lookup x=some c->c≠b)/\∀p∈X.pn++pins,p.1≠b):
  Inv X pins σ H' {s with heap:=h',gens:=g',drawn:=d',toks:=t'}:=by
 obtain⟨m,⟨o,es,ep,ho,r⟩,_⟩:=id I.loc
 obtain⟨sl,hL⟩:=u.any ho I.free fun z=>(hch _ z).2.1 rfl
 exact I.step (ch:=ch) hch (fun b o hL hb hc e n=>u.keep b o e n (fun z=>(aR.mp (I.stkSub b z)).elim hL hb) hc) (fun b o _ _ hc e n=>u.any e n hc) (fun b o hc e n=>u.free b o e n hc) (fun b o hc e=>u.there b o e hc) u.tups u.frzs u.tbls (fun m' hm=>by
  obtain⟨o',es',ep',ho',r'⟩:=hm
  rw[ho]at ho';cases ho'
  exact⟨_,es',ep',hL,r'⟩) hok hg
theorem Inv.turned{t':Nat}{it:Addr}(I:Inv X pins σ H s)(k:∀b o,b≠it->s.heap.get? b=some o->h'.get? b=some o)(hn:H it=none)(hL:it≠X.env.locals)
  (h1:it∈X.ex\/X.s₀.heap.objs.size<=it) (h2:∀x c,X.env.cells.lookup x=some c->c≠it) (h3:∀p∈X.pn++pins,p.1≠it):Inv X pins σ H {s with heap:=h',toks:=t'}:=by
 have nit:∀b u,H b=some u->b≠it:=fun b u e z=>by rw[z,hn]at e;cases e
 refine I.step (g':=s.gens) (d':=s.drawn) (ch:=[it]) (fun b hb=>?_) (fun b o _ _ hc e _=>k b o (fun z=>hc (by simp[z])) e) (fun b o _ _ hc e _=>⟨o.slots,k b o (fun z=>hc (by simp[z])) e⟩) (fun _ _ _ _ n=>n)
  (fun b o hc e=>⟨o,k b o (fun z=>hc (by simp[z])) e⟩) (fun _ _ e=>e) (fun _ _ _ e=>e) (fun b ps e=>⟨#[],by rw[e];simp⟩) (fun m hm=>?_) (fun b u e=>?_) I.bare
 ·have e:b=it:=by simpa using hb
  subst e
  exact⟨h1,hL,h2,h3⟩
 ·obtain⟨o,es,ep,ho,r⟩:=hm
  exact⟨o,es,ep,k _ o (cS hL) ho,r⟩
 ·refine(I.hok b u e).stay (fun c v hc q=>k c v ?_ q) (fun _ q=>q) fun _ _ q=>q
  rcases hc with z|z
  ·rw[z];exact nit b u e
  ·exact nit c _ z
theorem Inv.tok(I:Inv X pins σ H s)(t:Nat):Inv X pins σ H {s with toks:=t}:=I.un (h':=s.heap) (t':=t) Un.refl I.hok
theorem Inv.kept{t':Nat}(I:Inv X pins σ H s)(k:∀b u,s.heap.get? b=some u->h'.get? b=some u):Inv X pins σ H {s with heap:=h',toks:=t'}:=I.un (Un.kept k) (I.hok.kept k)
theorem Inv.laid{a:Addr}{o:HO}{t':Nat}(I:Inv X pins σ H s)(k:∀b u,s.heap.get? b=some u->h'.get? b=some u)(hp:s.heap.objs.size<=a)(new:jc7 X.prog X.w (upd H a o) h' a o):
  Inv X pins σ (upd H a o) {s with heap:=h',toks:=t'}:=I.un (Un.laid k hp (I.hok.fresh hp)) (I.hok.laid k hp new)
theorem Inv.write{x e:Addr}{o:HO}{t':Nat}(I:Inv X pins σ H s)(mu:rb (H x))(he:e=x\/H e=some (.own x))(k:∀b u,b≠e->s.heap.get? b=some u->h'.get? b=some u)(heo:∃u,h'.get? e=some u)
  (new:jc7 X.prog X.w (upd H x o) h' x o):Inv X pins σ (upd H x o) {s with heap:=h',toks:=t'}:=I.un (Un.write mu he k heo) (I.hok.write mu he k heo new)
theorem Inv.pins_of{pins':List (Addr×Obj)}(I:Inv X pins σ H s)(h:∀p∈pins',s.heap.get? p.1=some p.2/\H p.1=none/\p.1≠X.env.locals/\p.1∉X.fs/\∀v,p.2.data≠ .cell v):Inv X pins' σ H s:=
 ⟨I.ok,I.os,I.bare,I.base,I.loc,I.cell,I.free,I.freeC,fun p hp=>(bz.mp hp).elim (fun z=>I.pin p (dg _ z)) (h p),I.hok,I.len⟩
theorem AM{N:List Str}(hN:N.Nodup){i j:Nat}{x:Str}(a:N[i]? =some x)(b:N[j]? =some x):i=j:=by
 obtain⟨h1,e1⟩:=aq.mp a
 obtain⟨h2,e2⟩:=aq.mp b
 exact(fN hN).mp (e1.trans e2.symm)
theorem BG{M:Model}{A:Around}{E:Value->Shared->Prop}{i:Nat}{x:Str}{v:V}{u:Value}{Q:Unit->Shared->Prop}(I:Inv X pins σ H s)(hN:X.N.Nodup)(hi:X.N[i]? =some x)(hx:Loc X.env.scope x)(r:RelV v u)
  (h:∀s',Inv X pins (σ.set i (some v)) H s'->(∃a,Heap.SameBut a s.heap s'.heap/\(a=X.env.locals\/X.env.cells.lookup x=some a))->Q () s') (hf:X.fn x=true\/X.env.scope.names.lookup x=some .local:=by first|exact .inl rfl|exact .inr rfl|assumption):wpAny M A (storeName X.env x u) Q E s:=by
 obtain⟨m,hn,hl⟩:=id I.loc
 have hcls:(X.env.scope.kind== .class||(X.env.scope.kind== .module&&X.env.locals !=X.env.globals))=false:=by rw[I.ok.kind];rfl
 have hiσ:i<σ.length:=by rw[I.len];exact(aq.mp hi).1
 have cne:=I.cne
 have tracked:∀{a:Addr} {h':Heap},(∃o,s.heap.get? a=some o/\H a=none)->Heap.SameBut a s.heap h'->HOk X.prog X.w H h':=fun{a h'} ha hs b ob e=>by
  obtain⟨_,_,hfree⟩:=ha
  refine(I.hok b ob e).stay (fun c w' hc q=>(hs.2 c ?_).trans q) (fun _ q=>q) fun _ _ q=>q
  rintro rfl
  rcases hc with rfl|hc
  ·rw[hfree]at e;cases e
  ·rw[hfree]at hc;cases hc
 rcases hx with hk|hk
 ·refine wpAny_storeName_local hk hn (fun h' hn' hs=>?_) hcls
  obtain⟨oL,_,_,hoL,_⟩:=id hn
  refine h _ ⟨I.ok,I.os,I.bare,⟨fun b o e n hb hx=>?_,fun b o e n hb hx=>?_,I.base.free,fun b o e hx=>?_,I.base.tups,I.base.frzs,I.base.tbls⟩,⟨_,hn',fun j y v' e1 e2 e3=>?_⟩,fun y c e=>?_,I.free,I.freeC,fun p hp=>?_,tracked ⟨oL,hoL,I.free⟩ hs,by simpa using I.len⟩ ⟨_,hs,.inl rfl⟩
  ·exact(hs.2 b (bj (bD (aL e) I.ok.above))).trans (I.base.keep b o e n hb hx)
  ·obtain⟨sl,e1⟩:=I.base.slot b o e n hb hx
   exact⟨sl,(hs.2 b (bj (bD (aL e) I.ok.above))).trans e1⟩
  ·obtain⟨o',e1⟩:=I.base.there b o e hx
   exact⟨o',(hs.2 b (bj (bD (aL e) I.ok.above))).trans e1⟩
  ·by_cases hj:j=i
   ·subst hj
    rw[hi]at e1;cases e1
    rw[List.getElem?_set_self hiσ]at e2
    cases e2
    exact⟨u,r,.inl ⟨hk,by simp⟩⟩
   ·rw[List.getElem?_set_ne (cS hj)]at e2
    obtain⟨u',r',q⟩:=hl j y v' e1 e2 e3
    refine⟨u',r',?_⟩
    rcases q with⟨k,e⟩|⟨k,c,e,z⟩
    ·refine .inl ⟨k,?_⟩
     have:y≠x:=fun e=>hj (AM hN e1 (e▸hi))
     simp[this,e]
    ·exact .inr ⟨k,c,e,z.sameBut hs (cne y c e)⟩
  ·obtain⟨w',z⟩:=I.cell y c e
   exact⟨w',z.sameBut hs (cne y c e)⟩
  ·obtain⟨e,n,ne,nf,d⟩:=I.pin p hp
   exact⟨(hs.2 p.1 ne).trans e,n,ne,nf,d⟩
 ·have hfn:X.fn x=true:=by
   rcases hf with z|z
   ·exact z
   ·rw[z]at hk;cases hk
  obtain⟨c,hc⟩:=I.ok.has x (.inl hk)
  obtain⟨w',z⟩:=I.cell x c hc
  refine wpAny_storeName_cell I.ok.kind hk hc z (fun h' hc' hs=>?_)
  obtain⟨oc,hoc,hocd⟩:=id z
  refine h {s with heap:=h'} ⟨I.ok,I.os,I.bare,⟨fun b o e n hb hx=>?_,fun b o e n hb hx=>?_,I.base.free,fun b o e hx=>?_,I.base.tups,I.base.frzs,I.base.tbls⟩,⟨m,hn.sameBut hs (cS (cne x c hc)),fun j y v' e1 e2 e3=>?_⟩,fun y c' e=>?_,I.free,I.freeC,fun p hp=>?_,tracked ⟨oc,hoc,I.freeC x c hc⟩ hs,by simpa using I.len⟩ ⟨c,hs,.inr hc⟩
  ·exact(hs.2 b (bj (bD (aL e) (I.ok.cab x c hfn hc)))).trans (I.base.keep b o e n hb hx)
  ·obtain⟨sl,e1⟩:=I.base.slot b o e n hb hx
   exact⟨sl,(hs.2 b (bj (bD (aL e) (I.ok.cab x c hfn hc)))).trans e1⟩
  ·obtain⟨o',e1⟩:=I.base.there b o e hx
   exact⟨o',(hs.2 b (bj (bD (aL e) (I.ok.cab x c hfn hc)))).trans e1⟩
  ·by_cases hj:j=i
   ·subst hj
    rw[hi]at e1;cases e1
    rw[List.getElem?_set_self hiσ]at e2
    cases e2
    exact⟨u,r,.inr ⟨.inl hk,c,hc,hc'⟩⟩
   ·rw[List.getElem?_set_ne (cS hj)]at e2
    obtain⟨u',r',q⟩:=hl j y v' e1 e2 e3
    refine⟨u',r',?_⟩
    rcases q with q|⟨k,c',e,z'⟩
    ·exact .inl q
    ·refine .inr ⟨k,c',e,z'.sameBut hs ?_⟩
     rintro rfl
     exact hj (AM hN e1 (I.ok.inj _ _ _ e hc▸hi))
  ·by_cases hcc:c'=c
   ·subst hcc;exact⟨_,hc'⟩
   ·obtain⟨w2,z2⟩:=I.cell y c' e
    exact⟨w2,z2.sameBut hs hcc⟩
  ·obtain⟨e,n,ne,nf,d⟩:=I.pin p hp
   refine⟨(hs.2 p.1 ?_).trans e,n,ne,nf,d⟩
   intro q
   rw[q,hoc]at e
   have q':oc=p.2:=aD e
   exact d w' (by rw [<- q']; exact hocd)
theorem wD{M:Model}{A:Around}{E:Value->Shared->Prop}{i:Nat}{x:Str}{v:V}{u:Value}{Q:Unit->Shared->Prop}(I:Inv X pins σ H s)(hN:X.N.Nodup)(hi:X.N[i]? =some x)(hx:Loc X.env.scope x)(r:RelV v u)
  (h:∀s',Inv X pins (σ.set i (some v)) H s'->Q () s') (hf:X.fn x=true\/X.env.scope.names.lookup x=some .local:=by first|exact .inl rfl|exact .inr rfl|assumption):wpAny M A (storeName X.env x u) Q E s:=
 BG I hN hi hx r (fun s' I' _=>h s' I') hf
theorem Inv.call'{s':Shared}{ch:List Addr}(I:Inv X pins σ H s)(ho:s'.os=s.os)(u:Un (lp X.stack) ch H H' s.heap s'.heap)(hok:HOk X.prog X.w H' s'.heap)(hg:AllBare s'.gens)
  (hch:∀b∈ch,(b∈X.ex\/X.s₀.heap.objs.size<=b)/\b≠X.env.locals/\(∀x c,X.env.cells.lookup x=some c->c≠b)/\∀p∈X.pn++pins,p.1≠b):Inv X pins σ H' s':=by
 obtain⟨h',g',d',t',o'⟩:=s'
 have e:o'=s.os:=ho
 subst e
 exact I.call (g':=g') (t':=t') (d':=d') u hok hg hch
end
abbrev XK:=Value->Option Addr->Hp->Prop
abbrev St:=List (Option V)
abbrev VK:=V->Hp->Prop
abbrev TE:=St->Hp->VK->Prop
abbrev TT:=St->Hp->(Bool->Hp->Prop)->Prop
abbrev TA:=St->Hp->(List V->Hp->Prop)->Prop
structure Ends where
 nx:St->Hp->Prop
 rt:VK
 bk:St->Hp->Prop:=fun _ _=>False
 ct:St->Hp->Prop:=fun _ _=>False
abbrev TS:=Ends->St->Hp->Prop
def EP(X:Cx)(pins:List (Addr×Obj))(σ:St)(Q:VK)(u:Value)(s':Shared):Prop:=∃v H',Inv X pins σ H' s'/\RelV v u/\Q v H'
def TP(X:Cx)(pins:List (Addr×Obj))(σ:St)(Q:Bool->Hp->Prop)(b:Bool)(s':Shared):Prop:=∃H',Inv X pins σ H' s'/\Q b H'
def AP(X:Cx)(pins:List (Addr×Obj))(σ:St)(Q:List V->Hp->Prop)(us:List Value)(s':Shared):Prop:=∃vs H',Inv X pins σ H' s'/\Vals vs us/\Q vs H'
def SP(X:Cx)(pins:List (Addr×Obj))(D:Ends)(f:Flow)(s':Shared):Prop:=
 match f with
 | .next=>∃σ' H',Inv X pins σ' H' s'/\D.nx σ' H'
 | .brk=>∃σ' H',Inv X pins σ' H' s'/\D.bk σ' H'
 | .cont=>∃σ' H',Inv X pins σ' H' s'/\D.ct σ' H'
 | .ret u=>∃v σ' H',Inv X pins σ' H' s'/\RelV v u/\D.rt v H'
def PE(X:Cx)(e:Expr)(t:TE):Prop:=
 ∀(pins:List (Addr×Obj)) (s:Shared) (σ:St) (H:Hp) (Q:VK),Inv X pins σ H s->t σ H Q->wpAny (model X.prog X.w) X.A (eval e X.env) (EP X pins σ Q) X.xe s
def PT(X:Cx)(e:Expr)(t:TT):Prop:=
 ∀(pins:List (Addr×Obj)) (s:Shared) (σ:St) (H:Hp) (Q:Bool->Hp->Prop),Inv X pins σ H s->t σ H Q->wpAny (model X.prog X.w) X.A (isTrue e X.env (eval e X.env)) (TP X pins σ Q) X.xe s
def PW(X:Cx)(e:Expr)(t:TT):Prop:=
 ∀(whole:Sem Value) (pins:List (Addr×Obj)) (s:Shared) (σ:St) (H:Hp) (Q:Bool->Hp->Prop),Inv X pins σ H s->t σ H Q->wpAny (model X.prog X.w) X.A (isTrue e X.env whole) (TP X pins σ Q) X.xe s
theorem PW.pt{X:Cx}{e:Expr}{t:TT}(h:PW X e t):PT X e t:=h _
def PA(X:Cx)(es:List Expr)(t:TA):Prop:=
 ∀(pos:Pos) (pins:List (Addr×Obj)) (s:Shared) (σ:St) (H:Hp) (Q:List V->Hp->Prop),Inv X pins σ H s->t σ H Q->wpAny (model X.prog X.w) X.A (spliced (backTo pos (starEach es X.env))) (AP X pins σ Q) X.xe s
def PS(X:Cx)(st:Stmt)(t:TS):Prop:=
 ∀(pins:List (Addr×Obj)) (s:Shared) (σ:St) (H:Hp) (D:Ends),Inv X pins σ H s->t D σ H->wpAny (model X.prog X.w) X.A (exec st X.env) (SP X pins D) X.xe s
def PSs(X:Cx)(st:List Stmt)(t:TS):Prop:=
 ∀(pins:List (Addr×Obj)) (s:Shared) (σ:St) (H:Hp) (D:Ends),Inv X pins σ H s->t D σ H->wpAny (model X.prog X.w) X.A (execs st X.env) (SP X pins D) X.xe s
theorem iy{α:Type}{t:Sem α}{Q Q':α->Shared->Prop}{M:Model}{A:Around}{E:Value->Shared->Prop}{s:Shared}(h:wpAny M A t Q E s)(hQ:∀a s,Q a s->Q' a s):wpAny M A t Q' E s:=dy h hQ fun _ _ x=>x
section
variable{X:Cx}
def Dp(i:Nat):TE:=fun σ H Q=>∃v,σ[i]? =some (some v)/\Q v H
def tC(v:V):TE:=fun _ H Q=>Q v H
theorem Eb{i:Nat}{x:Str}{pos:Pos}(hN:X.N[i]? =some x)(hv:uB X.env.scope x)(hd:(x==("__debug__":Str))=false:=by decide)(hcd:(x==("__classdict__":Str))=false:=by decide):PE X (.Name x pos) (Dp i):=by
 intro pins s σ H Q I h
 obtain⟨v,e,h⟩:=h
 obtain⟨m,hn,hl⟩:=I.loc
 obtain⟨u,r,l⟩:=hl i x v hN e hv
 have fin:EP X pins σ Q u s:=⟨v,H,I,r,h⟩
 rcases l with⟨hk,hm⟩|⟨hk,c,hc,hcell⟩
 ·exact wpAny_Name (wpAny_loadName_local I.ok.kind hk hn hm fin) hd
 ·rcases hk with hk|hk
  ·exact wpAny_Name (wpAny_loadName_cell I.ok.kind hk hc hcell fin) hd
  ·exact wpAny_Name (wpAny_loadName_free I.ok.kind hk hc hcell fin hcd) hd
theorem h9{i j pos}:PE X (.Constant (.int i) j pos) (tC (.int i)):=fun _ _ _ H _ I h=>wpAny_Constant_int ⟨.int i,H,I.tok _,⟨_,rfl⟩,h⟩
theorem jk{b j pos}:PE X (.Constant (.bool b) j pos) (tC (.bl b)):=fun _ _ _ H _ I h=>Constant_bool ⟨.bl b,H,I,rfl,h⟩
theorem sf{j pos}:PE X (.Constant .none j pos) (tC .non):=fun _ _ _ H _ I h=>Constant_none ⟨.non,H,I,rfl,h⟩
theorem kE{x j pos}:PE X (.Constant (.str x) j pos) (tC (.str x)):=fun _ _ _ H _ I h=>Calls.Constant_str ⟨.str x,H,I.tok _,⟨_,rfl⟩,h⟩
def Gl(X:Cx)(x:Str):Prop:=X.env.kindOf x=some .globalImplicit
theorem vO{E:Value->Shared->Prop}{pins:List (Addr×Obj)}{s:Shared}{σ:St}{H:Hp}{x:Str}{u:Value}{pos:Pos}{Q:Value->Shared->Prop}(I:Inv X pins σ H s)(hg:Gl X x)(hm:X.mg x=some u)(h:Q u s)
  (hd:(x==("__debug__":Str))=false:=by decide):wpAny (model X.prog X.w) X.A (eval (.Name x pos) X.env) Q E s:=
 hZ I.ok.kind hg (Calls.loadGlobal_global (by rw[I.ok.glob];exact I.mod.glob.keeps I.bk) hm h) hd
theorem nc{E:Value->Shared->Prop}{pins:List (Addr×Obj)}{s:Shared}{σ:St}{H:Hp}{x:Str}{u:Value}{pos:Pos}{Q:Value->Shared->Prop}(I:Inv X pins σ H s)(hg:Gl X x)(hm:X.mg x=none)(hv:bootBuiltins x=some u)(h:Q u s)
  (hn:x≠"__name__":=by decide) (hd:(x==("__debug__":Str))=false:=by decide):wpAny (model X.prog X.w) X.A (eval (.Name x pos) X.env) Q E s:=by
 obtain⟨mb,h1,h2⟩:=I.mod.blt
 exact hZ I.ok.kind hg (Calls.loadGlobal_builtin (by rw[I.ok.glob];exact I.mod.glob.keeps I.bk) hm (by rw[I.ok.blt];exact h1.keeps I.bk) ((h2 x hn).trans hv) h) hd
theorem lM{x:Str}{v:V}{u:Value}{pos:Pos}(hg:Gl X x)(hm:X.mg x=some u)(r:RelV v u)(hd:(x==("__debug__":Str))=false:=by decide):PE X (.Name x pos) (tC v):=
 fun _ _ _ H _ I h=>vO I hg hm ⟨v,H,I,r,h⟩ hd
theorem kQ{x:Str}{v:V}{u:Value}{pos:Pos}(hg:Gl X x)(hm:X.mg x=none)(hv:bootBuiltins x=some u)(r:RelV v u)(hn:x≠"__name__":=by decide)(hd:(x==("__debug__":Str))=false:=by decide):PE X (.Name x pos) (tC v):=
 fun _ _ _ H _ I h=>nc I hg hm hv ⟨v,H,I,r,h⟩ hn hd
variable{a b:Expr}{ta tb:TE}{pos:Pos}
def PC(X:Cx)(op:CmpOp)(a b:Expr)(t:TE):Prop:=
 ∀(pins:List (Addr×Obj)) (s:Shared) (σ:St) (H:Hp) (Q:VK),Inv X pins σ H s->t σ H Q->
  wpAny (model X.prog X.w) X.A (eval a X.env) (fun v s₁=>wpAny (model X.prog X.w) X.A (eval b X.env) (fun u s₂=>wpAny (model X.prog X.w) X.A (compareOp op v u) (EP X pins σ Q) X.xe s₂) X.xe s₁) X.xe s
theorem wx(b:Expr){op:CmpOp}(h:op≠ .In)(h2:op≠ .NotIn):behindInMarks op b=false:=by
 have e1:(op==CmpOp.In)=false:=by cases op<;>first|rfl|exact absurd rfl h
 have e2:(op==CmpOp.NotIn)=false:=by cases op<;>first|rfl|exact absurd rfl h2
 cases b<;>simp[behindInMarks,e1,e2]
def tB(t:TE):TT:=fun σ H Q=>t σ H fun x H1=>∃c,x= .bl c/\Q c H1
theorem vo{op:CmpOp}{t:TE}(h:PC X op a b t)(h1:behindInMarks op b=false:=by first|exact wx _ (by decide) (by decide)|rfl):PE X (.Compare a [op] [b] pos) t:=fun pins s σ H Q I hw=>wpAny_Compare1 (h pins s σ H Q I hw) h1
theorem vp{op:CmpOp}{t:TE}(h:PC X op a b t)(h1:behindInMarks op b=false:=by first|exact wx _ (by decide) (by decide)|rfl):PT X (.Compare a [op] [b] pos) (tB t):=by
 intro pins s σ H Q I hw
 refine fZ (iy (h pins s σ H _ I hw) fun v s1 h1=>iy h1 fun u s2 h2=>iy h2 fun c s3 ⟨x,H1,I1,r1,q1⟩=>?_) h1
 obtain⟨d,rfl,q⟩:=q1
 cases r1
 exact cj ⟨H1,I1,q⟩
variable{tA tB':TT}{rest:List Expr}
def yg(t u:TT):TT:=fun σ H Q=>t σ H fun c H1=>if c=true then u σ H1 Q else Q false H1
def xX(t u:TT):TT:=fun σ H Q=>t σ H fun c H1=>if c=true then Q true H1 else u σ H1 Q
def xY(t:TT):TT:=fun σ H Q=>t σ H fun c H1=>Q (!c) H1
theorem qy(ha:PT X a tA):PW X (.BoolOp .And [a] pos) tA:=by
 intro wh pins s σ H Q I h
 refine isTrue_and (iy (ha pins s σ H Q I h) fun c s1 e=>?_)
 cases c with
 |true=>exact isTrue_and_nil e
 |false=>exact e
theorem ku(ha:PT X a tA):PW X (.BoolOp .Or [a] pos) tA:=by
 intro wh pins s σ H Q I h
 refine isTrue_or (iy (ha pins s σ H Q I h) fun c s1 e=>?_)
 cases c with
 |false=>exact isTrue_or_nil e
 |true=>exact e
theorem qm(ha:PT X a tA)(hb:PW X (.BoolOp .And (b::rest) pos) tB'):PW X (.BoolOp .And (a::b::rest) pos) (yg tA tB'):=by
 intro wh pins s σ H Q I h
 refine isTrue_and (iy (ha pins s σ H _ I h) fun c s1 ⟨H1,I1,q1⟩=>?_)
 cases c with
 |true=>exact hb wh pins s1 σ H1 Q I1 q1
 |false=>exact⟨H1,I1,q1⟩
theorem jS(ha:PT X a tA)(hb:PW X (.BoolOp .Or (b::rest) pos) tB'):PW X (.BoolOp .Or (a::b::rest) pos) (xX tA tB'):=by
 intro wh pins s σ H Q I h
 refine isTrue_or (iy (ha pins s σ H _ I h) fun c s1 ⟨H1,I1,q1⟩=>?_)
 cases c with
 |true=>exact⟨H1,I1,q1⟩
 |false=>exact hb wh pins s1 σ H1 Q I1 q1
theorem jy(ha:PT X a tA):PT X (.UnaryOp .Not a pos) (xY tA):=by
 intro pins s σ H Q I h
 exact isTrue_not (ha pins s σ H (fun c H1=>Q (!c) H1) I h)
theorem lY{op}{t:TE}(h:PE X a t):PE X (.BoolOp op [a] pos) t:=fun pins s σ H Q I hw=>BoolOp_one (h pins s σ H Q I hw)
def ya(t:TT)(ta tb:TE):TE:=fun σ H Q=>t σ H fun c H1=>if c=true then ta σ H1 Q else tb σ H1 Q
theorem wy{c:Expr}(hc:PT X c tA)(ha:PE X a ta)(hb:PE X b tb):PE X (.IfExp c a b pos) (ya tA ta tb):=by
 intro pins s σ H Q I h
 refine wpAny_IfExp (iy (hc pins s σ H _ I h) fun d s1 ⟨H1,I1,q1⟩=>?_)
 cases d with
 |true=>exact ha pins s1 σ H1 Q I1 q1
 |false=>exact hb pins s1 σ H1 Q I1 q1
end
def SqL(K:PySem.W.Frag)(H:Hp)(a:Addr)(xs:List V):Prop:=
 Rd H a (.lst xs)\/
  ∃(o:Obj) (its:Array Value) (n:Nat),K.lookup a=some o/\o.cls= .type "list"/\o.dict=none/\o.data= .seq its n/\its.size<=sizeLine/\Vals xs its.toList
def SqT(K:PySem.W.Frag)(H:Hp)(a:Addr)(xs:List V):Prop:=
 Rd H a (.tup xs)\/
  ∃(o:Obj) (its:Array Value) (n:Nat),K.lookup a=some o/\o.cls= .type "tuple"/\o.data= .seq its n/\its.size<=sizeLine/\Vals xs its.toList
noncomputable def Kp:Value->Option V
 | .none=>some .non
 | .bool b=>some (.bl b)
 | .int i _=>some (.int i)
 | .str x _=>some (.str x)
 | .bytes b _=>some (.byt b)
 | .float b _=>some (.flt b)
 | .ref a=>some (.ref a)
 | .type n=>some (.ty n)
 |_=>none
theorem RelV.abs{x:V}{u:Value}(r:RelV x u):Kp u=some x:=by
 cases x with
 |non=>cases r;rfl
 |bl _=>cases r;rfl
 |int _=>obtain⟨t,rfl⟩:=r;rfl
 |str _=>obtain⟨t,rfl⟩:=r;rfl
 |byt _=>obtain⟨t,rfl⟩:=r;rfl
 |flt _=>obtain⟨t,rfl⟩:=r;rfl
 |ref _=>cases r;rfl
 |ty _=>cases r;rfl
theorem RelV.inj{x y:V}{u:Value}(r:RelV x u)(q:RelV y u):x=y:=aD (r.abs.symm.trans q.abs)
theorem Vals.inj:∀{xs ys:List V} {us:List Value},Vals xs us->Vals ys us->xs=ys
 |_,_,_,.nil,.nil=>rfl
 |_,_,_,.cons r t,.cons r' t'=>by rw[r.inj r',Vals.inj t t']
section
variable{X:Cx}{pins:List (Addr×Obj)}{σ:St}{H:Hp}{s:Shared}{a:Addr}{xs ys:List V}
theorem SqL.of{K:PySem.W.Frag}(h:H a=some (.lst xs)):SqL K H a xs:=.inl (.inl h)
theorem SqT.of{K:PySem.W.Frag}(h:H a=some (.tup xs)):SqT K H a xs:=.inl (.inl h)
theorem Inv.list(I:Inv X pins σ H s)(h:SqL X.K H a xs):∃its:List Value,Vals xs its/\PlainL s.heap a its.toArray/\xs.length<=sizeLine:=by
 rcases h with h|⟨o,its,n,hk,hc,hd,hs,hz,r⟩
 ·obtain⟨z,its,n,r,e⟩:=h.ok I.hok
  exact⟨its,r,⟨_,n,e,rfl,rfl,rfl⟩,z⟩
 ·refine⟨its.toList,r,⟨o,n,I.kIn a o hk,hc,hd,by simpa using hs⟩,?_⟩
  have e:=r.length
  simp only[Array.length_toList]at e
  lia
theorem Inv.tuple(I:Inv X pins σ H s)(h:SqT X.K H a xs):∃its:List Value,Vals xs its/\IsTup s.heap a its.toArray/\xs.length<=sizeLine:=by
 rcases h with h|⟨o,its,n,hk,hc,hs,hz,r⟩
 ·obtain⟨z,its,r,p⟩:=h.ok I.hok
  exact⟨its,r,p,z⟩
 ·refine⟨its.toList,r,⟨o,I.kIn a o hk,hc,n,by simpa using hs⟩,?_⟩
  have e:=r.length
  simp only[Array.length_toList]at e
  lia
theorem Inv.list_inj(I:Inv X pins σ H s)(h:SqL X.K H a xs)(h':SqL X.K H a ys):xs=ys:=by
 obtain⟨its,r,⟨o,n,e,_,_,d⟩,_⟩:=I.list h
 obtain⟨its',r',⟨o',n',e',_,_,d'⟩,_⟩:=I.list h'
 rw[e]at e';cases e'
 rw[d]at d'
 injection d' with d1 _
 have:its=its':=by simpa using bV Array.toList d1
 subst this
 exact r.inj r'
theorem Inv.tuple_inj(I:Inv X pins σ H s)(h:SqT X.K H a xs)(h':SqT X.K H a ys):xs=ys:=by
 obtain⟨its,r,⟨o,e,_,n,d⟩,_⟩:=I.tuple h
 obtain⟨its',r',⟨o',e',_,n',d'⟩,_⟩:=I.tuple h'
 rw[e]at e';cases e'
 rw[d]at d'
 injection d' with d1 _
 have:its=its':=by simpa using bV Array.toList d1
 subst this
 exact r.inj r'
end
noncomputable abbrev Cx.wish(X:Cx)(E:Value->Shared->Prop):Cx:={X with xe:=E}
noncomputable abbrev Cx.nox(X:Cx):Cx:=X.wish fun _ _=>False
theorem Cx.Ok.wish{X:Cx}(ok:X.Ok)(E:Value->Shared->Prop):(X.wish E).Ok:=
 ⟨ok.mod,ok.kind,ok.glob,ok.blt,ok.above,ok.inj,ok.has,ok.cab,ok.hd,ok.frames,ok.stk,ok.exf,ok.bs,ok.bsz,ok.noex,ok.exfs,ok.funs,ok.frf⟩
theorem Cx.Ok.unwish{X:Cx}{E:Value->Shared->Prop}(ok:(X.wish E).Ok):X.Ok:=
 ⟨ok.mod,ok.kind,ok.glob,ok.blt,ok.above,ok.inj,ok.has,ok.cab,ok.hd,ok.frames,ok.stk,ok.exf,ok.bs,ok.bsz,ok.noex,ok.exfs,ok.funs,ok.frf⟩
section
variable{X:Cx}{pins:List (Addr×Obj)}{σ:St}{H:Hp}{s:Shared}{E:Value->Shared->Prop}
theorem Inv.wish(I:Inv X pins σ H s)(E:Value->Shared->Prop):Inv (X.wish E) pins σ H s:=⟨I.ok.wish E,I.os,I.bare,I.base,I.loc,I.cell,I.free,I.freeC,I.pin,I.hok,I.len⟩
theorem Inv.unwish(I:Inv (X.wish E) pins σ H s):Inv X pins σ H s:=⟨I.ok.unwish,I.os,I.bare,I.base,I.loc,I.cell,I.free,I.freeC,I.pin,I.hok,I.len⟩
theorem SP.unwish{D:Ends}{f:Flow}{s':Shared}(h:SP (X.wish E) pins D f s'):SP X pins D f s':=by
 cases f with
 |next=>obtain⟨σ',H',I,q⟩:=h;exact⟨σ',H',I.unwish,q⟩
 |brk=>obtain⟨σ',H',I,q⟩:=h;exact⟨σ',H',I.unwish,q⟩
 |cont=>obtain⟨σ',H',I,q⟩:=h;exact⟨σ',H',I.unwish,q⟩
 |ret u=>obtain⟨v,σ',H',I,r,q⟩:=h;exact⟨v,σ',H',I.unwish,r,q⟩
theorem PSs.nox{st:List Stmt}{t:TS}(h:PSs X.nox st t):PSs X st t:=fun pins s σ H D I hw=>
 dy (h pins s σ H D (I.wish _) hw) (fun _ _ q=>q.unwish) fun _ _ z=>False.elim z
end
section
variable{X:Cx}{st:Stmt}{rest:List Stmt}{t u:TS}{e:Expr}{te:TE}{pos:Pos}
def xZ:TS:=fun D σ H=>D.nx σ H
def oW(t u:TS):TS:=fun D σ H=>t {D with nx:=u D} σ H
theorem i8:PSs X [] xZ:=fun _ _ σ H _ I h=>fV ⟨σ,H,I,h⟩
theorem ik(h1:PS X st t)(h2:PSs X rest u):PSs X (st::rest) (oW t u):=by
 intro pins s σ H D I h
 refine wpAny_execs_cons (iy (h1 pins s σ H {D with nx:=u D} I h) fun f s1 q=>?_)
 cases f with
 |next=>
  obtain⟨σ',H',I',q⟩:=q
  exact h2 pins s1 σ' H' D I' q
 |ret v=>exact q
 |brk=>exact q
 |cont=>exact q
theorem iw(h1:PS X st t):PSs X [st] t:=by
 intro pins s σ H D I h
 refine wpAny_execs_cons (iy (h1 pins s σ H D I h) fun f s1 q=>?_)
 cases f with
 |next=>exact fV q
 |ret v=>exact q
 |brk=>exact q
 |cont=>exact q
theorem Inv.quiet{pins:List (Addr×Obj)}{σ:St}{H:Hp}{s:Shared}(I:Inv X pins σ H s):interactive X.env=false:=by simp[interactive,I.ok.kind]
def yb(te:TE):TS:=fun D σ H=>te σ H fun _ H1=>D.nx σ H1
theorem jV(he:PE X e te)(hs:swapsWith e none pos.line X.env=pure false:=by rfl):PS X (.Expr e pos) (yb te):=by
 intro pins s σ H D I h
 exact wpAny_Expr_any (iy (he pins s σ H _ I h) fun v s1 ⟨x,H1,I1,r1,q1⟩=>⟨σ,H1,I1,q1⟩) I.quiet hs
def xW(te:TE):TS:=fun D σ H=>te σ H D.rt
theorem iG(he:PE X e te):PS X (.Return (some e) pos) (xW te):=by
 intro pins s σ H D I h
 exact wpAny_Return_some (iy (he pins s σ H _ I h) fun v s1 ⟨x,H1,I1,r1,q1⟩=>⟨x,σ,H1,I1,r1,q1⟩)
def Dq:TS:=fun D _ H=>D.rt .non H
def x9(c:TT)(t u:TS):TS:=fun D σ H=>c σ H fun b H1=>if b=true then t D σ H1 else u D σ H1
theorem i7{c:Expr}{a b:List Stmt}{tc:TT}(hc:PT X c tc)(ha:PSs X a t)(hb:PSs X b u):PS X (.If c a b pos) (x9 tc t u):=by
 intro pins s σ H D I h
 refine wpAny_If (iy (hc pins s σ H _ I h) fun d s1 ⟨H1,I1,q1⟩=>?_)
 cases d with
 |true=>exact ha pins s1 σ H1 D I1 q1
 |false=>exact hb pins s1 σ H1 D I1 q1
def Ds:TS:=fun _ _ _=>False
theorem qJ:PS X st Ds:=fun _ _ _ _ _ _ h=>h.elim
end
abbrev TG:=V->St->Hp->(St->Hp->Prop)->Prop
abbrev lG:=List V->St->Hp->(St->Hp->Prop)->Prop
def PG(X:Cx)(target:Expr)(t:TG):Prop:=
 ∀(pins:List (Addr×Obj)) (s:Shared) (σ:St) (H:Hp) (v:V) (u:Value) (Q:St->Hp->Prop),Inv X pins σ H s->RelV v u->t v σ H Q->
  wpAny (model X.prog X.w) X.A (assign target X.env u) (fun _ s'=>∃σ' H',Inv X pins σ' H' s'/\Q σ' H') X.xe s
def PGs(X:Cx)(ts:List Expr)(t:lG):Prop:=
 ∀(pins:List (Addr×Obj)) (s:Shared) (σ:St) (H:Hp) (vs:List V) (us:List Value) (Q:St->Hp->Prop),Inv X pins σ H s->Vals vs us->t vs σ H Q->
  wpAny (model X.prog X.w) X.A (assignInOrder ((assignEach ts X.env).map (·.2)) us) (fun _ s'=>∃σ' H',Inv X pins σ' H' s'/\Q σ' H') X.xe s
abbrev oP:=V->V->V->Hp->(Hp->Prop)->Prop
def PSet(X:Cx)(t:oP):Prop:=
 ∀(pins:List (Addr×Obj)) (s:Shared) (σ:St) (H:Hp) (o i v:V) (ov iv u:Value) (Q:Hp->Prop),Inv X pins σ H s->RelV o ov->RelV i iv->RelV v u->t o i v H Q->
  wpAny (model X.prog X.w) X.A (setItem ov iv u) (fun _ s'=>∃H',Inv X pins σ H' s'/\Q H') X.xe s
abbrev mR:=V->V->Hp->VK->Prop
def oQ(X:Cx)(op:Operator)(t:mR):Prop:=
 ∀(pins:List (Addr×Obj)) (s:Shared) (σ:St) (H:Hp) (x y:V) (v u:Value) (Q:VK),Inv X pins σ H s->RelV x v->RelV y u->t x y H Q->
  wpAny (model X.prog X.w) X.A (inplaceOp op v u) (EP X pins σ Q) X.xe s
section
variable{X:Cx}{pos:Pos}
def mY(i:Nat):TG:=fun v σ H Q=>Q (σ.set i (some v)) H
theorem iE{i:Nat}{x:Str}(hN:X.N.Nodup)(hi:X.N[i]? =some x)(hx:Loc X.env.scope x)(hf:X.fn x=true\/X.env.scope.names.lookup x=some .local:=by first|exact .inl rfl|exact .inr rfl|assumption):PG X (.Name x pos) (mY i):=by
 intro pins s σ H v u Q I r h
 exact wpAny_assign_Name (wD I hN hi hx r (fun s' I'=>⟨_,H,I',h⟩) hf)
def J1:lG:=fun vs σ H Q=>vs=[]/\Q σ H
def J2(t:TG)(u:lG):lG:=fun vs σ H Q=>∃v r,vs=v::r/\t v σ H fun σ' H'=>u r σ' H' Q
theorem Fv:PGs X [] J1:=by
 intro pins s σ H vs us Q I r h
 obtain⟨e,h⟩:=h
 subst e
 cases r
 exact assignInOrder_nil ⟨σ,H,I,h⟩
theorem Gf{e:Expr}{es:List Expr}{t:TG}{u:lG}(h1:PG X e t)(h2:PGs X es u)
  (hs:(assignEach (e::es) X.env).map (·.2)=assign e X.env::(assignEach es X.env).map (·.2):=by rfl):PGs X (e::es) (J2 t u):=by
 intro pins s σ H vs us Q I r h
 obtain⟨v,vr,e1,h⟩:=h
 subst e1
 cases r with
 |cons r rr=>
  rw[hs]
  refine assignInOrder_cons (iy (h1 pins s σ H _ _ _ I r h) fun _ s1 ⟨σ1,H1,I1,q1⟩=>?_)
  exact h2 pins s1 σ1 H1 _ _ Q I1 rr q1
def J0(K:PySem.W.Frag)(n:Nat)(t:lG):TG:=fun v σ H Q=>∃a xs,v= .ref a/\SqT K H a xs/\xs.length=n/\t xs σ H Q
theorem Ea{es:List Expr}{k:Nat}{t:lG}{n:Nat}(hc:X.calm=true)(h:PGs X es t)
  (hn:(assignEach es X.env).length=n:=by rfl) (hst:(assignEach es X.env).findIdx? (·.1)=none:=by rfl):PG X (.Tuple es k pos) (J0 X.K n t):=by
 intro pins s σ H v u Q I r hw
 obtain⟨a,xs,e1,hq,hl,hw⟩:=hw
 subst e1
 cases r
 obtain⟨its,rv,ht,hz⟩:=I.tuple hq
 refine assign_Tuple_tuple (I.ok.hd hc) ht (by simp [hn,<- hl,rv.length]) hst fun h' hx=>?_
 have I1:Inv X pins σ H {s with heap:=h'}:=I.kept (t':=s.toks) fun b o e=>hx b o (bj (aL e)) e
 exact h pins _ σ H xs _ Q I1 (by simpa using rv) hw
def CM(to ti:TE)(t:oP):TG:=fun v σ H Q=>to σ H fun o H1=>ti σ H1 fun i H2=>t o i v H2 fun H3=>Q σ H3
theorem sg{o i:Expr}{to ti:TE}{t:oP}(ho:PE X o to)(hi:PE X i ti)(hs:PSet X t)
  (ha:∀ v,assign (.Subscript o i pos) X.env v = (do
   let ov <- holding [v] (eval o X.env)
   let iv <- holding [v,ov] (eval i X.env)
   standAt pos
   holding [v,ov,iv] (setItem ov iv v)
   release [v,ov,iv] []):=by intro _;rfl):PG X (.Subscript o i pos) (CM to ti t):=by
 intro pins s σ H v u Q I r h
 rw[ha]
 refine ae (cM (iy (ho pins s σ H _ I h) fun ov s1 ⟨x,H1,I1,r1,q1⟩=>?_))
 refine ae (cM (iy (hi pins s1 σ H1 _ I1 q1) fun iv s2 ⟨y,H2,I2,r2,q2⟩=>?_))
 refine ae (gu (ae (cM (iy (hs pins s2 σ H2 x y v ov iv u _ I2 r1 r2 r q2) fun _ s3 ⟨H3,I3,q3⟩=>?_))))
 exact wpAny_release ⟨σ,H3,I3,q3⟩
def rp(te:TE)(g:TG):TS:=fun D σ H=>te σ H fun x H1=>g x σ H1 D.nx
theorem si{tg e:Expr}{te:TE}{g:TG}(he:PE X e te)(hg:PG X tg g)(hs:swapsWithSole [tg] e pos.line X.env=pure false:=by rfl)(hw:swappedStores [tg] e X.env=pure none:=by rfl)
  (h1:(assignEach [tg] X.env).map (·.2)=[assign tg X.env]:=by rfl):PS X (.Assign [tg] e pos) (rp te g):=by
 intro pins s σ H D I h
 refine wpAny_Assign_stores (iy (he pins s σ H _ I h) fun v s1 ⟨x,H1,I1,r1,q1⟩=>?_) hs hw
 rw[h1]
 exact iy (hg pins s1 σ H1 x v _ I1 r1 q1) fun _ s2 q=>q
theorem iH{i:Nat}{x:Str}{e:Expr}{te:TE}{pos':Pos}(hN:X.N.Nodup)(hi:X.N[i]? =some x)(hx:Loc X.env.scope x)(he:PE X e te)(hs:swapsWith e (some (.Name x pos')) pos.line X.env=pure false:=by rfl)(hf:X.fn x=true\/X.env.scope.names.lookup x=some .local:=by first|exact .inl rfl|exact .inr rfl|assumption):
  PS X (.Assign [.Name x pos'] e pos) (rp te (mY i)):=by
 intro pins s σ H D I h
 refine wpAny_Assign_Name (iy (he pins s σ H _ I h) fun v s1 ⟨y,H1,I1,r1,q1⟩=>?_) hs
 exact wD I1 hN hi hx r1 (fun s2 I2=>⟨_,H1,I2,q1⟩) hf
def Dw(i:Nat)(te:TE)(ti:mR):TS:=fun D σ H=>∃x,σ[i]? =some (some x)/\te σ H fun y H1=>ti x y H1 fun z H2=>D.nx (σ.set i (some z)) H2
theorem D8{i:Nat}{x:Str}{e:Expr}{te:TE}{op:Operator}{ti:mR}{pos':Pos}(hN:X.N.Nodup)(hi:X.N[i]? =some x)(hx:Loc X.env.scope x)(he:PE X e te)(ho:oQ X op ti)(hf:X.fn x=true\/X.env.scope.names.lookup x=some .local:=by first|exact .inl rfl|exact .inr rfl|assumption):
  PS X (.AugAssign (.Name x pos') op e pos) (Dw i te ti):=by
 intro pins s σ H D I h
 obtain⟨v,e1,h⟩:=h
 obtain⟨m,hn,hl⟩:=I.loc
 have vis:uB X.env.scope x:=by rcases hx with k|k;exact .inl k;exact .inr (.inl k)
 obtain⟨u,r,l⟩:=hl i x v hi e1 vis
 refine wpAny_AugAssign_Name ?_
 have go:wpAny (model X.prog X.w) X.A (eval e X.env) (fun w s₂=>wpAny (model X.prog X.w) X.A (inplaceOp op u w) (fun r s₃=>wpAny (model X.prog X.w) X.A (storeName X.env x r) (fun _=>SP X pins D .next) X.xe s₃) X.xe s₂) X.xe s:=by
  refine iy (he pins s σ H _ I h) fun w s1 ⟨y,H1,I1,r1,q1⟩=>?_
  refine iy (ho pins s1 σ H1 v y u w _ I1 r r1 q1) fun z s2 ⟨zv,H2,I2,r2,q2⟩=>?_
  exact wD I2 hN hi hx r2 (fun s3 I3=>⟨_,H2,I3,q2⟩) hf
 rcases l with⟨hk,hm⟩|⟨hk,c,hc,hcell⟩
 ·exact wpAny_loadName_local I.ok.kind hk hn hm go
 ·rcases hk with hk|hk
  ·exact wpAny_loadName_cell I.ok.kind hk hc hcell go
  ·rcases hx with k|k
   ·have:X.env.scope.names.lookup x=some .free:=hk
    rw[k]at this;cases this
   ·have:X.env.scope.names.lookup x=some .free:=hk
    rw[k]at this;cases this
def yf(to ti te:TE)(tget:V->V->Hp->VK->Prop)(tip:mR)(tset:oP):TS:=fun D σ H=>to σ H fun o H1=>ti σ H1 fun i H2=>tget o i H2 fun x H3=>te σ H3 fun y H4=>tip x y H4 fun z H5=>tset o i z H5 fun H6=>D.nx σ H6
def C7(X:Cx)(t:V->V->Hp->VK->Prop):Prop:=
 ∀(pins:List (Addr×Obj)) (s:Shared) (σ:St) (H:Hp) (o i:V) (ov iv:Value) (Q:VK),Inv X pins σ H s->RelV o ov->RelV i iv->t o i H Q->
  wpAny (model X.prog X.w) X.A (getItem ov iv) (EP X pins σ Q) X.xe s
theorem zS{o i e:Expr}{to ti te:TE}{tget:V->V->Hp->VK->Prop}{tip:mR}{tset:oP}{op:Operator}{tpos:Pos}(ho:PE X o to)(hi:PE X i ti)(hg:C7 X tget)(he:PE X e te)(hp:oQ X op tip)(hs:PSet X tset)
  (ha:∀ ov iv new,augStore i ov iv new = (do holding [new,ov,iv] (setItem ov iv new); release [new,ov,iv] []; pure .next):=by intros; rfl):PS X (.AugAssign (.Subscript o i tpos) op e pos) (yf to ti te tget tip tset):=by
 intro pins s σ H D I h
 refine wpAny_AugAssign_SubscriptAny (iy (ho pins s σ H _ I h) fun ov s1 ⟨x1,H1,I1,r1,q1⟩=>?_) ha
 refine iy (hi pins s1 σ H1 _ I1 q1) fun iv s2 ⟨x2,H2,I2,r2,q2⟩=>?_
 refine iy (hg pins s2 σ H2 x1 x2 ov iv _ I2 r1 r2 q2) fun old s3 ⟨x3,H3,I3,r3,q3⟩=>?_
 refine iy (he pins s3 σ H3 _ I3 q3) fun v s4 ⟨x4,H4,I4,r4,q4⟩=>?_
 refine iy (hp pins s4 σ H4 x3 x4 old v _ I4 r3 r4 q4) fun new s5 ⟨x5,H5,I5,r5,q5⟩=>?_
 exact iy (hs pins s5 σ H5 x1 x2 x5 ov iv new _ I5 r1 r2 r5 q5) fun _ s6 ⟨H6,I6,q6⟩=>⟨σ,H6,I6,q6⟩
end
section
variable{X:Cx}{pos:Pos}
def zu(c:TT)(tb:TS):TS:=fun D σ H=>∃W:Nat->St->Hp->Prop,(∃m,W m σ H)/\∀m σ H,W m σ H->
 c σ H fun b H1=>if b=true then ∃N:St->Hp->Prop,(∀σ' H',N σ' H'->∃m',m'<m/\W m' σ' H')/\tb {D with nx:=N,ct:=N,bk:=D.nx} σ H1 else D.nx σ H1
theorem tJ{c:Expr}{body:List Stmt}{tc:TT}{tb:TS}(hp:PassesOwn (model X.prog X.w) X.A X.env X.xe)(hc:PT X c tc)(hb:PSs X body tb):PS X (.While c body [] pos) (zu tc tb):=by
 intro pins s σ H D I h
 obtain⟨W,⟨m0,w0⟩,turn⟩:=h
 refine wpAny_While (codeAny_whileLoop (fun n s'=>∃σ' H',Inv X pins σ' H' s'/\W n σ' H') ?_ m0 ⟨σ,H,I,w0⟩)
 rintro n s1 ⟨σ1,H1,I1,w1⟩
 refine dG hp (iy (hc pins s1 σ1 H1 _ I1 (turn n σ1 H1 w1)) fun b s2 ⟨H2,I2,q2⟩=>?_)
 cases b with
 | true=>
  obtain⟨N,hN,q2⟩:=q2
  rw[aH rfl]
  refine dG hp (iy (hb pins s2 σ1 H2 _ I2 q2) fun f s3 q3=>?_)
  cases f with
  |next=>
   obtain⟨σ3,H3,I3,n3⟩:=q3
   obtain⟨m',hm,w3⟩:=hN σ3 H3 n3
   exact⟨m',hm,σ3,H3,I3,w3⟩
  |cont=>
   obtain⟨σ3,H3,I3,n3⟩:=q3
   obtain⟨m',hm,w3⟩:=hN σ3 H3 n3
   exact⟨m',hm,σ3,H3,I3,w3⟩
  |brk=>exact q3
  |ret v=>exact q3
 |false=>
  rw[aE aW]
  exact fV ⟨σ1,H2,I2,q2⟩
end
structure It where
 go:Nat->Hp->Prop
 yld:Nat->Hp->V->Hp->Prop
 stop:Nat->Hp->Prop
def lP(X:Cx)(pins:List (Addr×Obj))(H:Hp)(b:Addr):Prop:=
 H b=none/\b≠X.env.locals/\b∉X.fs/\(b∈X.ex\/X.s₀.heap.objs.size<=b)/\(∀x c,X.env.cells.lookup x=some c->c≠b)/\∀p∈X.pn++pins,p.1≠b
theorem Inv.fpOk{X:Cx}{pins:List (Addr×Obj)}{σ:St}{H H':Hp}{s:Shared}{b:Addr}(I:Inv X pins σ H s)(hb:s.heap.objs.size<=b)(hn:H' b=none):lP X pins H' b:=by
 refine⟨hn,dD (bD I.lt hb),I.nofs hb,.inr (br I.sz hb),fun x c e z=>?_,fun p hp z=>?_⟩
 ·obtain⟨v,q⟩:=I.cell x c e
  exact absurd (bD q.lt (by rw[z];exact hb)) (cN _)
 ·exact absurd (bD (aL (I.pin p hp).1) (by rw[z];exact hb)) (cN _)
structure Turn(P:Program)(w:World)(K:PySem.W.Frag)(tg:Expr)(J:It)(fp:List Addr)(it:Addr)(tn:Nat->Heap->Prop):Prop where
 mem:it∈fp
 obj:∀i h,tn i h->∀b∈fp,∃o,h.get? b=some o/\∀v,o.data≠ .cell v
 keep:∀i h h',tn i h->(∀b∈fp,∀o,h.get? b=some o->h'.get? b=some o)->tn i h'
 item:∀(X:Cx),X.prog=P->X.w=w->X.K=K->X.calm=true->∀(i:Nat) (pins:List (Addr×Obj)) (s:Shared) (σ:St) (H:Hp) (E:Value->Shared->Prop),Inv X pins σ H s->(∀b∈fp,lP X pins H b)->tn i s.heap->J.go i H->
  wpAny (model P w) X.A (pyNext (.ref it)) (fun r s1=>∃u,r=some u/\
   wpAny (model P w) X.A (letOwnedTupleGo tg (.ref it) u) (fun _ s2=>∃x H',Inv X pins σ H' s2/\RelV x u/\J.yld i H x H'/\tn (i+1) s2.heap/\∀b∈fp,H' b=none) E s1) E s
 done:∀(X:Cx),X.prog=P->X.w=w->X.K=K->X.calm=true->∀(i:Nat) (pins:List (Addr×Obj)) (s:Shared) (σ:St) (H:Hp) (E:Value->Shared->Prop),Inv X pins σ H s->(∀b∈fp,lP X pins H b)->tn i s.heap->J.stop i H->
  wpAny (model P w) X.A (pyNext (.ref it)) (fun r s1=>r=none/\Inv X pins σ H s1) E s
 self:∀(A:Around) (i:Nat) (s:Shared) (Q:Value->Shared->Prop) (E:Value->Shared->Prop),tn i s.heap->Q (.ref it) s->wpAny (model P w) A (pyIter (.ref it)) Q E s
abbrev TI:=St->Hp->(It->Hp->Prop)->Prop
def xO(X:Cx)(pins:List (Addr×Obj))(σ:St)(tg:Expr)(R:It->Hp->Prop)(itv:Value)(s2:Shared):Prop:=
 ∃(it:Addr) (fp:List Addr) (tn:Nat->Heap->Prop) (J:It) (H':Hp),itv= .ref it/\Inv X pins σ H' s2/\Turn X.prog X.w X.K tg J fp it tn/\tn 0 s2.heap/\(∀b∈fp,lP X pins H' b)/\R J H'
def PI(X:Cx)(tg iter:Expr)(wi:TI):Prop:=
 ∀(pins:List (Addr×Obj)) (s:Shared) (σ:St) (H:Hp) (R:It->Hp->Prop),Inv X pins σ H s->wi σ H R->
  wpAny (model X.prog X.w) X.A (eval iter X.env) (fun v s1=>wpAny (model X.prog X.w) X.A (pyIter v) (xO X pins σ tg R) X.xe s1) X.xe s
theorem uY {M:Model}{A:Around}{E:Value->Shared->Prop}{s:Shared}{tg:Expr}{it:Addr}{u:Value}{o:Obj}{n:String}{vs:Array Value}{Q:Unit->Shared->Prop}(ho:s.heap.get? it=some o)(hc:o.cls= .type n)(hd:o.data= .fields vs)
    (hn:["enumerate","zip","dict_itemiterator","dict_reverseitemiterator","odict_iterator","itertools.zip_longest","itertools.pairwise"].contains n=false) (hQ:Q () s):wpAny M A (letOwnedTupleGo tg (.ref it) u) Q E s:=by
  unfold letOwnedTupleGo
  cases tg <;>first
    |exact aI hQ
    | (cases u<;>first
        |exact aI hQ
        | (refine ae (wpAny_load ho ?_)
           rw[hc,hd]
           show wpAny M A (if(["enumerate","zip","dict_itemiterator","dict_reverseitemiterator","odict_iterator","itertools.zip_longest","itertools.pairwise"].contains n&&vs[0]? ==some (rawInt _))=true then _ else _) Q E s
           rw[aE (by intro h;rw[hn,cR]at h;cases h)]
           exact aI hQ))
def i6(K:PySem.W.Frag)(a:Addr):It:=
 ⟨fun i H=>∃xs x,SqL K H a xs/\xs[i]? =some x,fun i H x H'=>H'=H/\∀xs,SqL K H a xs->xs[i]? =some x,fun i H=>∃xs,SqL K H a xs/\xs.length<=i⟩
def pO(K:PySem.W.Frag)(a:Addr):It:=
 ⟨fun i H=>∃xs x,SqT K H a xs/\xs[i]? =some x,fun i H x H'=>H'=H/\∀xs,SqT K H a xs->xs[i]? =some x,fun i H=>∃xs,SqT K H a xs/\xs.length<=i⟩
def lO(lo:Int)(n:Nat):It:=⟨fun i _=>i<n,fun i H x H'=>H'=H/\x= .int (lo+i),fun i _=>n<=i⟩
theorem Hl{P:Program}{w:World}{K:PySem.W.Frag}{tg:Expr}(a it:Addr):Turn P w K tg (i6 K a) [it] it (fun i h=>h.IsListIter it a i)where
 mem:=by simp
 obj:=fun i h st b hb=>by
  have e:b=it:=by simpa using hb
  subst e
  obtain⟨o,e,c,d⟩:=st
  exact⟨o,e,fun v z=>by rw[d]at z;cases z⟩
 keep:=fun i h h' st k=>st.at fun o e=>k it (by simp) o e
 item:=by
  intro X hP hw hK hc i pins s σ H E I hf st hg
  subst hP hw hK
  obtain⟨xs,x,hq,hx⟩:=hg
  obtain⟨its,rv,p,hz⟩:=I.list hq
  obtain⟨u,hu,ru⟩:=rv.get hx
  obtain⟨f0,f1,f2,f3,f4,f5⟩:=hf it (by simp)
  refine fO st p.isList (x:=u) (by simpa using hu) fun h' st' sb=>?_
  have I1:Inv X pins σ H {s with heap:=h'}:=I.turned (t':=s.toks) (fun b o hb e=>(sb.2 b hb).trans e) f0 f1 f3 f4 f5
  obtain⟨o,e,c,d⟩:=id st'
  exact⟨u,rfl,uY (s:={s with heap:=h'}) e c d (by decide) ⟨x,H,I1,ru,⟨rfl,fun ys hy=>by rw[I.list_inj hy hq];exact hx⟩,st',fun b hb=>(hf b hb).1⟩⟩
 done:=by
  intro X hP hw hK hc i pins s σ H E I hf st hg
  subst hP hw hK
  obtain⟨xs,hq,hx⟩:=hg
  obtain⟨its,rv,p,hz⟩:=I.list hq
  obtain⟨f0,f1,f2,f3,f4,f5⟩:=hf it (by simp)
  have hl:=rv.length
  exact fY (I.ok.hd hc) st p.isList (by simp;lia) fun h' eb=>⟨rfl,I.turned (t':=s.toks) (fun b o hb e=>eb b o hb e) f0 f1 f3 f4 f5⟩
 self:=fun _ _ _ _ _ st h=>wpAny_pyIter_listiter st h
theorem Iz{P:Program}{w:World}{K:PySem.W.Frag}{tg:Expr}(a it:Addr):Turn P w K tg (pO K a) [it] it (fun i h=>h.IsTupleIter it a i)where
 mem:=by simp
 obj:=fun i h st b hb=>by
  have e:b=it:=by simpa using hb
  subst e
  obtain⟨o,e,c,d⟩:=st
  exact⟨o,e,fun v z=>by rw[d]at z;cases z⟩
 keep:=fun i h h' st k=>st.at fun o e=>k it (by simp) o e
 item:=by
  intro X hP hw hK hc i pins s σ H E I hf st hg
  subst hP hw hK
  obtain⟨xs,x,hq,hx⟩:=hg
  obtain⟨its,rv,p,hz⟩:=I.tuple hq
  obtain⟨u,hu,ru⟩:=rv.get hx
  obtain⟨f0,f1,f2,f3,f4,f5⟩:=hf it (by simp)
  refine wpAny_pyNext_tuple_item st (show s.heap.IsTuple a its.toArray from p) (x:=u) (by simpa using hu) fun h' st' sb=>?_
  have I1:Inv X pins σ H {s with heap:=h'}:=I.turned (t':=s.toks) (fun b o hb e=>(sb.2 b hb).trans e) f0 f1 f3 f4 f5
  obtain⟨o,e,c,d⟩:=id st'
  exact⟨u,rfl,uY (s:={s with heap:=h'}) e c d (by decide) ⟨x,H,I1,ru,⟨rfl,fun ys hy=>by rw[I.tuple_inj hy hq];exact hx⟩,st',fun b hb=>(hf b hb).1⟩⟩
 done:=by
  intro X hP hw hK hc i pins s σ H E I hf st hg
  subst hP hw hK
  obtain⟨xs,hq,hx⟩:=hg
  obtain⟨its,rv,p,hz⟩:=I.tuple hq
  obtain⟨f0,f1,f2,f3,f4,f5⟩:=hf it (by simp)
  have hl:=rv.length
  exact wpAny_pyNext_tuple_end (I.ok.hd hc) st (show s.heap.IsTuple a its.toArray from p) (by simp;lia) fun h' eb=>⟨rfl,I.turned (t':=s.toks) (fun b o hb e=>eb b o hb e) f0 f1 f3 f4 f5⟩
 self:=fun _ _ _ _ _ st h=>wpAny_pyIter_tupleiter st h
theorem Iy{P:Program}{w:World}{K:PySem.W.Frag}{tg:Expr}(it:Addr)(lo:Int)(n:Nat):Turn P w K tg (lO lo n) [it] it (fun i h=>IsRangeIter h it (lo+(i:Nat)*1) ((n:Int)-(i:Nat)) 1)where
 mem:=by simp
 obj:=fun i h st b hb=>by
  have e:b=it:=by simpa using hb
  subst e
  exact⟨_,st,fun v z=>by
   have z':Data.fields _=Data.cell v:=z
   cases z'⟩
 keep:=fun i h h' st k=>k it (by simp) _ st
 item:=by
  intro X hP hw hK hc i pins s σ H E I hf st hg
  subst hP hw hK
  obtain⟨f0,f1,f2,f3,f4,f5⟩:=hf it (by simp)
  have W:=Walks.range (prog:=X.prog) (w:=X.w) (I.ok.hd hc) it lo 1 n
  refine W.item i s _ _ hg st fun v h' tk hv st' kk=>?_
  obtain⟨t,rfl⟩:=hv
  have I1:Inv X pins σ H {s with heap:=h',toks:=tk}:=I.turned (fun b o hb e=>kk b o (by simpa using hb) e) f0 f1 f3 f4 f5
  refine⟨_,rfl,uY (s:={s with heap:=h',toks:=tk}) (n:="range_iterator") st' rfl rfl (by decide) ⟨.int (lo+i),H,I1,⟨t,?_⟩,⟨rfl,rfl⟩,st',fun b hb=>(hf b hb).1⟩⟩
  rw[Int.mul_one]
 done:=by
  intro X hP hw hK hc i pins s σ H E I hf st hg
  subst hP hw hK
  obtain⟨f0,f1,f2,f3,f4,f5⟩:=hf it (by simp)
  exact wpAny_pyNext_range_end (I.ok.hd hc) st (by have:n<=i:=hg;lia) fun h' eb=>⟨rfl,I.turned (t':=s.toks) (fun b o hb e=>eb b o hb e) f0 f1 f3 f4 f5⟩
 self:=fun _ _ _ _ _ st h=>wpAny_pyIter_rangeiter st h
section
variable{X:Cx}{tg:Expr}
def jc(K:PySem.W.Frag)(tl:TE):TI:=fun σ H R=>tl σ H fun x H1=>∃a,x= .ref a/\(∃xs,SqL K H1 a xs)/\R (i6 K a) H1
def qR(K:PySem.W.Frag)(tl:TE):TI:=fun σ H R=>tl σ H fun x H1=>∃a,x= .ref a/\(∃xs,SqT K H1 a xs)/\R (pO K a) H1
theorem jg{l:Expr}{tl:TE}(hl:PE X l tl):PI X tg l (jc X.K tl):=by
 intro pins s σ H R I h
 refine iy (hl pins s σ H _ I h) fun v s1 ⟨x,H1,I1,r1,q1⟩=>?_
 obtain⟨a,e,⟨xs,hq⟩,q⟩:=q1
 subst e
 cases r1
 obtain⟨its,rv,p,hz⟩:=I1.list hq
 refine dM p.isList ?_
 refine⟨s1.heap.objs.size,[s1.heap.objs.size],_,_,H1,rfl,I1.kept (t':=s1.toks) fun b o e=>ag _ e,Hl a _,⟨_,aQ _ rfl,rfl,rfl⟩,fun b hb=>?_,q⟩
 have e:b=s1.heap.objs.size:=by simpa using hb
 subst e
 exact I1.fpOk (aF _) (I1.hok.fresh (aF _))
theorem sh{l:Expr}{tl:TE}(hl:PE X l tl):PI X tg l (qR X.K tl):=by
 intro pins s σ H R I h
 refine iy (hl pins s σ H _ I h) fun v s1 ⟨x,H1,I1,r1,q1⟩=>?_
 obtain⟨a,e,⟨xs,hq⟩,q⟩:=q1
 subst e
 cases r1
 obtain⟨its,rv,p,hz⟩:=I1.tuple hq
 refine gA (show s1.heap.IsTuple a its.toArray from p) ?_
 refine⟨s1.heap.objs.size,[s1.heap.objs.size],_,_,H1,rfl,I1.kept (t':=s1.toks) fun b o e=>ag _ e,Iz a _,⟨_,aQ _ rfl,rfl,rfl⟩,fun b hb=>?_,q⟩
 have e:b=s1.heap.objs.size:=by simpa using hb
 subst e
 exact I1.fpOk (aF _) (I1.hok.fresh (aF _))
theorem AX{pins:List (Addr×Obj)}{σ:St}{H:Hp}{s:Shared}{R:It->Hp->Prop}{E:Value->Shared->Prop}{lo hi:Int}{t u v:Tok}{tk:Nat}(I:Inv X pins σ H s)(h1:-(2^62)<=lo)(h2:lo<2^62)(h3:-(2^62)<=hi)(h4:hi<2^62)
  (q:R (lO lo (hi-lo).toNat) H):wpAny (model X.prog X.w) X.A (pyIter (.ref s.heap.objs.size)) (xO X pins σ tg R) E {s with heap:=s.heap.push {cls:=.type "range",data:=.fields #[.int lo t,.int hi u,.int 1 v]},toks:=tk}:=by
 refine wpAny_pyIter_range (IsRange.new ..) (small_one h1 h2 h3 h4) ?_
 have I1:Inv X pins σ H {s with heap:=s.heap.push {cls:=.type "range",data:=.fields #[.int lo t,.int hi u,.int 1 v]},toks:=tk}:=I.kept fun b o e=>ag _ e
 refine⟨(s.heap.push {cls:=.type "range",data:=.fields #[.int lo t,.int hi u,.int 1 v]}).objs.size,[(s.heap.push {cls:=.type "range",data:=.fields #[.int lo t,.int hi u,.int 1 v]}).objs.size],_,_,H,rfl,
  I1.kept (t':=tk) fun b o e=>ag _ e,Iy _ lo (hi-lo).toNat,?_,fun b hb=>?_,q⟩
 ·have e1:lo+((0:Nat):Int)*1=lo:=by simp
  have e2:(((hi-lo).toNat:Nat):Int)-((0:Nat):Int)=Builtin.Range.rangeSize lo hi 1:=by rw[rangeSize_one];split<;>lia
  show IsRangeIter _ _ (lo+((0:Nat):Int)*1) ((((hi-lo).toNat:Nat):Int)-((0:Nat):Int)) 1
  rw[e1,e2]
  exact aQ _ rfl
 ·have e:b=(s.heap.push {cls:=.type "range",data:=.fields #[.int lo t,.int hi u,.int 1 v]}).objs.size:=by simpa using hb
  subst e
  exact I1.fpOk (aF _) (I1.hok.fresh (aF _))
def oo(ta:TA):TI:=fun σ H R=>ta σ H fun vs H1=>∃j:Int,vs=[.int j]/\-(2^62)<=j/\j<2^62/\R (lO 0 j.toNat) H1
def CK(ta:TA):TI:=fun σ H R=>ta σ H fun vs H1=>∃i j:Int,vs=[.int i,.int j]/\(-(2^62)<=i/\i<2^62/\-(2^62)<=j/\j<2^62)/\R (lO i (j-i).toNat) H1
theorem oO{a:Expr}{ta:TA}{p pos:Pos}(hg:Gl X "range")(hm:X.mg "range"=none)(ha:PA X [a] ta)(hs:starEach [a] X.env=[(false,eval a X.env)]:=by rfl):PI X tg (.Call (.Name "range" p) [a] [] pos) (oo ta):=by
 intro pins s σ H R I h
 refine Call_ (nc I hg hm boot_range (cL (iy (ha pos pins s σ H _ I h) fun us s1 ⟨vs,H1,I1,r1,q1⟩=>?_) hs rfl))
 obtain⟨j,e,q1,q2,q⟩:=q1
 subst e
 cases r1 with
 |cons r rr=>
  cases rr
  obtain⟨t,rfl⟩:=r
  exact call_range_1 (AX I1 (by lia) (by lia) q1 q2 (by simpa using q))
theorem G8{a b:Expr}{ta:TA}{p pos:Pos}(hg:Gl X "range")(hm:X.mg "range"=none)(ha:PA X [a,b] ta)(hs:starEach [a,b] X.env=[(false,eval a X.env),(false,eval b X.env)]:=by rfl)(hs2:starEach [b] X.env=[(false,eval b X.env)]:=by rfl):
  PI X tg (.Call (.Name "range" p) [a,b] [] pos) (CK ta):=by
 intro pins s σ H R I h
 refine Call_ (nc I hg hm boot_range (cL (iy (ha pos pins s σ H _ I h) fun us s1 ⟨vs,H1,I1,r1,q1⟩=>?_) (by rw[hs,hs2]) (by rw[hs2];rfl)))
 obtain⟨i,j,e,⟨q1,q2,q3,q4⟩,q⟩:=q1
 subst e
 cases r1 with
 | cons r rr=>
  cases rr with
  |cons r' rr=>
   cases rr
   obtain⟨t,rfl⟩:=r
   obtain⟨t',rfl⟩:=r'
   exact call_range_2 (AX I1 q1 q2 q3 q4 q)
def uK(wi:TI)(g:TG)(tb:TS):TS:=fun D σ H=>wi σ H fun J H1=>∃W:Nat->Nat->St->Hp->Prop,(∃m,W 0 m σ H1)/\∀i m σ H,W i m σ H->
 (J.stop i H/\D.nx σ H)\/(J.go i H/\∃N:St->Hp->Prop,(∀σ' H',N σ' H'->∃m',m'<m/\W (i+1) m' σ' H')/\∀x H',J.yld i H x H'->g x σ H' fun σ2 H2=>tb {D with nx:=N,ct:=N,bk:=D.nx} σ2 H2)
def ql(fp:List Addr)(h:Heap):List (Addr×Obj):=fp.filterMap fun b=>(h.get? b).map fun o=>(b,o)
theorem uq{fp:List Addr}{h:Heap}{b:Addr}{o:Obj}(hb:b∈fp)(e:h.get? b=some o):(b,o)∈ql fp h:=List.mem_filterMap.mpr ⟨b,hb,by rw[e];rfl⟩
theorem GV{fp:List Addr}{h:Heap}{p:Addr×Obj}(hp:p∈ql fp h):p.1∈fp/\h.get? p.1=some p.2:=by
 obtain⟨b,hb,e⟩:=List.mem_filterMap.mp hp
 cases q:h.get? b with
 |none=>rw[q]at e;cases e
 |some o=>
  rw[q]at e
  have e':(b,o)=p:=aD e
  subst e'
  exact⟨hb,q⟩
theorem Inv.pinned{pins:List (Addr×Obj)}{σ:St}{H:Hp}{s:Shared}{fp:List Addr}(I:Inv X pins σ H s)(hf:∀b∈fp,lP X pins H b)(ho:∀b∈fp,∃o,s.heap.get? b=some o/\∀v,o.data≠ .cell v):Inv X (pins++ql fp s.heap) σ H s:=
 I.pins_of fun p hp=>(bz.mp hp).elim (fun z=>I.pin p (bK _ z)) fun z=>by
  obtain⟨hb,e⟩:=GV z
  obtain⟨f0,f1,f2,_⟩:=hf p.1 hb
  obtain⟨o,e',d⟩:=ho p.1 hb
  rw[e]at e';cases e'
  exact⟨e,f0,f1,f2,d⟩
theorem Inv.unpinned{pins pl:List (Addr×Obj)}{σ:St}{H:Hp}{s:Shared}(I:Inv X (pins++pl) σ H s):Inv X pins σ H s:=I.pins_of fun p hp=>I.pin p (bK _ (dg _ hp))
theorem j0{iter:Expr}{body:List Stmt}{wi:TI}{g:TG}{tb:TS}{pos:Pos}(hp:PassesOwn (model X.prog X.w) X.A X.env X.xe)(hc:X.calm=true)(hi:PI X tg iter wi)(hg:PG X tg g)(hb:PSs X body tb)
  (hs:∀x,foldedSetIterable iter X.env x=pure x:=by intro _;rfl):PS X (.For tg iter body [] pos) (uK wi g tb):=by
 intro pins s σ H D I h
 refine wpAny_For (iy (hi pins s σ H _ I h) fun v s1 h1=>iy h1 fun itv s2 h2=>?_) hs
 obtain⟨it,fp,tn,J,H2,e,I2,T,st2,f2,W,⟨m0,w0⟩,turn⟩:=h2
 subst e
  -- what stays true of the iterator's objects through the loop
 have stat:∀{H':Hp},(∀b∈fp,H' b=none)->∀b∈fp,lP X pins H' b:=fun hn b hb=>⟨hn b hb,(f2 b hb).2⟩
 refine codeAny_forLoop_any (fun n s'=>∃i σ' H',Inv X pins σ' H' s'/\tn i s'.heap/\(∀b∈fp,H' b=none)/\W i n σ' H') ?_ m0 ⟨0,σ,H2,I2,st2,fun b hb=>(f2 b hb).1,w0⟩
 rintro n s3 ⟨i,σ3,H3,I3,st3,fr3,w3⟩
 rcases turn i n σ3 H3 w3 with⟨stop,qn⟩|⟨go,N,hN,step⟩
 ·refine dG hp (iy (T.done X rfl rfl rfl hc i pins s3 σ3 H3 X.xe I3 (stat fr3) st3 stop) fun r s4 ⟨hr,I4⟩=>?_)
  subst hr
  exact fV ⟨σ3,H3,I4,qn⟩
 ·refine dG hp (iy (T.item X rfl rfl rfl hc i pins s3 σ3 H3 X.xe I3 (stat fr3) st3 go) fun r s4 ⟨u,hr,h4⟩=>?_)
  subst hr
  refine dG hp (iy h4 fun _ s5 ⟨x,H5,I5,r5,y5,st5,fr5⟩=>?_)
  have I5':=I5.pinned (stat fr5) (T.obj _ _ st5)
  refine dG hp (iy (hg _ s5 σ3 H5 x u _ I5' r5 (step x H5 y5)) fun _ s6 ⟨σ6,H6,I6,q6⟩=>?_)
  refine dG hp (iy (hb _ s6 σ6 H6 _ I6 q6) fun f s7 q7=>?_)
  have again:∀{σ7:St} {H7:Hp},Inv X (pins++ql fp s5.heap) σ7 H7 s7->N σ7 H7->∃m,m<n/\∃i σ' H',Inv X pins σ' H' s7/\tn i s7.heap/\(∀b∈fp,H' b=none)/\W i m σ' H':=fun{σ7 H7} I7 n7=>by
   obtain⟨m',hm,w7⟩:=hN σ7 H7 n7
   refine⟨m',hm,i+1,σ7,H7,I7.unpinned,T.keep _ _ _ st5 fun b hb o e=>(I7.pin (b,o) (bK _ (bK _ (uq hb e)))).1,fun b hb=>?_,w7⟩
   obtain⟨o,e,d⟩:=T.obj _ _ st5 b hb
   exact(I7.pin (b,o) (bK _ (bK _ (uq hb e)))).2.1
  cases f with
  |next=>obtain⟨σ7,H7,I7,n7⟩:=q7;exact again I7 n7
  |cont=>obtain⟨σ7,H7,I7,n7⟩:=q7;exact again I7 n7
  |brk=>obtain⟨σ7,H7,I7,q7⟩:=q7;exact⟨σ7,H7,I7.unpinned,q7⟩
  |ret v=>obtain⟨x7,σ7,H7,I7,r7,q7⟩:=q7;exact⟨x7,σ7,H7,I7.unpinned,r7,q7⟩
end
theorem lD{K:PySem.W.Frag}{a:Addr}{xs:List V}{g:TG}{tb:TS}{D:Ends}{σ:St}{H:Hp}(Pv:Nat->St->Hp->Prop)(h0:Pv 0 σ H)(hl:∀i σ H,i<=xs.length->Pv i σ H->SqL K H a xs)
  (hs:∀i x σ H,xs[i]? =some x->Pv i σ H->g x σ H fun σ2 H2=>tb {D with nx:=Pv (i+1),ct:=Pv (i+1),bk:=D.nx} σ2 H2) (hd:∀σ H,Pv xs.length σ H->D.nx σ H):
  ∃W:Nat->Nat->St->Hp->Prop,(∃m,W 0 m σ H)/\∀i m σ H,W i m σ H->
   ((i6 K a).stop i H/\D.nx σ H)\/((i6 K a).go i H/\∃N:St->Hp->Prop,(∀σ' H',N σ' H'->∃m',m'<m/\W (i+1) m' σ' H')/\∀x H',(i6 K a).yld i H x H'->g x σ H' fun σ2 H2=>tb {D with nx:=N,ct:=N,bk:=D.nx} σ2 H2):=by
 refine⟨fun i m σ H=>m=xs.length-i/\i<=xs.length/\Pv i σ H,⟨xs.length,by simp,bM _,h0⟩,?_⟩
 rintro i m σ H ⟨rfl,hi,p⟩
 have q:=hl i σ H hi p
 by_cases hlt:i<xs.length
 ·refine .inr ⟨⟨xs,xs[i],q,by simp[hlt]⟩,Pv (i+1),fun σ' H' p'=>⟨xs.length-(i+1),by lia,rfl,hlt,p'⟩,fun x H' y=>?_⟩
  obtain⟨e,y⟩:=y
  subst e
  exact hs i x σ _ (y xs q) p
 ·have e:i=xs.length:=by lia
  subst e
  exact .inl ⟨⟨xs,q,aF _⟩,hd σ H p⟩
theorem oN{lo:Int}{n:Nat}{g:TG}{tb:TS}{D:Ends}{σ:St}{H:Hp}(Pv:Nat->St->Hp->Prop)(h0:Pv 0 σ H)
  (hs:∀i σ H,i<n->Pv i σ H->g (.int (lo+i)) σ H fun σ2 H2=>tb {D with nx:=Pv (i+1),ct:=Pv (i+1),bk:=D.nx} σ2 H2) (hd:∀σ H,Pv n σ H->D.nx σ H):
  ∃W:Nat->Nat->St->Hp->Prop,(∃m,W 0 m σ H)/\∀i m σ H,W i m σ H->
   ((lO lo n).stop i H/\D.nx σ H)\/((lO lo n).go i H/\∃N:St->Hp->Prop,(∀σ' H',N σ' H'->∃m',m'<m/\W (i+1) m' σ' H')/\∀x H',(lO lo n).yld i H x H'->g x σ H' fun σ2 H2=>tb {D with nx:=N,ct:=N,bk:=D.nx} σ2 H2):=by
 refine⟨fun i m σ H=>m=n-i/\i<=n/\Pv i σ H,⟨n,by simp,bM _,h0⟩,?_⟩
 rintro i m σ H ⟨rfl,hi,p⟩
 by_cases hlt:i<n
 ·refine .inr ⟨hlt,Pv (i+1),fun σ' H' p'=>⟨n-(i+1),by lia,rfl,hlt,p'⟩,fun x H' y=>?_⟩
  obtain⟨e,y⟩:=y
  subst e y
  exact hs i σ _ hlt p
 ·have e:i=n:=by lia
  subst e
  exact .inl ⟨aF _,hd σ H p⟩
theorem tP{c:TT}{tb:TS}{D:Ends}{σ:St}{H:Hp}(Pv:St->Hp->Prop)(μ:St->Hp->Nat)(h0:Pv σ H)
  (hs:∀σ H,Pv σ H->c σ H fun b H1=>if b=true then tb {D with nx:=fun σ' H'=>Pv σ' H'/\μ σ' H'<μ σ H,ct:=fun σ' H'=>Pv σ' H'/\μ σ' H'<μ σ H,bk:=D.nx} σ H1 else D.nx σ H1)
  (mono:∀σ H Q Q',(∀b H1,Q b H1->Q' b H1)->c σ H Q->c σ H Q'):zu c tb D σ H:=by
 refine⟨fun m σ H=>m=μ σ H/\Pv σ H,⟨_,rfl,h0⟩,?_⟩
 rintro m σ H ⟨rfl,p⟩
 refine mono σ H _ _ (fun b H1 q=>?_) (hs σ H p)
 cases b with
 |true=>exact⟨_,fun σ' H' ⟨p',l⟩=>⟨_,l,rfl,p'⟩,q⟩
 |false=>exact q
abbrev R2:=V->V->Hp->VK->Prop
def OpR(X:Cx)(f:Value->Value->Sem Value)(r:R2):Prop:=
 ∀(pins:List (Addr×Obj)) (s:Shared) (σ:St) (H:Hp) (x y:V) (v u:Value) (Q:VK),Inv X pins σ H s->RelV x v->RelV y u->r x y H Q->
  wpAny (model X.prog X.w) X.A (f v u) (EP X pins σ Q) X.xe s
def uC(X:Cx)(f:Value->Sem Value)(r:V->Hp->VK->Prop):Prop:=
 ∀(pins:List (Addr×Obj)) (s:Shared) (σ:St) (H:Hp) (x:V) (v:Value) (Q:VK),Inv X pins σ H s->RelV x v->r x H Q->
  wpAny (model X.prog X.w) X.A (f v) (EP X pins σ Q) X.xe s
def jct(X:Cx)(f:Value)(r:List V->Hp->VK->Prop):Prop:=
 ∀(pins:List (Addr×Obj)) (s:Shared) (σ:St) (H:Hp) (xs:List V) (us:List Value) (Q:VK),Inv X pins σ H s->Vals xs us->r xs H Q->
  wpAny (model X.prog X.w) X.A (call f us) (EP X pins σ Q) X.xe s
def Kq(X:Cx)(r:V->Hp->(Bool->Hp->Prop)->Prop):Prop:=
 ∀(pins:List (Addr×Obj)) (s:Shared) (σ:St) (H:Hp) (x:V) (v:Value) (Q:Bool->Hp->Prop),Inv X pins σ H s->RelV x v->r x H Q->
  wpAny (model X.prog X.w) X.A (truthy v) (TP X pins σ Q) X.xe s
def nE(r:R2)(ta tb:TE):TE:=fun σ H Q=>ta σ H fun x H1=>tb σ H1 fun y H2=>r x y H2 Q
def xS(r:V->Hp->VK->Prop)(ta:TE):TE:=fun σ H Q=>ta σ H fun x H1=>r x H1 Q
def rI(C:Int->Int->Prop)(g:Int->Int->V):R2:=fun x y H Q=>∃i j,x= .int i/\y= .int j/\C i j/\Q (g i j) H
def mF(g:Int->Int->V):R2:=fun x y H Q=>∃i j,x= .int i/\y= .int j/\Q (g i j) H
def rU(g:Int->V):V->Hp->VK->Prop:=fun x H Q=>∃i,x= .int i/\Q (g i) H
section
variable{X:Cx}{a b c:Expr}{ta tb tc:TE}{pos:Pos}
theorem xK(ha:PE X a ta)(hb:PE X b tb){pins:List (Addr×Obj)}{s:Shared}{σ:St}{H:Hp}{R:V->V->Hp->Prop}(I:Inv X pins σ H s)
  (h:ta σ H fun x H1=>tb σ H1 fun y H2=>R x y H2) {Q:Value->Shared->Prop} {f:Value->Value->Sem Value}
  (hf:∀v u s2 x y H2,Inv X pins σ H2 s2->RelV x v->RelV y u->R x y H2->wpAny (model X.prog X.w) X.A (f v u) Q X.xe s2):
  wpAny (model X.prog X.w) X.A (eval a X.env) (fun v s₁=>wpAny (model X.prog X.w) X.A (eval b X.env) (fun u s₂=>wpAny (model X.prog X.w) X.A (f v u) Q X.xe s₂) X.xe s₁) X.xe s:=by
 refine iy (ha pins s σ H _ I h) fun v s1 ⟨x,H1,I1,r1,q1⟩=>?_
 refine iy (hb pins s1 σ H1 _ I1 q1) fun u s2 ⟨y,H2,I2,r2,q2⟩=>?_
 exact hf v u s2 x y H2 I2 r1 r2 q2
theorem iQ{op:Operator}{r:R2}(ho:OpR X (binaryOp op) r)(ha:PE X a ta)(hb:PE X b tb):PE X (.BinOp a op b pos) (nE r ta tb):=by
 intro pins s σ H Q I h
 exact wpAny_BinOp (xK ha hb I h fun v u s2 x y H2 I2 rx ry q=>ho pins s2 σ H2 x y v u Q I2 rx ry q)
theorem kZ{op:UnaryOp}{r:V->Hp->VK->Prop}(ho:uC X (unaryOp op) r)(ha:PE X a ta):PE X (.UnaryOp op a pos) (xS r ta):=by
 intro pins s σ H Q I h
 exact UnaryOp_ (iy (ha pins s σ H _ I h) fun v s1 ⟨x,H1,I1,r1,q1⟩=>ho pins s1 σ H1 x v Q I1 r1 q1)
theorem rF{f:Value->Value->Sem Value}{C:Int->Int->Prop}{g:Int->Int->Int}
  (rule:∀(i j:Int) (t u:Tok) (s:Shared) (Q:Value->Shared->Prop) (E:Value->Shared->Prop),C i j->Q (.int (g i j) s.toks) {s with toks:=s.toks+1}->wpAny (model X.prog X.w) X.A (f (.int i t) (.int j u)) Q E s):
  OpR X f (rI C fun i j=>.int (g i j)):=by
 intro pins s σ H x y v u Q I rx ry h
 obtain⟨i,j,rfl,rfl,hc,q⟩:=h
 obtain⟨t,rfl⟩:=rx
 obtain⟨t',rfl⟩:=ry
 exact rule i j t t' s _ _ hc ⟨.int (g i j),H,I.tok _,⟨_,rfl⟩,q⟩
theorem uM{f:Value->Value->Sem Value}{g:Int->Int->Int}
  (rule:∀(i j:Int) (t u:Tok) (s:Shared) (Q:Value->Shared->Prop) (E:Value->Shared->Prop),Q (.int (g i j) s.toks) {s with toks:=s.toks+1}->wpAny (model X.prog X.w) X.A (f (.int i t) (.int j u)) Q E s):
  OpR X f (mF fun i j=>.int (g i j)):=by
 intro pins s σ H x y v u Q I rx ry h
 obtain⟨i,j,rfl,rfl,q⟩:=h
 obtain⟨t,rfl⟩:=rx
 obtain⟨t',rfl⟩:=ry
 exact rule i j t t' s _ _ ⟨.int (g i j),H,I.tok _,⟨_,rfl⟩,q⟩
theorem rG{f:Value->Value->Sem Value}{g:Int->Int->Bool}
  (rule:∀(i j:Int) (t u:Tok) (s:Shared) (Q:Value->Shared->Prop) (E:Value->Shared->Prop),Q (.bool (g i j)) s->wpAny (model X.prog X.w) X.A (f (.int i t) (.int j u)) Q E s):
  OpR X f (mF fun i j=>.bl (g i j)):=by
 intro pins s σ H x y v u Q I rx ry h
 obtain⟨i,j,rfl,rfl,q⟩:=h
 obtain⟨t,rfl⟩:=rx
 obtain⟨t',rfl⟩:=ry
 exact rule i j t t' s _ _ ⟨.bl (g i j),H,I,rfl,q⟩
def uI(i j:Int):Prop:=0<j/\j<1073741824
def uH(i j:Int):Prop:=0<=j/\j<=1000000/\i.natAbs<2^64
def CMul(i j:Int):Prop:=(-(2^64)<i/\i<2^64)\/(-(2^64)<j/\j<2^64)
theorem CMul.ok{i j:Int}(h:CMul i j):IntMulOk i j:=by
 rcases h with⟨h1,h2⟩|⟨h1,h2⟩
 ·exact .of_left (intBits_le_64 h1 h2)
 ·exact .of_right (intBits_le_64 h1 h2)
theorem Et:OpR X (binaryOp .Add) (mF fun i j=>.int (i+j)):=uM fun _ _ _ _ _ _ _ q=>add_int q
theorem Ef:OpR X (binaryOp .Sub) (mF fun i j=>.int (i-j)):=uM fun _ _ _ _ _ _ _ q=>sub_int q
theorem Ei:OpR X (binaryOp .Mult) (rI CMul fun i j=>.int (i*j)):=rF fun _ _ _ _ _ _ _ hc q=>mul_int q hc.ok
theorem Fo:OpR X (binaryOp .FloorDiv) (rI uI fun i j=>.int (i/j)):=rF fun i j _ _ _ _ _ hc q=>by
 have h1:(0:Int)<j:=hc.1
 have h2:j<1073741824:=hc.2
 exact floordiv_int (by lia) (by rw[hX i (by lia)];exact q) (.inl (PyProof.noPylong_small (by lia)))
theorem Ej:OpR X (binaryOp .Mod) (rI (fun _ j=>0<j) fun i j=>.int (i%j)):=rF fun i j _ _ _ _ _ hc q=>by
 have h1:(0:Int)<j:=hc
 exact mod_int' (by lia) (by rw[Int.fmod_eq_emod_of_nonneg i (by lia)];exact q)
theorem Eg:OpR X (binaryOp .Pow) (rI uH fun i j=>.int (i^j.toNat)):=rF fun _ _ _ _ _ _ _ hc q=>pow_int_small hc.1 hc.2.1 hc.2.2 q
theorem E5:OpR X (inplaceOp .Add) (mF fun i j=>.int (i+j)):=uM fun _ _ _ _ _ _ _ q=>iadd_int q
theorem unI{f:Value->Sem Value}{g:Int->Int}
  (rule:∀(i:Int) (t:Tok) (s:Shared) (Q:Value->Shared->Prop) (E:Value->Shared->Prop),Q (.int (g i) s.toks) {s with toks:=s.toks+1}->wpAny (model X.prog X.w) X.A (f (.int i t)) Q E s):
  uC X f (rU fun i=>.int (g i)):=by
 intro pins s σ H x v Q I rx h
 obtain⟨i,rfl,q⟩:=h
 obtain⟨t,rfl⟩:=rx
 exact rule i t s _ _ ⟨.int (g i),H,I.tok _,⟨_,rfl⟩,q⟩
theorem Dj:uC X (unaryOp .USub) (rU fun i=>.int (-i)):=unI fun _ _ _ _ _ q=>neg_int q
end
noncomputable def yj:V->V->Bool
 | .non,.non=>true| .non,.int _=>true| .int _,.non=>true| .non,.bl _=>true| .bl _,.non=>true| .non,.str _=>true| .str _,.non=>true
 | .int _,.int _=>true| .bl _,.bl _=>true| .str _,.str _=>true| .byt _,.byt _=>true
 | .int _,.str _=>true| .str _,.int _=>true| .bl _,.str _=>true| .str _,.bl _=>true
 |_,_=>false
def DX:R2:=fun x y H Q=>yj x y=true/\Q (.bl (decide (x=y))) H
def DR:R2:=fun x y H Q=>yj x y=true/\Q (.bl (!decide (x=y))) H
theorem zD{i j:Int}:decide (V.int i=V.int j)=(i==j):=by
 rw[bP]
 simp
theorem yF{i j:Bool}:decide (V.bl i=V.bl j)=(i==j):=by
 rw[bP]
 simp
theorem zE{i j:Str}:decide (V.str i=V.str j)=(i==j):=by
 rw[bP]
 simp
theorem zC{i j:Array UInt8}:decide (V.byt i=V.byt j)=(i.toList==j.toList):=by
 rw[bP]
 cases i
 cases j
 simp
section
variable{X:Cx}{a b c:Expr}{ta tb tc:TE}{pos:Pos}
theorem jI{pins:List (Addr×Obj)}{σ:St}{H:Hp}{s:Shared}{Q:VK}{k k':Bool}(I:Inv X pins σ H s)(q:Q (.bl k) H)(e:k=k'):EP X pins σ Q (.bool k') s:=by
 subst e
 exact⟨.bl k,H,I,rfl,q⟩
theorem Er:OpR X (compareOp .Eq) DX:=by
 intro pins s σ H x y v u Q I rx ry h
 obtain⟨hs,q⟩:=h
 cases x with
 |non=>
  cases rx
  cases y with
  |non=>cases ry;exact PySem.EqNone.eq_none_none (jI I q (by simp))
  |bl j=>cases ry;exact PySem.EqNone.eq_none_bool (jI I q (by simp))
  |int j=>obtain⟨t',rfl⟩:=ry;exact PySem.EqNone.eq_none_int (jI I q (by simp))
  |str j=>obtain⟨t',rfl⟩:=ry;exact PySem.EqNone.eq_none_str (jI I q (by simp))
  |_=>exact absurd (show false=true from hs) aW
 |bl i=>
  cases rx
  cases y with
  |non=>cases ry;exact PySem.EqNone.eq_bool_none (jI I q (by simp))
  |bl j=>cases ry;exact eq_bool (jI I q yF)
  |str j=>obtain⟨t',rfl⟩:=ry;exact PySem.EqMixed.eq_bool_str (jI I q (by simp))
  |_=>exact absurd (show false=true from hs) aW
 |int i=>
  obtain⟨t,rfl⟩:=rx
  cases y with
  |non=>cases ry;exact PySem.EqNone.eq_int_none (jI I q (by simp))
  |int j=>obtain⟨t',rfl⟩:=ry;exact eq_int (jI I q zD)
  |str j=>obtain⟨t',rfl⟩:=ry;exact PySem.EqMixed.eq_int_str (jI I q (by simp))
  |_=>exact absurd (show false=true from hs) aW
 |str i=>
  obtain⟨t,rfl⟩:=rx
  cases y with
  |non=>cases ry;exact PySem.EqNone.eq_str_none (jI I q (by simp))
  |bl j=>cases ry;exact PySem.EqMixed.eq_str_bool (jI I q (by simp))
  |int j=>obtain⟨t',rfl⟩:=ry;exact PySem.EqMixed.eq_str_int (jI I q (by simp))
  |str j=>obtain⟨t',rfl⟩:=ry;exact eq_str (jI I q zE)
  |_=>exact absurd (show false=true from hs) aW
 |byt i=>
  obtain⟨t,rfl⟩:=rx
  cases y with
  |byt j=>obtain⟨t',rfl⟩:=ry;exact PySem.W.eq_bytes (jI I q zC)
  |_=>exact absurd (show false=true from hs) aW
 |_=>cases y<;>exact absurd (show false=true from hs) aW
theorem Eh:OpR X (compareOp .NotEq) DR:=by
 intro pins s σ H x y v u Q I rx ry h
 obtain⟨hs,q⟩:=h
 cases x with
 |non=>
  cases rx
  cases y with
  |non=>cases ry;exact PySem.EqNone.ne_none_none (jI I q (by simp))
  |bl j=>cases ry;exact PySem.EqNone.ne_none_bool (jI I q (by simp))
  |int j=>obtain⟨t',rfl⟩:=ry;exact PySem.EqNone.ne_none_int (jI I q (by simp))
  |str j=>obtain⟨t',rfl⟩:=ry;exact PySem.EqNone.ne_none_str (jI I q (by simp))
  |_=>exact absurd (show false=true from hs) aW
 |bl i=>
  cases rx
  cases y with
  |non=>cases ry;exact PySem.EqNone.ne_bool_none (jI I q (by simp))
  |bl j=>cases ry;exact ne_bool (jI I q (bV not yF))
  |str j=>obtain⟨t',rfl⟩:=ry;exact PySem.EqMixed.ne_bool_str (jI I q (by simp))
  |_=>exact absurd (show false=true from hs) aW
 |int i=>
  obtain⟨t,rfl⟩:=rx
  cases y with
  |non=>cases ry;exact PySem.EqNone.ne_int_none (jI I q (by simp))
  |int j=>obtain⟨t',rfl⟩:=ry;exact ne_int (jI I q (bV not zD))
  |str j=>obtain⟨t',rfl⟩:=ry;exact PySem.EqMixed.ne_int_str (jI I q (by simp))
  |_=>exact absurd (show false=true from hs) aW
 |str i=>
  obtain⟨t,rfl⟩:=rx
  cases y with
  |non=>cases ry;exact PySem.EqNone.ne_str_none (jI I q (by simp))
  |bl j=>cases ry;exact PySem.EqMixed.ne_str_bool (jI I q (by simp))
  |int j=>obtain⟨t',rfl⟩:=ry;exact PySem.EqMixed.ne_str_int (jI I q (by simp))
  |str j=>obtain⟨t',rfl⟩:=ry;exact ne_str (jI I q (bV not zE))
  |_=>exact absurd (show false=true from hs) aW
 |byt i=>
  obtain⟨t,rfl⟩:=rx
  cases y with
  |byt j=>obtain⟨t',rfl⟩:=ry;exact PySem.W.ne_bytes (jI I q (bV not zC))
  |_=>exact absurd (show false=true from hs) aW
 |_=>cases y<;>exact absurd (show false=true from hs) aW
theorem El:OpR X (compareOp .Lt) (mF fun i j=>.bl (decide (i<j))):=rG fun _ _ _ _ _ _ _ q=>lt_int q
theorem Em:OpR X (compareOp .LtE) (mF fun i j=>.bl (decide (i<=j))):=rG fun _ _ _ _ _ _ _ q=>le_int q
theorem Eo:OpR X (compareOp .Gt) (mF fun i j=>.bl (decide (j<i))):=rG fun _ _ _ _ _ _ _ q=>gt_int q
theorem Ep:OpR X (compareOp .GtE) (mF fun i j=>.bl (decide (j<=i))):=rG fun _ _ _ _ _ _ _ q=>ge_int q
theorem Fp:OpR X (compareOp .IsNot) (fun x y H Q=>y= .non/\Q (.bl (!decide (x= .non))) H):=by
 intro pins s σ H x y v u Q I rx ry h
 obtain⟨rfl,q⟩:=h
 cases ry
 refine isnot_none_gen (jI I q ?_)
 cases x<;>first
  |(cases rx;rfl)
  |(obtain⟨t,rfl⟩:=rx;rfl)
theorem iL(b:Expr){op:CmpOp}(h:op≠ .In:=by decide)(h2:op≠ .NotIn:=by decide):behindInMarks op b=false:=by
 have e1:(op==CmpOp.In)=false:=by cases op<;>first|rfl|exact absurd rfl h
 have e2:(op==CmpOp.NotIn)=false:=by cases op<;>first|rfl|exact absurd rfl h2
 cases b<;>simp[behindInMarks,e1,e2]
theorem kG{op:CmpOp}{r:R2}(ho:OpR X (compareOp op) r)(ha:PE X a ta)(hb:PE X b tb)(hm:behindInMarks op b=false):PE X (.Compare a [op] [b] pos) (nE r ta tb):=by
 intro pins s σ H Q I h
 exact wpAny_Compare1 (xK ha hb I h fun v u s2 x y H2 I2 rx ry q=>ho pins s2 σ H2 x y v u Q I2 rx ry q) hm
def C6(K:PySem.W.Frag)(x:V)(H:Hp)(k:Bool):Prop:=
 match x with
 | .non=>k=false
 | .bl b=>k=b
 | .int i=>k=(i !=0)
 | .str y=>y.length<=sizeLine/\k=((y.length:Int) !=0)
 | .byt y=>y.size<=sizeLine/\k=((y.size:Int) !=0)
 | .ref p=>(∃xs,SqL K H p xs/\k= !xs.isEmpty)\/(∃xs,SqT K H p xs/\k= !xs.isEmpty)\/∃kvs,H p=some (.dK kvs)/\k= !kvs.isEmpty
 |_=>False
theorem Hz{κ:Type}{kvs:List (κ×V)}{vs:List (κ×Value)}(r:KV kvs vs):(!vs.isEmpty)= !kvs.isEmpty:=by
 cases r<;>rfl
theorem BQ{xs:List V}{its:List Value}(r:Vals xs its):(!its.toArray.isEmpty)= !xs.isEmpty:=by
 cases r<;>simp
theorem oE:(sizeLine:Nat)<2^63:=by rw[gT];decide
theorem Dl:Kq X (fun x H Q=>∃k,C6 X.K x H k/\Q k H):=by
 intro pins s σ H x v Q I rx h
 obtain⟨k,e,q⟩:=h
 have hl:=oE
 have hs:sizeLine=16777216:=gT
 cases x with
 |non=>
  cases rx
  have e':k=false:=e
  subst e'
  exact truthy_none ⟨H,I,q⟩
 |bl b=>
  cases rx
  have e':k=b:=e
  subst e'
  exact cj ⟨H,I,q⟩
 |int i=>
  obtain⟨t,rfl⟩:=rx
  have e':k=(i !=0):=e
  subst e'
  exact PySem.P.truthy_int ⟨H,I,q⟩
 |str y=>
  obtain⟨t,rfl⟩:=rx
  obtain⟨hy,e'⟩:y.length<=sizeLine/\k=((y.length:Int) !=0):=e
  subst e'
  exact PySem.P.truthy_str (by lia) ⟨H,I.tok _,q⟩
 |byt y=>
  obtain⟨t,rfl⟩:=rx
  obtain⟨hy,e'⟩:y.size<=sizeLine/\k=((y.size:Int) !=0):=e
  subst e'
  exact PySem.W.truthy_bytes (by lia) ⟨H,I.tok _,q⟩
 | ref p=>
  cases rx
  have e':(∃xs,SqL X.K H p xs/\k= !xs.isEmpty)\/(∃xs,SqT X.K H p xs/\k= !xs.isEmpty)\/∃kvs,H p=some (.dK kvs)/\k= !kvs.isEmpty:=e
  rcases e' with⟨xs,hx,e'⟩|⟨xs,hx,e'⟩|⟨kvs,hx,e'⟩
  ·subst e'
   obtain⟨its,r,pl,hz⟩:=I.list hx
   have hlen:=r.length
   exact wpAny_truthy_list pl.isList (by simp only[aC];lia) ⟨H,I.tok _,by rw[BQ r];exact q⟩
  ·subst e'
   obtain⟨its,r,pl,hz⟩:=I.tuple hx
   have hlen:=r.length
   exact truthy_tuple pl (by simp only[aC];lia) ⟨H,I.tok _,by rw[BQ r];exact q⟩
  ·subst e'
   obtain⟨hz,hS,vs,r,m⟩:kvs.length<=sizeLine/\(p==sysModules)=false/\∃vs,KV kvs vs/\s.heap.DictOf (jY X.prog X.w) p vs:=I.hok p _ hx
   have hlen:kvs.length=vs.length:=ao r
   exact wpAny_truthy_dict hS m (by lia) ⟨H,I.tok _,by rw[Hz r];exact q⟩
 |_=>exact(show False from e).elim
theorem Gj (ha:PE X a ta) (he:∀ whole,isTrue a X.env whole = (do let v <- whole; standAt a.pos; holding [v] (truthy v))) :
  PT X a (fun σ H Q=>ta σ H fun x H'=>∃k,C6 X.K x H' k/\Q k H'):=by
 intro pins s σ H Q I h
 exact isTrue_plain (iy (ha pins s σ H _ I h) fun v s1 ⟨x,H1,I1,r1,q1⟩=>Dl pins s1 σ H1 x v Q I1 r1 q1) (he _)
theorem mL{x:V}{us:List Value}(r:Vals [x] us):∃u,us=[u]/\RelV x u:=by
 cases r with
 |cons r1 r2=>cases r2;exact⟨_,rfl,r1⟩
theorem vals2{x y:V}{us:List Value}(r:Vals [x,y] us):∃u w',us=[u,w']/\RelV x u/\RelV y w':=by
 cases r with
 |cons r1 r2=>
  cases r2 with
  |cons r3 r4=>cases r4;exact⟨_,_,rfl,r1,r3⟩
theorem Gw(hc:X.calm=true):jct X (.builtin "max") (fun xs H Q=>∃i j,xs=[.int i,.int j]/\Q (.int (if j>i then j else i)) H):=by
 intro pins s σ H xs us Q I r h
 obtain⟨i,j,rfl,q⟩:=h
 obtain⟨u,w',rfl,⟨t,rfl⟩,⟨t',rfl⟩⟩:=vals2 r
 refine max_two_ints (I.ok.hd hc) fun h' tk k=>⟨_,H,I.kept k,?_,q⟩
 by_cases hj:j>i
 ·rw[aH hj,aH hj];exact⟨_,rfl⟩
 ·rw[aE hj,aE hj];exact⟨_,rfl⟩
theorem Gx(hc:X.calm=true):jct X (.builtin "min") (fun xs H Q=>∃i j,xs=[.int i,.int j]/\Q (.int (if j<i then j else i)) H):=by
 intro pins s σ H xs us Q I r h
 obtain⟨i,j,rfl,q⟩:=h
 obtain⟨u,w',rfl,⟨t,rfl⟩,⟨t',rfl⟩⟩:=vals2 r
 refine min_two_ints (I.ok.hd hc) fun h' tk k=>⟨_,H,I.kept k,?_,q⟩
 by_cases hj:j<i
 ·rw[aH hj,aH hj];exact⟨_,rfl⟩
 ·rw[aE hj,aE hj];exact⟨_,rfl⟩
theorem Gv:jct X (.type "int") (fun xs H Q=>(∃i,xs=[.int i]/\Q (.int i) H)\/∃k,xs=[.bl k]/\Q (.int (if k then 1 else 0)) H):=by
 intro pins s σ H xs us Q I r h
 rcases h with⟨i,rfl,q⟩|⟨k,rfl,q⟩
 ·obtain⟨u,rfl,t,rfl⟩:=mL r
  exact call_int_int ⟨.int i,H,I,⟨_,rfl⟩,q⟩
 ·obtain⟨u,rfl,r1⟩:=mL r
  cases r1
  exact call_int_bool ⟨.int (if k then 1 else 0),H,I.tok _,⟨_,rfl⟩,q⟩
end
structure ObjM(h:Heap)(x dx C:Addr)(mA:Str->Option Value):Prop where
 obj:h.get? x=some (PySem.W.instObj C dx)
 ns:h.Ns1 dx mA
 ne:dx≠x
theorem GP{h:Heap}{dx:Addr}{mA:Str->Option Value}(n:h.Ns1 dx mA):∃od,h.get? dx=some od/\∀name,PySem.W.lookIn name od=some (mA name):=by
 obtain⟨o,es,ep,ho,hd,hk,_,hm⟩:=n
 refine⟨o,ho,fun name=>?_⟩
 have e:=hm name
 unfold nsFind findBy at e
 rw [<- Array.find?_toList] at e
 unfold PySem.W.lookIn
 rw[hd]
 dsimp only
 split
 ·rename_i y q
  rw[q]at e
  exact bV some e
 ·rename_i q
  rw[q]at e
  have a:es.toList.any (·.refKey)=false:=by
   rw[List.any_eq_false]
   intro y hy
   obtain⟨z,t,hkey⟩:=hk y (Array.mem_toList_iff.mp hy)
   simp[DictEntry.refKey,hkey]
  have a':¬es.toList.any (·.refKey)=true:=by rw[a];exact aW
  rw[aE a']
  exact bV some e
theorem ObjM.look{h:Heap}{x dx C:Addr}{mA:Str->Option Value}(I:ObjM h x dx C mA):∃od,PySem.W.InstAt h x (PySem.W.instObj C dx) C (some od)/\∀name,PySem.W.lookIn name od=some (mA name):=
 let⟨od,ho,hl⟩:=GP I.ns
 ⟨od,⟨I.obj,rfl,rfl,ho⟩,hl⟩
section
variable{prog:Program}{w:World}{A:Around}{E:Value->Shared->Prop}{s:Shared}{K:PySem.W.Frag}{x dx C f:Addr}{mA:Str->Option Value}{name:Str}{v:Value}
theorem EZ{expr:Bool}{Q:Value->Shared->Prop}(X:K.In s.heap)(I:ObjM s.heap x dx C mA)(hg:PySem.W.plainGet K C name=true)(hh:PySem.W.hasDictIn K C=true)
  (ha:PySem.W.findIn K (.ref C) name=some none) (hv:mA name=some v) (hv':PySem.W.handedIn v=true) (h:Q v {s with toks:=s.toks+1}):
  wpAny (model prog w) A (getAttr (.ref x) name expr) Q E s:=by
 obtain⟨od,J,hl⟩:=I.look
 exact PySem.W.get_value X J (gq hg).1 (PySem.W.findObj_own hh ha rfl (by rw[hl,hv])) hv' h
theorem FW{pl:Sem Bool}{Q:Value×List Value->Shared->Prop}(X:K.In s.heap)(I:ObjM s.heap x dx C mA)(hg:PySem.W.plainGet K C name=true)
  (hf:PySem.W.findIn K (.ref C) name=some (some (.ref f))) (ht:PySem.W.isFn K (.ref f)=true) (hv:mA name=none) (h:Q (.ref f,[.ref x]) s):
  wpAny (model prog w) A (getMethod (.ref x) name pl) Q E s:=by
 obtain⟨od,J,hl⟩:=I.look
 exact PySem.W.method_fn X J (gq hg).1 (gq hg).2 hf (gC.mp ht) (by show(PySem.W.lookIn name od).map (·.isSome)=some false;rw[hl,hv];rfl) h
theorem FE{ns:List Str}{Q:Unit->Shared->Prop}(X:K.In s.heap)(I:ObjM s.heap x dx C mA)
  (hs:PySem.W.findIn K (.ref C) "__setattr__"=some (some (.builtin "object.__setattr__"))) (hp:PySem.W.plainOver K C=true) (ht:PySem.W.takerIn K C name=some none) (hh:PySem.W.hasDictIn K C=true)
  (hw:PySem.Within mA ns) (hsz:ns.length<=sizeLine)
  (h:∀h',ObjM h' x dx C (fun y=>if y=name then some v else mA y)->Heap.SameBut dx s.heap h'->Q () {s with heap:=h',toks:=s.toks+2}):
  wpAny (model prog w) A (setAttr (.ref x) name v) Q E s:=by
 obtain⟨od,J,hl⟩:=I.look
 refine PySem.W.set_plain X J hs (PySem.W.osa_open (s:={s with toks:=s.toks+1}) (r:=none) X J hp ht fun b=>?_)
 obtain⟨cd,hc,hd'⟩:=PySem.W.any_some hh
 have hx:s.heap.get? x=some ⟨.ref C,some dx,.plain,#[]⟩:=I.obj
 refine ae (aI (ae (ae (wpAny_loadPart hx (ae (PySem.W.Looks.here (s:={s with toks:=s.toks+1}) (PySem.W.looks_clsIn X hc) ?_))))))
 rw[hd']
 refine aI (a:=some dx) (ae (aI (ae ?_)))
 refine wpAny_nsSet1 (s:={s with toks:=s.toks+1}) I.ns fun h' hn2 hs2=>?_
 obtain⟨oD,esD,epD,hoD,hdD,hcD⟩:=hn2.count (PySem.Within.cons name v hw)
 refine ae (wpAny_lookBehind hoD (by rw[hdD];exact pastItsLine_dict (br hcD (by rw[List.length_cons];lia))) ?_)
 exact aI (h _ ⟨(hs2.2 _ (cS I.ne)).trans I.obj,hn2,I.ne⟩ hs2)
theorem F1{R:Result->Shared->Prop}{vs:List Value}{kw:List (Str×Value)}(X:K.In s.heap)(hm:PySem.W.makesIn K C=true)
  (hi:PySem.W.findIn K (.ref C) "__init__"=some (some (.ref f))) (hf:PySem.W.typeIn K (.ref f)=some (.type "function"))
  (h:codeAny (model prog w) (A.under (.builtin "type.__call__" ⟨.ref C::vs,kw⟩)) (.call (.ref f) ⟨.ref (s.heap.objs.size+1)::vs,kw⟩) (PySem.W.InitBack (s.heap.objs.size+1) R)
   {s with heap:=(s.heap.push PySem.W.emptyDict).push (PySem.W.instObj C s.heap.objs.size)}):
  codeAny (model prog w) A (.call (.ref C) ⟨vs,kw⟩) R s:=by
 obtain⟨hh,g,d,t,os⟩:=s
 exact PySem.W.make_core (PySem.W.makes_of X hm) (PySem.W.looks_findIn X hi) (fun self=>PySem.W.bind_fn X self hf) (.inl rfl) h
end
noncomputable def jn(f:Str)(v:V):List (Str×V)->List (Str×V)
 |[]=>[(f,v)]
 |(g,x)::r=>if g=f then(g,v)::r else(g,x)::jn f v r
theorem Cc(f g:Str)(v:V):∀fs:List (Str×V),(jn f v fs).lookup g=if g=f then some v else fs.lookup g
 | []=>by
  show List.lookup g [(f,v)]=_
  by_cases h:g=f
  ·have hb:(g==f)=true:=gC.mpr h
   simp only[List.lookup,hb,aH h]
  ·have hb:(g==f)=false:=cz.mpr h
   simp only[List.lookup,hb,aE h]
 | (k,x)::r=>by
  have ih:=Cc f g v r
  rw[show jn f v ((k,x)::r)=(if k=f then(k,v)::r else(k,x)::jn f v r)from rfl]
  by_cases hk:k=f
  ·rw[aH hk]
   by_cases h:g=k
   ·have hb:(g==k)=true:=gC.mpr h
    simp only[List.lookup,hb,aH (h.trans hk)]
   ·have hb:(g==k)=false:=cz.mpr h
    simp only[List.lookup,hb,aE (fun e:g=f=>h (e.trans hk.symm))]
  ·rw[aE hk]
   by_cases h:g=k
   ·have hb:(g==k)=true:=gC.mpr h
    simp only[List.lookup,hb,aE (fun e:g=f=>hk (h.symm.trans e))]
   ·have hb:(g==k)=false:=cz.mpr h
    simp only[List.lookup,hb]
    exact ih
theorem wQ(f:Str)(v:V):∀fs:List (Str×V),f∈(jn f v fs).map (·.1)/\∀g,g∈fs.map (·.1)->g∈(jn f v fs).map (·.1)
 |[]=>⟨by simp[jn],fun g h=>by simp at h⟩
 | (k,x)::r=>by
  obtain⟨i1,i2⟩:=wQ f v r
  rw[show jn f v ((k,x)::r)=(if k=f then(k,v)::r else(k,x)::jn f v r)from rfl]
  by_cases hk:k=f
  ·rw[aH hk]
   subst hk
   exact⟨by simp,fun g h=>by simpa using h⟩
  ·rw[aE hk]
   refine⟨?_,fun g h=>?_⟩
   ·rw[ai]
    exact aP _ i1
   ·rw[ai]at h ⊢
    rcases aR.mp h with e|e
    ·exact aR.mpr (.inl e)
    ·exact aP _ (i2 g e)
theorem Ca(f:Str)(v:V):∀fs:List (Str×V),(jn f v fs).length<=fs.length+1
 |[]=>by simp[jn]
 |(k,x)::r=>by
  have ih:=Ca f v r
  rw[show jn f v ((k,x)::r)=(if k=f then(k,v)::r else(k,x)::jn f v r)from rfl]
  by_cases hk:k=f
  ·rw[aH hk,List.length_cons,List.length_cons];lia
  ·rw[aE hk,List.length_cons,List.length_cons];lia
theorem RelO.some_of{v:V}{o:Option Value}(r:RelO (some v) o):∃u,o=some u/\RelV v u:=by
 cases o with
 |none=>exact(show False from r).elim
 |some u=>exact⟨u,rfl,r⟩
theorem RelO.none_of{o:Option Value}(r:RelO none o):o=none:=by
 cases o with
 |none=>rfl
 |some u=>exact(show False from r).elim
theorem GH{v:V}{u:Value}(r:RelV v u):PySem.W.handedIn u=true:=by
 cases v with
 |non=>cases(show u=Value.none from r);rfl
 |bl b=>cases(show u=Value.bool b from r);rfl
 |int i=>obtain⟨t,e⟩:=(show ∃t,u=Value.int i t from r);cases e;rfl
 |str x=>obtain⟨t,e⟩:=(show ∃t,u=Value.str x t from r);cases e;rfl
 |byt b=>obtain⟨t,e⟩:=(show ∃t,u=Value.bytes b t from r);cases e;rfl
 |flt b=>obtain⟨t,e⟩:=(show ∃t,u=Value.float b t from r);cases e;rfl
 |ref a=>cases(show u=Value.ref a from r);rfl
 |ty n=>cases(show u=Value.type n from r);rfl
section
variable{P:Program}{w:World}{H H':Hp}{h h':Heap}{a C dx:Addr}{fs fs':List (Str×V)}
theorem sF(hok:HOk P w H h)(e:H a=some (.ins C dx fs)):∃mA,ObjM h a dx C mA/\(∀f,RelO (fs.lookup f) (mA f))/\PySem.Within mA (fs.map (·.1))/\fs.length<=1000/\H dx=some (.own a):=by
 obtain⟨d,z,ne,ob,mA,n,r,q⟩:=(show jc7 P w H h a (.ins C dx fs)from hok a _ e)
 exact⟨mA,⟨ob,n,ne⟩,r,q,z,d⟩
end
structure Cls(K:PySem.W.Frag)(C:Addr):Prop where
 pg:PySem.W.plainGet K C Str.empty=true
 hd:PySem.W.hasDictIn K C=true
 po:PySem.W.plainOver K C=true
 sa:PySem.W.findIn K (.ref C) "__setattr__"=some (some (.builtin "object.__setattr__"))
theorem Cls.get{K:PySem.W.Frag}{C:Addr}(c:Cls K C)(f:Str):PySem.W.plainGet K C f=true:=c.pg
def jfg(K:PySem.W.Frag)(C:Addr)(f:Str):Prop:=PySem.W.findIn K (.ref C) f=some none
theorem jfg.taker{K:PySem.W.Frag}{C:Addr}{f:Str}(n:jfg K C f):PySem.W.takerIn K C f=some none:=by
 unfold PySem.W.takerIn
 rw[show PySem.W.findIn K (.ref C) f=some none from n]
 rfl
structure Meth(K:PySem.W.Frag)(C:Addr)(m:Str)(f:Addr):Prop where
 at_:PySem.W.findIn K (.ref C) m=some (some (.ref f))
 fn:PySem.W.isFn K (.ref f)=true
 kp:PySem.W.keepIn K (.ref f)=true
section
variable{X:Cx}{pins:List (Addr×Obj)}{σ:St}{H:Hp}{s:Shared}{a C dx:Addr}{fs:List (Str×V)}{f:Str}{v:V}{A:Around}{E:Value->Shared->Prop}
theorem Hy{b:Bool}{Q:Value->Shared->Prop}(I:Inv X pins σ H s)(e:H a=some (.ins C dx fs))(c:Cls X.K C)(n:jfg X.K C f)(l:fs.lookup f=some v)
  (h:∀u s',Inv X pins σ H s'->RelV v u->Q u s'):wpAny (model X.prog X.w) A (getAttr (.ref a) f b) Q E s:=by
 obtain⟨mA,O,r,_,_,_⟩:=sF I.hok e
 obtain ⟨u,hu,ru⟩:=RelO.some_of (v:=v) (o:=mA f) (by rw [<- l]; exact r f)
 exact EZ I.kIn O (c.get f) c.hd n hu (GH ru) (h u _ (I.tok _) ru)
theorem BO{m:Str}{g:Addr}{pl:Sem Bool}{Q:Value×List Value->Shared->Prop}(I:Inv X pins σ H s)(e:H a=some (.ins C dx fs))(c:Cls X.K C)(k:Meth X.K C m g)(l:fs.lookup m=none)
  (h:Q (.ref g,[.ref a]) s):wpAny (model X.prog X.w) A (getMethod (.ref a) m pl) Q E s:=by
 obtain⟨mA,O,r,_,_,_⟩:=sF I.hok e
 have hn:mA m = none:=RelO.none_of (by rw [<- l]; exact r m)
 exact FW I.kIn O (c.get m) k.at_ k.fn hn h
theorem Ip{y:V}{u:Value}{Q:Unit->Shared->Prop}(I:Inv X pins σ H s)(e:H a=some (.ins C dx fs))(c:Cls X.K C)(n:jfg X.K C f)(hl:fs.length<1000)(ry:RelV y u)
  (h:∀s',Inv X pins σ (upd H a (.ins C dx (jn f y fs))) s'->Q () s'):wpAny (model X.prog X.w) A (setAttr (.ref a) f u) Q E s:=by
 obtain⟨mA,O,r,wi,_,ho⟩:=sF I.hok e
 have hz:(fs.map (·.1)).length<=sizeLine:=by rw[aa,gT];lia
 refine FE I.kIn O c.sa c.po n.taker c.hd wi hz fun h' O' sb=>h _ ?_
 have hd:∃o,h'.get? dx=some o:=let⟨o,_,_,e',_⟩:=O'.ns;⟨o,e'⟩
 refine I.write (x:=a) (e:=dx) (by rw[e];exact True.intro) (.inr ho) (fun b q hb z=>(sb.2 b hb).trans z) hd ?_
 refine⟨by rw[ix O.ne];exact ho,?_,O.ne,O'.obj,_,O'.ns,fun g=>?_,fun g hg=>?_⟩
 ·have:=Ca f y fs;lia
 ·show RelO ((jn f y fs).lookup g) (if g=f then some u else mA g)
  rw[Cc]
  by_cases q:g=f
  ·rw[aH q,aH q];exact ry
  ·rw[aE q,aE q];exact r g
 ·by_cases q:g=f
  ·rw[q];exact(wQ f y fs).1
  ·refine(wQ f y fs).2 g (wi g fun z=>hg ?_)
   show(if g=f then some u else mA g)=none
   rw[aE q];exact z
theorem Inv.made(I:Inv X pins σ H s):Inv X pins σ (upd (upd H s.heap.objs.size (.own (s.heap.objs.size+1))) (s.heap.objs.size+1) (.ins C s.heap.objs.size []))
  {s with heap:=(s.heap.push PySem.W.emptyDict).push (PySem.W.instObj C s.heap.objs.size)}:=by
 have e1:(s.heap.push PySem.W.emptyDict).get? s.heap.objs.size=some PySem.W.emptyDict:=aQ s.heap rfl
 have e2:((s.heap.push PySem.W.emptyDict).push (PySem.W.instObj C s.heap.objs.size)).get? (s.heap.objs.size+1)=some (PySem.W.instObj C s.heap.objs.size):=by
  have:=aQ (s.heap.push PySem.W.emptyDict) (o:=PySem.W.instObj C s.heap.objs.size) rfl
  rwa[dR]at this
 have e3:(s.heap.push PySem.W.emptyDict).Ns s.heap.objs.size (fun _=>none):=⟨PySem.W.emptyDict,#[],_,e1,rfl,(fun e he=>absurd he (by simp)),fun _=>rfl⟩
 have I1:=I.laid (a:=s.heap.objs.size) (o:=.own (s.heap.objs.size+1)) (h':=s.heap.push PySem.W.emptyDict) (t':=s.toks) (fun b u q=>ag _ q) (aF _) ⟨_,e1⟩
 refine I1.laid (a:=s.heap.objs.size+1) (o:=.ins C s.heap.objs.size []) (t':=s.toks) (fun b u q=>ag _ q) (Nat.le_of_eq (dR _ _)) ?_
 have ne:s.heap.objs.size≠s.heap.objs.size+1:=bj (gQ _)
 refine⟨by rw[ix ne,ie],bM _,ne,e2,fun _=>none,(Heap.Ns1.of_empty e3).at fun o q=>ag _ q,fun _=>True.intro,fun y hy=>absurd rfl hy⟩
theorem EN{prog:Program}{w:World}{env:Env}{e:Expr}{f:Str}{pos:Pos}{s:Shared}{Q:Value->Shared->Prop}(hb:attributeBase e f env (eval e env)=eval e env)
  (h:wpAny (model prog w) A (eval e env) (fun o s₁=>wpAny (model prog w) A (getAttr o f true) Q E s₁) E s):wpAny (model prog w) A (eval (.Attribute e f pos) env) Q E s:=
 Attribute_any_ h (by rw[arm_eval_Attribute,hb])
end
section
variable{X:Cx}{o e value:Expr}{f:Str}{pos pos' tpos:Pos}{ta tv:TE}
end
section
variable{X:Cx}{pins:List (Addr×Obj)}{σ:St}{H:Hp}{s:Shared}{A:Around}{E:Value->Shared->Prop}{Q:Value->Shared->Prop}{c:Value}{b:Bool}
inductive TyOf(K:PySem.W.Frag)(H:Hp):V->Value->Prop where
 |non:TyOf K H .non (.type "NoneType")
 |bl (x:Bool):TyOf K H (.bl x) (.type "bool")
 |int (i:Int):TyOf K H (.int i) (.type "int")
 |str (x:Str):TyOf K H (.str x) (.type "str")
 |flt (x:UInt64):TyOf K H (.flt x) (.type "float")
 |lst {a:Addr} {xs:List V} (e:H a=some (.lst xs)):TyOf K H (.ref a) (.type "list")
 |frz {a:Addr} {o:Obj} {xs:List V} (e:H a=some (.frz o (.lst xs))):TyOf K H (.ref a) (.type "list")
 |tup {a:Addr} {xs:List V} (e:H a=some (.tup xs)):TyOf K H (.ref a) (.type "tuple")
 |dK {a:Addr} {kvs:List (ij×V)} (e:H a=some (.dK kvs)):TyOf K H (.ref a) (.type "dict")
 |dT {a:Addr} {kvs:List (List ij×V)} (e:H a=some (.dT kvs)):TyOf K H (.ref a) (.type "dict")
 | ins {a C dx:Addr} {fs:List (Str×V)} (e:H a=some (.ins C dx fs)) (cl:Cls K C) (ha:PySem.W.findIn K (.ref C) "__class__"=some (some (.builtin "object.__class__")))
   (hn:PySem.W.specialIn K (.builtin "object.__class__") "__get__"=some (some (.builtin "getset_descriptor.__get__"))) (htk:PySem.W.takesIn K (.builtin "object.__class__")=some true)
   (hm:PySem.W.mroIn K C (.type "object")=some true):TyOf K H (.ref a) (.ref C)
theorem GL{x:V}{u t:Value}(I:Inv X pins σ H s)(rx:RelV x u)(ty:TyOf X.K H x t)(e:PySem.W.kitOne X.K t c=some b)(h:∀tk,Q (.bool b) {s with toks:=tk}):
  wpAny (model X.prog X.w) A (call (.builtin "isinstance") [u,c]) Q E s:=by
 cases ty with
 |non=>cases(show u=Value.none from rx);exact cF PySem.W.kitx_none I.kIn True.intro e (fun z=>nomatch z) h
 |bl y=>cases(show u=Value.bool y from rx);exact cF PySem.W.kitx_bool I.kIn True.intro e (fun z=>nomatch z) h
 |int i=>obtain⟨t,q⟩:=(show ∃t,u=Value.int i t from rx);cases q;exact cF PySem.W.kitx_int I.kIn True.intro e (fun z=>nomatch z) h
 |str y=>obtain⟨t,q⟩:=(show ∃t,u=Value.str y t from rx);cases q;exact cF PySem.W.kitx_str I.kIn True.intro e (fun z=>nomatch z) h
 |flt y=>obtain⟨t,q⟩:=(show ∃t,u=Value.float y t from rx);cases q;exact cF PySem.W.kitx_float I.kIn True.intro e (fun z=>nomatch z) h
 | @lst a xs ea=>
  cases(show u=Value.ref a from rx)
  obtain⟨_,_,n,_,h1⟩:=(show jc7 X.prog X.w H s.heap a (.lst xs)from I.hok a _ ea)
  exact cF PySem.W.kitx_list I.kIn ⟨_,h1,rfl⟩ e (fun z=>nomatch z) h
 | @frz a ob xs ea=>
  cases(show u=Value.ref a from rx)
  obtain⟨_,_,_,n,_,h1⟩:=(show jc7 X.prog X.w H s.heap a (.frz ob (.lst xs))from I.hok a _ ea)
  exact cF PySem.W.kitx_list I.kIn ⟨_,h1,rfl⟩ e (fun z=>nomatch z) h
 | @tup a xs ea=>
  cases(show u=Value.ref a from rx)
  obtain⟨_,_,_,p⟩:=(show jc7 X.prog X.w H s.heap a (.tup xs)from I.hok a _ ea)
  obtain⟨o,h1,h2,_⟩:=p
  exact cF PySem.W.kitx_tuple I.kIn ⟨o,h1,h2⟩ e (fun z=>nomatch z) h
 | @dK a kvs ea=>
  cases(show u=Value.ref a from rx)
  obtain⟨_,_,vs,_,p⟩:=(show jc7 X.prog X.w H s.heap a (.dK kvs)from I.hok a _ ea)
  obtain⟨o,es,ep,h1,h2,_⟩:=p
  exact cF PySem.W.kitx_dict I.kIn ⟨o,h1,h2.1⟩ e (fun z=>nomatch z) h
 | @dT a kvs ea=>
  cases(show u=Value.ref a from rx)
  obtain⟨_,_,xs,_,o,es,ep,h1,h2,_⟩:=(show jc7 X.prog X.w H s.heap a (.dT kvs)from I.hok a _ ea)
  exact cF PySem.W.kitx_dict I.kIn ⟨o,h1,h2.1⟩ e (fun z=>nomatch z) h
 | @ins a C dx fs ea cl ha hn htk hm=>
  cases(show u=Value.ref a from rx)
  obtain⟨mA,O,_⟩:=sF I.hok ea
  obtain⟨od,J,_⟩:=O.look
  exact cF (PySem.W.kitx_own (cl.get _) cl.hd ha hn htk hm) I.kIn J e (fun z=>nomatch z) h
end
structure Room(k:Nat)(A:Around):Prop where
 hd:A.handled=none
 dp:A.depth+3*k+5<recursionLimit
 un:A.units+16*k+200<cLine
 gd:A.guards=some []
theorem Room.mono{j k:Nat}{A:Around}(r:Room k A)(h:j<=k):Room j A:=⟨r.hd,by have:=r.dp;lia,by have:=r.un;lia,by first|exact r.gd|(simp only[Around.deeper,Around.in1,Around.under];exact r.gd)⟩
theorem Room.deeper{k:Nat}{A:Around}(r:Room (k+1) A)(env:Env):Room k (A.deeper env):=
 ⟨r.hd,by have:=r.dp;show A.depth+1+3*k+5<_;lia,by have:=r.un;show A.units+3+16*k+200<_;lia,by first|exact r.gd|(simp only[Around.deeper,Around.in1,Around.under];exact r.gd)⟩
theorem HR{A:Around}{C:Addr}{us:List Value}{kw:List (Str×Value)}:(A.under (.builtin "type.__call__" ⟨.ref C::us,kw⟩)).depth=A.depth+1:=by
 first|rfl|simp[Around.under,Code.weight,Code.isCreation,Code.isGuard,Code.isCaller,Code.frames,Code.isFrame,guardIds]
theorem HY{A:Around}{C:Addr}{us:List Value}{kw:List (Str×Value)}:(A.under (.builtin "type.__call__" ⟨.ref C::us,kw⟩)).units=A.units+1:=by
 first|rfl|simp[Around.under,Code.cUnits,Code.frames,Code.isFrame]
theorem Room.make{k:Nat}{A:Around}(r:Room (k+1) A)(C:Addr)(us:List Value)(kw:List (Str×Value)):Room k (A.under (.builtin "type.__call__" ⟨.ref C::us,kw⟩)):=
 ⟨r.hd,by have:=r.dp;rw[HR];lia,by have:=r.un;rw[HY];lia,by first|exact r.gd|(simp only[Around.deeper,Around.in1,Around.under];exact r.gd)⟩
theorem Room.depth{k:Nat}{A:Around}(r:Room k A):A.depth<recursionLimit:=by have:=r.dp;lia
theorem Room.units{k:Nat}{A:Around}(r:Room k A):A.units+64<cLine:=by have:=r.un;lia
def oi:TA:=fun _ H Q=>Q [] H
def qi(ta:TE)(tr:TA):TA:=fun σ H Q=>ta σ H fun x H1=>tr σ H1 fun xs H2=>Q (x::xs) H2
section
variable{X:Cx}{e:Expr}{es:List Expr}{te:TE}{t:TA}{pos:Pos}
theorem ic:PA X [] oi:=fun _ _ _ _ H Q I h=>gN ⟨[],H,I,.nil,h⟩
theorem h8(ha:PE X e te)(hr:PA X es t)(hs:starEach (e::es) X.env=(false,eval e X.env)::starEach es X.env:=by rfl):PA X (e::es) (qi te t):=by
 intro pos pins s σ H Q I h
 rw[hs]
 show wpAny _ _ (spliced ((false,eval e X.env)::backTo pos (starEach es X.env))) _ _ s
 refine eI (iy (ha pins s σ H _ I h) fun u s1 ⟨x,H1,I1,r1,q1⟩=>?_)
 exact iy (hr pos pins s1 σ H1 _ I1 q1) fun us s2 ⟨xs,H2,I2,r2,q2⟩=>⟨x::xs,H2,I2,.cons r1 r2,q2⟩
def xT(t:TA):TE:=fun σ H Q=>t σ H fun xs H1=>xs.length<=sizeLine/\∀p,H1 p=none->Q (.ref p) (upd H1 p (.tup xs))
def x8(t:TA):TE:=fun σ H Q=>t σ H fun xs H1=>xs.length<=sizeLine/\∀p,H1 p=none->Q (.ref p) (upd H1 p (.lst xs))
theorem jw{x1}(h:PA X es t):PE X (.Tuple es x1 pos) (xT t):=by
 intro pins s σ H Q I hq
 refine wpAny_Tuple_spliced (iy (h pos pins s σ H _ I hq) fun us s1 ⟨xs,H1,I1,r,z,q⟩=>⟨by rw [<- r.length]; exact z,?_⟩)
 have hf:H1 s1.heap.objs.size=none:=I1.hok.fresh (aF _)
 refine⟨.ref s1.heap.objs.size,upd H1 s1.heap.objs.size (.tup xs),I1.laid (t':=s1.toks) (fun b u e=>ag _ e) (aF _) ?_,rfl,q _ hf⟩
 exact⟨z,us,r,⟨_,aQ _ rfl,rfl,_,rfl⟩⟩
theorem kL(h:PA X es t):PE X (.List es pos) (x8 t):=by
 intro pins s σ H Q I hq
 refine wpAny_List_spliced (iy (h pos pins s σ H _ I hq) fun us s1 ⟨xs,H1,I1,r,z,q⟩=>⟨by rw [<- r.length]; exact z,?_⟩)
 have hf:H1 s1.heap.objs.size=none:=I1.hok.fresh (aF _)
 refine⟨.ref s1.heap.objs.size,upd H1 s1.heap.objs.size (.lst xs),I1.laid (t':=s1.toks) (fun b u e=>ag _ e) (aF _) ?_,rfl,q _ hf⟩
 exact⟨z,us,0,r,aQ _ rfl⟩
end
abbrev Sp:=List V->Hp->VK->XK->Prop
abbrev lH:=List Env->Hp->Shared->XK->Value->Shared->Prop
structure Env0(P:Program)(w:World)(K:PySem.W.Frag)(mg:Str->Option Value)(base:Heap)(A:Around)(outer:List Env)(s:Shared)(H:Hp):Prop where
 frames:A.frames=some outer
 mod:Mod K mg base
 bs:∀b o,base.get? b=some o->s.heap.get? b=some o/\H b=none
 bsz:base.objs.size<=s.heap.objs.size
 funs:s.heap.FunFrames base outer
 frf:∀b∈lp outer,H b=none
 hok:HOk P w H s.heap
 bare:AllBare s.gens
def CE(outer:List Env)(P:Program)(w:World)(H:Hp)(s:Shared)(Q:VK)(u:Value)(s':Shared):Prop:=
 ∃v H',s'.os=s.os/\AllBare s'.gens/\Un (lp outer) [] H H' s.heap s'.heap/\HOk P w H' s'.heap/\RelV v u/\Q v H'
def CR(CX:lH)(outer:List Env)(P:Program)(w:World)(H:Hp)(s:Shared)(Q:VK)(E:XK)(r:Result)(s':Shared):Prop:=
 match r with
 | .ok (.ret u)=>CE outer P w H s Q u s'
 | .ok _=>False
 | .error e=>CX outer H s E e s'
structure FnOk(P:Program)(w:World)(K:PySem.W.Frag)(mg:Str->Option Value)(base:Heap)(CX:lH)(k:Nat)(f:Addr)(fd:FuncData)(ps:List Str)(sp:Sp):Prop where
 len:∀vs H Q E,sp vs H Q E->vs.length=ps.length
 run:∀(A:Around) (outer:List Env) (s:Shared) (H:Hp) (args:Args) (us:List Value) (vs:List V) (Q:VK) (E:XK),Room k A->Env0 P w K mg base A outer s H->BindsTo s fd args (ps.zip us)->Vals vs us->sp vs H Q E->
  codeAny (model P w) A (.call (.ref f) args) (CR CX outer P w H s Q E) s
theorem FnOk.mono{P:Program}{w:World}{K:PySem.W.Frag}{mg:Str->Option Value}{base:Heap}{CX:lH}{j k:Nat}{f:Addr}{fd:FuncData}{ps:List Str}{sp:Sp}(F:FnOk P w K mg base CX j f fd ps sp)(h:j<=k):
  FnOk P w K mg base CX k f fd ps sp:=⟨F.len,fun A outer s H args us vs Q E hr=>F.run A outer s H args us vs Q E (hr.mono h)⟩
theorem Env0.make{P:Program}{w:World}{K:PySem.W.Frag}{mg:Str->Option Value}{base:Heap}{A:Around}{outer:List Env}{s:Shared}{H:Hp}(e:Env0 P w K mg base A outer s H)(C:Addr)(us:List Value)(kw:List (Str×Value)):
  Env0 P w K mg base (A.under (.builtin "type.__call__" ⟨.ref C::us,kw⟩)) outer s H:=⟨by first|exact e.frames|(simpa[Around.under,Code.envs,Code.isFrame,pushEnvs]using e.frames),e.mod,e.bs,e.bsz,e.funs,e.frf,e.hok,e.bare⟩
section
variable{X:Cx}{pins:List (Addr×Obj)}{σ:St}{H:Hp}{s s':Shared}
theorem Inv.env0(I:Inv X pins σ H s):Env0 X.prog X.w X.K X.mg X.base X.A X.stack s H:=
 ⟨I.ok.frames,I.ok.mod,I.bs,br I.ok.bsz I.sz,I.stack,I.stkFree,I.hok,I.bare⟩
theorem Inv.after{Q:VK}{u:Value}(I:Inv X pins σ H s)(h:CE X.stack X.prog X.w H s Q u s'):EP X pins σ Q u s':=by
 obtain⟨v,H',os,bare,un,hok,r,q⟩:=h
 obtain⟨hh,g,d,t,os'⟩:=s'
 obtain rfl:os'=s.os:=os
 exact⟨v,H',I.call (h':=hh) (g':=g) (d':=d) (t':=t) (ch:=[]) un hok bare (fun b z=>absurd z (by simp)),r,q⟩
end
def yd(sp:Sp)(dvs:List V)(E:XK)(t:TA):TE:=fun σ H Q=>t σ H fun vs H1=>sp (vs++dvs) H1 Q E
def va(C:Addr)(m:Str)(sp:Sp)(dvs:List V)(E:XK)(ta:TE)(t:TA):TE:=fun σ H Q=>ta σ H fun x H1=>∃a dx fs,x= .ref a/\H1 a=some (.ins C dx fs)/\fs.lookup m=none/\
 t σ H1 fun vs H2=>sp (x::(vs++dvs)) H2 Q E
def x6(C:Addr)(sp:Sp)(dvs:List V)(E:XK)(t:TA):TE:=fun σ H Q=>t σ H fun vs H1=>∀x dx,H1 x=none->H1 dx=none->dx≠x->
 sp (.ref x::(vs++dvs)) (upd (upd H1 dx (.own x)) x (.ins C dx [])) (fun v H2=>v= .non/\Q (.ref x) H2) E
def jg7(K:PySem.W.Frag)(fd:FuncData)(ps:List Str)(ds:List Value):Prop:=
 ∀(s:Shared) (us:List Value),K.In s.heap->(us++ds).length=ps.length->BindsTo s fd ⟨us,[]⟩ (ps.zip (us++ds))
theorem jg7.all{K:PySem.W.Frag}{fd:FuncData}{ps:List Str}(h:∀us:List Value,us.length=ps.length->bindArgs fd ⟨us,[]⟩=pure (ps.zip us)):jg7 K fd ps []:=fun s us _ hl=>by
 rw[bb]at hl ⊢
 exact .of_eq (h us hl)
def m9(CX:lH)(X:Cx)(E:XK):Prop:=∀(pins:List (Addr×Obj)) (σ:St) (H:Hp) (s:Shared) (e:Value) (s':Shared),Inv X pins σ H s->CX X.stack H s E e s'->X.xe e s'
section
variable{X:Cx}{CX:lH}{k:Nat}{f C:Addr}{fd:FuncData}{ps:List Str}{sp:Sp}{dvs:List V}{ds:List Value}{E:XK}{x m:Str}{p pos apos:Pos}{e o:Expr}{es:List Expr}{ta:TE}{t:TA}
theorem vq{pins:List (Addr×Obj)}{σ:St}{H:Hp}{s:Shared}{Q:VK}{us:List Value}{vs:List V}(F:FnOk X.prog X.w X.K X.mg X.base CX k f fd ps sp)(hr:Room k X.A)(hb:jg7 X.K fd ps ds)(hd:Vals dvs ds)(hx:m9 CX X E)
  (I:Inv X pins σ H s) (r:Vals vs us) (h:sp (vs++dvs) H Q E):wpAny (model X.prog X.w) X.A (call (.ref f) us) (EP X pins σ Q) X.xe s:=by
 have r2:Vals (vs++dvs) (us++ds):=r.append hd
 have hl:(us ++ ds).length = ps.length:=by rw [<- r2.length]; exact F.len _ _ _ _ h
 refine wpAny_call (gK (F.run X.A X.stack s H ⟨us,[]⟩ (us++ds) (vs++dvs) Q E hr I.env0 (hb s us I.kIn hl) r2 h) fun r s' hq=>?_)
 cases r with
 |error e=>exact hx pins σ H s e s' I hq
 |ok fl=>
  cases fl with
  |ret u=>exact I.after hq
  |next=>exact False.elim hq
  |brk=>exact False.elim hq
  |cont=>exact False.elim hq
theorem iF(F:FnOk X.prog X.w X.K X.mg X.base CX k f fd ps sp)(hr:Room k X.A)(hg:Gl X x)(hm:X.mg x=some (.ref f))(hk:PySem.W.keepIn X.K (.ref f)=true)(hb:jg7 X.K fd ps ds)(hd:Vals dvs ds)(hx:m9 CX X E)
  (ha:PA X (e::es) t) (hdb:(x==("__debug__":Str))=false:=by decide) (he:starEach (e::es) X.env=(false,eval e X.env)::starEach es X.env:=by rfl) (hpl:(backTo pos (starEach es X.env)).any (·.1)=false:=by rfl):
  PE X (.Call (.Name x p) (e::es) [] pos) (yd sp dvs E t):=by
 intro pins s σ H Q I h
 refine dA (vO I hg hm ?_ hdb)
 refine gF (h₀:=X.base) I.ok.mod.kin hk (iy (ha pos pins s σ H _ I h) fun us s1 ⟨vs,H1,I1,r,q⟩=>⟨I1.kIn,?_⟩) he hpl
 exact vq F hr hb hd hx I1 r q
theorem Fu{pl:Sem Bool}(he:PE X o ta)(c:Cls X.K C)(hm:Meth X.K C m f)(F:FnOk X.prog X.w X.K X.mg X.base CX k f fd ps sp)(hr:Room k X.A)(hb:jg7 X.K fd ps ds)(hd:Vals dvs ds)(hx:m9 CX X E)(ha:PA X (e::es) t)
  (hst:starEach (e::es) X.env=(false,eval e X.env)::starEach es X.env:=by rfl) (hpl:(backTo pos (starEach es X.env)).any (·.1)=false:=by rfl)
  (ht:eval (.Call (.Attribute o m apos) (e :: es) [] pos) X.env = (do
   let ov <- eval o X.env
   standAt apos.atName
   let (f,first) <- holding [ov] (getMethod ov m pl)
   callWith pos f first (backTo pos (starEach (e::es) X.env)) (backToKw pos (keywordEach [] X.env))):=by rfl):
  PE X (.Call (.Attribute o m apos) (e::es) [] pos) (va C m sp dvs E ta t):=by
 intro pins s σ H Q I h
 refine PySem.W.methodCall_KW (pl:=pl) (iy (he pins s σ H _ I h) fun u s1 ⟨x,H1,I1,rx,a,dx,fs,ex,ea,l,q⟩=>?_) ht
 subst ex
 obtain rfl:u=Value.ref a:=rx
 refine BO I1 ea c hm l ?_
 refine gF (first:=[.ref a]) (h₀:=X.base) I.ok.mod.kin hm.kp (iy (ha pos pins s1 σ H1 _ I1 q) fun us s2 ⟨vs,H2,I2,r,q2⟩=>⟨I2.kIn,?_⟩) hst hpl
 exact vq (us:=.ref a::us) (vs:=.ref a::vs) F hr hb hd hx I2 (.cons rfl r) q2
theorem Ge{pl:Sem Bool}(he:PE X o ta)(c:Cls X.K C)(hm:Meth X.K C m f)(F:FnOk X.prog X.w X.K X.mg X.base CX k f fd ps sp)(hr:Room k X.A)(hb:jg7 X.K fd ps ds)(hd:Vals dvs ds)(hx:m9 CX X E)
  (ht:eval (.Call (.Attribute o m apos) [] [] pos) X.env = (do
   let ov <- eval o X.env
   standAt apos.atName
   let (f,first) <- holding [ov] (getMethod ov m pl)
   callWith pos f first (backTo pos (starEach [] X.env)) (backToKw pos (keywordEach [] X.env))):=by rfl):
  PE X (.Call (.Attribute o m apos) [] [] pos) (va C m sp dvs E ta oi):=by
 intro pins s σ H Q I h
 refine PySem.W.methodCall_KW (pl:=pl) (iy (he pins s σ H _ I h) fun u s1 ⟨x,H1,I1,rx,a,dx,fs,ex,ea,l,q⟩=>?_) ht
 subst ex
 obtain rfl:u=Value.ref a:=rx
 refine BO I1 ea c hm l ?_
 exact PySem.W.callWith_K0 (first:=[.ref a]) I1.kIn hm.kp (vq (us:=[.ref a]) (vs:=[.ref a]) F hr hb hd hx I1 (.cons rfl .nil) q)
structure Mk(K:PySem.W.Frag)(C f:Addr):Prop where
 makes:PySem.W.makesIn K C=true
 init:PySem.W.findIn K (.ref C) "__init__"=some (some (.ref f))
 fn:PySem.W.isFn K (.ref f)=true
 kp:PySem.W.keepIn K (.ref C)=true
theorem Gm{pins:List (Addr×Obj)}{σ:St}{H:Hp}{s:Shared}{Q:VK}{us:List Value}{vs:List V}(M:Mk X.K C f)(F:FnOk X.prog X.w X.K X.mg X.base CX k f fd ps sp)(hr:Room (k+1) X.A)(hb:jg7 X.K fd ps ds)(hd:Vals dvs ds)
  (hx:m9 CX X E) (I:Inv X pins σ H s) (r:Vals vs us)
  (h:∀x dx,H x=none->H dx=none->dx≠x->sp (.ref x::(vs++dvs)) (upd (upd H dx (.own x)) x (.ins C dx [])) (fun v H2=>v= .non/\Q (.ref x) H2) E):
  wpAny (model X.prog X.w) X.A (call (.ref C) us) (EP X pins σ Q) X.xe s:=by
 have hq:=h (s.heap.objs.size+1) s.heap.objs.size (I.hok.fresh (fk _)) (I.hok.fresh (aF _)) (bj (gQ _))
 have I2:=Inv.made (C:=C) I
 have r2:Vals (V.ref (s.heap.objs.size+1)::(vs++dvs)) (Value.ref (s.heap.objs.size+1)::(us++ds)):=.cons rfl (r.append hd)
 have hl:(Value.ref (s.heap.objs.size+1)::us++ds).length=ps.length:=by
  have e:=r2.length
  rw[F.len _ _ _ _ hq]at e
  exact e.symm
 refine wpAny_call (F1 (f:=f) I.kIn M.makes M.init (gC.mp M.fn) (gK (F.run _ X.stack _ _ ⟨Value.ref (s.heap.objs.size+1)::us,[]⟩ (Value.ref (s.heap.objs.size+1)::(us++ds)) _ _ E (hr.make C us [])
  (I2.env0.make C us []) (hb _ (Value.ref (s.heap.objs.size+1)::us) I2.kIn hl) r2 hq) fun r s' hq'=>?_))
 cases r with
 |error e=>exact hx pins σ _ _ e s' I2 hq'
 | ok fl=>
  cases fl with
  |ret u=>
   obtain⟨v,H',I3,rv,ev,q3⟩:=I2.after hq'
   subst ev
   exact⟨rv,⟨V.ref (s.heap.objs.size+1),H',I3,rfl,q3⟩⟩
  |next=>exact False.elim hq'
  |brk=>exact False.elim hq'
  |cont=>exact False.elim hq'
theorem Ft(M:Mk X.K C f)(F:FnOk X.prog X.w X.K X.mg X.base CX k f fd ps sp)(hr:Room (k+1) X.A)(hg:Gl X x)(hm:X.mg x=some (.ref C))(hb:jg7 X.K fd ps ds)(hd:Vals dvs ds)(hx:m9 CX X E)
  (ha:PA X (e::es) t) (hdb:(x==("__debug__":Str))=false:=by decide) (he:starEach (e::es) X.env=(false,eval e X.env)::starEach es X.env:=by rfl) (hpl:(backTo pos (starEach es X.env)).any (·.1)=false:=by rfl):
  PE X (.Call (.Name x p) (e::es) [] pos) (x6 C sp dvs E t):=by
 intro pins s σ H Q I h
 refine dA (vO I hg hm ?_ hdb)
 refine gF (h₀:=X.base) I.ok.mod.kin M.kp (iy (ha pos pins s σ H _ I h) fun us s1 ⟨vs,H1,I1,r,q⟩=>⟨I1.kIn,?_⟩) he hpl
 exact Gm M F hr hb hd hx I1 r q
end
def PK(X:Cx)(kws:List Keyword)(t:TA):Prop:=
 ∀(pos:Pos) (pins:List (Addr×Obj)) (s:Shared) (σ:St) (H:Hp) (Q:List V->Hp->Prop),Inv X pins σ H s->t σ H Q->wpAny (model X.prog X.w) X.A (evalAll ((backToKw pos (keywordEach kws X.env)).map (·.2))) (AP X pins σ Q) X.xe s
section
variable{X:Cx}{CX:lH}{k:Nat}{f C:Addr}{fd:FuncData}{ps ks:List Str}{sp:Sp}{E:XK}{x m:Str}{p pos apos kpos:Pos}{e o:Expr}{es:List Expr}{kws:List Keyword}{te ta:TE}{t tk:TA}{nm:Option Str}
theorem D9:PK X [] oi:=fun _ _ _ _ H Q I h=>wpAny_evalAll_nil ⟨[],H,I,.nil,h⟩
theorem Fw(ha:PE X e te)(hr:PK X kws t):PK X (⟨nm,e,kpos⟩::kws) (qi te t):=by
 intro pos pins s σ H Q I h
 show wpAny _ _ (evalAll ((do let v <- eval e X.env; standAt pos; pure v) :: (backToKw pos (keywordEach kws X.env)).map (·.2))) _ _ s
 refine wpAny_evalAll_cons (ae (iy (ha pins s σ H _ I h) fun u s1 ⟨x,H1,I1,r1,q1⟩=>ae (gu (aI ?_))))
 exact iy (hr pos pins s1 σ H1 _ I1 q1) fun us s2 ⟨xs,H2,I2,r2,q2⟩=>⟨x::xs,H2,I2,.cons r1 r2,q2⟩
variable{g:List Value->List Value->List Value}{gV:List V->List V->List V}
end
structure FnScope(N P:List Str)(sc:Scope):Prop where
 kind:sc.kind= .function
 co:sc.isCoroutine=false
 gen:sc.isGenerator=false
 nd:N.Nodup
 pre:N.take P.length=P
 par:∀x∈P,sc.names.lookup x=some .local\/sc.names.lookup x=some .cell
 nofree:∀y∈sc.names,y.2≠ .free
theorem Bh{kindOf:Str->Option NameKind}{x:Str}:∀{binds:List (Str×Value)} {m:Str->Option Value},(∀v,(x,v)∉binds)->bindL kindOf binds m x=m x
 |[],_,_=>rfl
 | (n,v)::r,m,h=>by
  unfold bindL
  rw[Bh fun w hw=>h w (aP _ hw)]
  split
  ·have:x≠n:=by rintro rfl;exact h v aZ
   simp[this]
  ·rfl
theorem Bf{kindOf:Str->Option NameKind}{x:Str}:∀{binds:List (Str×Value)} {m:Str->Option Value},(∀v,(x,v)∉binds)->bindC kindOf binds m x=m x
 |[],_,_=>rfl
 | (n,v)::r,m,h=>by
  unfold bindC
  rw[Bf fun w hw=>h w (aP _ hw)]
  split
  ·rfl
  ·have:x≠n:=by rintro rfl;exact h v aZ
   simp[this]
theorem Bg{kindOf:Str->Option NameKind}{x:Str}{v:Value}:∀{P:List Str} {vs:List Value} {i:Nat} {m:Str->Option Value},P.Nodup->P[i]? =some x->vs[i]? =some v->kindOf x=some .local->
  bindL kindOf (P.zip vs) m x=some v
 |[],_,_,_,_,h,_,_=>by simp at h
 |_::_,[],_,_,_,_,h,_=>by simp at h
 |p::P,w::vs,0,m,nd,h1,h2,hk=>by
  simp at h1 h2;subst h1;subst h2
  show bindL kindOf ((p,w)::P.zip vs) m p=_
  unfold bindL
  rw[Bh fun v hv=>(bO.mp nd).1 (gZ hv).1,aH hk]
  simp
 |p::P,w::vs,i+1,m,nd,h1,h2,hk=>by
  show bindL kindOf ((p,w)::P.zip vs) m x=_
  unfold bindL
  exact Bg (i:=i) (bO.mp nd).2 (by simpa using h1) (by simpa using h2) hk
theorem Be{kindOf:Str->Option NameKind}{x:Str}{v:Value}:∀{P:List Str} {vs:List Value} {i:Nat} {m:Str->Option Value},P.Nodup->P[i]? =some x->vs[i]? =some v->kindOf x≠some .local->
  bindC kindOf (P.zip vs) m x=some v
 |[],_,_,_,_,h,_,_=>by simp at h
 |_::_,[],_,_,_,_,h,_=>by simp at h
 |p::P,w::vs,0,m,nd,h1,h2,hk=>by
  simp at h1 h2;subst h1;subst h2
  show bindC kindOf ((p,w)::P.zip vs) m p=_
  unfold bindC
  rw[Bf fun v hv=>(bO.mp nd).1 (gZ hv).1,aE hk]
  simp
 |p::P,w::vs,i+1,m,nd,h1,h2,hk=>by
  show bindC kindOf ((p,w)::P.zip vs) m x=_
  unfold bindC
  exact Be (i:=i) (bO.mp nd).2 (by simpa using h1) (by simpa using h2) hk
noncomputable def start(N:List Str)(vs:List V):St:=vs.map some++List.replicate (N.length-vs.length) none
noncomputable def pM(CX:lH)(P:Program)(w:World)(K:PySem.W.Frag)(mg:Str->Option Value)(base:Heap)(N:List Str)(qual:Str)(scope:Scope)(f:Addr)(cd:Value)(A:Around)(outer:List Env)(s:Shared)(H:Hp)(E:XK):Cx where
 prog:=P
 w:=w
 K:=K
 mg:=mg
 base:=base
 A:=A.deeper (envOfC qual scope s.heap.objs.size f cd)
 N:=N
 s₀:=s
 H₀:=H
 env:=envOfC qual scope s.heap.objs.size f cd
 outer:=outer
 stack:=envOfC qual scope s.heap.objs.size f cd::outer
 ex:=[]
 calm:=true
 fn:=fun _=>true
 pn:=[]
 xe:=fun e s'=>wpAny (model P w) (A.deeper (envOfC qual scope s.heap.objs.size f cd)) (leaving (envOfC qual scope s.heap.objs.size f cd) e) (fun _ s''=>CX outer H s E e s'') (fun e' s''=>CX outer H s E e' s'') s'
theorem Ay{sc:Scope}{n:Nat}{x:Str}(h:sc.names.lookup x=some .cell):∃c,(cellsFrom n sc.names []).lookup x=some c:=by
 have q:=PySem.W.cellsFrom_some sc.names n [] (.inl h)
 exact eE.mp q
theorem GK{CX:lH}{P:Program}{w:World}{K:PySem.W.Frag}{mg:Str->Option Value}{base:Heap}{N ps:List Str}{qual:Str}{scope:Scope}{f:Addr}{cd:Value}{A:Around}{outer:List Env}{s s1:Shared}{H:Hp}{E:XK}{us:List Value}{vs:List V}
  (S:FnScope N ps scope) (hd:A.handled=none) (e0:Env0 P w K mg base A outer s H) (hl:vs.length=ps.length) (r:Vals vs us)
  (x:InCallC s s.heap.objs.size (bindL (envOfC qual scope s.heap.objs.size f cd).kindOf (ps.zip us) fun _=>none) (cellsFrom (s.heap.objs.size+1) scope.names []) (bindC (envOfC qual scope s.heap.objs.size f cd).kindOf (ps.zip us) fun _=>none) s1):
  Inv (pM CX P w K mg base N qual scope f cd A outer s H E) [] (start N vs) H s1:=by
 have hpl:ps.length<=N.length:=by have:=bV List.length S.pre;rw[aO]at this;lia
 obtain⟨h1,tk,rfl,hk⟩:=x.done
 have noA:∀b:Addr,b∉(pM CX P w K mg base N qual scope f cd A outer s H E).ex:=fun b z=>absurd (show b∈([]:List Addr)from z) (by simp)
 refine⟨⟨e0.mod,S.kind,rfl,rfl,aF _,fun y z c h1 h2=>?_,fun y hy=>?_,fun y c _ h=>?_,fun _=>hd,Around.frames_deeper e0.frames,.inr ⟨rfl,rfl⟩,fun b z=>absurd z (noA b),e0.bs,e0.bsz,fun b _ _=>noA b,fun b z=>absurd z (noA b),e0.funs,e0.frf⟩,
  rfl,e0.bare,Un.kept hk,⟨_,x.toInCall.ns,fun i y v h1 h2 h3=>?_⟩,fun y c h=>⟨_,x.cell y c h⟩,e0.hok.fresh (aF _),fun y c h=>?_,fun p hp=>absurd (show p∈([]:List (Addr×Obj))from hp) (by simp),e0.hok.kept hk,?_⟩
 ·exact name_of_addr x.apart (cA h1) (cA h2)
 ·have hy:scope.names.lookup y=some .cell\/scope.names.lookup y=some .free:=hy
  rcases hy with hy|hy
  ·exact Ay hy
  ·exact absurd rfl (S.nofree _ (cA hy))
 ·exact fQ (x.above y c (cA h))
 ·have hi:i<vs.length:=by
   unfold start at h2
   by_cases hi:i<vs.length
   ·exact hi
   ·rw[cQ (by simpa using hi)]at h2
    rw[List.getElem?_replicate]at h2
    split at h2<;>cases h2
  have ha:vs[i]? =some v:=by
   unfold start at h2
   rw[bx (by simpa using hi),aJ]at h2
   cases e:vs[i]? with
   |none=>rw[e]at h2;cases h2
   |some a=>rw[e]at h2;cases h2;rfl
  obtain⟨u,hu,rv⟩:=r.get ha
  have hp:ps[i]? =some y:=by
   rw [<- S.pre,List.getElem?_take_of_lt (by lia)]; exact h1
  have ndP:ps.Nodup:=by rw [<- S.pre]; exact S.nd.sublist (List.take_sublist _ _)
  refine⟨u,rv,?_⟩
  rcases S.par y (aA hp)with k|k
  ·exact .inl ⟨k,Bg ndP hp hu k⟩
  ·obtain⟨c,e⟩:=Ay (n:=s.heap.objs.size+1) k
   refine .inr ⟨.inl k,c,e,?_⟩
   have q:=x.cell y c e
   rw[Be ndP hp hu (by show scope.names.lookup y≠_;rw[k];decide)]at q
   exact q
 ·exact e0.hok.fresh (fQ (x.above y c (cA h)))
 ·unfold start
  show _=N.length
  rw[aK,aa,List.length_replicate]
  lia
theorem J4{CX:lH}{P:Program}{w:World}{K:PySem.W.Frag}{mg:Str->Option Value}{base:Heap}{k:Nat}{f:Addr}{name qual:Str}{params:Arguments}{body:List Stmt}{scope:Scope}{dV kV doc pm cdv ct oc:Value}{an od:Option Addr}
  {osl:Array (Option Value)} {N ps:List Str} {sp:Sp} (lk:K.lookup f=some ⟨oc,od,.func (PySem.W.fnOf name qual params body scope dV kV doc pm an cdv ct),osl⟩) (hcd:PySem.W.codeIn K cdv qual=true) (S:FnScope N ps scope)
  (len:∀vs H Q E,sp vs H Q E->vs.length=ps.length)
  (hbody:∀(A:Around) (outer:List Env) (s:Shared) (H:Hp) (vs:List V) (Q:VK) (E:XK),Room k (A.deeper (envOfC qual scope s.heap.objs.size f cdv))->sp vs H Q E->
   ∃t,PSs (pM CX P w K mg base N qual scope f cdv A outer s H E) body t/\t {nx:=fun _ H'=>Q .non H',rt:=Q} (start N vs) H):
  FnOk P w K mg base CX (k+1) f (PySem.W.fnOf name qual params body scope dV kV doc pm an cdv ct) ps sp:=by
 refine⟨len,fun A outer s H args us vs Q E hr e0 hb r hsp=>?_⟩
 have hl:=len _ _ _ _ hsp
 have KX:K.In s.heap:=e0.mod.kin.keeps fun b o e=>(e0.bs b o e).1
 have lim:s.heap.NoLimit:=e0.mod.nolimit.keeps fun b o e=>(e0.bs b o e).1
 have hkind:∀y∈ps.zip us,scope.names.lookup y.1=some .local\/(scope.names.lookup y.1=some .cell/\((cellsFrom (s.heap.objs.size+1) scope.names []).lookup y.1).isSome=true):=fun⟨n,v⟩ hy=>by
  rcases S.par n (gZ hy).1 with q|q
  ·exact .inl q
  ·exact .inr ⟨q,PySem.W.cellsFrom_some _ _ _ (.inl q)⟩
 refine codeAny_call_function hr.depth (KX _ _ lk) rfl S.co S.gen rfl (PySem.W.codeRec_of KX hcd) (hb _ _ _ _ ?_)
 refine wpAny_newFunctionEnv_cells S.kind hkind fun env he s1 x=>?_
 subst he
 refine⟨lim.keeps x.toInCall.keep,codeAny_func ?_⟩
 obtain⟨t,ht,hq⟩:=hbody A outer s H vs Q E (hr.deeper _) hsp
 have I:Inv (pM CX P w K mg base N qual scope f cdv A outer s H E) [] (start N vs) H s1:=GK S hr.hd e0 hl r x
 refine dy (ht [] s1 (start N vs) H _ I hq) (fun fl s' hs=>?_) fun e s' hs=>hs
 have fin:∀{σ':St} {H':Hp} {v:V} {u:Value},Inv (pM CX P w K mg base N qual scope f cdv A outer s H E) [] σ' H' s'->RelV v u->Q v H'->CE outer P w H s Q u s':=
  fun{σ' H' v u} J rv q=>⟨v,H',J.os,J.bare,J.base,J.hok,rv,q⟩
 cases fl with
 |ret u=>
  obtain⟨v,σ',H',J,rv,q⟩:=hs
  exact fin J rv q
 |next=>
  obtain⟨σ',H',J,q⟩:=hs
  exact fin (v:=V.non) (u:=Value.none) J rfl q
 |brk=>
  obtain⟨_,_,_,q⟩:=hs
  exact False.elim q
 |cont=>
  obtain⟨_,_,_,q⟩:=hs
  exact False.elim q
section
variable{X:Cx}{x:Str}{p pos:Pos}{e:Expr}{es:List Expr}{t:TA}{id T:String}{r:List V->Hp->VK->Prop}
def pT(r:List V->Hp->VK->Prop)(t:TA):TE:=fun σ H Q=>t σ H fun vs H1=>r vs H1 Q
theorem iU(hc:jct X (.builtin id) r)(hg:Gl X x)(hm:X.mg x=none)(hv:bootBuiltins x=some (.builtin id))(ha:PA X (e::es) t)(hn:x≠"__name__":=by decide)(hdb:(x==("__debug__":Str))=false:=by decide)
  (he:starEach (e::es) X.env=(false,eval e X.env)::starEach es X.env:=by rfl) (hpl:(backTo pos (starEach es X.env)).any (·.1)=false:=by rfl):PE X (.Call (.Name x p) (e::es) [] pos) (pT r t):=by
 intro pins s σ H Q I h
 refine dA (nc I hg hm hv ?_ hn hdb)
 exact PyProof.Rows.callWith_builtin1 (iy (ha pos pins s σ H _ I h) fun us s1 ⟨vs,H1,I1,r1,q1⟩=>hc pins s1 σ H1 vs us Q I1 r1 q1) he hpl
theorem lN(hc:jct X (.type T) r)(hg:Gl X x)(hm:X.mg x=none)(hv:bootBuiltins x=some (.type T))(ha:PA X (e::es) t)(hn:x≠"__name__":=by decide)(hdb:(x==("__debug__":Str))=false:=by decide)
  (he:starEach (e::es) X.env=(false,eval e X.env)::starEach es X.env:=by rfl) (hpl:(backTo pos (starEach es X.env)).any (·.1)=false:=by rfl):PE X (.Call (.Name x p) (e::es) [] pos) (pT r t):=by
 intro pins s σ H Q I h
 refine dA (nc I hg hm hv ?_ hn hdb)
 exact cL (iy (ha pos pins s σ H _ I h) fun us s1 ⟨vs,H1,I1,r1,q1⟩=>hc pins s1 σ H1 vs us Q I1 r1 q1) he hpl
end
end L2
namespace HT
open PySem PyProof.Rows
noncomputable def lexLt:List Int->List Int->Bool
 |[],[]=>false
 |[],_::_=>true
 |_::_,[]=>false
 |x::xs,y::ys=>if x=y then lexLt xs ys else decide (x<y)
theorem oY(x y:Int)(xs ys:List Int):lexLt (x::xs) (y::ys)=if x=y then lexLt xs ys else decide (x<y):=rfl
theorem Je:lexLt [] []=false:=rfl
theorem Jr(y:Int)(ys:List Int):lexLt [] (y::ys)=true:=rfl
theorem Jq(x:Int)(xs:List Int):lexLt (x::xs) []=false:=rfl
theorem FS(A:Around)(s:Shared)(a:Int)(t:Tok)(c:Int)(u:Tok):∃e,SeqAt.EqAt A s (.int a t) (.int c u) e/\(e=true↔a=c):=
 ⟨(a==c),gD a t c u,by simp⟩
theorem Gk(A:Around)(s:Shared)(a:Int)(t:Tok)(c:Int)(u:Tok)(prog:Program)(w:World)(E:Value->Shared->Prop)(Q:Value->Shared->Prop)(h:Q (.bool (decide (a<c))) s):
  wpAny (model prog w) A (richCompare .Lt (.int a t) (.int c u)) Q E s:=
 (PyProof.Rows.lt_int h:wpAny (model prog w) A (compareOp .Lt (.int a t) (.int c u)) Q E s)
section
open PySem.SeqAt
open PySem.AutoSeq1 (wpAny_loadPart')
open PySem.MeetsSeq PySem.MeetsSeq2 PySem.MeetsSeq3
theorem Jo(l b:Addr)(items items2:Array Value)(n n2:Nat)(dd dd2:Option Addr)(sl mU:Array (Option Value))(ns ms:List Int)(hi:IntsAre items.toList ns)(hj:IntsAre items2.toList ms):
  Meets (Builtin.«tuple.__lt__» ⟨[.ref l,.ref b],[]⟩)
   (fun _ R s=>s.heap.get? l=some {cls:=.type "tuple",dict:=dd,data:=.seq items n,slots:=sl}/\s.heap.get? b=some {cls:=.type "tuple",dict:=dd2,data:=.seq items2 n2,slots:=mU}/\
    R (.ok (.ret (.bool (lexLt ns ms)))) s):=
 .of_wp fun prog w A R s h=>by
  obtain⟨hp,g,d,tk,os⟩:=s;obtain⟨hl,hb,h⟩:=h
  have f2:=AutoSeq1.sub_tuple_tuple
  have z1:items.size = ns.length:=by rw [<- hi.length]; simp
  have z2:items2.size = ms.length:=by rw [<- hj.length]; simp
  wp_walk using fU hl,fU hb,wpAny_forIn_list _ (fun rest b s'=>b.1=none/\s'=⟨hp,g,d,tk,os⟩/\∃(vs ws:List Value) (ns' ms':List Int),rest=vs.zip ws/\
   IntsAre vs ns'/\IntsAre ws ms'/\ns'.length+items2.size=ms'.length+items.size/\R (.ok (.ret (.bool (lexLt ns' ms')))) ⟨hp,g,d,tk,os⟩) _
  case turn=>
   rintro⟨y,x⟩ rest b s' ⟨hb',rfl,vs,ws,ns',ms',hz,hvi,hwi,hlen,hR⟩
   cases hvi with
   |nil=>rw[List.zip_nil_left]at hz;cases hz
   | cons a t hvi'=>
    cases hwi with
    |nil=>rw[List.zip_nil_right]at hz;cases hz
    | cons c u hwi'=>
     rw[List.zip_cons_cons]at hz
     injection hz with hyx hrest
     injection hyx with hy hx
     subst hy hx
     rw[oY]at hR
     simp only[List.length_cons]at hlen
     obtain⟨e,he,hiff⟩:=FS A.in1 ⟨hp,g,d,tk,os⟩ a t c u
     refine ae (he prog w _ _ ?_)
     cases e with
     |true=>
      rw[aH (hiff.mp rfl)]at hR
      wp_walk
      exact⟨rfl,rfl,_,_,_,_,hrest,hvi',hwi',by lia,hR⟩
     |false=>
      rw[aE (fun q=>absurd (hiff.mpr q) aW)]at hR
      have hri:=Gk A.in1 ⟨hp,g,d,tk,os⟩ a t c u prog w
      wp_walk using hri
      exact⟨_,rfl,by simpa using hR⟩
  case fin=>
   rintro⟨b1,b2⟩ s' ⟨hb',rfl,vs,ws,ns',ms',hz,hvi,hwi,hlen,hR⟩
   simp only at hb'
   subst hb'
   have hv:lexLt ns' ms'=decide (items.size<items2.size):=by
    cases hvi with
    | nil=>
     cases hwi with
     |nil=>
      simp only[List.length_nil]at hlen
      rw[Je]
      exact(az (by lia)).symm
     |cons c u hw=>
      simp only[List.length_nil,List.length_cons]at hlen
      rw[Jr]
      exact(af (by lia)).symm
    | cons a t hv=>
     cases hwi with
     |nil=>
      simp only[List.length_nil,List.length_cons]at hlen
      rw[Jq]
      exact(az (by lia)).symm
     |cons c u hw=>
      rw[List.zip_cons_cons]at hz
      cases hz
   rw[hv]at hR
   wp_walk
   exact⟨_,rfl,by simpa[Builtin.Tuple.tupleCompareSizes]using hR⟩
  case h=>
   exact⟨rfl,rfl,items.toList,items2.toList,ns,ms,rfl,hi,hj,by lia,h⟩
end
section
variable{prog:Program}{w:World}{A:Around}{E:Value->Shared->Prop}{s:Shared}
theorem EC{l b:Addr}{items items2:Array Value}{ns ms:List Int}{Q:Value->Shared->Prop}(hl:IsTup s.heap l items)(hb:IsTup s.heap b items2)(hi:IntsAre items.toList ns)(hj:IntsAre items2.toList ms)
  (hu:A.units<cLine) (h:Q (.bool (lexLt ns ms)) s):wpAny (model prog w) A (compareOp .Lt (.ref l) (.ref b)) Q E s:=by
 obtain⟨⟨cls,dd,data,sl⟩,ho,hc,n,hd⟩:=id hl
 obtain⟨⟨cls2,dd2,data2,mU⟩,ho2,hc2,n2,hd2⟩:=id hb
 simp only at hc hd hc2 hd2
 subst hc hd hc2 hd2
 exact richCompare_meets_room (op:=.Lt) ⟨_,ho,rfl⟩ ⟨_,ho2,rfl⟩ PySem.F.slot_tuple_lt PySem.F.entry_tuple_lt (PySem.F.args_tuple_lt_2 _ _) (Jo l b items items2 n n2 dd dd2 sl mU ns ms hi hj)
  ⟨ho,ho2,show Value.bool (lexLt ns ms)≠Value.notImplemented/\Q (.bool (lexLt ns ms)) s from⟨(fun x=>nomatch x),h⟩⟩ hu
noncomputable def iY(n d:Nat):Option Int->Nat
 |none=>d
 |some v=>if v<0 then(v+(n:Int)).toNat else min v.toNat n
theorem DE(n d:Nat)(hd:d<=n)(o:Option Int):iY n d o<=n:=by
 cases o with
 |none=>exact hd
 |some v=>
  show(if v<0 then(v+(n:Int)).toNat else min v.toNat n)<=n
  by_cases hv:v<0
  ·rw[aH hv];lia
  ·rw[aE hv];exact fL _ _
theorem zA(v:Int)(n d:Nat):(if v<0 then max (v+(n:Int)) 0 else min v (n:Int))=((iY n d (some v):Nat):Int):=by
 show(if v<0 then max (v+(n:Int)) 0 else min v (n:Int))=(((if v<0 then(v+(n:Int)).toNat else min v.toNat n):Nat):Int)
 by_cases hv:v<0
 ·simp only[aH hv];lia
 ·simp only[aE hv];lia
theorem Hn(lo hi:Option Int)(n:Nat):Builtin.Slice.sliceAdjust lo hi 1 (n:Int)=(((iY n 0 lo:Nat):Int),((iY n n hi:Nat):Int)):=by
 have h1:¬((1:Int)<0):=by lia
 unfold Builtin.Slice.sliceAdjust
 simp only[h1,if_false]
 refine gL ?_ ?_
 ·cases lo with
  |none=>rfl
  |some v=>exact zA v n 0
 ·cases hi with
  |none=>rfl
  |some v=>exact zA v n n
theorem Im(i j:Nat):Builtin.Slice.slicePlaces (i:Int) (j:Int) 1=j-i:=by
 unfold Builtin.Slice.slicePlaces
 have h1:(1:Int)>0:=by lia
 simp only[h1,if_true,Int.ediv_one]
 split<;>lia
theorem BZ{v:Value}{o:Option Int}{Q:Option Int->Shared->Prop}(p:IsPart v o)(h:Q o s):wpAny (model prog w) A (Builtin.Slice.slicePartIndex v) Q E s:=by
 cases p with
 |none=>exact slicePart_none h
 |int i t=>exact slicePart_int h
theorem JM{sl:Addr}{vl vu:Value}{lo hi:Option Int}{n:Nat}{Q:Int×Int×Nat->Shared->Prop}(hs:s.heap.IsSliceOf sl vl vu .none)(pl:IsPart vl lo)(pu:IsPart vu hi)
  (h:Q (((iY n 0 lo:Nat):Int),1,iY n n hi-iY n 0 lo) s):wpAny (model prog w) A (Builtin.Slice.sliceApplied (.ref sl) (pure (n:Int))) Q E s:=by
 obtain⟨os,hos,hcs,hds⟩:=id hs
 unfold Builtin.Slice.sliceApplied Builtin.Slice.sliceFields
 refine ae (ae (cH hos hds (x:=vl) rfl (ae (cH hos hds (x:=vu) rfl (ae (cH hos hds (x:=.none) rfl (aI ?_)))))))
 refine ae (slicePart_none ?_)
 show wpAny _ _ (if((1:Int)==0)=true then _ else _) _ _ s
 rw[aE (by decide)]
 refine ae (BZ pl (ae (BZ pu (ae (aI ?_)))))
 show wpAny _ _ (match Builtin.Slice.sliceAdjust lo hi 1 (n:Int)with |(lo,hi)=>pure (lo,(1:Int),Builtin.Slice.slicePlaces lo hi 1)) _ _ s
 rw[Hn lo hi n]
 show wpAny _ _ (pure (((iY n 0 lo:Nat):Int),(1:Int),Builtin.Slice.slicePlaces ((iY n 0 lo:Nat):Int) ((iY n n hi:Nat):Int) 1)) _ _ s
 rw[Im]
 exact aI h
theorem Gh(xs:Array Value)(i k:Nat):((List.range k).filterMap fun(m:Nat)=>xs[((i:Int)+(m:Int)*1).toNat]?).toArray=((xs.toList.drop i).take k).toArray:=by
 have e:(fun(m:Nat)=>xs[((i:Int)+(m:Int)*1).toNat]?)=fun m=>xs[i+m]?:=by
  funext m
  have:((i:Int)+(m:Int)*1).toNat=i+m:=by lia
  rw[this]
 rw[e]
 have:=pick_run xs i k
 rw[List.filterMap_map]at this
 have e2:((fun x=>xs[x]?)∘fun x=>i+x)=fun m=>xs[i+m]?:=rfl
 rw[e2]at this
 rw[this]
theorem JZ{t sl:Addr}{items:Array Value}{vl vu:Value}{lo hi:Option Int}{Q:Value->Shared->Prop}(ht:IsTup s.heap t items)(hs:s.heap.IsSliceOf sl vl vu .none)(pl:IsPart vl lo)(pu:IsPart vu hi)
  (hw:¬(iY items.size 0 lo=0/\iY items.size items.size hi=items.size))
  (h:Q (.ref s.heap.objs.size) {s with heap:=s.heap.push {cls:=.type "tuple",data:=.seq ((items.toList.drop (iY items.size 0 lo)).take (iY items.size items.size hi-iY items.size 0 lo)).toArray}})
  (hsz:items.size<=sizeLine):wpAny (model prog w) A (getItem (.ref t) (.ref sl)) Q E s:=by
 have htake:sizeOk (.seq ((items.toList.drop (iY items.size 0 lo)).take (iY items.size items.size hi-iY items.size 0 lo)).toArray):=by
  show((items.toList.drop (iY items.size 0 lo)).take (iY items.size items.size hi-iY items.size 0 lo)).toArray.size<=sizeLine
  rw[aC,aO,fg,Array.length_toList]
  lia
 have hj:iY items.size items.size hi<=items.size:=DE _ _ (aF _) hi
 obtain⟨os,hos,hcs,hds⟩:=id hs
 have hTs:s.TypeIs (.ref sl) "slice":=⟨os,hos,hcs⟩
 unfold getItem
 try with_reducible refine cM ?_
 first|refine ae (aI ?_)|skip
 refine ae (wpAny_sequenceKey ht.typeIs (by decide) ?_)
 refine ae (dq (name:=Str.ofString "__getitem__") ht.typeIs eY
  (dX eY ht.typeIs entry_tuple_getitem ?_ (args_tuple_getitem _ _)))
 show wpAny _ _ (Builtin.Tuple.tupleItemsOf (.ref t)>>=_) _ _ s
 refine ae (tupleItemsOf_ ht ?_)
 refine ae (eK hTs ?_)
 rw[aH (by decide)]
 refine ae (JM hs pl pu ?_)
 have hno:¬((((iY items.size 0 lo:Nat):Int)==0&&(1:Int)==1&&(iY items.size items.size hi-iY items.size 0 lo)==items.size)=true):=by
  intro q
  rw[bo,bo]at q
  have q1:((iY items.size 0 lo:Nat):Int)=0:=eq_of_beq q.1.1
  have q2:iY items.size items.size hi-iY items.size 0 lo=items.size:=eq_of_beq q.2
  exact hw ⟨by lia,by lia⟩
 show wpAny _ _ (if(((iY items.size 0 lo:Nat):Int)==0&&(1:Int)==1&&(iY items.size items.size hi-iY items.size 0 lo)==items.size)=true then _ else _) _ _ s
 rw[aE hno,Gh]
 first
  |exact ae (m:=Builtin.Tuple.tupleExact _) (cO (aI ⟨_,rfl,aI h⟩) htake)
  |exact ae (m:=Builtin.Tuple.tupleExact _) (cO (ae (aI (aI ⟨_,rfl,aI h⟩))) htake)
  |exact ae (ae (m:=Builtin.Tuple.tupleExact _) (cO (aI (aI ⟨_,rfl,aI h⟩)) htake))
  |exact ae (ae (m:=Builtin.Tuple.tupleExact _) (cO (aI ⟨_,rfl,aI h⟩) htake))
end
end HT
namespace L2
open PySem PySem.Spec PyProof.Rows
abbrev TO:=St->Hp->(Option Int->Hp->Prop)->Prop
def PO(X:Cx)(e:Option Expr)(t:TO):Prop:=
 ∀(pins:List (Addr×Obj)) (s:Shared) (σ:St) (H:Hp) (Q:Option Int->Hp->Prop),Inv X pins σ H s->t σ H Q->
  wpAny (model X.prog X.w) X.A (evalPart e X.env) (fun u s'=>∃o H',Inv X pins σ H' s'/\IsPart u o/\Q o H') X.xe s
def Al:TO:=fun _ H Q=>Q none H
theorem nY{ns:List Int}:∀{us:List Value},Vals (ns.map V.int) us->IntsAre us ns:=by
 induction ns with
 |nil=>intro us r;rw[bJ]at r;cases r;exact .nil
 | cons n ns ih=>
  intro us r
  rw[ai]at r
  cases r with
  |cons r1 r2=>
   obtain⟨t,e⟩:=r1
   subst e
   exact .cons n t (ih r2)
section
variable{X:Cx}{e:Expr}{te:TE}{lo hi:Option Expr}{tl th:TO}{pos p2:Pos}
theorem lA:PO X none Al:=by
 intro pins s σ H Q I h
 rw[evalPart_none]
 exact aI ⟨none,H,I,.none,h⟩
def SlR(X:Cx)(r:V->Option Int->Option Int->Hp->VK->Prop):Prop:=
 ∀(pins:List (Addr×Obj)) (s:Shared) (σ:St) (H:Hp) (x:V) (v vl vu:Value) (lo hi:Option Int) (sl:Addr) (Q:VK),Inv X pins σ H s->RelV x v->s.heap.IsSliceOf sl vl vu .none->IsPart vl lo->IsPart vu hi->r x lo hi H Q->
  ∃T id,typeLookup (.type T) "__getitem__"=pure (some (.builtin id))/\s.TypeIs v T/\wpAny (model X.prog X.w) X.A (getItem v (.ref sl)) (EP X pins σ Q) X.xe s
def xV(r:V->Option Int->Option Int->Hp->VK->Prop)(te:TE)(tl th:TO):TE:=fun σ H Q=>te σ H fun x H1=>tl σ H1 fun l H2=>th σ H2 fun u H3=>r x l u H3 Q
theorem lE{r:V->Option Int->Option Int->Hp->VK->Prop}(hr:SlR X r)(he:PE X e te)(hl:PO X lo tl)(hu:PO X hi th):PE X (.Subscript e (.Slice lo hi none p2) pos) (xV r te tl th):=by
 intro pins s σ H Q I h
 refine hU (iy (he pins s σ H _ I h) fun v s1 ⟨x,H1,I1,r1,q1⟩=>?_)
 refine wpAny_Slice (iy (hl pins s1 σ H1 _ I1 q1) fun vl s2 ⟨l,H2,I2,pl,q2⟩=>iy (hu pins s2 σ H2 _ I2 q2) fun vu s3 ⟨u,H3,I3,pu,q3⟩=>?_)
 rw[evalPart_none]
 refine aI ?_
 have I4:Inv X pins σ H3 {s3 with heap:=s3.heap.push {cls:=.type "slice",data:=.fields #[vl,vu,.none]}}:=I3.kept (t':=s3.toks) fun b ob q=>ag _ q
 obtain⟨T,id,hT,ht,hg⟩:=hr pins {s3 with heap:=s3.heap.push {cls:=.type "slice",data:=.fields #[vl,vu,.none]}} σ H3 x v vl vu l u s3.heap.objs.size Q I4 r1 (Heap.IsSliceOf.new ..) pl pu q3
 show wpAny (model X.prog X.w) X.A (subscriptTail e (.Slice lo hi none p2) v (.ref s3.heap.objs.size)) (EP X pins σ Q) X.xe {s3 with heap:=s3.heap.push {cls:=.type "slice",data:=.fields #[vl,vu,.none]}}
 exact tail_any (ops:=[.ref s3.heap.objs.size,v]) ht hT hg (by with_unfolding_all rfl)
noncomputable def kW(xs:List V)(lo hi:Option Int):List V:=(xs.drop (HT.iY xs.length 0 lo)).take (HT.iY xs.length xs.length hi-HT.iY xs.length 0 lo)
theorem B9(xs:List V)(lo hi:Option Int):(kW xs lo hi).length<=xs.length:=by
 unfold kW
 rw[aO,fg]
 lia
def DO(K:PySem.W.Frag):V->Option Int->Option Int->Hp->VK->Prop:=fun x lo hi H Q=>∃a xs,x= .ref a/\SqT K H a xs/\
 ¬(HT.iY xs.length 0 lo=0/\HT.iY xs.length xs.length hi=xs.length)/\∀p,H p=none->Q (.ref p) (upd H p (.tup (kW xs lo hi)))
theorem Dy:SlR X (DO X.K):=by
 intro pins s σ H x v vl vu lo hi sl Q I rx hs pl pu h
 obtain⟨a,xs,rfl,hx,hw,q⟩:=h
 cases rx
 obtain⟨its,r,ht,hz⟩:=I.tuple hx
 have hlen:its.toArray.size=xs.length:=by rw[aC];exact r.length.symm
 refine⟨"tuple",_,eY.lookup,ht.typeIs,?_⟩
 refine HT.JZ ht hs pl pu (by rw[hlen];exact hw) ?_ (by rw[hlen];exact hz)
 rw[hlen]
 refine⟨.ref s.heap.objs.size,_,I.laid (t':=s.toks) (o:=.tup (kW xs lo hi)) (fun b ob q=>ag _ q) (aF _) ?_,rfl,q _ (I.hok.fresh (aF _))⟩
 exact⟨br (B9 xs lo hi) hz,_,(r.drop (HT.iY xs.length 0 lo)).take (HT.iY xs.length xs.length hi-HT.iY xs.length 0 lo),IsTup.new _ _⟩
def DU(K:PySem.W.Frag):R2:=fun x y H Q=>∃a b ns ms,x= .ref a/\y= .ref b/\SqT K H a (ns.map V.int)/\SqT K H b (ms.map V.int)/\Q (.bl (HT.lexLt ns ms)) H
theorem Ek(hu:X.A.units<cLine):OpR X (compareOp .Lt) (DU X.K):=by
 intro pins s σ H x y v u Q I rx ry h
 obtain⟨a,b,ns,ms,rfl,rfl,ha,hb,q⟩:=h
 cases rx
 cases ry
 obtain⟨its,r1,p1,_⟩:=I.tuple ha
 obtain⟨its2,r2,p2,_⟩:=I.tuple hb
 have i1:IntsAre its.toArray.toList ns:=nY r1
 have i2:IntsAre its2.toArray.toList ms:=nY r2
 exact HT.EC p1 p2 i1 i2 hu ⟨.bl (HT.lexLt ns ms),H,I,rfl,q⟩
end
noncomputable def k9(n:Nat)(i:Int):Option Nat:=if 0<=i then(if i<n then some i.toNat else none)else if -(n:Int)<=i then some (i+n).toNat else none
noncomputable def jb{α:Type}(xs:List α)(i:Int):Option α:=(k9 xs.length i).bind fun j=>xs[j]?
theorem zJ{n:Nat}{i:Int}{j:Nat}(h:k9 n i=some j):seqIndex? i n=some j/\j<n/\-(n:Int)<=i/\i<n:=by
 unfold k9 at h
 by_cases h0:0<=i
 ·rw[aH h0]at h
  by_cases h1:i<n
  ·rw[aH h1]at h
   have e:i.toNat=j:=aD h
   exact⟨by rw[gU h0 h1,e],by lia,by lia,h1⟩
  ·rw[aE h1]at h;cases h
 ·rw[aE h0]at h
  by_cases h1:-(n:Int)<=i
  ·rw[aH h1]at h
   have e:(i+n).toNat=j:=aD h
   exact⟨by rw[seqIndex_neg (by lia) h1,e],by lia,h1,by lia⟩
  ·rw[aE h1]at h;cases h
theorem vF{α:Type}{xs:List α}{i:Int}{v:α}(h:jb xs i=some v):∃j,seqIndex? i xs.length=some j/\xs[j]? =some v/\j<xs.length/\-(xs.length:Int)<=i/\i<xs.length:=by
 unfold jb at h
 cases e:k9 xs.length i with
 |none=>rw[e]at h;cases h
 |some j=>
  rw[e]at h
  obtain⟨h1,h2,h3,h4⟩:=zJ e
  exact⟨j,h1,h,h2,h3,h4⟩
theorem k7{α:Type}{xs:List α}{j:Nat}{v:α}(h:xs[j]? =some v):jb xs (j:Int)=some v:=by
 have hj:j<xs.length:=(aq.mp h).1
 have e:k9 xs.length (j:Int)=some j:=by
  unfold k9
  rw[aH (by lia),aH (by lia)];simp
 unfold jb;rw[e];exact h
theorem Ax{α:Type}(xs:List α)(v:α):jb (xs++[v]) (-1)=some v:=by
 have hl:(xs++[v]).length=xs.length+1:=by simp
 have e:k9 (xs++[v]).length (-1)=some xs.length:=by
  unfold k9
  rw[hl,aE (by decide),aH (by lia)]
  congr 1
  lia
 unfold jb
 rw[e]
 show(xs++[v])[xs.length]? =some v
 simp
def EM(b:Expr):Prop:=∀o i,subscripted b false o i=operate [o,i] (getItem o i)
def IxR(X:Cx)(r:R2):Prop:=
 ∀(value slice:Expr) (pins:List (Addr×Obj)) (s:Shared) (σ:St) (H:Hp) (x y:V) (v u:Value) (Q:VK),Inv X pins σ H s->RelV x v->RelV y u->r x y H Q->
  subscripted slice false v u=operate [v,u] (getItem v u)->wpAny (model X.prog X.w) X.A (subscriptTail value slice v u) (EP X pins σ Q) X.xe s
def MtR(X:Cx)(id:String)(r:V->List V->Hp->VK->Prop):Prop:=
 ∀(pins:List (Addr×Obj)) (s:Shared) (σ:St) (H:Hp) (x:V) (xs:List V) (v:Value) (us:List Value) (Q:VK),Inv X pins σ H s->RelV x v->Vals xs us->r x xs H Q->
  wpAny (model X.prog X.w) X.A (call (.builtin id) (v::us)) (EP X pins σ Q) X.xe s
section
variable{X:Cx}{a b:Expr}{ta tb:TE}{pos:Pos}
theorem IxR.or{r r':R2}(h:IxR X r)(h':IxR X r'):IxR X (fun x y H Q=>r x y H Q\/r' x y H Q):=by
 intro value slice pins s σ H x y v u Q I rx ry q hs
 rcases q with q|q
 ·exact h value slice pins s σ H x y v u Q I rx ry q hs
 ·exact h' value slice pins s σ H x y v u Q I rx ry q hs
theorem il{r:R2}(hr:IxR X r)(ha:PE X a ta)(hb:PE X b tb)(hs:EM b):PE X (.Subscript a b pos) (nE r ta tb):=by
 intro pins s σ H Q I h
 exact hU (xK ha hb I h fun v u s2 x y H2 I2 rx ry q=>hr a b pins s2 σ H2 x y v u Q I2 rx ry q (hs _ _))
def yo(K:PySem.W.Frag):R2:=fun x y H Q=>∃p xs i v,x= .ref p/\y= .int i/\SqL K H p xs/\jb xs i=some v/\Q v H
def DV(K:PySem.W.Frag):R2:=fun x y H Q=>∃p xs i v,x= .ref p/\y= .int i/\SqT K H p xs/\jb xs i=some v/\Q v H
theorem zK:IxR X (yo X.K):=by
 intro value slice pins s σ H x y v u Q I rx ry h hs
 obtain⟨p,xs,i,z,rfl,rfl,hq,he,q⟩:=h
 cases rx
 obtain⟨t,rfl⟩:=ry
 obtain⟨its,r,pl,hz⟩:=I.list hq
 obtain⟨j,h1,h2,h3,h4,h5⟩:=vF he
 obtain⟨w,ew,rw'⟩:=r.get h2
 have hl:=r.length
 have hn:=oE
 have fin:EP X pins σ Q w s:=⟨z,H,I,rw',q⟩
 by_cases h0:0<=i
 ·have hj:i.toNat=j:=by
   rw[gU h0 h5]at h1
   exact aD h1
  exact item_listR pl.isList h0 (by lia) (by rw[hj];simpa using ew) fin hs
 ·have hj:(i+(its.toArray.size:Int)).toNat=j:=by
   rw[seqIndex_neg (by lia) h4]at h1
   rw [aC,<- hl]
   exact aD h1
  exact subscriptTail_builtinR (x:=w) pl.isList.typeIs gI.lookup
   (wpAny_getItem_list_neg (Q:=fun r s'=>r=w/\EP X pins σ Q r s') pl.isList (by lia) (by rw[aC]<;>lia) (by lia) (by rw[hj];simpa using ew) ⟨rfl,fin⟩) hs
theorem JT:IxR X (DV X.K):=by
 intro value slice pins s σ H x y v u Q I rx ry h hs
 obtain⟨p,xs,i,z,rfl,rfl,hq,he,q⟩:=h
 cases rx
 obtain⟨t,rfl⟩:=ry
 obtain⟨its,r,pl,hz⟩:=I.tuple hq
 obtain⟨j,h1,h2,h3,h4,h5⟩:=vF he
 obtain⟨w,ew,rw'⟩:=r.get h2
 have hl:=r.length
 have hn:=oE
 have fin:EP X pins σ Q w s:=⟨z,H,I,rw',q⟩
 exact subscriptTail_builtinR (x:=w) pl.typeIs slot_tuple_getitem.lookup
  (getItem_tuple (j:=j) (Q:=fun r s'=>r = w/\EP X pins σ Q r s') pl (by lia) (by lia) (by rw [aC,<- hl]; exact h1) (by simpa using ew) ⟨rfl,fin⟩) hs
theorem HZ(its:List Value)(n j:Nat)(u:Value):Obj.mapSeq (·.setIfInBounds j u) {cls:=.type "list",data:=.seq its.toArray n}={cls:=.type "list",data:=.seq (its.set j u).toArray n}:=by
 simp[Obj.mapSeq]
theorem Inv.lst{pins:List (Addr×Obj)}{σ:St}{H:Hp}{s:Shared}{p:Addr}{xs:List V}(I:Inv X pins σ H s)(h:H p=some (.lst xs)):
  ∃(its:List Value) (n:Nat),Vals xs its/\s.heap.get? p=some {cls:=.type "list",data:=.seq its.toArray n}/\xs.length<=sizeLine:=by
 obtain⟨z,its,n,r,e⟩:=I.hok p _ h
 exact⟨its,n,r,e,z⟩
theorem Inv.lstUpd{pins:List (Addr×Obj)}{σ:St}{H:Hp}{s:Shared}{p:Addr}{xs ys:List V}{its its':List Value}{n n':Nat}{f:Obj->Obj}(I:Inv X pins σ H s)(h:H p=some (.lst xs))
  (ho:s.heap.get? p=some {cls:=.type "list",data:=.seq its.toArray n}) (hf:f {cls:=.type "list",data:=.seq its.toArray n}={cls:=.type "list",data:=.seq its'.toArray n'}) (r:Vals ys its') (hz:ys.length<=sizeLine) (t:Nat):
  Inv X pins σ (upd H p (.lst ys)) {s with heap:=s.heap.update p f,toks:=t}:=by
 have e:(s.heap.update p f).get? p=some {cls:=.type "list",data:=.seq its'.toArray n'}:=by
  rw[c7 f ho (by rw[hf]<;>rfl),hf]
 refine I.write (x:=p) (e:=p) (by rw[h];trivial) (.inl rfl) (fun b u hb q=>(bR _ _ (cS hb)).trans q) ⟨_,e⟩ ?_
 exact⟨hz,its',n',r,e⟩
def DQ:V->V->V->Hp->(Hp->Prop)->Prop:=fun o i v H Q=>∃p xs k j,o= .ref p/\i= .int k/\H p=some (.lst xs)/\k9 xs.length k=some j/\Q (upd H p (.lst (xs.set j v)))
theorem Gn:PSet X DQ:=by
 intro pins s σ H o i v ov iv u Q I ro ri rv h
 obtain⟨p,xs,k,j,rfl,rfl,hp,hj,q⟩:=h
 cases ro
 obtain⟨t,rfl⟩:=ri
 obtain⟨its,n,r,ho,hz⟩:=I.lst hp
 obtain⟨h1,h2,h3,h4⟩:=zJ hj
 have hl:=r.length
 have hn:=oE
 have I':Inv X pins σ (upd H p (.lst (xs.set j v))) {s with heap:=s.heap.update p (Obj.mapSeq (·.setIfInBounds j u))}:=
  I.lstUpd hp ho (HZ its n j u) (r.set rv j) (by rw[eG];exact hz) s.toks
 by_cases h0:0<=k
 ·have hk:k.toNat=j:=by
   rw[gU h0 h4]at h1
   exact aD h1
  exact PySem.W.ki_setAt ho h0 (by lia) (by rw [aC,<- hl]; exact h4) (by rw [hk]; exact ⟨_,I',q⟩)
 ·have hk:(k+(its.toArray.size:Int)).toNat=j:=by
   rw[seqIndex_neg (by lia) h3]at h1
   rw [aC,<- hl]
   exact aD h1
  exact PySem.W.ki_setBack ho (by lia) (by rw [aC,<- hl]; exact h3) (by lia) (by rw [hk]; exact ⟨_,I',q⟩)
theorem Jc(lo hi:Option Int)(n:Nat):(sliceBounds lo hi none n).1=((HT.iY n 0 lo:Nat):Int)/\(sliceBounds lo hi none n).2.1=((HT.iY n n hi:Nat):Int)/\(sliceBounds lo hi none n).2.2=1:=by
 refine⟨?_,?_,rfl⟩
 ·cases lo with
  |none=>simp[sliceBounds,HT.iY]
  |some i=>
   simp only[sliceBounds,HT.iY,Option.getD_none,show(1:Int)>0 by decide,if_true]
   by_cases h:i<0
   ·simp only[h,if_true]<;>lia
   ·simp only[h,if_false]<;>lia
 ·cases hi with
  |none=>simp[sliceBounds,HT.iY]
  |some i=>
   simp only[sliceBounds,HT.iY,Option.getD_none,show(1:Int)>0 by decide,if_true]
   by_cases h:i<0
   ·simp only[h,if_true]<;>lia
   ·simp only[h,if_false]<;>lia
theorem Jn(its:List Value)(lo hi:Option Int):slicePick its.toArray lo hi none=((its.drop (HT.iY its.length 0 lo)).take (HT.iY its.length its.length hi-HT.iY its.length 0 lo)).toArray:=by
 obtain⟨h1,h2,h3⟩:=Jc lo hi its.toArray.size
 unfold slicePick
 rw[h1,h2,h3]
 simp only[sliceRange_one,pick_run,aC]<;>rfl
def DP(K:PySem.W.Frag):V->Option Int->Option Int->Hp->VK->Prop:=fun x lo hi H Q=>∃a xs,x= .ref a/\SqL K H a xs/\∀p,H p=none->Q (.ref p) (upd H p (.lst (kW xs lo hi)))
theorem FF:SlR X (DP X.K):=by
 intro pins s σ H x v vl vu lo hi sl Q I rx hs pl pu h
 obtain⟨a,xs,rfl,hx,q⟩:=h
 cases rx
 obtain⟨its,r,ht,hz⟩:=I.list hx
 have hlen:=r.length
 refine⟨"list",_,gI.lookup,ht.isList.typeIs,?_⟩
 refine wpAny_getItem_list_slice ht.isList hs pl pu .none (by simp) ?_ (by rw[aC]<;>lia)
 rw [Jn,<- hlen]
 refine⟨.ref s.heap.objs.size,_,I.laid (t':=s.toks) (o:=.lst (kW xs lo hi)) (fun b ob q=>ag _ q) (aF _) ?_,rfl,q _ (I.hok.fresh (aF _))⟩
 exact⟨br (B9 xs lo hi) hz,_,0,(r.drop (HT.iY xs.length 0 lo)).take (HT.iY xs.length xs.length hi-HT.iY xs.length 0 lo),aQ _ rfl⟩
noncomputable def ll:V->Bool
 | .non=>true
 | .bl _=>true
 | .int _=>true
 | .str _=>true
 |_=>false
noncomputable def mj:V->V->Bool
 | .non,.non=>true
 | .bl a,.bl b=>a==b
 | .bl a,.int b=>(if a then 1 else 0)==b
 | .int a,.bl b=>a==(if b then 1 else 0)
 | .int a,.int b=>a==b
 | .str a,.str b=>a==b
 |_,_=>false
theorem yI{A:Around}{s:Shared}{y x:V}{u v:Value}(ry:RelV y u)(rx:RelV x v)(fy:ll y=true)(fx:ll x=true):SeqAt.EqAt A s u v (mj y x):=by
 cases y with
 |non=>
  cases ry
  cases x with
  |non=>cases rx;exact gX _
  |bl b=>cases rx;exact SeqAt.EqAt.none_bool b
  |int b=>obtain⟨t,rfl⟩:=rx;exact SeqAt.EqAt.none_int b t
  |str b=>obtain⟨t,rfl⟩:=rx;exact SeqAt.EqAt.none_str b t
  |_=>exact absurd (show false=true from fx) aW
 |bl a=>
  cases ry
  cases x with
  |non=>cases rx;exact SeqAt.EqAt.bool_none a
  |bl b=>cases rx;exact SeqAt.EqAt.bool_bool a b
  |int b=>obtain⟨t,rfl⟩:=rx;exact SeqAt.EqAt.bool_int a b t
  |str b=>obtain⟨t,rfl⟩:=rx;exact SeqAt.EqAt.bool_str a b t
  |_=>exact absurd (show false=true from fx) aW
 |int a=>
  obtain⟨t',rfl⟩:=ry
  cases x with
  |non=>cases rx;exact SeqAt.EqAt.int_none a t'
  |bl b=>cases rx;exact SeqAt.EqAt.int_bool a t' b
  |int b=>obtain⟨t,rfl⟩:=rx;exact gD a t' b t
  |str b=>obtain⟨t,rfl⟩:=rx;exact SeqAt.EqAt.int_str a t' b t
  |_=>exact absurd (show false=true from fx) aW
 |str a=>
  obtain⟨t',rfl⟩:=ry
  cases x with
  |non=>cases rx;exact SeqAt.EqAt.str_none a t'
  |bl b=>cases rx;exact SeqAt.EqAt.str_bool a t' b
  |int b=>obtain⟨t,rfl⟩:=rx;exact SeqAt.EqAt.str_int a t' b t
  |str b=>obtain⟨t,rfl⟩:=rx;exact SeqAt.EqAt.str_str a t' b t
  |_=>exact absurd (show false=true from fx) aW
 |_=>exact absurd (show false=true from fy) aW
noncomputable def nA(x:V)(u:Value):Bool:=match u with
 | .none=>mj .non x
 | .bool b=>mj (.bl b) x
 | .int i _=>mj (.int i) x
 | .str z _=>mj (.str z) x
 |_=>false
theorem yJ{x y:V}{u:Value}(r:RelV y u)(f:ll y=true):nA x u=mj y x:=by
 cases y with
 |non=>cases r;rfl
 |bl b=>cases r;rfl
 |int i=>obtain⟨t,rfl⟩:=r;rfl
 |str z=>obtain⟨t,rfl⟩:=r;rfl
 |_=>exact absurd (show false=true from f) aW
theorem vD{x:V}:∀{xs:List V} {us:List Value},Vals xs us->xs.all ll=true->us.any (nA x)=xs.any fun y=>mj y x
 |_,_,.nil,_=>rfl
 |y::xs,u::us,.cons r t,f=>by
  rw[List.all_cons,bo]at f
  rw[List.any_cons,List.any_cons,yJ r f.1,vD t f.2]
theorem wm{A:Around}{s:Shared}{x:V}{v:Value}(rx:RelV x v)(fx:ll x=true):∀{xs:List V} {us:List Value},Vals xs us->xs.all ll=true->∀u∈us,SeqAt.EqAt A s u v (nA x u)
 |_,_,.nil,_=>fun u hu=>by cases hu
 |y::xs,u::us,.cons r t,f=>fun u' hu=>by
  rw[List.all_cons,bo]at f
  rcases aR.mp hu with rfl|hu
  ·rw[yJ r f.1];exact yI r rx f.1 fx
  ·exact wm rx fx t f.2 u' hu
def n6(x:V)(xs:List V):Bool:=xs.any fun y=>mj y x
def yq(K:PySem.W.Frag)(neg:Bool):R2:=fun x y H Q=>∃p xs,y= .ref p/\(SqL K H p xs\/SqT K H p xs)/\ll x=true/\xs.all ll=true/\Q (.bl (if neg then !n6 x xs else n6 x xs)) H
theorem G3:OpR X (compareOp .In) (yq X.K false):=by
 intro pins s σ H x y v u Q I rx ry h
 obtain⟨p,xs,rfl,hq,fx,fs,q⟩:=h
 cases ry
 rcases hq with hq|hq
 ·obtain⟨its,r,pl,hz⟩:=I.list hq
  refine SeqAt.in_listAt (nA x) pl.isList (fun w hw=>wm rx fx r fs w (by simpa using hw)) ⟨.bl _,H,I,rfl,?_⟩
  rw[show its.toArray.any (nA x)=its.any (nA x) by simp,vD r fs]
  exact q
 ·obtain⟨its,r,pl,hz⟩:=I.tuple hq
  refine SeqAt.in_tupleAt (nA x) pl (fun w hw=>wm rx fx r fs w (by simpa using hw)) ⟨.bl _,H,I,rfl,?_⟩
  rw[show its.toArray.any (nA x)=its.any (nA x) by simp,vD r fs]
  exact q
theorem xo:jct X (.builtin "len") (fun xs H Q=>∃p ys,xs=[.ref p]/\(SqL X.K H p ys\/SqT X.K H p ys)/\Q (.int ys.length) H):=by
 intro pins s σ H xs us Q I r h
 obtain⟨p,ys,rfl,hq,q⟩:=h
 obtain⟨u,rfl,rx⟩:=mL r
 cases rx
 have hn:=oE
 rcases hq with hq|hq
 ·obtain⟨its,r',pl,hz⟩:=I.list hq
  have hlen:=r'.length
  exact Calls.call_len_list pl.isList (by simp only[aC]<;>lia) ⟨.int ys.length,H,I.tok _,⟨s.toks+1,by rw[aC,hlen]⟩,q⟩
 ·obtain⟨its,r',pl,hz⟩:=I.tuple hq
  have hlen:=r'.length
  exact len_tuple pl (by simp only[aC]<;>lia) ⟨.int ys.length,H,I.tok _,⟨s.toks+1,by rw[aC,hlen]⟩,q⟩
theorem IU:jct X (.type "list") (fun xs H Q=>∃p ys,xs=[.ref p]/\(SqL X.K H p ys\/SqT X.K H p ys)/\∀l,H l=none->Q (.ref l) (upd H l (.lst ys))):=by
 intro pins s σ H xs us Q I r h
 obtain⟨p,ys,rfl,hq,q⟩:=h
 obtain⟨u,rfl,rx⟩:=mL r
 cases rx
 have fin:∀(its:List Value),Vals ys its->ys.length<=sizeLine->∀(h':Heap) (c':Nat),(∀b o',s.heap.get? b=some o'->h'.get? b=some o')->
   h'.get? s.heap.objs.size=some {cls:=.type "list",dict:=none,data:=.seq its.toArray c',slots:=#[]}->EP X pins σ Q (.ref s.heap.objs.size) {s with heap:=h'}:=fun its r' hz h' c' kp e=>
  ⟨.ref s.heap.objs.size,_,I.laid (t':=s.toks) kp (aF _) (show jc7 X.prog X.w _ h' _ (.lst ys)from⟨hz,its,c',r',e⟩),rfl,q _ (I.hok.fresh (aF _))⟩
 rcases hq with hq|hq
 ·obtain⟨its,r',pl,hz⟩:=I.list hq
  have hlen:=r'.length
  obtain⟨o,ho,hc,n,hd⟩:=pl.isList
  exact call_list_seq p (.inl rfl) ho hc hd (fun h' c' kp e=>fin its r' hz h' c' kp e) (by simp only[aC]<;>lia)
 ·obtain⟨its,r',pl,hz⟩:=I.tuple hq
  have hlen:=r'.length
  obtain⟨o,ho,hc,n,hd⟩:=pl
  exact call_list_seq p (.inr rfl) ho hc hd (fun h' c' kp e=>fin its r' hz h' c' kp e) (by simp only[aC]<;>lia)
def Dk(K:PySem.W.Frag)(T:String)(x:V)(H:Hp):Prop:=match x with
 | .str _=>T="str"
 | .int _=>T="int"
 | .ref p=>(T="list"/\∃xs,SqL K H p xs)\/(T="tuple"/\∃o,K.lookup p=some o/\o.cls= .type "tuple"/\o.dict=none)\/
   (T="dict"/\((∃kvs,H p=some (.dK kvs))\/∃kvs,H p=some (.dT kvs)))\/(T="set"/\∃S n,H p=some (.set S n))
 |_=>False
theorem zx{pins:List (Addr×Obj)}{σ:St}{H:Hp}{s:Shared}{T:String}{x:V}{v:Value}(I:Inv X pins σ H s)(r:RelV x v)(ty:Dk X.K T x H):
  s.TypeIs v T/\∀a,v= .ref a->∃ob,s.heap.get? a=some ob/\ob.dict=none:=by
 cases x with
 |str z=>
  obtain⟨t,rfl⟩:=r
  cases(show T="str" from ty)
  exact⟨typeIs_str s z t,fun _ e=>nomatch e⟩
 |int i=>
  obtain⟨t,rfl⟩:=r
  cases(show T="int" from ty)
  exact⟨typeIs_int s i t,fun _ e=>nomatch e⟩
 | ref p=>
  cases r
  rcases ty with⟨rfl,xs,hq⟩|⟨rfl,o,hk,hc,hd⟩|⟨rfl,hk⟩|⟨rfl,S,n,hk⟩
  ·obtain⟨its,_,pl,_⟩:=I.list hq
   refine⟨pl.isList.typeIs,fun a e=>?_⟩
   cases e
   obtain⟨o,n,e,c,hd,_⟩:=pl
   exact⟨o,e,hd⟩
  ·refine⟨⟨o,I.kIn p o hk,hc⟩,fun a e=>?_⟩
   cases e
   exact⟨o,I.kIn _ o hk,hd⟩
  ·have z:∃o,s.heap.get? p=some o/\o.ExactDict:=by
    rcases hk with⟨kvs,hk⟩|⟨kvs,hk⟩
    ·obtain⟨_,_,_,_,o,_,_,e,ex,_⟩:=I.hok p _ hk
     exact⟨o,e,ex⟩
    ·obtain⟨_,_,_,_,o,_,_,e,ex,_⟩:=I.hok p _ hk
     exact⟨o,e,ex⟩
   obtain⟨o,e,ex⟩:=z
   refine⟨⟨o,e,ex.1⟩,fun a e2=>?_⟩
   cases e2
   exact⟨o,e,ex.2.1⟩
  ·obtain⟨o,_,_,_,e,ex,_⟩:=I.hok p _ hk
   refine⟨⟨o,e,ex.1⟩,fun a e2=>?_⟩
   cases e2
   exact⟨o,e,ex.2.1⟩
 |_=>exact False.elim ty
variable{o e:Expr}{es:List Expr}{to:TE}{t:TA}{name:Str}{apos cpos:Pos}{T id:String}{r:V->List V->Hp->VK->Prop}
/- xs.append(e),list.index on a module's tuple .. are MtR facts of 06m -/
end
def Dc(X:Cx)(id:String)(r:V->List V->Hp->VK->Prop):Prop:=
 ∀(pins:List (Addr×Obj)) (s:Shared) (σ:St) (H:Hp) (x:V) (xs:List V) (v:Value) (us:List Value) (Q:VK),Inv X pins σ H s->RelV x v->Vals xs us->r x xs H Q->
  wpAny (model X.prog X.w) X.A (call (.builtin id) (v::us)) (EP X pins σ Q) X.xe s
theorem Vals.one:∀{x:V} {us:List Value},Vals [x] us->∃u,us=[u]/\RelV x u
 |_,_,.cons r .nil=>⟨_,rfl,r⟩
theorem Vals.two:∀{x y:V} {us:List Value},Vals [x,y] us->∃u v,us=[u,v]/\RelV x u/\RelV y v
 |_,_,_,.cons r (.cons q .nil)=>⟨_,_,rfl,r,q⟩
theorem Vals.zero:∀{us:List Value},Vals [] us->us=[]
 |_,.nil=>rfl
theorem Vals.rep{xs:List V}{us:List Value}(h:Vals xs us):∀k:Nat,Vals (List.replicate k xs).flatten (List.replicate k us).flatten
 |0=>.nil
 |k+1=>by
  rw[List.replicate_succ,List.replicate_succ,List.flatten_cons,List.flatten_cons]
  exact Vals.append h (Vals.rep h k)
section
variable{X:Cx}{pins:List (Addr×Obj)}{σ:St}{H:Hp}{s:Shared}{l b:Addr}{xs ys zs:List V}
theorem Inv.lset{its its':List Value}{n:Nat}{f:Array Value->Array Value}{t':Nat}(I:Inv X pins σ H s)(hH:H l=some (.lst xs))
  (e:s.heap.get? l=some {cls:=.type "list",data:=.seq its.toArray n}) (hf:f its.toArray=its'.toArray) (hv:Vals ys its') (hz:ys.length<=sizeLine):
  Inv X pins σ (upd H l (.lst ys)) {s with heap:=s.heap.update l (Obj.mapSeq f),toks:=t'}:=by
 have q:=PySem.IsL.update e f
 rw[hf]at q
 refine I.write (x:=l) (e:=l) (by rw[hH];exact trivial) (.inl rfl) (fun b' u hb hu=>(bR s.heap (Obj.mapSeq f) (cS hb)).trans hu) ⟨_,q⟩ ?_
 exact⟨hz,its',_,hv,q⟩
theorem Inv.lnew{its:List Value}{t':Nat}(I:Inv X pins σ H s)(hv:Vals ys its)(hz:ys.length<=sizeLine):
  Inv X pins σ (upd H s.heap.objs.size (.lst ys)) {s with heap:=s.heap.push {cls:=.type "list",data:=.seq its.toArray},toks:=t'}:=
 I.laid (fun _ _ q=>ag _ q) (aF _) ⟨hz,its,0,hv,aQ _ rfl⟩
theorem Inv.fresh(I:Inv X pins σ H s):H s.heap.objs.size=none:=I.hok.fresh (aF _)
theorem Inv.lstM(I:Inv X pins σ H s)(hH:H l=some (.lst xs)):xs.length<=sizeLine/\∃(its:List Value) (n:Nat),Vals xs its/\xs.length=its.length/\s.heap.get? l=some {cls:=.type "list",data:=.seq its.toArray n}:=by
 obtain⟨z,its,n,r,e⟩:=I.hok l _ hH
 exact⟨z,its,n,r,r.length,e⟩
theorem Ga{n:Nat}(h:n<=sizeLine):Builtin.List.listTooLong n=false:=by
 unfold Builtin.List.listTooLong
 exact az (by lia)
end
section
variable{X:Cx}
def zY:V->List V->Hp->VK->Prop:=fun x vs H Q=>∃l xs y,x= .ref l/\vs=[y]/\H l=some (.lst xs)/\xs.length<sizeLine/\Q .non (upd H l (.lst (xs++[y])))
theorem Bx:Dc X "list.append" zY:=by
 intro pins s σ H x vs v us Q I rx rv h
 obtain⟨l,xs,y,rfl,rfl,hH,hz,q⟩:=h
 cases rx
 obtain⟨u,rfl,ru⟩:=rv.one
 obtain⟨z,its,n,r,hl,e⟩:=I.lstM hH
 refine call_meets F.slot_list_append ⟨_,e,rfl⟩ F.entry_list_append (F.args_list_append_2 _ _) (PySem.list_append l its.toArray n u (by rw[aC];lia)) ⟨e,?_⟩
 refine⟨.non,_,I.lset (its':=its++[u]) hH e (by simp) (r.append (.cons ru .nil)) ?_,rfl,q⟩
 rw[aK,List.length_singleton]
 lia
def yZ:V->List V->Hp->VK->Prop:=fun x vs H Q=>∃l xs,x= .ref l/\vs=[]/\H l=some (.lst xs)/\Q .non (upd H l (.lst []))
theorem F5:Dc X "list.clear" yZ:=by
 intro pins s σ H x vs v us Q I rx rv h
 obtain⟨l,xs,rfl,rfl,hH,q⟩:=h
 cases rx
 have hus:=rv.zero
 subst hus
 obtain⟨z,its,n,r,hl,e⟩:=I.lstM hH
 refine call_meets F.slot_list_clear ⟨_,e,rfl⟩ F.entry_list_clear (F.args_list_clear_1 _) (AutoSeq1.list_clear_list_0 l its.toArray n (by rw[aC];lia)) ⟨e,?_⟩
 exact⟨.non,_,I.lset (its':=[]) (ys:=[]) hH e rfl .nil (bM _),rfl,q⟩
def D1:R2:=fun x y H Q=>∃l b xs zs,x= .ref l/\y= .ref b/\H l=some (.lst xs)/\H b=some (.lst zs)/\xs.length+zs.length<=sizeLine/\∀p,H p=none->Q (.ref p) (upd H p (.lst (xs++zs)))
theorem Es:OpR X (binaryOp .Add) D1:=by
 intro pins s σ H x y v u Q I rx ry h
 obtain⟨l,b,xs,zs,rfl,rfl,hH,hB,hz,q⟩:=h
 cases rx
 cases ry
 obtain⟨z,its,n,r,hl,e⟩:=I.lstM hH
 obtain⟨z2,its2,n2,r2,hl2,e2⟩:=I.lstM hB
 refine PySem.P.add_list e e2 ?_ (by rw[aC,aC];lia)
 have ea:its.toArray++its2.toArray=(its++its2).toArray:=by simp
 rw[ea]
 exact⟨.ref _,_,I.lnew (t':=s.toks) (r.append r2) (by rw[aK];lia),rfl,q _ I.fresh⟩
end
section
variable{prog:Program}{w:World}{A:Around}{E:Value->Shared->Prop}{s:Shared}
end
section
variable{X:Cx}
end
end L2
namespace Att
open PySem PySem.W PySem.Calls PyProof.Rows
theorem Jx{P:Params}{h:Heap}:∀(ns:List Int) (vs:List Value),WellAll P h vs (ns.map WData.int)->IntsAre vs ns:=by
 intro ns
 induction ns with
 |nil=>
  intro vs w
  rw[bJ]at w
  cases w
  exact .nil
 | cons n ns ih=>
  intro vs w
  rw[ai]at w
  cases w with
  |cons a b=>
   cases a
   exact .cons _ _ (ih _ b)
theorem Hb{l:OpenLaw}{n:Nat}(hn:l.most=some n){P:Params}{h:Heap}{args:List WData}{vals:List Value}
  (hpre:l.row.toRowW.claim.pre args=true) (hwl:WellAll P h vals args):
  ∃a vs ns,vals=[Value.ref a]/\args=[WData.list (ns.map WData.int)]/\h.get? a=some {cls:=.type "list",data:=.seq vs.toArray}/\IntsAre vs ns/\ns.length<=n:=by
 have hsh:WShape.hasAll [] args [.list .int]=true:=(pre_splitW hpre).1
 have hc:l.pre.holds [] {args:=args}=true:=(pre_splitW hpre).2
 obtain⟨d,r,rfl,h1,h2⟩:=hasAllW_cons hsh
 obtain rfl:=hasAllW_nil h2
 obtain⟨xs,rfl,h3⟩:=hasW_list h1
 obtain⟨ns,rfl⟩:=items_int h3
 have hlen:ns.length<=n:=by
  unfold OpenLaw.pre at hc
  have h4:(WTm.not (.lt (.lit (.int (n:Int))) (.len (.arg 0)))).holds [] {args:=[.list (ns.map .int)]}=true:=by
   have h4:=(holds_andW hc).1
   rw[hn]at h4
   exact h4
  have h5:=condW_of h4 (w_not (w_lt w_lit (w_len_list (w_arg rfl))))
  rw[aa]at h5
  refine Nat.le_of_not_lt fun q=>?_
  have q':(n:Int)<((ns.length:Nat):Int):=by lia
  first
   |(rw[af q']at h5;exact absurd h5 (by decide))
   |(simp at h5;lia)
 cases hwl with
 |cons w1 w2=>
  cases w2
  cases w1 with
  |list ho hall=>exact⟨_,_,ns,rfl,rfl,ho,Jx ns _ hall,hlen⟩
theorem G9(l:OpenLaw)(args:List WData):l.row.toRowW.claim.post args (.bool true) args=true:=
 postW_of (r:=l.row.toRowW) (X:=(true==true))
  (show WShape.has [] (.bool true) .bool=true by first|rfl|decide|simp[WShape.has,WShape.arms,WShape.armsAll])
  (show(WTm.eq .res (.lit (.bool true))).value [] {args:=args,res:=some (.bool true),after:=args}=some (.bool (true==true))from w_eq_bool (w_res rfl) w_lit) rfl
theorem Ki{l:OpenLaw}{n:Nat}{q:Program}{loose:List Str}{XP:(Str->Option Value)->Heap->Prop}{YP:World->Heap->Prop}{d:DefRec}
  (hn:l.most=some n) (hdf:d.params.defaults=[])
  (call:∀(w:World) (s₀ s₁:Shared) (mg mb:Str->Option Value) (fa:Addr) (o:Obj) (pm cd doc:Value) (a:Addr) (vs:List Value) (ns:List Int),
   Ground q loose [] XP w s₀ mg mb s₁.heap->YP w s₁.heap->
   s₁.heap.get? fa=some o->o.data= .func (docDef d.name d.params d.body d.scope pm cd doc)->s₁.heap.CodeRec cd d.name->mg d.name=some (.ref fa)->
   s₁.heap.get? a=some {cls:=.type "list",data:=.seq vs.toArray}->IntsAre vs ns->ns.length<=n->s₁.gens= #[]->
   codeAny (model l.prog w) callerA (.call (.ref fa) ⟨[.ref a],[]⟩) (fun r s'=>r= .ok (.ret (.bool true))/\OldK s₁.heap s'.heap/\s'.os=s₁.os/\AllBare s'.gens) s₁):
  WalkO q loose XP YP l.row.toRowW d [] (fun f vs=>PySem.call f vs):=by
 intro w s₀ s₁ mg mb G Y fa o pm cd doc dV kV ho hd hcd hD hmg hg args vals as hpre hlay hrd hwl hlo
 obtain rfl:dV= .none:=Dflts.none hD hdf
 obtain rfl:kV= .none:=Dflts.noKw hD
 obtain⟨a,vs,ns,rfl,rfl,hobj,hints,hlen⟩:=Hb hn hpre hwl
 refine enter_call (gK (call w s₀ s₁ mg mb fa o pm cd doc a vs ns G Y ho (fd_plain hd) hcd hmg hobj hints hlen hg) fun r s' hq=>?_)
 obtain⟨rfl,h2,h3,h4⟩:=hq
 exact⟨.inl ⟨.bool true,.bool true,[],rfl,fun _=>rfl,.bool true,G9 l _,fun _=>⟨List.Pairwise.nil,fun _ hm=>(nomatch hm)⟩⟩,h2,h3,h4⟩
section
variable{prog:Program}{w:World}{A:Around}{E:Value->Shared->Prop}{s:Shared}{K:Frag}
end
end Att
namespace L2
open PySem PySem.Spec PyProof.Rows
theorem ug:∀{vs:List Value} {ns:List Int},IntsAre vs ns->Vals (ns.map V.int) vs
 |_,_,.nil=>.nil
 |_,_,.cons n t h=>.cons ⟨t,rfl⟩ (ug h)
def uF(H:Hp):Prop:=∀b,H b=none\/∃o xs,H b=some (.frz o (.lst xs))
theorem F0{P:Program}{w:World}{K:PySem.W.Frag}{mg mb:Str->Option Value}{CX:lH}{k:Nat}{fa a:Addr}{fd:FuncData}{x:Str}{sp:Sp}{s₁:Shared}{vs:List Value}{ns:List Int}
  (KX:K.In s₁.heap) (hns:s₁.heap.Ns mainGlobals mg) (hb:s₁.heap.Ns builtinsNs mb) (hbb:∀x:Str,x≠"__name__"->mb x=bootBuiltins x) (hlim:s₁.heap.NoLimit) (hg:s₁.gens= #[])
  (ha:s₁.heap.get? a=some {cls:=.type "list",data:=.seq vs.toArray}) (hi:IntsAre vs ns) (hl:ns.length<=sizeLine) (hr:Room k callerA)
  (F:∀base:Heap,K.In base->base.Ns mainGlobals mg->FnOk P w K mg base CX k fa fd [x] sp) (hbind:∀(s:Shared) (u:Value),BindsTo s fd ⟨[u],[]⟩ [(x,u)])
  (hsp:∀H:Hp,uF H->SqL K H a (ns.map V.int)->sp [.ref a] H (fun v _=>v= .bl true) fun _ _ _=>False)
  (hCX:∀H e s',CX [] H s₁ (fun _ _ _=>False) e s'->False):
  codeAny (model P w) callerA (.call (.ref fa) ⟨[.ref a],[]⟩) (fun r s'=>r= .ok (.ret (.bool true))/\OldK s₁.heap s'.heap/\s'.os=s₁.os/\AllBare s'.gens) s₁:=by
 have rv:=ug hi
 have lenV:=hi.length
  -- from an abstract heap in which nothing but the script may be tracked
 have core:∀H:Hp,uF H->SqL K H a (ns.map V.int)->HOk P w H s₁.heap->(∀b,H b≠none->b=a)->(H a≠none->K.lookup a=none)->
   codeAny (model P w) callerA (.call (.ref fa) ⟨[.ref a],[]⟩) (fun r s'=>r= .ok (.ret (.bool true))/\OldK s₁.heap s'.heap/\s'.os=s₁.os/\AllBare s'.gens) s₁:=by
  intro H hO hS hok hA hK
  have base_of:∀{b:Addr} {o:Obj},s₁.heap.get? b=some o->H b=none->(nq s₁.heap H).get? b=some o:=fun e n=>FZ e n
  have noA:∀{b:Addr} {o:Obj} {es:Array DictEntry} {ep:Nat},s₁.heap.get? b=some o->o.data= .dict es ep->H b=none:=fun{b o es ep} e d=>by
   cases q:H b with
   |none=>rfl
   |some u=>
    have e':b=a:=hA b (by rw[q];simp)
    subst e'
    rw[ha]at e;cases e
    have d':Data.seq vs.toArray _=Data.dict es ep:=d
    cases d'
  have nsK:∀{b:Addr} {m:Str->Option Value},s₁.heap.Ns b m->(nq s₁.heap H).Ns b m:=fun{b m} ⟨o,es,ep,e,d,r⟩=>⟨o,es,ep,base_of e (noA e d),d,r⟩
  have hKb:K.In (nq s₁.heap H):=fun b o e=>base_of (KX b o e) (by
   cases q:H b with
   |none=>rfl
   |some u=>
    have e':b=a:=hA b (by rw[q];simp)
    subst e'
    rw[hK (by rw[q];simp)]at e;cases e)
  have hM:Mod K mg (nq s₁.heap H):=⟨hKb,nsK hns,⟨mb,nsK hb,hbb⟩,let⟨mc,h1,h2⟩:=hlim;⟨mc,nsK h1,h2⟩⟩
  have e0:Env0 P w K mg (nq s₁.heap H) callerA [] s₁ H:=⟨rfl,hM,fun b o e=>Fj e,Nat.le_of_eq (GJ _ _),trivial,fun b hb=>absurd (show b∈([]:List Addr)from hb) (by simp),hok,.of_eq hg⟩
  refine gK ((F _ hKb (nsK hns)).run callerA [] s₁ H ⟨[.ref a],[]⟩ [.ref a] [.ref a] _ _ hr e0 (hbind s₁ (.ref a)) (.cons rfl .nil) (hsp H hO hS)) fun r s' h=>?_
  cases r with
  |error e=>exact(hCX H e s' h).elim
  | ok fl=>
   cases fl with
   |next=>exact False.elim h
   |brk=>exact False.elim h
   |cont=>exact False.elim h
   | ret u=>
    obtain⟨v,H',os,bare,un,hok',r',q⟩:=h
    have q':v= .bl true:=q
    subst q'
    obtain rfl:u=Value.bool true:=r'
    refine⟨rfl,OldK.of_keep fun b o e=>?_,os,bare⟩
    cases q:H b with
    |none=>exact un.keep b o e q (by intro z;exact absurd (show b∈([]:List Addr)from z) (by simp)) (by simp)
    | some u=>
     rcases hO b with z|⟨ob,xs,z⟩
     ·rw[q]at z;cases z
     ·have z2:=un.frzs b ob _ z
      obtain⟨e1,_⟩:=hok b _ z
      obtain⟨e2,_⟩:=hok' b _ z2
      rw[e]at e1;cases e1
      exact e2
 cases hk:K.lookup a with
 | some o=>
    -- the script is one of the module's own objects
  have e:=KX a o hk
  rw[ha]at e
  cases e
  refine core (fun _=>none) (fun _=>.inl rfl) (.inr ⟨_,vs.toArray,_,hk,rfl,rfl,rfl,by rw[aC,lenV];exact hl,by simpa using rv⟩) (fun b u z=>by have z':(none:Option HO)=some u:=z;cases z') (fun b z=>absurd rfl z) fun z=>absurd rfl z
 | none=>
  refine core (fun b=>if b=a then some (.frz {cls:=.type "list",data:=.seq vs.toArray} (.lst (ns.map V.int)))else none) (fun b=>?_) (.inl (.inr ⟨{cls:=.type "list",data:=.seq vs.toArray},aH rfl⟩)) (fun b u z=>?_) (fun b z=>?_) fun _=>hk
  ·by_cases hb:b=a
   ·exact .inr ⟨_,_,aH hb⟩
   ·exact .inl (aE hb)
  ·by_cases hb:b=a
   ·have z':=(aH hb).symm.trans z
    cases z'
    subst hb
    exact⟨ha,by rw[aa];exact hl,vs,_,rv,ha⟩
   ·have z':=(aE hb).symm.trans z
    cases z'
  ·by_cases hb:b=a
   ·exact hb
   ·exact absurd (aE hb) z
abbrev Dd{K:PySem.W.Frag}{h:Heap}(_:K.In h):PySem.W.Frag:=K
theorem Au{l:PySem.W.OpenLaw}{n k:Nat}{q:Program}{loose:List Str}{XP:(Str->Option Value)->Heap->Prop}{YP:World->Heap->Prop}{d:DefRec}{K:Params->PySem.W.Frag}{CX:World->lH}{sp:World->Sp}{x:Str}
    (hn:l.most=some n) (hn2:n<=sizeLine) (hdf:d.params.defaults=[]) (hr:Room k callerA)
    (hY:∀(w:World) (h:Heap),YP w h->(K w.params).In h)
    (F:∀(w:World) (mg:Str->Option Value) (fa:Addr) (h:Heap),(K w.params).In h->h.Ns mainGlobals mg->mg d.name=some (.ref fa)->
      ∃fd:FuncData,(∀(s:Shared) (u:Value),BindsTo s fd ⟨[u],[]⟩ [(x,u)])/\
        ∀base:Heap,(K w.params).In base->base.Ns mainGlobals mg->FnOk l.prog w (K w.params) mg base (CX w) k fa fd [x] (sp w))
    (hsp:∀(w:World) (H:Hp) (a:Addr) (ns:List Int),ns.length<=n->uF H->SqL (K w.params) H a (ns.map V.int)->sp w [.ref a] H (fun v _=>v= .bl true) fun _ _ _=>False)
    (hCX:∀(w:World) (H:Hp) (s:Shared) (e:Value) (s':Shared),CX w [] H s (fun _ _ _=>False) e s'->False):
    PySem.W.WalkO q loose XP YP l.row.toRowW d [] (fun f vs=>PySem.call f vs):=by
  refine Att.Ki hn hdf fun w s₀ s₁ mg mb fa o pm cd doc a vs ns G Y ho hd hcd hmg hobj hints hlen hg=>?_
  have KX:=hY w _ Y
  obtain⟨fd,hb,hF⟩:=F w mg fa _ KX G.T.g hmg
  exact F0 KX G.T.g G.T.b G.T.builtins G.T.nolimit hg hobj hints (br hlen hn2) hr hF hb (fun H hO hS=>hsp w H a ns hlen hO hS) fun H e s'=>hCX w H s₁ e s'
end L2
/- THE LAST THEOREM (shape;LID,My.*are yours):
   My.Adr:a structure of the addresses that your layer names (classes,functions);My.Txt K t:a structure (Prop) of the equations over K;
   My.txt_mk:{K} {implicit addresses ..} (e1:nsIn K mainGlobals "law"=some (some (.ref f))) (e2:K.lookup f=some ⟨oc,od,.func (fnOf "law" "law" params body scope dV kV doc pm an cdv ct),sl⟩) (e3:codeIn K cdv "law"=true) ..:∃t,My.Txt K t
set_option maxRecDepth 100000 in
set_option maxHeartbeats 0 in
theorem PySem.Challenge.cw_LID_holds:PySem.Challenge.rw_LID.Holds:=by
 w_on;o_law;k_head;(case hw=>w_witness2)
 k_fill
 refine L2.Au (l:=PySem.Challenge.rw_LID) (n:=63) (k:=40) (x:="script") (CX:=fun w=>..) (sp:=fun _=>My.sp_law) rfl (by decide) rfl ⟨rfl,by decide,by decide⟩ (fun w h Y=>PySem.W.kIn_of Y) ?F ?S ?C
 case F=>
  intro w mg fa h KX G hmg
  have T:∃t,My.Txt (L2.Dd KX) t:=by
   dsimp only[L2.Dd]                          -- K must stand as «<heap const>w.params» for k_is
   refine' My.txt_mk ?e1 ?e2 ?e3 ..
   (case e1=>PySem.W.k_is)                    -- in the order:a name->its address->its object->its parts
   (case e2=>PySem.W.k_is)
   ..
  obtain⟨t,T⟩:=T
  have e0:=hmg.symm.trans (cW KX G T.law)
  cases e0                                       -- fa is the law's own address
  exact⟨_,fun s u=>.of_eq rfl,fun base kb nb=>My.law_fn T kb nb⟩     -- if «.of_eq rfl» comes too early:refine' ⟨_,?b,fun base kb nb=>My.law_fn T kb nb⟩;exact fun s u=>.of_eq rfl
 case S=>exact fun w H a ns hl hO hS=>..
 case C=>exact ..
(the tactic k_is has no namespace:write k_is) -/
namespace L2
open PySem PySem.Spec PyProof.Rows
noncomputable def oG(s:Stmt):Arguments:=match s with
 | .FunctionDef _ a _ _ _ _ _ _ _ _=>a
 |_=>{posonlyargs:=[],args:=[],vararg:=none,kwonlyargs:=[],kw_defaults:=[],kwarg:=none,defaults:=[]}
def nP(s:Stmt):List Stmt:=match s with
 | .FunctionDef _ _ b _ _ _ _ _ _ _=>b
 |_=>[]
def iN(s:Stmt):Scope:=match s with
 | .FunctionDef _ _ _ _ _ _ sc _ _ _=>sc
 |_=>{kind:=.function,names:=[],isGenerator:=false,isCoroutine:=false}
abbrev iu:lH:=fun _ _ _ _ _ _=>False
abbrev E0:XK:=fun _ _ _=>False
theorem iD{X:Cx}:m9 iu X E0:=fun _ _ _ _ _ _ _ h=>h.elim
structure Fun(K:PySem.W.Frag)(x qual:Str)(st:Stmt)(f:Addr)(fd:FuncData):Prop where
 ex:∃(oc:Value) (od:Option Addr) (kV doc pm:Value) (an:Option Addr) (cdv ct:Value) (osl:Array (Option Value)),
  fd=PySem.W.fnOf x qual (oG st) (nP st) (iN st) .none kV doc pm an cdv ct/\K.lookup f=some ⟨oc,od,.func fd,osl⟩/\PySem.W.codeIn K cdv qual=true
 kp:PySem.W.keepIn K (.ref f)=true
section
variable{P:Program}{w:World}{K:PySem.W.Frag}{mg:Str->Option Value}{base:Heap}
theorem Fun.ok{x qual:Str}{st:Stmt}{f:Addr}{fd:FuncData}{N ps:List Str}{k:Nat}{sp:Sp}(F:Fun K x qual st f fd)(S:FnScope N ps (iN st))(len:∀vs H Q E,sp vs H Q E->vs.length=ps.length)
  (hbody:∀(cdv:Value) (A:Around) (outer:List Env) (s:Shared) (H:Hp) (vs:List V) (Q:VK) (E:XK),Room k (A.deeper (envOfC qual (iN st) s.heap.objs.size f cdv))->sp vs H Q E->
   ∃t,PSs (pM iu P w K mg base N qual (iN st) f cdv A outer s H E).nox (nP st) t/\t {nx:=fun _ H'=>Q .non H',rt:=Q} (start N vs) H):FnOk P w K mg base iu (k+1) f fd ps sp:=by
 obtain⟨oc,od,kV,doc,pm,an,cdv,ct,osl,rfl,lk,hcd⟩:=F.ex
 refine J4 lk hcd S len fun A outer s H vs Q E hr hsp=>?_
 obtain⟨t,h,q⟩:=hbody cdv A outer s H vs Q E hr hsp
 exact⟨t,h.nox,q⟩
theorem yN{x qual:Str}{st:Stmt}{f:Addr}{oc:Value}{od an:Option Addr}{osl:Array (Option Value)}{kV doc pm cdv ct:Value}(l:K.lookup f=some ⟨oc,od,.func (PySem.W.fnOf x qual (oG st) (nP st) (iN st) .none kV doc pm an cdv ct),osl⟩)
  (c:PySem.W.codeIn K cdv qual=true) (k:PySem.W.keepIn K (.ref f)=true):Fun K x qual st f (PySem.W.fnOf x qual (oG st) (nP st) (iN st) .none kV doc pm an cdv ct):=⟨⟨oc,od,kV,doc,pm,an,cdv,ct,osl,rfl,l,c⟩,k⟩
end
theorem iX{A:Around}{k:Nat}(hr:Room k A):A.units+1<cLine:=gG (Nat.add_le_add_left (by decide:1<=64) _) hr.units
section
variable{X:Cx}
end
theorem mO{c A B:Prop}[Decidable c](h1:c->A)(h2:¬c->B):if c then A else B:=by
 by_cases h:c
 ·rw[aH h]
  exact h1 h
 ·rw[aE h]
  exact h2 h
def Same(H H':Hp):Prop:=∀b o,H b=some o->H' b=some o
theorem Same.refl(H:Hp):Same H H:=fun _ _ h=>h
theorem Same.trans{H H1 H2:Hp}(a:Same H H1)(b:Same H1 H2):Same H H2:=fun c o h=>b c o (a c o h)
theorem Same.free{H H':Hp}(e:Same H H'){l:Addr}(h:H' l=Option.none):H l=Option.none:=by
 cases q:H l with
 |none=>rfl
 |some o=>
  rw[e l o q]at h
  cases h
end L2
set_option maxHeartbeats 8000000
namespace L2
open PySem PySem.Spec PyProof.Rows
section
variable{κ:Type}[DecidableEq κ]
noncomputable def iK(kvs:List (κ×V))(k:κ):Option V:=(kvs.find? fun kv=>decide (kv.1=k)).map (·.2)
noncomputable def jm(kvs:List (κ×V))(k:κ)(v:V):List (κ×V):=
 if(kvs.any fun kv=>decide (kv.1=k))=true then kvs.map (fun kv=>if kv.1=k then(kv.1,v)else kv)else kvs++[(k,v)]
theorem mz{p:κ×V}{r:List (κ×V)}{k:κ}(e:p.1=k):iK (p::r) k=some p.2:=by simp[iK,List.find?_cons,e]
theorem my{p:κ×V}{r:List (κ×V)}{k:κ}(e:¬p.1=k):iK (p::r) k=iK r k:=by simp[iK,List.find?_cons,e]
theorem qM(k:κ):∀kvs:List (κ×V),(kvs.any fun kv=>decide (kv.1=k))=(iK kvs k).isSome
 |[]=>rfl
 |p::r=>by
  rw[List.any_cons]
  by_cases e:p.1=k
  ·simp only[mz e,af e,Bool.true_or,Option.isSome_some]
  ·rw[my e,az e,Bool.false_or];exact qM k r
theorem Ba(k j:κ)(y:V):∀kvs:List (κ×V),iK (kvs.map fun kv=>if kv.1=k then(kv.1,y)else kv) j=(iK kvs j).map fun x=>if j=k then y else x
 |[]=>rfl
 | p::r=>by
  have ih:=Ba k j y r
  rw[ai]
  by_cases h:p.1=k
  ·rw[aH h]
   by_cases e:p.1=j
   ·rw[mz (p:=(p.1,y)) e,mz e,Option.map_some,aH (e.symm.trans h)]
   ·rw[my (p:=(p.1,y)) e,my e,ih]
  ·rw[aE h]
   by_cases e:p.1=j
   ·rw[mz (p:=p) e,mz e,Option.map_some,aE (fun z=>h (e.trans z))]
   ·rw[my (p:=p) e,my e,ih]
theorem BK(k j:κ)(y:V):∀kvs:List (κ×V),iK kvs k=none->iK (kvs++[(k,y)]) j=if j=k then some y else iK kvs j
 |[],_=>by
  by_cases e:k=j
  ·rw[aH e.symm];exact mz (p:=(k,y)) e
  ·rw[aE (fun z=>e z.symm)];exact my (p:=(k,y)) e
 |p::r,hn=>by
  rw[List.cons_append]
  have hk:¬p.1=k:=fun z=>by rw[mz z]at hn;cases hn
  rw[my hk]at hn
  have ih:=BK k j y r hn
  by_cases e:p.1=j
  ·rw[mz e,mz e,aE (fun z=>hk (e.trans z))]
  ·rw[my e,my e,ih]
theorem tO(kvs:List (κ×V))(k j:κ)(y:V):iK (jm kvs k y) j=if j=k then some y else iK kvs j:=by
 unfold jm
 by_cases a:(kvs.any fun kv=>decide (kv.1=k))=true
 ·rw[aH a,Ba]
  rw[qM]at a
  by_cases e:j=k
  ·obtain⟨x,hx⟩:=eE.mp a
   rw[aH e,e,hx,Option.map_some,aH rfl]
  ·rw[aE e]
   cases iK kvs j with
   |none=>rfl
   |some x=>rw[Option.map_some,aE e]
 ·rw[aE a]
  refine BK k j y kvs ?_
  rw[qM]at a
  cases q:iK kvs k with
  |none=>rfl
  |some x=>rw[q]at a;exact(a rfl).elim
theorem uu(kvs:List (κ×V))(k:κ)(v:V):(jm kvs k v).length<=kvs.length+1:=by
 unfold jm
 split
 ·rw[aa];lia
 ·rw[aK,List.length_cons,List.length_nil];lia
theorem tL{kvs:List (κ×V)}{k:κ}(v:V)(h:iK kvs k=none):jm kvs k v=kvs++[(k,v)]:=by
 unfold jm
 rw[qM,h]
 exact aE (by decide)
theorem RelO.isSome_eq{o:Option V}{u:Option Value}(r:RelO o u):o.isSome=u.isSome:=by
 cases o with
 |none=>cases u with
  |none=>rfl
  |some _=>exact(show False from r).elim
 |some _=>cases u with
  |none=>exact(show False from r).elim
  |some _=>rfl
theorem RelO.getD{o:Option V}{u:Option Value}{d:V}{d':Value}(r:RelO o u)(rd:RelV d d'):RelV (o.getD d) (u.getD d'):=by
 cases o with
 |none=>cases u with
  |none=>exact rd
  |some _=>exact(show False from r).elim
 |some _=>cases u with
  |none=>exact(show False from r).elim
  |some _=>exact r
theorem KV.val{kvs:List (κ×V)}{vs:List (κ×Value)}(r:KV kvs vs)(k:κ):RelO (iK kvs k) (valueAt vs k):=by
 unfold KV at r
 induction r with
 |nil=>exact True.intro
 | @cons p q ps qs h t ih=>
  obtain⟨h1,h2⟩:=h
  by_cases e:p.1=k
  ·have e':q.1=k:=h1.symm.trans e
   have b:valueAt (q::qs) k=some q.2:=by simp[valueAt,List.find?_cons,e']
   rw[mz e,b];exact h2
  ·have e':¬q.1=k:=fun z=>e (h1.trans z)
   have b:valueAt (q::qs) k=valueAt qs k:=by simp[valueAt,List.find?_cons,e']
   rw[my e,b];exact ih
theorem KV.any{kvs:List (κ×V)}{vs:List (κ×Value)}(r:KV kvs vs)(k:κ):(kvs.any fun kv=>decide (kv.1=k))=vs.any fun kv=>decide (kv.1=k):=by
 unfold KV at r
 induction r with
 |nil=>rfl
 |cons h t ih=>rw[List.any_cons,List.any_cons,ih,h.1]
theorem KV.repl{kvs:List (κ×V)}{vs:List (κ×Value)}(r:KV kvs vs)(k:κ){y:V}{u:Value}(ry:RelV y u):
  KV (kvs.map fun kv=>if kv.1=k then(kv.1,y)else kv) (vs.map fun kv=>if kv.1=k then(kv.1,u)else kv):=by
 unfold KV at r ⊢
 induction r with
 |nil=>exact .nil
 | @cons p q ps qs h t ih=>
  rw[ai,ai]
  refine .cons ?_ ih
  obtain⟨h1,h2⟩:=h
  by_cases e:p.1=k
  ·rw[aH e,aH (h1.symm.trans e)];exact⟨h1,ry⟩
  ·rw[aE e,aE (fun z=>e (h1.trans z))];exact⟨h1,h2⟩
theorem KV.put{kvs:List (κ×V)}{vs:List (κ×Value)}(r:KV kvs vs)(k:κ){y:V}{u:Value}(ry:RelV y u):KV (jm kvs k y) (stored vs k u):=by
 unfold jm stored
 rw[r.any k]
 by_cases e:(vs.any fun kv=>decide (kv.1=k))=true
 ·rw[aH e,aH e];exact r.repl k ry
 ·rw[aE e,aE e];exact Paired.snoc r ⟨rfl,ry⟩
theorem KV.keys{kvs:List (κ×V)}{vs:List (κ×Value)}(r:KV kvs vs):kvs.map (·.1)=vs.map (·.1):=by
 unfold KV at r
 induction r with
 |nil=>rfl
 |cons h t ih=>rw[ai,ai,ih,h.1]
theorem KV.length{kvs:List (κ×V)}{vs:List (κ×Value)}(r:KV kvs vs):kvs.length=vs.length:=ao r
end
theorem mZ{P:Program}{w:World}{k:ij}{u:Value}(r:RelV (kV k) u):(jY P w).is k u=true:=by
 cases k with
 |inl i=>obtain⟨t,e⟩:=(show ∃t,u=Value.int i t from r);subst e;exact IC P w i t
 |inr x=>obtain⟨t,e⟩:=(show ∃t,u=Value.str x t from r);subst e;exact ID P w x t
theorem Br{P:Program}{w:World}:∀{ks:List ij} {us:List Value},Vals (ks.map kV) us->ItemsAre (jY P w) ks us
 |[],_,r=>by rw[bJ]at r;cases r;exact .nil
 |k::ks,_,r=>by
  rw[ai]at r
  cases r with
  |cons h t=>exact .cons (mZ h) (Br t)
abbrev KT(H:Hp):List (List ij×V)->List (List ij×Addr×Value)->Prop:=Paired fun p q=>p.1=q.1/\H q.2.1=some (.tup (p.1.map kV))/\RelV p.2 q.2.2
theorem KT.val{H:Hp}{kvs:List (List ij×V)}{xs:List (List ij×Addr×Value)}(r:KT H kvs xs)(k:List ij):RelO (iK kvs k) ((atKey xs k).map (·.2)):=by
 induction r with
 |nil=>exact True.intro
 | @cons p q ps qs h t ih=>
  obtain⟨h1,_,h2⟩:=h
  by_cases e:p.1=k
  ·have e':q.1=k:=h1.symm.trans e
   have b:atKey (q::qs) k=some q.2:=by simp[atKey,List.find?_cons,e']
   rw[mz e,b];exact h2
  ·have e':¬q.1=k:=fun z=>e (h1.trans z)
   have b:atKey (q::qs) k=atKey qs k:=by simp[atKey,List.find?_cons,e']
   rw[my e,b];exact ih
theorem KT.repl{H:Hp}{kvs:List (List ij×V)}{xs:List (List ij×Addr×Value)}(r:KT H kvs xs)(k:List ij){y:V}{u:Value}(ry:RelV y u):
  KT H (kvs.map fun kv=>if kv.1=k then(kv.1,y)else kv) (xs.map (putAt k u)):=by
 induction r with
 |nil=>exact .nil
 | @cons p q ps qs h t ih=>
  rw[ai,ai]
  refine .cons ?_ ih
  obtain⟨h1,h2,h3⟩:=h
  unfold putAt
  by_cases e:p.1=k
  ·rw[aH e,aH (h1.symm.trans e)];exact⟨h1,h2,ry⟩
  ·rw[aE e,aE (fun z=>e (h1.trans z))];exact⟨h1,h2,h3⟩
theorem KT.put{H:Hp}{kvs:List (List ij×V)}{xs:List (List ij×Addr×Value)}(r:KT H kvs xs)(k:List ij){b:Addr}{y:V}{u:Value}(hb:H b=some (.tup (k.map kV)))(ry:RelV y u):
  KT H (jm kvs k y) (storedH xs k b u):=by
 have e:(kvs.any fun kv=>decide (kv.1=k))=(atKey xs k).isSome:=by
  rw[qM,(r.val k).isSome_eq,dP]
 unfold jm storedH
 rw[e]
 by_cases q:(atKey xs k).isSome=true
 ·rw[aH q,aH q];exact r.repl k ry
 ·rw[aE q,aE q];exact Paired.snoc r ⟨rfl,hb,ry⟩
theorem KT.keeps{H H':Hp}{kvs:List (List ij×V)}{xs:List (List ij×Addr×Value)}(r:KT H kvs xs)(ht:∀b ys,H b=some (.tup ys)->H' b=some (.tup ys)):KT H' kvs xs:=
 Paired.mapP r fun _ _ z=>⟨z.1,ht _ _ z.2.1,z.2.2⟩
section
variable{P:Program}{w:World}{H:Hp}{h:Heap}{a:Addr}
theorem yn{u:HO}(ok:HOk P w H h)(e:Rd H a u):jc7 P w H h a u:=e.ok ok
theorem nK{kvs:List (ij×V)}(ok:HOk P w H h)(e:Rd H a (.dK kvs)):kvs.length<=sizeLine/\(a==sysModules)=false/\∃vs,KV kvs vs/\h.DictOf (jY P w) a vs:=
 show jc7 P w H h a (.dK kvs)from yn ok e
theorem rK{kvs:List (ij×V)}(ok:HOk P w H h)(e:H a=some (.dK kvs)):kvs.length<=sizeLine/\(a==sysModules)=false/\∃vs,KV kvs vs/\h.DictOf (jY P w) a vs:=nK ok (.inl e)
theorem nO{ks:List ij}(ok:HOk P w H h)(e:H a=some (.tup (ks.map kV))):(tupleKind (jY P w)).is h ks a:=by
 obtain⟨_,its,r,o,h1,h2,n,h3⟩:=(show jc7 P w H h a (.tup (ks.map kV))from ok a _ e)
 exact⟨o,its.toArray,n,h1,h2,h3,by simpa using Br r⟩
theorem nL{kvs:List (List ij×V)}(ok:HOk P w H h)(e:Rd H a (.dT kvs)):kvs.length<=sizeLine/\(a==sysModules)=false/\
  ∃xs,KT H kvs xs/\h.DictOfH (tupleKind (jY P w)) a xs:=by
 obtain⟨z,y,xs,r,o,es,ep,h1,h2,h3,h4,h5⟩:=(show jc7 P w H h a (.dT kvs)from yn ok e)
 refine⟨z,y,xs,r,o,es,ep,h1,h2,h3,h4,fun x hx=>?_,h5⟩
 have all:∀{l:List (List ij×V)} {m:List (List ij×Addr×Value)},KT H l m->∀x∈m,(tupleKind (jY P w)).is h x.1 x.2.1:=by
  intro l m q
  induction q with
  |nil=>intro x hx;exact nomatch hx
  | @cons p q ps qs hq t ih=>
   intro x hx
   rcases aR.mp hx with e|hx
   ·subst e
    exact nO ok (by rw [<- hq.1]; exact hq.2.1)
   ·exact ih x hx
 exact all r x hx
theorem Kf{kvs:List (List ij×V)}(ok:HOk P w H h)(e:H a=some (.dT kvs)):kvs.length<=sizeLine/\(a==sysModules)=false/\
  ∃xs,KT H kvs xs/\h.DictOfH (tupleKind (jY P w)) a xs:=nL ok (.inl e)
end
def DGet(H:Hp)(a:Addr)(y:V)(r:Option V):Prop:=
 (∃kvs k,Rd H a (.dK kvs)/\y=kV k/\r=iK kvs k)\/∃kvs k b,Rd H a (.dT kvs)/\y= .ref b/\H b=some (.tup (k.map kV))/\r=iK kvs k
def DPut(H:Hp)(a:Addr)(y v:V)(H':Hp):Prop:=
 (∃kvs k,H a=some (.dK kvs)/\y=kV k/\kvs.length<sizeLine/\H'=upd H a (.dK (jm kvs k v)))\/
 ∃kvs k b,H a=some (.dT kvs)/\y= .ref b/\H b=some (.tup (k.map kV))/\kvs.length<sizeLine/\H'=upd H a (.dT (jm kvs k v))
theorem DGet.k{H:Hp}{a:Addr}{kvs:List (ij×V)}{k:ij}(e:H a=some (.dK kvs)):DGet H a (kV k) (iK kvs k):=.inl ⟨kvs,k,.inl e,rfl,rfl⟩
theorem DGet.t{H:Hp}{a b:Addr}{kvs:List (List ij×V)}{k:List ij}(e:H a=some (.dT kvs))(eb:H b=some (.tup (k.map kV))):DGet H a (.ref b) (iK kvs k):=.inr ⟨kvs,k,b,.inl e,rfl,eb,rfl⟩
theorem DPut.k{H:Hp}{a:Addr}{kvs:List (ij×V)}{k:ij}{v:V}(e:H a=some (.dK kvs))(hl:kvs.length<sizeLine):DPut H a (kV k) v (upd H a (.dK (jm kvs k v))):=.inl ⟨kvs,k,e,rfl,hl,rfl⟩
theorem DPut.t{H:Hp}{a b:Addr}{kvs:List (List ij×V)}{k:List ij}{v:V}(e:H a=some (.dT kvs))(eb:H b=some (.tup (k.map kV)))(hl:kvs.length<sizeLine):
  DPut H a (.ref b) v (upd H a (.dT (jm kvs k v))):=.inr ⟨kvs,k,b,e,rfl,eb,hl,rfl⟩
section
variable{X:Cx}{pins:List (Addr×Obj)}{σ:St}{H:Hp}{s:Shared}{a:Addr}{y v:V}{u r:Value}{o:Option V}{A:Around}{E:Value->Shared->Prop}
theorem Inv.big(I:Inv X pins σ H s):sysModules<s.heap.objs.size:=by
 have h:mainGlobals<s.heap.objs.size:=(I.mod.glob.keeps I.bk).lt
 exact Nat.lt_trans (by decide) h
theorem GB{Q:Value->Shared->Prop}(hu:A.units+1<cLine)(I:Inv X pins σ H s)(g:DGet H a y (some v))(ry:RelV y u)(h:∀w' s',Inv X pins σ H s'->RelV v w'->Q w' s'):
  wpAny (model X.prog X.w) A (getItem (.ref a) u) Q E s:=by
 rcases g with⟨kvs,k,e,ey,l⟩|⟨kvs,k,b,e,ey,eb,l⟩
 ·subst ey
  obtain⟨z,hd,vs,rel,dd⟩:=nK I.hok e
  obtain⟨w',hw,rw'⟩:=RelO.some_of (v:=v) (o:=valueAt vs k) (by rw[l];exact rel.val k)
  exact wpAny_getItem_of (mZ ry) dd.mapOf hw (h w' _ (I.tok _) rw')
 ·subst ey
  cases(show u=Value.ref b from ry)
  obtain⟨z,hd,xs,rel,dd⟩:=nL I.hok e
  obtain⟨w',hw,rw'⟩:=RelO.some_of (v:=v) (o:=(atKey xs k).map (·.2)) (by rw[l];exact rel.val k)
  obtain⟨p,hp,hp2⟩:=eP.mp hw
  refine wpAny_getItem_heap (dC hu) (nO I.hok eb) dd hp ?_
  rw[hp2]
  exact h w' _ (I.tok _) rw'
theorem CZ{Q:Value->Shared->Prop}(hu:A.units+1<cLine)(I:Inv X pins σ H s)(g:DGet H a y o)(ry:RelV y u)(h:∀s',Inv X pins σ H s'->Q (.bool o.isSome) s'):
  wpAny (model X.prog X.w) A (compareOp .In u (.ref a)) Q E s:=by
 rcases g with⟨kvs,k,e,ey,l⟩|⟨kvs,k,b,e,ey,eb,l⟩
 ·subst ey
  obtain⟨z,hd,vs,rel,dd⟩:=nK I.hok e
  refine wpAny_in_of (mZ ry) hd dd.mapOf ?_
  rw [<- (rel.val k).isSome_eq,<- l]
  exact h _ (I.tok _)
 ·subst ey
  cases(show u=Value.ref b from ry)
  obtain⟨z,hd,xs,rel,dd⟩:=nL I.hok e
  refine wpAny_in_heap (dC hu) (nO I.hok eb) hd dd ?_
  have q:=(rel.val k).isSome_eq
  rw[dP]at q
  rw [<- q,<- l]
  exact h _ (I.tok _)
theorem zB{Q:Value->Shared->Prop}(hu:A.units+1<cLine)(I:Inv X pins σ H s)(g:DGet H a y o)(ry:RelV y u)(h:∀s',Inv X pins σ H s'->Q (.bool (!o.isSome)) s'):
  wpAny (model X.prog X.w) A (compareOp .NotIn u (.ref a)) Q E s:=by
 rcases g with⟨kvs,k,e,ey,l⟩|⟨kvs,k,b,e,ey,eb,l⟩
 ·subst ey
  obtain⟨z,hd,vs,rel,dd⟩:=nK I.hok e
  refine wpAny_notIn_of (mZ ry) hd dd.mapOf ?_
  rw [<- (rel.val k).isSome_eq,<- l]
  exact h _ (I.tok _)
 ·subst ey
  cases(show u=Value.ref b from ry)
  obtain⟨z,hd,xs,rel,dd⟩:=nL I.hok e
  refine wpAny_notIn_heap (dC hu) (nO I.hok eb) hd dd ?_
  have q:=(rel.val k).isSome_eq
  rw[dP]at q
  rw [<- q,<- l]
  exact h _ (I.tok _)
theorem vJ{h':Heap}{t':Nat}{ob:HO}(I:Inv X pins σ H s)(mu:rb (H a))(hs:Heap.SameBut a s.heap h')(he:∃q,h'.get? a=some q)(new:jc7 X.prog X.w (upd H a ob) h' a ob):
  Inv X pins σ (upd H a ob) {s with heap:=h',toks:=t'}:=
 I.write (x:=a) (e:=a) mu (.inl rfl) (fun b q hb z=>(hs.2 b hb).trans z) he new
theorem vc{P:Program}{w:World}{H':Hp}{h':Heap}{kvs:List (ij×V)}{vs:List (ij×Value)}(z:kvs.length<=sizeLine)(hd:(a==sysModules)=false)(rel:KV kvs vs)(dd:h'.DictOf (jY P w) a vs):
  jc7 P w H' h' a (.dK kvs):=⟨z,hd,vs,rel,dd⟩
theorem Bk{H':Hp}{Q:Unit->Shared->Prop}(hu:A.units+1<cLine)(I:Inv X pins σ H s)(g:DPut H a y v H')(ry:RelV y u)(rv:RelV v r)(h:∀s',Inv X pins σ H' s'->Q () s'):
  wpAny (model X.prog X.w) A (setItem (.ref a) u r) Q E s:=by
 rcases g with⟨kvs,k,e,ey,l,eH⟩|⟨kvs,k,b,e,ey,eb,l,eH⟩
 ·subst ey eH
  obtain⟨z,hd,vs,rel,dd⟩:=rK I.hok e
  have hz:vs.length <= sizeLine:=by rw [<- rel.length]; exact z
  have hl:(jm kvs k v).length<=sizeLine:=by have:=uu kvs k v;lia
  refine wpAny_setItem_pairs (hsz:=hz) (mZ ry) dd fun h' dd' hs=>h _ ?_
  have he:∃q,h'.get? a=some q:=let⟨q,_,_,hq,_⟩:=dd';⟨q,hq⟩
  exact vJ I (by rw[e];exact True.intro) hs he (vc hl hd (rel.put k rv) dd')
 ·subst ey eH
  cases(show u=Value.ref b from ry)
  obtain⟨z,hd,xs,rel,dd⟩:=Kf I.hok e
  have hz:xs.length <= sizeLine:=by rw [<- ao rel]; exact z
  have hl:(jm kvs k v).length<=sizeLine:=by have:=uu kvs k v;lia
  refine wpAny_setItem_heap (hsz:=hz) (dC hu) (nO I.hok eb) dd fun h' dd' hs=>h _ ?_
  obtain⟨q,es,ep,hq,h2,h3,h4,_,h5⟩:=dd'
  refine vJ I (by rw[e];exact True.intro) hs ⟨q,hq⟩ ⟨hl,hd,_,(rel.put k eb rv).keeps fun c ys ec=>?_,q,es,ep,hq,h2,h3,h4,h5⟩
  rw[ix (ow ec e (fun z=>nomatch z))]
  exact ec
end
section
variable{X:Cx}{pins:List (Addr×Obj)}{σ:St}{H:Hp}{s:Shared}{a:Addr}{kvs:List (ij×V)}{k:ij}{u:Value}{A:Around}{E:Value->Shared->Prop}
end
def Da(i:Expr):Prop:=∀ov iv,subscripted i false ov iv=operate [ov,iv] (getItem ov iv)
theorem FG{prog:Program}{w:World}{A:Around}{E:Value->Shared->Prop}{s:Shared}{env:Env}{value slice:Expr}{pos:Pos}{T id:String}{Q:Value->Shared->Prop}
  (hl:typeLookup (.type T) "__getitem__"=pure (some (.builtin id))) (hs:Da slice)
  (h:wpAny (model prog w) A (eval value env) (fun o s₁=>wpAny (model prog w) A (eval slice env) (fun i s₂=>s₂.TypeIs o T/\wpAny (model prog w) A (getItem o i) Q E s₂) E s₁) E s):
  wpAny (model prog w) A (eval (.Subscript value slice pos) env) Q E s:=by
 refine hU (dy h (fun o s₁ h₁=>dy h₁ (fun i s₂ h₂=>?_) fun _ _ x=>x) fun _ _ x=>x)
 obtain⟨hT,h₂⟩:=h₂
 unfold subscriptTail
 refine ae ?_
 rw[getitemInPython_of_ne hT.not_modules]
 refine ae (wpAny_specialOf hT hl ?_)
 have fin:wpAny (model prog w) A (subscripted slice false o i) (fun r s₃=>wpAny (model prog w) A (letTemporaryGo value o r>>=fun _=>pure r) Q E s₃) E s₂:=by
  rw[hs o i]
  exact wpAny_operating (dy h₂ (fun r s₃ h₃=>ae (wpAny_letTemporaryGo (aI h₃))) fun _ _ x=>x)
 first
  |exact aI (ae fin)
  |exact ae (aI (ae fin))
  |exact ae fin
theorem IB{X:Cx}{pins:List (Addr×Obj)}{σ:St}{H:Hp}{s:Shared}{a:Addr}{y:V}{o:Option V}(I:Inv X pins σ H s)(g:DGet H a y o):s.TypeIs (.ref a) "dict":=by
 rcases g with⟨kvs,k,e,_,_⟩|⟨kvs,k,b,e,_,_,_⟩
 ·obtain⟨_,_,vs,_,dd⟩:=nK I.hok e
  exact dd.typeIs
 ·obtain⟨_,_,xs,_,dd⟩:=nL I.hok e
  exact dd.typeIs
def yc(ty td:TE):TE:=fun σ H Q=>ty σ H fun y H1=>td σ H1 fun x H2=>∃a o,x= .ref a/\DGet H2 a y o/\Q (.bl o.isSome) H2
def vX(ty td:TE):TE:=fun σ H Q=>ty σ H fun y H1=>td σ H1 fun x H2=>∃a o,x= .ref a/\DGet H2 a y o/\Q (.bl (!o.isSome)) H2
def yl(td ty tv:TE):TS:=fun D σ H=>tv σ H fun v H1=>td σ H1 fun x H2=>ty σ H2 fun y H3=>∃a H4,x= .ref a/\DPut H3 a y v H4/\D.nx σ H4
section
variable{X:Cx}{o i e value:Expr}{pos pos' tpos:Pos}{td ty tv:TE}
theorem Ec(hu:X.A.units+1<cLine)(hi:PE X i ty)(ho:PE X o td):PC X .In i o (yc ty td):=by
 intro pins s σ H Q I h
 refine iy (hi pins s σ H _ I h) fun iv s1 ⟨y,H1,I1,ry,q1⟩=>iy (ho pins s1 σ H1 _ I1 q1) fun u s2 ⟨x,H2,I2,rx,a,ov,ex,g,q2⟩=>?_
 subst ex
 obtain rfl:u=Value.ref a:=rx
 exact CZ hu I2 g ry fun s3 I3=>⟨.bl ov.isSome,H2,I3,rfl,q2⟩
theorem BB(hu:X.A.units+1<cLine)(hi:PE X i ty)(ho:PE X o td):PC X .NotIn i o (vX ty td):=by
 intro pins s σ H Q I h
 refine iy (hi pins s σ H _ I h) fun iv s1 ⟨y,H1,I1,ry,q1⟩=>iy (ho pins s1 σ H1 _ I1 q1) fun u s2 ⟨x,H2,I2,rx,a,ov,ex,g,q2⟩=>?_
 subst ex
 obtain rfl:u=Value.ref a:=rx
 exact zB hu I2 g ry fun s3 I3=>⟨.bl (!ov.isSome),H2,I3,rfl,q2⟩
theorem zV(hu:X.A.units+1<cLine)(ho:PE X o td)(hi:PE X i ty)(hv:PE X value tv)(hs:swapsWith value (some (.Subscript o i pos')) pos.line X.env=pure false):
  PS X (.Assign [.Subscript o i pos'] value pos) (yl td ty tv):=by
 intro pins s σ H D I h
 refine wpAny_Assign_Subscript (iy (hv pins s σ H _ I h) fun r s1 ⟨v,H1,I1,rv,q1⟩=>iy (ho pins s1 σ H1 _ I1 q1) fun u s2 ⟨x,H2,I2,rx,q2⟩=>iy (hi pins s2 σ H2 _ I2 q2) fun iv s3 ⟨y,H3,I3,ry,a,H4,ex,g,q3⟩=>?_) hs
 subst ex
 obtain rfl:u=Value.ref a:=rx
 exact Bk hu I3 g ry rv fun s4 I4=>⟨σ,H4,I4,q3⟩
end
theorem AA{P:Program}{w:World}{H:Hp}(h:Heap)(hb:sysModules<h.objs.size):jc7 P w H (h.push {cls:=.type "dict",data:=.dict #[]}) h.objs.size (.dK []):=
 ⟨bM _,cz.mpr (cS (bj hb)),[],.nil,Heap.DictOf.new h⟩
theorem FQ{P:Program}{w:World}{H:Hp}(h:Heap)(hb:sysModules<h.objs.size):jc7 P w H (h.push {cls:=.type "dict",data:=.dict #[]}) h.objs.size (.dT []):=
 ⟨bM _,cz.mpr (cS (bj hb)),[],.nil,_,#[],0,aQ _ rfl,⟨rfl,rfl,rfl⟩,rfl,rfl,fu⟩
def zt:TE:=fun _ H Q=>∀p,H p=none->Q (.ref p) (upd H p (.dK []))
def Dv:TE:=fun _ H Q=>∀p,H p=none->Q (.ref p) (upd H p (.dT []))
section
variable{X:Cx}{pos:Pos}
theorem pG:PE X (.Dict [] [] pos) zt:=fun pins s σ H Q I h=>
 wpAny_Dict_empty ⟨.ref s.heap.objs.size,_,I.laid (a:=s.heap.objs.size) (o:=.dK []) (t':=s.toks) (fun _ _ q=>ag _ q) (aF _) (AA s.heap I.big),rfl,h _ (I.hok.fresh (aF _))⟩
theorem Gd:PE X (.Dict [] [] pos) Dv:=fun pins s σ H Q I h=>
 wpAny_Dict_empty ⟨.ref s.heap.objs.size,_,I.laid (a:=s.heap.objs.size) (o:=.dT []) (t':=s.toks) (fun _ _ q=>ag _ q) (aF _) (FQ s.heap I.big),rfl,h _ (I.hok.fresh (aF _))⟩
end
def vA:List (TE×TE)->St->Hp->(List (V×V)->Hp->Prop)->Prop
 |[],_,H,Q=>Q [] H
 |(tk,tv)::r,σ,H,Q=>tk σ H fun x H1=>tv σ H1 fun y H2=>vA r σ H2 fun ps H3=>Q ((x,y)::ps) H3
abbrev VV:List (V×V)->List (Value×Value)->Prop:=Paired fun p q=>RelV p.1 q.1/\RelV p.2 q.2
def uE(X:Cx)(pos:Pos)(keys:List (Option Expr))(values:List Expr)(trs:List (TE×TE)):Prop:=
 ∀(pins:List (Addr×Obj)) (s:Shared) (σ:St) (H:Hp) (Q:List (V×V)->Hp->Prop),Inv X pins σ H s->vA trs σ H Q->
  wpAny (model X.prog X.w) X.A (evalPairs (pairTrees keys values X.env pos)) (fun vs s'=>∃ps H',Inv X pins σ H' s'/\VV ps vs/\Q ps H') X.xe s
theorem Fy{X:Cx}{pos:Pos}:uE X pos [] [] []:=fun pins s σ H Q I h=>pairTrees_nil_walk ⟨[],H,I,.nil,h⟩
theorem Gi{X:Cx}{pos:Pos}{k v:Expr}{ks:List (Option Expr)}{vs:List Expr}{tk tv:TE}{trs:List (TE×TE)}(hk:PE X k tk)(hv:PE X v tv)(hr:uE X pos ks vs trs):
  uE X pos (some k::ks) (v::vs) ((tk,tv)::trs):=fun pins s σ H Q I h=>
 pairTrees_cons_walk (iy (hk pins s σ H _ I h) fun u s1 ⟨x,H1,I1,rx,q1⟩=>iy (hv pins s1 σ H1 _ I1 q1) fun w2 s2 ⟨y,H2,I2,ry,q2⟩=>
  iy (hr pins s2 σ H2 _ I2 q2) fun ws s3 ⟨ps,H3,I3,rel,q3⟩=>⟨(x,y)::ps,H3,I3,.cons ⟨rx,ry⟩ rel,q3⟩)
def qj(kvs more:List (ij×V)):List (ij×V):=more.foldl (fun acc kv=>jm acc kv.1 kv.2) kvs
theorem KV.merge:∀{more:List (ij×V)} {rs:List (ij×Value)} {kvs:List (ij×V)} {vs:List (ij×Value)},KV more rs->KV kvs vs->KV (qj kvs more) (merged vs rs):=by
 intro more rs kvs vs r
 unfold KV at r
 induction r generalizing kvs vs with
 |nil=>intro q;exact q
 | @cons p q ps qs h t ih=>
  intro r0
  have e:KV (jm kvs p.1 p.2) (stored vs q.1 q.2):=by
   have:=r0.put p.1 h.2
   rw [<- h.1]; exact this
  exact ih e
theorem CC:∀(more kvs:List (ij×V)),(qj kvs more).length<=kvs.length+more.length
 |[],kvs=>by show kvs.length<=kvs.length+0;lia
 |p::r,kvs=>by
  have h1:=CC r (jm kvs p.1 p.2)
  have h2:=uu kvs p.1 p.2
  show(qj (jm kvs p.1 p.2) r).length<=_
  rw[List.length_cons];lia
theorem BN{P:Program}{w:World}:∀{kvs:List (ij×V)} {ws:List (Value×Value)},VV (kvs.map fun kv=>(kV kv.1,kv.2)) ws->∃rs,Carries (jY P w) ws rs/\KV kvs rs
 |[],_,r=>by rw[bJ]at r;cases r;exact⟨[],True.intro,.nil⟩
 | p::kvs,_,r=>by
  rw[ai]at r
  cases r with
  | @cons a b as bs h t=>
   obtain⟨rs,c,q⟩:=BN (P:=P) (w:=w) t
   obtain⟨b1,b2⟩:=b
   exact⟨(p.1,b2)::rs,⟨mZ h.1,rfl,c⟩,.cons ⟨rfl,h.2⟩ q⟩
def Du(trs:List (TE×TE)):TE:=fun σ H Q=>∀p,H p=none->vA trs σ (upd H p (.dK [])) fun ps H2=>H2 p=some (.dK [])/\∃kvs:List (ij×V),ps=kvs.map (fun kv=>(kV kv.1,kv.2))/\kvs.length<=15/\Q (.ref p) (upd H2 p (.dK (qj [] kvs)))
theorem Fs{X:Cx}{pos:Pos}{keys:List (Option Expr)}{values:List Expr}{trs:List (TE×TE)}(h:uE X pos keys values trs)(hall:keys.all (·.isSome)=true)(hl:keys.length=values.length)(h0:keys≠[])
  (h15:keys.length<=15):PE X (.Dict keys values pos) (Du trs):=by
 intro pins s σ H Q I q
 have hn:=I.hok.fresh (aF s.heap.objs.size)
 have I1:=I.laid (a:=s.heap.objs.size) (o:=.dK []) (h':=s.heap.push {cls:=.type "dict",data:=.dict #[]}) (t':=s.toks) (fun _ _ q=>ag _ q) (aF _) (AA s.heap I.big)
 refine wpAny_Dict_walk (knd:=jY X.prog X.w) hall hl h0 h15 (iy (h pins _ σ _ _ I1 (q _ hn)) fun ws s2 ⟨ps,H2,I2,rel,e,kvs,ep,lk,q2⟩=>?_)
 subst ep
 obtain⟨rs,c,rk⟩:=BN (P:=X.prog) (w:=X.w) rel
 obtain⟨z,hd,vs0,r0,dd⟩:=rK I2.hok e
 cases r0
 refine⟨rs,c,dd,fun h' dd' hs=>⟨.ref s.heap.objs.size,_,?_,rfl,q2⟩⟩
 have hz:(qj [] kvs).length<=sizeLine:=by
  have h1:=CC kvs []
  rw[List.length_nil]at h1
  rw[gT];lia
 have he:∃q,h'.get? s.heap.objs.size=some q:=let⟨q,_,_,hq,_⟩:=dd';⟨q,hq⟩
 exact vJ I2 (by rw[e];exact True.intro) hs he (vc hz hd (rk.merge .nil) dd')
structure M1(X:Cx)(o:Expr)(m:Str)(apos:Pos)(e:Expr)(cpos:Pos):Prop where
 base:attributeBase o m X.env (eval o X.env)=eval o X.env
 few:((backTo cpos (starEach [e] X.env)).all (fun x=>!x.1)&&(backToKw cpos (keywordEach [] X.env)).all (fun x=>x.1.isSome)
  &&decide (([e]:List Expr).length+([]:List Keyword).length+(if([]:List Keyword).isEmpty then 0 else 1)<30))=true
 line:(apos.endLine==cpos.line)=true
 trees:backTo cpos (starEach [e] X.env)=[(false,eval e X.env)]
structure M2(X:Cx)(o:Expr)(m:Str)(apos:Pos)(e f:Expr)(cpos:Pos):Prop where
 base:attributeBase o m X.env (eval o X.env)=eval o X.env
 few:((backTo cpos (starEach [e,f] X.env)).all (fun x=>!x.1)&&(backToKw cpos (keywordEach [] X.env)).all (fun x=>x.1.isSome)
  &&decide (([e,f]:List Expr).length+([]:List Keyword).length+(if([]:List Keyword).isEmpty then 0 else 1)<30))=true
 line:(apos.endLine==cpos.line)=true
 trees:backTo cpos (starEach [e,f] X.env)=[(false,eval e X.env),(false,eval f X.env)]
def Kt(H:Hp)(a:Addr):Prop:=(∃kvs,Rd H a (.dK kvs))\/∃kvs,Rd H a (.dT kvs)
theorem vj{X:Cx}{pins:List (Addr×Obj)}{σ:St}{H:Hp}{s:Shared}{a:Addr}(I:Inv X pins σ H s)(d:Kt H a):
  s.TypeIs (.ref a) "dict"/\(∀b,Value.ref a= .ref b->∃ob,s.heap.get? b=some ob/\ob.dict=none)/\(a==sysModules)=false:=by
 rcases d with⟨kvs,e⟩|⟨kvs,e⟩
 ·obtain⟨_,hd,vs,_,dd⟩:=nK I.hok e
  refine⟨dd.typeIs,fun b q=>?_,hd⟩
  cases q
  obtain⟨ob,_,_,h1,h2,_⟩:=dd
  exact⟨ob,h1,h2.2.1⟩
 ·obtain⟨_,hd,xs,_,dd⟩:=nL I.hok e
  refine⟨dd.typeIs,fun b q=>?_,hd⟩
  cases q
  obtain⟨ob,_,_,h1,h2,_⟩:=dd
  exact⟨ob,h1,h2.2.1⟩
section
variable{X:Cx}{pins:List (Addr×Obj)}{σ:St}{H:Hp}{s:Shared}{a:Addr}{y d:V}{u r:Value}{o:Option V}{A:Around}{E:Value->Shared->Prop}
theorem Ke{Q:Value->Shared->Prop}(hu:A.units+1<cLine)(I:Inv X pins σ H s)(g:DGet H a y o)(ry:RelV y u)(h:∀w' s',Inv X pins σ H s'->RelV (o.getD .non) w'->Q w' s'):
  wpAny (model X.prog X.w) A (call (.builtin "dict.get") [.ref a,u]) Q E s:=by
 rcases g with⟨kvs,k,e,ey,l⟩|⟨kvs,k,b,e,ey,eb,l⟩
 ·subst ey
  obtain⟨z,hd,vs,rel,dd⟩:=nK I.hok e
  refine fP c6 dd.typeIs eO (PySem.F.args_dict_get_2 _ _) (meets_dict_get (jY X.prog X.w) a (mZ ry) hd) ⟨_,dd.mapOf,h _ _ (I.tok _) ?_⟩
  rw[l]
  exact(rel.val k).getD rfl
 ·subst ey
  cases(show u=Value.ref b from ry)
  obtain⟨z,hd,xs,rel,dd⟩:=nL I.hok e
  refine fP c6 dd.typeIs eO (PySem.F.args_dict_get_2 _ _) (meetsH_dict_get (tupleKind (jY X.prog X.w)) a b hd) ⟨dC hu,k,xs,nO I.hok eb,dd,h _ _ (I.tok _) ?_⟩
  rw[l]
  exact(rel.val k).getD rfl
theorem Kc{Q:Value->Shared->Prop}(hu:A.units+1<cLine)(I:Inv X pins σ H s)(g:DGet H a y o)(ry:RelV y u)(rd:RelV d r)(h:∀w' s',Inv X pins σ H s'->RelV (o.getD d) w'->Q w' s'):
  wpAny (model X.prog X.w) A (call (.builtin "dict.get") [.ref a,u,r]) Q E s:=by
 rcases g with⟨kvs,k,e,ey,l⟩|⟨kvs,k,b,e,ey,eb,l⟩
 ·subst ey
  obtain⟨z,hd,vs,rel,dd⟩:=nK I.hok e
  refine fP c6 dd.typeIs eO (PySem.F.args_dict_get_3 _ _ _) (meets_dict_get_default (jY X.prog X.w) a (mZ ry) hd r) ⟨_,dd.mapOf,h _ _ (I.tok _) ?_⟩
  rw[l]
  exact(rel.val k).getD rd
 ·subst ey
  cases(show u=Value.ref b from ry)
  obtain⟨z,hd,xs,rel,dd⟩:=nL I.hok e
  refine fP c6 dd.typeIs eO (PySem.F.args_dict_get_3 _ _ _) (meetsH_dict_get_default (tupleKind (jY X.prog X.w)) a b hd r) ⟨dC hu,k,xs,nO I.hok eb,dd,h _ _ (I.tok _) ?_⟩
  rw[l]
  exact(rel.val k).getD rd
end
section
variable{X:Cx}{o e f:Expr}{apos cpos:Pos}{td ty tx:TE}
end
section
variable{X:Cx}{pins:List (Addr×Obj)}{σ:St}{H:Hp}{s:Shared}{a:Addr}{kvs:List (ij×V)}{A:Around}{E:Value->Shared->Prop}
end
section
variable{X:Cx}{pins:List (Addr×Obj)}{σ:St}{H:Hp}{s:Shared}{a:Addr}{y:V}{u:Value}{A:Around}{E:Value->Shared->Prop}
end
section
variable{κ:Type}[DecidableEq κ]
end
noncomputable def kK(env:Env):List (Str×NameKind)->List (Str×Addr)->List (Str×Addr)
 |[],acc=>acc
 |(n,k)::r,acc=>kK env r (if k== .free then(n,(env.cells.lookup n).getD 0)::acc else acc)
theorem CI{scope:Scope}{env:Env}(h:∀y∈scope.names,y.2= .free->∃c,env.cells.lookup y.1=some c):
    closureFor scope env=pure (kK env scope.names []):=by
  have key:∀(l:List (Str×NameKind)) (acc:List (Str×Addr)),(∀y∈l,y.2= .free->∃c,env.cells.lookup y.1=some c)->
      (forIn l acc fun(x:Str×NameKind) (r:List (Str×Addr))=>
        (if x.2 == NameKind.free then do
          let c <- cellOf env x.1
          pure (ForInStep.yield ((x.1,c)::r))
        else pure (ForInStep.yield r):Sem (ForInStep (List (Str×Addr)))))=pure (kK env l acc):=by
    intro l
    induction l with
    |nil=>intro acc _;rfl
    | cons y r ih=>
      intro acc hy
      obtain⟨n,k⟩:=y
      rw[g0]
      by_cases hk:k= .free
      · subst hk
        obtain⟨c,hc⟩:=hy (n,.free) aZ rfl
        have e1:cellOf env n=pure c:=by unfold cellOf;rw[hc]
        simp only[beq_self_eq_true,if_true]
        rw[e1]
        show(pure c>>=fun c=>pure (ForInStep.yield ((n,c)::acc)))>>=_=_
        have e2:kK env ((n,NameKind.free)::r) acc=kK env r ((n,c)::acc):=by
          have hc':env.cells.lookup n=some c:=hc
          show kK env r (if(NameKind.free==NameKind.free)=true then(n,(env.cells.lookup n).getD 0)::acc else acc)=_
          rw[hc']
          rfl
        rw[e2]
        exact ih _ fun z hz=>hy z (aP _ hz)
      · have hb:(k==NameKind.free)=false:=by simpa using hk
        simp only[hb,aM,if_false]
        have e2:kK env ((n,k)::r) acc=kK env r acc:=by
          show kK env r (if(k==NameKind.free)=true then _ else acc)=_
          rw[hb];rfl
        rw[e2]
        exact ih _ fun z hz=>hy z (aP _ hz)
  unfold closureFor
  have e:=key scope.names [] h
  have e3:∀ (f:Str × NameKind->List (Str × Addr)->Sem (ForInStep (List (Str × Addr)))),(f = fun x r=>(if x.2 == NameKind.free then do
          let c <- cellOf env x.1
          pure (ForInStep.yield ((x.1,c)::r))
        else pure (ForInStep.yield r)))->(forIn scope.names [] f>>=fun r=>pure r)=(pure (kK env scope.names []):Sem (List (Str×Addr))):=by
    intro f hf
    rw[hf,e]
    rfl
  exact e3 _ rfl
theorem CA{env:Env}{x:Str}:∀(l:List (Str×NameKind)) (acc:List (Str×Addr)) (c:Addr),(kK env l acc).lookup x=some c->
  ((∃y∈l,y.1=x/\y.2= .free)/\(env.cells.lookup x).getD 0=c)\/acc.lookup x=some c
 |[],acc,c,h=>.inr h
 | (n,k)::r,acc,c,h=>by
  rcases CA r _ c h with⟨⟨y,hy,e⟩,q⟩|q
  ·exact .inl ⟨⟨y,aP _ hy,e⟩,q⟩
  ·by_cases hk:k= .free
   ·subst hk
    have q':List.lookup x ((n,(env.cells.lookup n).getD 0)::acc)=some c:=q
    rw[List.lookup_cons]at q'
    cases hx:x==n with
    |true=>
     rw[hx]at q'
     have hx':x=n:=by simpa using hx
     subst hx'
     exact .inl ⟨⟨_,aZ,rfl,rfl⟩,aD q'⟩
    |false=>rw[hx]at q';exact .inr q'
   ·have hb:(k==NameKind.free)=false:=by simpa using hk
    rw[hb]at q
    exact .inr q
theorem xb{env:Env}{x:Str}:∀(l:List (Str×NameKind)) (acc:List (Str×Addr)),((∃y∈l,y.1=x/\y.2= .free)\/(acc.lookup x).isSome)->((kK env l acc).lookup x).isSome
 |[],acc,h=>by
  rcases h with⟨y,hy,_⟩|h
  ·cases hy
  ·exact h
 | (n,k)::r,acc,h=>by
  show((kK env r (if(k==NameKind.free)=true then _ else acc)).lookup x).isSome
  refine xb r _ ?_
  rcases h with⟨y,hy,e1,e2⟩|h
  ·rcases aR.mp hy with rfl|hy
   ·have e2':k= .free:=e2
    have e1':n=x:=e1
    subst e2' e1'
    refine .inr ?_
    simp[List.lookup_cons]
   ·exact .inl ⟨y,hy,e1,e2⟩
  ·refine .inr ?_
   split
   ·rw[List.lookup_cons]
    split
    ·rfl
    ·exact h
   ·exact h
structure CpScope(X:Cx)(scope:Scope)(N:List Str)(src:List (Option Nat)):Prop where
 kind:scope.kind= .function
 nocell:∀y∈scope.names,y.2≠ .cell
 locs:∀y∈scope.names,y.2= .local->scope.names.lookup y.1=some .local
 frees:∀y∈scope.names,y.2= .free->scope.names.lookup y.1=some .free/\X.env.scope.names.lookup y.1=some .cell
 nd:N.Nodup
 len:src.length=N.length
 cap:∀(i j:Nat),src[i]? =some (some j)->X.N[j]? =N[i]?/\(N[i]?).elim False (fun x=>scope.names.lookup x=some .free)
noncomputable def uA(src:List (Option Nat))(σ:St):St:=src.map fun o=>o.bind fun j=>(σ[j]?).join
theorem CJ{env:Env}(hk:env.scope.kind= .function):∀{names:List (Str×NameKind)} {x:Str},names.lookup x=some .free->env.kindOf x=some .cell->
  (names.map fun(n,k)=>if(k==NameKind.free&&env.scope.kind== .function&&env.kindOf n==some .cell)then(n,NameKind.cell)else(n,k)).lookup x=some .cell
 |[],_,h,_=>by simp at h
 | (n,k)::r,x,h,hc=>by
  have ih:=@CJ env hk r x
  show List.lookup x ((if(k==NameKind.free&&env.scope.kind== .function&&env.kindOf n==some .cell)=true then(n,NameKind.cell)else(n,k))::_)=_
  cases hx:x==n with
  |true=>
   simp only[List.lookup_cons,hx]at h
   cases h
   have hx':x=n:=by simpa using hx
   subst hx'
   rw[aH (by rw[hk,hc];rfl)]
   simp[List.lookup_cons]
  |false=>
   simp only[List.lookup_cons,hx]at h
   by_cases hq:(k==NameKind.free&&env.scope.kind== .function&&env.kindOf n==some .cell)=true
   ·rw[aH hq];simp only[List.lookup_cons,hx];exact ih h hc
   ·rw[aE hq];simp only[List.lookup_cons,hx];exact ih h hc
theorem xr{env:Env}:∀{names:List (Str×NameKind)} {x:Str} {k':NameKind},
  (names.map fun(n,k)=>if(k==NameKind.free&&env.scope.kind== .function&&env.kindOf n==some .cell)then(n,NameKind.cell)else(n,k)).lookup x=some k'->
   names.lookup x=some k'\/(names.lookup x=some .free/\k'= .cell)
 |[],_,_,h=>by simp at h
 | (n,k)::r,x,k',h=>by
  have ih:=@xr env r x k'
  have h:List.lookup x ((if(k==NameKind.free&&env.scope.kind== .function&&env.kindOf n==some .cell)=true then(n,NameKind.cell)else(n,k))::_)=_:=h
  cases hx:x==n with
  | true=>
   by_cases hq:(k==NameKind.free&&env.scope.kind== .function&&env.kindOf n==some .cell)=true
   ·rw[aH hq]at h
    have h1:=h
    simp only[List.lookup_cons,hx]
    have:k= .free:=by
     have:=(bo _ _▸(bo _ _▸hq).1).1
     simpa using this
    subst this
    refine .inr ⟨rfl,?_⟩
    have h2:List.lookup x ((n,NameKind.cell)::(r.map fun(n,k)=>if(k==NameKind.free&&env.scope.kind== .function&&env.kindOf n==some .cell)then(n,NameKind.cell)else(n,k)))=some k':=h1
    simp only[List.lookup_cons,hx]at h2
    exact(aD h2).symm
   ·rw[aE hq]at h
    simp only[List.lookup_cons,hx]at h ⊢
    exact .inl h
  | false=>
   have h':List.lookup x (r.map fun(n,k)=>if(k==NameKind.free&&env.scope.kind== .function&&env.kindOf n==some .cell)then(n,NameKind.cell)else(n,k))=some k':=by
    by_cases hq:(k==NameKind.free&&env.scope.kind== .function&&env.kindOf n==some .cell)=true
    ·rw[aH hq]at h
     simpa only[List.lookup_cons,hx]using h
    ·rw[aE hq]at h
     simpa only[List.lookup_cons,hx]using h
   simp only[List.lookup_cons,hx]
   exact ih h'
noncomputable def Cx.block(X:Cx)(scope:Scope)(N:List Str)(fp:List Addr)(s₀:Shared)(H₀:Hp)(C:Addr):Cx where
 prog:=X.prog
 w:=X.w
 K:=X.K
 mg:=X.mg
 base:=X.base
 A:=X.A
 N:=N
 s₀:=s₀
 H₀:=H₀
 env:=compEnvC scope (kK X.env scope.names []) C X.env
 outer:=X.stack
 stack:=X.stack
 ex:=fp
 calm:=X.calm
 fn:=fun _=>false
 pn:=[]
 xe:=fun _ _=>False
theorem GM{o:Option (Option V)}{v:V}(h:o.join=some v):o=some (some v):=by
 cases o with
 |none=>cases h
 |some z=>cases z with
  |none=>cases h
  |some z=>rw[show z=v from aD h]
theorem Inv.enter{X:Cx}{scope:Scope}{N:List Str}{src:List (Option Nat)}{pins:List (Addr×Obj)}{σ:St}{H:Hp}{s s4:Shared}{fp:List Addr}(S:CpScope X scope N src)(I:Inv X pins σ H s)
  (f2:∀b∈fp,lP X pins H b) (lt:∀b∈fp,b<s.heap.objs.size) (hns:s4.heap.Ns s.heap.objs.size fun _=>none) (hk:∀b o,s.heap.get? b=some o->s4.heap.get? b=some o) (hos:s4.os=s.os) (hg:s4.gens=s.gens):
  Inv (X.block scope N fp s H s.heap.objs.size) [] (uA src σ) H s4:=by
 have cells:∀x c,(kK X.env scope.names []).lookup x=some c->X.env.cells.lookup x=some c:=fun x c e=>by
  rcases CA _ _ _ e with⟨⟨y,hy,e1,e2⟩,q⟩|q
  ·obtain⟨c',hc'⟩:=I.ok.has y.1 (.inl (S.frees y hy e2).2)
   rw[e1]at hc'
   rw[hc']at q ⊢
   exact bV some q
  ·cases q
 refine⟨⟨I.mod,S.kind,I.ok.glob,I.ok.blt,aF _,fun x y c h1 h2=>I.ok.inj x y c (cells x c h1) (cells y c h2),fun x hx=>?_,fun x c h=>absurd (show false=true from h) aW,I.ok.hd,I.ok.frames,.inl rfl,fun b hb=>?_,I.bs,
   br I.ok.bsz I.sz,fun b o e hb=>?_,fun b hb z=>?_,I.stack,I.stkFree⟩,hos,?_,Un.kept hk,⟨fun _=>none,hns,fun i x v h1 h2 h3=>?_⟩,fun x c e=>?_,I.fresh,fun x c e=>I.freeC x c (cells x c e),fun p hp=>?_,I.hok.kept hk,?_⟩
 ·have hx':(scope.names.map fun(n,k)=>if(k==NameKind.free&&X.env.scope.kind== .function&&X.env.kindOf n==some .cell)then(n,NameKind.cell)else(n,k)).lookup x=some .cell\/(scope.names.map fun(n,k)=>if(k==NameKind.free&&X.env.scope.kind== .function&&X.env.kindOf n==some .cell)then(n,NameKind.cell)else(n,k)).lookup x=some .free:=hx
  have hf:scope.names.lookup x=some .free:=by
   rcases hx' with h|h
   ·rcases xr h with h|h
    ·exact absurd rfl (S.nocell _ (cA h))
    ·exact h.1
   ·rcases xr h with h|h
    ·exact h
    ·cases h.2
  have hsome:=xb (env:=X.env) (x:=x) scope.names [] (.inl ⟨_,cA hf,rfl,rfl⟩)
  exact eE.mp hsome
 ·exact⟨bj (lt b hb),fun x c e=>(f2 b hb).2.2.2.2.1 x c (cells x c e)⟩
 ·have hb':b∈fp:=hb
  rcases(f2 b hb').2.2.2.1 with z|z
  ·exact I.ok.noex b o e z
  ·exact absurd (bD (aL e) (br I.ok.bsz z)) (cN _)
 ·have hb':b∈fp:=hb
  have z':b∈lp X.stack:=z
  rcases aR.mp (I.stkSub b z')with e|e
  ·exact(f2 b hb').2.1 e
  ·exact(f2 b hb').2.2.1 e
 ·rw[hg];exact I.bare
 ·have h2':(src.map fun o=>o.bind fun j=>(σ[j]?).join)[i]? =some (some v):=h2
  rw[aJ]at h2'
  cases e:src[i]? with
  |none=>rw[e]at h2';cases h2'
  | some o=>
   rw[e]at h2'
   cases o with
   |none=>cases h2'
   | some j=>
    have h4:(σ[j]?).join=some v:=aD h2'
    have h5:=GM h4
    obtain⟨c1,c2⟩:=S.cap i j e
    have h1':N[i]? =some x:=h1
    rw[h1']at c1 c2
    have c2':scope.names.lookup x=some .free:=c2
    have c3:=(S.frees _ (cA c2') rfl).2
    obtain⟨m,hn,hl⟩:=I.loc
    obtain⟨u,r,l⟩:=hl j x v c1 h5 (.inr (.inl c3))
    refine⟨u,r,?_⟩
    have c3':X.env.kindOf x=some .cell:=c3
    rcases l with⟨k,_⟩|⟨_,c,e1,z⟩
    ·rw[c3']at k;cases k
    ·refine .inr ⟨.inl (CJ I.ok.kind c2' c3'),c,?_,?_⟩
     ·have hs:=xb (env:=X.env) (x:=x) scope.names [] (.inl ⟨_,cA c2',rfl,rfl⟩)
      obtain⟨c',hc'⟩:=eE.mp hs
      have:=cells x c' hc'
      rw[e1]at this
      cases this
      exact hc'
     ·obtain⟨o,ho,hd⟩:=z
      exact⟨o,hk c o ho,hd⟩
 ·obtain⟨v,o,ho,hd⟩:=I.cell x c (cells x c e)
  exact⟨v,o,hk c o ho,hd⟩
 ·exact absurd (show p∈([]:List (Addr×Obj))from hp) (by simp)
 ·show(src.map _).length=N.length
  rw[aa]
  exact S.len
def qZ(X:Cx)(ifs:List Expr)(t:TT):Prop:=
 ∀(pins:List (Addr×Obj)) (s:Shared) (σ:St) (H:Hp) (Q:Bool->Hp->Prop),Inv X pins σ H s->t σ H Q->
  wpAny (model X.prog X.w) X.A (forIn ifs true fun c r=>if r = true then do let ok <- isTrue c X.env (eval c X.env); pure (ForInStep.yield ok) else pure (ForInStep.yield r)) (TP X pins σ Q) X.xe s
def xU:TT:=fun _ H Q=>Q true H
theorem kf{X:Cx}:qZ X [] xU:=fun pins s σ H Q I h=>wpAny_tests_nil ⟨H,I,h⟩
theorem k8{X:Cx}{c:Expr}{t:TT}(h:PT X c t):qZ X [c] t:=fun pins s σ H Q I hq=>wpAny_tests_one (h pins s σ H Q I hq)
def pW(J:It)(src:List (Option Nat))(g:TG)(tc:TT)(te:TE)(Q:VK)(σ:St)(H:Hp)(l:Addr):Prop:=
 ∃W:Nat->Nat->St->Hp->Prop,(∃m,W 0 m (uA src σ) (upd H l (.lst [])))/\∀i m σ' H,W i m σ' H->
  (J.stop i H/\Q (.ref l) H)\/(J.go i H/\∃N:St->Hp->Prop,(∀σ' H',N σ' H'->∃m',m'<m/\W (i+1) m' σ' H')/\∀x H',J.yld i H x H'->g x σ' H' fun σ2 H2=>tc σ2 H2 fun b H3=>
   if b=true then te σ2 H3 fun v H4=>∃xs,H4 l=some (.lst xs)/\xs.length<sizeLine/\N σ2 (upd H4 l (.lst (xs++[v])))else N σ2 H3)
theorem ju{J:It}{src:List (Option Nat)}{g:TG}{tc:TT}{te:TE}{Q:VK}{σ:St}{H:Hp}{l:Addr}(n:Nat)(Iv:Nat->St->Hp->Prop)(h0:Iv 0 (uA src σ) (upd H l (.lst [])))
  (hs:∀i σ' Hc,i<n->Iv i σ' Hc->J.go i Hc/\∀x H',J.yld i Hc x H'->g x σ' H' fun σ2 H2=>tc σ2 H2 fun b H3=>
   if b=true then te σ2 H3 fun v H4=>∃xs,H4 l=some (.lst xs)/\xs.length<sizeLine/\Iv (i+1) σ2 (upd H4 l (.lst (xs++[v])))else Iv (i+1) σ2 H3)
  (hd:∀σ' Hc,Iv n σ' Hc->J.stop n Hc/\Q (.ref l) Hc):pW J src g tc te Q σ H l:=by
 refine⟨fun i m σ' Hc=>m=n-i/\i<=n/\Iv i σ' Hc,⟨n,by simp,bM _,h0⟩,?_⟩
 rintro i m σ' Hc ⟨rfl,hi,p⟩
 by_cases hlt:i<n
 ·obtain⟨go,step⟩:=hs i σ' Hc hlt p
  exact .inr ⟨go,Iv (i+1),fun σ2 H2 p'=>⟨n-(i+1),by lia,rfl,hlt,p'⟩,step⟩
 ·have e:i=n:=by lia
  subst e
  exact .inl (hd σ' Hc p)
theorem Bj{X:Cx}{elt tg iter:Expr}{ifs:List Expr}{scope:Scope}{pos:Pos}{N:List Str}{src:List (Option Nat)}{g:TG}{tc:TT}{te:TE}{pins:List (Addr×Obj)}{σ:St}{H2:Hp}{s2:Shared}
  {fp:List Addr} {it:Addr} {tn:Nat->Heap->Prop} {J:It} {Q:VK} {E:Value->Shared->Prop} {RR:Value->Addr->Result->Shared->Prop} (S:CpScope X scope N src) (hc:X.calm=true)
  (hg:∀fp s₀ H₀ C,PG (X.block scope N fp s₀ H₀ C) tg g) (ht:∀fp s₀ H₀ C,qZ (X.block scope N fp s₀ H₀ C) ifs tc) (he:∀fp s₀ H₀ C,PE (X.block scope N fp s₀ H₀ C) elt te)
  (I2:Inv X pins σ H2 s2) (T:Turn X.prog X.w X.K tg J fp it tn) (st2:tn 0 s2.heap) (f2:∀b∈fp,lP X pins H2 b) (hw:∀l,H2 l=none->pW J src g tc te Q σ H2 l)
  (hRR:∀l C H' s',Inv X pins σ H' s'->(∃m,s'.heap.Ns C m)->lP X pins H' C->Q (.ref l) H'->RR (.ref l) C (.ok .next) s'):
  wpAny (model X.prog X.w) X.A (newList []) (fun acc s₃=>wpAny (model X.prog X.w) X.A (newFunctionEnv scope X.env.globals (kK X.env scope.names []) [] X.env.qual none .none (some X.env)) (fun cenv s₄=>
   codeAny (model X.prog X.w) X.A (.compStart (.ListComp elt [⟨tg,iter,ifs,0⟩] scope pos) 0 (.ref it) acc {cenv with scope:=relabel scope X.env}) (RR acc cenv.locals) s₄) E s₃) E s2:=by
 have hl0:H2 s2.heap.objs.size=none:=I2.fresh
 have I3:Inv X pins σ (upd H2 s2.heap.objs.size (.lst [])) {s2 with heap:=s2.heap.push {cls:=.type "list",data:=.seq ([]:List Value).toArray}}:=I2.lnew (ys:=[]) (its:=[]) (t':=s2.toks) .nil (bM _)
 have ltf:∀b∈fp,b<s2.heap.objs.size:=fun b hb=>by
  obtain⟨o,e,_⟩:=T.obj _ _ st2 b hb
  exact aL e
 have f3:∀b∈fp,lP X pins (upd H2 s2.heap.objs.size (.lst [])) b:=fun b hb=>⟨by rw[ix (bj (ltf b hb))];exact(f2 b hb).1,(f2 b hb).2⟩
 obtain⟨W,⟨m0,w0⟩,turn⟩:=hw _ hl0
 refine cO (wpAny_newFunctionEnv S.nocell (by intro y hy;simp at hy) (fun h₁ hns₁ hsb₁=>?_) S.kind)
 dsimp only at hns₁ hsb₁ ⊢
 revert I3 f3
 intro I3 f3
 have st1:tn 0 (s2.heap.push {cls:=.type "list",data:=.seq ([]:List Value).toArray}):=T.keep _ _ _ st2 fun b hb o e=>ag _ e
 have lt3:∀b∈fp,b<(s2.heap.push {cls:=.type "list",data:=.seq ([]:List Value).toArray}).objs.size:=fun b hb=>by rw[dR];exact dQ (ltf b hb)
 generalize hH:s2.heap.push {cls:=.type "list",data:=.seq ([]:List Value).toArray}=h3 at I3 st1 lt3 hns₁ hsb₁ ⊢
 have hk:∀b o,h3.get? b=some o->h₁.get? b=some o:=fun b o e=>hsb₁.extBut b o (bj (aL e)) (ag _ e)
 have Ib:Inv (X.block scope N fp {s2 with heap:=h3} (upd H2 s2.heap.objs.size (.lst [])) h3.objs.size) [] (uA src σ) (upd H2 s2.heap.objs.size (.lst [])) {s2 with heap:=h₁,toks:=s2.toks+([]:List (Str×Value)).length}:=
  Inv.enter (s:={s2 with heap:=h3}) S I3 f3 lt3 hns₁ hk rfl rfl
 have fpB:∀{H':Hp},(∀b∈fp,H' b=none)->∀b∈fp,lP (X.block scope N fp {s2 with heap:=h3} (upd H2 s2.heap.objs.size (.lst [])) h3.objs.size) [] H' b:=fun hn b hb=>
  ⟨hn b hb,(Ib.ok.exf b hb).1,Ib.ok.exfs b hb,.inl hb,(Ib.ok.exf b hb).2,fun p hp=>absurd (show p∈([]:List (Addr×Obj))from hp) (by simp)⟩
 have tn1:tn 0 h₁:=T.keep _ _ _ st1 fun b _ o e=>hk b o e
 have loop:∀s₃:Shared,s₃={s2 with heap:=h₁,toks:=s2.toks+([]:List (Str×Value)).length}->
   codeAny (model X.prog X.w) X.A (.compLoop (.ListComp elt [⟨tg,iter,ifs,0⟩] scope pos) 0 (.ref it) (.ref s2.heap.objs.size) (compEnvC scope (kK X.env scope.names []) h3.objs.size X.env))
    (RR (.ref s2.heap.objs.size) h3.objs.size) s₃:=by
  rintro s₃ rfl
  refine codeAny_loop rfl (fun n s'=>∃i σ' H',Inv (X.block scope N fp {s2 with heap:=h3} (upd H2 s2.heap.objs.size (.lst [])) h3.objs.size) [] σ' H' s'/\tn i s'.heap/\(∀b∈fp,H' b=none)/\W i n σ' H') ?_ m0
   ⟨0,_,_,Ib,tn1,fun b hb=>(f3 b hb).1,w0⟩
  rintro n s5 ⟨i,σ5,H5,I5,st5,fr5,w5⟩
  show wpAny _ X.A ((compTurn (.ListComp elt [⟨tg,iter,ifs,0⟩] scope pos) 0 (.ref it) (.ref s2.heap.objs.size) (compEnvC scope (kK X.env scope.names []) h3.objs.size X.env)).onRaise (fun x=>do noteFrame x (compEnvC scope (kK X.env scope.names []) h3.objs.size X.env); theTreesLotGoes x)) _ _ s5
  refine wpAny_noted ?_
  rw[compTurn_list]
  refine ae (gu (ae ?_))
  rcases turn i n σ5 H5 w5 with⟨stop,qn⟩|⟨go,N',hN',step⟩
  ·refine iy (T.done (X.block scope N fp {s2 with heap:=h3} (upd H2 s2.heap.objs.size (.lst [])) h3.objs.size) rfl rfl rfl hc i [] s5 σ5 H5 _ I5 (fpB fr5) st5 stop) fun r s6 ⟨hr,I6⟩=>?_
   subst hr
   refine aI ?_
   have u6:Un (lp X.stack) fp (upd H2 s2.heap.objs.size (.lst [])) H5 h3 s6.heap:=I6.base
   have hf6:H5 h3.objs.size=none:=I6.free
   have I7:Inv X pins σ H5 s6:=I3.call' (ch:=fp) I6.os u6 I6.hok I6.bare fun b hb=>⟨(f3 b hb).2.2.2.1,(f3 b hb).2.1,(f3 b hb).2.2.2.2.1,(f3 b hb).2.2.2.2.2⟩
   obtain⟨m,hm,_⟩:=I6.loc
   exact hRR _ _ H5 s6 I7 ⟨m,hm⟩ (I3.fpOk (aF _) hf6) qn
  ·refine iy (T.item (X.block scope N fp {s2 with heap:=h3} (upd H2 s2.heap.objs.size (.lst [])) h3.objs.size) rfl rfl rfl hc i [] s5 σ5 H5 _ I5 (fpB fr5) st5 go) fun r s6 ⟨u,hr,h6⟩=>?_
   subst hr
   refine ae (iy h6 fun _ s7 ⟨x,H7,I7,r7,y7,st7,fr7⟩=>?_)
   have I7':=I7.pinned (fpB fr7) (T.obj _ _ st7)
   have fin:∀{σ9:St} {H9:Hp} {s9:Shared},Inv (X.block scope N fp {s2 with heap:=h3} (upd H2 s2.heap.objs.size (.lst [])) h3.objs.size) ([]++ql fp s7.heap) σ9 H9 s9->N' σ9 H9->
     ∃m,m<n/\∃i σ' H',Inv (X.block scope N fp {s2 with heap:=h3} (upd H2 s2.heap.objs.size (.lst [])) h3.objs.size) [] σ' H' s9/\tn i s9.heap/\(∀b∈fp,H' b=none)/\W i m σ' H':=fun{σ9 H9 s9} I9 n9=>by
    obtain⟨m',hm,w9⟩:=hN' σ9 H9 n9
    refine⟨m',hm,i+1,σ9,H9,I9.unpinned,T.keep _ _ _ st7 fun b hb o e=>(I9.pin (b,o) (bK _ (bK _ (uq hb e)))).1,fun b hb=>?_,w9⟩
    obtain⟨o,e,d⟩:=T.obj _ _ st7 b hb
    exact(I9.pin (b,o) (bK _ (bK _ (uq hb e)))).2.1
   refine ae (dy (hg fp _ _ _ _ s7 σ5 H7 x u _ I7' r7 (step x H7 y7)) (fun _ s8 ⟨σ8,H8,I8,q8⟩=>?_) fun _ _ z=>False.elim z)
   refine ae (dy (ht fp _ _ _ _ s8 σ8 H8 _ I8 q8) (fun ok s9 ⟨H9,I9,q9⟩=>?_) fun _ _ z=>False.elim z)
   cases ok with
   |false=>exact aI ⟨rfl,fin I9 q9⟩
   | true=>
    refine ae (ae (dy (he fp _ _ _ _ s9 σ8 H9 _ I9 q9) (fun v s10 ⟨y,H10,I10,r10,xs,hx,hz,q10⟩=>?_) fun _ _ z=>False.elim z))
    refine ae (dy (Bx (X:=X.block scope N fp {s2 with heap:=h3} (upd H2 s2.heap.objs.size (.lst [])) h3.objs.size) _ s10 σ8 H10 (.ref s2.heap.objs.size) [y] _ [v] (fun _ H11=>N' σ8 H11) I10 rfl (.cons r10 .nil) ⟨_,xs,y,rfl,rfl,hx,hz,q10⟩)
     (fun _ s11 ⟨_,H11,I11,_,q11⟩=>aI (aI ⟨rfl,fin I11 q11⟩)) fun _ _ z=>False.elim z)
 exact codeAny_compStart_list (loop _ rfl) (T.self _ 0 _ _ _ tn1 (loop _ rfl))
def rV(src:List (Option Nat))(wi:TI)(g:TG)(tc:TT)(te:TE):TE:=fun σ H Q=>wi σ H fun J H1=>∀l,H1 l=none->pW J src g tc te Q σ H1 l
theorem jU{X:Cx}{elt tg iter:Expr}{ifs:List Expr}{scope:Scope}{pos:Pos}{N:List Str}{src:List (Option Nat)}{wi:TI}{g:TG}{tc:TT}{te:TE}(S:CpScope X scope N src)(hc:X.calm=true)
  (hi:PI X tg iter wi) (hg:∀fp s₀ H₀ C,PG (X.block scope N fp s₀ H₀ C) tg g) (ht:∀fp s₀ H₀ C,qZ (X.block scope N fp s₀ H₀ C) ifs tc) (he:∀fp s₀ H₀ C,PE (X.block scope N fp s₀ H₀ C) elt te)
  (hs:∀x,foldedSetIterable iter X.env x=pure x:=by intro _;rfl):PE X (.ListComp elt [⟨tg,iter,ifs,0⟩] scope pos) (rV src wi g tc te):=by
 intro pins s σ H Q I h
 rw[eval_ListComp]
 refine wpAny_comprehension_free (use:=none) rfl hs (CI fun y hy e=>I.ok.has y.1 (.inl (S.frees y hy e).2)) S.kind S.locs ?_
 refine iy (hi pins s σ H _ I h) fun v s1 h1=>iy h1 fun itv s2 h2=>?_
 obtain⟨it,fp,tn,J,H2,e,I2,T,st2,f2,hw⟩:=h2
 subst e
 refine Bj (RR:=fun acc C=>compPost (model X.prog X.w) X.A X.xe none (EP X pins σ Q) acc C) S hc hg ht he I2 T st2 f2 hw ?_
 intro l C H' s' I' hm fC q
 obtain⟨m,hm⟩:=hm
 refine⟨m,hm,fun h' hs'=>?_⟩
 exact⟨.ref l,H',I'.turned (t':=s'.toks) (fun b o hb e=>hs'.extBut b o hb e) fC.1 fC.2.1 fC.2.2.2.1 fC.2.2.2.2.1 fC.2.2.2.2.2,rfl,q⟩
theorem mh{X:Cx}{i:Nat}{x:Str}{pos' spos:Pos}{elt tg iter:Expr}{ifs:List Expr}{scope:Scope}{pos:Pos}{N:List Str}{src:List (Option Nat)}{wi:TI}{g:TG}{tc:TT}{te:TE}(hN:X.N.Nodup)(hix:X.N[i]? =some x)(hx:Loc X.env.scope x)
  (S:CpScope X scope N src) (hc:X.calm=true)
  (hi:PI X tg iter wi) (hg:∀fp s₀ H₀ C,PG (X.block scope N fp s₀ H₀ C) tg g) (ht:∀fp s₀ H₀ C,qZ (X.block scope N fp s₀ H₀ C) ifs tc) (he:∀fp s₀ H₀ C,PE (X.block scope N fp s₀ H₀ C) elt te)
  (hsw:swapsWith (.ListComp elt [⟨tg,iter,ifs,0⟩] scope pos) (some (.Name x pos')) spos.line X.env=pure true:=by rfl)
  (hs:∀x,foldedSetIterable iter X.env x=pure x:=by intro _;rfl) (hf:X.fn x=true\/X.env.scope.names.lookup x=some .local:=by first|exact .inl rfl|exact .inr rfl|assumption):
  PS X (.Assign [.Name x pos'] (.ListComp elt [⟨tg,iter,ifs,0⟩] scope pos) spos) (rp (rV src wi g tc te) (mY i)):=by
 intro pins s σ H D I h
 rw[exec_Assign_Name_used _ _ _ _ hsw]
 refine ae (gu (ae ?_))
 show wpAny _ X.A (do let _ <- comprehension (.ListComp elt [⟨tg,iter,ifs,0⟩] scope pos) scope X.env _ (newList []) false (eval iter X.env) (some (assign (.Name x pos') X.env))) _ _ s
 refine ae (dy (wpAny_comprehension_free (use:=some (assign (.Name x pos') X.env)) (Q:=fun _ s'=>SP X pins D .next s') rfl hs (CI fun y hy e=>I.ok.has y.1 (.inl (S.frees y hy e).2)) S.kind S.locs
  (iy (hi pins s σ H _ I h) fun v s1 h1=>iy h1 fun itv s2 h2=>?_)) (fun _ s' hq=>aI (aI hq)) fun _ _ e=>e)
 obtain⟨it,fp,tn,J,H2,e,I2,T,st2,f2,hw⟩:=h2
 subst e
 refine Bj (Q:=fun v H'=>D.nx (σ.set i (some v)) H') (RR:=fun acc C=>compPost (model X.prog X.w) X.A X.xe (some (assign (.Name x pos') X.env)) (fun _ s'=>SP X pins D .next s') acc C) S hc hg ht he I2 T st2 f2 hw ?_
 intro l C H' s' I' hm fC q
 obtain⟨m,hm⟩:=hm
 show wpAny _ X.A (assign (.Name x pos') X.env (.ref l)) _ _ _
 refine wpAny_assign_Name (BG I' hN hix hx (v:=.ref l) rfl (fun s'' I'' ⟨a,sb,ha⟩=>?_) hf)
 have hCa:C≠a:=by
  rcases ha with rfl|ha
  ·exact fC.2.1
  ·exact fun z=>fC.2.2.2.2.1 x a ha z.symm
 refine⟨m,hm.sameBut sb hCa,fun h' hs'=>?_⟩
 exact⟨_,H',I''.turned (t':=s''.toks) (fun b o hb e=>hs'.extBut b o hb e) fC.1 fC.2.1 fC.2.2.2.1 fC.2.2.2.2.1 fC.2.2.2.2.2,q⟩
theorem Inv.turnedNew{X:Cx}{pins:List (Addr×Obj)}{σ:St}{H:Hp}{s:Shared}{h':Heap}{ch:List Addr}{t:Addr}{o:HO}{t':Nat}(I:Inv X pins σ H s)(hsz:s.heap.objs.size<=t)
  (k:∀b ob,b∉ch->s.heap.get? b=some ob->h'.get? b=some ob) (hch:∀b∈ch,lP X pins H b) (new:jc7 X.prog X.w (upd H t o) h' t o):
  Inv X pins σ (upd H t o) {s with heap:=h',toks:=t'}:=by
 have hn:H t=none:=I.hok.fresh hsz
 have nt:∀{b ob},s.heap.get? b=some ob->b≠t:=fun q=>bj (bD (aL q) hsz)
 have u:Un (lp X.stack) ch H (upd H t o) s.heap h':=
  ⟨fun b ob q _ _ hx=>k b ob hx q,fun b ob q _ _ hx=>⟨ob.slots,k b ob hx q⟩,fun b ob q n _=>by rw[ix (nt q)];exact n,fun b ob q hx=>⟨ob,k b ob hx q⟩,
   fun b xs q=>by rw[ix (iI q hn)];exact q,fun b ob xs q=>by rw[ix (iI q hn)];exact q,fun b ps q=>⟨#[],by rw[ix (iI q hn),q];simp⟩⟩
 refine I.call (g':=s.gens) (t':=t') (d':=s.drawn) u (fun b ob e=>?_) I.bare fun b hb=>⟨(hch b hb).2.2.2.1,(hch b hb).2.1,(hch b hb).2.2.2.2.1,(hch b hb).2.2.2.2.2⟩
 by_cases hb:b=t
 ·subst hb;rw[ie]at e;cases e;exact new
 ·rw[ix hb]at e
  have ntr:∀{c u},H c=some u->c∉ch:=fun q z=>by rw[(hch _ z).1]at q;cases q
  refine(I.hok b ob e).stay (fun c v hc q=>k c v ?_ q) (fun c q=>by rw[ix (iI q hn)];exact q) fun c xs q=>by rw[ix (iI q hn)];exact q
  rcases hc with z|z
  ·rw[z];exact ntr e
  ·exact ntr z
theorem Inv.turnedAll{X:Cx}{pins:List (Addr×Obj)}{σ:St}{H:Hp}{s:Shared}{h':Heap}{ch:List Addr}{t':Nat}(I:Inv X pins σ H s)
  (k:∀b ob,b∉ch->s.heap.get? b=some ob->h'.get? b=some ob) (hch:∀b∈ch,lP X pins H b):Inv X pins σ H {s with heap:=h',toks:=t'}:=by
 have u:Un (lp X.stack) ch H H s.heap h':=
  ⟨fun b ob q _ _ hx=>k b ob hx q,fun b ob q _ _ hx=>⟨ob.slots,k b ob hx q⟩,fun b ob q n _=>n,fun b ob q hx=>⟨ob,k b ob hx q⟩,fun b xs q=>q,fun b ob xs q=>q,fun b ps q=>⟨#[],by rw[q];simp⟩⟩
 refine I.call (g':=s.gens) (t':=t') (d':=s.drawn) u (fun b ob e=>?_) I.bare fun b hb=>⟨(hch b hb).2.2.2.1,(hch b hb).2.1,(hch b hb).2.2.2.2.1,(hch b hb).2.2.2.2.2⟩
 have ntr:∀{c u},H c=some u->c∉ch:=fun q z=>by rw[(hch _ z).1]at q;cases q
 refine(I.hok b ob e).stay (fun c v hc q=>k c v ?_ q) (fun c q=>q) fun c xs q=>q
 rcases hc with z|z
 ·rw[z];exact ntr e
 ·exact ntr z
def oR(K:PySem.W.Frag)(a:Addr):It:=
 ⟨fun i H=>∃xs x,SqL K H a xs/\xs[i]? =some x,fun i H x H'=>∃t y,H t=none/\x= .ref t/\H'=upd H t (.tup [.int i,y])/\∀xs,SqL K H a xs->xs[i]? =some y,fun i H=>∃xs,SqL K H a xs/\xs.length<=i⟩
theorem Hk{P:Program}{w:World}{K:PySem.W.Frag}{elts:List Expr}{x1:Nat}{pos:Pos}(a e it:Addr)(hne:e≠it):
  Turn P w K (.Tuple elts x1 pos) (oR K a) [e,it] e (fun i h=>(∃old,IsEnum h e it i old)/\h.IsListIter it a i)where
 mem:=by simp
 obj:=fun i h st b hb=>by
  obtain⟨⟨old,he⟩,hit⟩:=st
  have q:b=e\/b=it:=by simpa using hb
  rcases q with rfl|rfl
  ·exact⟨_,he,fun v z=>by
    have z':Data.fields _=Data.cell v:=z
    cases z'⟩
  ·obtain⟨o,e1,c,d⟩:=hit
   exact⟨o,e1,fun v z=>by rw[d]at z;cases z⟩
 keep:=fun i h h' st k=>by
  obtain⟨⟨old,he⟩,hit⟩:=st
  exact⟨⟨old,k e (by simp) _ he⟩,hit.at fun o z=>k it (by simp) o z⟩
 item:=by
  intro X hP hw hK hc i pins s σ H E I hf st hg
  subst hP hw hK
  obtain⟨⟨old,he⟩,hit⟩:=st
  obtain⟨xs,x,hq,hx⟩:=hg
  obtain⟨its,rv,p,hz⟩:=I.list hq
  obtain⟨u,hu,ru⟩:=rv.get hx
  have elt:e<s.heap.objs.size:=aL he
  have ilt:it<s.heap.objs.size:=by obtain⟨_,z,_⟩:=hit;exact aL z
  refine wpAny_pyNext_enum_item he hit p.isList (x:=u) (by simpa using hu) hne fun h1 ho hit1 hT hsz1 hk1=>?_
  refine⟨_,rfl,wpAny_letOwnedTupleGo_enum ho fun h2 he2 hs2=>?_⟩
  replace hs2:Heap.SameBut e h1 h2:=hs2
  have kk:∀b ob,b∉[e,it]->s.heap.get? b=some ob->h2.get? b=some ob:=fun b ob hb q=>by
   have hb':b≠e/\b≠it:=by simpa using hb
   exact hs2.extBut b ob hb'.1 (hk1 b ob hb'.1 hb'.2 q)
  have hT2:h2.get? s.heap.objs.size=some {cls:=.type "tuple",data:=.seq #[.int i s.toks,u]}:=(hs2.2 _ (dD elt)).trans hT
  refine⟨.ref s.heap.objs.size,upd H s.heap.objs.size (.tup [.int i,x]),I.turnedNew (ch:=[e,it]) (aF _) kk hf ?_,rfl,⟨_,x,I.fresh,rfl,rfl,fun ys hy=>by rw[I.list_inj hy hq];exact hx⟩,⟨⟨u,by simpa using he2⟩,hit1.at fun o z=>(hs2.2 it hne.symm).trans z⟩,fun b hb=>?_⟩
  ·exact⟨by show 2<=sizeLine;decide,[.int i s.toks,u],.cons ⟨_,rfl⟩ (.cons ru .nil),⟨_,hT2,rfl,_,rfl⟩⟩
  ·have hb':b=e\/b=it:=by simpa using hb
   have:b≠s.heap.objs.size:=by
    rcases hb' with rfl|rfl
    ·exact bj elt
    ·exact bj ilt
   rw[ix this]
   exact(hf b hb).1
 done:=by
  intro X hP hw hK hc i pins s σ H E I hf st hg
  subst hP hw hK
  obtain⟨⟨old,he⟩,hit⟩:=st
  obtain⟨xs,hq,hx⟩:=hg
  obtain⟨its,rv,p,hz⟩:=I.list hq
  have hl:=rv.length
  refine wpAny_pyNext_enum_end (I.ok.hd hc) he hit p.isList (by simp;lia) fun h' eb=>⟨rfl,I.turnedAll (ch:=[e,it]) (t':=s.toks) (fun b o hb q=>eb b o (fun z=>hb (by simp[z])) q) hf⟩
 self:=fun _ _ _ _ _ st h=>by
  obtain⟨⟨old,he⟩,_⟩:=st
  exact wpAny_pyIter_enum he h
def uZ(K:PySem.W.Frag)(ta:TA):TI:=fun σ H R=>ta σ H fun vs H1=>∃a,vs=[.ref a]/\(∃xs,SqL K H1 a xs)/\R (oR K a) H1
theorem sL{X:Cx}{elts:List Expr}{x1:Nat}{tpos:Pos}{a:Expr}{ta:TA}{p pos:Pos}(hg:Gl X "enumerate")(hm:X.mg "enumerate"=none)(ha:PA X [a] ta)(hs:starEach [a] X.env=[(false,eval a X.env)]:=by rfl):
  PI X (.Tuple elts x1 tpos) (.Call (.Name "enumerate" p) [a] [] pos) (uZ X.K ta):=by
 intro pins s σ H R I h
 refine Call_ (nc I hg hm boot_enumerate (cL (iy (ha pos pins s σ H _ I h) fun us s1 ⟨vs,H1,I1,r1,q1⟩=>?_) hs rfl))
 obtain⟨a,e,⟨xs,hq⟩,q⟩:=q1
 subst e
 cases r1 with
 |cons r rr=>
  cases rr
  cases r
  obtain⟨its,rv,pl,hz⟩:=I1.list hq
  refine call_enumerate_list pl.isList fun h' he hit hsz hk=>?_
  refine wpAny_pyIter_enum he ?_
  have I2:Inv X pins σ H1 {s1 with heap:=h'}:=I1.kept (t':=s1.toks) fun b o q=>hk b o q
  refine⟨_,[s1.heap.objs.size+1,s1.heap.objs.size],_,_,H1,rfl,I2,Hk a _ _ (gP _),⟨⟨_,he⟩,hit⟩,fun b hb=>?_,q⟩
  have hb':b=s1.heap.objs.size+1\/b=s1.heap.objs.size:=by simpa using hb
  rcases hb' with rfl|rfl
  ·exact I1.fpOk (fk _) (I1.hok.fresh (fk _))
  ·exact I1.fpOk (aF _) (I1.hok.fresh (aF _))
section
variable{prog:Program}{w:World}{A:Around}{E:Value->Shared->Prop}{s:Shared}
theorem Ic{j t:Addr}{k:Nat}{ar:Array Value}{x:Value}{Q:Value->Shared->Prop}(hj:s.heap.IsTupleIter j t k)(ht:s.heap.IsTuple t ar)(hx:ar[k]? =some x)
  (hQ:∀h',h'.IsTupleIter j t (k+1)->Heap.SameBut j s.heap h'->Q x {s with heap:=h'}):wpAny (model prog w) A (Builtin.SmallTypes.nextOf (.ref j)) Q E s:=by
 obtain⟨ob,e0,hcl,hdt⟩:=id hj
 obtain⟨ot,e1,_,nt,hdl⟩:=ht
 unfold Builtin.SmallTypes.nextOf
 refine ae (dq (name:=Str.ofString "__next__") hj.typeIs dU (dX dU hj.typeIs hG ?_ (g6 _)))
 show wpAny _ _ (field (.ref j) 0>>=_) _ _ s
 refine ae (cH e0 hdt (x:=.ref t) rfl ?_)
 show wpAny _ _ (if(Value.ref t==Value.none)=true then _ else _) _ _ s
 rw[aE (show ¬((Value.ref t==Value.none)=true)from aW)]
 show wpAny _ _ (field (.ref j) 1>>=_) _ _ s
 refine ae (cH e0 hdt (x:=.int k 0) rfl ?_)
 show wpAny _ _ (seqItems? (.ref t)>>=_) _ _ s
 refine ae (bY e1 hdl ?_)
 simp only[Int.toNat_natCast,hx]
 refine ae (wpAny_setField e0 hdt (by simp) (aI ⟨x,rfl,aI (hQ _ ?_ (Heap.SameBut.update ..))⟩))
 exact⟨_,c7 _ e0 (Obj.isFreed_of_fields (Obj.data_mapFields hdt _)),(Obj.cls_mapFields ..).trans hcl,by rw[Obj.data_mapFields hdt];simp[rawInt]⟩
theorem Js{j t:Addr}{k:Nat}{ar:Array Value}{Q:Value->Shared->Prop}(hh:A.handled=none)(hj:s.heap.IsTupleIter j t k)(ht:s.heap.IsTuple t ar)(hx:ar[k]? =none)
  (hE:∀h' e,Heap.ExtBut j s.heap h'->(∃o,h'.get? e=some o/\o.cls= .type "StopIteration")->E (.ref e) {s with heap:=h'}):wpAny (model prog w) A (Builtin.SmallTypes.nextOf (.ref j)) Q E s:=by
 obtain⟨ob,e0,hcl,hdt⟩:=id hj
 obtain⟨ot,e1,_,nt,hdl⟩:=ht
 unfold Builtin.SmallTypes.nextOf
 refine ae (dq (name:=Str.ofString "__next__") hj.typeIs dU (dX dU hj.typeIs hG ?_ (g6 _)))
 show wpAny _ _ (field (.ref j) 0>>=_) _ _ s
 refine ae (cH e0 hdt (x:=.ref t) rfl ?_)
 show wpAny _ _ (if(Value.ref t==Value.none)=true then _ else _) _ _ s
 rw[aE (show ¬((Value.ref t==Value.none)=true)from aW)]
 show wpAny _ _ (field (.ref j) 1>>=_) _ _ s
 refine ae (cH e0 hdt (x:=.int k 0) rfl ?_)
 show wpAny _ _ (seqItems? (.ref t)>>=_) _ _ s
 refine ae (bY e1 hdl ?_)
 simp only[Int.toNat_natCast,hx]
 refine ae (fc (ae (wpAny_setField e0 hdt (by simp) ?_)))
 show wpAny _ _ (newExc (.type "StopIteration") []>>=_) _ _ _
 refine ae ?_
 simp only[newExc,newTuple]
 refine ae (cO ?_ (by size_fits))
 refine ae (m:=firstArgMember _ _) (fG (a:=Value.none) (by first|rfl|(simp only[firstArgMember];rfl)) ?_)
 refine cO ?_ (by size_fits)
 simp only[raiseNew]
 refine ae (wpAny_handled ?_)
 first|rw[show A.in1.handled=none from hh]|rw[hh]
 refine ae (aI (wpAny_throw ?_))
 exact hE _ _ (((Heap.SameBut.update ..).extBut.push _).push _) ⟨_,aQ _ rfl,rfl⟩
def IsSq(b:Bool)(h:Heap)(l:Addr)(ar:Array Value):Prop:=if b=true then h.IsList l ar else h.IsTuple l ar
def jcg(b:Bool)(h:Heap)(j l:Addr)(k:Nat):Prop:=if b=true then h.IsListIter j l k else h.IsTupleIter j l k
theorem IsSq.at'{b:Bool}{h h':Heap}{l:Addr}{ar:Array Value}(x:IsSq b h l ar)(k:∀o,h.get? l=some o->h'.get? l=some o):IsSq b h' l ar:=by
 cases b with
 |true=>obtain⟨o,e,r⟩:=(show h.IsList l ar from x);exact(show h'.IsList l ar from⟨o,k o e,r⟩)
 |false=>obtain⟨o,e,r⟩:=(show h.IsTuple l ar from x);exact(show h'.IsTuple l ar from⟨o,k o e,r⟩)
theorem jcg.at'{b:Bool}{h h':Heap}{j l:Addr}{i:Nat}(x:jcg b h j l i)(k:∀o,h.get? j=some o->h'.get? j=some o):jcg b h' j l i:=by
 cases b with
 |true=>obtain⟨o,e,r⟩:=(show h.IsListIter j l i from x);exact(show h'.IsListIter j l i from⟨o,k o e,r⟩)
 |false=>obtain⟨o,e,r⟩:=(show h.IsTupleIter j l i from x);exact(show h'.IsTupleIter j l i from⟨o,k o e,r⟩)
theorem jcg.obj{b:Bool}{h:Heap}{j l:Addr}{i:Nat}(x:jcg b h j l i):∃o,h.get? j=some o/\∀v,o.data≠ .cell v:=by
 cases b with
 |true=>obtain⟨o,e,_,d⟩:=(show h.IsListIter j l i from x);exact⟨o,e,fun v z=>by rw[d]at z;cases z⟩
 |false=>obtain⟨o,e,_,d⟩:=(show h.IsTupleIter j l i from x);exact⟨o,e,fun v z=>by rw[d]at z;cases z⟩
theorem wV{b:Bool}{j l:Addr}{k:Nat}{ar:Array Value}{x:Value}{Q:Value->Shared->Prop}(hj:jcg b s.heap j l k)(hl:IsSq b s.heap l ar)(hx:ar[k]? =some x)
  (hQ:∀h',jcg b h' j l (k+1)->Heap.SameBut j s.heap h'->Q x {s with heap:=h'}):wpAny (model prog w) A (Builtin.SmallTypes.nextOf (.ref j)) Q E s:=by
 cases b with
 |true=>exact wpAny_nextOf_list_item (show s.heap.IsListIter j l k from hj) (show s.heap.IsList l ar from hl) hx fun h' a b=>hQ h' a b
 |false=>exact Ic (show s.heap.IsTupleIter j l k from hj) (show s.heap.IsTuple l ar from hl) hx fun h' a b=>hQ h' a b
theorem CF{b:Bool}{j l:Addr}{k:Nat}{ar:Array Value}{Q:Value->Shared->Prop}(hh:A.handled=none)(hj:jcg b s.heap j l k)(hl:IsSq b s.heap l ar)(hx:ar[k]? =none)
  (hE:∀h' e,Heap.ExtBut j s.heap h'->(∃o,h'.get? e=some o/\o.cls= .type "StopIteration")->E (.ref e) {s with heap:=h'}):wpAny (model prog w) A (Builtin.SmallTypes.nextOf (.ref j)) Q E s:=by
 cases b with
 |true=>exact wpAny_nextOf_list_end hh (show s.heap.IsListIter j l k from hj) (show s.heap.IsList l ar from hl) hx hE
 |false=>exact Js hh (show s.heap.IsTupleIter j l k from hj) (show s.heap.IsTuple l ar from hl) hx hE
theorem Jd{b:Bool}{z TI TO i1 i2 l1 l2:Addr}{k1 k2:Nat}{xs ys:Array Value}{x y v0 v1:Value}{Q:Value->Shared->Prop}(D:ZipApart z TI TO i1 i2 l1 l2)
  (hz:IsZip s.heap z TI TO .none) (hTI:IsPair s.heap TI (.ref i1) (.ref i2)) (hTO:IsPair s.heap TO v0 v1)
  (h1:jcg b s.heap i1 l1 k1) (h2:jcg b s.heap i2 l2 k2) (hl1:IsSq b s.heap l1 xs) (hl2:IsSq b s.heap l2 ys) (hx:xs[k1]? =some x) (hy:ys[k2]? =some y)
  (hQ:∀h',IsZip h' z TI TO (rawInt s.heap.objs.size)->IsPair h' TO x y->jcg b h' i1 l1 (k1+1)->jcg b h' i2 l2 (k2+1)->IsPair h' s.heap.objs.size x y->
   (∀c o,c≠z->c≠TO->c≠i1->c≠i2->s.heap.get? c=some o->h'.get? c=some o)->Q (.ref s.heap.objs.size) {s with heap:=h'}):
  wpAny (model prog w) A (Builtin.«zip.__next__» ⟨[.ref z],[]⟩) (fun fin s'=>∃v,fin= .done (.ret v)/\Q v s') E s:=by
 show wpAny _ _ (field (.ref z) 2>>=_) _ _ _
 refine ae (cH hz rfl (x:=.bool false) rfl ?_)
 show wpAny _ _ (field (.ref z) 3>>=_) _ _ _
 refine ae (cH hz rfl (x:=.ref TI) rfl ?_)
 refine ae (bY hTI rfl ?_)
 show wpAny _ _ (Builtin.SmallTypes.ownedTupleIsFree (.ref z)>>=_) _ _ _
 refine ae ?_
 unfold Builtin.SmallTypes.ownedTupleIsFree
 refine ae (cH hz rfl (x:=.none) rfl (aI ?_))
 simp only[if_true]
 refine ae (fc ?_)
 refine ae (cH hz rfl (x:=.ref TO) rfl ?_)
 refine ae (dw hz (by simp) fun g1 hzA sA=>?_)
 replace hzA:IsZip g1 z TI TO .ellipsis:=hzA
 refine ae ?_
 simp only[List.zipIdx_cons,List.zipIdx_nil,g0,List.forIn_nil]
 refine ae (ae (gv ?_))
 show wpAny _ _ (Builtin.SmallTypes.nextOf (.ref i1)>>=_) _ _ _
 refine ae (wV (b:=b) (h1.at' fun o e=>sA.extBut _ o D.i1z e) (hl1.at' fun o e=>sA.extBut _ o D.l1z e) hx fun g2 h1B sB=>aI ?_)
 have TOB:IsPair g2 TO v0 v1:=sB.extBut _ _ D.TOi1 (sA.extBut _ _ D.TOz hTO)
 refine ae (bY TOB rfl ?_)
 refine ae (gm TOB fun g3 TOC sC=>?_)
 replace TOC:IsPair g3 TO x v1:=TOC
 refine ae (fj (aI ?_))
 refine ae (ae (gv ?_))
 show wpAny _ _ (Builtin.SmallTypes.nextOf (.ref i2)>>=_) _ _ _
 refine ae (wV (b:=b) (h2.at' fun o e=>sC.extBut _ o D.TOi2.symm (sB.extBut _ o D.i12.symm (sA.extBut _ o D.i2z e))) (hl2.at' fun o e=>sC.extBut _ o D.l2TO (sB.extBut _ o D.l2i1 (sA.extBut _ o D.l2z e))) hy fun g4 h2D sD=>aI ?_)
 have TOD:IsPair g4 TO x v1:=sD.extBut _ _ D.TOi2 TOC
 refine ae (bY TOD rfl ?_)
 refine ae (gm TOD fun g5 TOE sE=>?_)
 replace TOE:IsPair g5 TO x y:=TOE
 refine ae (fj (aI (aI ?_)))
 refine ae (bY TOE rfl ?_)
 refine ae (wpAny_newTuple ?_)
 have hsz:g5.objs.size=s.heap.objs.size:=by rw[sE.1,sD.1,sC.1,sB.1,sA.1]
 have hzE:IsZip g5 z TI TO .ellipsis:=sE.extBut _ _ D.TOz.symm (sD.extBut _ _ D.i2z.symm (sC.extBut _ _ D.TOz.symm (sB.extBut _ _ D.i1z.symm hzA)))
 have hkE:∀c o,c≠z->c≠TO->c≠i1->c≠i2->s.heap.get? c=some o->g5.get? c=some o:=fun c o c1 c2 c3 c4 e=>sE.extBut _ _ c2 (sD.extBut _ _ c4 (sC.extBut _ _ c2 (sB.extBut _ _ c3 (sA.extBut _ _ c1 e))))
 have h1E:jcg b g5 i1 l1 (k1+1):=h1B.at' fun o e=>sE.extBut _ o D.TOi1.symm (sD.extBut _ o D.i12 (sC.extBut _ o D.TOi1.symm e))
 have h2E:jcg b g5 i2 l2 (k2+1):=h2D.at' fun o e=>sE.extBut _ o D.TOi2.symm e
 have zlt:z<g5.objs.size:=aL hzE
 show wpAny _ _ (Builtin.SmallTypes.ownedTupleHandOut (.ref z) (.ref g5.objs.size)>>=_) _ _ _
 refine ae ?_
 unfold Builtin.SmallTypes.ownedTupleHandOut
 have hzF:IsZip (g5.push {cls:=.type "tuple",data:=.seq #[x,y]}) z TI TO .ellipsis:=ag _ hzE
 refine ae (dw hzF (by simp) fun g7 hzG sG=>?_)
 replace hzG:IsZip g7 z TI TO (rawInt g5.objs.size):=hzG
 refine dw hzG (by simp) fun g8 hzI sI=>?_
 replace hzI:IsZip g8 z TI TO (rawInt g5.objs.size):=hzI
 have up:∀c o,c≠z->g5.get? c=some o->g8.get? c=some o:=fun c o c1 e=>sI.extBut _ _ c1 (sG.extBut _ _ c1 (ag _ e))
 have hTI8:IsPair g8 g5.objs.size x y:=sI.extBut _ _ (dD zlt) (sG.extBut _ _ (dD zlt) (aQ _ rfl))
 rw[hsz]at hzI hTI8
 refine aI ⟨_,rfl,?_⟩
 show Q (.ref g5.objs.size) _
 rw[hsz]
 exact hQ g8 hzI (up _ _ D.TOz TOE) (h1E.at' fun o e=>up _ o D.i1z e) (h2E.at' fun o e=>up _ o D.i2z e) hTI8 fun c o c1 c2 c3 c4 e=>up c o c1 (hkE c o c1 c2 c3 c4 e)
theorem IS{b:Bool}{z TI TO i1 i2 l1 l2:Addr}{k1 k2:Nat}{xs ys:Array Value}{v0 v1:Value}{Q:Fin->Shared->Prop}(hh:A.handled=none)(D:ZipApart z TI TO i1 i2 l1 l2)
  (hz:IsZip s.heap z TI TO .none) (hTI:IsPair s.heap TI (.ref i1) (.ref i2)) (hTO:IsPair s.heap TO v0 v1)
  (h1:jcg b s.heap i1 l1 k1) (h2:jcg b s.heap i2 l2 k2) (hl1:IsSq b s.heap l1 xs) (hl2:IsSq b s.heap l2 ys) (hend:xs[k1]? =none\/ys[k2]? =none)
  (hE:∀h' e,(∀c o,c≠z->c≠TO->c≠i1->c≠i2->s.heap.get? c=some o->h'.get? c=some o)->(∃o,h'.get? e=some o/\o.cls= .type "StopIteration")->E (.ref e) {s with heap:=h'}):
  wpAny (model prog w) A (Builtin.«zip.__next__» ⟨[.ref z],[]⟩) Q E s:=by
 show wpAny _ _ (field (.ref z) 2>>=_) _ _ _
 refine ae (cH hz rfl (x:=.bool false) rfl ?_)
 show wpAny _ _ (field (.ref z) 3>>=_) _ _ _
 refine ae (cH hz rfl (x:=.ref TI) rfl ?_)
 refine ae (bY hTI rfl ?_)
 show wpAny _ _ (Builtin.SmallTypes.ownedTupleIsFree (.ref z)>>=_) _ _ _
 refine ae ?_
 unfold Builtin.SmallTypes.ownedTupleIsFree
 refine ae (cH hz rfl (x:=.none) rfl (aI ?_))
 simp only[if_true]
 refine ae (fc ?_)
 refine ae (cH hz rfl (x:=.ref TO) rfl ?_)
 refine ae (dw hz (by simp) fun g1 hzA sA=>?_)
 replace hzA:IsZip g1 z TI TO .ellipsis:=hzA
 refine ae ?_
 simp only[List.zipIdx_cons,List.zipIdx_nil,g0,List.forIn_nil]
 refine ae (ae (gv ?_))
 show wpAny _ _ (Builtin.SmallTypes.nextOf (.ref i1)>>=_) _ _ _
 cases hx:xs[k1]? with
 |none=>
  refine ae (CF (b:=b) hh (h1.at' fun o e=>sA.extBut _ o D.i1z e) (hl1.at' fun o e=>sA.extBut _ o D.l1z e) hx fun g2 ex sB he=>?_)
  obtain⟨oe,hoe,hce⟩:=he
  have hzB:IsZip g2 z TI TO .ellipsis:=sB _ _ D.i1z.symm hzA
  have hez:ex≠z:=fun q=>by subst q;rw[hzB]at hoe;cases hoe;simp at hce
  refine dw hzB (by simp) fun g3 _ sC=>hE g3 ex (fun c o c1 _ c3 _ q=>sC.extBut _ _ c1 (sB _ _ c3 (sA.extBut _ _ c1 q))) ⟨oe,sC.extBut _ _ hez hoe,hce⟩
 |some x=>
  have hy:ys[k2]? =none:=by rcases hend with h|h;rw[hx]at h;cases h;exact h
  refine ae (wV (b:=b) (h1.at' fun o e=>sA.extBut _ o D.i1z e) (hl1.at' fun o e=>sA.extBut _ o D.l1z e) hx fun g2 h1B sB=>aI ?_)
  have TOB:IsPair g2 TO v0 v1:=sB.extBut _ _ D.TOi1 (sA.extBut _ _ D.TOz hTO)
  refine ae (bY TOB rfl ?_)
  refine ae (gm TOB fun g3 TOC sC=>?_)
  refine ae (fj (aI ?_))
  refine ae (ae (gv ?_))
  show wpAny _ _ (Builtin.SmallTypes.nextOf (.ref i2)>>=_) _ _ _
  refine ae (CF (b:=b) hh (h2.at' fun o e=>sC.extBut _ o D.TOi2.symm (sB.extBut _ o D.i12.symm (sA.extBut _ o D.i2z e))) (hl2.at' fun o e=>sC.extBut _ o D.l2TO (sB.extBut _ o D.l2i1 (sA.extBut _ o D.l2z e))) hy fun g4 ex sD he=>?_)
  obtain⟨oe,hoe,hce⟩:=he
  have hzD:IsZip g4 z TI TO .ellipsis:=sD _ _ D.i2z.symm (sC.extBut _ _ D.TOz.symm (sB.extBut _ _ D.i1z.symm hzA))
  have hez:ex≠z:=fun q=>by subst q;rw[hzD]at hoe;cases hoe;simp at hce
  refine dw hzD (by simp) fun g5 _ sE=>hE g5 ex (fun c o c1 c2 c3 c4 q=>sE.extBut _ _ c1 (sD _ _ c4 (sC.extBut _ _ c2 (sB.extBut _ _ c3 (sA.extBut _ _ c1 q))))) ⟨oe,sE.extBut _ _ hez hoe,hce⟩
end
noncomputable abbrev pP(b:Bool)(l:Addr):Obj:={cls:=.type (if b=true then "list_iterator" else "tuple_iterator"),data:=.fields #[.ref l,.int 0 0]}
noncomputable abbrev rj(b:Bool)(h:Heap)(l1 l2:Addr):Heap:=(h.push (pP b l1)).push (pP b l2)
noncomputable abbrev rh(b:Bool)(h:Heap)(l1 l2:Addr):Heap:=(rj b h l1 l2).push {cls:=.type "tuple",data:=.seq #[.ref h.objs.size,.ref (h.push (pP b l1)).objs.size]}
noncomputable abbrev rf(b:Bool)(h:Heap)(l1 l2:Addr):Heap:=(rh b h l1 l2).push {cls:=.type "tuple",data:=.seq #[.none,.none]}
noncomputable abbrev oS(b:Bool)(h:Heap)(l1 l2:Addr):Heap:=(rf b h l1 l2).push {cls:=.type "zip",data:=.fields #[.none,.bool false,.bool false,.ref (rj b h l1 l2).objs.size,.ref (rh b h l1 l2).objs.size]}
theorem Hm(l1 l2:Addr)(xs ys:Array Value):
  Meets (Builtin.«zip.__new__» ⟨[.type "zip",.ref l1,.ref l2],[]⟩) (fun _ R s=>s.heap.IsTuple l1 xs/\s.heap.IsTuple l2 ys/\R (.ok (.ret (.ref (rf false s.heap l1 l2).objs.size))) {s with heap:=oS false s.heap l1 l2}):=
 .of_wp fun prog w A R s h=>by
  obtain⟨hp,g,d,tk,os⟩:=s;obtain⟨hl1,hl2,h⟩:=h
  have hsub:=sub_zip
  have hL1:Heap.IsTuple (Shared.heap ⟨hp,g,d,tk,os⟩) l1 xs:=hl1
  have hL2:Heap.IsTuple (Shared.heap ⟨hp.push {cls:=.type "tuple_iterator",data:=.fields #[.ref l1,.int 0 0]},g,d,tk,os⟩) l2 ys:=Heap.IsTuple.push hl2 _
  wp_walk using gA hL1,gA hL2
  exact⟨_,rfl,h⟩
section
variable{prog:Program}{w:World}{A:Around}{E:Value->Shared->Prop}{s:Shared}
theorem EO{b:Bool}{l1 l2:Addr}{xs ys:Array Value}{Q:Value->Shared->Prop}(hl1:IsSq b s.heap l1 xs)(hl2:IsSq b s.heap l2 ys)
  (h:∀h',IsZip h' (s.heap.objs.size+4) (s.heap.objs.size+2) (s.heap.objs.size+3) .none->IsPair h' (s.heap.objs.size+2) (.ref s.heap.objs.size) (.ref (s.heap.objs.size+1))->
   IsPair h' (s.heap.objs.size+3) .none .none->jcg b h' s.heap.objs.size l1 0->jcg b h' (s.heap.objs.size+1) l2 0->(∀c o,s.heap.get? c=some o->h'.get? c=some o)->Q (.ref (s.heap.objs.size+4)) {s with heap:=h'}):
  wpAny (model prog w) A (call (.type "zip") [.ref l1,.ref l2]) Q E s:=by
 cases b with
 |true=>exact call_zip_2 (show s.heap.IsList l1 xs from hl1) (show s.heap.IsList l2 ys from hl2) fun h' a1 a2 a3 a4 a5 _ a7=>h h' a1 a2 a3 a4 a5 a7
 | false=>
  refine callType_new F.called_zip (by decide) (F.typeCall_zip_2 _ _) (F.newCall_zip_2 _ _) (fun obj=>F.args_object_init_3 obj _ _) F.entry_zip_new (Hm l1 l2 xs ys) ⟨hl1,hl2,?_⟩
  have q1:(s.heap.push (pP false l1)).objs.size=s.heap.objs.size+1:=dR ..
  have q2:(rj false s.heap l1 l2).objs.size=s.heap.objs.size+2:=by rw[dR,q1]
  have q3:(rh false s.heap l1 l2).objs.size=s.heap.objs.size+3:=by rw[dR,q2]
  have q4:(rf false s.heap l1 l2).objs.size=s.heap.objs.size+4:=by rw[dR,q3]
  have p5:(oS false s.heap l1 l2).get? (rf false s.heap l1 l2).objs.size=some _:=aQ _ rfl
  have p4:(oS false s.heap l1 l2).get? (rh false s.heap l1 l2).objs.size=some _:=ag _ (aQ _ rfl)
  have p3:(oS false s.heap l1 l2).get? (rj false s.heap l1 l2).objs.size=some _:=ag _ (ag _ (aQ _ rfl))
  have p2:(oS false s.heap l1 l2).get? (s.heap.push (pP false l1)).objs.size=some _:=ag _ (ag _ (ag _ (aQ _ rfl)))
  have p1:(oS false s.heap l1 l2).get? s.heap.objs.size=some _:=ag _ (ag _ (ag _ (ag _ (aQ _ rfl))))
  show _/\_
  rw[q2,q3,q4]at p5
  rw[q1,q2]at p3
  rw[q3]at p4
  rw[q1]at p2
  rw[q4]
  exact⟨⟨_,p5,rfl⟩,h _ p5 p3 p4 (show Heap.IsTupleIter _ _ _ _ from⟨_,p1,rfl,rfl⟩) (show Heap.IsTupleIter _ _ _ _ from⟨_,p2,rfl,rfl⟩) fun c o x=>
   ag _ (ag _ (ag _ (ag _ (ag _ x))))⟩
end
def j8(b:Bool)(K:PySem.W.Frag)(H:Hp)(a:Addr)(xs:List V):Prop:=if b=true then SqL K H a xs else SqT K H a xs
theorem Inv.sqB{X:Cx}{pins:List (Addr×Obj)}{σ:St}{H:Hp}{s:Shared}{b:Bool}{a:Addr}{xs:List V}(I:Inv X pins σ H s)(h:j8 b X.K H a xs):∃its:List Value,Vals xs its/\IsSq b s.heap a its.toArray/\xs.length<=sizeLine:=by
 cases b with
 |true=>
  obtain⟨its,r,p,z⟩:=I.list (show SqL X.K H a xs from h)
  exact⟨its,r,p.isList,z⟩
 |false=>
  obtain⟨its,r,p,z⟩:=I.tuple (show SqT X.K H a xs from h)
  exact⟨its,r,(show s.heap.IsTuple a its.toArray from p),z⟩
theorem Inv.sqB_inj{X:Cx}{pins:List (Addr×Obj)}{σ:St}{H:Hp}{s:Shared}{b:Bool}{a:Addr}{xs ys:List V}(I:Inv X pins σ H s)(h:j8 b X.K H a xs)(h':j8 b X.K H a ys):xs=ys:=by
 cases b with
 |true=>exact I.list_inj (show SqL X.K H a xs from h) (show SqL X.K H a ys from h')
 |false=>exact I.tuple_inj (show SqT X.K H a xs from h) (show SqT X.K H a ys from h')
def nD(b:Bool)(K:PySem.W.Frag)(a c:Addr):It:=
  ⟨fun i H=>∃xs ys x y,j8 b K H a xs/\j8 b K H c ys/\xs[i]? =some x/\ys[i]? =some y,
   fun i H v H'=>∃t x y,H t=none/\v= .ref t/\H'=upd H t (.tup [x,y])/\(∀xs,j8 b K H a xs->xs[i]? =some x)/\∀ys,j8 b K H c ys->ys[i]? =some y,
   fun i H=>∃xs ys,j8 b K H a xs/\j8 b K H c ys/\(xs.length<=i\/ys.length<=i)⟩
theorem lj{X:Cx}{pins:List (Addr×Obj)}{σ:St}{H:Hp}{s:Shared}{b:Bool}{a j:Addr}{xs:List V}(I:Inv X pins σ H s)(h:j8 b X.K H a xs)(f:lP X pins H j):a≠j:=by
 intro e
 subst e
 have key:∀{o},X.K.lookup a=some o->False:=fun{o} q=>by
  have q1:=I.mod.kin a o q
  rcases f.2.2.2.1 with z|z
  ·exact I.ok.noex a o q1 z
  ·exact absurd (bD (aL q1) (br I.ok.bsz z)) (cN _)
 cases b with
 |true=>
  rcases(show SqL X.K H a xs from h)with(h|⟨o,h⟩)|⟨o,its,n,hk,_⟩
  ·rw[f.1]at h;cases h
  ·rw[f.1]at h;cases h
  ·exact key hk
 |false=>
  rcases(show SqT X.K H a xs from h)with(h|⟨o,h⟩)|⟨o,its,n,hk,_⟩
  ·rw[f.1]at h;cases h
  ·rw[f.1]at h;cases h
  ·exact key hk
structure ZpA(z TI TO i1 i2:Addr):Prop where
 TIz:TI≠z
 TOz:TO≠z
 i1z:i1≠z
 i2z:i2≠z
 TITO:TI≠TO
 TIi1:TI≠i1
 TIi2:TI≠i2
 TOi1:TO≠i1
 TOi2:TO≠i2
 i12:i1≠i2
theorem Gq{P:Program}{w:World}{K:PySem.W.Frag}{elts:List Expr}{x1:Nat}{pos:Pos}(b:Bool)(a c z TI TO i1 i2:Addr)(D0:ZpA z TI TO i1 i2):
  Turn P w K (.Tuple elts x1 pos) (nD b K a c) [z,TI,TO,i1,i2] z (fun i h=>IsZip h z TI TO .none/\IsPair h TI (.ref i1) (.ref i2)/\(∃u v,IsPair h TO u v)/\jcg b h i1 a i/\jcg b h i2 c i)where
 mem:=by simp
 obj:=fun i h st d hd=>by
  obtain⟨hz,hTI,⟨u,v,hTO⟩,h1,h2⟩:=st
  have q:d=z\/d=TI\/d=TO\/d=i1\/d=i2:=by simpa using hd
  rcases q with rfl|rfl|rfl|rfl|rfl
  ·exact⟨_,hz,fun v z=>by
    have z':Data.fields _=Data.cell v:=z
    cases z'⟩
  ·exact⟨_,hTI,fun v z=>by
    have z':Data.seq _ _=Data.cell v:=z
    cases z'⟩
  ·exact⟨_,hTO,fun v z=>by
    have z':Data.seq _ _=Data.cell v:=z
    cases z'⟩
  ·exact h1.obj
  ·exact h2.obj
 keep:=fun i h h' st k=>by
  obtain⟨hz,hTI,⟨u,v,hTO⟩,h1,h2⟩:=st
  exact⟨k z (by simp) _ hz,k TI (by simp) _ hTI,⟨u,v,k TO (by simp) _ hTO⟩,h1.at' fun o e=>k i1 (by simp) o e,h2.at' fun o e=>k i2 (by simp) o e⟩
 item:=by
  intro X hP hw hK hc i pins s σ H E I hf st hg
  subst hP hw hK
  obtain⟨hz,hTI,⟨u0,v0,hTO⟩,h1,h2⟩:=st
  obtain⟨xs,ys,x,y,hq1,hq2,hx,hy⟩:=hg
  obtain⟨its1,rv1,p1,hz1⟩:=I.sqB hq1
  obtain⟨its2,rv2,p2,hz2⟩:=I.sqB hq2
  obtain⟨u1,hu1,ru1⟩:=rv1.get hx
  obtain⟨u2,hu2,ru2⟩:=rv2.get hy
  have D:ZipApart z TI TO i1 i2 a c:=⟨D0.TIz,D0.TOz,D0.i1z,D0.i2z,D0.TITO,D0.TIi1,D0.TIi2,D0.TOi1,D0.TOi2,D0.i12,
   lj I hq1 (hf z (by simp)),lj I hq1 (hf TO (by simp)),lj I hq1 (hf i1 (by simp)),lj I hq1 (hf i2 (by simp)),lj I hq2 (hf z (by simp)),lj I hq2 (hf TO (by simp)),lj I hq2 (hf i1 (by simp)),lj I hq2 (hf i2 (by simp))⟩
  have zlt:z<s.heap.objs.size:=aL hz
  have hT:s.TypeIs (.ref z) "zip":=⟨_,hz,rfl⟩
  unfold pyNext
  refine ae (wpAny_attempt (dq (name:=Str.ofString "__next__") hT fX (dX fX hT F.entry_zip_next
   (Jd (b:=b) D hz hTI hTO h1 h2 p1 p2 (x:=u1) (y:=u2) (by simpa using hu1) (by simpa using hu2) fun h' a1 a2 a3 a4 a5 a7=>aI ?_) (F.args_zip_next_1 _))))
  refine⟨_,rfl,wpAny_letOwnedTupleGo_zip a1 fun g hz' hs'=>?_⟩
  replace hs':Heap.SameBut z h' g:=hs'
  have kk:∀d ob,d∉[z,TI,TO,i1,i2]->s.heap.get? d=some ob->g.get? d=some ob:=fun d ob hd q=>by
   have hd':d≠z/\d≠TI/\d≠TO/\d≠i1/\d≠i2:=by simpa using hd
   exact hs'.extBut _ _ hd'.1 (a7 d ob hd'.1 hd'.2.2.1 hd'.2.2.2.1 hd'.2.2.2.2 q)
  have hT2:g.get? s.heap.objs.size=some {cls:=.type "tuple",data:=.seq #[u1,u2]}:=hs'.extBut _ _ (dD zlt) a5
  refine⟨.ref s.heap.objs.size,upd H s.heap.objs.size (.tup [x,y]),I.turnedNew (ch:=[z,TI,TO,i1,i2]) (t':=s.toks) (aF _) kk hf ?_,rfl,
   ⟨_,x,y,I.fresh,rfl,rfl,fun zs hq=>by rw[I.sqB_inj hq hq1];exact hx,fun zs hq=>by rw[I.sqB_inj hq hq2];exact hy⟩,
   ⟨hz',hs'.extBut _ _ D.TIz (a7 _ _ D.TIz D.TITO D.TIi1 D.TIi2 hTI),⟨_,_,hs'.extBut _ _ D.TOz a2⟩,a3.at' fun o e=>hs'.extBut _ _ D.i1z e,a4.at' fun o e=>hs'.extBut _ _ D.i2z e⟩,fun d hd=>?_⟩
  ·exact⟨by show 2<=sizeLine;decide,[u1,u2],.cons ru1 (.cons ru2 .nil),⟨_,hT2,rfl,_,rfl⟩⟩
  ·have dlt:d<s.heap.objs.size:=by
    have q:d=z\/d=TI\/d=TO\/d=i1\/d=i2:=by simpa using hd
    rcases q with rfl|rfl|rfl|rfl|rfl
    ·exact zlt
    ·exact aL hTI
    ·exact aL hTO
    ·obtain⟨o,e,_⟩:=h1.obj;exact aL e
    ·obtain⟨o,e,_⟩:=h2.obj;exact aL e
   rw[ix (bj dlt)]
   exact(hf d hd).1
 done:=by
  intro X hP hw hK hc i pins s σ H E I hf st hg
  subst hP hw hK
  obtain⟨hz,hTI,⟨u0,v0,hTO⟩,h1,h2⟩:=st
  obtain⟨xs,ys,hq1,hq2,hlen⟩:=hg
  obtain⟨its1,rv1,p1,hz1⟩:=I.sqB hq1
  obtain⟨its2,rv2,p2,hz2⟩:=I.sqB hq2
  have e1:=rv1.length
  have e2:=rv2.length
  have D:ZipApart z TI TO i1 i2 a c:=⟨D0.TIz,D0.TOz,D0.i1z,D0.i2z,D0.TITO,D0.TIi1,D0.TIi2,D0.TOi1,D0.TOi2,D0.i12,
   lj I hq1 (hf z (by simp)),lj I hq1 (hf TO (by simp)),lj I hq1 (hf i1 (by simp)),lj I hq1 (hf i2 (by simp)),lj I hq2 (hf z (by simp)),lj I hq2 (hf TO (by simp)),lj I hq2 (hf i1 (by simp)),lj I hq2 (hf i2 (by simp))⟩
  have hT:s.TypeIs (.ref z) "zip":=⟨_,hz,rfl⟩
  unfold pyNext
  refine ae (wpAny_attempt (dq (name:=Str.ofString "__next__") hT fX (dX fX hT F.entry_zip_next
   (IS (b:=b) (I.ok.hd hc) D hz hTI hTO h1 h2 p1 p2 (by rcases hlen with h|h;exact .inl (by simp;lia);exact .inr (by simp;lia)) fun h' e hk he=>?_) (F.args_zip_next_1 _))))
  obtain⟨o,ho,hcl⟩:=he
  refine ae (gO (T:="StopIteration") (b:=true) ⟨o,ho,hcl⟩ isSubtype_stop ?_)
  exact aI ⟨rfl,I.turnedAll (ch:=[z,TI,TO,i1,i2]) (t':=s.toks) (fun d ob hd q=>by
   have hd':d≠z/\d≠TI/\d≠TO/\d≠i1/\d≠i2:=by simpa using hd
   exact hk d ob hd'.1 hd'.2.2.1 hd'.2.2.2.1 hd'.2.2.2.2 q) hf⟩
 self:=fun _ _ _ _ _ st h=>wpAny_pyIter_zip st.1 h
theorem IT{X:Cx}{b:Bool}{elts:List Expr}{x1:Nat}{tpos:Pos}{pins:List (Addr×Obj)}{σ:St}{H1:Hp}{s1:Shared}{R:It->Hp->Prop}{a c:Addr}{xs ys:List V}(I1:Inv X pins σ H1 s1)(hq1:j8 b X.K H1 a xs)(hq2:j8 b X.K H1 c ys)(q:R (nD b X.K a c) H1):
  wpAny (model X.prog X.w) X.A (call (.type "zip") [.ref a,.ref c]) (fun v s2=>wpAny (model X.prog X.w) X.A (pyIter v) (xO X pins σ (.Tuple elts x1 tpos) R) X.xe s2) X.xe s1:=by
 obtain⟨its1,rv1,p1,hz1⟩:=I1.sqB hq1
 obtain⟨its2,rv2,p2,hz2⟩:=I1.sqB hq2
 refine EO p1 p2 fun h' a1 a2 a3 a4 a5 hk=>?_
 refine wpAny_pyIter_zip a1 ?_
 have I2:Inv X pins σ H1 {s1 with heap:=h'}:=I1.kept (t':=s1.toks) fun b o q=>hk b o q
 have ne:∀i j:Nat,i≠j->s1.heap.objs.size+i≠s1.heap.objs.size+j:=fun i j h e=>h (Nat.add_left_cancel e)
 refine⟨_,[s1.heap.objs.size+4,s1.heap.objs.size+2,s1.heap.objs.size+3,s1.heap.objs.size,s1.heap.objs.size+1],_,_,H1,rfl,I2,Gq b a c _ _ _ _ _ ⟨ne 2 4 (by decide),ne 3 4 (by decide),ne 0 4 (by decide),ne 1 4 (by decide),ne 2 3 (by decide),ne 2 0 (by decide),ne 2 1 (by decide),ne 3 0 (by decide),ne 3 1 (by decide),ne 0 1 (by decide)⟩,
  ⟨a1,a2,⟨_,_,a3⟩,a4,a5⟩,fun d hd=>?_,q⟩
 have hd':d=s1.heap.objs.size+4\/d=s1.heap.objs.size+2\/d=s1.heap.objs.size+3\/d=s1.heap.objs.size\/d=s1.heap.objs.size+1:=by simpa using hd
 have hle:s1.heap.objs.size<=d:=by
  rcases hd' with e|e|e|e|e<;>rw[e]
  ·exact fM _ _
  ·exact fM _ _
  ·exact fM _ _
  ·exact aF _
  ·exact fM _ _
 exact I1.fpOk hle (I1.hok.fresh hle)
def rP(K:PySem.W.Frag)(ta:TA):TI:=fun σ H R=>ta σ H fun vs H1=>∃(b:Bool) (a c:Addr),vs=[.ref a,.ref c]/\(∃xs,j8 b K H1 a xs)/\(∃ys,j8 b K H1 c ys)/\R (nD b K a c) H1
theorem vQ{X:Cx}{elts:List Expr}{x1:Nat}{tpos:Pos}{a c:Expr}{ta:TA}{p pos:Pos}(hg:Gl X "zip")(hm:X.mg "zip"=none)(ha:PA X [a,c] ta)(hs:starEach [a,c] X.env=[(false,eval a X.env),(false,eval c X.env)]:=by rfl)(hs2:starEach [c] X.env=[(false,eval c X.env)]:=by rfl):
  PI X (.Tuple elts x1 tpos) (.Call (.Name "zip" p) [a,c] [] pos) (rP X.K ta):=by
 intro pins s σ H R I h
 refine Call_ (nc I hg hm boot_zip (cL (iy (ha pos pins s σ H _ I h) fun us s1 ⟨vs,H1,I1,r1,q1⟩=>?_) (by rw[hs,hs2]) (by rw[hs2];rfl)))
 obtain⟨b,a,c,e,⟨xs,hq1⟩,⟨ys,hq2⟩,q⟩:=q1
 subst e
 cases r1 with
 | cons r rr=>
  cases rr with
  |cons r' rr=>
   cases rr
   cases r
   cases r'
   exact IT I1 hq1 hq2 q
theorem IV:typeLookup (.type "list") "keys"=pure none:=by rw[typeLookup_type,builtinLookup_eq_fast];kernel_rfl
theorem Jy:typeLookup (.type "list") "__getattr__"=pure none:=by rw[typeLookup_type,builtinLookup_eq_fast];kernel_rfl
theorem wF:isSubtype (.type "AttributeError") (.type "AttributeError")=pure true:=by rw[isSubtype_type];kernel_rfl
section
variable{prog:Program}{w:World}{A:Around}{E:Value->Shared->Prop}{h:Heap}{g:Array GenState}{d:Drawn}{t:Nat}{os:OsState}{a:Addr}{o:Obj}
theorem Io{α:Type}{Q:α->Shared->Prop}{u:Value}{x msg:Str}(hh:A.handled=none)(hm:msg.length<=sizeLine)
  (hE:∀h' e tk,(∀b o,h.get? b=some o->h'.get? b=some o)->(∃o,h'.get? e=some o/\o.cls= .type "AttributeError")->E (.ref e) ⟨h',g,d,tk,os⟩):
  wpAny (model prog w) A (raiseAttrError u x msg:Sem α) Q E ⟨h,g,d,t,os⟩:=by
 unfold raiseAttrError
 refine ae (wpAny_mkStr ?_ hm)
 simp only[newExc,newTuple]
 refine ae (ae (cO ?_ (by size_fits)))
 refine ae (m:=firstArgMember _ _) (fG (a:=Value.none) (by first|rfl|(simp only[firstArgMember];rfl)) ?_)
 refine cO ?_ (by size_fits)
 refine ae (wpAny_mkText ?_)
 dsimp only
 refine ae ?_
 unfold noteAttr
 generalize hh1:h.push {cls:=.type "tuple",data:=.seq #[.str msg t]}=h1
 have k1:∀ b o,h.get? b = some o->h1.get? b = some o:=fun b o q=>by rw [<- hh1]; exact ag _ q
 have hg:(h1.push {cls:=.type "AttributeError",data:=.fields #[.ref h.objs.size,.none,.none,.none,.bool false,.none,unsetMember,unsetMember]}).get? h1.objs.size=some _:=aQ _ rfl
 have k2:∀b o,h.get? b=some o->(h1.push {cls:=.type "AttributeError",data:=.fields #[.ref h.objs.size,.none,.none,.none,.bool false,.none,unsetMember,unsetMember]}).get? b=some o:=fun b o q=>ag _ (k1 b o q)
 have nb:∀b o,h.get? b=some o->b≠h1.objs.size:=fun b o q=>bj (aL (k1 b o q))
 show wpAny _ _ (lacksNameAndObj (.ref h1.objs.size)>>=_) _ _ ⟨h1.push {cls:=.type "AttributeError",data:=.fields #[.ref h.objs.size,.none,.none,.none,.bool false,.none,unsetMember,unsetMember]},g,d,t+1+1,os⟩
 generalize hh2:h1.push {cls:=.type "AttributeError",data:=.fields #[.ref h.objs.size,.none,.none,.none,.bool false,.none,unsetMember,unsetMember]}=h2 at hg k2
 generalize h1.objs.size=e at hg nb
 clear hh2 k1 hh1
 have hT:(⟨h2,g,d,t+1+1,os⟩:Shared).TypeIs (.ref e) "AttributeError":=⟨_,hg,rfl⟩
 refine ae ?_
 unfold lacksNameAndObj
 refine ae (gO hT wF ?_)
 simp only[bN,aM,if_false]
 refine ae (wpAny_load hg ?_)
 show wpAny _ _ (pure true) _ _ _
 refine aI ?_
 simp only[if_true]
 refine ae (fc (ae (eK hT ?_)))
 show wpAny _ _ (layMembers e 6 #[_,u]) _ _ _
 unfold layMembers
 refine ae (wpAny_load hg ?_)
 show wpAny _ _ (update e _) _ _ _
 refine wpAny_update hg ?_
 refine wpAny_raiseNew_none hh (hE _ _ _ (fun b o q=>?_) ⟨_,c7 _ hg rfl,rfl⟩)
 exact(bR _ _ (nb b o q).symm).trans (k2 b o q)
theorem IW{tk:Tok}{Q:PySem.Fin->Shared->Prop}{its:Array Value}{n:Nat}(hx:h.get? a=some {cls:=.type "list",dict:=none,data:=.seq its n,slots:=#[]})(hh:A.handled=none)
  (hE:∀h' e tk,(∀b o,h.get? b=some o->h'.get? b=some o)->(∃o,h'.get? e=some o/\o.cls= .type "AttributeError")->E (.ref e) ⟨h',g,d,tk,os⟩):
  wpAny (model prog w) A (Builtin.«object.__getattribute__» ⟨[.ref a,.str "keys" tk],[]⟩) Q E ⟨h,g,d,t,os⟩:=by
 have hT:(⟨h,g,d,t,os⟩:Shared).TypeIs (.ref a) "list":=⟨_,hx,rfl⟩
 have f4:=IV
 repeat(any_goals (first|assumption|wp_step))
 refine Io hh (by decide+kernel) hE
theorem GU{tk:Tok}{Q:Value->Shared->Prop}{its:Array Value}{n:Nat}(hx:h.get? a=some {cls:=.type "list",dict:=none,data:=.seq its n,slots:=#[]})(hh:A.handled=none)
  (hE:∀h' e tk,(∀b o,h.get? b=some o->h'.get? b=some o)->(∃o,h'.get? e=some o/\o.cls= .type "AttributeError")->E (.ref e) ⟨h',g,d,tk,os⟩):
  wpAny (model prog w) A (getAttrBy (.ref a) (.str "keys" tk) false) Q E ⟨h,g,d,t,os⟩:=by
 have hT:(⟨h,g,d,t,os⟩:Shared).TypeIs (.ref a) "list":=⟨_,hx,rfl⟩
 have f2:=eF.lookup
 have f3:=eF.bind (.ref a)
 repeat(any_goals (first|assumption|wp_step))
 refine codeAny_call_builtin eF.plain F.entry_list_ga (eF.check _ _ _ _ _ _ _ _ (show(⟨h,g,d,t,os⟩:Shared).TypeIs (.ref a) "list" from⟨_,hx,rfl⟩) (F.args_list_getattribute_2 _ _) (IW hx ?_ ?_))
 ·exact hh
 ·intro h' e tk k q
  obtain⟨oe,he,hc⟩:=q
  have hT2:(⟨h',g,d,tk,os⟩:Shared).TypeIs (.ref e) "AttributeError":=⟨_,he,hc⟩
  have f5:=wF
  have f6:=Jy
  show wpAny _ A (getattributeRaised (Value.ref a) _ (Value.type "list") (.ref e) none false false) _ _ _
  have done:=hE h' e tk k ⟨oe,he,hc⟩
  unfold getattributeRaised
  repeat(any_goals (first|assumption|wp_step))
theorem yU{Q:Option Value->Shared->Prop}{its:Array Value}{n:Nat}(hx:h.get? a=some {cls:=.type "list",dict:=none,data:=.seq its n,slots:=#[]})(hh:A.handled=none)
  (hq:∀h' tk,(∀b o,h.get? b=some o->h'.get? b=some o)->Q none ⟨h',g,d,tk,os⟩):wpAny (model prog w) A (getAttr? (.ref a) "keys") Q E ⟨h,g,d,t,os⟩:=by
 unfold getAttr? getAttrBy?
 refine ae (wpAny_mkText (ae (wpAny_attempt (GU hx hh fun h' e tk k q=>?_))))
 obtain⟨oe,he,hc⟩:=q
 refine ae (gO (T:="AttributeError") (b:=true) ⟨_,he,hc⟩ wF ?_)
 exact aI (hq h' tk k)
end
theorem uv:entryFor table "dict.update.loop"=some Builtin.«dict.update.loop»:=entryFor_of_fast (by kernel_rfl)
theorem nZ:plainId "dict.update.loop"=true:=by decide+kernel
theorem Iq{K:Type}[DecidableEq K](kvs:List (K×Value))(k:K)(v:Value):(stored kvs k v).length<=kvs.length+1:=by
 unfold stored
 split
 ·rw[aa];lia
 ·rw[aK];exact aF _
section
variable{prog:Program}{w:World}{A:Around}{E:Value->Shared->Prop}{K:Type}[DecidableEq K]{knd:KeyKind prog w K}{R:Result->Shared->Prop}
theorem GC{d it l:Addr}{its:Array Value}{more:List (K×Value)}(hh:A.handled=none)(hlen:more.length=its.size)(hsz:its.size<=1000)(hdl:l≠d)(hdi:it≠d)(hil:l≠it):
  ∀(k i:Nat) (tk0:Tok) (s:Shared) (kvs:List (K×Value)),its.size-i=k->i<=its.size->kvs.length<=i->s.heap.IsListIter it l i->s.heap.IsList l its->s.heap.DictOf knd d kvs->
   (∀(j:Nat) (q:K×Value),more[j]? =some q->∃t kv,its[j]? =some (.ref t)/\s.heap.IsTuple t #[kv,q.2]/\knd.is q.1 kv=true)->
   (∀h' tk,h'.DictOf knd d (merged kvs (more.drop i))->(∀b o,b≠d->b≠it->s.heap.get? b=some o->h'.get? b=some o)->R (.ok (.ret .none)) {s with heap:=h',toks:=tk})->
   codeAny (model prog w) A (.builtin "dict.update.loop" ⟨[.ref d,.ref it,.int i tk0,.none],[]⟩) R s:=by
 intro k
 induction k with
 |zero=>
  intro i tk0 s kvs hk hi hkl hit hl hd hp hR
  have e:i=its.size:=by lia
  subst e
  refine de uv ?_
  rw[cK nZ _]
  show wpAny _ A.in1 (pyNext (.ref it)>>=_) _ _ s
  refine ae (fY hh hit hl (by simp) fun h' eb=>?_)
  show wpAny _ A.in1 (Builtin.Dict.addKeywords d []>>=_) _ _ _
  refine ae (aI (aI ?_))
  refine hR h' s.toks ?_ fun b o _ hb q=>eb b o hb q
  rw[dE (by lia)]
  exact hd.extBut eb hdi.symm
 | succ k ih=>
  intro i tk0 s kvs hk hi hkl hit hl hd hp hR
  have hlt:i<its.size:=by lia
  have hlm:i<more.length:=by lia
  obtain⟨t,kv,hu,ht,hkey⟩:=hp i more[i] (by simp[hlm])
  refine de uv ?_
  rw[cK nZ _]
  show wpAny _ A.in1 (pyNext (.ref it)>>=_) _ _ s
  refine ae (fO hit hl hu fun h1 hit1 sb1=>?_)
  have nti:t≠it:=fun z=>by
   subst z
   obtain⟨o,e1,c1,_⟩:=ht
   obtain⟨o',e2,c2,_⟩:=hit
   rw[e1]at e2;cases e2;rw[c1]at c2;exact absurd c2 (by decide)
  have ntd:t≠d:=fun z=>by
   subst z
   obtain⟨o,e1,c1,_⟩:=ht
   obtain⟨o',_,_,e2,c2,_⟩:=hd
   rw[e1]at e2;cases e2;rw[c2.1]at c1;exact absurd c1 (by decide)
  have ht1:h1.IsTuple t #[kv,more[i].2]:=ht.extBut sb1.extBut nti
  have hd1:h1.DictOf knd d kvs:=hd.extBut sb1.extBut hdi.symm
  show wpAny _ A.in1 (holding [.ref t] _>>=_) _ _ _
  refine ae (cM ?_)
  refine ae (m:=(Builtin.Dict.pairItems (.ref t)).tryCatch _) ?_
  refine dk ?_
  unfold Builtin.Dict.pairItems
  refine ae (eK ht1.typeIs ?_)
  obtain⟨ot,e1,c1,n1,d1⟩:=id ht1
  rw[aH (by decide)]
  refine ae (bY e1 d1 ?_)
  refine aI ?_
  show wpAny _ A.in1 (holding [kv,more[i].2] (dictSet d kv more[i].2)) _ _ _
  refine cM (wpAny_dictSet_pairs hkey hd1 (fun h2 hd2 sb2=>?_) (by have:=(by decide:1000<=sizeLine);lia))
  replace sb2:Heap.SameBut d h1 h2:=sb2
  have kk:∀b o,b≠d->b≠it->s.heap.get? b=some o->h2.get? b=some o:=fun b o b1 b2 q=>sb2.extBut b o b1 (sb1.extBut b o b2 q)
  refine aI ⟨cZ nZ _,?_⟩
  have hik:((i:Int)+1)=((i+1:Nat):Int):=by lia
  show codeAny _ _ (.builtin "dict.update.loop" ⟨[.ref d,.ref it,rawInt ((i:Int)+1),.none],[]⟩) _ _
  rw[hik]
  refine ih (i+1) 0 _ (stored kvs more[i].1 more[i].2) (by lia) (by lia) ?_ (hit1.extBut sb2.extBut hdi) ((hl.extBut sb1.extBut hil).extBut sb2.extBut hdl) hd2 ?_ ?_
  ·have:=Iq kvs more[i].1 more[i].2
   lia
  ·intro j q hq
   obtain⟨t',kv',a1,a2,a3⟩:=hp j q hq
   have n1:t'≠it:=fun z=>by
    subst z
    obtain⟨o,e1,c1,_⟩:=a2
    obtain⟨o',e2,c2,_⟩:=hit
    rw[e1]at e2;cases e2;rw[c1]at c2;exact absurd c2 (by decide)
   have n2:t'≠d:=fun z=>by
    subst z
    obtain⟨o,e1,c1,_⟩:=a2
    obtain⟨o',_,_,e2,c2,_⟩:=hd
    rw[e1]at e2;cases e2;rw[c2.1]at c1;exact absurd c1 (by decide)
   exact⟨t',kv',a1,(a2.extBut sb1.extBut n1).extBut sb2.extBut n2,a3⟩
  ·intro h' tk hd' k'
   refine hR h' tk ?_ fun b o b1 b2 q=>k' b o b1 b2 (kk b o b1 b2 q)
   rw[fE hlm]
   exact hd'
theorem Jp{l:Addr}{its:Array Value}{c:Nat}{more:List (K×Value)}{s:Shared}{Q:Value->Shared->Prop}(hh:A.handled=none)(hl:s.heap.get? l=some {cls:=.type "list",dict:=none,data:=.seq its c,slots:=#[]})(hlen:more.length=its.size)(hsz:its.size<=1000)
  (hp:∀(j:Nat) (q:K×Value),more[j]? =some q->∃t kv,its[j]? =some (.ref t)/\s.heap.IsTuple t #[kv,q.2]/\knd.is q.1 kv=true)
  (h:∀h' tk,h'.DictOf knd s.heap.objs.size (merged [] more)->(∀b o,s.heap.get? b=some o->h'.get? b=some o)->Q (.ref s.heap.objs.size) {s with heap:=h',toks:=tk}):
  wpAny (model prog w) A (call (.type "dict") [.ref l]) Q E s:=by
 refine callType_codes (Q₁:=fun obj s₁=>obj= .ref s.heap.objs.size/\s₁={s with heap:=s.heap.push {cls:=.type "dict",data:=.dict #[]}}) F.kt_called_dict (F.kt_typeCall_dict_1 _) F.entry_dict_init (kt_code_dict_new _ ⟨rfl,rfl⟩) ?_
 rintro obj s₁ ⟨rfl,rfl⟩
 have hnew:(s.heap.push {cls:=.type "dict",data:=.dict #[]}).DictOf knd s.heap.objs.size []:=Heap.DictOf.new s.heap
 have hl1:(s.heap.push {cls:=.type "dict",data:=.dict #[]}).get? l=some {cls:=.type "list",dict:=none,data:=.seq its c,slots:=#[]}:=ag _ hl
 have k1:∀b o,s.heap.get? b=some o->(s.heap.push {cls:=.type "dict",data:=.dict #[]}).get? b=some o:=fun b o q=>ag _ q
 have llt:l<s.heap.objs.size:=aL hl
 generalize s.heap.push {cls:=.type "dict",data:=.dict #[]}=h1 at hnew hl1 k1
 refine⟨hnew.typeIs,F.args_dict_init_2 _ _,?_⟩
 unfold Builtin.«dict.__init__»
 refine ae ?_
 unfold Builtin.Dict.selfAndRest
 refine ae (wpAny_notOrdered_dict hnew.typeIs ?_)
 show wpAny _ _ (pure (s.heap.objs.size,[Value.ref l])) _ _ _
 refine aI ?_
 show wpAny _ _ (Builtin.Dict.updateFrom "dict.__init__" s.heap.objs.size (.ref l) [] .none) _ _ _
 unfold Builtin.Dict.updateFrom
 refine ae (eK (T:="list") ⟨_,hl1,rfl⟩ ?_)
 rw[aH (by decide)]
 refine ae (yU hl1 hh fun h2 tk2 k2=>?_)
 have hl2:=k2 _ _ hl1
 have hd2:h2.DictOf knd s.heap.objs.size []:=let⟨o,es,ep,ho,r⟩:=hnew;⟨o,es,ep,k2 _ _ ho,r⟩
 have dlt:s.heap.objs.size<h2.objs.size:=by obtain⟨_,_,_,ho,_⟩:=hd2;exact aL ho
 simp only[Option.isNone_none,if_true]
 refine ae (fc ?_)
 have hL:Heap.IsList h2 l its:=⟨_,hl2,rfl,_,rfl⟩
 refine ae (dM (s:={s with heap:=h2,toks:=tk2}) hL ?_)
 refine aI ⟨cZ nZ _,?_⟩
 have hit:(h2.push {cls:=.type "list_iterator",data:=.fields #[.ref l,.int 0 0]}).IsListIter h2.objs.size l 0:=⟨_,aQ _ rfl,rfl,rfl⟩
 refine GC (A:=A.in1) (knd:=knd) (more:=more) hh hlen hsz (bj llt) (dD dlt) (bj (Nat.lt_trans llt dlt)) its.size 0 0 {s with heap:=h2.push {cls:=.type "list_iterator",data:=.fields #[.ref l,.int 0 0]},toks:=tk2} [] rfl (bM _) (aF _) hit (hL.push _) (hd2.push _) ?_ ?_
 ·intro j q hq
  obtain⟨t,kv,a1,a2,a3⟩:=hp j q hq
  obtain⟨o,e,r⟩:=a2
  exact⟨t,kv,a1,⟨o,ag _ (k2 _ _ (k1 _ _ e)),r⟩,a3⟩
 ·intro h' tk hd' k'
  rw[fw]at hd'
  refine⟨rfl,h h' tk hd' fun b o q=>k' b o (bj (aL q)) (bj (aL (k2 _ _ (k1 _ _ q)))) (ag _ (k2 _ _ (k1 _ _ q)))⟩
end
def PairAt(H:Hp)(v:V)(p:ij×V):Prop:=∃t,v= .ref t/\H t=some (.tup [kV p.1,p.2])
def DZ(K:PySem.W.Frag):List V->Hp->VK->Prop:=fun vs H Q=>∃l xs kvs,vs=[.ref l]/\H l=some (.lst xs)/\Paired (PairAt H) xs kvs/\xs.length<=1000/\(kvs.map (·.1)).Nodup/\∀d,H d=none->Q (.ref d) (upd H d (.dK kvs))
theorem BX{X:Cx}{pins:List (Addr×Obj)}{σ:St}{H:Hp}{s:Shared}(I:Inv X pins σ H s):∀{xs:List V} {kvs:List (ij×V)} {its:List Value},Paired (PairAt H) xs kvs->Vals xs its->
  ∃more:List (ij×Value),KV kvs more/\∀(j:Nat) (q:ij×Value),more[j]? =some q->∃t kv,its[j]? =some (.ref t)/\s.heap.IsTuple t #[kv,q.2]/\(jY X.prog X.w).is q.1 kv=true
 |_,_,_,.nil,.nil=>⟨[],.nil,fun j q h=>by simp at h⟩
 | _,_,_,.cons hp tp,.cons rv tr=>by
  obtain⟨more,hk,hm⟩:=BX I tp tr
  obtain⟨t,rfl,ht⟩:=hp
  cases rv
  obtain⟨_,its',rt,hi⟩:=I.hok t _ ht
  obtain⟨u1,u2,rfl,r1,r2⟩:=rt.two
  refine⟨(_,u2)::more,.cons ⟨rfl,r2⟩ hk,fun j q h=>?_⟩
  cases j with
  |zero=>
   simp at h
   subst h
   exact⟨t,u1,rfl,hi,mZ r1⟩
  |succ j=>
   obtain⟨t',kv,a1,a2,a3⟩:=hm j q (by simpa using h)
   exact⟨t',kv,by simpa using a1,a2,a3⟩
theorem Hq{X:Cx}(hc:X.calm=true):jct X (.type "dict") (DZ X.K):=by
 intro pins s σ H vs us Q I rv h
 obtain⟨l,xs,kvs,rfl,hl,hp,hz,hn,q⟩:=h
 obtain⟨u,rfl,ru⟩:=rv.one
 cases ru
 obtain⟨z,its,n,r,hlen,e⟩:=I.lstM hl
 obtain⟨more,hkv,hm⟩:=BX I hp r
 have hlm:kvs.length=more.length:=ao hkv
 have hlx:xs.length=kvs.length:=ao hp
 refine Jp (knd:=jY X.prog X.w) (more:=more) (I.ok.hd hc) e (by rw[aC];lia) (by rw[aC];lia) (fun j q hj=>?_) fun h' tk dd k=>?_
 ·obtain⟨t,kv,a1,a2,a3⟩:=hm j q hj
  exact⟨t,kv,by simpa using a1,a2,a3⟩
 ·refine⟨.ref s.heap.objs.size,upd H s.heap.objs.size (.dK kvs),I.laid k (aF _) ?_,rfl,q _ I.fresh⟩
  rw [merged_nil_of_nodup more (by rw [<- hkv.keys]; exact hn)] at dd
  exact vc (by have:=(by decide:1000<=sizeLine);lia) (by have:=I.big;exact gW (dD this)) hkv dd
def yY(f:List Bool->Bool):List V->Hp->VK->Prop:=fun vs H Q=>∃l bs,vs=[.ref l]/\H l=some (.lst (bs.map V.bl))/\Q (.bl (f bs)) H
theorem Gu{bs:List Bool}{tr:Nat->Bool}(h:∀i b,bs[i]? =some b->tr i=b):(List.range bs.length).all tr=bs.all id:=by
 rw[bP,cV,cV]
 constructor
 ·intro q b hb
  obtain⟨i,hi,e⟩:=bq.mp hb
  have:=q i (bI.mpr hi)
  rw[h i b (by rw[gE hi,e])]at this
  exact this
 ·intro q i hi
  have hi':=bI.mp hi
  rw[h i bs[i] (gE hi')]
  exact q _ (cf hi')
theorem As:∀{bs:List Bool} {us:List Value},Vals (bs.map V.bl) us->us=bs.map Value.bool
 |[],_,.nil=>rfl
 |b::r,_,.cons q t=>by
  cases(show _=Value.bool b from q)
  rw[As t]
  rfl
theorem FN{X:Cx}(hc:X.calm=true):jct X (.builtin "all") (yY fun bs=>bs.all id):=by
 intro pins s σ H vs us Q I rv h
 obtain⟨l,bs,rfl,hl,q⟩:=h
 obtain⟨u,rfl,ru⟩:=rv.one
 cases ru
 obtain⟨z,its,n,r,hlen,e⟩:=I.lstM hl
 have e2:=As r
 subst e2
 have llt:l<s.heap.objs.size:=aL e
 have hL:s.heap.IsList l (bs.map Value.bool).toArray:=⟨_,e,rfl,_,rfl⟩
 refine call_all_walk (dM hL ⟨s.heap.objs.size,[s.heap.objs.size,l],[s.heap.objs.size],_,_,_,fun i=>bs[i]?.getD true,rfl,Walks.list (A:=X.A.in1) (show X.A.in1.handled=none from I.ok.hd hc) s.heap.objs.size l (bj llt) (bs.map Value.bool).toArray,
  (show Heap.IsListIter _ _ _ _/\Heap.IsList _ _ _ from⟨⟨_,aQ _ rfl,rfl,rfl⟩,hL.push _⟩),fun i v s' Q' E' hv hq=>?_,fun h' tk k=>?_⟩)
 ·have hv':(bs.map Value.bool)[i]? =some v:=by simpa using hv
  rw[aJ]at hv'
  cases eb:bs[i]? with
  |none=>rw[eb]at hv';cases hv'
  |some b=>
   rw[eb]at hv'
   cases hv'
   have hq':Q' b s':=by dsimp only at hq;rw[eb]at hq;exact hq
   exact aI hq'
 ·have ez:((bs.map Value.bool).toArray).size=bs.length:=by simp
  rw[ez,Gu (bs:=bs) (tr:=fun i=>bs[i]?.getD true) (fun i b hb=>by rw[hb];rfl)]
  refine⟨.bl _,H,I.kept fun b o qq=>k b o ?_ (ag _ qq),rfl,q⟩
  intro hb
  have:b=s.heap.objs.size:=by simpa using hb
  subst this
  exact absurd (aL qq) (cN _)
inductive Knd(H:Hp):V->String->Prop where
 |non:Knd H .non "NoneType"
 |bl {x:Bool}:Knd H (.bl x) "bool"
 |int {i:Int}:Knd H (.int i) "int"
 |str {x:Str}:Knd H (.str x) "str"
 |lst {a:Addr} {xs:List V} (e:H a=some (.lst xs)):Knd H (.ref a) "list"
 |tup {a:Addr} {xs:List V} (e:H a=some (.tup xs)):Knd H (.ref a) "tuple"
 |dK {a:Addr} {kvs:List (ij×V)} (e:H a=some (.dK kvs)):Knd H (.ref a) "dict"
theorem Knd.ty{K:PySem.W.Frag}{H:Hp}{v:V}{n:String}(h:Knd H v n):TyOf K H v (.type n):=by
 cases h with
 |non=>exact .non
 |bl=>exact .bl _
 |int=>exact .int _
 |str=>exact .str _
 |lst e=>exact .lst e
 |tup e=>exact .tup e
 |dK e=>exact .dK e
noncomputable def xt(a b:String):Bool:=a==b||(a=="bool"&&b=="int")
noncomputable def m8:List String:=["NoneType","bool","int","str","list","tuple","dict"]
theorem Fb{K:PySem.W.Frag}:∀a∈m8,∀b∈m8,PySem.W.kitOne K (.type a) (.type b)=some (xt a b):=by
 intro a ha b hb
 have ha':a="NoneType"\/a="bool"\/a="int"\/a="str"\/a="list"\/a="tuple"\/a="dict":=by simpa[m8]using ha
 have hb':b="NoneType"\/b="bool"\/b="int"\/b="str"\/b="list"\/b="tuple"\/b="dict":=by simpa[m8]using hb
 rcases ha' with rfl|rfl|rfl|rfl|rfl|rfl|rfl<;>rcases hb' with rfl|rfl|rfl|rfl|rfl|rfl|rfl<;>rfl
def DW:List V->Hp->VK->Prop:=fun vs H Q=>∃x n T,vs=[x,.ty T]/\Knd H x n/\T∈m8/\Q (.bl (xt n T)) H
theorem Knd.mem{H:Hp}{v:V}{n:String}(h:Knd H v n):n∈m8:=by cases h<;>simp[m8]
theorem FO{X:Cx}:jct X (.builtin "isinstance") DW:=by
 intro pins s σ H vs us Q I rv h
 obtain⟨x,n,T,rfl,hk,hT,q⟩:=h
 obtain⟨u1,u2,rfl,r1,r2⟩:=rv.two
 cases(show u2=Value.type T from r2)
 exact GL I r1 hk.ty (Fb n hk.mem T hT) fun tk=>⟨.bl _,H,I.tok tk,rfl,q⟩
section
variable{X:Cx}{e a b c o i:Expr}{es:List Expr}{t t' ta tb tc td te:TE}{pos p p2:Pos}
theorem PE.imp(h:PE X e t)(hi:∀σ H Q,t' σ H Q->t σ H Q):PE X e t':=fun pins s σ H Q I q=>h pins s σ H Q I (hi σ H Q q)
theorem PG.imp{t t':TG}(h:PG X e t)(hi:∀v σ H Q,t' v σ H Q->t v σ H Q):PG X e t':=fun pins s σ H v u Q I r q=>h pins s σ H v u Q I r (hi v σ H Q q)
theorem PGs.imp{t t':lG}(h:PGs X es t)(hi:∀v σ H Q,t' v σ H Q->t v σ H Q):PGs X es t':=fun pins s σ H v u Q I r q=>h pins s σ H v u Q I r (hi v σ H Q q)
theorem OpR.imp{f:Value->Value->Sem Value}{r r':R2}(h:OpR X f r)(hi:∀x y H Q,r' x y H Q->r x y H Q):OpR X f r':=fun pins s σ H x y v u Q I rx ry q=>h pins s σ H x y v u Q I rx ry (hi x y H Q q)
theorem jct.imp{f:Value}{r r':List V->Hp->VK->Prop}(h:jct X f r)(hi:∀vs H Q,r' vs H Q->r vs H Q):jct X f r':=fun pins s σ H xs us Q I rv q=>h pins s σ H xs us Q I rv (hi xs H Q q)
theorem IxR.imp{r r':R2}(h:IxR X r)(hi:∀x y H Q,r' x y H Q->r x y H Q):IxR X r':=fun value slice pins s σ H x y v u Q I rx ry q hs=>h value slice pins s σ H x y v u Q I rx ry (hi x y H Q q) hs
theorem MtR.imp{id:String}{r r':V->List V->Hp->VK->Prop}(h:MtR X id r)(hi:∀x vs H Q,r' x vs H Q->r x vs H Q):MtR X id r':=fun pins s σ H x xs v us Q I rx rv q=>h pins s σ H x xs v us Q I rx rv (hi x xs H Q q)
theorem PSet.imp{t t':oP}(h:PSet X t)(hi:∀o i v H Q,t' o i v H Q->t o i v H Q):PSet X t':=fun pins s σ H o i v ov iv u Q I r1 r2 r3 q=>h pins s σ H o i v ov iv u Q I r1 r2 r3 (hi o i v H Q q)
theorem SlR.imp{r r':V->Option Int->Option Int->Hp->VK->Prop}(h:SlR X r)(hi:∀x l u H Q,r' x l u H Q->r x l u H Q):SlR X r':=fun pins s σ H x v vl vu lo hi' sl Q I rx hs pl pu q=>h pins s σ H x v vl vu lo hi' sl Q I rx hs pl pu (hi x lo hi' H Q q)
noncomputable def kh(i:Nat):TE:=fun σ H Q=>match σ[i]? with
 |some (some v)=>Q v H
 |_=>False
theorem qv(i:Nat){x:Str}{pos:Pos}(hN:X.N[i]? =some x:=by rfl)(hv:uB X.env.scope x:=by first|exact Or.inl rfl|exact Or.inr (Or.inl rfl)|exact Or.inr (Or.inr rfl))(hd:(x==("__debug__":Str))=false:=by decide)
  (hcd:(x==("__classdict__":Str))=false:=by decide):PE X (.Name x pos) (kh i):=(Eb hN hv hd hcd).imp fun σ H Q q=>by
 unfold kh at q
 split at q
 ·rename_i v e;exact⟨v,e,q⟩
 ·exact q.elim
noncomputable def fI(g:Int->Int->V):R2:=fun x y H Q=>match x,y with
 | .int i,.int j=>Q (g i j) H
 |_,_=>False
def fIC(C:Int->Int->Prop)(g:Int->Int->V):R2:=fun x y H Q=>match x,y with
 | .int i,.int j=>C i j/\Q (g i j) H
 |_,_=>False
theorem fI.r{g:Int->Int->V}{x y:V}{H:Hp}{Q:VK}(h:fI g x y H Q):mF g x y H Q:=by
 unfold fI at h
 split at h
 ·exact⟨_,_,rfl,rfl,h⟩
 ·exact h.elim
theorem fIC.r{C:Int->Int->Prop}{g:Int->Int->V}{x y:V}{H:Hp}{Q:VK}(h:fIC C g x y H Q):rI C g x y H Q:=by
 unfold fIC at h
 split at h
 ·exact⟨_,_,rfl,rfl,h.1,h.2⟩
 ·exact h.elim
theorem jM:OpR X (binaryOp .Add) (fI fun i j=>.int (i+j)):=Et.imp fun _ _ _ _=>fI.r
theorem rS:OpR X (binaryOp .Sub) (fI fun i j=>.int (i-j)):=Ef.imp fun _ _ _ _=>fI.r
theorem lK:OpR X (binaryOp .Mult) (fIC CMul fun i j=>.int (i*j)):=Ei.imp fun _ _ _ _=>fIC.r
theorem oy:OpR X (binaryOp .Mod) (fIC (fun _ j=>0<j) fun i j=>.int (i%j)):=Ej.imp fun _ _ _ _=>fIC.r
theorem yX:OpR X (binaryOp .FloorDiv) (fIC uI fun i j=>.int (i/j)):=Fo.imp fun _ _ _ _=>fIC.r
theorem u9:OpR X (binaryOp .Pow) (fIC uH fun i j=>.int (i^j.toNat)):=Eg.imp fun _ _ _ _=>fIC.r
theorem mn:OpR X (compareOp .Lt) (fI fun i j=>.bl (decide (i<j))):=El.imp fun _ _ _ _=>fI.r
theorem mV:OpR X (compareOp .LtE) (fI fun i j=>.bl (decide (i<=j))):=Em.imp fun _ _ _ _=>fI.r
theorem pU:OpR X (compareOp .Gt) (fI fun i j=>.bl (decide (i>j))):=Eo.imp fun _ _ _ _=>fI.r
theorem rD:OpR X (compareOp .GtE) (fI fun i j=>.bl (decide (i ≥ j))):=Ep.imp fun _ _ _ _=>fI.r
theorem sj:oQ X .Add (fI fun i j=>.int (i+j)):=fun pins s σ H x y v u Q I rx ry q=>E5 pins s σ H x y v u Q I rx ry q.r
def CQ:V->Hp->VK->Prop:=fun x H Q=>match x with
 | .int i=>Q (.int (-i)) H
 |_=>False
theorem k6:uC X (unaryOp .USub) CQ:=fun pins s σ H x v Q I rx q=>by
 cases x<;>first
  |exact False.elim q
  |exact Dj pins s σ H _ v Q I rx ⟨_,rfl,q⟩
noncomputable def xF:R2:=fun x y H Q=>match x,y with
 | .int i,.int j=>Q (.bl (decide (i=j))) H
 | .bl i,.bl j=>Q (.bl (decide (i=j))) H
 | .str i,.str j=>Q (.bl (decide (i=j))) H
 |_,_=>False
def xy:R2:=fun x y H Q=>match x,y with
 | .int i,.int j=>Q (.bl (!decide (i=j))) H
 | .bl i,.bl j=>Q (.bl (!decide (i=j))) H
 | .str i,.str j=>Q (.bl (!decide (i=j))) H
 |_,_=>False
theorem dI(i j:Int):decide (V.int i=V.int j)=decide (i=j):=by simp
theorem dB(i j:Bool):decide (V.bl i=V.bl j)=decide (i=j):=by simp
theorem dS(i j:Str):decide (V.str i=V.str j)=decide (i=j):=by simp
theorem kA:OpR X (compareOp .Eq) xF:=Er.imp fun x y H Q h=>by
 unfold xF at h
 split at h
 ·exact⟨rfl,by rw[dI];exact h⟩
 ·exact⟨rfl,by rw[dB];exact h⟩
 ·exact⟨rfl,by rw[dS];exact h⟩
 ·exact h.elim
theorem mm:OpR X (compareOp .NotEq) xy:=Eh.imp fun x y H Q h=>by
 unfold xy at h
 split at h
 ·exact⟨rfl,by rw[dI];exact h⟩
 ·exact⟨rfl,by rw[dB];exact h⟩
 ·exact⟨rfl,by rw[dS];exact h⟩
 ·exact h.elim
noncomputable def pZ:V->Bool
 | .non=>true
 |_=>false
def uy(f:Bool->Bool):R2:=fun x y H Q=>match y with
 | .non=>Q (.bl (f (pZ x))) H
 |_=>False
theorem dN(x:V):decide (x=V.non)=pZ x:=by cases x<;>simp[pZ]
theorem D2:OpR X (compareOp .IsNot) (uy not):=Fp.imp fun x y H Q h=>by
 unfold uy at h
 split at h
 ·exact⟨rfl,by rw[dN];exact h⟩
 ·exact h.elim
noncomputable def CW(ta tb:TE):TE:=fun σ H Q=>ta σ H fun x H1=>match x with
 | .bl c=>if c=true then tb σ H1 Q else Q (.bl false) H1
 |_=>False
def J5(ta tb:TE):TE:=fun σ H Q=>ta σ H fun x H1=>match x with
 | .bl c=>if c=true then Q (.bl true) H1 else tb σ H1 Q
 |_=>False
def CP(ta:TE):TE:=fun σ H Q=>ta σ H fun x H1=>match x with
 | .bl c=>Q (.bl (!c)) H1
 |_=>False
def fB(t:TE):TT:=fun σ H Q=>t σ H fun x H1=>match x with
 | .bl c=>Q c H1
 |_=>False
variable{rest:List Expr}
theorem kO(ha:PE X a ta)(hb:PE X (.BoolOp .And (b::rest) pos) tb):PE X (.BoolOp .And (a::b::rest) pos) (CW ta tb):=by
  intro pins s σ H Q I h
  refine BoolOp_and (iy (ha pins s σ H _ I h) fun v s1 ⟨x,H1,I1,r1,q1⟩=>?_)
  cases x<;>first
    |exact False.elim q1
    | (rename_i c
       cases r1
       refine cj ?_
       cases c with
       |true=>exact hb pins s1 σ H1 Q I1 q1
       |false=>exact⟨.bl false,H1,I1,rfl,q1⟩)
theorem yu(ha:PE X a ta):PE X (.UnaryOp .Not a pos) (CP ta):=by
  intro pins s σ H Q I h
  refine UnaryOp_ (iy (ha pins s σ H _ I h) fun v s1 ⟨x,H1,I1,r1,q1⟩=>?_)
  cases x<;>first
    |exact False.elim q1
    | (rename_i c
       cases r1
       exact not_of (cj ⟨.bl (!c),H1,I1,rfl,q1⟩))
theorem jz {t:TE} (h:PE X e t) (he:∀ whole,isTrue e X.env whole = (do let v <- whole; standAt e.pos; holding [v] (truthy v)):=by intro _; rfl):PT X e (fB t):=by
  intro pins s σ H Q I hw
  refine isTrue_plain (iy (h pins s σ H _ I hw) fun v s1 ⟨x,H1,I1,r1,q1⟩=>?_) (he _)
  cases x<;>first
    |exact False.elim q1
    | (cases r1
       exact cj ⟨H1,I1,q1⟩)
theorem iV{op:CmpOp}{r:R2}(ho:OpR X (compareOp op) r)(ha:PE X a ta)(hb:PE X b tb)(hm:behindInMarks op b=false):PT X (.Compare a [op] [b] pos) (fB (nE r ta tb)):=by
  intro pins s σ H Q I h
  refine fZ (iy (ha pins s σ H _ I h) fun v s1 ⟨x,H1,I1,r1,q1⟩=>iy (hb pins s1 σ H1 _ I1 q1) fun u s2 ⟨y,H2,I2,r2,q2⟩=>
    iy (ho pins s2 σ H2 x y v u _ I2 r1 r2 q2) fun c s3 ⟨z,H3,I3,r3,q3⟩=>?_) hm
  cases z<;>first
    |exact False.elim q3
    | (cases r3
       exact cj ⟨H3,I3,q3⟩)
theorem oz{op:CmpOp}{t:TE}(h:PC X op a b t)(h1:behindInMarks op b=false:=by first|exact wx _ (by decide) (by decide)|rfl):PT X (.Compare a [op] [b] pos) (fB t):=by
  intro pins s σ H Q I hw
  refine fZ (iy (h pins s σ H _ I hw) fun v s1 h1=>iy h1 fun u s2 h2=>iy h2 fun c s3 ⟨x,H1,I1,r1,q1⟩=>?_) h1
  cases x<;>first
    |exact False.elim q1
    | (cases r1
       exact cj ⟨H1,I1,q1⟩)
def ve(r r':R2)(ta tb tc:TE):TE:=fun σ H Q=>ta σ H fun x H1=>tb σ H1 fun y H2=>r x y H2 fun z H3=>match z with
 | .bl k=>(if k=true then tc σ H3 fun w' H4=>r' y w' H4 Q else Q (.bl false) H3)
 |_=>False
theorem zW{op op':CmpOp}{g:Int->Int->Bool}{r':R2}(ho:OpR X (compareOp op) (fI fun i j=>.bl (g i j)))(ho':OpR X (compareOp op') r')(ha:PE X a ta)(hb:PE X b tb)(hc:PE X c tc)
  (hm:lastMarks [op,op'] [b,c]=false:=by with_unfolding_all rfl):PE X (.Compare a [op,op'] [b,c] pos) (ve (fI fun i j=>.bl (g i j)) r' ta tb tc):=by
 intro pins s σ H Q I h
 refine Compare_chain (iy (ha pins s σ H _ I h) fun v s1 ⟨x,H1,I1,r1,q1⟩=>chain_link (iy (hb pins s1 σ H1 _ I1 q1) fun u s2 ⟨y,H2,I2,r2,q2⟩=>
  iy (ho pins s2 σ H2 x y v u (fun z H3=>∃k,z= .bl k/\(if k=true then tc σ H3 fun w' H4=>r' y w' H4 Q else Q (.bl false) H3)) I2 r1 r2 ?_) fun d s3 ⟨z,H3,I3,r3,k,e,q3⟩=>?_)) hm
 ·dsimp only at q2
  unfold fI at q2 ⊢
  cases x<;>cases y<;>first
   |exact q2.elim
   |exact⟨_,rfl,q2⟩
 ·subst e
  cases r3
  refine cj ?_
  cases k with
  |false=>exact ite_ff ⟨.bl false,H3,I3,rfl,q3⟩
  |true=>exact ite_tt (chain_last (iy (hc pins s3 σ H3 _ I3 q3) fun w' s4 ⟨z',H4,I4,r4,q4⟩=>ho' pins s4 σ H4 y z' u w' Q I4 r2 r4 q4))
noncomputable def ir(H:Hp)(p:Addr):Option (List V):=match H p with
 |some (.lst xs)=>some xs
 |some (.tup xs)=>some xs
 |some (.frz _ (.lst xs))=>some xs
 |_=>none
theorem tM{K:PySem.W.Frag}{H:Hp}{p:Addr}{xs:List V}(h:ir H p=some xs):SqL K H p xs\/SqT K H p xs:=by
 unfold ir at h
 split at h
 ·rename_i ys e;cases h;exact .inl (.inl (.inl e))
 ·rename_i ys e;cases h;exact .inr (SqT.of e)
 ·rename_i o ys e;cases h;exact .inl (.inl (.inr ⟨_,e⟩))
 ·cases h
noncomputable def xD:R2:=fun x y H Q=>match x,y with
 | .ref p,.int i=>match ir H p with
  |some xs=>match jb xs i with
   |some v=>Q v H
   |none=>False
  |none=>False
 |_,_=>False
theorem ip:IxR X xD:=(zK.or JT).imp fun x y H Q h=>by
 unfold xD at h
 split at h
 ·split at h
  ·rename_i xs e
   split at h
   ·rename_i v ev
    rcases tM (K:=X.K) e with z|z
    ·exact .inl ⟨_,_,_,_,rfl,rfl,z,ev,h⟩
    ·exact .inr ⟨_,_,_,_,rfl,rfl,z,ev,h⟩
   ·exact h.elim
  ·exact h.elim
 ·exact h.elim
noncomputable def qU:List V->Hp->VK->Prop:=fun vs H Q=>match vs with
 |[.ref p]=>match ir H p with
  |some xs=>Q (.int xs.length) H
  |none=>False
 |_=>False
theorem kc:jct X (.builtin "len") qU:=xo.imp fun vs H Q h=>by
 unfold qU at h
 split at h
 ·split at h
  ·rename_i xs e;exact⟨_,xs,rfl,tM e,h⟩
  ·exact h.elim
 ·exact h.elim
def vN:List V->Hp->VK->Prop:=fun vs H Q=>match vs with
 |[.ref p]=>match ir H p with
  |some xs=>∀l,H l=none->Q (.ref l) (upd H l (.lst xs))
  |none=>False
 |_=>False
theorem pH:jct X (.type "list") vN:=IU.imp fun vs H Q h=>by
 unfold vN at h
 split at h
 ·split at h
  ·rename_i xs e;exact⟨_,xs,rfl,tM e,h⟩
  ·exact h.elim
 ·exact h.elim
noncomputable def xA:List V->Hp->VK->Prop:=fun vs H Q=>match vs with
 |[.int i,.int j]=>Q (.int (if j<i then j else i)) H
 |_=>False
theorem D4(hc:X.calm=true):jct X (.builtin "min") xA:=(Gx hc).imp fun vs H Q h=>by
 unfold xA at h
 split at h
 ·exact⟨_,_,rfl,h⟩
 ·exact h.elim
noncomputable def xx:V->Option Int->Option Int->Hp->VK->Prop:=fun x lo hi H Q=>match x with
 | .ref a=>match H a with
  |some (.lst xs)=>∀p,H p=none->Q (.ref p) (upd H p (.lst (kW xs lo hi)))
  |_=>False
 |_=>False
theorem rR:SlR X xx:=FF.imp fun x l u H Q h=>by
 unfold xx at h
 split at h
 ·split at h
  ·rename_i xs e;exact⟨_,xs,rfl,SqL.of e,h⟩
  ·exact h.elim
 ·exact h.elim
noncomputable def vM:V->List V->Hp->VK->Prop:=fun x vs H Q=>match x,vs with
 | .ref l,[y]=>match H l with
  |some (.lst xs)=>xs.length<sizeLine/\Q .non (upd H l (.lst (xs++[y])))
  |_=>False
 |_,_=>False
theorem kS:MtR X "list.append" vM:=MtR.imp (r:=zY) (fun pins s σ H x xs v us Q I rx rv q=>Bx pins s σ H x xs v us Q I rx rv q) fun x vs H Q h=>by
 unfold vM at h
 split at h
 ·split at h
  ·rename_i xs e;exact⟨_,xs,_,rfl,rfl,e,h.1,h.2⟩
  ·exact h.elim
 ·exact h.elim
def CV(r:V->List V->Hp->VK->Prop)(to:TE)(t:TA):TE:=fun σ H Q=>to σ H fun x H1=>(∃a xs,x= .ref a/\H1 a=some (.lst xs))/\t σ H1 fun xs H2=>r x xs H2 Q
def uW:oP:=fun o i v H Q=>match o,i with
 | .ref p,.int k=>match H p with
  |some (.lst xs)=>match k9 xs.length k with
   |some j=>Q (upd H p (.lst (xs.set j v)))
   |none=>False
  |_=>False
 |_,_=>False
theorem pf:PSet X uW:=Gn.imp fun o i v H Q h=>by
 unfold uW at h
 split at h
 ·split at h
  ·rename_i xs e
   split at h
   ·rename_i j ej;exact⟨_,xs,_,j,rfl,rfl,e,ej,h⟩
   ·exact h.elim
  ·exact h.elim
 ·exact h.elim
noncomputable def rL:lG:=fun vs σ H Q=>match vs with
 |[]=>Q σ H
 |_=>False
noncomputable def rZ(t:TG)(u:lG):lG:=fun vs σ H Q=>match vs with
 |v::r=>t v σ H fun σ' H'=>u r σ' H' Q
 |[]=>False
theorem jK:PGs X [] rL:=Fv.imp fun v σ H Q h=>by
 unfold rL at h
 split at h
 ·exact⟨rfl,h⟩
 ·exact h.elim
theorem iO{t:TG}{u:lG}(h1:PG X e t)(h2:PGs X es u)(hs:(assignEach (e::es) X.env).map (·.2)=assign e X.env::(assignEach es X.env).map (·.2):=by rfl):PGs X (e::es) (rZ t u):=(Gf h1 h2 hs).imp fun v σ H Q h=>by
 unfold rZ at h
 split at h
 ·exact⟨_,_,rfl,h⟩
 ·exact h.elim
noncomputable def rM(n:Nat)(t:lG):TG:=fun v σ H Q=>match v with
 | .ref a=>match H a with
  |some (.tup xs)=>xs.length=n/\t xs σ H Q
  |_=>False
 |_=>False
theorem jJ{k:Nat}{t:lG}{n:Nat}(hc:X.calm=true)(h:PGs X es t)(hn:(assignEach es X.env).length=n:=by rfl)(hst:(assignEach es X.env).findIdx? (·.1)=none:=by rfl):PG X (.Tuple es k pos) (rM n t):=
 (Ea hc h hn hst).imp fun v σ H Q q=>by
  unfold rM at q
  split at q
  ·split at q
   ·rename_i xs e;exact⟨_,xs,rfl,SqT.of e,q.1,q.2⟩
   ·exact q.elim
  ·exact q.elim
noncomputable def xG(f:Bool->Bool)(ty td:TE):TE:=fun σ H Q=>ty σ H fun y H1=>td σ H1 fun x H2=>match y,x with
 | .int n,.ref a=>match H2 a with
  |some (.dK kvs)=>Q (.bl (f (iK kvs (Sum.inl n:ij)).isSome)) H2
  |_=>False
 |_,_=>False
def CT(td ty:TE):TE:=fun σ H Q=>td σ H fun x H1=>ty σ H1 fun y H2=>match x,y with
 | .ref a,.int n=>match H2 a with
  |some (.dK kvs)=>match iK kvs (Sum.inl n:ij)with
   |some v=>Q v H2
   |none=>False
  |_=>False
 |_,_=>False
end
section
variable{X:Cx}{o i:Expr}{td ty:TE}{pos:Pos}
theorem yM{f:Bool->Bool}{H2:Hp}{Q:VK}{y x:V}(h:(match y,x with
  | .int n,.ref a=>match H2 a with
    |some (.dK kvs)=>Q (.bl (f (iK kvs (Sum.inl n:ij)).isSome)) H2
    |_=>False
  |_,_=>False)):∃a ov,x= .ref a/\DGet H2 a y ov/\Q (.bl (f ov.isSome)) H2:=by
  cases y<;>cases x<;>first
    |exact h.elim
    | (rename_i n a
       dsimp only at h
       split at h
       · rename_i kvs e;exact⟨a,_,rfl,DGet.k (k:=Sum.inl n) e,h⟩
       · exact h.elim)
theorem qf(hu:X.A.units+1<cLine)(hi:PE X i ty)(ho:PE X o td):PC X .In i o (xG id ty td):=by
 intro pins s σ H Q I h
 refine iy (hi pins s σ H _ I h) fun iv s1 ⟨y,H1,I1,ry,q1⟩=>iy (ho pins s1 σ H1 _ I1 q1) fun u s2 ⟨x,H2,I2,rx,q2⟩=>?_
 obtain⟨a,ov,ex,g,q3⟩:=yM q2
 subst ex
 obtain rfl:u=Value.ref a:=rx
 exact CZ hu I2 g ry fun s' I3=>⟨.bl ov.isSome,H2,I3,rfl,q3⟩
theorem qK(hu:X.A.units+1<cLine)(hi:PE X i ty)(ho:PE X o td):PC X .NotIn i o (xG not ty td):=by
 intro pins s σ H Q I h
 refine iy (hi pins s σ H _ I h) fun iv s1 ⟨y,H1,I1,ry,q1⟩=>iy (ho pins s1 σ H1 _ I1 q1) fun u s2 ⟨x,H2,I2,rx,q2⟩=>?_
 obtain⟨a,ov,ex,g,q3⟩:=yM q2
 subst ex
 obtain rfl:u=Value.ref a:=rx
 exact zB hu I2 g ry fun s' I3=>⟨.bl (!ov.isSome),H2,I3,rfl,q3⟩
theorem kF (hu:X.A.units+1<cLine)(ho:PE X o td)(hi:PE X i ty)(hs:Da i):PE X (.Subscript o i pos) (CT td ty):=by
  intro pins s σ H Q I h
  refine FG PySem.F.slot_dict_getitem.lookup hs (iy (ho pins s σ H _ I h) fun u s1 ⟨x,H1,I1,rx,q1⟩=>iy (hi pins s1 σ H1 _ I1 q1) fun iv s2 ⟨y,H2,I2,ry,q2⟩=>?_)
  cases x <;>cases y<;>first
    |exact False.elim q2
    | (dsimp only at q2
       split at q2
       · rename_i kvs e
         split at q2
         · rename_i v ev
           cases rx
           have g:∀{a:Addr} {n:Int},H2 a=some (.dK kvs)->iK kvs (Sum.inl n:ij)=some v->DGet H2 a (.int n) (some v):=fun e1 e2=>e2▸DGet.k (k:=Sum.inl _) e1
           have g:=g e ev
           exact⟨IB I2 g,GB hu I2 g ry fun w' s3 I3 rw'=>⟨v,H2,I3,rw',q2⟩⟩
         · exact q2.elim
       · exact q2.elim)
theorem kN{e:Expr}{es:List Expr}{to:TE}{t:TA}{name:Str}{apos cpos:Pos}{id:String}{r:V->List V->Hp->VK->Prop}(pa:PlainAttrs "list")(slot:Slot "list" name id)(hty:typeOf (.builtin id)=pure (.type "method_descriptor"))(hm:MtR X id r)(ho:PE X o to)(ha:PA X (e::es) t)
  (hbase:attributeBase o name X.env (eval o X.env)=eval o X.env:=by rfl)
  (hfew:((backTo cpos (starEach (e::es) X.env)).all (fun x=>!x.1)&&(backToKw cpos (keywordEach [] X.env)).all (fun x=>x.1.isSome)
   &&decide ((e::es).length+([]:List Keyword).length+(if([]:List Keyword).isEmpty then 0 else 1)<30))=true:=by rfl)
  (hline:(apos.endLine==cpos.line)=true:=by rfl) (hs:starEach (e::es) X.env=(false,eval e X.env)::starEach es X.env:=by rfl) (hplain:(backTo cpos (starEach es X.env)).any (·.1)=false:=by rfl):
  PE X (.Call (.Attribute o name apos) (e::es) [] cpos) (CV r to t):=by
 intro pins s σ H Q I h
 refine wpAny_Call_method_late hbase hfew hline rfl (iy (ho pins s σ H _ I h) fun v s1 ⟨x,H1,I1,r1,⟨a,xs,ex,ea⟩,q1⟩=>?_)
 subst ex
 obtain⟨h1,h2⟩:=zx (T:="list") I1 r1 (.inl ⟨rfl,_,SqL.of ea⟩)
 refine⟨"list",id,pa,slot,hty,h1,h2,?_⟩
 have hA:=ha cpos pins s1 σ H1 _ I1 q1
 rw[hs]at hA ⊢
 refine dF (by show(false||(backTo cpos (starEach es X.env)).any (·.1))=false;rw[hplain]<;>rfl) (gp ?_)
 exact iy hA fun us s2 ⟨vs,H2,I2,r2,q2⟩=>hm pins s2 σ H2 _ vs v us Q I2 r1 r2 q2
end
inductive Kd where
 |non|bl|int|str|lst|tup|dct
 deriving DecidableEq
noncomputable def Kd.nm:Kd->String
 | .non=>"NoneType"
 | .bl=>"bool"
 | .int=>"int"
 | .str=>"str"
 | .lst=>"list"
 | .tup=>"tuple"
 | .dct=>"dict"
noncomputable def kd(H:Hp)(v:V):Option Kd:=match v with
 | .non=>some .non
 | .bl _=>some .bl
 | .int _=>some .int
 | .str _=>some .str
 | .ref a=>match H a with
  |some (.lst _)=>some .lst
  |some (.tup _)=>some .tup
  |some (.dK _)=>some .dct
  |_=>none
 |_=>none
noncomputable def j5(a b:Kd):Bool:=match a,b with
 | .bl,.int=>true
 | .non,.non=>true
 | .bl,.bl=>true
 | .int,.int=>true
 | .str,.str=>true
 | .lst,.lst=>true
 | .tup,.tup=>true
 | .dct,.dct=>true
 |_,_=>false
theorem EL{H:Hp}{v:V}{k:Kd}(h:kd H v=some k):Knd H v k.nm:=by
 unfold kd at h
 split at h
 ·cases h;exact .non
 ·cases h;exact .bl
 ·cases h;exact .int
 ·cases h;exact .str
 ·split at h
  ·rename_i e;cases h;exact .lst e
  ·rename_i e;cases h;exact .tup e
  ·rename_i e;cases h;exact .dK e
  ·cases h
 ·cases h
theorem JX(a b:Kd):xt a.nm b.nm=j5 a b:=by cases a<;>cases b<;>rfl
theorem Kd.mem(b:Kd):b.nm∈m8:=by cases b<;>simp[m8,Kd.nm]
noncomputable def xE(T:Kd):List V->Hp->VK->Prop:=fun vs H Q=>match vs with
 |[x,y]=>y= .ty T.nm/\match kd H x with
  |some k=>Q (.bl (j5 k T)) H
  |none=>False
 |_=>False
theorem kP{X:Cx}(T:Kd):jct X (.builtin "isinstance") (xE T):=FO.imp fun vs H Q h=>by
 unfold xE at h
 split at h
 ·obtain⟨rfl,h⟩:=h
  split at h
  ·rename_i k e
   exact⟨_,_,_,rfl,EL e,Kd.mem T,by rw[JX];exact h⟩
  ·exact h.elim
 ·exact h.elim
def xI(i:Nat)(te:TE)(ti:mR):TS:=fun D σ H=>match σ[i]? with
 |some (some x)=>te σ H fun y H1=>ti x y H1 fun z H2=>D.nx (σ.set i (some z)) H2
 |_=>False
theorem qp{X:Cx}{pos:Pos}{i:Nat}{x:Str}{e:Expr}{te:TE}{op:Operator}{ti:mR}{pos':Pos}(hN:X.N.Nodup)(hi:X.N[i]? =some x)(hx:Loc X.env.scope x)(he:PE X e te)(ho:oQ X op ti)(hf:X.fn x=true\/X.env.scope.names.lookup x=some .local:=by first|exact .inl rfl|exact .inr rfl|assumption):
  PS X (.AugAssign (.Name x pos') op e pos) (xI i te ti):=fun pins s σ H D I h=>D8 hN hi hx he ho hf pins s σ H D I (by
 unfold xI at h
 split at h
 ·rename_i x e;exact⟨x,e,h⟩
 ·exact h.elim)
def CO(t:TE):TO:=fun σ H Q=>t σ H fun x H1=>match x with
 | .int i=>Q (some i) H1
 |_=>False
theorem lB{X:Cx}{e:Expr}{te:TE}(h:PE X e te):PO X (some e) (CO te):=by
  intro pins s σ H Q I hw
  rw[evalPart_some]
  refine iy (h pins s σ H _ I hw) fun u s1 ⟨x,H1,I1,r1,q1⟩=>?_
  cases x<;>first
    |exact False.elim q1
    | (obtain⟨t,rfl⟩:=r1
       exact⟨some _,H1,I1,.int _ t,q1⟩)
def rY(f:List Bool->Bool):List V->Hp->VK->Prop:=fun vs H Q=>match vs with
 |[.ref l]=>match H l with
  |some (.lst xs)=>∃bs:List Bool,xs=bs.map V.bl/\Q (.bl (f bs)) H
  |_=>False
 |_=>False
theorem FU{f:List Bool->Bool}{vs:List V}{H:Hp}{Q:VK}(h:rY f vs H Q):yY f vs H Q:=by
 unfold rY at h
 split at h
 ·split at h
  ·rename_i xs e
   obtain⟨bs,rfl,h⟩:=h
   exact⟨_,bs,rfl,e,h⟩
  ·exact h.elim
 ·exact h.elim
theorem rQ{X:Cx}(hc:X.calm=true):jct X (.builtin "all") (rY fun bs=>bs.all id):=(FN hc).imp fun _ _ _=>FU
def vh:List V->Hp->VK->Prop:=fun vs H Q=>match vs with
 |[.ref l]=>match H l with
  |some (.lst xs)=>∃kvs:List (ij×V),Paired (PairAt H) xs kvs/\xs.length<=1000/\(kvs.map (·.1)).Nodup/\∀d,H d=none->Q (.ref d) (upd H d (.dK kvs))
  |_=>False
 |_=>False
theorem pD{X:Cx}(hc:X.calm=true):jct X (.type "dict") vh:=(Hq hc).imp fun vs H Q h=>by
 unfold vh at h
 split at h
 ·split at h
  ·rename_i xs e
   obtain⟨kvs,h1,h2,h3,h4⟩:=h
   exact⟨_,xs,kvs,rfl,e,h1,h2,h3,h4⟩
  ·exact h.elim
 ·exact h.elim
noncomputable def xC:R2:=fun x y H Q=>match x,y with
 | .ref a,.ref b=>match H a,H b with
  |some (.tup [.int i,.int j]),some (.tup [.int k,.int l])=>Q (.bl (HT.lexLt [i,j] [k,l])) H
  |_,_=>False
 |_,_=>False
theorem D5{X:Cx}(hu:X.A.units<cLine):OpR X (compareOp .Lt) xC:=(Ek hu).imp fun x y H Q h=>by
 unfold xC at h
 split at h
 ·split at h
  ·rename_i a b _ _ i j k l e1 e2
   exact⟨a,b,[i,j],[k,l],rfl,rfl,SqT.of e1,SqT.of e2,h⟩
  ·exact h.elim
 ·exact h.elim
noncomputable def qY(XN:List Str)(names:List (Str×NameKind)):List Str->List (Option Nat)->Bool
 |[],[]=>true
 |x::N,none::r=>qY XN names N r
 |x::N,some j::r=>(XN[j]? ==some x)&&(names.lookup x==some .free)&&qY XN names N r
 |_,_=>false
theorem vH{XN:List Str}{names:List (Str×NameKind)}:∀{N:List Str} {src:List (Option Nat)},qY XN names N src=true->src.length=N.length/\∀(i j:Nat),src[i]? =some (some j)->XN[j]? =N[i]?/\(N[i]?).elim False (fun x=>names.lookup x=some .free)
 |[],[],_=>⟨rfl,fun i j e=>by simp at e⟩
 |x::N,none::r,h=>by
  obtain⟨h1,h2⟩:=vH (N:=N) (src:=r) h
  refine⟨by simp[h1],fun i j e=>?_⟩
  cases i with
  |zero=>simp at e
  |succ i=>exact h2 i j (by simpa using e)
 | x::N,some k::r,h=>by
  have h':((XN[k]? ==some x)&&(names.lookup x==some .free)&&qY XN names N r)=true:=h
  rw[bo,bo]at h'
  obtain⟨h1,h2⟩:=vH (N:=N) (src:=r) h'.2
  refine⟨by simp[h1],fun i j e=>?_⟩
  cases i with
  |zero=>
   have e':k=j:=by simpa using e
   subst e'
   exact⟨by simpa using h'.1.1,by simpa using h'.1.2⟩
  |succ i=>exact h2 i j (by simpa using e)
def sd:List Str->Bool
 |[]=>true
 |x::r=>!(r.contains x)&&sd r
theorem iS:∀{l:List Str},sd l=true->l.Nodup
 |[],_=>fu
 |x::r,h=>by
  have h':(!(r.contains x)&&sd r)=true:=h
  rw[bo]at h'
  exact bO.mpr ⟨by simpa using h'.1,iS h'.2⟩
noncomputable def C3(XN:List Str)(outer:List (Str×NameKind))(scope:Scope)(N:List Str)(src:List (Option Nat)):Bool:=
 (scope.kind== .function)&&scope.names.all (fun y=>y.2 != .cell)&&scope.names.all (fun y=>y.2 != .local||scope.names.lookup y.1==some .local)&&
  scope.names.all (fun y=>y.2 != .free||(scope.names.lookup y.1==some .free&&outer.lookup y.1==some .cell))&&sd N&&qY XN scope.names N src
theorem CpScope.of{X:Cx}{scope:Scope}{N:List Str}{src:List (Option Nat)}(h:C3 X.N X.env.scope.names scope N src=true):CpScope X scope N src:=by
 unfold C3 at h
 simp only[bo]at h
 obtain⟨⟨⟨⟨⟨h1,h2⟩,h3⟩,h4⟩,h5⟩,h6⟩:=h
 rw[cV]at h2 h3 h4
 obtain⟨l,c⟩:=vH h6
 refine⟨by simpa using h1,fun y hy=>by simpa using h2 y hy,fun y hy e=>?_,fun y hy e=>?_,iS h5,l,c⟩
 ·have:=h3 y hy
  rw[e]at this
  simpa using this
 ·have:=h4 y hy
  rw[e]at this
  simpa using this
theorem wd{K:PySem.W.Frag}{a:Addr}{xs:List V}{g:TG}{tb:TS}{D:Ends}{σ:St}{H:Hp}(Pv:Nat->St->Hp->Prop)(h0:Pv 0 σ H)(hl:∀i σ H,i<=xs.length->Pv i σ H->SqL K H a xs)
  (hs:∀i x σ H t,xs[i]? =some x->Pv i σ H->H t=none->g (.ref t) σ (upd H t (.tup [.int i,x])) fun σ2 H2=>tb {D with nx:=Pv (i+1),ct:=Pv (i+1),bk:=D.nx} σ2 H2) (hd:∀σ H,Pv xs.length σ H->D.nx σ H):
  ∃W:Nat->Nat->St->Hp->Prop,(∃m,W 0 m σ H)/\∀i m σ H,W i m σ H->
   ((oR K a).stop i H/\D.nx σ H)\/((oR K a).go i H/\∃N:St->Hp->Prop,(∀σ' H',N σ' H'->∃m',m'<m/\W (i+1) m' σ' H')/\∀x H',(oR K a).yld i H x H'->g x σ H' fun σ2 H2=>tb {D with nx:=N,ct:=N,bk:=D.nx} σ2 H2):=by
 refine⟨fun i m σ H=>m=xs.length-i/\i<=xs.length/\Pv i σ H,⟨xs.length,by simp,bM _,h0⟩,?_⟩
 rintro i m σ H ⟨rfl,hi,p⟩
 have q:=hl i σ H hi p
 by_cases hlt:i<xs.length
 ·refine .inr ⟨⟨xs,xs[i],q,by simp[hlt]⟩,Pv (i+1),fun σ' H' p'=>⟨xs.length-(i+1),by lia,rfl,hlt,p'⟩,fun x H' y=>?_⟩
  obtain⟨t,z,ht,e1,e2,y⟩:=y
  subst e1 e2
  exact hs i z σ _ t (y xs q) p ht
 ·have e:i=xs.length:=by lia
  subst e
  exact .inl ⟨⟨xs,q,aF _⟩,hd σ H p⟩
theorem ky{wi:TI}{g:TG}{tb:TS}{D:Ends}{σ:St}{H:Hp}(J:It)(H1:Hp)(h1:∀R:It->Hp->Prop,R J H1->wi σ H R)
  (h2:∃W:Nat->Nat->St->Hp->Prop,(∃m,W 0 m σ H1)/\∀i m σ H,W i m σ H->(J.stop i H/\D.nx σ H)\/(J.go i H/\∃N:St->Hp->Prop,(∀σ' H',N σ' H'->∃m',m'<m/\W (i+1) m' σ' H')/\∀x H',J.yld i H x H'->g x σ H' fun σ2 H2=>tb {D with nx:=N,ct:=N,bk:=D.nx} σ2 H2)):
  uK wi g tb D σ H:=h1 _ h2
theorem jx{src:List (Option Nat)}{wi:TI}{g:TG}{tc:TT}{te:TE}{Q:VK}{σ:St}{H:Hp}(J:It)(H1:Hp)(h1:∀R:It->Hp->Prop,R J H1->wi σ H R)(h2:∀l,H1 l=none->pW J src g tc te Q σ H1 l):rV src wi g tc te σ H Q:=h1 _ h2
theorem iq{H:Hp}{p:Addr}(h:H p=none)(o:HO):Same H (upd H p o):=fun b u q=>by rw[ix (iI q h)];exact q
theorem iW{H H':Hp}{p:Addr}{o:HO}(s:Same H H')(h:H p=none):Same H (upd H' p o):=fun b u q=>by rw[ix (iI q h)];exact s b u q
def Pr(H:Hp)(v:V)(p:Int×Int):Prop:=∃t,v= .ref t/\H t=some (.tup [.int p.1,.int p.2])
theorem Pr.same{H H':Hp}{v:V}{p:Int×Int}(h:Pr H v p)(s:Same H H'):Pr H' v p:=let⟨t,e,q⟩:=h;⟨t,e,s _ _ q⟩
def u4:HO->Bool
 | .tup _=>true
 | .frz _ _=>true
 |_=>false
def TupS(H H':Hp):Prop:=∀b o,u4 o=true->H b=some o->H' b=some o
theorem Same.tups{H H':Hp}(s:Same H H'):TupS H H':=fun b o _ q=>s b _ q
theorem TupS.trans{H H1 H2:Hp}(a:TupS H H1)(b:TupS H1 H2):TupS H H2:=fun c o i q=>b c o i (a c o i q)
theorem TupS.refl(H:Hp):TupS H H:=fun _ _ _ q=>q
theorem kx{H:Hp}{l:Addr}{xs ys:List V}(h:H l=some (.lst xs)):TupS H (upd H l (.lst ys)):=fun b o i q=>by
 have:b≠l:=fun z=>by rw[z,h]at q;cases q;cases i
 rw[ix this]
 exact q
theorem tN{H:Hp}{l:Addr}{o:HO}(h:H l=none):TupS H (upd H l o):=(iq h o).tups
theorem Pr.tups{H H':Hp}{v:V}{p:Int×Int}(h:Pr H v p)(s:TupS H H'):Pr H' v p:=let⟨t,e,q⟩:=h;⟨t,e,s _ _ rfl q⟩
def Scr(K:PySem.W.Frag)(H:Hp)(a:Addr)(ns:List Int):Prop:=
 (∃o,H a=some (.frz o (.lst (ns.map V.int))))\/∃(o:Obj) (its:Array Value) (n:Nat),K.lookup a=some o/\o.cls= .type "list"/\o.dict=none/\o.data= .seq its n/\its.size<=sizeLine/\Vals (ns.map V.int) its.toList
theorem Scr.sq{K:PySem.W.Frag}{H:Hp}{a:Addr}{ns:List Int}(h:Scr K H a ns):SqL K H a (ns.map V.int):=h.elim (fun⟨o,q⟩=>.inl (.inr ⟨o,q⟩)) .inr
theorem Scr.of{K:PySem.W.Frag}{H:Hp}{a:Addr}{ns:List Int}(h:SqL K H a (ns.map V.int))(o:uF H):Scr K H a ns:=by
 rcases h with(h|⟨ob,h⟩)|h
 ·rcases o a with z|⟨ob,xs,z⟩
  ·rw[h]at z;cases z
  ·rw[h]at z;cases z
 ·exact .inl ⟨ob,h⟩
 ·exact .inr h
theorem Scr.tups{K:PySem.W.Frag}{H H':Hp}{a:Addr}{ns:List Int}(h:Scr K H a ns)(s:TupS H H'):Scr K H' a ns:=h.elim (fun⟨o,q⟩=>.inl ⟨o,s _ _ rfl q⟩) .inr
abbrev Prs(H:Hp):List V->List (Int×Int)->Prop:=Paired (Pr H)
theorem Prs.tups{H H':Hp}(s:TupS H H'){xs:List V}{ps:List (Int×Int)}(h:Prs H xs ps):Prs H' xs ps:=Paired.mapP h fun _ _ q=>q.tups s
theorem Prs.same{H H':Hp}(s:Same H H'){xs:List V}{ps:List (Int×Int)}(h:Prs H xs ps):Prs H' xs ps:=Prs.tups s.tups h
theorem jl{α β:Type}{F:α->β->Prop}:∀{xs:List α} {ys:List β} {i:Nat} {x:α},Paired F xs ys->xs[i]? =some x->∃y,ys[i]? =some y/\F x y
 |_,_,_,_,.nil,e=>by simp at e
 |_,_,0,_,.cons r _,e=>by simp at e;subst e;exact⟨_,rfl,r⟩
 |_,_,i+1,y,.cons _ t,e=>by
  obtain⟨u,h1,h2⟩:=jl (i:=i) t (by simpa using e)
  exact⟨u,by simpa using h1,h2⟩
theorem l6{α β:Type}{F:α->β->Prop}:∀{xs:List α} {ys:List β} {i:Nat} {y:β},Paired F xs ys->ys[i]? =some y->∃x,xs[i]? =some x/\F x y
 |_,_,_,_,.nil,e=>by simp at e
 |_,_,0,_,.cons r _,e=>by simp at e;subst e;exact⟨_,rfl,r⟩
 |_,_,i+1,y,.cons _ t,e=>by
  obtain⟨u,h1,h2⟩:=l6 (i:=i) t (by simpa using e)
  exact⟨u,by simpa using h1,h2⟩
theorem kg{α β:Type}{F:α->β->Prop}{a:α}{b:β}{l₁:List α}{l₂:List β}(h:Paired F l₁ l₂)(r:F a b):Paired F (l₁++[a]) (l₂++[b]):=Paired.snoc h r
theorem nh{α:Type}{l:List α}{i:Nat}{x:α}(h:l[i]? =some x):l.drop i=x::l.drop (i+1):=by
 obtain⟨h1,h2⟩:=aq.mp h
 rw[fE h1,h2]
theorem je{α:Type}{l:List α}{i:Nat}{x:α}(h:l[i]? =some x):l.take (i+1)=l.take i++[x]:=by
 obtain⟨h1,h2⟩:=aq.mp h
 rw[List.take_succ,h]
 rfl
inductive Dt where
 |non
 |bl (b:Bool)
 |int (i:Int)
 |str (x:Str)
 |tup (ds:List Dt)
 |lst (ds:List Dt)
mutual
noncomputable def Rep(H:Hp):Dt->V->Prop
 | .non,v=>v= .non
 | .bl b,v=>v= .bl b
 | .int i,v=>v= .int i
 | .str x,v=>v= .str x
 | .tup ds,v=>∃a vs,v= .ref a/\H a=some (.tup vs)/\Reps H ds vs
 | .lst ds,v=>∃a vs,v= .ref a/\H a=some (.lst vs)/\Reps H ds vs
noncomputable def Reps(H:Hp):List Dt->List V->Prop
 |[],vs=>vs=[]
 |d::ds,vs=>∃v r,vs=v::r/\Rep H d v/\Reps H ds r
end
mutual
theorem Rep.same{H H':Hp}(s:Same H H'):∀(d:Dt) {v:V},Rep H d v->Rep H' d v
 | .non,_,h=>by rw[Rep]at*;exact h
 | .bl _,_,h=>by rw[Rep]at*;exact h
 | .int _,_,h=>by rw[Rep]at*;exact h
 | .str _,_,h=>by rw[Rep]at*;exact h
 | .tup ds,_,h=>by
  rw[Rep]at*
  obtain⟨a,vs,e,q,r⟩:=h
  exact⟨a,vs,e,s _ _ q,Reps.same s ds r⟩
 | .lst ds,_,h=>by
  rw[Rep]at*
  obtain⟨a,vs,e,q,r⟩:=h
  exact⟨a,vs,e,s _ _ q,Reps.same s ds r⟩
theorem Reps.same{H H':Hp}(s:Same H H'):∀(ds:List Dt) {vs:List V},Reps H ds vs->Reps H' ds vs
 |[],_,h=>by rw[Reps]at*;exact h
 |d::ds,_,h=>by
  rw[Reps]at*
  obtain⟨v,r,e,h1,h2⟩:=h
  exact⟨v,r,e,Rep.same s d h1,Reps.same s ds h2⟩
end
theorem Reps.len{H:Hp}:∀{ds:List Dt} {vs:List V},Reps H ds vs->vs.length=ds.length
 |[],_,h=>by rw[Reps]at h;subst h;rfl
 |d::ds,_,h=>by
  rw[Reps]at h
  obtain⟨v,r,e,h1,h2⟩:=h
  rw[e,List.length_cons,List.length_cons,Reps.len h2]
theorem Reps.at{H:Hp}:∀{ds:List Dt} {vs:List V} {i:Nat} {v:V},Reps H ds vs->vs[i]? =some v->∃d,ds[i]? =some d/\Rep H d v
 |[],_,i,v,h,e=>by rw[Reps]at h;rw[h]at e;simp at e
 | d::ds,_,i,v,h,e=>by
  rw[Reps]at h
  obtain⟨w,r,e1,h1,h2⟩:=h
  subst e1
  cases i with
  |zero=>simp at e;subst e;exact⟨d,rfl,h1⟩
  |succ i=>
   obtain⟨d',q1,q2⟩:=Reps.at h2 (i:=i) (by simpa using e)
   exact⟨d',by simpa using q1,q2⟩
noncomputable def jd(p:Int×Int):Dt:=.tup [.int p.1,.int p.2]
theorem Pr.rep{H:Hp}{v:V}{p:Int×Int}(h:Pr H v p):Rep H (jd p) v:=by
 obtain⟨t,e,q⟩:=h
 rw[jd,Rep]
 refine⟨t,_,e,q,?_⟩
 rw[Reps]
 refine⟨_,_,rfl,(by rw[Rep]),?_⟩
 rw[Reps]
 exact⟨_,_,rfl,(by rw[Rep]),(by rw[Reps])⟩
theorem Prs.reps{H:Hp}:∀{xs:List V} {ps:List (Int×Int)},Prs H xs ps->Reps H (ps.map jd) xs
 |_,_,.nil=>by rw[bJ,Reps]
 |_,_,.cons r t=>by rw[ai,Reps];exact⟨_,_,rfl,r.rep,Prs.reps t⟩
theorem qO{H:Hp}:∀(ns:List Int),Reps H (ns.map Dt.int) (ns.map V.int)
 |[]=>by rw[bJ,Reps,bJ]
 |n::r=>by rw[ai,Reps,ai];exact⟨_,_,rfl,(by rw[Rep]),qO r⟩
def xB:List V->Hp->VK->Prop:=fun vs H Q=>match vs with
 |[.int i,.int j]=>Q (.int (if i<j then j else i)) H
 |_=>False
theorem yv{X:Cx}(hc:X.calm=true):jct X (.builtin "max") xB:=(Gw hc).imp fun vs H Q h=>by
 unfold xB at h
 split at h
 ·refine⟨_,_,rfl,?_⟩
  first|exact h|(rename_i i j;by_cases c:i<j<;>simp_all)
 ·exact h.elim
def uz(neg:Bool):R2:=fun x y H Q=>match y with
 | .ref p=>match ir H p with
  |some xs=>ll x=true/\xs.all ll=true/\Q (.bl (if neg=true then !n6 x xs else n6 x xs)) H
  |none=>False
 |_=>False
theorem J7{K:PySem.W.Frag}{neg:Bool}{x y:V}{H:Hp}{Q:VK}(h:uz neg x y H Q):yq K neg x y H Q:=by
 unfold uz at h
 split at h
 ·split at h
  ·rename_i xs e
   obtain⟨h1,h2,h3⟩:=h
   exact⟨_,xs,rfl,tM e,h1,h2,h3⟩
  ·exact h.elim
 ·exact h.elim
theorem qg{X:Cx}:OpR X (compareOp .In) (uz false):=G3.imp fun _ _ _ _=>J7
theorem tY(ns:List Int):(ns.map V.int).all ll=true:=by
 rw[cV]
 intro v hv
 obtain⟨n,_,e⟩:=av.mp hv
 rw [<- e]
 rfl
theorem tE(n:Int)(ns:List Int):n6 (.int n) (ns.map V.int)=decide (n∈ns):=by
 rw[bP,n6,dZ,decide_eq_true_iff]
 constructor
 ·rintro⟨v,hv,e⟩
  obtain⟨m,hm,e2⟩:=av.mp hv
  subst e2
  have:m=n:=by simpa[mj]using e
  rw [<- this]
  exact hm
 ·intro h
  exact⟨.int n,cg h,by simp[mj]⟩
def DM:List V->Hp->VK->Prop:=fun vs H Q=>∃(p:Addr) (ns:List Int),vs=[.ref p]/\H p=some (.lst (ns.map V.int))/\ns.length<64/\
 ∀(l:Addr) (ms:List Int),H l=none->ms.Perm ns->ms.Pairwise (·<=·)->Q (.ref l) (upd H l (.lst (ms.map V.int)))
theorem BM{X:Cx}:jct X (.builtin "sorted") DM:=by
 intro pins s σ H xs us Q I r h
 obtain⟨p,ns,rfl,e,h64,q⟩:=h
 obtain⟨u,rfl,rx⟩:=mL r
 cases rx
 obtain⟨its,r',pl,hz⟩:=I.list (SqL.of e)
 have hI:=nY r'
 have hlen:=r'.length
 rw[aa]at hlen
 refine sorted_ints pl.isList hI (by lia) fun out ms a1 a2 a3=>?_
 obtain⟨c,hc⟩:=sortedAll_at s.heap its out
 have hml:=a2.length_eq
 have hz2:=oE
 refine⟨.ref (s.heap.objs.size+1),_,I.laid (t':=s.toks) (fun _ _=>sortedAll_old) (fk _) (show jc7 X.prog X.w _ _ _ (.lst (ms.map V.int))from⟨?_,out.toList,c,ug a1,?_⟩),rfl,q _ ms (I.hok.fresh (fk _)) a2 a3⟩
 ·rw[aa,hml];exact br (fQ h64) (by decide)
 ·rw[hc]
theorem Bt{P:Program}{w:World}:∀{kvs:List (ij×V)} {vs:List (ij×Value)} {ns:List Int},KV kvs vs->kvs.map (·.1)=ns.map Sum.inl->∀{us:List Value},us.length=vs.length->(∀(j:Nat) (v:Value),us[j]? =some v->∃k x,vs[j]? =some (k,x)/\(jY P w).is k v=true)->IntsAre us ns
 | [],_,ns,.nil,hk,us,hl,_=>by
  cases ns with
  |nil=>cases us with
   |nil=>exact .nil
   |cons _ _=>simp at hl
  |cons _ _=>simp at hk
 | kv::kvs,_,ns,.cons (b:=b) r t,hk,us,hl,hv=>by
  cases ns with
  |nil=>simp at hk
  | cons n ns=>
   cases us with
   |nil=>simp at hl
   | cons u us=>
    rw[ai,ai]at hk
    injection hk with hk1 hk2
    obtain⟨k,x,e1,e2⟩:=hv 0 u rfl
    simp only[List.getElem?_cons_zero,cD]at e1
    have hkn:k = Sum.inl n:=by rw [<- hk1,r.1,e1]
    rw[hkn]at e2
    rcases mN (show oq (Sum.inl n) u=true from e2)with⟨i,t',ei,ev⟩|⟨y,t',ei,ev⟩
    ·cases ei
     rw[ev]
     refine .cons n t' (Bt (P:=P) (w:=w) t hk2 (by simpa using hl) fun j v hj=>?_)
     obtain⟨k',x',z1,z2⟩:=hv (j+1) v (by simpa using hj)
     exact⟨k',x',by simpa using z1,z2⟩
    ·cases ei
def DN:List V->Hp->VK->Prop:=fun vs H Q=>∃(p:Addr) (kvs:List (ij×V)) (ns:List Int),vs=[.ref p]/\H p=some (.dK kvs)/\kvs.map (·.1)=ns.map Sum.inl/\ns.length<64/\
 ∀(l:Addr) (ms:List Int),H l=none->ms.Perm ns->ms.Pairwise (·<=·)->Q (.ref l) (upd H l (.lst (ms.map V.int)))
theorem xa{X:Cx}(hc:X.calm=true):jct X (.builtin "sorted") DN:=by
 intro pins s σ H xs us Q I r h
 obtain⟨p,kvs,ns,rfl,e,hk,h64,q⟩:=h
 obtain⟨u,rfl,rx⟩:=mL r
 cases rx
 obtain⟨z,lo,vs',rel,dd⟩:=rK I.hok e
 obtain⟨ep,hat⟩:=dd.dictAt
 have hkl:=rel.length
 refine Calls.call_function_entry kind_sorted plain_sorted entry_sorted (args_sorted1 _) ?_
 unfold Builtin.«sorted»
 refine ae (m:=checkCount "sorted" 1 1 _) (aI ?_)
 refine ae (PySem.W.kdu_collect (PySem.W.kdl_dict (knd:=jY X.prog X.w) (kvs:=vs') (ep:=ep) lo) (I.ok.hd hc) hat (by lia) fun h' tk acc hkp hacc=>?_)
 have hl:acc.toList.length=vs'.length:=by rw[Array.length_toList];exact hacc.1
 have hI:IntsAre acc.toList ns:=Bt rel hk hl fun j v ej=>hacc.2 j v (by rw [<- Array.getElem?_toList]; exact ej)
 have hnl:ns.length=kvs.length:=by
  have:=bV List.length hk
  simpa using this.symm
 refine ae (wpAny_newList ?_ (by lia))
 have hoL:(h'.push (seqObj "list" acc.toList.toArray 0)).get? h'.objs.size=some (seqObj "list" acc.toList.toArray 0):=aQ _ rfl
 show wpAny _ _ _ _ _ {s with heap:=h'.push (seqObj "list" acc.toList.toArray 0),toks:=tk}
 refine ae (cM (dX slot_list_sort ⟨_,hoL,rfl⟩ entry_list_sort (list_sort_tree hoL hI (by lia) fun out ms a1 a2 a3=>⟨_,rfl,?_⟩) (args_list_sort _)))
 refine aI ⟨_,rfl,?_⟩
 have hlt:∀b o,h'.get? b=some o->b<h'.objs.size:=fun b o eb=>aL eb
 have kp:∀b o,h'.get? b=some o->(sortedHeap (h'.push (seqObj "list" acc.toList.toArray 0)) h'.objs.size acc.toList out).get? b=some o:=fun b o eb=>by
  rw[sortedHeap_old (bj (hlt b o eb)) (by rw[gB];exact dQ (hlt b o eb)),Heap.get?_push_ne _ _ _ (bj (hlt b o eb))]
  exact eb
 obtain⟨c,hcc⟩:=sortedHeap_at (out:=out) hoL
 have hml:=a2.length_eq
 have I1:Inv X pins σ H {s with heap:=h',toks:=tk}:=I.kept hkp
 refine⟨.ref h'.objs.size,_,I1.laid (t':=tk) kp (aF _) (show jc7 X.prog X.w _ _ _ (.lst (ms.map V.int))from⟨?_,out.toList,c,ug a1,?_⟩),rfl,q _ ms (I1.hok.fresh (aF _)) a2 a3⟩
 ·rw[aa,hml];exact br (fQ h64) (by decide)
 ·rw[hcc]
mutual
noncomputable def i4:Dt->Dt->Bool
 | .non,.non=>true
 | .bl a,.bl b=>a==b
 | .bl a,.int b=>(if a then 1 else 0)==b
 | .int a,.bl b=>a==(if b then 1 else 0)
 | .int a,.int b=>a==b
 | .str a,.str b=>a==b
 | .tup a,.tup b=>j7 a b
 | .lst a,.lst b=>j7 a b
 |_,_=>false
noncomputable def j7:List Dt->List Dt->Bool
 |[],[]=>true
 |a::r,b::t=>i4 a b&&j7 r t
 |_,_=>false
end
mutual
noncomputable def jF:Dt->Nat
 | .tup a=>jo a+1
 | .lst a=>jo a+1
 |_=>0
noncomputable def jo:List Dt->Nat
 |[]=>0
 |a::r=>max (jF a) (jo r)
end
noncomputable def lW(a b:List Dt)(j:Nat):Bool:=match a[j]?,b[j]? with
 |some x,some y=>i4 x y
 |_,_=>false
theorem pE:∀{a b:List Dt},a.length≠b.length->j7 a b=false
 |[],[],h=>absurd rfl h
 |[],_::_,_=>by simp[j7]
 |_::_,[],_=>by simp[j7]
 |x::a,y::b,h=>by
  rw[j7,pE (by simpa using h),fD]
theorem Ha:∀(n:Nat) (f:Nat->Bool),(List.range (n+1)).all f=(f 0&&(List.range n).all fun j=>f (j+1)):=fun n f=>by
 rw[List.range_succ_eq_map,List.all_cons,fS]
 rfl
theorem pK:∀{a b:List Dt},a.length=b.length->j7 a b=(List.range a.length).all (lW a b)
 |[],[],_=>by rw[j7];rfl
 |[],_::_,h=>by simp at h
 |_::_,[],h=>by simp at h
 |x::a,y::b,h=>by
  rw[j7,pK (a:=a) (b:=b) (by simpa using h),List.length_cons,Ha]
  rfl
theorem tu:∀{a:List Dt} {j:Nat} {d:Dt},a[j]? =some d->jF d<=jo a
 |[],_,_,h=>by simp at h
 |x::a,0,d,h=>by
  simp at h;subst h
  rw[jo];lia
 |x::a,j+1,d,h=>by
  have:=tu (a:=a) (j:=j) (by simpa using h)
  rw[jo];lia
noncomputable def km:Dt->Option V
 | .non=>some .non
 | .bl b=>some (.bl b)
 | .int i=>some (.int i)
 | .str x=>some (.str x)
 |_=>none
theorem FT{d e:Dt}{x y:V}(hd:km d=some x)(he:km e=some y):i4 d e=mj x y:=by
 cases d<;>cases e<;>simp only[km,cD,reduceCtorEq]at hd he<;>subst hd<;>subst he<;>simp[i4,mj]
theorem wz{H:Hp}{d:Dt}{x v:V}(hd:km d=some x)(h:Rep H d v):v=x/\ll x=true:=by
 cases d<;>simp only[km,cD,reduceCtorEq]at hd<;>subst hd<;>rw[Rep]at h<;>exact⟨h,rfl⟩
section
variable{X:Cx}{pins:List (Addr×Obj)}{σ:St}{H:Hp}{s:Shared}
theorem Inv.tupE(I:Inv X pins σ H s){a:Addr}{vs:List V}(e:H a=some (.tup vs)):∃its:List Value,Vals vs its/\s.heap.IsTuple a its.toArray:=by
 obtain⟨its,r,p,_⟩:=I.tuple (SqT.of e)
 exact⟨its,r,p⟩
theorem Inv.lstE(I:Inv X pins σ H s){a:Addr}{vs:List V}(e:H a=some (.lst vs)):∃its:List Value,Vals vs its/\s.heap.IsList a its.toArray:=by
 obtain⟨its,r,p,_⟩:=I.list (SqL.of e)
 exact⟨its,r,p.isList⟩
mutual
theorem kR:∀d:Dt,i4 d d=true
 | .non=>by simp[i4]
 | .bl _=>by simp[i4]
 | .int _=>by simp[i4]
 | .str _=>by simp[i4]
 | .tup a=>by rw[i4];exact wN a
 | .lst a=>by rw[i4];exact wN a
theorem wN:∀a:List Dt,j7 a a=true
 |[]=>by rw[j7]
 |d::r=>by rw[j7,kR d,wN r];rfl
end
mutual
theorem Rep.inj{H:Hp}:∀{d e:Dt} {v:V},Rep H d v->Rep H e v->d=e
 | .non,e,v,h1,h2=>by rw[Rep]at h1;subst h1;cases e<;>simp[Rep]at h2 ⊢
 | .bl _,e,v,h1,h2=>by rw[Rep]at h1;subst h1;cases e<;>simp[Rep]at h2 ⊢;exact h2
 | .int _,e,v,h1,h2=>by rw[Rep]at h1;subst h1;cases e<;>simp[Rep]at h2 ⊢;exact h2
 | .str _,e,v,h1,h2=>by rw[Rep]at h1;subst h1;cases e<;>simp[Rep]at h2 ⊢;exact h2
 | .tup ds,e,v,h1,h2=>by
  rw[Rep]at h1
  obtain⟨a,vs,rfl,q,r⟩:=h1
  cases e with
  |tup es=>
   rw[Rep]at h2
   obtain⟨a',vs',e',q',r'⟩:=h2
   cases e'
   rw[q]at q';cases q'
   rw[Reps.inj r r']
  |lst es=>
   rw[Rep]at h2
   obtain⟨a',vs',e',q',r'⟩:=h2
   cases e'
   rw[q]at q';cases q'
  |non=>rw[Rep]at h2;cases h2
  |bl _=>rw[Rep]at h2;cases h2
  |int _=>rw[Rep]at h2;cases h2
  |str _=>rw[Rep]at h2;cases h2
 | .lst ds,e,v,h1,h2=>by
  rw[Rep]at h1
  obtain⟨a,vs,rfl,q,r⟩:=h1
  cases e with
  |lst es=>
   rw[Rep]at h2
   obtain⟨a',vs',e',q',r'⟩:=h2
   cases e'
   rw[q]at q';cases q'
   rw[Reps.inj r r']
  |tup es=>
   rw[Rep]at h2
   obtain⟨a',vs',e',q',r'⟩:=h2
   cases e'
   rw[q]at q';cases q'
  |non=>rw[Rep]at h2;cases h2
  |bl _=>rw[Rep]at h2;cases h2
  |int _=>rw[Rep]at h2;cases h2
  |str _=>rw[Rep]at h2;cases h2
theorem Reps.inj{H:Hp}:∀{ds es:List Dt} {vs:List V},Reps H ds vs->Reps H es vs->ds=es
 |[],es,vs,h1,h2=>by
  rw[Reps]at h1;subst h1
  cases es with
  |nil=>rfl
  |cons e es=>rw[Reps]at h2;obtain⟨_,_,z,_⟩:=h2;cases z
 | d::ds,es,vs,h1,h2=>by
  rw[Reps]at h1
  obtain⟨v,r,rfl,q1,q2⟩:=h1
  cases es with
  |nil=>rw[Reps]at h2;cases h2
  |cons e es=>
   rw[Reps]at h2
   obtain⟨v',r',z,p1,p2⟩:=h2
   cases z
   rw[Rep.inj q1 p1,Reps.inj q2 p2]
end
theorem Ct{d e:Dt}(hd:km d=none){y:V}(he:km e=some y):i4 d e=false/\i4 e d=false:=by
 cases d<;>cases e<;>simp only[km,cD,reduceCtorEq]at hd he<;>simp[i4]
theorem yH:∀(n:Nat) {A:Around} (I:Inv X pins σ H s) {d e:Dt} {x y:V} {u v:Value},jF d<=n->A.units+n<cLine->Rep H d x->Rep H e y->RelV x u->RelV y v->SeqAt.EqAt A s u v (i4 d e):=by
 intro n
 induction n with
 | zero=>
  intro A I d e x y u v hn hu rd re rx ry
  have hf:∃z,km d=some z:=by
   cases d<;>simp only[jF,km]at hn ⊢ <;>first|exact⟨_,rfl⟩|lia
  obtain⟨z,hz⟩:=hf
  obtain⟨rfl,fz⟩:=wz hz rd
  cases he:km e with
  |some y'=>
   obtain⟨rfl,fy⟩:=wz he re
   rw[FT hz he]
   exact yI rx ry fz fy
  | none=>
   rw[(Ct he hz).2]
   have hu0:A.units<cLine:=by lia
   cases e<;>simp only[km,reduceCtorEq]at he
   ·rw[Rep]at re
    obtain⟨a,vs,rfl,q,_⟩:=re
    cases ry
    obtain⟨its,_,p⟩:=I.tupE q
    cases d<;>simp only[km,cD,reduceCtorEq]at hz<;>subst hz
    ·cases rx;exact SeqAt.EqAt.none_tuple p hu0
    ·cases rx;exact SeqAt.EqAt.bool_tuple _ p hu0
    ·obtain⟨t,rfl⟩:=rx;exact SeqAt.EqAt.int_tuple _ _ p hu0
    ·obtain⟨t,rfl⟩:=rx;exact SeqAt.EqAt.str_tuple _ _ p hu0
   ·rw[Rep]at re
    obtain⟨a,vs,rfl,q,_⟩:=re
    cases ry
    obtain⟨its,_,p⟩:=I.lstE q
    cases d<;>simp only[km,cD,reduceCtorEq]at hz<;>subst hz
    ·cases rx;exact SeqAt.EqAt.none_list p hu0
    ·cases rx;exact SeqAt.EqAt.bool_list _ p hu0
    ·obtain⟨t,rfl⟩:=rx;exact SeqAt.EqAt.int_list _ _ p hu0
    ·obtain⟨t,rfl⟩:=rx;exact SeqAt.EqAt.str_list _ _ p hu0
 | succ n ih=>
  intro A I d e x y u v hn hu rd re rx ry
  have hu0:A.units<cLine:=by lia
  have items:∀{ds es:List Dt} {vs ws:List V} {its its2:List Value},jo ds<=n->Reps H ds vs->Reps H es ws->Vals vs its->Vals ws its2->
    ∀j (h1:j<its.toArray.size) (h2:j<its2.toArray.size),SeqAt.EqAt A.in1 s its.toArray[j] its2.toArray[j] (lW ds es j):=by
   intro ds es vs ws its its2 hdp r1 r2 w1 w2 j h1 h2
   rw[aC]at h1 h2
   have l1:=w1.length
   have l2:=w2.length
   obtain⟨u',e1,q1⟩:=w1.get (i:=j) (x:=vs[j]'(by lia)) (gE _)
   obtain⟨v',e2,q2⟩:=w2.get (i:=j) (x:=ws[j]'(by lia)) (gE _)
   obtain⟨d',f1,g1⟩:=r1.at (i:=j) (gE (by lia))
   obtain⟨e',f2,g2⟩:=r2.at (i:=j) (gE (by lia))
   rw[gE h1]at e1
   rw[gE h2]at e2
   cases e1;cases e2
   have hj:lW ds es j=i4 d' e':=by unfold lW;rw[f1,f2]
   rw[hj]
   have:=tu f1
   exact ih (A:=A.in1) I (by lia) (by show A.units+1+n<cLine;lia) g1 g2 q1 q2
  cases hf:km d with
  |some z=>
   refine ih I ?_ (by lia) rd re rx ry
   cases d<;>simp only[km,reduceCtorEq]at hf<;>simp[jF]
  | none =>
   cases he:km e with
   | some y'=>
    rw[(Ct hf he).1]
    obtain⟨rfl,fy⟩:=wz he re
    cases d<;>simp only[km,reduceCtorEq]at hf
    ·rw[Rep]at rd
     obtain⟨a,vs,rfl,q,_⟩:=rd
     cases rx
     obtain⟨its,_,p⟩:=I.tupE q
     cases e<;>simp only[km,cD,reduceCtorEq]at he<;>subst he
     ·cases ry;exact SeqAt.EqAt.tuple_none p hu0
     ·cases ry;exact SeqAt.EqAt.tuple_bool _ p hu0
     ·obtain⟨t,rfl⟩:=ry;exact SeqAt.EqAt.tuple_int _ _ p hu0
     ·obtain⟨t,rfl⟩:=ry;exact SeqAt.EqAt.tuple_str _ _ p hu0
    ·rw[Rep]at rd
     obtain⟨a,vs,rfl,q,_⟩:=rd
     cases rx
     obtain⟨its,_,p⟩:=I.lstE q
     cases e<;>simp only[km,cD,reduceCtorEq]at he<;>subst he
     ·cases ry;exact SeqAt.EqAt.list_none p hu0
     ·cases ry;exact SeqAt.EqAt.list_bool _ p hu0
     ·obtain⟨t,rfl⟩:=ry;exact SeqAt.EqAt.list_int _ _ p hu0
     ·obtain⟨t,rfl⟩:=ry;exact SeqAt.EqAt.list_str _ _ p hu0
   | none=>
    cases d<;>simp only[km,reduceCtorEq]at hf<;>cases e<;>simp only[km,reduceCtorEq]at he
    ·rename_i ds es
     have hn':jo ds<=n:=by rw[jF]at hn;lia
     have rd0:=rd
     have re0:=re
     rw[Rep]at rd
     rw[Rep]at re
     obtain⟨a,vs,rfl,q,r1⟩:=rd
     obtain⟨b,ws,rfl,q2,r2⟩:=re
     cases rx;cases ry
     by_cases hab:a=b
     ·subst hab
      rw[Rep.inj rd0 re0,kR]
      exact gX _
     ·obtain⟨its,w1,p1⟩:=I.tupE q
      obtain⟨its2,w2,p2⟩:=I.tupE q2
      have k:=SeqAt.RcAt.tuples p1 p2 hu0 (items hn' r1 r2 w1 w2)
      have e0:((List.range (min its.toArray.size its2.toArray.size)).all (lW ds es)&&its.toArray.size==its2.toArray.size)=i4 (.tup ds) (.tup es):=by
       have l1:=w1.length
       have l2:=w2.length
       have l3:=r1.len
       have l4:=r2.len
       rw[i4,aC,aC]
       by_cases hl:ds.length=es.length
       ·rw [pK hl,<- l1,<- l2,l3,l4,hl,Nat.min_self]
        simp
       ·rw[pE hl]
        have:(its.length==its2.length)=false:=by
         rw[cz];lia
        rw[this,fD]
      rw[e0]at k
      exact .of_refs hab k
    ·rename_i ds es
     rw[Rep]at rd
     rw[Rep]at re
     obtain⟨a,vs,rfl,q,r1⟩:=rd
     obtain⟨b,ws,rfl,q2,r2⟩:=re
     cases rx;cases ry
     obtain⟨its,w1,p1⟩:=I.tupE q
     obtain⟨its2,w2,p2⟩:=I.lstE q2
     have:i4 (.tup ds) (.lst es)=false:=by simp[i4]
     rw[this]
     exact SeqAt.EqAt.tuple_list p1 p2 hu0
    ·rename_i ds es
     rw[Rep]at rd
     rw[Rep]at re
     obtain⟨a,vs,rfl,q,r1⟩:=rd
     obtain⟨b,ws,rfl,q2,r2⟩:=re
     cases rx;cases ry
     obtain⟨its,w1,p1⟩:=I.lstE q
     obtain⟨its2,w2,p2⟩:=I.tupE q2
     have:i4 (.lst ds) (.tup es)=false:=by simp[i4]
     rw[this]
     exact SeqAt.EqAt.list_tuple p1 p2 hu0
    ·rename_i ds es
     have hn':jo ds<=n:=by rw[jF]at hn;lia
     have rd0:=rd
     have re0:=re
     rw[Rep]at rd
     rw[Rep]at re
     obtain⟨a,vs,rfl,q,r1⟩:=rd
     obtain⟨b,ws,rfl,q2,r2⟩:=re
     cases rx;cases ry
     by_cases hab:a=b
     ·subst hab
      rw[Rep.inj rd0 re0,kR]
      exact gX _
     ·obtain⟨its,w1,p1⟩:=I.lstE q
      obtain⟨its2,w2,p2⟩:=I.lstE q2
      have l1:=w1.length
      have l2:=w2.length
      have l3:=r1.len
      have l4:=r2.len
      refine .of_refs hab ?_
      rw[i4]
      by_cases hl:ds.length=es.length
      ·rw[pK hl]
       have k:=SeqAt.RcAt.lists p1 p2 (by rw[aC,aC];lia) hu0 (items hn' r1 r2 w1 w2)
       rw [aC,<- l1,l3] at k
       exact k
      ·rw[pE hl]
       exact SeqAt.RcAt.lists_lengths p1 p2 (by rw[aC,aC];simp;lia) hu0
end
section
variable{prog:Program}{w:World}{A:Around}{R:Result->Shared->Prop}{I:Addr}{fp wr:List Addr}{n:Nat}{P:Nat->Value->Prop}{St:Nat->Heap->Prop}
def Best(val:Nat->Int)(n:Nat)(m:Int):Prop:=(∃i,i<n/\m=val i)/\∀i,i<n->val i<=m
theorem Best.keep{val:Nat->Int}{j:Nat}{m:Int}(h:Best val j m)(hb:¬val j>m):Best val (j+1) m:=
 ⟨let⟨i,hi,e⟩:=h.1;⟨i,dQ hi,e⟩,fun i hi=>by
  rcases fH.mp hi with z|z
  ·exact h.2 i z
  ·rw[z];lia⟩
end
section
variable{X:Cx}
def ye(r:List V->List V->Hp->VK->Prop)(t tk:TA):TE:=fun σ H Q=>t σ H fun vs H1=>tk σ H1 fun zs H2=>r vs zs H2 Q
theorem G6{x k:Str}{p kp pos:Pos}{e g:Expr}{t tk:TA}{id:String}{r:List V->List V->Hp->VK->Prop}
  (hcall:∀(pins:List (Addr×Obj)) (s:Shared) (σ:St) (H:Hp) (xs zs:List V) (us ws:List Value) (Q:VK),Inv X pins σ H s->Vals xs us->Vals zs ws->r xs zs H Q->
   wpAny (model X.prog X.w) X.A (call (.builtin id) us ([k].zip ws)) (EP X pins σ Q) X.xe s)
  (hg:Gl X x) (hm:X.mg x=none) (hv:bootBuiltins x=some (.builtin id)) (ha:PA X [e] t) (hk:PK X [⟨some k,g,kp⟩] tk) (hn:x≠"__name__":=by decide) (hdb:(x==("__debug__":Str))=false:=by decide)
  (he:backTo pos (starEach [e] X.env)=(false,eval e X.env)::backTo pos (starEach [] X.env):=by rfl) (hpl:(backTo pos (starEach [e] X.env)).any (·.1)=false:=by rfl):PE X (.Call (.Name x p) [e] [⟨some k,g,kp⟩] pos) (ye r t tk):=by
 intro pins s σ H Q I h
 refine dA (nc I hg hm hv ?_ hn hdb)
 refine callWith_kw (iy (ha pos pins s σ H _ I h) fun us s1 ⟨vs,H1,I1,r1,q1⟩=>iy (hk pos pins s1 σ H1 _ I1 q1) fun ws s2 ⟨zs,H2,I2,r2,q2⟩=>?_) he hpl
 exact hcall pins s2 σ H2 vs zs us ws Q I2 r1 r2 q2
end
section
variable{X:Cx}{pins:List (Addr×Obj)}{σ:St}{H:Hp}{s:Shared}
theorem sH(n:Nat){A:Around}(I:Inv X pins σ H s){ds es:List Dt}{vs ws:List V}{its its2:List Value}(hdp:jo ds<=n)(hu:A.units+n<cLine)(r1:Reps H ds vs)(r2:Reps H es ws)(w1:Vals vs its)(w2:Vals ws its2):
  ∀j (h1:j<its.toArray.size) (h2:j<its2.toArray.size),SeqAt.EqAt A s its.toArray[j] its2.toArray[j] (lW ds es j):=by
 intro j h1 h2
 rw[aC]at h1 h2
 have l1:=w1.length
 have l2:=w2.length
 obtain⟨u',e1,q1⟩:=w1.get (i:=j) (x:=vs[j]'(by lia)) (gE _)
 obtain⟨v',e2,q2⟩:=w2.get (i:=j) (x:=ws[j]'(by lia)) (gE _)
 obtain⟨d',f1,g1⟩:=r1.at (i:=j) (gE (by lia))
 obtain⟨e',f2,g2⟩:=r2.at (i:=j) (gE (by lia))
 rw[gE h1]at e1
 rw[gE h2]at e2
 cases e1;cases e2
 have hj:lW ds es j=i4 d' e':=by unfold lW;rw[f1,f2]
 rw[hj]
 have:=tu f1
 exact yH n I (by lia) hu g1 g2 q1 q2
theorem B7{ds es:List Dt}{vs ws:List V}{its its2:List Value}(r1:Reps H ds vs)(r2:Reps H es ws)(w1:Vals vs its)(w2:Vals ws its2):
  ((List.range (min its.toArray.size its2.toArray.size)).all (lW ds es)&&its.toArray.size==its2.toArray.size)=j7 ds es:=by
 have l1:=w1.length
 have l2:=w2.length
 have l3:=r1.len
 have l4:=r2.len
 rw[aC,aC]
 by_cases hl:ds.length=es.length
 ·rw [pK hl,<- l1,<- l2,l3,l4,hl,Nat.min_self]
  simp
 ·rw[pE hl]
  have:(its.length==its2.length)=false:=by
   rw[cz];lia
  rw[this,fD]
def yr(neg:Bool):R2:=fun x y H Q=>∃d e,Rep H d x/\Rep H e y/\jF d<=20/\((∃ds es,d= .lst ds/\e= .lst es)\/∃ds es,d= .tup ds/\e= .tup es)/\Q (.bl (if neg=true then !i4 d e else i4 d e)) H
theorem se(hu:X.A.units+64<cLine):OpR X (compareOp .Eq) (yr false):=by
 intro pins s σ H x y v u Q I rx ry h
 obtain⟨d,e,rd,re,hd,hk,q⟩:=h
 have hu0:X.A.units<cLine:=by lia
 rcases hk with⟨ds,es,rfl,rfl⟩|⟨ds,es,rfl,rfl⟩
 ·have hn':jo ds<=20:=by rw[jF]at hd;lia
  rw[Rep]at rd re
  obtain⟨a,vs,rfl,q1,r1⟩:=rd
  obtain⟨b,ws,rfl,q2,r2⟩:=re
  cases rx;cases ry
  obtain⟨its,w1,p1⟩:=I.lstE q1
  obtain⟨its2,w2,p2⟩:=I.lstE q2
  have l1:=w1.length
  have l2:=w2.length
  have l3:=r1.len
  have l4:=r2.len
  by_cases hl:ds.length=es.length
  ·refine SeqAt.RcAt.lists (e:=lW ds es) p1 p2 (by rw[aC,aC];lia) hu0 (sH 20 I hn' (by show X.A.units+1+20<cLine;lia) r1 r2 w1 w2) _ _ _ _ ⟨.bl _,H,I,rfl,?_⟩
   rw [aC,<- l1,l3,<- pK hl]
   rw[i4]at q
   exact q
  ·refine SeqAt.RcAt.lists_lengths p1 p2 (by rw[aC,aC];simp;lia) hu0 _ _ _ _ ⟨.bl _,H,I,rfl,?_⟩
   rw[i4,pE hl]at q
   exact q
 ·have hn':jo ds<=20:=by rw[jF]at hd;lia
  rw[Rep]at rd re
  obtain⟨a,vs,rfl,q1,r1⟩:=rd
  obtain⟨b,ws,rfl,q2,r2⟩:=re
  cases rx;cases ry
  obtain⟨its,w1,p1⟩:=I.tupE q1
  obtain⟨its2,w2,p2⟩:=I.tupE q2
  refine SeqAt.RcAt.tuples (e:=lW ds es) p1 p2 hu0 (sH 20 I hn' (by show X.A.units+1+20<cLine;lia) r1 r2 w1 w2) _ _ _ _ ⟨.bl _,H,I,rfl,?_⟩
  rw[B7 r1 r2 w1 w2]
  rw[i4]at q
  exact q
theorem mv(hu:X.A.units+64<cLine):OpR X (compareOp .NotEq) (yr true):=by
 intro pins s σ H x y v u Q I rx ry h
 obtain⟨d,e,rd,re,hd,hk,q⟩:=h
 have hu0:X.A.units<cLine:=by lia
 rcases hk with⟨ds,es,rfl,rfl⟩|⟨ds,es,rfl,rfl⟩
 ·have hn':jo ds<=20:=by rw[jF]at hd;lia
  rw[Rep]at rd re
  obtain⟨a,vs,rfl,q1,r1⟩:=rd
  obtain⟨b,ws,rfl,q2,r2⟩:=re
  cases rx;cases ry
  obtain⟨its,w1,p1⟩:=I.lstE q1
  obtain⟨its2,w2,p2⟩:=I.lstE q2
  have l1:=w1.length
  have l2:=w2.length
  have l3:=r1.len
  have l4:=r2.len
  by_cases hl:ds.length=es.length
  ·refine SeqAt.RcNeAt.lists (e:=lW ds es) p1 p2 (by rw[aC,aC];lia) hu0 (sH 20 I hn' (by show X.A.units+1+20<cLine;lia) r1 r2 w1 w2) _ _ _ _ ⟨.bl _,H,I,rfl,?_⟩
   rw [aC,<- l1,l3,<- pK hl]
   rw[i4]at q
   exact q
  ·refine SeqAt.RcNeAt.lists_lengths p1 p2 (by rw[aC,aC];simp;lia) hu0 _ _ _ _ ⟨.bl _,H,I,rfl,?_⟩
   rw[i4,pE hl]at q
   exact q
 ·have hn':jo ds<=20:=by rw[jF]at hd;lia
  rw[Rep]at rd re
  obtain⟨a,vs,rfl,q1,r1⟩:=rd
  obtain⟨b,ws,rfl,q2,r2⟩:=re
  cases rx;cases ry
  obtain⟨its,w1,p1⟩:=I.tupE q1
  obtain⟨its2,w2,p2⟩:=I.tupE q2
  refine SeqAt.RcNeAt.tuples (e:=lW ds es) p1 p2 hu0 (sH 20 I hn' (by show X.A.units+1+20<cLine;lia) r1 r2 w1 w2) _ _ _ _ ⟨.bl _,H,I,rfl,?_⟩
  rw[B7 r1 r2 w1 w2]
  rw[i4]at q
  exact q
theorem RelV.inj'{x y:V}{u:Value}(h1:RelV x u)(h2:RelV y u):x=y:=aD (h1.abs.symm.trans h2.abs)
open Classical in
def mP(H:Hp)(d:Dt)(u:Value):Bool:=if h:∃c,∃x,RelV x u/\Rep H c x then i4 h.choose d else false
theorem yK{H:Hp}{d c:Dt}{x:V}{u:Value}(r:RelV x u)(p:Rep H c x):mP H d u=i4 c d:=by
 unfold mP
 have h:∃c,∃x,RelV x u/\Rep H c x:=⟨c,x,r,p⟩
 rw[dif_pos h]
 obtain⟨y,r2,p2⟩:=h.choose_spec
 have:=RelV.inj' r r2
 subst this
 rw[Rep.inj p2 p]
theorem vE{H:Hp}{d:Dt}:∀{cs:List Dt} {xs:List V} {us:List Value},Reps H cs xs->Vals xs us->us.any (mP H d)=cs.any fun c=>i4 c d
 |[],_,_,h,r=>by
  rw[Reps]at h;subst h
  cases r
  rfl
 |c::cs,_,_,h,r=>by
  rw[Reps]at h
  obtain⟨v,t,rfl,h1,h2⟩:=h
  cases r with
  |cons r1 r2=>rw[List.any_cons,List.any_cons,yK r1 h1,vE h2 r2]
def yp(neg:Bool):R2:=fun x y H Q=>∃(d:Dt) (p:Addr) (xs:List V) (cs:List Dt),Rep H d x/\y= .ref p/\H p=some (.lst xs)/\Reps H cs xs/\jo cs<=20/\Q (.bl (if neg=true then !cs.any (fun c=>i4 c d)else cs.any fun c=>i4 c d)) H
theorem AF(hu:X.A.units+64<cLine)(I:Inv X pins σ H s){d:Dt}{x:V}{v:Value}{cs:List Dt}{xs:List V}{its:List Value}(rd:Rep H d x)(rx:RelV x v)(rc:Reps H cs xs)(r:Vals xs its)(hd:jo cs<=20):
  ∀y,y∈its.toArray->SeqAt.EqAt X.A.in1 s y v (mP H d y):=by
 intro y hy
 have hy':y∈its:=by simpa using hy
 obtain⟨j,hj,e⟩:=bq.mp hy'
 have l1:=r.length
 obtain⟨u',e1,q1⟩:=r.get (i:=j) (x:=xs[j]'(by lia)) (gE _)
 obtain⟨c,f1,g1⟩:=rc.at (i:=j) (gE (by lia))
 rw[gE hj]at e1
 cases e1
 rw [<- e,yK q1 g1]
 have:=tu f1
 exact yH 20 I (by lia) (by show X.A.units+1+20<cLine;lia) g1 rd q1 rx
theorem En(hu:X.A.units+64<cLine):OpR X (compareOp .In) (yp false):=by
 intro pins s σ H x y v u Q I rx ry h
 obtain⟨d,p,xs,cs,rd,rfl,e,rc,hd,q⟩:=h
 cases ry
 obtain⟨its,r,pl⟩:=I.lstE e
 refine SeqAt.in_listAt (mP H d) pl (AF hu I rd rx rc r hd) ⟨.bl _,H,I,rfl,?_⟩
 rw[show its.toArray.any (mP H d)=its.any (mP H d) by simp,vE rc r]
 exact q
theorem Bz(hu:X.A.units+64<cLine):OpR X (compareOp .NotIn) (yp true):=by
 intro pins s σ H x y v u Q I rx ry h
 obtain⟨d,p,xs,cs,rd,rfl,e,rc,hd,q⟩:=h
 cases ry
 obtain⟨its,r,pl⟩:=I.lstE e
 refine SeqAt.notIn_listAt (mP H d) pl (AF hu I rd rx rc r hd) ⟨.bl _,H,I,rfl,?_⟩
 rw[show its.toArray.any (mP H d)=its.any (mP H d) by simp,vE rc r]
 exact q
end
section
variable{X:Cx}{o i e f value:Expr}{td ty tv tx:TE}{pos pos' apos cpos:Pos}
def y4(td ty tv:TE):TS:=fun D σ H=>tv σ H fun v H1=>td σ H1 fun x H2=>ty σ H2 fun y H3=>match x,y with
 | .ref a,.int n=>match H3 a with
  |some (.dK kvs)=>kvs.length<sizeLine/\D.nx σ (upd H3 a (.dK (jm kvs (Sum.inl n:ij) v)))
  |_=>False
 |_,_=>False
theorem Kg{x y:V}{H3:Hp}{R:List (ij×V)->Addr->Int->Prop}(h:match x,y with
 | .ref a,.int n=>match H3 a with
  |some (.dK kvs)=>R kvs a n
  |_=>False
 |_,_=>False):∃a n kvs,x= .ref a/\y= .int n/\H3 a=some (.dK kvs)/\R kvs a n:=by
 split at h
 ·split at h
  ·rename_i e;exact⟨_,_,_,rfl,rfl,e,h⟩
  ·exact h.elim
 ·exact h.elim
theorem EV{y:V}{a:Addr}{H3:Hp}{R:List (ij×V)->Int->Prop}(h:match y with
 | .int n=>match H3 a with
  |some (.dK kvs)=>R kvs n
  |_=>False
 |_=>False):∃n kvs,y= .int n/\H3 a=some (.dK kvs)/\R kvs n:=by
 split at h
 ·split at h
  ·rename_i e;exact⟨_,_,rfl,e,h⟩
  ·exact h.elim
 ·exact h.elim
theorem mx(hu:X.A.units+1<cLine)(ho:PE X o td)(hi:PE X i ty)(hv:PE X value tv)(hs:swapsWith value (some (.Subscript o i pos')) pos.line X.env=pure false:=by rfl):
  PS X (.Assign [.Subscript o i pos'] value pos) (y4 td ty tv):=by
 intro pins s σ H D I h
 refine wpAny_Assign_Subscript (iy (hv pins s σ H _ I h) fun r s1 ⟨v,H1,I1,rv,q1⟩=>iy (ho pins s1 σ H1 _ I1 q1) fun u s2 ⟨x,H2,I2,rx,q2⟩=>iy (hi pins s2 σ H2 _ I2 q2) fun iv s3 ⟨y,H3,I3,ry,q3⟩=>?_) hs
 obtain⟨a,n,kvs,rfl,rfl,ea,q4,q5⟩:=Kg (R:=fun kvs a n=>kvs.length<sizeLine/\D.nx σ (upd H3 a (.dK (jm kvs (Sum.inl n:ij) v)))) q3
 obtain rfl:u=Value.ref a:=rx
 exact Bk hu I3 (DPut.k (k:=Sum.inl n) ea q4) ry rv fun s4 I4=>⟨σ,_,I4,q5⟩
def yL(td ty tx:TE):TE:=fun σ H Q=>td σ H fun x H1=>match x with
 | .ref a=>(∃kvs,H1 a=some (.dK kvs))/\ty σ H1 fun y H2=>tx σ H2 fun z H3=>match y with
  | .int n=>match H3 a with
   |some (.dK kvs)=>Q ((iK kvs (Sum.inl n:ij)).getD z) H3
   |_=>False
  |_=>False
 |_=>False
theorem oI(hu:X.A.units+1<cLine)(ho:PE X o td)(he:PE X e ty)(hf:PE X f tx)(m:M2 X o "get" apos e f cpos:=by exact⟨rfl,rfl,rfl,rfl⟩):PE X (.Call (.Attribute o "get" apos) [e,f] [] cpos) (yL td ty tx):=by
  intro pins s σ H Q I h
  refine wpAny_Call_method m.base m.few m.line fK c6 PySem.F.type_dict_get (iy (ho pins s σ H _ I h) fun u s1 ⟨x,H1,I1,rx,q1⟩=>?_)
  cases x<;>first
    |exact False.elim q1
    | (rename_i a
       dsimp only at q1
       obtain⟨⟨kvs0,e0⟩,q1⟩:=q1
       obtain rfl:u=Value.ref a:=rx
       obtain⟨t1,t2,_⟩:=vj I1 (.inl ⟨kvs0,.inl e0⟩)
       refine⟨t1,t2,?_⟩
       rw[m.trees]
       refine dF rfl (gp (eI (iy (he pins s1 σ H1 _ I1 q1) fun iv s2 ⟨y,H2,I2,ry,q2⟩=>
         eI (iy (hf pins s2 σ H2 _ I2 q2) fun fv s3 ⟨z,H3,I3,rz,q3⟩=>gN ?_))))
       obtain⟨n,kvs,rfl,ea,q4⟩:=EV (R:=fun kvs n=>Q ((iK kvs (Sum.inl n:ij)).getD z) H3) q3
       exact Kc hu I3 (DGet.k (k:=Sum.inl n) ea) ry rz fun w' s4 I4 rw'=>⟨_,H3,I4,rw',q4⟩)
noncomputable def xH:R2:=fun x y H Q=>match x,y with
 | .ref l,.ref b=>match H l,H b with
  |some (.lst xs),some (.lst zs)=>xs.length+zs.length<=sizeLine/\∀p,H p=none->Q (.ref p) (upd H p (.lst (xs++zs)))
  |_,_=>False
 |_,_=>False
theorem u7:OpR X (binaryOp .Add) xH:=Es.imp fun x y H Q h=>by
 unfold xH at h
 split at h
 ·split at h
  ·rename_i e1 e2;exact⟨_,_,_,_,rfl,rfl,e1,e2,h.1,h.2⟩
  ·exact h.elim
 ·exact h.elim
noncomputable def vf:V->List V->Hp->VK->Prop:=fun x vs H Q=>match x,vs with
 | .ref l,[]=>match H l with
  |some (.lst _)=>Q .non (upd H l (.lst []))
  |_=>False
 |_,_=>False
theorem zX:MtR X "list.clear" vf:=MtR.imp (r:=yZ) (fun pins s σ H x xs v us Q I rx rv q=>F5 pins s σ H x xs v us Q I rx rv q) fun x vs H Q h=>by
 unfold vf at h
 split at h
 ·split at h
  ·rename_i xs e;exact⟨_,xs,rfl,rfl,e,h⟩
  ·exact h.elim
 ·exact h.elim
def CU(r:V->List V->Hp->VK->Prop)(to:TE):TE:=fun σ H Q=>to σ H fun x H1=>(∃a xs,x= .ref a/\H1 a=some (.lst xs))/\r x [] H1 Q
theorem yx{to:TE}{name:Str}{id:String}{r:V->List V->Hp->VK->Prop}(pa:PlainAttrs "list")(slot:Slot "list" name id)(hty:typeOf (.builtin id)=pure (.type "method_descriptor"))(hm:MtR X id r)(ho:PE X o to)
  (hbase:attributeBase o name X.env (eval o X.env)=eval o X.env:=by rfl) (hline:(apos.endLine==cpos.line)=true:=by rfl):PE X (.Call (.Attribute o name apos) [] [] cpos) (CU r to):=by
 intro pins s σ H Q I h
 refine wpAny_Call_method0_late hbase hline (iy (ho pins s σ H _ I h) fun v s1 ⟨x,H1,I1,r1,⟨a,xs,ex,ea⟩,q1⟩=>?_)
 subst ex
 obtain⟨h1,h2⟩:=zx (T:="list") I1 r1 (.inl ⟨rfl,_,SqL.of ea⟩)
 exact⟨"list",id,pa,slot,hty,h1,h2,dF rfl (PySem.evalArgs_none (hm pins s1 σ H1 _ [] v [] Q I1 r1 .nil q1))⟩
def xw:V->Option Int->Option Int->Hp->VK->Prop:=fun x lo hi H Q=>match x with
 | .ref a=>match H a with
  |some (.tup xs)=>¬(HT.iY xs.length 0 lo=0/\HT.iY xs.length xs.length hi=xs.length)/\∀p,H p=none->Q (.ref p) (upd H p (.tup (kW xs lo hi)))
  |_=>False
 |_=>False
theorem mq:SlR X xw:=Dy.imp fun x l u H Q h=>by
 unfold xw at h
 split at h
 ·split at h
  ·rename_i xs e;exact⟨_,xs,rfl,SqT.of e,h.1,h.2⟩
  ·exact h.elim
 ·exact h.elim
noncomputable def uV:List V->Hp->VK->Prop:=fun vs H Q=>match vs with
 |[.bl k]=>Q (.int (if k=true then 1 else 0)) H
 |[.int i]=>Q (.int i) H
 |_=>False
theorem D6:jct X (.type "int") uV:=Gv.imp fun vs H Q h=>by
 unfold uV at h
 split at h
 ·exact .inr ⟨_,rfl,h⟩
 ·exact .inl ⟨_,rfl,h⟩
 ·exact h.elim
end
section
variable{prog:Program}{w:World}{A:Around}{E:Value->Shared->Prop}
end
section
variable{X:Cx}{es:List Expr}{pos:Pos}
def J8(n:Nat)(t:lG):TG:=fun v σ H Q=>match v with
 | .ref a=>match H a with
  |some (.lst xs)=>xs.length=n/\t xs σ H Q
  |_=>False
 |_=>False
end
def Kr(h B:Heap)(x:Addr)(cl:Value)(dd:Option Addr)(fl:Value):Prop:=
 ∃ox ws T oT ts,h.get? x=some ox/\ox.cls=cl/\ox.dict=dd/\ox.data= .fields ws/\ws[1]? =some (.ref T)/\B.get? T=none/\T≠x/\h.get? T=some oT/\oT.data= .fields ts/\ts[3]? =some fl/\(dd≠none->ws[2]? =some .none)
structure FlyD(B:Heap)(l:List Env)(x:Addr)(cl:Value)(dd:Option Addr)(fl:Value)(h:Heap):Prop where
 stays:B.StaysIn h
 new:B.get? x=none
 funs:h.FunFrames B l
 tr:Kr h B x cl dd fl
theorem FlyD.there{B:Heap}{l:List Env}{x:Addr}{cl:Value}{dd:Option Addr}{fl:Value}{h:Heap}(f:FlyD B l x cl dd fl h):∃ox ws,h.get? x=some ox/\ox.cls=cl/\ox.dict=dd/\ox.data= .fields ws:=by
 obtain⟨ox,ws,_,_,_,h1,h2,h3,h4,_⟩:=f.tr
 exact⟨ox,ws,h1,h2,h3,h4⟩
section
variable{M:Model}{A:Around}{E:Value->Shared->Prop}{s:Shared}{B:Heap}{env:Env}{l:List Env}{L x:Addr}{cl:Value}{dd:Option Addr}{Q:Unit->Shared->Prop}
end
structure Df(X:Cx):Prop where
 stk:X.stack=X.env::X.outer
 fr:X.env.frame=some X.env.locals
 ex:X.ex=[]
 fn:∀x,X.fn x=true
structure Cov(X:Cx)(B:Heap)(H:Hp)(h:Heap):Prop where
 tr:∀b o,H b=some o->∃q,h.get? b=some q/\B.get? b=some q
 old:∀b o,X.s₀.heap.get? b=some o->b∉lp X.stack->∃q,h.get? b=some q/\B.get? b=some q
 pin:∀p∈X.pn,B.get? p.1=some p.2
 cel:∀x c,X.env.cells.lookup x=some c->∃q,h.get? c=some q/\B.get? c=some q
section
variable{X:Cx}{σ:St}{H:Hp}{s:Shared}{B h':Heap}
end
inductive Md(B:Heap)(l:List Env)(L x:Addr)(cl:Value)(dd:Option Addr)(h:Heap):Prop where
 |new {ox:Obj} {ws:Array Value}:h.get? x=some ox->ox.cls=cl->ox.dict=dd->ox.data= .fields ws->ws[1]? =some .none->(dd≠none->ws[2]? =some .none)->B.StaysIn h->B.get? x=none->h.FunFrames B l->Md B l L x cl dd h
 |fly:FlyD B l x cl dd .none h->Md B l L x cl dd h
 |held:FlyD B l x cl dd (rawInt L) h->Md B l L x cl dd h
theorem Md.stays{B:Heap}{l:List Env}{L x:Addr}{cl:Value}{dd:Option Addr}{h:Heap}(m:Md B l L x cl dd h):B.StaysIn h:=by
 cases m with
 |new _ _ _ _ _ _ s _ _=>exact s
 |fly f=>exact f.stays
 |held f=>exact f.stays
def XT(X:Cx)(EX:St->XK):Value->Shared->Prop:=fun e s'=>∃(x:Addr) (cl:Value) (dd:Option Addr) (σ:St) (H:Hp) (B:Heap),e= .ref x/\Inv X [] σ H s'/\H x=none/\X.s₀.heap.objs.size<=x/\Cov X B H s'.heap/\EX σ cl dd H/\Md B X.stack X.env.locals x cl dd s'.heap
noncomputable def Cx.tr(X:Cx)(pins:List (Addr×Obj))(EX:St->XK):Cx:={X with pn:=X.pn++pins,xe:=XT {X with pn:=X.pn++pins} EX}
theorem Cx.Ok.pn{X:Cx}(ok:X.Ok)(pn:List (Addr×Obj))(E:Value->Shared->Prop):({X with pn:=pn,xe:=E}:Cx).Ok:=
 ⟨ok.mod,ok.kind,ok.glob,ok.blt,ok.above,ok.inj,ok.has,ok.cab,ok.hd,ok.frames,ok.stk,ok.exf,ok.bs,ok.bsz,ok.noex,ok.exfs,ok.funs,ok.frf⟩
theorem Inv.tr{X:Cx}{pins:List (Addr×Obj)}{σ:St}{H:Hp}{s:Shared}(I:Inv X pins σ H s)(EX:St->XK):Inv (X.tr pins EX) [] σ H s:=
 ⟨I.ok.pn _ _,I.os,I.bare,I.base,I.loc,I.cell,I.free,I.freeC,fun p hp=>I.pin p (by
  have:p∈(X.pn++pins)++[]:=hp
  simpa using this),I.hok,I.len⟩
theorem Df.tr{X:Cx}(d:Df X)(pins:List (Addr×Obj))(EX:St->XK):Df (X.tr pins EX):=⟨d.stk,d.fr,d.ex,d.fn⟩
section
variable{X:Cx}{CX:lH}{k:Nat}{f:Addr}{fd:FuncData}{ps:List Str}{sp:Sp}{EX:St->XK}{x:Str}{p pos:Pos}{e:Expr}{es:List Expr}{t:TA}{ds:List Value}{dvs:List V}
end
section
variable{P:Program}{w:World}{K:PySem.W.Frag}{mg:Str->Option Value}{base:Heap}
end
section
variable{prog:Program}{w:World}{A:Around}{E:Value->Shared->Prop}{h:Heap}{g:Array GenState}{d:Drawn}{t:Nat}{os:OsState}
variable{nm q:Str}{C N:Addr}{bs bm bmB:List Value}{hdct:Bool}{sn:List Str}{sub:List Value}{ab:Bool}{col:Option Bool}{dd:Option Addr}{k0 k1 k2 k3 k5:Option Value}{B newId initId:String}
end
end L2
namespace L2
open PySem PySem.Spec PyProof.Rows Builtin Builtin.ObjectAttr
section
variable{prog:Program}{w:World}{A:Around}{E:Value->Shared->Prop}{h:Heap}{g:Array GenState}{d:Drawn}{t:Nat}{os:OsState}{C:Addr}{bmB:List Value}{B newId initId:String}
end
def jwb:Value->Bool
 | .ref _=>true
 |_=>false
theorem jwb.ex{v:Value}(h:jwb v=true):∃a,v= .ref a:=by
 cases v<;>first|exact⟨_,rfl⟩|cases h
section
variable{prog:Program}{w:World}{A:Around}{E:Value->Shared->Prop}{s:Shared}{K:PySem.W.Frag}{x C t0:Addr}{dz:Option Addr}{name:Str}{v:Value}{Q:Unit->Shared->Prop}
end
section
variable{P:Program}{w:World}{H:Hp}{h:Heap}{a C:Addr}{dd:Option Addr}{fs:List (Str×V)}
end
section
variable{X:Cx}{pins:List (Addr×Obj)}{σ:St}{H:Hp}{s:Shared}{h':Heap}{x dx:Addr}{φ:Heap->Prop}{o1 o2:HO}{t':Nat}
end
section
variable{X:Cx}{o value e:Expr}{es:List Expr}{f x:Str}{p pos pos' apos:Pos}{ta tv:TE}{t:TA}{C T:Addr}{bmB:List Value}{B newId initId:String}{fI:Addr}
end
section
variable{X:Cx}{EX:St->XK}{k:Nat}{fI C:Addr}{fd:FuncData}{ps:List Str}{sp:Sp}{x:Str}{p cpos pos:Pos}{e:Expr}{es:List Expr}{t:TA}{bmB:List Value}{B newId initId:String}
end
section
variable{X:Cx}{pins:List (Addr×Obj)}{σ:St}{H:Hp}{s:Shared}{x:Addr}{o:HO}
end
section
variable{X:Cx}{x n:Str}{np hpos pos:Pos}{body suite:List Stmt}{b0:Stmt}{C:Addr}{mt:Value->Prop}{i:Nat}{tb:(St->XK)->TS}{th:TS}
end
section
variable{X:Cx}{C dx a:Addr}{fs:List (Str×V)}{H:Hp}{s:Shared}
end
end L2
namespace L2
open PySem PySem.Spec PyProof.Rows Builtin Builtin.ObjectAttr
structure XG(K:PySem.W.Frag)(C:Addr):Prop where
 ga:PySem.W.findIn K (.ref C) "__getattribute__"=some (some (.builtin "BaseException.__getattribute__"))
 gt:PySem.W.findIn K (.ref C) "__getattr__"=some none
 sub:PySem.W.mroIn K C (.type "BaseException")=some true
section
variable{prog:Program}{w:World}{A:Around}{E:Value->Shared->Prop}{s:Shared}{K:PySem.W.Frag}{x C:Addr}{ox:Obj}{od:Option Obj}{name:Str}{v:Value}
end
structure XY(K:PySem.W.Frag)(C:Addr):Prop where
 g:XG K C
 hd:PySem.W.hasDictIn K C=true
 ha:PySem.W.findIn K (.ref C) "__class__"=some (some (.builtin "object.__class__"))
 hn:PySem.W.specialIn K (.builtin "object.__class__") "__get__"=some (some (.builtin "getset_descriptor.__get__"))
 ht:PySem.W.takesIn K (.builtin "object.__class__")=some true
 hm:PySem.W.mroIn K C (.type "object")=some true
theorem XY.cls{K:PySem.W.Frag}{C:Addr}(y:XY K C):∃c d cd sl,K.lookup C=some ⟨c,d,.cls cd,sl⟩:=by
 obtain⟨cd,hc,_⟩:=PySem.W.any_some y.hd
 unfold PySem.W.clsIn at hc
 split at hc
 ·rename_i ho
  exact⟨_,_,_,_,ho⟩
 ·cases hc
section
variable{X:Cx}{C dx a:Addr}{fs:List (Str×V)}{H:Hp}{s:Shared}
end
section
variable{X:Cx}
end
structure RoomH(k:Nat)(A:Around):Prop where
 dp:A.depth+3*k+5<recursionLimit
 un:A.units+16*k+200<cLine
theorem Room.h{j k:Nat}{A:Around}(r:Room k A)(h:j<=k):RoomH j A:=⟨(r.mono h).dp,(r.mono h).un⟩
theorem Room.hm{j k:Nat}{A:Around}{o:Option Value}(r:Room k A)(h:j<=k):RoomH j (A.mark o):=⟨(r.mono h).dp,(r.mono h).un⟩
theorem RoomH.mono{j k:Nat}{A:Around}(r:RoomH k A)(h:j<=k):RoomH j A:=⟨by have:=r.dp;lia,by have:=r.un;lia⟩
section
variable{P:Program}{w:World}{K:PySem.W.Frag}{mg:Str->Option Value}{base:Heap}
end
section
variable{X:Cx}{k:Nat}{f:Addr}{fd:FuncData}{ps:List Str}{sp:Sp}{x:Str}{p pos:Pos}{e:Expr}{es:List Expr}{t:TA}
end
section
variable{X:Cx}{C:Addr}
end
section
variable{X:Cx}{x n:Str}{np hpos pos:Pos}{body suite:List Stmt}{b0:Stmt}{C:Addr}{mt:Value->Prop}{tb:(St->XK)->TS}{th:TS}
end
section
variable{prog:Program}{w:World}{A:Around}{E:Value->Shared->Prop}{s:Shared}{C a:Addr}{bmB:List Value}{newId:String}
end
section
variable{prog:Program}{w:World}{A:Around}{E:Value->Shared->Prop}{h:Heap}{g:Array GenState}{d:Drawn}{t:Nat}{os:OsState}
variable{C:Addr}{bmB:List Value}{B newId initId:String}
end
section
variable{X:Cx}{x y:Str}{np hpos pos p cpos rpos cp:Pos}{kk:Nat}{body:List Stmt}{C D':Addr}{mt:Value->Prop}{tb:(St->XK)->TS}{EX:St->XK}{e:Expr}{es:List Expr}{t:TA}{bmB:List Value}{B newId initId:String}
end
open PySem.Builtin.ObjectAttr
section
variable{X:Cx}{C a:Addr}{H:Hp}{s:Shared}
end
def De(i j:Int):Prop:=0<j/\j<1000000000000000000
section
variable{X:Cx}
theorem FB:OpR X (binaryOp .FloorDiv) (fIC De fun i j=>.int (i/j)):=by
 intro pins s σ H x y v u Q I rx ry h
 unfold fIC at h
 split at h
 ·rename_i i j
  obtain⟨⟨h1,h2⟩,q⟩:=h
  obtain⟨t,rfl⟩:=rx
  obtain⟨t',rfl⟩:=ry
  refine floordiv_int (by lia) ?_ (.inl (PyProof.noPylong_of_log2 ?_))
  ·rw[hX i (by lia)]
   exact⟨.int (i/j),H,I.tok _,⟨_,rfl⟩,q⟩
  ·by_cases h0:j.natAbs=0
   ·rw[h0];decide
   ·exact bD ((Nat.log2_lt h0).mpr (show j.natAbs<2^60 by lia)) (by decide)
 ·exact h.elim
end
theorem iz{a b:TS}{D:Ends}{σ:St}{H:Hp}(h:∀R,R=b->oW a R D σ H):oW a b D σ H:=h b rfl
theorem B2{ι:Type}{wi:TI}{g:TG}{tb:TS}{D:Ends}{σ:St}{H:Hp}(J:ι->It)(H1:ι->Hp)(ok:ι->Prop)(h1:∀R:It->Hp->Prop,(∀i,ok i->R (J i) (H1 i))->wi σ H R)
  (h2:∀i0,ok i0->∃W:Nat->Nat->St->Hp->Prop,(∃m,W 0 m σ (H1 i0))/\∀i m σ H,W i m σ H->((J i0).stop i H/\D.nx σ H)\/((J i0).go i H/\∃N:St->Hp->Prop,(∀σ' H',N σ' H'->∃m',m'<m/\W (i+1) m' σ' H')/\∀x H',(J i0).yld i H x H'->g x σ H' fun σ2 H2=>tb {D with nx:=N,ct:=N,bk:=D.nx} σ2 H2)):
  uK wi g tb D σ H:=h1 _ h2
section
variable{X:Cx}
end
end L2
namespace So
open PySem PyProof.Rows
def Fore(lo:Nat)(xs ys:Array Keyed):Prop:=∀i,i<lo->ys[i]? =xs[i]?
theorem Fore.tr{lo:Nat}{xs ys zs:Array Keyed}(a:Fore lo xs ys)(b:Fore lo ys zs):Fore lo xs zs:=fun i h=>(b i h).trans (a i h)
structure Bs(κ:SortKind)(a₀:Array Keyed)(pd:Array (Nat×Nat×Nat))(st:SortSt):Prop where
 perm:(arrOf st).Perm a₀
 kind:kindOf st=κ
 ok:failedOf st=none
 pend:pendingOf st=pd
section
variable{prog:Program}{w:World}{A:Around}{E:Value->Shared->Prop}{s:Shared}{R:Keyed->Int}{κ:SortKind}{a₀:Array Keyed}{pd:Array (Nat×Nat×Nat)}
theorem Bs.size{st:SortSt}(b:Bs κ a₀ pd st):(arrOf st).size=a₀.size:=b.perm.size_eq
end
end So
namespace So
open PySem PyProof.Rows
section
variable{prog:Program}{w:World}{A:Around}{E:Value->Shared->Prop}{s:Shared}{R:Keyed->Int}{κ:SortKind}{a₀:Array Keyed}{pd:Array (Nat×Nat×Nat)}
end
end So
namespace So
open PySem PyProof.Rows
def Le(R:Keyed->Int):Keyed->Keyed->Prop:=fun x y=>R x<=R y
def MS(R:Keyed->Int)(o la lb tot:List Keyed):Prop:=(o++la).Pairwise (Le R)/\(o++lb).Pairwise (Le R)/\(o++(la++lb)).Perm tot
def Fi(R:Keyed->Int)(l tot:List Keyed):Prop:=l.Pairwise (Le R)/\l.Perm tot
section
variable{R:Keyed->Int}{o la lb tot xs:List Keyed}
theorem MS.a(h:MS R o (xs++la) lb tot)(hx:∀x∈xs,∀y∈lb,R x<=R y):MS R (o++xs) la lb tot:=by
 obtain⟨h1,h2,h3⟩:=h
 refine ⟨by rw [bf]; exact h1,?_,by rw [bf,<- bf xs]; exact h3⟩
 rw[bf,cJ]
 rw[cJ]at h1 h2
 obtain⟨o1,o2,o3⟩:=h1
 obtain⟨p1,p2,p3⟩:=h2
 rw[cJ]at o2
 refine⟨o1,cJ.mpr ⟨o2.1,p2,hx⟩,fun x m y n=>?_⟩
 rcases bz.mp n with n|n
 ·exact o3 x m y (dg _ n)
 ·exact p3 x m y n
theorem MS.b(h:MS R o la (xs++lb) tot)(hx:∀x∈xs,∀y∈la,R x<=R y):MS R (o++xs) la lb tot:=by
 have z:MS R o (xs++lb) la tot:=⟨h.2.1,h.1,(gh _ fb).trans h.2.2⟩
 have q:=z.a hx
 exact⟨q.2.1,q.1,(gh _ fb).trans q.2.2⟩
end
section
variable{a:Array Keyed}{R:Keyed->Int}{i k:Nat}
end
section
variable{M:Model}{A:Around}{E:Value->Shared->Prop}{s:Shared}{σ α:Type}
end
structure Lk(st st':SortSt):Prop where
 kind:kindOf st'=kindOf st
 arr:arrOf st'=arrOf st
 pend:pendingOf st'=pendingOf st
 ok:failedOf st'=failedOf st
section
variable{R:Keyed->Int}{a b out:Array Keyed}{ia ib k:Nat}{tot:List Keyed}
end
section
variable{prog:Program}{w:World}{A:Around}{E:Value->Shared->Prop}{s:Shared}{R:Keyed->Int}{κ:SortKind}{a₀:Array Keyed}{pd:Array (Nat×Nat×Nat)}
end
end So
namespace So
open PySem PyProof.Rows
def MH(R:Keyed->Int)(la lb o tot:List Keyed):Prop:=(la++o).Pairwise (Le R)/\(lb++o).Pairwise (Le R)/\(la++(lb++o)).Perm tot
section
variable{R:Keyed->Int}{o la lb tot xs:List Keyed}
theorem MH.a(h:MH R (la++xs) lb o tot)(hx:∀x∈xs,∀y∈lb,R y<=R x):MH R la lb (xs++o) tot:=by
 obtain⟨h1,h2,h3⟩:=h
 refine ⟨by rw [<- bf]; exact h1,?_,?_⟩
 ·rw[bf,cJ]at h1
  rw[cJ]at h2 ⊢
  refine⟨h2.1,h1.2.1,fun y hy x hx2=>?_⟩
  rcases bz.mp hx2 with n|n
  ·exact hx x n y hy
  ·exact h2.2.2 y hy x n
 ·refine List.Perm.trans ?_ h3
  rw[bf]
  refine gh _ ?_
  rw [<- bf,<- bf]
  exact List.Perm.append_right _ fb
theorem MH.swap(h:MH R la lb o tot):MH R lb la o tot:=by
 refine⟨h.2.1,h.1,List.Perm.trans ?_ h.2.2⟩
 rw [<- bf,<- bf]
 exact List.Perm.append_right _ fb
theorem MH.b(h:MH R la (lb++xs) o tot)(hx:∀x∈xs,∀y∈la,R y<=R x):MH R la lb (xs++o) tot:=(h.swap.a hx).swap
theorem MH.first(h:MH R la lb o tot)(hx:∀y∈lb,∀x∈la,R y<=R x):Fi R (lb++la++o) tot:=by
 obtain⟨h1,h2,h3⟩:=h.swap
 refine⟨?_,by rw[bf];exact h3⟩
 rw[bf]
 rw[cJ]at h1 h2 ⊢
 refine⟨h1.1,cJ.mpr h2,fun y hy x hx2=>?_⟩
 rcases bz.mp hx2 with n|n
 ·exact hx y hy x n
 ·exact h1.2.2 y hy x n
end
section
variable{a:Array Keyed}{R:Keyed->Int}{i k n:Nat}
end
section
variable{R:Keyed->Int}{a b out:Array Keyed}{na nb k:Nat}{tot:List Keyed}
end
section
variable{prog:Program}{w:World}{A:Around}{E:Value->Shared->Prop}{s:Shared}{R:Keyed->Int}{κ:SortKind}{a₀:Array Keyed}{pd:Array (Nat×Nat×Nat)}
end
end So
namespace So
open PySem PyProof.Rows
section
variable{prog:Program}{w:World}{A:Around}{E:Value->Shared->Prop}{s:Shared}{R:Keyed->Int}{κ:SortKind}{a₀:Array Keyed}{pd:Array (Nat×Nat×Nat)}
end
end So
namespace So
open PySem PyProof.Rows
noncomputable def two(pd:Array (Nat×Nat×Nat)):List (Nat×Nat):=pd.toList.map fun t=>(t.1,t.2.1)
section
variable{R:Keyed->Int}{xs ys:Array Keyed}
end
section
variable{prog:Program}{w:World}{A:Around}{E:Value->Shared->Prop}{s:Shared}{R:Keyed->Int}{κ:SortKind}{a₀:Array Keyed}{pd:Array (Nat×Nat×Nat)}
end
end So
namespace So
open PySem PyProof.Rows
section
variable{prog:Program}{w:World}{A:Around}{E:Value->Shared->Prop}{s:Shared}
def PairAt(h:Heap)(v:Value)(x y:Int):Prop:=∃a o t u n,v= .ref a/\h.get? a=some o/\o.cls= .type "tuple"/\o.data= .seq #[.int x t,.int y u] n
end
end So
namespace L2
open PySem PySem.Spec PyProof.Rows
def DL:List V->Hp->VK->Prop:=fun vs H Q=>∃(p:Addr) (ns:List Int),vs=[.ref p]/\H p=some (.lst (ns.map V.int))/\Q (.int ns.sum) H
theorem qh{X:Cx}(hc:X.calm=true):jct X (.builtin "sum") DL:=by
 intro pins s σ H xs us Q I r h
 obtain⟨p,ns,rfl,e,q⟩:=h
 obtain⟨u,rfl,rx⟩:=mL r
 cases rx
 obtain⟨its,r',pl,_⟩:=I.list (SqL.of e)
 have hI:=nY r'
 obtain⟨zs,hz⟩:=hI.allInts.items
 have hn:=hI.numsOf
 have hl:=pl.isList
 rw[hz]at hl
 refine sum_intListG (I.ok.hd hc) hl fun h' tk t' hk=>?_
 have e2:preSum (numAt zs) zs.size=ns.sum:=by
  rw [preSum_eq,cY (by simp),<- hn,<- nums_intItems,<- hz]
 rw[e2]
 exact⟨.int ns.sum,H,I.kept hk,⟨t',rfl⟩,q⟩
noncomputable def qW(f:Bool->Bool):R2:=fun x y H Q=>match x,y with
 | .bl a,.bl b=>Q (.bl (f (a==b))) H
 |_,_=>False
theorem J6{f:Bool->Bool}{x y:V}{H:Hp}{Q:VK}(h:qW f x y H Q):∃a b,x= .bl a/\y= .bl b/\Q (.bl (f (a==b))) H:=by
 unfold qW at h
 split at h
 ·exact⟨_,_,rfl,rfl,h⟩
 ·exact h.elim
theorem D3{X:Cx}:OpR X (compareOp .IsNot) (qW not):=by
 intro pins s σ H x y v u Q I rx ry h
 obtain⟨a,b,rfl,rfl,q⟩:=J6 h
 cases rx
 cases ry
 exact isnot_bool (jI I q rfl)
end L2
namespace So
open PySem PyProof.Rows
section
variable{prog:Program}{w:World}{A:Around}{E:Value->Shared->Prop}{s:Shared}
section
variable{prog:Program}{w:World}{A:Around}{E:Value->Shared->Prop}{s:Shared}{R:Keyed->Int}{κ:SortKind}{a₀:Array Keyed}{pd:Array (Nat×Nat×Nat)}
end
section
variable{prog:Program}{w:World}{A:Around}{E:Value->Shared->Prop}{s:Shared}
end
end
end So
namespace L2
open PySem PySem.Spec PyProof.Rows
noncomputable def mX(C:Addr)(o:Option HO)(f:Str):Option V:=match o with
 |some (.ins C' _ fs)=>if C'=C then fs.lookup f else none
 |_=>none
noncomputable def me(C:Addr)(o:Option HO)(m:Str):Bool:=match o with
 |some (.ins C' _ fs)=>decide (C'=C)&&(fs.lookup m).isNone
 |_=>false
def CS(C:Addr)(f:Str)(ta:TE):TE:=fun σ H Q=>ta σ H fun x H1=>match x with
 | .ref a=>match mX C (H1 a) f with
  |some v=>Q v H1
  |none=>False
 |_=>False
def yk(C:Addr)(f:Str)(ta tv:TE):TS:=fun D σ H=>tv σ H fun y H1=>ta σ H1 fun x H2=>match x with
 | .ref a=>match H2 a with
  |some (.ins C' dx fs)=>C'=C/\fs.length<1000/\D.nx σ (upd H2 a (.ins C dx (jn f y fs)))
  |_=>False
 |_=>False
def rN(C:Addr)(m:Str)(sp:Sp)(dvs:List V)(E:XK)(ta:TE)(t:TA):TE:=fun σ H Q=>ta σ H fun x H1=>match x with
 | .ref a=>me C (H1 a) m=true/\t σ H1 fun vs H2=>sp (.ref a::(vs++dvs)) H2 Q E
 |_=>False
section
variable{X:Cx}{C:Addr}
theorem FV{o:Option HO}{f:Str}{v:V}(h:mX C o f=some v):∃dx fs,o=some (.ins C dx fs)/\fs.lookup f=some v:=by
 unfold mX at h
 split at h
 ·split at h
  ·rename_i c;subst c;exact⟨_,_,rfl,h⟩
  ·cases h
 ·cases h
theorem F8{o:Option HO}{m:Str}(h:me C o m=true):∃dx fs,o=some (.ins C dx fs)/\fs.lookup m=none:=by
 unfold me at h
 split at h
 ·rw[bo]at h
  have c:=bp h.1
  subst c
  exact⟨_,_,rfl,Option.isNone_iff_eq_none.mp h.2⟩
 ·cases h
theorem mf{e:Expr}{f:Str}{pos:Pos}{ta:TE}(c:Cls X.K C)(n:jfg X.K C f)(he:PE X e ta)(hb:attributeBase e f X.env (eval e X.env)=eval e X.env):PE X (.Attribute e f pos) (CS C f ta):=by
 intro pins s σ H Q I h
 refine EN hb (iy (he pins s σ H _ I h) fun u s1 ⟨x,H1,I1,rx,q⟩=>?_)
 dsimp only at q
 split at q
 ·rename_i a
  split at q
  ·rename_i v hv
   obtain⟨dx,fs,ea,l⟩:=FV hv
   obtain rfl:u=Value.ref a:=rx
   exact Hy I1 ea c n l fun u' s2 I2 ru=>⟨v,H1,I2,ru,q⟩
  ·exact q.elim
 ·exact q.elim
theorem vR{o value:Expr}{f:Str}{pos pos':Pos}{ta tv:TE}(c:Cls X.K C)(n:jfg X.K C f)(ha:PE X o ta)(hv:PE X value tv)(hs:swapsWith value (some (.Attribute o f pos')) pos.line X.env=pure false):PS X (.Assign [.Attribute o f pos'] value pos) (yk C f ta tv):=by
 intro pins s σ H D I h
 refine plainObj_wpAny_Assign_Attribute (iy (hv pins s σ H _ I h) fun u s1 ⟨y,H1,I1,ry,q⟩=>iy (ha pins s1 σ H1 _ I1 q) fun ov s2 ⟨x,H2,I2,rx,q2⟩=>?_) hs
 dsimp only at q2
 split at q2
 ·rename_i a
  split at q2
  ·rename_i C' dx fs ea
   obtain⟨rfl,l,q2⟩:=q2
   obtain rfl:ov=Value.ref a:=rx
   exact Ip I2 ea c n l ry fun s3 I3=>⟨σ,_,I3,q2⟩
  ·exact q2.elim
 ·exact q2.elim
theorem AH{m:Str}{sp:Sp}{dvs:List V}{E:XK}{ta:TE}{t:TA}{ex:Expr}(h:PE X ex (va C m sp dvs E ta t))(hmono:∀pins s σ H Q Q',Inv X pins σ H s->(∀x H1,Q x H1->Q' x H1)->ta σ H Q->ta σ H Q'):PE X ex (rN C m sp dvs E ta t):=by
 intro pins s σ H Q I q
 refine h pins s σ H Q I (hmono pins s σ H _ _ I (fun x H1 q=>?_) q)
 split at q
 ·rename_i a
  obtain⟨dx,fs,e,l⟩:=F8 q.1
  exact⟨a,dx,fs,rfl,e,l,q.2⟩
 ·exact q.elim
theorem wo{i:Nat}:∀(pins:List (Addr×Obj)) s σ H Q Q',Inv X pins σ H s->(∀x H1,Q x H1->Q' x H1)->kh i σ H Q->kh i σ H Q':=by
 intro pins s σ H Q Q' _ h q
 unfold kh at q ⊢
 split
 ·rename_i v e
  rw[e]at q
  exact h _ _ q
 ·rename_i hne
  split at q
  ·rename_i v e;exact absurd e (hne v)
  ·exact q
theorem ni{CX:lH}{k:Nat}{f:Addr}{fd:FuncData}{ps:List Str}{sp:Sp}{dvs:List V}{ds:List Value}{E:XK}{m:Str}{pos apos:Pos}{e o:Expr}{es:List Expr}{i:Nat}{t:TA}{pl:Sem Bool}
  (he:PE X o (kh i)) (c:Cls X.K C) (hm:Meth X.K C m f) (F:FnOk X.prog X.w X.K X.mg X.base CX k f fd ps sp) (hr:Room k X.A) (hb:jg7 X.K fd ps ds) (hd:Vals dvs ds) (hx:m9 CX X E) (ha:PA X (e::es) t)
  (hst:starEach (e::es) X.env=(false,eval e X.env)::starEach es X.env:=by rfl) (hpl:(backTo pos (starEach es X.env)).any (·.1)=false:=by rfl)
  (ht:eval (.Call (.Attribute o m apos) (e :: es) [] pos) X.env = (do
   let ov <- eval o X.env
   standAt apos.atName
   let (f,first) <- holding [ov] (getMethod ov m pl)
   callWith pos f first (backTo pos (starEach (e::es) X.env)) (backToKw pos (keywordEach [] X.env))):=by rfl):
  PE X (.Call (.Attribute o m apos) (e::es) [] pos) (rN C m sp dvs E (kh i) t):=
 AH (Fu (pl:=pl) he c hm F hr hb hd hx ha hst hpl ht) wo
theorem G7{CX:lH}{k:Nat}{f:Addr}{fd:FuncData}{ps:List Str}{sp:Sp}{dvs:List V}{ds:List Value}{E:XK}{m:Str}{pos apos:Pos}{o:Expr}{i:Nat}{pl:Sem Bool}
  (he:PE X o (kh i)) (c:Cls X.K C) (hm:Meth X.K C m f) (F:FnOk X.prog X.w X.K X.mg X.base CX k f fd ps sp) (hr:Room k X.A) (hb:jg7 X.K fd ps ds) (hd:Vals dvs ds) (hx:m9 CX X E)
  (ht:eval (.Call (.Attribute o m apos) [] [] pos) X.env = (do
   let ov <- eval o X.env
   standAt apos.atName
   let (f,first) <- holding [ov] (getMethod ov m pl)
   callWith pos f first (backTo pos (starEach [] X.env)) (backToKw pos (keywordEach [] X.env))):=by rfl):
  PE X (.Call (.Attribute o m apos) [] [] pos) (rN C m sp dvs E (kh i) oi):=
 AH (Ge (pl:=pl) he c hm F hr hb hd hx ht) wo
end
section
variable{X:Cx}
def vg(td ty:TE):TE:=fun σ H Q=>td σ H fun x H1=>match x with
 | .ref a=>(∃kvs,H1 a=some (.dK kvs))/\ty σ H1 fun y H2=>match y with
  | .int n=>match H2 a with
   |some (.dK kvs)=>Q ((iK kvs (Sum.inl n:ij)).getD .non) H2
   |_=>False
  |_=>False
 |_=>False
theorem FA{o e:Expr}{apos cpos:Pos}{td ty:TE}(hu:X.A.units+1<cLine)(ho:PE X o td)(he:PE X e ty)(m:M1 X o "get" apos e cpos:=by exact⟨rfl,rfl,rfl,rfl⟩):PE X (.Call (.Attribute o "get" apos) [e] [] cpos) (vg td ty):=by
 intro pins s σ H Q I h
 refine wpAny_Call_method m.base m.few m.line fK c6 PySem.F.type_dict_get (iy (ho pins s σ H _ I h) fun u s1 ⟨x,H1,I1,rx,q1⟩=>?_)
 dsimp only at q1
 split at q1
 ·rename_i a
  obtain⟨⟨kvs0,e0⟩,q1⟩:=q1
  obtain rfl:u=Value.ref a:=rx
  obtain⟨t1,t2,_⟩:=vj I1 (.inl ⟨kvs0,.inl e0⟩)
  refine⟨t1,t2,?_⟩
  rw[m.trees]
  refine dF rfl (gp (eI (iy (he pins s1 σ H1 _ I1 q1) fun iv s2 ⟨y,H2,I2,ry,q2⟩=>gN ?_)))
  dsimp only at q2
  split at q2
  ·rename_i n
   split at q2
   ·rename_i kvs ea
    exact Ke hu I2 (DGet.k (k:=Sum.inl n) ea) ry fun w' s3 I3 rw'=>⟨_,H2,I3,rw',q2⟩
   ·exact q2.elim
  ·exact q2.elim
 ·exact q1.elim
noncomputable def vi(i:Nat):TE:=fun σ H Q=>match σ[i]? with
 |some (some (.int n))=>∀p,H p=none->Q (.ref p) (upd H p (.dK [(Sum.inl n,.non)]))
 |_=>False
theorem FJ{H:Hp}{p:Addr}{a b:HO}:upd (upd H p a) p b=upd H p b:=by
 funext x
 by_cases c:x=p
 ·rw[c,ie,ie]
 ·rw[ix c,ix c,ix c]
theorem Gc{pos:Pos}{k v:Expr}{i:Nat}(hk:PE X k (kh i))(hv:PE X v (tC .non)):PE X (.Dict [some k] [v] pos) (vi i):=by
 intro pins s σ H Q I q
 refine Fs (Gi hk hv Fy) rfl rfl (fun z=>nomatch z) (dJ rfl) pins s σ H Q I ?_
 intro p hp
 unfold vi at q
 split at q
 ·rename_i n e
  show kh i σ (upd H p (.dK [])) _
  unfold kh
  rw[e]
  show tC V.non σ _ _
  refine⟨ie,[(Sum.inl n,.non)],rfl,dJ rfl,?_⟩
  rw[FJ]
  exact q p hp
 ·exact q.elim
def uX:V->V->Hp->VK->Prop:=fun o i H Q=>match o,i with
 | .ref p,.int k=>match H p with
  |some (.lst xs)=>0<=k/\match jb xs k with
   |some v=>Q v H
   |none=>False
  |_=>False
 |_,_=>False
theorem Bn:C7 X uX:=by
 intro pins s σ H o i ov iv Q I ro ri h
 unfold uX at h
 split at h
 ·rename_i p k
  split at h
  ·rename_i xs hp
   obtain⟨k0,h⟩:=h
   split at h
   ·rename_i v hv
    cases ro
    obtain⟨t,rfl⟩:=ri
    obtain⟨its,r,pl,hz⟩:=I.list (SqL.of hp)
    obtain⟨j,h1,h2,h3,h4,h5⟩:=vF hv
    obtain⟨w,ew,rw'⟩:=r.get h2
    have hn:=oE
    have hj:k.toNat=j:=by
     rw[gU k0 h5]at h1
     exact aD h1
    exact wpAny_getItem_list pl.isList k0 (by lia) (by rw[hj];simpa using ew) ⟨v,H,I,rw',h⟩
   ·exact h.elim
  ·exact h.elim
 ·exact h.elim
def uT:mR:=fun x y H Q=>match x,y with
 | .int i,.int j=>Q (.int (i-j)) H
 |_,_=>False
def uS:mR:=fun x y H Q=>match x,y with
 | .int i,.int j=>Q (.int (i+j)) H
 |_,_=>False
theorem E8:oQ X .Sub uT:=by
 intro pins s σ H x y v u Q I r1 r2 h
 unfold uT at h
 split at h
 ·rename_i i j
  obtain⟨t,rfl⟩:=(show ∃t,v=Value.int i t from r1)
  obtain⟨t',rfl⟩:=(show ∃t,u=Value.int j t from r2)
  exact PyProof.Rows.isub_int ⟨.int (i-j),H,I.tok _,⟨_,rfl⟩,h⟩
 ·exact h.elim
theorem E6:oQ X .Add uS:=by
 intro pins s σ H x y v u Q I r1 r2 h
 unfold uS at h
 split at h
 ·rename_i i j
  obtain⟨t,rfl⟩:=(show ∃t,v=Value.int i t from r1)
  obtain⟨t',rfl⟩:=(show ∃t,u=Value.int j t from r2)
  exact PyProof.Rows.iadd_int ⟨.int (i+j),H,I.tok _,⟨_,rfl⟩,h⟩
 ·exact h.elim
def xv:R2:=fun x y H Q=>match x,y with
 | .int i,.int j=>Q (.int (Builtin.bitXor i j)) H
 |_,_=>False
theorem yt:OpR X (binaryOp .BitXor) xv:=by
 intro pins s σ H x y v u Q I r1 r2 h
 unfold xv at h
 split at h
 ·rename_i i j
  obtain⟨t,rfl⟩:=(show ∃t,v=Value.int i t from r1)
  obtain⟨t',rfl⟩:=(show ∃t,u=Value.int j t from r2)
  exact PyProof.Rows.xor_int ⟨.int (Builtin.bitXor i j),H,I.tok _,⟨_,rfl⟩,h⟩
 ·exact h.elim
theorem FL(w:Nat):Builtin.bitXor (w:Int) 1=((if w%2=0 then w+1 else w-1:Nat):Int):=by
 have h1:(w|||1:Nat)=2*(w/2)+1:=by
  have a:=Nat.or_div_two (a:=w) (b:=1)
  have b:(w|||1)%2=1:=by rw[Nat.or_mod_two_eq_one];right;rfl
  rw[show 1/2=0 from rfl,Nat.or_zero]at a
  lia
 have h2:(w&&& 1:Nat)=w%2:=Nat.and_one_is_mod w
 have n1:¬(0:Int)<= -(w:Int)-1:=by lia
 have e:Builtin.bitXor (w:Int) 1=((w|||1:Nat):Int)-((w&&& 1:Nat):Int):=by
  unfold Builtin.bitXor Builtin.bitOr Builtin.bitAnd Builtin.bitNot
  simp only[az n1,show decide ((0:Int)<= -(1:Int)-1)=false from rfl,show decide ((0:Int)<=(w:Int))=true from af (by lia),show decide ((0:Int)<=1)=true from rfl]
  simp only[show(-(-(w:Int)-1)-1).toNat=w by lia,show(-(-(1:Int)-1)-1).toNat=1 from rfl,show((w:Int)).toNat=w from rfl,show((1:Int)).toNat=1 from rfl]
  lia
 rw[e,h1,h2]
 split<;>lia
noncomputable def jh{α:Type}:Bool->List α->List α
 |_,[]=>[]
 |true,x::xs=>x::jh false xs
 |false,_::xs=>jh true xs
def CY(b:Bool)(te:TE):TE:=fun σ H Q=>te σ H fun x H1=>match x with
 | .ref a=>match H1 a with
  |some (.lst xs)=>∀p,H1 p=none->Q (.ref p) (upd H1 p (.lst (jh b xs)))
  |_=>False
 |_=>False
theorem wI:∀(b:Bool) {vs:List V} {us:List Value},Vals vs us->Vals (jh b vs) (jh b us)
 |_,_,_,.nil=>by cases ‹Bool›<;>exact .nil
 |true,_,_,.cons r t=>.cons r (wI false t)
 |false,_,_,.cons _ t=>wI true t
theorem vC{α:Type}:∀(b:Bool) (xs:List α),(jh b xs).length<=xs.length
 |true,[]=>aF _
 |false,[]=>aF _
 |true,x::xs=>by have:=vC false xs;show(jh false xs).length+1<=xs.length+1;lia
 |false,x::xs=>by have:=vC true xs;show(jh true xs).length<=xs.length+1;lia
theorem oC{α:Type}:∀(b:Bool) (xs:List α) (i:Nat),(jh b xs)[i]? =xs[2*i+(if b then 0 else 1)]?
 |true,[],i=>by simp[jh]
 |false,[],i=>by simp[jh]
 |true,x::xs,0=>rfl
 |true,x::xs,i+1=>by
  show(jh false xs)[i]? =_
  rw[oC false xs i,aH rfl,aE (by decide),show 2*(i+1)+0=(2*i+1)+1 by lia,List.getElem?_cons_succ]
 |false,x::xs,i=>by
  show(jh true xs)[i]? =_
  rw[oC true xs i,aH rfl,aE (by decide),List.getElem?_cons_succ]
  rfl
theorem Gg(its:List Value)(b:Bool)(hb:b=false->0<its.length):slicePick its.toArray (some (if b then 0 else 1)) none (some 2)=(jh b its).toArray:=by
 unfold slicePick
 congr 1
 have h1:sliceBounds (some (if b then 0 else 1)) none (some 2) its.toArray.size=(((if b then 0 else 1:Nat):Int),(its.length:Int),2):=by
  cases b
  ·have:=hb rfl
   simp[sliceBounds]
   lia
  ·simp[sliceBounds]
   lia
 rw[h1]
 dsimp only
 have h2:∀c:Nat,sliceRange ((c:Nat):Int) (its.length:Int) 2=(List.range ((its.length+1-c)/2)).map fun k=>c+2*k:=fun c=>by
  unfold sliceRange
  dsimp only
  rw[aH (by decide)]
  have e:(if(c:Int)<(its.length:Int)then((its.length:Int)-c+2-1)/2 else 0).toNat=(its.length+1-c)/2:=by
   split<;>lia
  rw[e]
  exact fm fun k _=>by lia
 rw[h2,List.filterMap_map]
 have h3:∀(l:List Nat),(∀k∈l,(if b then 0 else 1)+2*k<its.length)->l.filterMap ((fun x=>its.toArray[x]?)∘fun k=>(if b then 0 else 1)+2*k)=l.map fun k=>its.getD ((if b then 0 else 1)+2*k) .none:=fun l=>by
  induction l with
  |nil=>intro _;rfl
  | cons k r ih=>
   intro hk
   have hk0:=hk k (.head _)
   rw[List.filterMap_cons]
   have e:((fun x=>its.toArray[x]?)∘fun k=>(if b then 0 else 1)+2*k) k=some (its.getD ((if b then 0 else 1)+2*k) .none):=by
    show its.toArray[(if b then 0 else 1)+2*k]? =_
    rw[List.getElem?_toArray,aV,gE hk0]
    rfl
   rw[e]
   dsimp only
   rw[ai,ih fun j hj=>hk j (.tail _ hj)]
 rw[h3 _ fun k hk=>by have:=bI.mp hk;cases b<;>simp only[if_true,if_false,aM]at this ⊢ <;>lia]
 apply eS
 intro i
 rw[oC,aJ]
 by_cases c:2*i+(if b then 0 else 1)<its.length
 ·rw[fo (by cases b<;>simp only[if_true,if_false,aM]at c ⊢ <;>lia)]
  show some (its.getD _ .none)=_
  rw[aV,Nat.add_comm,gE c]
  rfl
 ·rw[bF (by rw[bU];cases b<;>simp only[if_true,if_false,aM]at c ⊢ <;>lia),bF (by lia)]
  rfl
theorem vn{b:Bool}{c:Int}(hc:c=if b then 0 else 1){e:Expr}{te:TE}{k k2:Nat}{z1 z2 p2 pos:Pos}(he:PE X e te):PE X (.Subscript e (.Slice (some (.Constant (.int c) k2 z2)) none (some (.Constant (.int 2) k z1)) p2) pos) (CY b te):=by
 intro pins s σ H Q I h
 refine hU (iy (he pins s σ H _ I h) fun v s1 ⟨x,H1,I1,r1,q1⟩=>?_)
 refine wpAny_Slice ?_
 simp only[evalPart_none]
 rw[evalPart_some]
 refine iy ((h9 (i:=c) (j:=k2) (pos:=z2):PE X _ _) pins s1 σ H1 (fun y H2=>y= .int c/\H2=H1) I1 ⟨rfl,rfl⟩) fun st s2 ⟨y,H2,I2,r2,ey,eh⟩=>?_
 subst ey eh
 obtain⟨t1,rfl⟩:=r2
 refine aI ?_
 rw[evalPart_some]
 refine iy ((h9 (i:=2) (j:=k) (pos:=z1):PE X _ _) pins s2 σ H2 (fun y H3=>y= .int 2/\H3=H2) I2 ⟨rfl,rfl⟩) fun st s3 ⟨y,H3,I3,r3,ey,eh⟩=>?_
 subst ey eh
 obtain⟨t2,rfl⟩:=r3
 split at q1
 ·rename_i a
  split at q1
  ·rename_i xs ea
   cases r1
   have I4:Inv X pins σ H3 {s3 with heap:=s3.heap.push {cls:=.type "slice",data:=.fields #[.int c t1,.none,.int 2 t2]}}:=I3.kept (t':=s3.toks) fun b ob q=>ag _ q
   obtain⟨its,r,ht,hz⟩:=I4.list (SqL.of ea)
   have hlen:=r.length
   show wpAny (model X.prog X.w) X.A (subscriptTail e (.Slice (some (.Constant (.int c) k2 z2)) none (some (.Constant (.int 2) k z1)) p2) (.ref a) (.ref s3.heap.objs.size)) (EP X pins σ Q) X.xe {s3 with heap:=s3.heap.push {cls:=.type "slice",data:=.fields #[.int c t1,.none,.int 2 t2]}}
   refine tail_any (ops:=[.ref a,.ref s3.heap.objs.size]) ht.isList.typeIs gI.lookup ?_ (by with_unfolding_all rfl)
   refine wpAny_getItem_list_slice ht.isList (Heap.IsSliceOf.new ..) (.int _ t1) .none (.int 2 t2) (by decide) ?_ (by rw[aC]<;>lia)
   by_cases hb:b=false->0<its.length
   ·rw[show slicePick its.toArray (some c) none (some 2)=(jh b its).toArray from by rw[hc];exact Gg _ _ hb]
    refine⟨.ref _,_,I4.laid (t':=s3.toks) (o:=.lst (jh b xs)) (fun b ob q=>ag _ q) (aF _) ?_,rfl,q1 _ (I4.hok.fresh (aF _))⟩
    exact⟨by have:=vC b xs;lia,_,0,wI b r,aQ _ rfl⟩
   ·have hi:its=[]:=fF fun z=>hb fun _=>List.length_pos_iff.mpr z
    have hx:xs=[]:=List.length_eq_zero_iff.mp (by rw[hi]at hlen;exact hlen)
    subst hi hx
    have e2:jh b ([]:List V)=[]:=by cases b<;>rfl
    rw[e2]at q1
    have e3:slicePick ([]:List Value).toArray (some c) none (some 2)=([]:List Value).toArray:=by rw[hc];cases b<;>rfl
    rw[e3]
    refine⟨.ref _,_,I4.laid (t':=s3.toks) (o:=.lst []) (fun b ob q=>ag _ q) (aF _) ?_,rfl,q1 _ (I4.hok.fresh (aF _))⟩
    exact⟨bM _,_,0,.nil,aQ _ rfl⟩
  ·exact q1.elim
 ·exact q1.elim
def pX(ta:TE):TT:=fun σ H Q=>ta σ H fun x H1=>match x with
 | .ref a=>match H1 a with
  |some (.lst xs)=>Q (!xs.isEmpty) H1
  |_=>False
 |_=>False
theorem Fz {a:Expr} {i:Nat} (ha:PE X a (kh i)) (he:∀ whole,isTrue a X.env whole = (do let v <- whole; standAt a.pos; holding [v] (truthy v)):=by exact fun _=>rfl):PT X a (pX (kh i)):=by
 intro pins s σ H Q I h
 refine Gj ha he pins s σ H Q I ?_
 show kh i σ H _
 have h:kh i σ H _:=h
 refine wo pins s σ H _ _ I (fun x H1 q=>?_) h
 split at q
 ·rename_i a
  split at q
  ·rename_i xs e
   exact⟨_,.inl ⟨xs,SqL.of e,rfl⟩,q⟩
  ·exact q.elim
 ·exact q.elim
end
end L2
namespace My
open PySem L2
theorem DC:(0<=sizeLine)=True:=eq_true (by decide)
theorem DB:(1<=sizeLine)=True:=eq_true (by decide)
theorem mU:(2<=sizeLine)=True:=eq_true (by decide)
theorem DA:(3<=sizeLine)=True:=eq_true (by decide)
theorem Dz:(4<=sizeLine)=True:=eq_true (by decide)
end My
local macro_rules | `(tactic| walk_at "SC") => `(tactic| exact ⟨rfl,rfl,rfl,by decide +kernel,rfl,by decide +kernel,by decide +kernel⟩)
local macro_rules | `(tactic| simp_arith [$args,*]) => do
 let l<-("L2.qW L2.oW L2.xZ L2.yb L2.xW L2.Dq L2.x9 L2.rp L2.mY L2.xI L2.nE L2.xS L2.tC L2.kh L2.fI L2.fIC L2.CQ L2.xF L2.xy L2.uy L2.pZ L2.CW L2.J5 L2.CP L2.fB L2.xY L2.yg L2.xX L2.ve L2.xD L2.qU L2.vN L2.xA L2.xB L2.uz L2.xx L2.xV L2.CO L2.Al L2.vM L2.CV L2.uW L2.CM L2.rL L2.rZ L2.rM L2.J8 L2.yL L2.y4 L2.zt L2.xH L2.vf L2.CU L2.xw L2.uV L2.ye L2.xG L2.CT L2.xE L2.rY L2.vh L2.xC L2.yd L2.pT L2.qi L2.oi L2.xT L2.x8 L2.ya L2.xU L2.Kd.nm L2.start ai bJ List.length_cons List.length_nil Nat.reduceAdd Nat.reduceSub List.replicate_succ List.replicate_zero List.getElem?_cons_zero List.getElem?_cons_succ List.set_cons_zero List.set_cons_succ bb List.nil_append List.cons_append eq_self true_and and_true if_true aM if_false bN du id_eq My.DC My.DB My.mU My.DA My.Dz L2.pX L2.uT L2.yf L2.uX L2.uS L2.x6 L2.rN L2.CS L2.vg L2.vi L2.CY L2.yk L2.xv".splitOn " ").toArray.mapM fun s=>`(Lean.Parser.Tactic.simpLemma| $(Lean.mkIdent s.toName):ident)
 `(tactic| try simp only [$l,*,$args,*])
local macro_rules | `(tactic| walk_at "D") => `(tactic| simp_arith [L2.qW])
namespace My
open PySem L2
theorem rq{n:Nat}(h:n<=1000):n<=sizeLine:=br h (by decide)
theorem iM{n:Nat}(h:n<=1000):n<sizeLine:=gG h (by decide)
noncomputable def ig(i:Nat):Stmt:=PySem.Challenge.pw_touchall_k31_told_chains.main.body.getD i (.Pass ⟨0,0,0,0⟩)
structure DefAt(K:PySem.W.Frag)(mg:Str->Option Value)(x:Str)(st:Stmt)(ps:List Str)(f:Addr)(fd:FuncData):Prop where
 F:Fun K x x st f fd
 b:jg7 K fd ps []
 m:mg x=some (.ref f)
structure Blt(mg:Str->Option Value):Prop where
 len:mg "len"=none
 isinstance:mg "isinstance"=none
 all:mg "all"=none
 min:mg "min"=none
 list:mg "list"=none
 dict:mg "dict"=none
 int:mg "int"=none
 bool:mg "bool"=none
 str:mg "str"=none
 tuple:mg "tuple"=none
 range:mg "range"=none
 enumerate:mg "enumerate"=none
 zip:mg "zip"=none
 max:mg "max"=none
 any:mg "any"=none
 sum:mg "sum"=none
 sorted:mg "sorted"=none
 set:mg "set"=none
structure Cst(mg:Str->Option Value)(t1 t2 t3 t4:Tok):Prop where
 MOST_PLACES:mg "MOST_PLACES"=some (.int 40 t1)
 MOST_TIES:mg "MOST_TIES"=some (.int 120 t2)
 LAST_PLACE:mg "LAST_PLACE"=some (.int 999 t3)
 MOST_PRICE:mg "MOST_PRICE"=some (.int 1000000000000 t4)
section
variable{P:Program}{w:World}{K:PySem.W.Frag}{mg:Str->Option Value}{base:Heap}{c1 c2 c3 c4:Tok}
theorem iJ{α:Type}{x:α}{r:List α}:jb (x::r) 0=some x:=by
 have e:jb (x::r) ((0:Nat):Int)=some x:=k7 rfl
 exact e
theorem iT{α:Type}{x y:α}{r:List α}:jb (x::y::r) 1=some y:=by
 have e:jb (x::y::r) ((1:Nat):Int)=some y:=k7 rfl
 exact e
theorem ki{α:Type}{x y z:α}{r:List α}:jb (x::y::z::r) 2=some z:=by
 have e:jb (x::y::z::r) ((2:Nat):Int)=some z:=k7 rfl
 exact e
noncomputable def lZ:Kd->Bool
 | .int=>true
 |_=>false
def nT:Sp:=fun vs H Q _=>∃x k,vs=[x]/\kd H x=some k/\Q (.bl (lZ k)) H
def ue:Sp:=fun vs H Q _=>∃a xs m,vs=[.ref a,.int m]/\H a=some (.tup xs)/\Q (.bl (decide ((xs.length:Int)=m))) H
def ur:Sp:=fun vs H Q _=>∃a xs m,vs=[.ref a,.int m]/\H a=some (.lst xs)/\Q (.bl (decide ((xs.length:Int)<=m))) H
def vy:Sp:=fun vs H Q _=>∃x p,vs=[x]/\Pr H x p/\Q (.bl true) H
def CG:Sp:=fun vs H Q _=>∃x p l s,vs=[x,.int l,.int s]/\Pr H x p/\(l<p.1/\p.1<=999/\1<=p.2/\p.2<=1000000000000-s)/\Q (.bl true) H
def ja(kvs:List (ij×V))(n:Int):Bool:=(iK kvs (Sum.inl n:ij)).isSome
def Cp:Sp:=fun vs H Q _=>∃x p y q d kvs,vs=[x,y,.ref d]/\Pr H x p/\Pr H y q/\H d=some (.dK kvs)/\(HT.lexLt [q.1,q.2] [p.1,p.2]=true/\p.1<p.2/\ja kvs p.1=true/\ja kvs p.2=true)/\Q (.bl true) H
theorem II(B:Blt mg)(D:DefAt K mg "is_whole" (ig 7) ["thing"] f fd):FnOk P w K mg base iu 1 f fd ["thing"] nT:=by
 have sc:FnScope ["thing"] ["thing"] (iN (ig 7)):=by walk_at "SC"
 refine D.F.ok sc (fun vs H Q E h=>?_) (fun cdv A outer s H vs Q E hr h=>?_)
 ·obtain⟨x,k,rfl,_⟩:=h
  rfl
 obtain⟨x,k,rfl,ek,h⟩:=h
 have hu:=iX hr
 have hu0:_<PySem.cLine:=au hu
 refine⟨_,(iw (iG (kO (iU (kP .int) rfl B.isinstance aS (h8 (qv 0) (h8 (kQ (v:=.ty "int") rfl B.int gf rfl) ic))) (lY (yu (iU (kP .bl) rfl B.isinstance aS (h8 (qv 0) (h8 (kQ (v:=.ty "bool") rfl B.bool PyProof.Rows.boot_bool rfl) ic)))))))),?_⟩
 simp_arith[ek]
 cases k<;>simpa only[j5,lZ,if_true,if_false,aM,bN,du]using h
theorem Ju(B:Blt mg)(D:DefAt K mg "is_tuple_of" (ig 8) ["thing","many"] f fd):FnOk P w K mg base iu 1 f fd ["thing","many"] ue:=by
 have sc:FnScope ["thing","many"] ["thing","many"] (iN (ig 8)):=by walk_at "SC"
 refine D.F.ok sc (fun vs H Q E h=>?_) (fun cdv A outer s H vs Q E hr h=>?_)
 ·obtain⟨a,xs,m,rfl,_⟩:=h
  rfl
 obtain⟨a,xs,m,rfl,ea,h⟩:=h
 have hu:=iX hr
 have hu0:_<PySem.cLine:=au hu
 refine⟨_,(iw (iG (kO (iU (kP .tup) rfl B.isinstance aS (h8 (qv 0) (h8 (kQ (v:=.ty "tuple") rfl B.tuple cI rfl) ic))) (lY (kG kA (iU kc rfl B.len bu (h8 (qv 0) ic)) (qv 1) (iL _)))))),?_⟩
 simp_arith[kd,ea,ir,j5]
 exact h
theorem JL(B:Blt mg)(D:DefAt K mg "is_list_up_to" (ig 10) ["thing","most"] f fd):FnOk P w K mg base iu 1 f fd ["thing","most"] ur:=by
 have sc:FnScope ["thing","most"] ["thing","most"] (iN (ig 10)):=by walk_at "SC"
 refine D.F.ok sc (fun vs H Q E h=>?_) (fun cdv A outer s H vs Q E hr h=>?_)
 ·obtain⟨a,xs,m,rfl,_⟩:=h
  rfl
 obtain⟨a,xs,m,rfl,ea,h⟩:=h
 have hu:=iX hr
 have hu0:_<PySem.cLine:=au hu
 refine⟨_,(iw (iG (kO (iU (kP .lst) rfl B.isinstance aS (h8 (qv 0) (h8 (kQ (v:=.ty "list") rfl B.list bH rfl) ic))) (lY (kG mV (iU kc rfl B.len bu (h8 (qv 0) ic)) (qv 1) (iL _)))))),?_⟩
 simp_arith[kd,ea,ir,j5]
 exact h
theorem JR(B:Blt mg)(D:DefAt K mg "is_pair_of_wholes" (ig 9) ["thing"] f fd)(Dqa:DefAt K mg "is_tuple_of" (ig 8) ["thing","many"] fqa dqa)(Gqa:FnOk P w K mg base iu 1 fqa dqa ["thing","many"] ue)(Dqd:DefAt K mg "is_whole" (ig 7) ["thing"] fqd dqd)(Gqd:FnOk P w K mg base iu 1 fqd dqd ["thing"] nT):FnOk P w K mg base iu 2 f fd ["thing"] vy:=by
 have sc:FnScope ["thing"] ["thing"] (iN (ig 9)):=by walk_at "SC"
 refine D.F.ok sc (fun vs H Q E h=>?_) (fun cdv A outer s H vs Q E hr h=>?_)
 ·obtain⟨x,p,rfl,_⟩:=h
  rfl
 obtain⟨x,p,rfl,⟨a,rfl,ea⟩,h⟩:=h
 have hu:=iX hr
 have hu0:_<PySem.cLine:=au hu
 refine⟨_,(iw (iG (kO (iF Gqa (hr.mono (by decide)) rfl Dqa.m Dqa.F.kp Dqa.b .nil iD (h8 (qv 0) (h8 h9 ic))) (kO (iF Gqd (hr.mono (by decide)) rfl Dqd.m Dqd.F.kp Dqd.b .nil iD (h8 (il ip (qv 0) h9 (fun _ _=>rfl)) ic)) (lY (iF Gqd (hr.mono (by decide)) rfl Dqd.m Dqd.F.kp Dqd.b .nil iD (h8 (il ip (qv 0) h9 (fun _ _=>rfl)) ic))))))),?_⟩
 simp_arith[ir,ea,iJ,iT]
 refine⟨a,_,2,rfl,ea,?_⟩
 simp_arith[ir,ea,iJ,iT,Int.cast_ofNat_Int,cC]
 refine⟨_,.int,rfl,rfl,?_⟩
 simp_arith[lZ,ir,ea,iJ,iT]
 exact⟨_,.int,rfl,rfl,h⟩
theorem JH(B:Blt mg)(C:Cst mg c1 c2 c3 c4)(D:DefAt K mg "place_stands" (ig 20) ["thing","last","spent"] f fd)(Dqf:DefAt K mg "is_pair_of_wholes" (ig 9) ["thing"] fqf dqf)(Gqf:FnOk P w K mg base iu 2 fqf dqf ["thing"] vy):FnOk P w K mg base iu 3 f fd ["thing","last","spent"] CG:=by
 have sc:FnScope ["thing","last","spent"] ["thing","last","spent"] (iN (ig 20)):=by walk_at "SC"
 refine D.F.ok sc (fun vs H Q E h=>?_) (fun cdv A outer s H vs Q E hr h=>?_)
 ·obtain⟨x,p,l,s,rfl,_⟩:=h
  rfl
 obtain⟨x,p,l,sp,rfl,hp,⟨b1,b2,b3,b4⟩,h⟩:=h
 obtain⟨a,rfl,ea⟩:=id hp
 have hu:=iX hr
 have hu0:_<PySem.cLine:=au hu
 refine⟨_,(ik (i7 (jy (jz (iF Gqf (hr.mono (by decide)) rfl Dqf.m Dqf.F.kp Dqf.b .nil iD (h8 (qv 0) ic)))) (iw (iG jk)) i8) (iw (iG (kO (zW mn mV (qv 1) (il ip (qv 0) h9 (fun _ _=>rfl)) (lM (v:=.int 999) rfl C.LAST_PLACE ⟨_,rfl⟩)) (lY (zW mV mV h9 (il ip (qv 0) h9 (fun _ _=>rfl)) (iQ rS (lM (v:=.int 1000000000000) rfl C.MOST_PRICE ⟨_,rfl⟩) (qv 2)))))))),?_⟩
 walk_at "D"
 refine⟨_,p,rfl,hp,?_⟩
 simp_arith[ir,ea,iJ,iT,af b1,af b2,af b3,af b4]
 exact h
theorem Jl(B:Blt mg)(D:DefAt K mg "tie_stands" (ig 21) ["thing","last","prices"] f fd)(Dqf:DefAt K mg "is_pair_of_wholes" (ig 9) ["thing"] fqf dqf)(Gqf:FnOk P w K mg base iu 2 fqf dqf ["thing"] vy):FnOk P w K mg base iu 3 f fd ["thing","last","prices"] Cp:=by
 have sc:FnScope ["thing","last","prices"] ["thing","last","prices"] (iN (ig 21)):=by walk_at "SC"
 refine D.F.ok sc (fun vs H Q E h=>?_) (fun cdv A outer s H vs Q E hr h=>?_)
 ·obtain⟨x,p,y,q,d,kvs,rfl,_⟩:=h
  rfl
 obtain⟨x,p,y,q,d,kvs,rfl,hp,hq,hd,⟨b1,b2,b3,b4⟩,h⟩:=h
 obtain⟨a,rfl,ea⟩:=id hp
 obtain⟨b,rfl,eb⟩:=id hq
 unfold ja at b3 b4
 have hu:=iX hr
 have hu0:_<PySem.cLine:=au hu
 refine⟨_,(ik (i7 (jy (jz (iF Gqf (hr.mono (by decide)) rfl Dqf.m Dqf.F.kp Dqf.b .nil iD (h8 (qv 0) ic)))) (iw (iG jk)) i8) (iw (iG (kO (kG (D5 hu0) (qv 1) (qv 0) (iL _)) (kO (kG mn (il ip (qv 0) h9 (fun _ _=>rfl)) (il ip (qv 0) h9 (fun _ _=>rfl)) (iL _)) (kO (vo (qf hu (il ip (qv 0) h9 (fun _ _=>rfl)) (qv 2))) (lY (vo (qf hu (il ip (qv 0) h9 (fun _ _=>rfl)) (qv 2)))))))))),?_⟩
 walk_at "D"
 refine⟨_,p,rfl,hp,?_⟩
 simp_arith[ir,ea,eb,hd,iJ,iT,b1,af b2,b3,b4]
 exact h
def PlOk:Int->Int->List (Int×Int)->Prop
 |_,_,[]=>True
 |l,s,p::r=>(l<p.1/\p.1<=999/\1<=p.2/\p.2<=1000000000000-s)/\PlOk p.1 (s+p.2) r
noncomputable def i5(ps:List (Int×Int)):List (ij×V):=ps.map fun p=>(Sum.inl p.1,V.int p.2)
def TiOk(kvs:List (ij×V)):Int×Int->List (Int×Int)->Prop
 |_,[]=>True
 |q,p::r=>(HT.lexLt [q.1,q.2] [p.1,p.2]=true/\p.1<p.2/\ja kvs p.1=true/\ja kvs p.2=true)/\TiOk kvs p r
structure WebOk(ps ts:List (Int×Int)):Prop where
 pl:ps.length<=40
 p:PlOk (-1) 0 ps
 tl:ts.length<=120
 t:TiOk (i5 ps) (-1,-1) ts
def jbz(H:Hp)(v:V)(ps ts:List (Int×Int)):Prop:=
 ∃u pa ta xs ys,v= .ref u/\H u=some (.tup [.ref pa,.ref ta])/\H pa=some (.lst xs)/\H ta=some (.lst ys)/\Prs H xs ps/\Prs H ys ts
theorem jbz.same{H H':Hp}{v:V}{ps ts:List (Int×Int)}(h:jbz H v ps ts)(s:Same H H'):jbz H' v ps ts:=by
 obtain⟨u,pa,ta,xs,ys,e,h1,h2,h3,h4,h5⟩:=h
 exact⟨u,pa,ta,xs,ys,e,s _ _ h1,s _ _ h2,s _ _ h3,Prs.same s h4,Prs.same s h5⟩
theorem PlOk.gt:∀{ps:List (Int×Int)} {l s:Int},PlOk l s ps->∀p∈ps,l<p.1
 |[],_,_,_,_,h=>by cases h
 | q::r,l,s,h,p,hp=>by
  rcases aR.mp hp with e|hp
  ·rw[e];exact h.1.1
  ·have:=PlOk.gt h.2 p hp
   have:=h.1.1
   lia
theorem PlOk.nodup:∀{ps:List (Int×Int)} {l s:Int},PlOk l s ps->(ps.map (·.1)).Nodup
 |[],_,_,_=>fu
 |q::r,l,s,h=>by
  rw[ai]
  refine bO.mpr ⟨fun hm=>?_,PlOk.nodup h.2⟩
  obtain⟨p,hp,e⟩:=av.mp hm
  have:=PlOk.gt h.2 p hp
  lia
theorem uo{ps:List (Int×Int)}(h:(ps.map (·.1)).Nodup):((i5 ps).map (·.1)).Nodup:=by
 unfold i5
 rw[bw]
 have e:((fun(x:ij×V)=>x.1)∘fun(p:Int×Int)=>((Sum.inl p.1:ij),V.int p.2))=(fun(n:Int)=>(Sum.inl n:ij))∘fun(p:Int×Int)=>p.1:=rfl
 rw [e,<- bw]
 unfold List.Nodup at h ⊢
 rw[df]
 exact h.imp fun q z=>q (bL z)
theorem qI{H:Hp}:∀{xs:List V} {ps:List (Int×Int)},Prs H xs ps->Paired (PairAt H) xs (i5 ps)
 |_,_,.nil=>.nil
 |_,_,.cons r t=>by
  obtain⟨a,e,q⟩:=r
  exact .cons ⟨a,e,q⟩ (qI t)
theorem nV:∀{ps:List (Int×Int)} {p:Int×Int},(ps.map (·.1)).Nodup->p∈ps->iK (i5 ps) (Sum.inl p.1:ij)=some (.int p.2)
 |[],_,_,h=>by cases h
 | q::r,p,hn,h=>by
  rw[ai]at hn
  unfold i5 iK
  rw[ai,List.find?_cons]
  rcases aR.mp h with e|h
  ·rw[e]
   simp
  ·have hne:q.1≠p.1:=fun z=>(bO.mp hn).1 (by rw[z];exact cg h)
   have hd:decide ((Sum.inl q.1:ij)=Sum.inl p.1)=false:=az fun z=>hne (bL z)
   dsimp only
   rw[hd]
   exact nV (bO.mp hn).2 h
theorem zG{ps:List (Int×Int)}{p:Int×Int}(hn:(ps.map (·.1)).Nodup)(h:p∈ps):ja (i5 ps) p.1=true:=by
 unfold ja
 rw[nV hn h]
 rfl
def Cy:Sp:=fun vs H Q _=>∃a xs ps,vs=[.ref a]/\H a=some (.lst xs)/\Prs H xs ps/\ps.length<=40/\PlOk (-1) 0 ps/\∀H',Same H H'->Q .non H'
def B1:Sp:=fun vs H Q _=>∃a d xs ts kvs,vs=[.ref a,.ref d]/\H a=some (.lst xs)/\H d=some (.dK kvs)/\Prs H xs ts/\ts.length<=120/\TiOk kvs (-1,-1) ts/\∀H',Same H H'->Q .non H'
def ud:Sp:=fun vs H Q _=>∃v ps ts,vs=[v]/\jbz H v ps ts/\WebOk ps ts/\∀H',Same H H'->Q .non H'
theorem JQ(B:Blt mg)(C:Cst mg c1 c2 c3 c4)(D:DefAt K mg "look_at_places" (ig 22) ["places"] f fd)(Dqe:DefAt K mg "is_list_up_to" (ig 10) ["thing","most"] fqe dqe)(Gqe:FnOk P w K mg base iu 1 fqe dqe ["thing","most"] ur)(Dzo:DefAt K mg "place_stands" (ig 20) ["thing","last","spent"] fzo dzo)(Gzo:FnOk P w K mg base iu 3 fzo dzo ["thing","last","spent"] CG):FnOk P w K mg base iu 4 f fd ["places"] Cy:=by
 have sc:FnScope ["places","last","spent","number","thing"] ["places"] (iN (ig 22)):=by walk_at "SC"
 refine D.F.ok sc (fun vs H Q E h=>?_) (fun cdv A outer s H vs Q E hr h=>?_)
 ·obtain⟨a,xs,ps,rfl,_⟩:=h
  rfl
 obtain⟨a,xs,ps,rfl,ea,hp,hl,ok,h⟩:=h
 have hlx:xs.length=ps.length:=ao hp
 have hu:=iX hr
 have hu0:_<PySem.cLine:=au hu
 refine⟨_,(ik (i7 (jy (jz (iF Gqe (hr.mono (by decide)) rfl Dqe.m Dqe.F.kp Dqe.b .nil iD (h8 (qv 0) (h8 (lM (v:=.int 40) rfl C.MOST_PLACES ⟨_,rfl⟩) ic))))) (iw qJ) i8) (ik (iH (i:=1) sc.nd rfl (Or.inl rfl) (kZ k6 h9)) (ik (iH (i:=2) sc.nd rfl (Or.inl rfl) h9) (iw (j0 ba rfl (sL rfl B.enumerate (h8 (qv 0) ic)) (jJ (n:=2) rfl (iO (iE (i:=3) sc.nd rfl (Or.inl rfl)) (iO (iE (i:=4) sc.nd rfl (Or.inl rfl)) jK))) (ik (i7 (jy (jz (iF Gzo (hr.mono (by decide)) rfl Dzo.m Dzo.F.kp Dzo.b .nil iD (h8 (qv 4) (h8 (qv 1) (h8 (qv 2) ic)))))) (iw qJ) i8) (ik (iH (i:=1) sc.nd rfl (Or.inl rfl) (il ip (qv 4) h9 (fun _ _=>rfl))) (iw (qp (i:=2) sc.nd rfl (Or.inl rfl) (il ip (qv 4) h9 (fun _ _=>rfl)) sj))))))))),?_⟩
 walk_at "D"
 refine⟨a,xs,40,rfl,ea,?_⟩
 rw[af (show(xs.length:Int)<=40 by lia)]
 walk_at "D"
 refine⟨a,rfl,⟨xs,SqL.of ea⟩,wd (K:=K) (a:=a) (xs:=xs) (fun i σ H1=>∃l sp nb th,σ=[some (.ref a),some (.int l),some (.int sp),nb,th]/\Same H H1/\PlOk l sp (ps.drop i)) ⟨-1,0,none,none,rfl,Same.refl _,ok⟩ (fun i σ H1 _ ⟨_,_,_,_,_,s1,_⟩=>SqL.of (s1 _ _ ea)) ?_ ?_⟩
 ·rintro i x σ H1 t hi ⟨l,sp,nb,th,rfl,s1,ok1⟩ ht
  obtain⟨p,hpi,px⟩:=jl hp hi
  rw[nh hpi]at ok1
  have s2:Same H (upd H1 t (.tup [.int i,x])):=s1.trans (iq ht _)
  have px2:=px.same s2
  obtain⟨u,rfl,eu⟩:=id px2
  simp_arith[ie]
  refine⟨_,p,l,sp,rfl,px2,ok1.1,?_⟩
  simp_arith[ir,eu,iJ,iT]
  exact⟨_,_,_,_,rfl,s2,ok1.2⟩
 ·rintro σ H1 ⟨l,sp,nb,th,rfl,s1,_⟩
  exact h H1 s1
theorem JE(B:Blt mg)(C:Cst mg c1 c2 c3 c4)(D:DefAt K mg "look_at_ties" (ig 23) ["ties","prices"] f fd)(Dqe:DefAt K mg "is_list_up_to" (ig 10) ["thing","most"] fqe dqe)(Gqe:FnOk P w K mg base iu 1 fqe dqe ["thing","most"] ur)(Dzp:DefAt K mg "tie_stands" (ig 21) ["thing","last","prices"] fzp dzp)(Gzp:FnOk P w K mg base iu 3 fzp dzp ["thing","last","prices"] Cp):FnOk P w K mg base iu 4 f fd ["ties","prices"] B1:=by
 have sc:FnScope ["ties","prices","last","number","thing"] ["ties","prices"] (iN (ig 23)):=by walk_at "SC"
 refine D.F.ok sc (fun vs H Q E h=>?_) (fun cdv A outer s H vs Q E hr h=>?_)
 ·obtain⟨a,d,xs,ts,kvs,rfl,_⟩:=h
  rfl
 obtain⟨a,d,xs,ts,kvs,rfl,ea,ed,hp,hl,ok,h⟩:=h
 have hlx:xs.length=ts.length:=ao hp
 have hu:=iX hr
 have hu0:_<PySem.cLine:=au hu
 refine⟨_,(ik (i7 (jy (jz (iF Gqe (hr.mono (by decide)) rfl Dqe.m Dqe.F.kp Dqe.b .nil iD (h8 (qv 0) (h8 (lM (v:=.int 120) rfl C.MOST_TIES ⟨_,rfl⟩) ic))))) (iw qJ) i8) (ik (iH (i:=2) sc.nd rfl (Or.inl rfl) (jw (h8 (kZ k6 h9) (h8 (kZ k6 h9) ic)))) (iw (j0 ba rfl (sL rfl B.enumerate (h8 (qv 0) ic)) (jJ (n:=2) rfl (iO (iE (i:=3) sc.nd rfl (Or.inl rfl)) (iO (iE (i:=4) sc.nd rfl (Or.inl rfl)) jK))) (ik (i7 (jy (jz (iF Gzp (hr.mono (by decide)) rfl Dzp.m Dzp.F.kp Dzp.b .nil iD (h8 (qv 4) (h8 (qv 2) (h8 (qv 1) ic)))))) (iw qJ) i8) (iw (iH (i:=2) sc.nd rfl (Or.inl rfl) (qv 4)))))))),?_⟩
 walk_at "D"
 refine⟨a,xs,120,rfl,ea,?_⟩
 rw[af (show(xs.length:Int)<=120 by lia)]
 walk_at "D"
 intro t0 ht0
 refine⟨a,rfl,⟨xs,SqL.of (iq ht0 _ _ _ ea)⟩,wd (K:=K) (a:=a) (xs:=xs) (fun i σ H1=>∃lv q nb th,σ=[some (.ref a),some (.ref d),some lv,nb,th]/\Same H H1/\Pr H1 lv q/\TiOk kvs q (ts.drop i)) ⟨_,(-1,-1),none,none,rfl,iq ht0 _,⟨t0,rfl,ie⟩,ok⟩ (fun i σ H1 _ ⟨_,_,_,_,_,s1,_⟩=>SqL.of (s1 _ _ ea)) ?_ ?_⟩
 ·rintro i x σ H1 t hi ⟨lv,q,nb,th,rfl,s1,pq,ok1⟩ ht
  obtain⟨p,hpi,px⟩:=jl hp hi
  rw[nh hpi]at ok1
  have s2:Same H (upd H1 t (.tup [.int i,x])):=s1.trans (iq ht _)
  have px2:=px.same s2
  simp_arith[ie]
  refine⟨_,p,_,q,d,kvs,rfl,px2,pq.same (iq ht _),s2 _ _ ed,ok1.1,?_⟩
  walk_at "D"
  exact⟨_,_,_,_,rfl,s2,px2,ok1.2⟩
 ·rintro σ H1 ⟨lv,q,nb,th,rfl,s1,_⟩
  exact h H1 s1
theorem Jv(B:Blt mg)(D:DefAt K mg "look_at_web" (ig 24) ["thing"] f fd)(Dqa:DefAt K mg "is_tuple_of" (ig 8) ["thing","many"] fqa dqa)(Gqa:FnOk P w K mg base iu 1 fqa dqa ["thing","many"] ue)(Dzl:DefAt K mg "look_at_places" (ig 22) ["places"] fzl dzl)(Gzl:FnOk P w K mg base iu 4 fzl dzl ["places"] Cy)(Dzm:DefAt K mg "look_at_ties" (ig 23) ["ties","prices"] fzm dzm)(Gzm:FnOk P w K mg base iu 4 fzm dzm ["ties","prices"] B1):FnOk P w K mg base iu 5 f fd ["thing"] ud:=by
 have sc:FnScope ["thing"] ["thing"] (iN (ig 24)):=by walk_at "SC"
 refine D.F.ok sc (fun vs H Q E h=>?_) (fun cdv A outer s H vs Q E hr h=>?_)
 ·obtain⟨v,ps,ts,rfl,_⟩:=h
  rfl
 obtain⟨v,ps,ts,rfl,hw,ok,h⟩:=h
 obtain⟨u,pa,ta,xs,ys,rfl,eu,ep,et,pp,pt⟩:=hw
 have hlx:xs.length=ps.length:=ao pp
 have okl:=ok.pl
 have hu:=iX hr
 have hu0:_<PySem.cLine:=au hu
 refine⟨_,(ik (i7 (jy (jz (iF Gqa (hr.mono (by decide)) rfl Dqa.m Dqa.F.kp Dqa.b .nil iD (h8 (qv 0) (h8 h9 ic))))) (iw qJ) i8) (ik (jV (iF Gzl (hr.mono (by decide)) rfl Dzl.m Dzl.F.kp Dzl.b .nil iD (h8 (il ip (qv 0) h9 (fun _ _=>rfl)) ic))) (iw (jV (iF Gzm (hr.mono (by decide)) rfl Dzm.m Dzm.F.kp Dzm.b .nil iD (h8 (il ip (qv 0) h9 (fun _ _=>rfl)) (h8 (lN (pD rfl) rfl B.dict cP (h8 (il ip (qv 0) h9 (fun _ _=>rfl)) ic)) ic))))))),?_⟩
 walk_at "D"
 refine⟨u,_,2,rfl,eu,?_⟩
 simp_arith[ir,eu,iJ,iT,Int.cast_ofNat_Int,cC]
 refine⟨pa,xs,ps,rfl,ep,pp,ok.pl,ok.p,fun H1 s1=>?_⟩
 simp_arith[ir,s1 _ _ eu,s1 _ _ ep,iJ,iT]
 refine⟨i5 ps,qI (Prs.same s1 pp),by lia,uo ok.p.nodup,fun d hd=>?_⟩
 have s2:Same H (upd H1 d (.dK (i5 ps))):=s1.trans (iq hd _)
 exact⟨ta,d,ys,ts,_,rfl,s2 _ _ et,ie,Prs.same s2 pt,ok.tl,ok.t,fun H3 s3=>h H3 (s2.trans s3)⟩
theorem JW:k9 3 0=some 0:=rfl
theorem JV:k9 3 1=some 1:=rfl
theorem JU:k9 3 2=some 2:=rfl
def StO(o:HO):Prop:=∃c st fl,o= .lst [.int c,.int st,.bl fl]/\0<=st/\st<4294967296
theorem StO.imm{o:HO}(h:StO o):u4 o=false:=by obtain⟨_,_,_,rfl,_⟩:=h;rfl
def z5(K:PySem.W.Frag):Sp:=fun vs H Q _=>∃a k ns,vs=[.ref a,.int k]/\Scr K H a ns/\0<=k/\k<=1000/\∀s o,H s=none->StO o->Q (.ref s) (upd H s o)
def sm:Sp:=fun vs H Q _=>∃s o m,vs=[.ref s,.int m]/\H s=some o/\StO o/\1<=m/\m<1000000000000000000/\∀d o,0<=d->d<m->StO o->Q (.int d) (upd H s o)
theorem qX{i j:Int}(h1:-(2^64)<j)(h2:j<2^64):CMul i j:=.inr ⟨h1,h2⟩
theorem mD{i j:Int}(h1:-(2^64)<i)(h2:i<2^64):CMul i j:=.inl ⟨h1,h2⟩
def Dr:Int->List (Int×Int)->Prop
 |_,[]=>True
 |l,p::r=>(l<p.1/\p.1<=l+23/\1<=p.2/\p.2<=1000000000)/\Dr p.1 r
noncomputable def p7(l:Int):List (Int×Int)->Int
 |[]=>l
 |p::r=>p7 p.1 r
theorem Dr.snoc:∀{ps:List (Int×Int)} {l:Int} {p:Int×Int},Dr l ps->(p7 l ps<p.1/\p.1<=p7 l ps+23/\1<=p.2/\p.2<=1000000000)->Dr l (ps++[p])
 |[],_,_,_,h=>⟨h,trivial⟩
 |q::r,_,_,h,h2=>⟨h.1,Dr.snoc h.2 h2⟩
theorem BR:∀{ps:List (Int×Int)} {l:Int} {p:Int×Int},p7 l (ps++[p])=p.1
 |[],_,_=>rfl
 |q::r,_,_=>BR (ps:=r)
def But(s:Addr)(H H':Hp):Prop:=∀b o,b≠s->H b=some o->H' b=some o
theorem But.refl(s:Addr)(H:Hp):But s H H:=fun _ _ _ q=>q
theorem But.trans{s:Addr}{H H1 H2:Hp}(a:But s H H1)(b:But s H1 H2):But s H H2:=fun c o n q=>b c o n (a c o n q)
theorem But.at (s:Addr)(H:Hp)(o:HO):But s H (upd H s o):=fun b u n q=>by rw[ix n];exact q
theorem But.new{s t:Addr}{H:Hp}{o:HO}(h:H t=none):But s H (upd H t o):=fun b u n q=>by rw[ix (iI q h)];exact q
theorem But.tups{s:Addr}{H H':Hp}(h:But s H H'){o:HO}(e:H s=some o)(i:u4 o=false):TupS H H':=fun b u z q=>h b u (fun x=>by rw[x,e]at q;cases q;rw[i]at z;cases z) q
theorem Kk{α:Type}{x y z u:α}{r:List α}:jb (x::y::z::u::r) 3=some u:=by
 have e:jb (x::y::z::u::r) ((3:Nat):Int)=some u:=k7 rfl
 exact e
theorem yA{a b c e d:Int}(h0:0<=d)(h1:d<4):∃v,jb [V.int a,.int b,.int c,.int e] d=some (.int v)/\(v=a\/v=b\/v=c\/v=e):=by
 have hd:d=0\/d=1\/d=2\/d=3:=by lia
 rcases hd with rfl|rfl|rfl|rfl
 ·exact⟨a,iJ,.inl rfl⟩
 ·exact⟨b,iT,.inr (.inl rfl)⟩
 ·exact⟨c,ki,.inr (.inr (.inl rfl))⟩
 ·exact⟨e,Kk,.inr (.inr (.inr rfl))⟩
theorem p9:(10:Int)^Int.toNat 9=1000000000:=by decide
def A5:Sp:=fun vs H Q _=>∃s o n,vs=[.ref s,.int n]/\H s=some o/\StO o/\0<=n/\n<=100/\
 ∀r H' o' xs ps,H r=none->But s H H'->H' s=some o'->StO o'->H' r=some (.lst xs)->Prs H' xs ps->(ps.length:Int)=n->Dr (-1) ps->Q (.ref r) H'
def yC(H H':Hp)(t:Addr)(ps ts:List (Int×Int)):Prop:=∃l1 l2 xs ys,H l1=none/\H l2=none/\l1≠l2/\H' t=some (.tup [.ref l1,.ref l2])/\H' l1=some (.lst xs)/\H' l2=some (.lst ys)/\Prs H' xs ps/\Prs H' ys ts
def vt:Sp:=fun vs H Q _=>∃v ps ts,vs=[v]/\jbz H v ps ts/\∀t H',Same H H'->yC H H' t ps ts->Q (.ref t) H'
theorem IL(B:Blt mg)(D:DefAt K mg "_law_take" (ig 55) ["_law_state","_law_many"] f fd):FnOk P w K mg base iu 1 f fd ["_law_state","_law_many"] sm:=by
 have sc:FnScope ["_law_state","_law_many","_law_digit","_law_number"] ["_law_state","_law_many"] (iN (ig 55)):=by walk_at "SC"
 refine D.F.ok sc (fun vs H Q E h=>?_) (fun cdv A outer s H vs Q E hr h=>?_)
 ·obtain⟨s,o,m,rfl,_⟩:=h
  rfl
 obtain⟨st,o,m,rfl,es,⟨c,x,fl,rfl,x0,x1⟩,m0,m1,h⟩:=h
 have hu:=iX hr
 have hu0:_<PySem.cLine:=au hu
 refine⟨_,(ik (i7 (jz (il ip (qv 0) h9 (fun _ _=>rfl))) (ik (iH (i:=2) sc.nd rfl (Or.inl rfl) (iQ oy (il ip (qv 0) h9 (fun _ _=>rfl)) (qv 1))) (ik (si (iQ FB (il ip (qv 0) h9 (fun _ _=>rfl)) (qv 1)) (sg (qv 0) h9 pf)) (ik (si (kG pU (il ip (qv 0) h9 (fun _ _=>rfl)) h9 (iL _)) (sg (qv 0) h9 pf)) (iw (iG (qv 2)))))) i8) (ik (si (iQ oy (iQ jM (iQ lK (il ip (qv 0) h9 (fun _ _=>rfl)) h9) h9) h9) (sg (qv 0) h9 pf)) (ik (iH (i:=3) sc.nd rfl (Or.inl rfl) (iQ yX (iQ oy (iQ lK (il ip (qv 0) h9 (fun _ _=>rfl)) (il ip (qv 0) h9 (fun _ _=>rfl))) h9) h9)) (ik (i7 (iV pU (qv 1) (iQ u9 h9 h9) (iL _)) (ik (si (iQ oy (iQ jM (iQ lK (il ip (qv 0) h9 (fun _ _=>rfl)) h9) h9) h9) (sg (qv 0) h9 pf)) (iw (iH (i:=3) sc.nd rfl (Or.inl rfl) (iQ jM (iQ lK (qv 3) h9) (il ip (qv 0) h9 (fun _ _=>rfl)))))) i8) (iw (iG (iQ oy (qv 3) (qv 1)))))))),?_⟩
 simp_arith[ir,es,iJ,iT,ki,JW,JV,JU,ie,Aq]
 have lo:∀n:Int,0<=n%m:=fun n=>fW _ (by lia)
 have hi:∀n:Int,n%m<m:=fun n=>fA _ (by lia)
 have y0:0<=(x*48271+39373)%2147483647:=fW _ (by decide)
 have y1:(x*48271+39373)%2147483647<2147483647:=fA _ (by decide)
 generalize (x*48271+39373)%2147483647=y at y0 y1
 have z0:0<=(y*48271+39373)%2147483647:=fW _ (by decide)
 have z1:(y*48271+39373)%2147483647<2147483647:=fA _ (by decide)
 generalize (y*48271+39373)%2147483647=z at z0 z1
 have cd:De c m:=⟨by lia,by lia⟩
 have cd2:∀n:Int,uI n 16:=fun n=>⟨by decide,by decide⟩
 have cp:uH 10 6:=⟨by decide,by decide,by decide⟩
 refine mO (fun _=>⟨by lia,cd,h _ _ (lo _) (hi _) ⟨_,_,_,rfl,x0,x1⟩⟩) (fun _=>⟨qX (by decide) (by decide),by decide,mD (by lia) (by lia),by decide,cd2 _,cp,?_⟩)
 refine mO (fun _=>⟨qX (by decide) (by decide),by decide,qX (by decide) (by decide),by lia,h _ _ (lo _) (hi _) ⟨_,_,_,rfl,z0,by lia⟩⟩) (fun _=>⟨by lia,h _ _ (lo _) (hi _) ⟨_,_,_,rfl,y0,by lia⟩⟩)
theorem IZ(B:Blt mg)(D:DefAt K mg "_law_begun" (ig 54) ["_law_script","_law_k"] f fd):FnOk P w K mg base iu 1 f fd ["_law_script","_law_k"] (z5 K):=by
 have sc:FnScope ["_law_script","_law_k","_law_cell","_law_mixed"] ["_law_script","_law_k"] (iN (ig 54)):=by walk_at "SC"
 refine D.F.ok sc (fun vs H Q E h=>?_) (fun cdv A outer s H vs Q E hr h=>?_)
 ·obtain⟨a,k,ns,rfl,_⟩:=h
  rfl
 obtain⟨a,k,ns,rfl,hs,k0,k1,h⟩:=h
 have hu:=iX hr
 have hu0:_<PySem.cLine:=au hu
 refine⟨_,(ik (iH (i:=2) sc.nd rfl (Or.inl rfl) h9) (ik (i7 (iV mn (qv 1) (iU xo rfl B.len bu (h8 (qv 0) ic)) (iL _)) (iw (iH (i:=2) sc.nd rfl (Or.inl rfl) (il zK (qv 0) (qv 1) (fun _ _=>rfl)))) i8) (ik (iH (i:=3) sc.nd rfl (Or.inl rfl) (iQ jM (iQ jM (iQ oy (qv 2) h9) (iQ lK h9 (qv 1))) (iQ lK h9 (iQ yX (qv 1) h9)))) (iw (iG (kL (h8 (qv 2) (h8 (iQ oy (qv 3) h9) (h8 (kG rD (qv 2) (iQ u9 h9 h9) (iL _)) ic))))))))),?_⟩
 walk_at "D"
 refine⟨a,_,rfl,.inl hs.sq,?_⟩
 simp_arith[aa,yo]
 have q0:∀n:Int,0<=n%2147483629:=fun n=>fW _ (by decide)
 have q1:∀n:Int,n%2147483629<2147483629:=fun n=>fA _ (by decide)
 have cp:uH 10 18:=⟨by decide,by decide,by decide⟩
 have cd:uI k 7:=⟨by decide,by decide⟩
 refine mO (fun c=>?_) (fun c=>?_)
 ·have c':k<(ns.length:Int):=bp c
  have hk:k.toNat<ns.length:=by lia
  have e1:jb (ns.map V.int) ((k.toNat:Nat):Int)=some (.int ns[k.toNat]):=k7 (by rw[aJ,gE hk];rfl)
  rw[show((k.toNat:Nat):Int)=k by lia]at e1
  refine⟨a,_,k,_,rfl,rfl,hs.sq,e1,?_⟩
  walk_at "D"
  exact⟨by decide,mD (by decide) (by decide),cd,mD (by decide) (by decide),by decide,cp,fun p hp=>h p _ hp ⟨_,_,_,rfl,q0 _,by have:=q1 (ns[k.toNat]%2147483629+104729*k+7919*(k/7));lia⟩⟩
 ·exact⟨by decide,mD (by decide) (by decide),cd,mD (by decide) (by decide),by decide,cp,fun p hp=>h p _ hp ⟨_,_,_,rfl,q0 _,by have:=q1 (0%2147483629+104729*k+7919*(k/7));lia⟩⟩
theorem Jh(B:Blt mg)(D:DefAt K mg "_law_places" (ig 56) ["_law_state","_law_count"] f fd)(Dqc:DefAt K mg "_law_take" (ig 55) ["_law_state","_law_many"] fqc dqc)(Gqc:FnOk P w K mg base iu 1 fqc dqc ["_law_state","_law_many"] sm):FnOk P w K mg base iu 2 f fd ["_law_state","_law_count"] A5:=by
 have sc:FnScope ["_law_state","_law_count","_law_kind","_law_places_here","_law_number","_law_k"] ["_law_state","_law_count"] (iN (ig 56)):=by walk_at "SC"
 refine D.F.ok sc (fun vs H Q E h=>?_) (fun cdv A outer s H vs Q E hr h=>?_)
 ·obtain⟨s,o,n,rfl,_⟩:=h
  rfl
 obtain⟨st,o,n,rfl,es,so,n0,n1,h⟩:=h
 have hu:=iX hr
 have hu0:_<PySem.cLine:=au hu
 refine⟨_,(ik (iH (i:=2) sc.nd rfl (Or.inl rfl) (iF Gqc (hr.mono (by decide)) rfl Dqc.m Dqc.F.kp Dqc.b .nil iD (h8 (qv 0) (h8 h9 ic)))) (ik (iH (i:=3) sc.nd rfl (Or.inl rfl) (kL ic)) (ik (iH (i:=4) sc.nd rfl (Or.inl rfl) (kZ k6 h9)) (ik (j0 ba rfl (oO rfl B.range (h8 (qv 1) ic)) (iE (i:=5) sc.nd rfl (Or.inl rfl)) (ik (iH (i:=4) sc.nd rfl (Or.inl rfl) (iQ jM (iQ jM (qv 4) h9) (iF Gqc (hr.mono (by decide)) rfl Dqc.m Dqc.F.kp Dqc.b .nil iD (h8 (qv 0) (h8 (il ip (kL (h8 h9 (h8 h9 (h8 h9 (h8 h9 ic))))) (iF Gqc (hr.mono (by decide)) rfl Dqc.m Dqc.F.kp Dqc.b .nil iD (h8 (qv 0) (h8 h9 ic))) (fun _ _=>rfl)) ic))))) (iw (jV (kN aY bh bg kS (qv 3) (h8 (jw (h8 (qv 4) (h8 (iQ jM h9 (iF Gqc (hr.mono (by decide)) rfl Dqc.m Dqc.F.kp Dqc.b .nil iD (h8 (qv 0) (h8 (il ip (kL (h8 h9 (h8 h9 (h8 h9 (h8 (iQ u9 h9 h9) ic))))) (qv 2) (fun _ _=>rfl)) ic)))) ic))) ic)))))) (iw (iG (qv 3))))))),?_⟩
 walk_at "D"
 refine⟨st,o,4,rfl,es,so,by decide,by decide,fun kind o1 k0 k1 so1=>?_⟩
 walk_at "D"
 intro r hr1
 have nr:r≠st:=fun z=>by rw[z,ie]at hr1;cases hr1
 have hr0:H r = none:=by rw [<- hr1,ix nr]
 refine⟨n,rfl,by lia,by lia,oN (n:=n.toNat) (fun i σ H1=>∃l kk ps xs o',σ=[some (.ref st),some (.int n),some (.int kind),some (.ref r),some (.int l),kk]/\But st H H1/\H1 st=some o'/\StO o'/\H1 r=some (.lst xs)/\Prs H1 xs ps/\ps.length=i/\Dr (-1) ps/\l=p7 (-1) ps) ?_ ?_ ?_⟩
 ·refine⟨-1,none,[],[],o1,rfl,fun b u nb q=>?_,by rw[ix nr.symm,ie],so1,ie,.nil,rfl,trivial,rfl⟩
  rw[ix (iI q hr0),ix nb]
  exact q
 ·rintro i σ H1 hi ⟨l,kk,ps,xs,o',rfl,b1,e1,so',er,pp,hlen,dr,el⟩
  have hlx:xs.length=ps.length:=ao pp
  walk_at "D"
  intro p1 hp1
  have np:p1≠st:=(iI e1 hp1).symm
  have nr1:r≠p1:=iI er hp1
  refine⟨st,o',4,rfl,(by rw[ix np.symm];exact e1),so',by decide,by decide,fun d1 o2 d10 d11 so2=>?_⟩
  obtain⟨v,ev,v0,v1⟩:∃v,jb [V.int 1,.int 2,.int 6,.int 23] d1=some (.int v)/\1<=v/\v<=23:=by
   obtain⟨v,ev,hv⟩:=yA (a:=1) (b:=2) (c:=6) (e:=23) d10 d11
   exact⟨v,ev,by lia,by lia⟩
  simp_arith[ir,ix np,ie,ev]
  refine⟨st,o2,v,rfl,ie,so2,by lia,by lia,fun d2 o3 d20 d21 so3=>?_⟩
  simp_arith[Aq]
  have b3:But st H1 (upd (upd H1 p1 (.lst [.int 1,.int 2,.int 6,.int 23])) st o3):=(But.new hp1).trans (But.at _ _ _)
  have e3:(upd (upd H1 p1 (.lst [.int 1,.int 2,.int 6,.int 23])) st o3) st=some o3:=ie
  generalize upd (upd H1 p1 (.lst [.int 1,.int 2,.int 6,.int 23])) st o3=H3 at b3 e3
  have t3:TupS H1 H3:=b3.tups e1 so'.imm
  have er3:=b3 _ _ nr er
  refine⟨⟨r,xs,rfl,er3⟩,⟨by decide,by decide,by decide⟩,?_⟩
  intro p2 hp2
  have np2:p2≠st:=(iI e3 hp2).symm
  have nr2:r≠p2:=iI er3 hp2
  obtain⟨v2,ev2,v20,v21⟩:∃v,jb [V.int 1,.int 3,.int 9,.int (10^Int.toNat 9)] kind=some (.int v)/\1<=v/\v<=1000000000:=by
   obtain⟨v,ev,hv⟩:=yA (a:=1) (b:=3) (c:=9) (e:=10^Int.toNat 9) k0 k1
   rw[p9]at hv
   exact⟨v,ev,by lia,by lia⟩
  simp_arith[ir,ie,ev2]
  refine⟨st,o3,v2,rfl,(by rw[ix np2.symm];exact e3),so3,by lia,by lia,fun d3 o4 d30 d31 so4=>?_⟩
  walk_at "D"
  have b4:But st H3 (upd (upd H3 p2 (.lst [.int 1,.int 3,.int 9,.int (10^Int.toNat 9)])) st o4):=(But.new hp2).trans (But.at _ _ _)
  have e4:(upd (upd H3 p2 (.lst [.int 1,.int 3,.int 9,.int (10^Int.toNat 9)])) st o4) st=some o4:=ie
  generalize upd (upd H3 p2 (.lst [.int 1,.int 3,.int 9,.int (10^Int.toNat 9)])) st o4=H4 at b4 e4
  have t4:TupS H3 H4:=b4.tups e3 so3.imm
  have er4:=b4 _ _ nr er3
  intro t ht
  have nt:t≠st:=(iI e4 ht).symm
  have er5:upd H4 t (.tup [.int (l+1+d2),.int (1+d3)]) r=some (.lst xs):=by rw[ix (iI er4 ht)];exact er4
  simp_arith[er5]
  have t5:TupS H4 (upd H4 t (.tup [.int (l+1+d2),.int (1+d3)])):=tN ht
  have t6:=kx (ys:=xs++[.ref t]) er5
  refine⟨iM (by lia),l+1+d2,_,ps++[(l+1+d2,1+d3)],_,o4,rfl,fun b u nb q=>?_,?_,so4,(by first|rfl|exact ie),?_,?_,?_,?_⟩
  ·have q1:=b4 _ _ nb (b3 _ _ nb (b1 _ _ nb q))
   rw[ix (iI q hr0),ix (iI q1 ht)]
   exact q1
  ·rw[ix nr.symm,ix nt.symm]
   exact e4
  ·exact kg (Prs.tups (((t3.trans t4).trans t5).trans t6) pp) (Pr.tups ⟨t,rfl,ie⟩ t6)
  ·rw[aK,hlen]
   rfl
  ·exact dr.snoc ⟨by show _<l+1+d2;lia,by show l+1+d2<=_;lia,by show 1<=1+d3;lia,by show 1+d3<=_;lia⟩
  ·rw[BR]
 ·rintro σ H1 ⟨l,kk,ps,xs,o',rfl,b1,e1,so',er,pp,hlen,dr,el⟩
  walk_at "D"
  exact h r H1 o' xs ps hr0 b1 e1 so' er pp (by lia) dr
end
end My
namespace So
open PySem PySem.Spec PyProof.Rows
section
variable{prog:Program}{w:World}{s:Shared}
end
end So
namespace L2
open PySem PySem.Spec PyProof.Rows
def Tp(H:Hp)(v:V)(p:Int×Int×Int):Prop:=∃a,v= .ref a/\H a=some (.tup [.int p.1,.int p.2.1,.int p.2.2])
abbrev jP(H:Hp)(xs:List V)(ps:List (Int×Int×Int)):Prop:=Paired (Tp H) xs ps
section
variable{X:Cx}
end
theorem EY{K:PySem.W.Frag}{a c:Addr}{xs ys:List V}{g:TG}{tb:TS}{D:Ends}{σ:St}{H:Hp}(Pv:Nat->St->Hp->Prop)(hxy:xs.length=ys.length)(h0:Pv 0 σ H)(hl:∀i σ H,i<=xs.length->Pv i σ H->SqL K H a xs/\SqL K H c ys)
  (hs:∀i x y σ H t,xs[i]? =some x->ys[i]? =some y->Pv i σ H->H t=none->g (.ref t) σ (upd H t (.tup [x,y])) fun σ2 H2=>tb {D with nx:=Pv (i+1),ct:=Pv (i+1),bk:=D.nx} σ2 H2) (hd:∀σ H,Pv xs.length σ H->D.nx σ H):
  ∃W:Nat->Nat->St->Hp->Prop,(∃m,W 0 m σ H)/\∀i m σ H,W i m σ H->
   ((nD true K a c).stop i H/\D.nx σ H)\/((nD true K a c).go i H/\∃N:St->Hp->Prop,(∀σ' H',N σ' H'->∃m',m'<m/\W (i+1) m' σ' H')/\∀x H',(nD true K a c).yld i H x H'->g x σ H' fun σ2 H2=>tb {D with nx:=N,ct:=N,bk:=D.nx} σ2 H2):=by
 refine⟨fun i m σ H=>m=xs.length-i/\i<=xs.length/\Pv i σ H,⟨xs.length,by simp,bM _,h0⟩,?_⟩
 rintro i m σ H ⟨rfl,hi,p⟩
 obtain⟨q1,q2⟩:=hl i σ H hi p
 have q1':j8 true K H a xs:=by unfold j8;rw[aH rfl];exact q1
 have q2':j8 true K H c ys:=by unfold j8;rw[aH rfl];exact q2
 by_cases hlt:i<xs.length
 ·refine .inr ⟨⟨xs,ys,xs[i],ys[i]'(by lia),q1',q2',by simp[hlt],by simp[show i<ys.length by lia]⟩,Pv (i+1),fun σ' H' p'=>⟨xs.length-(i+1),by lia,rfl,hlt,p'⟩,fun x H' y=>?_⟩
  obtain⟨t,z1,z2,ht,e1,e2,y1,y2⟩:=y
  subst e1 e2
  exact hs i z1 z2 σ _ t (y1 xs q1') (y2 ys q2') p ht
 ·have e:i=xs.length:=by lia
  subst e
  exact .inl ⟨⟨xs,ys,q1',q2',.inl (aF _)⟩,hd σ H p⟩
section
variable{X:Cx}
end
section
variable{prog:Program}{w:World}{A:Around}{E:Value->Shared->Prop}{s:Shared}
end
noncomputable def pA{K:Type}[DecidableEq K](xs:List (K×Addr×Value)):List (K×Addr×Value)->List (K×Addr×Value)
 |[]=>xs
 |q::r=>pA (storedH xs q.1 q.2.1 q.2.2) r
theorem IR{K:Type}[DecidableEq K](xs:List (K×Addr×Value))(k:K)(a:Addr)(v:Value):(storedH xs k a v).length<=xs.length+1:=by
 unfold storedH
 split
 ·rw[aa];lia
 ·rw[aK];exact aF _
section
variable{prog:Program}{w:World}{A:Around}{E:Value->Shared->Prop}{R:Result->Shared->Prop}
noncomputable abbrev TK(prog:Program)(w:World):HeapKind prog w (List ij):=tupleKind (jY prog w)
theorem uh{h h':Heap}{d:Addr}{xs:List (List ij×Addr×Value)}(hd:h.DictOfH (TK prog w) d xs)(k0:∀o,h.get? d=some o->h'.get? d=some o)(k1:∀b o,o.cls= .type "tuple"->h.get? b=some o->h'.get? b=some o):h'.DictOfH (TK prog w) d xs:=by
 obtain⟨o,es,ep,e1,e2,e3,e4,e5,e6⟩:=hd
 refine⟨o,es,ep,k0 _ e1,e2,e3,e4,fun x hx=>?_,e6⟩
 obtain⟨o2,its,n,f1,f2,f3⟩:=e5 x hx
 exact⟨o2,its,n,k1 _ _ f2 f1,f2,f3⟩
theorem Hu{d it l:Addr}{its:Array Value}{more:List (List ij×Addr×Value)}(hh:A.handled=none)(hu:A.in1.units<cLine)(hlen:more.length=its.size)(hsz:its.size<=1000)(hdl:l≠d)(hdi:it≠d)(hil:l≠it):
  ∀(k i:Nat) (tk0:Tok) (s:Shared) (kvs:List (List ij×Addr×Value)),its.size-i=k->i<=its.size->kvs.length<=i->s.heap.IsListIter it l i->s.heap.IsList l its->s.heap.DictOfH (TK prog w) d kvs->
   (∀(j:Nat) (q:List ij×Addr×Value),more[j]? =some q->∃t,its[j]? =some (.ref t)/\s.heap.IsTuple t #[.ref q.2.1,q.2.2]/\(TK prog w).is s.heap q.1 q.2.1)->
   (∀h' tk,h'.DictOfH (TK prog w) d (pA kvs (more.drop i))->(∀b o,b≠d->b≠it->s.heap.get? b=some o->h'.get? b=some o)->R (.ok (.ret .none)) {s with heap:=h',toks:=tk})->
   codeAny (model prog w) A (.builtin "dict.update.loop" ⟨[.ref d,.ref it,.int i tk0,.none],[]⟩) R s:=by
 intro k
 induction k with
 |zero=>
  intro i tk0 s kvs hk hi hkl hit hl hd hp hR
  have e:i=its.size:=by lia
  subst e
  refine de uv ?_
  rw[cK nZ _]
  show wpAny _ A.in1 (pyNext (.ref it)>>=_) _ _ s
  refine ae (fY hh hit hl (by simp) fun h' eb=>?_)
  show wpAny _ A.in1 (Builtin.Dict.addKeywords d []>>=_) _ _ _
  refine ae (aI (aI ?_))
  refine hR h' s.toks ?_ fun b o _ hb q=>eb b o hb q
  rw[dE (by lia)]
  refine uh hd (fun o q=>eb d o hdi.symm q) fun b o c q=>eb b o (fun z=>?_) q
  subst z
  obtain⟨o',e2,c2,_⟩:=hit
  rw[q]at e2;cases e2;rw[c]at c2;exact absurd c2 (by decide)
 | succ k ih=>
  intro i tk0 s kvs hk hi hkl hit hl hd hp hR
  have hlt:i<its.size:=by lia
  have hlm:i<more.length:=by lia
  obtain⟨t,hu',ht,hkey⟩:=hp i more[i] (by simp[hlm])
  have nit:∀{b:Addr} {o:Obj},o.cls= .type "tuple"->s.heap.get? b=some o->b≠it:=fun{b o} c q z=>by
   subst z
   obtain⟨o',e2,c2,_⟩:=hit
   rw[q]at e2;cases e2;rw[c]at c2;exact absurd c2 (by decide)
  have nd:∀{b:Addr} {o:Obj},o.cls= .type "tuple"->s.heap.get? b=some o->b≠d:=fun{b o} c q z=>by
   subst z
   obtain⟨o',_,_,e2,c2,_⟩:=hd
   rw[q]at e2;cases e2;rw[c2.1]at c;exact absurd c (by decide)
  refine de uv ?_
  rw[cK nZ _]
  show wpAny _ A.in1 (pyNext (.ref it)>>=_) _ _ s
  refine ae (fO hit hl hu' fun h1 hit1 sb1=>?_)
  obtain⟨ot0,et0,ct0,_⟩:=id ht
  have ht1:h1.IsTuple t #[.ref more[i].2.1,more[i].2.2]:=ht.extBut sb1.extBut (nit ct0 et0)
  have keep1:∀b o,o.cls= .type "tuple"->s.heap.get? b=some o->h1.get? b=some o:=fun b o c q=>sb1.extBut b o (nit c q) q
  have hd1:h1.DictOfH (TK prog w) d kvs:=uh hd (fun o q=>sb1.extBut d o hdi.symm q) keep1
  have hkey1:(TK prog w).is h1 more[i].1 more[i].2.1:=by
   obtain⟨o2,its2,n2,f1,f2,f3⟩:=hkey
   exact⟨o2,its2,n2,keep1 _ _ f2 f1,f2,f3⟩
  show wpAny _ A.in1 (holding [.ref t] _>>=_) _ _ _
  refine ae (cM ?_)
  refine ae (m:=(Builtin.Dict.pairItems (.ref t)).tryCatch _) ?_
  refine dk ?_
  unfold Builtin.Dict.pairItems
  refine ae (eK ht1.typeIs ?_)
  obtain⟨ot,e1,c1,n1,d1⟩:=id ht1
  rw[aH (by decide)]
  refine ae (bY e1 d1 ?_)
  refine aI ?_
  show wpAny _ A.in1 (holding [.ref more[i].2.1,more[i].2.2] (dictSet d (.ref more[i].2.1) more[i].2.2)) _ _ _
  refine cM (wpAny_dictSet_heap (knd:=TK prog w) hu hkey1 hd1 (fun h2 hd2 sb2=>?_) (by have:=(by decide:1000<=sizeLine);lia))
  replace sb2:Heap.SameBut d h1 h2:=sb2
  have kk:∀b o,b≠d->b≠it->s.heap.get? b=some o->h2.get? b=some o:=fun b o b1 b2 q=>sb2.extBut b o b1 (sb1.extBut b o b2 q)
  refine aI ⟨cZ nZ _,?_⟩
  have hik:((i:Int)+1)=((i+1:Nat):Int):=by lia
  show codeAny _ _ (.builtin "dict.update.loop" ⟨[.ref d,.ref it,rawInt ((i:Int)+1),.none],[]⟩) _ _
  rw[hik]
  refine ih (i+1) 0 _ (storedH kvs more[i].1 more[i].2.1 more[i].2.2) (by lia) (by lia) ?_ (hit1.extBut sb2.extBut hdi) ((hl.extBut sb1.extBut hil).extBut sb2.extBut hdl) hd2 ?_ ?_
  ·have:=IR kvs more[i].1 more[i].2.1 more[i].2.2
   lia
  ·intro j q hq
   obtain⟨t',a1,a2,a3⟩:=hp j q hq
   obtain⟨o3,f1,f2,f3⟩:=a2
   obtain⟨o4,its4,n4,g1,g2,g3⟩:=a3
   exact⟨t',a1,⟨o3,kk _ _ (nd f2 f1) (nit f2 f1) f1,f2,f3⟩,⟨o4,its4,n4,kk _ _ (nd g2 g1) (nit g2 g1) g1,g2,g3⟩⟩
  ·intro h' tk hd' k'
   refine hR h' tk ?_ fun b o b1 b2 q=>k' b o b1 b2 (kk b o b1 b2 q)
   rw[fE hlm]
   exact hd'
theorem Jw{l:Addr}{its:Array Value}{c:Nat}{more:List (List ij×Addr×Value)}{s:Shared}{Q:Value->Shared->Prop}(hh:A.handled=none)(hu:A.in1.in1.units<cLine)(hl:s.heap.get? l=some {cls:=.type "list",dict:=none,data:=.seq its c,slots:=#[]})(hlen:more.length=its.size)(hsz:its.size<=1000)
  (hp:∀(j:Nat) (q:List ij×Addr×Value),more[j]? =some q->∃t,its[j]? =some (.ref t)/\s.heap.IsTuple t #[.ref q.2.1,q.2.2]/\(TK prog w).is s.heap q.1 q.2.1)
  (h:∀h' tk,h'.DictOfH (TK prog w) s.heap.objs.size (pA [] more)->(∀b o,s.heap.get? b=some o->h'.get? b=some o)->Q (.ref s.heap.objs.size) {s with heap:=h',toks:=tk}):
  wpAny (model prog w) A (call (.type "dict") [.ref l]) Q E s:=by
 refine callType_codes (Q₁:=fun obj s₁=>obj= .ref s.heap.objs.size/\s₁={s with heap:=s.heap.push {cls:=.type "dict",data:=.dict #[]}}) F.kt_called_dict (F.kt_typeCall_dict_1 _) F.entry_dict_init (kt_code_dict_new _ ⟨rfl,rfl⟩) ?_
 rintro obj s₁ ⟨rfl,rfl⟩
 have hnew:(s.heap.push {cls:=.type "dict",data:=.dict #[]}).DictOfH (TK prog w) s.heap.objs.size []:=Heap.DictOfH.new s.heap
 have hl1:(s.heap.push {cls:=.type "dict",data:=.dict #[]}).get? l=some {cls:=.type "list",dict:=none,data:=.seq its c,slots:=#[]}:=ag _ hl
 have k1:∀b o,s.heap.get? b=some o->(s.heap.push {cls:=.type "dict",data:=.dict #[]}).get? b=some o:=fun b o q=>ag _ q
 have llt:l<s.heap.objs.size:=aL hl
 generalize s.heap.push {cls:=.type "dict",data:=.dict #[]}=h1 at hnew hl1 k1
 refine⟨hnew.typeIs,F.args_dict_init_2 _ _,?_⟩
 unfold Builtin.«dict.__init__»
 refine ae ?_
 unfold Builtin.Dict.selfAndRest
 refine ae (wpAny_notOrdered_dict hnew.typeIs ?_)
 show wpAny _ _ (pure (s.heap.objs.size,[Value.ref l])) _ _ _
 refine aI ?_
 show wpAny _ _ (Builtin.Dict.updateFrom "dict.__init__" s.heap.objs.size (.ref l) [] .none) _ _ _
 unfold Builtin.Dict.updateFrom
 refine ae (eK (T:="list") ⟨_,hl1,rfl⟩ ?_)
 rw[aH (by decide)]
 refine ae (yU hl1 hh fun h2 tk2 k2=>?_)
 have hl2:=k2 _ _ hl1
 have hd2:h2.DictOfH (TK prog w) s.heap.objs.size []:=uh hnew (fun o q=>k2 _ _ q) fun b o _ q=>k2 _ _ q
 have dlt:s.heap.objs.size<h2.objs.size:=by obtain⟨_,_,_,ho,_⟩:=hd2;exact aL ho
 simp only[Option.isNone_none,if_true]
 refine ae (fc ?_)
 have hL:Heap.IsList h2 l its:=⟨_,hl2,rfl,_,rfl⟩
 refine ae (dM (s:={s with heap:=h2,toks:=tk2}) hL ?_)
 refine aI ⟨cZ nZ _,?_⟩
 have hit:(h2.push {cls:=.type "list_iterator",data:=.fields #[.ref l,.int 0 0]}).IsListIter h2.objs.size l 0:=⟨_,aQ _ rfl,rfl,rfl⟩
 refine Hu (A:=A.in1) (more:=more) hh hu hlen hsz (bj llt) (dD dlt) (bj (Nat.lt_trans llt dlt)) its.size 0 0 {s with heap:=h2.push {cls:=.type "list_iterator",data:=.fields #[.ref l,.int 0 0]},toks:=tk2} [] rfl (bM _) (aF _) hit (hL.push _) (uh hd2 (fun o q=>ag _ q) fun b o _ q=>ag _ q) ?_ ?_
 ·intro j q hq
  obtain⟨t,a1,a2,a3⟩:=hp j q hq
  obtain⟨o,e,r⟩:=a2
  obtain⟨o4,its4,n4,g1,g2,g3⟩:=a3
  exact⟨t,a1,⟨o,ag _ (k2 _ _ (k1 _ _ e)),r⟩,⟨o4,its4,n4,ag _ (k2 _ _ (k1 _ _ g1)),g2,g3⟩⟩
 ·intro h' tk hd' k'
  rw[fw]at hd'
  refine⟨rfl,h h' tk hd' fun b o q=>k' b o (bj (aL q)) (bj (aL (k2 _ _ (k1 _ _ q)))) (ag _ (k2 _ _ (k1 _ _ q)))⟩
end
theorem Ho{K:Type}[DecidableEq K]{xs:List (K×Addr×Value)}{k:K}(h:k∉xs.map (·.1)):(atKey xs k).isSome=false:=by
 unfold atKey
 rw[dP]
 refine eX.mpr fun z=>?_
 rw[gM]at z
 obtain⟨x,hx,e⟩:=z
 exact h (by rw [<- bp e]; exact cg hx)
theorem Cf{K:Type}[DecidableEq K]:∀(more xs:List (K×Addr×Value)),((xs++more).map (·.1)).Nodup->pA xs more=xs++more
 |[],xs,_=>by rw[pA,bb]
 | q::r,xs,h=>by
  have hq:q.1∉xs.map (·.1):=by
   rw[ah,eQ]at h
   intro z
   exact h.2.2 _ z _ (cg (aZ ..)) rfl
  rw[pA]
  have e:storedH xs q.1 q.2.1 q.2.2=xs++[q]:=by
   unfold storedH
   rw[Ho hq,aE aW]
  rw[e,Cf r (xs++[q]) (by rw[bf];exact h),bf]
  rfl
def jki(H:Hp)(v:V)(p:List ij×V):Prop:=∃t b,v= .ref t/\H t=some (.tup [.ref b,p.2])/\H b=some (.tup (p.1.map kV))
def DY:List V->Hp->VK->Prop:=fun vs H Q=>∃l xs kvs,vs=[.ref l]/\H l=some (.lst xs)/\Paired (jki H) xs kvs/\xs.length<=1000/\(kvs.map (·.1)).Nodup/\∀d,H d=none->Q (.ref d) (upd H d (.dT kvs))
theorem Co{X:Cx}{pins:List (Addr×Obj)}{σ:St}{H:Hp}{s:Shared}(I:Inv X pins σ H s):∀{xs:List V} {kvs:List (List ij×V)} {its:List Value},Paired (jki H) xs kvs->Vals xs its->
  ∃more:List (List ij×Addr×Value),KT H kvs more/\∀(j:Nat) (q:List ij×Addr×Value),more[j]? =some q->∃t,its[j]? =some (.ref t)/\s.heap.IsTuple t #[.ref q.2.1,q.2.2]/\(TK X.prog X.w).is s.heap q.1 q.2.1
 |_,_,_,.nil,.nil=>⟨[],.nil,fun j q h=>by simp at h⟩
 | _,_,_,.cons hp tp,.cons rv tr=>by
  obtain⟨more,hk,hm⟩:=Co I tp tr
  obtain⟨t,b,rfl,ht,hb⟩:=hp
  cases rv
  obtain⟨_,its',rt,hi⟩:=I.hok t _ ht
  obtain⟨u1,u2,rfl,r1,r2⟩:=rt.two
  cases(show u1=Value.ref b from r1)
  refine⟨(_,b,u2)::more,.cons ⟨rfl,hb,r2⟩ hk,fun j q h=>?_⟩
  cases j with
  |zero=>
   have e:=(show some _=some q from h)
   cases e
   exact⟨t,rfl,hi,nO I.hok hb⟩
  |succ j=>
   obtain⟨t2,a1,a2,a3⟩:=hm j q (by simpa using h)
   exact⟨t2,by simpa using a1,a2,a3⟩
theorem zy{H:Hp}:∀{kvs:List (List ij×V)} {xs:List (List ij×Addr×Value)},KT H kvs xs->kvs.map (·.1)=xs.map (·.1)
 |_,_,.nil=>rfl
 |_,_,.cons r t=>by rw[ai,ai,r.1,zy t]
theorem Hr{X:Cx}(hc:X.calm=true)(hu:X.A.units+64<cLine):jct X (.type "dict") DY:=by
 intro pins s σ H vs us Q I rv h
 obtain⟨l,xs,kvs,rfl,hl,hp,hz,hn,q⟩:=h
 obtain⟨u,rfl,ru⟩:=rv.one
 cases ru
 obtain⟨z,its,n,r,hlen,e⟩:=I.lstM hl
 obtain⟨more,hkv,hm⟩:=Co I hp r
 have hlm:kvs.length=more.length:=ao hkv
 have hlx:xs.length=kvs.length:=ao hp
 refine Jw (more:=more) (I.ok.hd hc) (show X.A.units+1+1<cLine by lia) e (by rw[aC];lia) (by rw[aC];lia) (fun j q hj=>?_) fun h' tk dd k=>?_
 ·obtain⟨t,a1,a2,a3⟩:=hm j q hj
  exact⟨t,by simpa using a1,a2,a3⟩
 ·rw [Cf more [] (by rw [List.nil_append,<- zy hkv]; exact hn),List.nil_append] at dd
  obtain⟨o,es,ep,h1,h2,h3,h4,_,h5⟩:=dd
  refine⟨.ref s.heap.objs.size,upd H s.heap.objs.size (.dT kvs),I.laid k (aF _) (show jc7 X.prog X.w _ _ _ (.dT kvs)from⟨by have:=(by decide:1000<=sizeLine);lia,by have:=I.big;exact gW (dD this),more,hkv.keeps fun b ys eb=>?_,o,es,ep,h1,h2,h3,h4,h5⟩),rfl,q _ I.fresh⟩
  rw[ix (iI eb I.fresh)]
  exact eb
noncomputable def lV:List Int->List Int->Bool
 |[],_=>true
 |_::_,[]=>false
 |x::xs,y::ys=>if x=y then lV xs ys else decide (x<=y)
theorem vk(x y:Int)(xs ys:List Int):lV (x::xs) (y::ys)=if x=y then lV xs ys else decide (x<=y):=rfl
theorem DK(A:Around)(s:Shared)(a:Int)(t:Tok)(c:Int)(u:Tok)(prog:Program)(w:World)(E Q:Value->Shared->Prop)(h:Q (.bool (decide (a<=c))) s):
  wpAny (model prog w) A (richCompare .LtE (.int a t) (.int c u)) Q E s:=
 (PyProof.Rows.le_int h:wpAny (model prog w) A (compareOp .LtE (.int a t) (.int c u)) Q E s)
section
open PySem.SeqAt
open PySem.AutoSeq1 (wpAny_loadPart')
open PySem.MeetsSeq PySem.MeetsSeq2 PySem.MeetsSeq3
theorem F3(l b:Addr)(is js:Array Value)(n n2:Nat)(dd dd2:Option Addr)(sl mU:Array (Option Value))(ns ms:List Int)(hi:IntsAre is.toList ns)(hj:IntsAre js.toList ms):
  Meets (Builtin.«tuple.__le__» ⟨[.ref l,.ref b],[]⟩)
   (fun _ R s=>s.heap.get? l=some {cls:=.type "tuple",dict:=dd,data:=.seq is n,slots:=sl}/\s.heap.get? b=some {cls:=.type "tuple",dict:=dd2,data:=.seq js n2,slots:=mU}/\R (.ok (.ret (.bool (lV ns ms)))) s):=
 .of_wp fun prog w A R s h=>by
  obtain⟨hp,g,d,tk,os⟩:=s
  obtain⟨hl,hb,h⟩:=h
  have f2:=AutoSeq1.sub_tuple_tuple
  have z1:is.size = ns.length:=by rw [<- hi.length]; simp
  have z2:js.size = ms.length:=by rw [<- hj.length]; simp
  wp_walk using fU hl,fU hb,wpAny_forIn_list _ (fun rest b s'=>b.1=none/\s'=⟨hp,g,d,tk,os⟩/\∃(vs ws:List Value) (k m:List Int),rest=vs.zip ws/\IntsAre vs k/\IntsAre ws m/\k.length+js.size=m.length+is.size/\R (.ok (.ret (.bool (lV k m)))) ⟨hp,g,d,tk,os⟩) _
  case turn=>
   rintro⟨y,x⟩ rest b s' ⟨q0,rfl,vs,ws,k,m,hz,q1,q2,q3,q4⟩
   cases q1 with
   |nil=>rw[List.zip_nil_left]at hz;cases hz
   | cons a t q1=>
    cases q2 with
    |nil=>rw[List.zip_nil_right]at hz;cases hz
    | cons c u q2=>
     rw[List.zip_cons_cons]at hz
     injection hz with p1 p2
     injection p1 with p3 p4
     subst p3 p4
     rw[vk]at q4
     simp only[List.length_cons]at q3
     refine ae (gD a t c u prog w _ _ ?_)
     by_cases e:a=c
     ·rw[aH e]at q4
      rw[show(a==c)=true by rw[e];exact beq_self_eq_true _]
      wp_walk
      exact⟨rfl,rfl,_,_,_,_,p2,q1,q2,by lia,q4⟩
     ·rw[aE e]at q4
      rw[show(a==c)=false by rw[cz];exact e]
      have hri:=DK A.in1 ⟨hp,g,d,tk,os⟩ a t c u prog w
      wp_walk using hri
      exact⟨_,rfl,by simpa using q4⟩
  case fin=>
   rintro⟨b1,b2⟩ s' ⟨q0,rfl,vs,ws,k,m,hz,q1,q2,q3,q4⟩
   simp only at q0
   subst q0
   have hv:lV k m=decide (is.size<=js.size):=by
    cases q1 with
    |nil=>
     simp only[List.length_nil]at q3
     rw[show lV [] m=true by cases m<;>rfl]
     exact(af (by lia)).symm
    | cons a t q1=>
     cases q2 with
     |nil=>
      simp only[List.length_nil,List.length_cons]at q3
      exact(az (by lia)).symm
     |cons c u q2=>
      rw[List.zip_cons_cons]at hz
      cases hz
   rw[hv]at q4
   wp_walk
   exact⟨_,rfl,by simpa[Builtin.Tuple.tupleCompareSizes]using q4⟩
  case h=>
   exact⟨rfl,rfl,is.toList,js.toList,ns,ms,rfl,hi,hj,by lia,h⟩
end
section
variable{X:Cx}{a b c:Expr}{ta tb tc:TE}{pos:Pos}
theorem AW {op op':CmpOp}{g:Int->Int->Bool}{r':R2}(ho:OpR X (compareOp op) (fI fun i j=>.bl (g i j)))(ho':OpR X (compareOp op') r')(ha:PE X a ta)(hb:PE X b tb)(hc:PE X c tc)
    (hm:lastMarks [op,op'] [b,c]=false:=by with_unfolding_all rfl):PT X (.Compare a [op,op'] [b,c] pos) (fB (ve (fI fun i j=>.bl (g i j)) r' ta tb tc)):=by
  intro pins s σ H Q I h
  refine isTrue_chain (iy (ha pins s σ H _ I h) fun v s1 ⟨x,H1,I1,r1,q1⟩=>test_link (iy (hb pins s1 σ H1 _ I1 q1) fun u s2 ⟨y,H2,I2,r2,q2⟩=>
    iy (ho pins s2 σ H2 x y v u (fun z H3=>∃k,z= .bl k/\(if k=true then tc σ H3 fun w' H4=>r' y w' H4 fun z2 H5=>match z2 with | .bl q=>Q q H5|_=>False else Q false H3)) I2 r1 r2 ?_) fun d s3 ⟨z,H3,I3,r3,k,e,q3⟩=>?_)) hm
  · dsimp only at q2
    unfold fI at q2 ⊢
    cases x<;>cases y<;>first
      |exact q2.elim
      |exact⟨_,rfl,q2⟩
  · subst e
    cases r3
    refine cj ?_
    cases k with
    |false=>exact ite_ff ⟨H3,I3,q3⟩
    | true =>
      refine ite_tt (test_last (iy (hc pins s3 σ H3 _ I3 q3) fun w' s4 ⟨z',H4,I4,r4,q4⟩=>iy (ho' pins s4 σ H4 y z' u w' _ I4 r2 r4 q4) fun d2 s5 ⟨z2,H5,I5,r5,q5⟩=>?_))
      cases z2<;>first
        |exact False.elim q5
        | (cases r5
           exact cj ⟨H5,I5,q5⟩)
end
def ux:R2:=fun x y H Q=>match x,y with
 | .ref a,.ref b=>match H a,H b with
  |some (.tup [.int i,.int j]),some (.tup [.int k,.int l])=>Q (.bl (lV [i,j] [k,l])) H
  |_,_=>False
 |_,_=>False
theorem yw{X:Cx}(hu:X.A.units<cLine):OpR X (compareOp .LtE) ux:=by
 intro pins s σ H x y v u Q I rx ry h
 unfold ux at h
 split at h
 ·split at h
  ·rename_i a b _ _ i j k l e1 e2
   cases rx
   cases ry
   obtain⟨its,r1,p1,_⟩:=I.tuple (SqT.of e1)
   obtain⟨its2,r2,p2,_⟩:=I.tuple (SqT.of e2)
   have i1:IntsAre its.toArray.toList [i,j]:=nY r1
   have i2:IntsAre its2.toArray.toList [k,l]:=nY r2
   obtain⟨⟨cls,dd,data,sl⟩,ho,hc,n,hd⟩:=id p1
   obtain⟨⟨cls2,dd2,data2,mU⟩,ho2,hc2,n2,hd2⟩:=id p2
   simp only at hc hd hc2 hd2
   subst hc hd hc2 hd2
   exact richCompare_meets_room (op:=.LtE) ⟨_,ho,rfl⟩ ⟨_,ho2,rfl⟩ PySem.F.slot_tuple_le PySem.F.entry_tuple_le (PySem.F.args_tuple_le_2 _ _) (F3 _ _ _ _ n n2 dd dd2 sl mU _ _ i1 i2)
    ⟨ho,ho2,(fun z=>nomatch z),.bl _,H,I,rfl,h⟩ hu
  ·exact h.elim
 ·exact h.elim
end L2
namespace My
open PySem L2
section
variable{P:Program}{w:World}{K:PySem.W.Frag}{mg:Str->Option Value}{base:Heap}{c1 c2 c3 c4:Tok}{C_NoWeb fqk:Addr}{dI:FuncData}
noncomputable def mG:Dt->Option (Int×Int)
 | .tup [.int x,.int y]=>some (x,y)
 |_=>none
def C8(H:Hp)(x:V)(o:Option (Int×Int)):Prop:=∃d,Rep H d x/\mG d=o
theorem AU{d:Dt}{p:Int×Int}(h:mG d=some p):d=jd p:=by
 unfold mG at h
 split at h
 ·cases h;rfl
 ·cases h
theorem AO{H:Hp}{x:V}{p:Int×Int}(h:Rep H (jd p) x):Pr H x p:=by
 rw[jd,Rep]at h
 obtain⟨a,vs,rfl,ea,r⟩:=h
 rw[Reps]at r
 obtain⟨v,r1,rfl,e1,r⟩:=r
 rw[Reps]at r
 obtain⟨v2,r2,rfl,e2,r⟩:=r
 rw[Reps]at r
 subst r
 rw[Rep]at e1 e2
 subst e1 e2
 exact⟨a,rfl,ea⟩
theorem Pr.o{H:Hp}{x:V}{p:Int×Int}(h:Pr H x p):C8 H x (some p):=⟨jd p,h.rep,rfl⟩
noncomputable def jZ:Dt->Kd
 | .non=>.non
 | .bl _=>.bl
 | .int _=>.int
 | .str _=>.str
 | .tup _=>.tup
 | .lst _=>.lst
theorem lL{H:Hp}{d:Dt}{x:V}(h:Rep H d x):L2.kd H x=some (jZ d):=by
 cases d with
 |non=>rw[Rep]at h;subst h;rfl
 |bl b=>rw[Rep]at h;subst h;rfl
 |int b=>rw[Rep]at h;subst h;rfl
 |str b=>rw[Rep]at h;subst h;rfl
 |tup ds=>rw[Rep]at h;obtain⟨a,vs,rfl,e,_⟩:=h;unfold L2.kd;dsimp only;rw[e];rfl
 |lst ds=>rw[Rep]at h;obtain⟨a,vs,rfl,e,_⟩:=h;unfold L2.kd;dsimp only;rw[e];rfl
noncomputable def lQ(m:Int):Dt->Bool
 | .tup ds=>decide ((ds.length:Int)=m)
 |_=>false
def sr:Sp:=fun vs H Q _=>∃x d m,vs=[x,.int m]/\Rep H d x/\Q (.bl (lQ m d)) H
def Ae:Sp:=fun vs H Q _=>∃x o,vs=[x]/\C8 H x o/\Q (.bl o.isSome) H
noncomputable def pS:Dt->Option (Int×Int×Int)
 | .tup [.int x,.int y,.int z]=>some (x,y,z)
 |_=>none
noncomputable def jq(d:Int×Int×Int):Dt:=.tup [.int d.1,.int d.2.1,.int d.2.2]
theorem A9{d:Dt}{p:Int×Int×Int}(h:pS d=some p):d=jq p:=by
 unfold pS at h
 split at h
 ·cases h;rfl
 ·cases h
theorem wH{H:Hp}{x:V}{p:Int×Int×Int}(h:Rep H (jq p) x):Tp H x p:=by
 rw[jq,Rep]at h
 obtain⟨a,vs,rfl,ea,r⟩:=h
 rw[Reps]at r
 obtain⟨v,r1,rfl,e1,r⟩:=r
 rw[Reps]at r
 obtain⟨v2,r2,rfl,e2,r⟩:=r
 rw[Reps]at r
 obtain⟨v3,r3,rfl,e3,r⟩:=r
 rw[Reps]at r
 subst r
 rw[Rep]at e1 e2 e3
 subst e1 e2 e3
 exact⟨a,rfl,ea⟩
noncomputable def l9(d:Dt):Option (Int×Int×Int):=match pS d with
 |some p=>if 1<=p.2.2 then some p else none
 |none=>none
def Ab:Sp:=fun vs H Q _=>∃x d,vs=[x]/\Rep H d x/\∀H',Same H H'->Q (.bl (l9 d).isSome) H'
def su(ds:List Dt):Bool:=ds.all fun d=>lZ (jZ d)
theorem GD{ds:List Dt}(h:ds.length=3)(hw:su ds=true):∃p:Int×Int×Int,ds=[.int p.1,.int p.2.1,.int p.2.2]:=by
 match ds,h with
 | [a,b,c],_=>
  unfold su at hw
  simp only[List.all_cons,List.all_nil,gw,bo]at hw
  obtain⟨h1,h2,h3⟩:=hw
  cases a with
  | int x=>cases b with
   |int y=>cases c with
    |int z=>exact⟨(x,y,z),rfl⟩
    |_=>cases h3
   |_=>cases h2
  |_=>cases h1
theorem zw{ds:List Dt}(h:¬ds.length=3\/su ds=false):pS (.tup ds)=none:=by
 unfold pS
 split
 ·rename_i e
  cases e
  rcases h with h|h
  ·exact absurd rfl h
  ·cases h
 ·rfl
noncomputable def iZ(ds:List (Int×Int×Int))(n:Int):Int:=(ds.map fun d=>(if d.1=n then d.2.2 else 0)+(if d.2.1=n then d.2.2 else 0)).sum
def jif(kvs:List (ij×V))(ds:List (Int×Int×Int)):Prop:=∀n:Int,(iK kvs (Sum.inl n:ij)=none/\iZ ds n=0)\/iK kvs (Sum.inl n:ij)=some (.int (iZ ds n))
theorem jif.get{kvs:List (ij×V)}{ds:List (Int×Int×Int)}(h:jif kvs ds)(n:Int):(iK kvs (Sum.inl n:ij)).getD (.int 0)= .int (iZ ds n):=by
 rcases h n with⟨e,f⟩|e
 ·rw[e,f];rfl
 ·rw[e];rfl
def vT:Sp:=fun vs H Q _=>∃l zs ds,vs=[.ref l]/\H l=some (.lst zs)/\jP H zs ds/\ds.length<=200/\∀d kvs H',Same H H'->H' d=some (.dK kvs)->jif kvs ds->Q (.ref d) H'
theorem Tp.tups{H H':Hp}{v:V}{p:Int×Int×Int}(h:Tp H v p)(s:TupS H H'):Tp H' v p:=let⟨a,e,q⟩:=h;⟨a,e,s _ _ rfl q⟩
theorem jD{H H':Hp}(s:TupS H H'):∀{xs:List V} {ps:List (Int×Int×Int)},jP H xs ps->jP H' xs ps
 |_,_,.nil=>.nil
 |_,_,.cons r t=>.cons (Tp.tups r s) (jD s t)
theorem tK(kvs:List (ij×V))(k:ij)(v:V):(jm kvs k v).length<=kvs.length+1:=uu kvs k v
theorem Jz(B:Blt mg)(D:DefAt K mg "is_tuple_of" (ig 8) ["thing","many"] f fd):FnOk P w K mg base iu 1 f fd ["thing","many"] sr:=by
 have sc:FnScope ["thing","many"] ["thing","many"] (iN (ig 8)):=by walk_at "SC"
 refine D.F.ok sc (fun vs H Q E h=>?_) (fun cdv A outer s H vs Q E hr h=>?_)
 ·obtain⟨x,d,m,rfl,_⟩:=h
  rfl
 obtain⟨x,d,m,rfl,hd,h⟩:=h
 have hk:=lL hd
 have hu:=iX hr
 have hu0:_<PySem.cLine:=au hu
 refine⟨_,(iw (iG (kO (iU (kP .tup) rfl B.isinstance aS (h8 (qv 0) (h8 (kQ (v:=.ty "tuple") rfl B.tuple cI rfl) ic))) (lY (kG kA (iU kc rfl B.len bu (h8 (qv 0) ic)) (qv 1) (iL _)))))),?_⟩
 cases d with
 |tup ds=>
  rw[Rep]at hd
  obtain⟨a,vs,rfl,ea,r⟩:=hd
  simp_arith[kd,ea,ir,j5]
  rw[r.len]
  exact h
 |non=>simp_arith[hk,j5,jZ];exact h
 |bl b=>simp_arith[hk,j5,jZ];exact h
 |int b=>simp_arith[hk,j5,jZ];exact h
 |str b=>simp_arith[hk,j5,jZ];exact h
 |lst b=>simp_arith[hk,j5,jZ];exact h
theorem JS(B:Blt mg)(D:DefAt K mg "is_pair_of_wholes" (ig 9) ["thing"] f fd)(Dqa:DefAt K mg "is_tuple_of" (ig 8) ["thing","many"] fqa dqa)(Gqa:FnOk P w K mg base iu 1 fqa dqa ["thing","many"] sr)(Dqd:DefAt K mg "is_whole" (ig 7) ["thing"] fqd dqd)(Gqd:FnOk P w K mg base iu 1 fqd dqd ["thing"] nT):FnOk P w K mg base iu 2 f fd ["thing"] Ae:=by
 have sc:FnScope ["thing"] ["thing"] (iN (ig 9)):=by walk_at "SC"
 refine D.F.ok sc (fun vs H Q E h=>?_) (fun cdv A outer s H vs Q E hr h=>?_)
 ·obtain⟨x,o,rfl,_⟩:=h
  rfl
 obtain⟨x,o,rfl,ho,h⟩:=h
 obtain⟨d,hd,rfl⟩:=ho
 have hu:=iX hr
 have hu0:_<PySem.cLine:=au hu
 refine⟨_,(iw (iG (kO (iF Gqa (hr.mono (by decide)) rfl Dqa.m Dqa.F.kp Dqa.b .nil iD (h8 (qv 0) (h8 h9 ic))) (kO (iF Gqd (hr.mono (by decide)) rfl Dqd.m Dqd.F.kp Dqd.b .nil iD (h8 (il ip (qv 0) h9 (fun _ _=>rfl)) ic)) (lY (iF Gqd (hr.mono (by decide)) rfl Dqd.m Dqd.F.kp Dqd.b .nil iD (h8 (il ip (qv 0) h9 (fun _ _=>rfl)) ic))))))),?_⟩
 walk_at "D"
 refine⟨_,d,2,rfl,hd,?_⟩
 cases d with
 | tup ds=>
  rw[Rep]at hd
  obtain⟨a,vs,rfl,ea,r⟩:=hd
  match ds,r,h with
  |[],r,h=>
   rw[show lQ 2 (.tup [])=false from rfl]
   walk_at "D"
   exact h
  |[d1],r,h=>
   have e2:mG (.tup [d1])=none:=by cases d1<;>rfl
   rw[e2]at h
   rw[show lQ 2 (.tup [d1])=false from rfl]
   walk_at "D"
   exact h
  | d1::d2::d3::ds,r,h=>
   have e:lQ 2 (.tup (d1::d2::d3::ds))=false:=by
    unfold lQ
    refine az ?_
    rw[List.length_cons,List.length_cons,List.length_cons]
    lia
   have e2:mG (.tup (d1::d2::d3::ds))=none:=by cases d1<;>cases d2<;>rfl
   rw[e2]at h
   rw[e]
   walk_at "D"
   exact h
  | [d1,d2],r,h=>
   rw[Reps]at r
   obtain⟨v1,r1,rfl,e1,r⟩:=r
   rw[Reps]at r
   obtain⟨v2,r2,rfl,e2,r⟩:=r
   rw[Reps]at r
   subst r
   rw[show lQ 2 (.tup [d1,d2])=true from rfl]
   simp_arith[ir,ea,iJ,iT]
   refine⟨_,jZ d1,rfl,lL e1,?_⟩
   cases d1 with
   |int i=>
    simp_arith[jZ,lZ,ir,ea,iJ,iT]
    refine⟨_,jZ d2,rfl,lL e2,?_⟩
    cases d2<;>exact h
   |_=>simp_arith[jZ,lZ];exact h
 |_=>simp_arith[lQ];exact h
theorem GX(B:Blt mg)(D:DefAt K mg "is_due" (ig 30) ["thing"] f fd)(Dqa:DefAt K mg "is_tuple_of" (ig 8) ["thing","many"] fqa dqa)(Gqa:FnOk P w K mg base iu 1 fqa dqa ["thing","many"] sr)(Dqd:DefAt K mg "is_whole" (ig 7) ["thing"] fqd dqd)(Gqd:FnOk P w K mg base iu 1 fqd dqd ["thing"] nT):FnOk P w K mg base iu 2 f fd ["thing"] Ab:=by
 have sc:FnScope ["thing"] ["thing"] (iN (ig 30)):=by walk_at "SC"
 refine D.F.ok sc (fun vs H Q E h=>?_) (fun cdv A outer s H vs Q E hr h=>?_)
 ·obtain⟨x,d,rfl,_⟩:=h
  rfl
 obtain⟨x,d,rfl,hd,h⟩:=h
 have hu:=iX hr
 have hu0:_<PySem.cLine:=au hu
 refine⟨_,(iw (iG (kO (iF Gqa (hr.mono (by decide)) rfl Dqa.m Dqa.F.kp Dqa.b .nil iD (h8 (qv 0) (h8 h9 ic))) (kO (iU (rQ rfl) rfl B.all eZ (h8 (jU (CpScope.of (N:=["part"]) (src:=[none]) (by rfl)) rfl (sh (qv 0)) (fun _ _ _ _=>(iE (i:=0) (iS (l:=["part"]) (by rfl)) rfl (Or.inl rfl))) (fun _ _ _ _=>kf) (fun _ _ _ _=>(iF Gqd (hr.mono (by decide)) rfl Dqd.m Dqd.F.kp Dqd.b .nil iD (h8 (qv 0) ic)))) ic)) (lY (kG rD (il ip (qv 0) h9 (fun _ _=>rfl)) h9 (iL _))))))),?_⟩
 walk_at "D"
 refine⟨_,d,3,rfl,hd,?_⟩
 cases d with
 | tup ds=>
  have hd0:=hd
  rw[Rep]at hd
  obtain⟨a,vs,rfl,ea,r⟩:=hd
  have hlv:=r.len
  by_cases c3:ds.length=3
  ·rw[show lQ 3 (.tup ds)=true from af (by lia)]
   walk_at "D"
   refine jx (pO K a) H (fun R hR=>?_) (fun z hz0=>ju ds.length (fun i σ' Hc=>∃w1,σ'=[w1]/\Same H Hc/\Hc z=some (.lst (((ds.take i).map fun d=>lZ (jZ d)).map V.bl))) ⟨none,rfl,iq hz0 _,ie⟩ ?_ ?_)
   ·unfold qR
    walk_at "D"
    exact⟨a,rfl,⟨_,SqT.of ea⟩,hR⟩
   ·rintro i σ' Hc hi ⟨w1,rfl,s2,ez⟩
    have x1:vs[i]? =some (vs[i]'(by lia)):=gE _
    refine⟨⟨_,_,SqT.of (s2 _ _ ea),x1⟩,?_⟩
    rintro y H' ⟨rfl,hy⟩
    have E1:=aD (x1.symm.trans (hy _ (SqT.of (s2 _ _ ea))))
    subst E1
    obtain⟨dt,hdt,rdt⟩:=r.at x1
    walk_at "D"
    refine⟨_,jZ dt,rfl,lL (Rep.same s2 _ rdt),?_⟩
    refine⟨_,ez,?_,_,rfl,iW s2 hz0,?_⟩
    ·rw[aa,aa,aO]
     exact iM (by lia)
    ·rw[ie,je hdt,ah,ah]
     rfl
   rintro σ' H1 ⟨w1,rfl,s1,ez⟩
   refine⟨⟨_,SqT.of (s1 _ _ ea),by lia⟩,?_⟩
   rw[aG]at ez
   simp_arith[ez]
   refine⟨_,rfl,?_⟩
   have ew:(ds.map fun d=>lZ (jZ d)).all id=su ds:=by rw[fS];rfl
   refine mO (fun c=>?_) (fun c=>?_)
   ·have c:=ew.symm.trans c
    obtain⟨p,hp⟩:=GD c3 c
    subst hp
    obtain⟨a',ea',e3⟩:=wH (p:=p) hd0
    cases ea'
    simp_arith[ir,s1 _ _ e3,ki]
    have e9:(l9 (jq p)).isSome=decide (p.2.2 ≥ 1):=by
     unfold l9
     show(match some (p.1,p.2.1,p.2.2)with |some p=>if 1<=p.2.2 then some p else none|none=>none).isSome=_
     dsimp only
     by_cases c9:1<=p.2.2
     ·rw[aH c9,af c9];rfl
     ·rw[aE c9,az c9];rfl
    have:=h H1 s1
    rw[show(Dt.tup [.int p.1,.int p.2.1,.int p.2.2])=jq p from rfl,e9]at this
    exact this
   ·have c:=ew.symm.trans (eX.mpr c)
    have:=h H1 s1
    unfold l9 at this
    rw[zw (.inr c)]at this
    exact this
  ·rw[show lQ 3 (.tup ds)=false from az (by lia)]
   walk_at "D"
   have:=h H (Same.refl _)
   unfold l9 at this
   rw[zw (.inl c3)]at this
   exact this
 |_=>simp_arith[lQ];exact h H (Same.refl _)
noncomputable def lU(ts:List (Int×Int)):List (List ij×V):=ts.map fun t=>([Sum.inl t.1,Sum.inl t.2],V.bl true)
theorem zO:∀(ts:List (Int×Int)) (t:Int×Int),(iK (lU ts) ([Sum.inl t.1,Sum.inl t.2]:List ij)).isSome=decide (t∈ts)
 |[],t=>by simp[lU,iK]
 | u::r,t=>by
  have ih:=zO r t
  unfold lU iK at ih ⊢
  rw[ai,List.find?_cons]
  by_cases h:u=t
  ·subst h;simp
  ·have hne:¬(([Sum.inl u.1,Sum.inl u.2]:List ij)=[Sum.inl t.1,Sum.inl t.2]):=fun z=>by
    injection z with z1 z2
    injection z2 with z2 _
    exact h (gL (bL z1) (bL z2))
   dsimp only
   rw[az hne]
   dsimp only
   rw[ih]
   have hn:¬t=u:=fun z=>h z.symm
   simp[hn]
def Ad:Sp:=fun vs H Q _=>∃u zs ts,vs=[.ref u]/\H u=some (.lst zs)/\Prs H zs ts/\ts.Nodup/\ts.length<=120/\∀d H',H d=none->Same H H'->H' d=some (.dT (lU ts))->Q (.ref d) H'
theorem jki.tups{H H':Hp}{v:V}{p:List ij×V}(h:jki H v p)(s:TupS H H'):jki H' v p:=let⟨t,b,e,q,r⟩:=h;⟨t,b,e,s _ _ rfl q,s _ _ rfl r⟩
theorem xm{H H':Hp}(s:TupS H H'):∀{xs:List V} {ps:List (List ij×V)},Paired (jki H) xs ps->Paired (jki H') xs ps
 |_,_,.nil=>.nil
 |_,_,.cons r t=>.cons (jki.tups r s) (xm s t)
theorem BW{ds:List (Int×Int×Int)}{i:Nat}{d:Int×Int×Int}(h:ds[i]? =some d)(n:Int):iZ (ds.take (i+1)) n=iZ (ds.take i) n+((if d.1=n then d.2.2 else 0)+(if d.2.1=n then d.2.2 else 0)):=by
 unfold iZ
 rw[je h,ah,cG]
 simp
theorem jif.put{kvs:List (ij×V)}{f:Int->Int}(h:∀n:Int,(iK kvs (Sum.inl n:ij)=none/\f n=0)\/iK kvs (Sum.inl n:ij)=some (.int (f n)))(m a:Int):∀n:Int,(iK (jm kvs (Sum.inl m:ij) (.int (f m+a))) (Sum.inl n:ij)=none/\f n+(if m=n then a else 0)=0)\/iK (jm kvs (Sum.inl m:ij) (.int (f m+a))) (Sum.inl n:ij)=some (.int (f n+(if m=n then a else 0))):=fun n=>by
 rw[tO]
 by_cases c:m=n
 ·subst c
  rw[aH rfl,aH rfl]
  exact .inr rfl
 ·rw[aE (fun z=>c (bL z).symm),aE c,eU]
  exact h n
theorem GW(B:Blt mg)(D:DefAt K mg "due_at" (ig 31) ["dues"] f fd):FnOk P w K mg base iu 1 f fd ["dues"] vT:=by
 have sc:FnScope ["dues","paid","one","other","amount"] ["dues"] (iN (ig 31)):=by walk_at "SC"
 refine D.F.ok sc (fun vs H Q E h=>?_) (fun cdv A outer s H vs Q E hr h=>?_)
 ·obtain⟨l,zs,ds,rfl,_⟩:=h
  rfl
 obtain⟨l,zs,ds,rfl,el,pz,h200,h⟩:=h
 have hlz:zs.length=ds.length:=ao pz
 have hu:=iX hr
 have hu0:_<PySem.cLine:=au hu
 refine⟨_,(ik (iH (i:=1) sc.nd rfl (Or.inl rfl) pG) (ik (j0 ba rfl (jg (qv 0)) (jJ (n:=3) rfl (iO (iE (i:=2) sc.nd rfl (Or.inl rfl)) (iO (iE (i:=3) sc.nd rfl (Or.inl rfl)) (iO (iE (i:=4) sc.nd rfl (Or.inl rfl)) jK)))) (ik (mx hu (qv 1) (qv 2) (iQ jM (oI hu (qv 1) (qv 2) h9) (qv 4))) (iw (mx hu (qv 1) (qv 3) (iQ jM (oI hu (qv 1) (qv 3) h9) (qv 4)))))) (iw (iG (qv 1))))),?_⟩
 refine iz fun R hR=>?_
 walk_at "D"
 intro d hd
 have s1:=iq hd (.dK [])
 have ed:upd H d (.dK []) d=some (.dK []):=ie
 generalize upd H d (.dK [])=H1 at s1 ed
 walk_at "D"
 subst hR
 refine iz fun R hR=>?_
 refine ky (i6 K l) H1 (fun R' hR'=>?_) (lD (K:=K) (a:=l) (xs:=zs) (fun i σ H2=>∃v1 v2 v3 kvs,σ=[some (.ref l),some (.ref d),v1,v2,v3]/\Same H H2/\H2 d=some (.dK kvs)/\jif kvs (ds.take i)/\kvs.length<=2*i) ⟨none,none,none,[],rfl,s1,ed,fun n=>.inl ⟨rfl,rfl⟩,bM _⟩ (fun i σ H2 _ ⟨_,_,_,_,_,s2,_⟩=>SqL.of (s2 _ _ el)) ?_ ?_)
 ·unfold jc
  walk_at "D"
  exact⟨l,rfl,⟨_,SqL.of (s1 _ _ el)⟩,hR'⟩
 ·rintro i x σ H2 hx ⟨v1,v2,v3,kvs,rfl,s2,ed2,pd,hkl⟩
  obtain⟨p,hp,px⟩:=jl pz hx
  obtain⟨t,rfl,ht⟩:=Tp.tups px s2.tups
  have hil:=(aq.mp hp).1
  simp_arith[ht,ed2,pd.get]
  have q1:=jif.put (f:=iZ (ds.take i)) pd p.1 p.2.2
  have kl1:=tK kvs (Sum.inl p.1:ij) (.int (iZ (ds.take i) p.1+p.2.2))
  refine⟨⟨_,rfl⟩,iM (by lia),⟨_,ie⟩,?_⟩
  generalize jm kvs (Sum.inl p.1:ij) (.int (iZ (ds.take i) p.1+p.2.2))=k1 at q1 kl1 ⊢
  have g2:(iK k1 (Sum.inl p.2.1:ij)).getD (.int 0)= .int (iZ (ds.take i) p.2.1+(if p.1=p.2.1 then p.2.2 else 0)):=by
   rcases q1 p.2.1 with⟨e,z⟩|e
   ·rw[e,z];rfl
   ·rw[e];rfl
  have q2:=jif.put (f:=fun n=>iZ (ds.take i) n+(if p.1=n then p.2.2 else 0)) q1 p.2.1 p.2.2
  have kl2:=tK k1 (Sum.inl p.2.1:ij) (.int (iZ (ds.take i) p.2.1+(if p.1=p.2.1 then p.2.2 else 0)+p.2.2))
  rw[ie]
  dsimp only
  rw[g2]
  dsimp only
  refine⟨iM (by lia),_,_,_,_,rfl,?_,ie,?_,by lia⟩
  ·exact iW (iW s2 hd) hd
  ·intro n
   rw [BW hp n,<- Int.add_assoc]
   exact q2 n
 ·rintro σ H2 ⟨v1,v2,v3,kvs,rfl,s2,ed2,pd,hkl⟩
  rw[hlz,aG]at pd
  subst hR
  walk_at "D"
  exact h d kvs H2 s2 ed2 pd
theorem GY(B:Blt mg)(D:DefAt K mg "marked" (ig 11) ["places"] f fd):FnOk P w K mg base iu 1 f fd ["places"] Ad:=by
 have sc:FnScope ["places"] ["places"] (iN (ig 11)):=by walk_at "SC"
 refine D.F.ok sc (fun vs H Q E h=>?_) (fun cdv A outer s H vs Q E hr h=>?_)
 ·obtain⟨u,zs,ts,rfl,_⟩:=h
  rfl
 obtain⟨u,zs,ts,rfl,eu,pz,nd,h120,h⟩:=h
 have hlz:zs.length=ts.length:=ao pz
 have hu:=iX hr
 have hu0:_<PySem.cLine:=au hu
 refine⟨_,(iw (iG (lN (Hr rfl hr.units) rfl B.dict cP (h8 (jU (CpScope.of (N:=["place"]) (src:=[none]) (by rfl)) rfl (jg (qv 0)) (fun _ _ _ _=>(iE (i:=0) (iS (l:=["place"]) (by rfl)) rfl (Or.inl rfl))) (fun _ _ _ _=>kf) (fun _ _ _ _=>(jw (h8 (qv 0) (h8 jk ic))))) ic)))),?_⟩
 walk_at "D"
 refine jx (i6 K u) H (fun R hR=>?_) (fun l hl0=>ju ts.length (fun i σ' Hc=>∃w1 vs,σ'=[w1]/\Same H Hc/\Hc l=some (.lst vs)/\Paired (jki Hc) vs (lU (ts.take i))) ⟨none,[],rfl,iq hl0 _,ie,.nil⟩ ?_ ?_)
 ·unfold jc
  walk_at "D"
  exact⟨u,rfl,⟨_,SqL.of eu⟩,hR⟩
 ·rintro i σ' Hc hi ⟨w1,vs,rfl,s2,ev,pv⟩
  have z1:SqL K Hc u zs:=SqL.of (s2 _ _ eu)
  have x1:zs[i]? =some (zs[i]'(by lia)):=gE _
  refine⟨⟨_,_,z1,x1⟩,?_⟩
  rintro y H' ⟨rfl,hy⟩
  obtain⟨q,hq,pq⟩:=jl pz (hy _ z1)
  obtain⟨b,rfl,hb⟩:=pq.same s2
  have hvl:vs.length<=120:=by
   have:=ao pv
   unfold lU at this
   rw[aa,aO]at this
   lia
  walk_at "D"
  intro t ht
  have q3:=iq ht (.tup [.ref b,.bl true])
  have ett:upd H' t (.tup [.ref b,.bl true]) t=some (.tup [.ref b,.bl true]):=ie
  have ev2:=q3 _ _ ev
  have hb2:=q3 _ _ hb
  generalize upd H' t (.tup [.ref b,.bl true])=H3 at q3 ett ev2 hb2
  have t6:=kx (ys:=vs++[.ref t]) ev2
  refine⟨vs,ev2,iM (by lia),_,vs++[.ref t],rfl,iW (s2.trans q3) hl0,(by first|rfl|exact ie),?_⟩
  have em:lU (ts.take (i+1))=lU (ts.take i)++[([Sum.inl q.1,Sum.inl q.2],V.bl true)]:=by
   unfold lU
   rw[je hq,ah]
   rfl
  rw[em]
  exact kg (xm t6 (xm q3.tups pv)) ⟨t,b,rfl,t6 _ _ rfl ett,t6 _ _ rfl hb2⟩
 ·rintro σ' Hc ⟨w1,vs,rfl,s2,ev,pv⟩
  refine⟨⟨_,SqL.of (s2 _ _ eu),by lia⟩,?_⟩
  rw[aG]at pv
  have hvl:vs.length<=120:=by
   have:=ao pv
   unfold lU at this
   rw[aa]at this
   lia
  refine⟨l,vs,lU ts,rfl,ev,pv,by lia,?_,fun d hd=>h d _ (s2.free hd) (s2.trans (iq hd _)) ie⟩
  unfold lU
  rw[bw]
  unfold List.Nodup at nd ⊢
  rw[df]
  refine nd.imp fun{x y} hne e=>hne ?_
  have e:([Sum.inl x.1,Sum.inl x.2]:List ij)=[Sum.inl y.1,Sum.inl y.2]:=e
  injection e with e1 e2
  injection e2 with e2 _
  exact gL (bL e1) (bL e2)
noncomputable def jQ(ts:List (Int×Int)):Int×Int->List Dt->Option (List (Int×Int×Int))
 |_,[]=>some []
 |q,d::r=>match l9 d with
  |some p=>if(p.1,p.2.1)∈ts/\lV [p.1,p.2.1] [q.1,q.2]=false then(jQ ts (p.1,p.2.1) r).map (p::·)else none
  |none=>none
def lX(ps:List (Int×Int))(qs:List (Int×Int×Int)):Bool:=ps.all fun p=>decide (iZ qs p.1<=2*p.2)
noncomputable def oZ(ps ts:List (Int×Int)):Dt->Bool
 | .lst ds=>match jQ ts (-1,-1) ds with
  |some qs=>lX ps qs
  |none=>false
 |_=>false
def y6(d:Dt):Prop:=∀ds,d= .lst ds->ds.length<=200
def zd:Sp:=fun vs H Q _=>∃v ps ts y d,vs=[v,y]/\jbz H v ps ts/\WebOk ps ts/\Rep H d y/\y6 d/\∀H',Same H H'->Q (.bl (oZ ps ts d)) H'
theorem wg{a b c d:Int}(h:HT.lexLt [a,b] [c,d]=true):a<c\/(a=c/\b<d):=by
 rw[HT.oY]at h
 by_cases e:a=c
 ·rw[aH e,HT.oY]at h
  by_cases e2:b=d
  ·rw[aH e2]at h
   cases h
  ·rw[aE e2]at h
   exact .inr ⟨e,bp h⟩
 ·rw[aE e]at h
  exact .inl (bp h)
theorem yS{a b c d:Int}(h:a<c):HT.lexLt [a,b] [c,d]=true:=by
 rw[HT.oY,aE (by lia)]
 exact af h
theorem yR{a b d:Int}(h:b<d):HT.lexLt [a,b] [a,d]=true:=by
 rw[HT.oY,aH rfl,HT.oY,aE (by lia)]
 exact af h
theorem ui{ps ts:List (Int×Int)}{ds:List Dt}(h:jQ ts (-1,-1) ds=none):oZ ps ts (.lst ds)=false:=by
 show(match jQ ts (-1,-1) ds with |some qs=>lX ps qs|none=>false)=false
 rw[h]
theorem xc{ps ts:List (Int×Int)}{ds:List Dt}{qs:List (Int×Int×Int)}(h:jQ ts (-1,-1) ds=some qs):oZ ps ts (.lst ds)=lX ps qs:=by
 show(match jQ ts (-1,-1) ds with |some qs=>lX ps qs|none=>false)=_
 rw[h]
theorem nC(a b c:V):kW [a,b,c] none (some 2)=[a,b]:=rfl
theorem nJ(a b c:V):¬(HT.iY [a,b,c].length 0 none=0/\HT.iY [a,b,c].length [a,b,c].length (some 2)=[a,b,c].length):=fun h=>by cases h.2
theorem GQ{a b c d e f:Int}(h:HT.lexLt [a,b] [c,d]=true)(g:HT.lexLt [c,d] [e,f]=true):HT.lexLt [a,b] [e,f]=true:=by
 have h:=wg h
 have g:=wg g
 by_cases c:a<e
 ·exact yS c
 ·have:a=e:=by lia
  subst this
  exact yR (by lia)
theorem TiOk.lt{kvs:List (ij×V)}:∀{ts:List (Int×Int)} {q:Int×Int},TiOk kvs q ts->∀p∈ts,HT.lexLt [q.1,q.2] [p.1,p.2]=true
 |[],_,_,_,h=>by cases h
 |u::r,q,h,p,hp=>by
  rcases aR.mp hp with e|hp
  ·rw[e];exact h.1.1
  ·exact GQ h.1.1 (TiOk.lt h.2 p hp)
theorem TiOk.nodup{kvs:List (ij×V)}:∀{ts:List (Int×Int)} {q:Int×Int},TiOk kvs q ts->ts.Nodup
 |[],_,_=>fu
 |u::r,q,h=>by
  refine bO.mpr ⟨fun hm=>?_,TiOk.nodup h.2⟩
  have:=TiOk.lt h.2 u hm
  simp[HT.lexLt]at this
theorem Jg(B:Blt mg)(D:DefAt K mg "dues_stand" (ig 32) ["web","thing"] f fd)(Dq7:DefAt K mg "is_due" (ig 30) ["thing"] fq7 dq7)(Gq7:FnOk P w K mg base iu 2 fq7 dq7 ["thing"] Ab)(Dqb:DefAt K mg "marked" (ig 11) ["places"] fqb dqb)(Gqb:FnOk P w K mg base iu 1 fqb dqb ["places"] Ad)(Dql:DefAt K mg "due_at" (ig 31) ["dues"] fql dql)(Gql:FnOk P w K mg base iu 1 fql dql ["dues"] vT):FnOk P w K mg base iu 4 f fd ["web","thing"] zd:=by
 have sc:FnScope ["web","thing","ties","last","due","paid"] ["web","thing"] (iN (ig 32)):=by walk_at "SC"
 refine D.F.ok sc (fun vs H Q E h=>?_) (fun cdv A outer s H vs Q E hr h=>?_)
 ·obtain⟨v,ps,ts,y,d,rfl,_⟩:=h
  rfl
 obtain⟨v,ps,ts,y,d,rfl,hw,wk,hd,hs,h⟩:=h
 obtain⟨u,pa,ta,xs,ys,rfl,hu1,hpa,hta,hxs,hys⟩:=hw
 have hu:=iX hr
 have hu0:_<PySem.cLine:=au hu
 refine⟨_,(ik (i7 (jy (jz (iU (kP .lst) rfl B.isinstance aS (h8 (qv 1) (h8 (kQ (v:=.ty "list") rfl B.list bH rfl) ic))))) (iw (iG jk)) i8) (ik (iH (i:=2) sc.nd rfl (Or.inl rfl) (iF Gqb (hr.mono (by decide)) rfl Dqb.m Dqb.F.kp Dqb.b .nil iD (h8 (il ip (qv 0) h9 (fun _ _=>rfl)) ic))) (ik (iH (i:=3) sc.nd rfl (Or.inl rfl) (jw (h8 (kZ k6 h9) (h8 (kZ k6 h9) ic)))) (ik (j0 ba rfl (jg (qv 1)) (iE (i:=4) sc.nd rfl (Or.inl rfl)) (ik (i7 (PW.pt (jS (jy (jz (iF Gq7 (hr.mono (by decide)) rfl Dq7.m Dq7.F.kp Dq7.b .nil iD (h8 (qv 4) ic)))) (jS (vp (BB hu (lE mq (qv 4) lA (lB h9)) (qv 2))) (ku (iV (yw hu0) (lE mq (qv 4) lA (lB h9)) (qv 3) (iL _)))))) (iw (iG jk)) i8) (iw (iH (i:=3) sc.nd rfl (Or.inl rfl) (lE mq (qv 4) lA (lB h9)))))) (ik (iH (i:=5) sc.nd rfl (Or.inr rfl) (iF Gql (hr.mono (by decide)) rfl Dql.m Dql.F.kp Dql.b .nil iD (h8 (qv 1) ic))) (iw (iG (iU (rQ rfl) rfl B.all eZ (h8 (jU (CpScope.of (N:=["place","price","paid"]) (src:=[none,none,some 5]) (by rfl)) rfl (jg (il ip (qv 0) h9 (fun _ _=>rfl))) (fun _ _ _ _=>(jJ (n:=2) rfl (iO (iE (i:=0) (iS (l:=["place","price","paid"]) (by rfl)) rfl (Or.inl rfl)) (iO (iE (i:=1) (iS (l:=["place","price","paid"]) (by rfl)) rfl (Or.inl rfl)) jK)))) (fun _ _ _ _=>kf) (fun _ _ _ _=>(kG mV (oI hu (qv 2) (qv 0) h9) (iQ lK h9 (qv 1)) (iL _)))) ic))))))))),?_⟩
 have hkd:=lL hd
 simp_arith[hkd]
 cases d with
 | lst ds=>
  rw[Rep]at hd
  obtain⟨l,zs,rfl,el,r⟩:=hd
  have hlv:=r.len
  simp_arith[jZ,j5,ir,hu1,iT]
  refine⟨ta,ys,ts,rfl,hta,hys,wk.t.nodup,wk.tl,fun m H1 hm0 s1 em p hp=>?_⟩
  have s2:=s1.trans (iq hp (.tup [.int (-1),.int (-1)]))
  have em2:=iq hp (.tup [.int (-1),.int (-1)]) _ _ em
  have ep:upd H1 p (.tup [.int (-1),.int (-1)]) p=some (.tup [.int (-1),.int (-1)]):=ie
  generalize upd H1 p (.tup [.int (-1),.int (-1)])=H2 at s2 em2 ep
  refine ky (i6 K l) H2 (fun R' hR'=>?_) (lD (K:=K) (a:=l) (xs:=zs) (fun i σ Hc=>∃v4 pl q qs,σ=[some (.ref u),some (.ref l),some (.ref m),some (.ref pl),v4,none]/\Same H Hc/\Hc m=some (.dT (lU ts))/\Hc pl=some (.tup [.int q.1,.int q.2])/\jQ ts (-1,-1) ds=(jQ ts q (ds.drop i)).map (qs++·)/\jP H (zs.take i) qs) ⟨none,p,(-1,-1),[],rfl,s2,em2,ep,by simp,.nil⟩ (fun i σ Hc _ ⟨_,_,_,_,_,s3,_⟩=>SqL.of (s3 _ _ el)) ?_ ?_)
  ·unfold jc
   walk_at "D"
   exact⟨l,rfl,⟨_,SqL.of (s2 _ _ el)⟩,hR'⟩
  ·rintro i x σ Hc hx ⟨v4,pl,q,qs,rfl,s3,em3,epl,hdo,hq⟩
   obtain⟨dt,hdt,rdt⟩:=r.at hx
   have hdr:ds.drop i=dt::ds.drop (i+1):=nh hdt
   walk_at "D"
   refine⟨_,dt,rfl,Rep.same s3 _ rdt,fun H4 s4=>?_⟩
   have s5:=s3.trans s4
   have em4:=s4 _ _ em3
   have ep4:=s4 _ _ epl
   cases hdu:l9 dt with
   |none=>
    simp_arith[Option.isSome]
    have hb:=h H4 s5
    rw[ui (by rw[hdo,hdr,jQ,hdu];rfl)]at hb
    exact hb
   | some p=>
    simp_arith[Option.isSome]
    have htd:dt=jq p:=by
     unfold l9 at hdu
     split at hdu
     ·rename_i p' e
      split at hdu
      ·cases hdu;exact A9 e
      ·cases hdu
     ·cases hdu
    subst htd
    obtain⟨t,rfl,ht⟩:=wH rdt
    have ht4:=s5 _ _ ht
    simp_arith[ht4,tB,vX]
    refine⟨nJ (.int p.1) (.int p.2.1) (.int p.2.2),fun k1 hk1=>?_⟩
    rw[nC]
    have s6:=iq hk1 (.tup [.int p.1,.int p.2.1])
    have e6:upd H4 k1 (.tup [.int p.1,.int p.2.1]) k1=some (.tup [.int p.1,.int p.2.1]):=ie
    generalize upd H4 k1 (.tup [.int p.1,.int p.2.1])=H6 at s6 e6
    refine⟨m,_,rfl,DGet.t (k:=[Sum.inl p.1,Sum.inl p.2.1]) (s6 _ _ em4) e6,?_⟩
    have hmk:=zO ts (p.1,p.2.1)
    dsimp only at hmk
    refine⟨_,rfl,?_⟩
    rw[hmk]
    by_cases cm:(p.1,p.2.1)∈ts
    ·rw[af cm,aE (by decide),s6 _ _ ht4]
     refine⟨nJ (.int p.1) (.int p.2.1) (.int p.2.2),fun k2 hk2=>?_⟩
     rw[nC]
     have s7:=iq hk2 (.tup [.int p.1,.int p.2.1])
     have e7:upd H6 k2 (.tup [.int p.1,.int p.2.1]) k2=some (.tup [.int p.1,.int p.2.1]):=ie
     generalize upd H6 k2 (.tup [.int p.1,.int p.2.1])=H7 at s7 e7
     have s8:=s6.trans s7
     simp_arith[ux,e7,s8 _ _ ep4]
     by_cases cl:lV [p.1,p.2.1] [q.1,q.2]=true
     ·rw[aH cl]
      have hb:=h H7 (s5.trans s8)
      rw[ui (by rw[hdo,hdr,jQ,hdu];dsimp only;rw[if_neg (fun z=>by rw[z.2]at cl;cases cl)];rfl)]at hb
      exact hb
     ·rw[aE cl,s8 _ _ ht4]
      refine⟨nJ (.int p.1) (.int p.2.1) (.int p.2.2),fun k3 hk3=>?_⟩
      rw[nC]
      have s9:=s8.trans (iq hk3 (.tup [.int p.1,.int p.2.1]))
      refine⟨_,k3,(p.1,p.2.1),qs++[p],rfl,s5.trans s9,s9 _ _ em4,ie,?_,?_⟩
      ·rw[hdo,hdr,jQ,hdu]
       dsimp only
       rw[aH ⟨cm,eX.mpr cl⟩,Option.map_map]
       congr 1
       funext w
       show qs++p::w=(qs++[p])++w
       rw[bf]
       rfl
      ·rw[je hx]
       exact kg hq ⟨t,rfl,ht⟩
    ·rw[az cm,aH (by decide)]
     have hb:=h H6 (s5.trans s6)
     rw[ui (by rw[hdo,hdr,jQ,hdu];dsimp only;rw[if_neg (fun z=>cm z.1)];rfl)]at hb
     exact hb
  ·rintro σ Hc ⟨v4,pl,q,qs,rfl,s3,em3,epl,hdo,hq⟩
   rw[dE (by lia),jQ,Option.map_some,bb]at hdo
   rw[aG]at hq
   walk_at "D"
   refine⟨l,zs,qs,rfl,s3 _ _ el,jD s3.tups hq,?_,fun d kvs H5 s5 ed5 pd=>?_⟩
   ·rw [<- ao hq,hlv]; exact hs _ rfl
   have s6:=s3.trans s5
   refine jx (i6 K pa) H5 (fun R hR=>?_) (fun z hz0=>ju ps.length (fun i σ' Hc=>∃w1 w2,σ'=[w1,w2,some (.ref d)]/\Same H5 Hc/\Hc z=some (.lst (((ps.take i).map fun p=>decide (iZ qs p.1<=2*p.2)).map V.bl))) ⟨none,none,rfl,iq hz0 _,ie⟩ ?_ ?_)
   ·unfold jc
    simp_arith[ir,s6 _ _ hu1,iJ]
    exact⟨pa,rfl,⟨_,SqL.of (s6 _ _ hpa)⟩,hR⟩
   ·rintro i σ' Hc hi ⟨w1,w2,rfl,s7,ez⟩
    have hxl:=ao hxs
    have x1:xs[i]? =some (xs[i]'(by lia)):=gE _
    have s8:=s6.trans s7
    refine⟨⟨_,_,SqL.of (s8 _ _ hpa),x1⟩,?_⟩
    rintro y H' ⟨rfl,hy⟩
    have E1:=aD (x1.symm.trans (hy _ (SqL.of (s8 _ _ hpa))))
    obtain⟨pr,hpr,px⟩:=jl hxs x1
    rw[E1]at px
    obtain⟨b,rfl,hb⟩:=px.same s8
    simp_arith[hb,s7 _ _ ed5,pd.get]
    refine⟨⟨_,rfl⟩,mD (by decide) (by decide),_,ez,?_,_,_,rfl,iW s7 hz0,?_⟩
    ·rw[aa,aa,aO]
     have:=wk.pl
     exact iM (by lia)
    ·rw[ie,je hpr,ah,ah]
     rfl
   ·rintro σ' Hc ⟨w1,w2,rfl,s7,ez⟩
    have s8:=s6.trans s7
    refine⟨⟨_,SqL.of (s8 _ _ hpa),by have:=ao hxs;lia⟩,?_⟩
    rw[aG]at ez
    simp_arith[ez]
    refine⟨_,rfl,?_⟩
    have hb:=h Hc s8
    rw[xc hdo]at hb
    have ew:(ps.map fun p=>decide (iZ qs p.1<=2*p.2)).all id=lX ps qs:=by rw[fS];rfl
    rw[ew]
    exact hb
 |_=>simp_arith[jZ,j5];exact h H (Same.refl _)
noncomputable def j6:List (Int×Int)->List Dt->Option (List (Int×Int))
 |[],[]=>some []
 |p::ps,d::ds=>match mG d with
  |some h=>if h.1=p.1/\0<=h.2/\h.2<=2 then(j6 ps ds).map (h::·)else none
  |none=>none
 |_,_=>none
noncomputable def ko(hs:List (Int×Int))(n:Int):Int:=match iK (i5 hs) (Sum.inl n:ij)with
 |some (.int i)=>i
 |_=>0
def mr(ts hs:List (Int×Int)):Bool:=ts.all fun t=>decide (ko hs t.1+ko hs t.2 ≥ 2)
noncomputable def pL(ps ts:List (Int×Int)):Dt->Bool
 | .lst ds=>match j6 ps ds with
  |some hs=>mr ts hs
  |none=>false
 |_=>false
theorem pJ{ps ts:List (Int×Int)}{ds:List Dt}(h:j6 ps ds=none):pL ps ts (.lst ds)=false:=by
 show(match j6 ps ds with |some hs=>mr ts hs|none=>false)=false
 rw[h]
theorem wO{ps ts:List (Int×Int)}{ds:List Dt}{hs:List (Int×Int)}(h:j6 ps ds=some hs):pL ps ts (.lst ds)=mr ts hs:=by
 show(match j6 ps ds with |some hs=>mr ts hs|none=>false)=_
 rw[h]
theorem AB:∀{ps:List (Int×Int)} {ds:List Dt},¬ds.length=ps.length->j6 ps ds=none
 |[],[],h=>absurd rfl h
 |[],_::_,_=>rfl
 |_::_,[],_=>rfl
 |p::ps,d::ds,h=>by
  rw[j6,AB (ps:=ps) (ds:=ds) (fun z=>h (by rw[List.length_cons,List.length_cons,z]))]
  split
  ·split<;>rfl
  ·rfl
theorem nS{hs:List (Int×Int)}{n:Int}(hn:(hs.map (·.1)).Nodup)(h:n∈hs.map (·.1)):iK (i5 hs) (Sum.inl n:ij)=some (.int (ko hs n)):=by
 obtain⟨p,hp,rfl⟩:=av.mp h
 have e:=nV hn hp
 unfold ko
 rw[e]
theorem TiOk.in{kvs:List (ij×V)}:∀{ts:List (Int×Int)} {q:Int×Int},TiOk kvs q ts->∀p∈ts,p.1<p.2/\ja kvs p.1=true/\ja kvs p.2=true
 |[],_,_,_,h=>by cases h
 |u::r,q,h,p,hp=>by
  rcases aR.mp hp with e|hp
  ·rw[e];exact h.1.2
  ·exact TiOk.in h.2 p hp
theorem lz:∀{ps:List (Int×Int)} {n:Int},ja (i5 ps) n=true->n∈ps.map (·.1)
 |[],_,h=>by cases h
 | p::r,n,h=>by
  by_cases c:p.1=n
  ·rw [<- c]; exact aZ
  ·refine aP _ (lz ?_)
   unfold ja i5 iK at h
   rw[ai,List.find?_cons]at h
   dsimp only at h
   rw[az (fun z=>c (bL z))]at h
   exact h
def A3:Sp:=fun vs H Q _=>∃v ps ts y d,vs=[v,y]/\jbz H v ps ts/\WebOk ps ts/\Rep H d y/\∀H',Same H H'->Q (.bl (pL ps ts d)) H'
noncomputable def nH(ps hs:List (Int×Int)):Int:=(hs.map fun h=>ko ps h.1*h.2).sum
def z7:Sp:=fun vs H Q _=>∃v ps ts l zs hs,vs=[v,.ref l]/\jbz H v ps ts/\WebOk ps ts/\H l=some (.lst zs)/\Prs H zs hs/\hs.length<=200/\(∀h∈hs,h.1∈ps.map (·.1)/\0<=h.2/\h.2<=2)/\∀H',Same H H'->Q (.int (nH ps hs)) H'
theorem JC(B:Blt mg)(D:DefAt K mg "halves_stand" (ig 29) ["web","thing"] f fd)(Dqf:DefAt K mg "is_pair_of_wholes" (ig 9) ["thing"] fqf dqf)(Gqf:FnOk P w K mg base iu 2 fqf dqf ["thing"] Ae):FnOk P w K mg base iu 3 f fd ["web","thing"] A3:=by
 have sc:FnScope ["web","thing","pair","known","halves"] ["web","thing"] (iN (ig 29)):=by walk_at "SC"
 refine D.F.ok sc (fun vs H Q E h=>?_) (fun cdv A outer s H vs Q E hr h=>?_)
 ·obtain⟨v,ps,ts,y,d,rfl,_⟩:=h
  rfl
 obtain⟨v,ps,ts,y,d,rfl,hw,wk,hd,h⟩:=h
 obtain⟨u,pa,ta,xs,ys,rfl,hu1,hpa,hta,hxs,hys⟩:=hw
 have hxl:=ao hxs
 have hu:=iX hr
 have hu0:_<PySem.cLine:=au hu
 refine⟨_,(ik (i7 (PW.pt (jS (jy (jz (iU (kP .lst) rfl B.isinstance aS (h8 (qv 1) (h8 (kQ (v:=.ty "list") rfl B.list bH rfl) ic))))) (ku (iV mm (iU kc rfl B.len bu (h8 (qv 1) ic)) (iU kc rfl B.len bu (h8 (il ip (qv 0) h9 (fun _ _=>rfl)) ic)) (iL _))))) (iw (iG jk)) i8) (ik (j0 ba rfl (vQ rfl B.zip (h8 (qv 1) (h8 (il ip (qv 0) h9 (fun _ _=>rfl)) ic))) (jJ (n:=2) rfl (iO (iE (i:=2) sc.nd rfl (Or.inl rfl)) (iO (iE (i:=3) sc.nd rfl (Or.inl rfl)) jK))) (iw (i7 (PW.pt (jS (jy (jz (iF Gqf (hr.mono (by decide)) rfl Dqf.m Dqf.F.kp Dqf.b .nil iD (h8 (qv 2) ic)))) (jS (iV mm (il ip (qv 2) h9 (fun _ _=>rfl)) (il ip (qv 3) h9 (fun _ _=>rfl)) (iL _)) (ku (jy (AW mV mV h9 (il ip (qv 2) h9 (fun _ _=>rfl)) h9)))))) (iw (iG jk)) i8))) (ik (iH (i:=4) sc.nd rfl (Or.inr rfl) (lN (pD rfl) rfl B.dict cP (h8 (qv 1) ic))) (iw (iG (iU (rQ rfl) rfl B.all eZ (h8 (jU (CpScope.of (N:=["one","other","halves"]) (src:=[none,none,some 4]) (by rfl)) rfl (jg (il ip (qv 0) h9 (fun _ _=>rfl))) (fun _ _ _ _=>(jJ (n:=2) rfl (iO (iE (i:=0) (iS (l:=["one","other","halves"]) (by rfl)) rfl (Or.inl rfl)) (iO (iE (i:=1) (iS (l:=["one","other","halves"]) (by rfl)) rfl (Or.inl rfl)) jK)))) (fun _ _ _ _=>kf) (fun _ _ _ _=>(kG rD (iQ jM (kF hu (qv 2) (qv 0) (fun _ _=>rfl)) (kF hu (qv 2) (qv 1) (fun _ _=>rfl))) h9 (iL _)))) ic))))))),?_⟩
 have hkd:=lL hd
 simp_arith[hkd]
 cases d with
 | lst ds =>
  rw[Rep]at hd
  obtain⟨l,zs,rfl,el,r⟩:=hd
  have hlv:=r.len
  simp_arith[jZ,j5,ir,hu1,iJ,el,hpa]
  by_cases cl:zs.length=xs.length
  ·rw [af (show(zs.length:Int)=(xs.length:Int) by lia),aE (by decide)]
   refine ky (nD true K l pa) H (fun R' hR'=>?_) (EY (K:=K) (a:=l) (c:=pa) (xs:=zs) (ys:=xs) (fun i σ H1=>∃w1 w2 hs,σ=[some (.ref u),some (.ref l),w1,w2,none]/\Same H H1/\j6 ps ds=(j6 (ps.drop i) (ds.drop i)).map (hs++·)/\Prs H (zs.take i) hs/\hs.map (·.1)=(ps.take i).map (·.1)) cl ⟨none,none,[],rfl,Same.refl _,by simp,.nil,rfl⟩ (fun i σ H1 _ ⟨_,_,_,_,s1,_⟩=>⟨SqL.of (s1 _ _ el),SqL.of (s1 _ _ hpa)⟩) ?_ ?_)
   ·unfold rP
    simp_arith[ir,hu1,iJ]
    exact⟨true,l,pa,rfl,⟨zs,by unfold j8;rw[aH rfl];exact SqL.of el⟩,⟨xs,by unfold j8;rw[aH rfl];exact SqL.of hpa⟩,hR'⟩
   ·rintro i x y σ H1 t hx hy ⟨w1,w2,hs,rfl,s1,hho,hq,hk⟩ ht
    obtain⟨dt,hdt,rdt⟩:=r.at hx
    obtain⟨p,hp,pq⟩:=jl hxs hy
    rw[nh hdt,nh hp,j6]at hho
    have s2:Same H (upd H1 t (.tup [x,y])):=s1.trans (iq ht _)
    have et2:upd H1 t (.tup [x,y]) t=some (.tup [x,y]):=ie
    generalize upd H1 t (.tup [x,y])=H2 at s2 et2
    obtain⟨b2,rfl,eb2⟩:=pq.same s2
    simp_arith[et2]
    refine⟨_,mG dt,rfl,⟨dt,Rep.same s2 _ rdt,rfl⟩,?_⟩
    cases hpd:mG dt with
    |none=>
     simp_arith[Option.isSome]
     have hb:=h H2 s2
     rw[pJ (by rw[hho,hpd];rfl)]at hb
     exact hb
    | some k=>
     have hpk:=AU hpd
     rw[hpk]at rdt
     have pk:=AO rdt
     obtain⟨b1,rfl,eb1⟩:=pk.same s2
     rw[hpd]at hho
     dsimp only at hho
     simp_arith[Option.isSome,ir,eb1,eb2,iJ,iT]
     by_cases c1:k.1=p.1
     ·by_cases c2:0<=k.2
      ·by_cases c3:k.2<=2
       ·rw[aH ⟨c1,c2,c3⟩]at hho
        simp only[c1,cC,bN,aM,if_false,af c2,af c3]
        have hn:∃w1 w2 hs',[some (V.ref u),some (.ref l),some (.ref b1),some (.ref b2),none]=[some (V.ref u),some (.ref l),w1,w2,none]/\Same H H2/\j6 ps ds=(j6 (ps.drop (i+1)) (ds.drop (i+1))).map (hs'++·)/\Prs H (zs.take (i+1)) hs'/\hs'.map (·.1)=(ps.take (i+1)).map (·.1):=by
         refine⟨_,_,hs++[k],rfl,s2,?_,?_,?_⟩
         ·rw[hho,Option.map_map]
          congr 1
          funext w
          show hs++k::w=(hs++[k])++w
          rw[bf]
          rfl
         ·rw[je hx]
          exact kg hq pk
         ·rw[je hp,ah,ah,hk,List.map_singleton,List.map_singleton,c1]
        first|exact hn|(walk_at "D";exact hn)
       ·have hb:=h H2 s2
        rw[pJ (by rw[hho,aE (fun z=>c3 z.2.2)];rfl)]at hb
        simp only[c1,cC,bN,aM,if_false,af c2,az c3]
        first|exact hb|(walk_at "D";exact hb)
      ·have hb:=h H2 s2
       rw[pJ (by rw[hho,aE (fun z=>c2 z.2.1)];rfl)]at hb
       simp only[c1,cC,bN,aM,if_false,az c2]
       first|exact hb|(walk_at "D";exact hb)
     ·have hb:=h H2 s2
      rw[pJ (by rw[hho,aE (fun z=>c1 z.1)];rfl)]at hb
      simp only[az c1]
      first|exact hb|(walk_at "D";exact hb)
   ·rintro σ H1 ⟨w1,w2,hs,rfl,s1,hho,hq,hk⟩
    rw[dE (show ps.length<=zs.length by lia),dE (show ds.length<=zs.length by lia),j6,Option.map_some,bb]at hho
    rw[aG]at hq
    rw[cY (by lia)]at hk
    have nd:(hs.map (·.1)).Nodup:=by rw[hk];exact wk.p.nodup
    have hzl:=ao hq
    have hpl:=wk.pl
    simp_arith[s1 _ _ el]
    refine⟨i5 hs,qI (Prs.same s1 hq),by lia,uo nd,fun d hd0=>?_⟩
    have s2:Same H (upd H1 d (.dK (i5 hs))):=s1.trans (iq hd0 _)
    have ed:upd H1 d (.dK (i5 hs)) d=some (.dK (i5 hs)):=ie
    generalize upd H1 d (.dK (i5 hs))=H2 at s2 ed
    refine jx (i6 K ta) H2 (fun R hR=>?_) (fun z hz0=>ju ts.length (fun i σ' Hc=>∃w1 w2,σ'=[w1,w2,some (.ref d)]/\Same H2 Hc/\Hc z=some (.lst (((ts.take i).map fun t=>decide (ko hs t.1+ko hs t.2 ≥ 2)).map V.bl))) ⟨none,none,rfl,iq hz0 _,ie⟩ ?_ ?_)
    ·unfold jc
     simp_arith[ir,s2 _ _ hu1,iT]
     exact⟨ta,rfl,⟨_,SqL.of (s2 _ _ hta)⟩,hR⟩
    ·rintro i σ' Hc hi ⟨w1,w2,rfl,s7,ez⟩
     have hyl:=ao hys
     have x1:ys[i]? =some (ys[i]'(by lia)):=gE _
     have s8:=s2.trans s7
     refine⟨⟨_,_,SqL.of (s8 _ _ hta),x1⟩,?_⟩
     rintro y H' ⟨rfl,hy⟩
     have E1:=aD (x1.symm.trans (hy _ (SqL.of (s8 _ _ hta))))
     obtain⟨pr,hpr,px⟩:=jl hys x1
     rw[E1]at px
     obtain⟨b,rfl,hb⟩:=px.same s8
     obtain⟨_,k1,k2⟩:=wk.t.in pr (aA hpr)
     have v1:=nS nd (by rw[hk];exact lz k1)
     have v2:=nS nd (by rw[hk];exact lz k2)
     simp_arith[hb,s7 _ _ ed,v1,v2]
     refine⟨_,ez,?_,_,_,rfl,iW s7 hz0,?_⟩
     ·rw[aa,aa,aO]
      have:=wk.tl
      exact iM (by lia)
     ·rw[ie,je hpr,ah,ah]
      rfl
    ·rintro σ' Hc ⟨w1,w2,rfl,s7,ez⟩
     have s8:=s2.trans s7
     refine⟨⟨_,SqL.of (s8 _ _ hta),by have:=ao hys;lia⟩,?_⟩
     rw[aG]at ez
     simp_arith[ez]
     refine⟨_,rfl,?_⟩
     have hb:=h Hc s8
     rw[wO hho]at hb
     have ew:(ts.map fun t=>decide (ko hs t.1+ko hs t.2 ≥ 2)).all id=mr ts hs:=by rw[fS];rfl
     rw[ew]
     exact hb
  ·have hb:=h H (Same.refl _)
   rw[pJ (AB (by lia))]at hb
   rw[az (show ¬(zs.length:Int)=(xs.length:Int) by lia),aH (by decide)]
   exact hb
 |_=>simp_arith[jZ,j5];exact h H (Same.refl _)
theorem JN(B:Blt mg)(D:DefAt K mg "cost_in_halves" (ig 33) ["web","halves"] f fd):FnOk P w K mg base iu 1 f fd ["web","halves"] z7:=by
 have sc:FnScope ["web","halves","prices"] ["web","halves"] (iN (ig 33)):=by walk_at "SC"
 refine D.F.ok sc (fun vs H Q E h=>?_) (fun cdv A outer s H vs Q E hr h=>?_)
 ·obtain⟨v,ps,ts,l,zs,hs,rfl,_⟩:=h
  rfl
 obtain⟨v,ps,ts,l,zs,hs,rfl,hw,wk,el,hz,hl,hh,h⟩:=h
 obtain⟨u,pa,ta,xs,ys,rfl,hu1,hpa,hta,hxs,hys⟩:=hw
 have hxl:=ao hxs
 have hu:=iX hr
 have hu0:_<PySem.cLine:=au hu
 refine⟨_,(ik (iH (i:=2) sc.nd rfl (Or.inr rfl) (lN (pD rfl) rfl B.dict cP (h8 (il ip (qv 0) h9 (fun _ _=>rfl)) ic))) (iw (iG (iU (qh rfl) rfl B.sum dH (h8 (jU (CpScope.of (N:=["place","h","prices"]) (src:=[none,none,some 2]) (by rfl)) rfl (jg (qv 1)) (fun _ _ _ _=>(jJ (n:=2) rfl (iO (iE (i:=0) (iS (l:=["place","h","prices"]) (by rfl)) rfl (Or.inl rfl)) (iO (iE (i:=1) (iS (l:=["place","h","prices"]) (by rfl)) rfl (Or.inl rfl)) jK)))) (fun _ _ _ _=>kf) (fun _ _ _ _=>(iQ lK (kF hu (qv 2) (qv 0) (fun _ _=>rfl)) (qv 1)))) ic))))),?_⟩
 simp_arith[ir,hu1,iJ,hpa]
 have hpl:=wk.pl
 refine⟨i5 ps,qI hxs,by lia,uo wk.p.nodup,fun d hd0=>?_⟩
 have s2:Same H (upd H d (.dK (i5 ps))):=iq hd0 _
 have ed:upd H d (.dK (i5 ps)) d=some (.dK (i5 ps)):=ie
 generalize upd H d (.dK (i5 ps))=H2 at s2 ed
 have hzl:=ao hz
 refine jx (i6 K l) H2 (fun R hR=>?_) (fun z hz0=>ju hs.length (fun i σ' Hc=>∃w1 w2,σ'=[w1,w2,some (.ref d)]/\Same H2 Hc/\Hc z=some (.lst (((hs.take i).map fun h=>ko ps h.1*h.2).map V.int))) ⟨none,none,rfl,iq hz0 _,ie⟩ ?_ ?_)
 ·unfold jc
  walk_at "D"
  exact⟨l,rfl,⟨_,SqL.of (s2 _ _ el)⟩,hR⟩
 ·rintro i σ' Hc hi ⟨w1,w2,rfl,s7,ez⟩
  have x1:zs[i]? =some (zs[i]'(by lia)):=gE _
  have s8:=s2.trans s7
  refine⟨⟨_,_,SqL.of (s8 _ _ el),x1⟩,?_⟩
  rintro y H' ⟨rfl,hy⟩
  have E1:=aD (x1.symm.trans (hy _ (SqL.of (s8 _ _ el))))
  obtain⟨pr,hpr,px⟩:=jl hz x1
  rw[E1]at px
  obtain⟨b,rfl,hb⟩:=px.same s8
  obtain⟨k1,k2,k3⟩:=hh pr (aA hpr)
  have v1:=nS wk.p.nodup k1
  simp_arith[hb,s7 _ _ ed,v1]
  refine⟨qX (by lia) (by lia),_,ez,?_,_,_,rfl,iW s7 hz0,?_⟩
  ·rw[aa,aa,aO]
   exact iM (by lia)
  ·rw[ie,je hpr,ah,ah]
   rfl
 ·rintro σ' Hc ⟨w1,w2,rfl,s7,ez⟩
  have s8:=s2.trans s7
  refine⟨⟨_,SqL.of (s8 _ _ el),by lia⟩,?_⟩
  rw[aG]at ez
  exact⟨z,_,rfl,ez,h Hc s8⟩
theorem tZ:∀{ps:List (Int×Int)} {ds:List Dt} {hs:List (Int×Int)},j6 ps ds=some hs->ds=hs.map jd/\hs.map (·.1)=ps.map (·.1)/\∀h∈hs,0<=h.2/\h.2<=2
 |[],[],hs,h=>by cases h;exact⟨rfl,rfl,fun _ z=>by cases z⟩
 |[],_::_,_,h=>by cases h
 |_::_,[],_,h=>by cases h
 | p ::ps,d::ds,hs,h=>by
  rw[j6]at h
  split at h
  ·rename_i k hk
   split at h
   ·rename_i c
    cases e:j6 ps ds with
    |none=>rw[e]at h;cases h
    |some r=>
     rw[e]at h
     cases h
     obtain⟨i1,i2,i3⟩:=tZ e
     refine ⟨by rw [ai,<- i1,AU hk],by rw [ai,ai,i2,c.1],fun z hz=>?_⟩
     rcases aR.mp hz with e|hz
     ·rw[e];exact c.2
     ·exact i3 z hz
   ·cases h
  ·cases h
theorem Bl{d:Dt}{p:Int×Int×Int}(hdu:l9 d=some p):d=jq p/\1<=p.2.2:=by
 unfold l9 at hdu
 split at hdu
 ·rename_i p' e
  split at hdu
  ·rename_i c;cases hdu;exact⟨A9 e,c⟩
  ·cases hdu
 ·cases hdu
theorem um{ts:List (Int×Int)}:∀{ds:List Dt} {q:Int×Int} {qs:List (Int×Int×Int)},jQ ts q ds=some qs->ds=qs.map jq/\∀d∈qs,(d.1,d.2.1)∈ts/\1<=d.2.2
 |[],_,qs,h=>by cases h;exact⟨rfl,fun _ z=>by cases z⟩
 | d ::ds,q,qs,h=>by
  rw[jQ]at h
  split at h
  ·rename_i k hk
   split at h
   ·rename_i c
    cases e:jQ ts (k.1,k.2.1) ds with
    |none=>rw[e]at h;cases h
    |some r=>
     rw[e]at h
     cases h
     obtain⟨i1,i3⟩:=um e
     refine ⟨by rw [ai,<- i1,(Bl hk).1],fun z hz=>?_⟩
     rcases aR.mp hz with e|hz
     ·rw[e];exact⟨c.1,(Bl hk).2⟩
     ·exact i3 z hz
   ·cases h
  ·cases h
theorem AY{H:Hp}:∀{hs:List (Int×Int)} {zs:List V},Reps H (hs.map jd) zs->Prs H zs hs
 |[],zs,h=>by rw[bJ,Reps]at h;subst h;exact .nil
 |k::r,zs,h=>by
  rw[ai,Reps]at h
  obtain⟨v,vs,rfl,h1,h2⟩:=h
  exact .cons (AO h1) (AY h2)
theorem AZ{H:Hp}:∀{hs:List (Int×Int×Int)} {zs:List V},Reps H (hs.map jq) zs->jP H zs hs
 |[],zs,h=>by rw[bJ,Reps]at h;subst h;exact .nil
 |k::r,zs,h=>by
  rw[ai,Reps]at h
  obtain⟨v,vs,rfl,h1,h2⟩:=h
  exact .cons (wH h1) (AZ h2)
noncomputable def mH(ps ts:List (Int×Int))(a b:Dt):Bool:=match a,b with
 | .lst as,.lst bs=>match j6 ps as,jQ ts (-1,-1) bs with
  |some hs,some qs=>mr ts hs&&(lX ps qs&&decide ((qs.map (·.2.2)).sum=nH ps hs))
  |_,_=>false
 |_,_=>false
noncomputable def mw(ps ts:List (Int×Int)):Dt->Bool
 | .tup [a,b]=>mH ps ts a b
 |_=>false
theorem xf{ps ts:List (Int×Int)}{a b:Dt}:mw ps ts (.tup [a,b])=mH ps ts a b:=rfl
theorem G5{ps ts:List (Int×Int)}{ds:List Dt}(h:¬ds.length=2):mw ps ts (.tup ds)=false:=by
 unfold mw
 split
 ·rename_i e;cases e;exact absurd rfl h
 ·rfl
theorem Ed{ps ts:List (Int×Int)}{a b:Dt}(h:pL ps ts a=false):mH ps ts a b=false:=by
 unfold mH
 split
 ·rename_i as bs
  split
  ·rename_i hs qs e1 e2
   rw[wO e1]at h
   rw[h];rfl
  ·rfl
 ·rfl
theorem Ee{ps ts:List (Int×Int)}{a b:Dt}(h:oZ ps ts b=false):mH ps ts a b=false:=by
 unfold mH
 split
 ·rename_i as bs
  split
  ·rename_i hs qs e1 e2
   rw[xc e2]at h
   rw[h,cR,fD]
  ·rfl
 ·rfl
theorem GG{ps ts:List (Int×Int)}{a:Dt}(h:pL ps ts a=true):∃hs,a= .lst (hs.map jd)/\j6 ps (hs.map jd)=some hs/\mr ts hs=true:=by
 cases a with
 | lst as=>
  cases e:j6 ps as with
  |none=>rw[pJ e]at h;cases h
  |some hs=>
   rw[wO e]at h
   have:=(tZ e).1
   subst this
   exact⟨hs,rfl,e,h⟩
 |_=>cases h
theorem Hv{ps ts:List (Int×Int)}{a:Dt}(h:oZ ps ts a=true):∃qs,a= .lst (qs.map jq)/\jQ ts (-1,-1) (qs.map jq)=some qs/\lX ps qs=true:=by
 cases a with
 | lst as=>
  cases e:jQ ts (-1,-1) as with
  |none=>rw[ui e]at h;cases h
  |some hs=>
   rw[xc e]at h
   have:=(um e).1
   subst this
   exact⟨hs,rfl,e,h⟩
 |_=>cases h
def y8(d:Dt):Prop:=∀a b,d= .tup [a,b]->y6 b
def Af:Sp:=fun vs H Q _=>∃v ps ts y d,vs=[v,y]/\jbz H v ps ts/\WebOk ps ts/\Rep H d y/\y8 d/\∀H',Same H H'->Q (.bl (mw ps ts d)) H'
theorem JG(B:Blt mg)(D:DefAt K mg "paper_stands" (ig 34) ["web","thing"] f fd)(Dqa:DefAt K mg "is_tuple_of" (ig 8) ["thing","many"] fqa dqa)(Gqa:FnOk P w K mg base iu 1 fqa dqa ["thing","many"] sr)(Dq6:DefAt K mg "halves_stand" (ig 29) ["web","thing"] fq6 dq6)(Gq6:FnOk P w K mg base iu 3 fq6 dq6 ["web","thing"] A3)(Dq3:DefAt K mg "dues_stand" (ig 32) ["web","thing"] fq3 dq3)(Gq3:FnOk P w K mg base iu 4 fq3 dq3 ["web","thing"] zd)(Dq0:DefAt K mg "cost_in_halves" (ig 33) ["web","halves"] fq0 dq0)(Gq0:FnOk P w K mg base iu 1 fq0 dq0 ["web","halves"] z7):FnOk P w K mg base iu 5 f fd ["web","thing"] Af:=by
 have sc:FnScope ["web","thing"] ["web","thing"] (iN (ig 34)):=by walk_at "SC"
 refine D.F.ok sc (fun vs H Q E h=>?_) (fun cdv A outer s H vs Q E hr h=>?_)
 ·obtain⟨v,ps,ts,y,d,rfl,_⟩:=h
  rfl
 obtain⟨v,ps,ts,y,d,rfl,hw,wk,hd,hs,h⟩:=h
 have hu:=iX hr
 have hu0:_<PySem.cLine:=au hu
 refine⟨_,(ik (i7 (PW.pt (jS (jy (jz (iF Gqa (hr.mono (by decide)) rfl Dqa.m Dqa.F.kp Dqa.b .nil iD (h8 (qv 1) (h8 h9 ic))))) (jS (jy (jz (iF Gq6 (hr.mono (by decide)) rfl Dq6.m Dq6.F.kp Dq6.b .nil iD (h8 (qv 0) (h8 (il ip (qv 1) h9 (fun _ _=>rfl)) ic))))) (ku (jy (jz (iF Gq3 (hr.mono (by decide)) rfl Dq3.m Dq3.F.kp Dq3.b .nil iD (h8 (qv 0) (h8 (il ip (qv 1) h9 (fun _ _=>rfl)) ic))))))))) (iw (iG jk)) i8) (iw (iG (kG kA (iU (qh rfl) rfl B.sum dH (h8 (jU (CpScope.of (N:=["one","other","amount"]) (src:=[none,none,none]) (by rfl)) rfl (jg (il ip (qv 1) h9 (fun _ _=>rfl))) (fun _ _ _ _=>(jJ (n:=3) rfl (iO (iE (i:=0) (iS (l:=["one","other","amount"]) (by rfl)) rfl (Or.inl rfl)) (iO (iE (i:=1) (iS (l:=["one","other","amount"]) (by rfl)) rfl (Or.inl rfl)) (iO (iE (i:=2) (iS (l:=["one","other","amount"]) (by rfl)) rfl (Or.inl rfl)) jK))))) (fun _ _ _ _=>kf) (fun _ _ _ _=>(qv 2))) ic)) (iF Gq0 (hr.mono (by decide)) rfl Dq0.m Dq0.F.kp Dq0.b .nil iD (h8 (qv 0) (h8 (il ip (qv 1) h9 (fun _ _=>rfl)) ic))) (iL _))))),?_⟩
 walk_at "D"
 refine⟨_,d,2,rfl,hd,?_⟩
 cases d with
 | tup ds=>
  by_cases c2:ds.length=2
  ·rw [show lQ 2 (.tup ds)=true from af (by lia)]
   match ds,c2 with
   |[a,b],_=>
   have hsb:=hs a b rfl
   rw[Rep]at hd
   obtain⟨g,vs,rfl,ea,r⟩:=hd
   rw[Reps]at r
   obtain⟨v1,r1,rfl,e1,r⟩:=r
   rw[Reps]at r
   obtain⟨v2,r2,rfl,e2,r⟩:=r
   rw[Reps]at r
   subst r
   simp_arith[ir,ea,iJ,iT]
   refine⟨_,ps,ts,_,a,rfl,hw,wk,e1,fun H1 s1=>?_⟩
   cases ch:pL ps ts a with
   |false=>
    walk_at "D"
    have hb:=h H1 s1
    rw[show mw ps ts (.tup [a,b])=mH ps ts a b from rfl,Ed ch]at hb
    exact hb
   | true=>
    simp_arith[ir,s1 _ _ ea,iT]
    refine⟨_,ps,ts,_,b,rfl,hw.same s1,wk,Rep.same s1 _ e2,hsb,fun H2 s2=>?_⟩
    have s3:=s1.trans s2
    cases cd:oZ ps ts b with
    |false=>
     walk_at "D"
     have hb:=h H2 s3
     rw[show mw ps ts (.tup [a,b])=mH ps ts a b from rfl,Ee cd]at hb
     exact hb
    | true=>
     obtain⟨hs',rfl,ho,hti⟩:=GG ch
     obtain⟨qs,rfl,qo,hpa⟩:=Hv cd
     rw[Rep]at e1 e2
     obtain⟨l1,z1,rfl,el1,r1⟩:=e1
     obtain⟨l2,z2,rfl,el2,r2⟩:=e2
     have p1:=AY r1
     have p2:=AZ r2
     obtain⟨_,hk,hrg⟩:=tZ ho
     have hzl:=ao p2
     have hql:qs.length<=200:=by have:=hsb _ rfl;rw[aa]at this;exact this
     simp_arith[ir,s3 _ _ ea,iT,iJ]
     refine jx (i6 K l2) H2 (fun R hR=>?_) (fun z hz0=>ju qs.length (fun i σ' Hc=>∃w1 w2 w3,σ'=[w1,w2,w3]/\Same H2 Hc/\Hc z=some (.lst (((qs.take i).map (·.2.2)).map V.int))) ⟨none,none,none,rfl,iq hz0 _,ie⟩ ?_ ?_)
     ·unfold jc
      simp_arith[ir,s3 _ _ ea,iT]
      exact⟨l2,rfl,⟨_,SqL.of (s3 _ _ el2)⟩,hR⟩
     ·rintro i σ' Hc hi ⟨w1,w2,w3,rfl,s7,ez⟩
      have x1:z2[i]? =some (z2[i]'(by lia)):=gE _
      have s8:=s3.trans s7
      refine⟨⟨_,_,SqL.of (s8 _ _ el2),x1⟩,?_⟩
      rintro y H' ⟨rfl,hy⟩
      have E1:=aD (x1.symm.trans (hy _ (SqL.of (s8 _ _ el2))))
      obtain⟨pr,hpr,px⟩:=jl p2 x1
      rw[E1]at px
      obtain⟨b,rfl,hb⟩:=Tp.tups px s8.tups
      simp_arith[hb]
      refine⟨_,ez,?_,_,_,_,rfl,iW s7 hz0,?_⟩
      ·rw[aa,aa,aO]
       exact iM (by lia)
      ·rw[ie,je hpr,ah,ah]
       rfl
     ·rintro σ' Hc ⟨w1,w2,w3,rfl,s7,ez⟩
      have s8:=s3.trans s7
      refine⟨⟨_,SqL.of (s8 _ _ el2),by lia⟩,?_⟩
      rw[aG]at ez
      refine⟨z,_,rfl,ez,?_⟩
      simp only[s8 _ _ ea,iJ]
      have hpl:hs'.length=ps.length:=by
       have:=bV List.length hk
       rw[aa,aa]at this
       exact this
      have h40:=wk.pl
      refine ⟨_,ps,ts,l1,z1,hs',rfl,hw.same s8,wk,s8 _ _ el1,Prs.same s8 p1,by lia,fun k hk'=>⟨by rw [<- hk]; exact cg hk',hrg k hk'⟩,fun H9 s9=>?_⟩
      have hb:=h H9 (s8.trans s9)
      have e9:mw ps ts (.tup [.lst (hs'.map jd),.lst (qs.map jq)])=decide ((qs.map (·.2.2)).sum=nH ps hs'):=by
       rw[xf]
       unfold mH
       dsimp only
       rw[ho,qo]
       dsimp only
       rw[hti,hpa,cu,cu]
      rw[e9]at hb
      exact hb
  ·rw[show lQ 2 (.tup ds)=false from az (by lia)]
   walk_at "D"
   have hb:=h H (Same.refl _)
   rw[G5 c2]at hb
   exact hb
 |_=>simp_arith[lQ];exact h H (Same.refl _)
theorem nX:∀(ps:List (Int×Int)),jo (ps.map jd)<=1
 |[]=>by rw[bJ,jo];lia
 |p::r=>by
  rw[ai,jo]
  have:=nX r
  have e:jF (jd p)=1:=rfl
  lia
theorem HH(hs:List (Int×Int))(h:Int×Int):i5 (hs++[h])=i5 hs++[(Sum.inl h.1,V.int h.2)]:=by
 unfold i5
 rw[ah]
 rfl
theorem Ar{hs:List (Int×Int)}{n:Int}(h:n∉hs.map (·.1)):iK (i5 hs) (Sum.inl n:ij)=none:=by
 cases e:iK (i5 hs) (Sum.inl n:ij)with
 |none=>rfl
 |some v=>exact absurd (lz (by unfold ja;rw[e];rfl)) h
theorem B3{ns:List Int}(nd:ns.Nodup){i:Nat}{n:Int}(h:ns[i]? =some n):n∉ns.take i:=fun hm=>by
 obtain⟨j,hj,e⟩:=bq.mp hm
 rw[List.getElem_take]at e
 rw[aO]at hj
 obtain⟨hi,e2⟩:=aq.mp h
 exact eC.mp nd j i (by lia) hi (by lia) (e.trans e2.symm)
theorem Ii(B:Blt mg)(D:DefAt K mg "_law_own" (ig 53) ["_law_web_here"] f fd):FnOk P w K mg base iu 1 f fd ["_law_web_here"] vt:=by
 have sc:FnScope ["_law_web_here"] ["_law_web_here"] (iN (ig 53)):=by walk_at "SC"
 refine D.F.ok sc (fun vs H Q E h=>?_) (fun cdv A outer s H vs Q E hr h=>?_)
 ·obtain⟨v,ps,ts,rfl,_⟩:=h
  rfl
 obtain⟨v,ps,ts,rfl,hw,h⟩:=h
 obtain⟨u,pa,ta,xs,ys,rfl,eu,ep,et,pp,pt⟩:=id hw
 have hu:=iX hr
 have hu0:_<PySem.cLine:=au hu
 refine⟨_,(iw (iG (jw (h8 (lN pH rfl B.list bH (h8 (il ip (qv 0) h9 (fun _ _=>rfl)) ic)) (h8 (lN pH rfl B.list bH (h8 (il ip (qv 0) h9 (fun _ _=>rfl)) ic)) ic))))),?_⟩
 simp_arith[ir,eu,ep,iJ,iT]
 intro l1 h1
 have s1:Same H (upd H l1 (.lst xs)):=iq h1 _
 simp_arith[ir,s1 _ _ eu,s1 _ _ et,iJ,iT]
 intro l2 h2
 have s2:Same H (upd (upd H l1 (.lst xs)) l2 (.lst ys)):=s1.trans (iq h2 _)
 intro t h3
 have s3:Same (upd (upd H l1 (.lst xs)) l2 (.lst ys)) (upd (upd (upd H l1 (.lst xs)) l2 (.lst ys)) t (.tup [.ref l1,.ref l2])):=iq h3 _
 refine h _ _ (s2.trans s3) ⟨l1,l2,xs,ys,h1,s1.free h2,iI ie h2,ie,s3 _ _ (iq h2 _ _ _ ie),s3 _ _ ie,Prs.same (s2.trans s3) pp,Prs.same (s2.trans s3) pt⟩
theorem Jb(B:Blt mg)(D:DefAt K mg "_law_whole" (ig 58) ["_law_thing"] f fd):FnOk P w K mg base iu 1 f fd ["_law_thing"] nT:=by
 have sc:FnScope ["_law_thing"] ["_law_thing"] (iN (ig 58)):=by walk_at "SC"
 refine D.F.ok sc (fun vs H Q E h=>?_) (fun cdv A outer s H vs Q E hr h=>?_)
 ·obtain⟨x,k,rfl,_⟩:=h
  rfl
 obtain⟨x,k,rfl,ek,h⟩:=h
 have hu:=iX hr
 have hu0:_<PySem.cLine:=au hu
 refine⟨_,(iw (iG (kO (iU (kP .int) rfl B.isinstance aS (h8 (qv 0) (h8 (kQ (v:=.ty "int") rfl B.int gf rfl) ic))) (lY (yu (iU (kP .bl) rfl B.isinstance aS (h8 (qv 0) (h8 (kQ (v:=.ty "bool") rfl B.bool PyProof.Rows.boot_bool rfl) ic)))))))),?_⟩
 simp_arith[ek]
 cases k<;>simpa only[j5,lZ,if_true,if_false,aM,bN,du]using h
theorem vS(H:Hp)(n:Int):Rep H (.int n) (.int n):=by rw[Rep]
theorem Pr.at{H:Hp}{b:Addr}{p:Int×Int}(e:H b=some (.tup [.int p.1,.int p.2])):Rep H (jd p) (.ref b):=Pr.rep ⟨b,rfl,e⟩
def zg:Sp:=fun vs H Q _=>∃v ps ts l zs hs,vs=[v,.ref l]/\jbz H v ps ts/\WebOk ps ts/\H l=some (.lst zs)/\Prs H zs hs/\hs.map (·.1)=ps.map (·.1)/\(∀h∈hs,0<=h.2/\h.2<=2)/\mr ts hs=true/\∀H',Same H H'->Q (.bl true) H'
theorem JP(B:Blt mg)(D:DefAt K mg "_law_are_halves" (ig 59) ["_law_web_here","_law_thing"] f fd)(Dqj:DefAt K mg "_law_whole" (ig 58) ["_law_thing"] fqj dqj)(Gqj:FnOk P w K mg base iu 1 fqj dqj ["_law_thing"] nT):FnOk P w K mg base iu 2 f fd ["_law_web_here","_law_thing"] zg:=by
 have sc:FnScope ["_law_web_here","_law_thing","_law_hs","_law_k","_law_one"] ["_law_web_here","_law_thing"] (iN (ig 59)):=by walk_at "SC"
 refine D.F.ok sc (fun vs H Q E h=>?_) (fun cdv A outer s H vs Q E hr h=>?_)
 ·obtain⟨v,ps,ts,l,zs,hs,rfl,_⟩:=h
  rfl
 obtain⟨v,ps,ts,l,zs,hs,rfl,hw,wk,el,hz,hk,hrg,hti,h⟩:=h
 obtain⟨u,pa,ta,xs,ys,rfl,hu1,hpa,hta,hxs,hys⟩:=hw
 have hxl:=ao hxs
 have hzl:=ao hz
 have hu:=iX hr
 have hu0:_<PySem.cLine:=au hu
 refine⟨_,(ik (i7 (PW.pt (jS (jy (jz (iU (kP .lst) rfl B.isinstance aS (h8 (qv 1) (h8 (kQ (v:=.ty "list") rfl B.list bH rfl) ic))))) (ku (iV mm (iU kc rfl B.len bu (h8 (qv 1) ic)) (iU kc rfl B.len bu (h8 (il ip (qv 0) h9 (fun _ _=>rfl)) ic)) (iL _))))) (iw (iG jk)) i8) (ik (iH (i:=2) sc.nd rfl (Or.inr rfl) pG) (ik (j0 ba rfl (oO rfl B.range (h8 (iU kc rfl B.len bu (h8 (qv 1) ic)) ic)) (iE (i:=3) sc.nd rfl (Or.inl rfl)) (ik (iH (i:=4) sc.nd rfl (Or.inl rfl) (il ip (qv 1) (qv 3) (fun _ _=>rfl))) (ik (i7 (PW.pt (jS (jy (jz (iU (kP .tup) rfl B.isinstance aS (h8 (qv 4) (h8 (kQ (v:=.ty "tuple") rfl B.tuple cI rfl) ic))))) (ku (iV mm (iU kc rfl B.len bu (h8 (qv 4) ic)) h9 (iL _))))) (iw (iG jk)) i8) (ik (i7 (PW.pt (jS (jy (jz (iF Gqj (hr.mono (by decide)) rfl Dqj.m Dqj.F.kp Dqj.b .nil iD (h8 (il ip (qv 4) h9 (fun _ _=>rfl)) ic)))) (ku (jy (jz (iF Gqj (hr.mono (by decide)) rfl Dqj.m Dqj.F.kp Dqj.b .nil iD (h8 (il ip (qv 4) h9 (fun _ _=>rfl)) ic))))))) (iw (iG jk)) i8) (ik (i7 (PW.pt (jS (iV mm (il ip (qv 4) h9 (fun _ _=>rfl)) (il ip (il ip (il ip (qv 0) h9 (fun _ _=>rfl)) (qv 3) (fun _ _=>rfl)) h9 (fun _ _=>rfl)) (iL _)) (jS (iV mn (il ip (qv 4) h9 (fun _ _=>rfl)) h9 (iL _)) (ku (iV pU (il ip (qv 4) h9 (fun _ _=>rfl)) h9 (iL _)))))) (iw (iG jk)) i8) (iw (mx hu (qv 2) (il ip (qv 4) h9 (fun _ _=>rfl)) (il ip (qv 4) h9 (fun _ _=>rfl))))))))) (iw (iG (kG (se hr.units) (jU (CpScope.of (N:=["_law_tie","_law_hs"]) (src:=[none,some 2]) (by rfl)) rfl (jg (il ip (qv 0) h9 (fun _ _=>rfl))) (fun _ _ _ _=>(iE (i:=0) (iS (l:=["_law_tie","_law_hs"]) (by rfl)) rfl (Or.inl rfl))) (fun _ _ _ _=>(k8 (iV mn (iQ jM (kF hu (qv 1) (il ip (qv 0) h9 (fun _ _=>rfl)) (fun _ _=>rfl)) (kF hu (qv 1) (il ip (qv 0) h9 (fun _ _=>rfl)) (fun _ _=>rfl))) h9 (iL _)))) (fun _ _ _ _=>(qv 0))) (kL ic) (iL _))))))),?_⟩
 have hsl:hs.length=ps.length:=by
  have:=bV List.length hk
  rw[aa,aa]at this
  exact this
 have hkd:=lL (show Rep H (.lst (hs.map jd)) (.ref l) by rw[Rep];exact⟨l,zs,rfl,el,Prs.reps hz⟩)
 have hpl:=wk.pl
 have nd:(ps.map (·.1)).Nodup:=wk.p.nodup
 refine iz fun R hR=>?_
 simp_arith[hkd,jZ,j5,ir,hu1,iJ,el,hpa]
 rw[af (show(zs.length:Int)=(xs.length:Int) by lia),aE (by decide)]
 subst hR
 refine iz fun R hR=>?_
 walk_at "D"
 intro d hd0
 have s1:=iq hd0 (.dK [])
 have ed:upd H d (.dK []) d=some (.dK (i5 (hs.take 0))):=ie
 generalize upd H d (.dK [])=H1 at s1 ed
 subst hR
 refine iz fun R hR=>?_
 refine ky (lO 0 zs.length) H1 (fun R' hR'=>?_) (oN (n:=zs.length) (fun i σ Hc=>∃w1 w2,σ=[some (.ref u),some (.ref l),some (.ref d),w1,w2]/\Same H Hc/\Hc d=some (.dK (i5 (hs.take i)))) ⟨none,none,rfl,s1,ed⟩ ?_ ?_)
 ·unfold oo
  simp_arith[ir,s1 _ _ el]
  exact⟨_,rfl,by lia,by lia,by simpa using hR'⟩
 ·rintro i σ Hc hi ⟨w1,w2,rfl,s2,ed2⟩
  have hq:hs[i]? =some (hs[i]'(by lia)):=gE _
  have hp:ps[i]? =some (ps[i]'(by lia)):=gE _
  generalize hs[i]'(by lia)=q at hq
  generalize ps[i]'(by lia)=p at hp
  obtain⟨_,gz,b1,rfl,eb1⟩:=l6 hz hq
  obtain⟨_,gx,b2,rfl,eb2⟩:=l6 hxs hp
  have eb:=s2 _ _ eb1
  have eb2:=s2 _ _ eb2
  have ax:jb zs (0+(i:Int))=some (.ref b1):=by rw[eT];exact k7 gz
  have ay:jb xs (0+(i:Int))=some (.ref b2):=by rw[eT];exact k7 gx
  have ek:q.1=p.1:=by
   have h1:(hs.map (·.1))[i]? =some q.1:=by rw[aJ,hq];rfl
   rw[hk,aJ,hp]at h1
   exact(aD h1).symm
  have hb:=hrg q (aA hq)
  simp only[mY,List.set_cons_zero,List.set_cons_succ]
  refine iz fun R9 hR9=>?_
  simp_arith[ir,s2 _ _ el,ax]
  subst hR9
  refine iz fun R9 hR9=>?_
  have hkx:=lL (Pr.at eb)
  simp_arith[hkx,jZ,j5,jd,ir,eb]
  rw[aE (by simp)]
  subst hR9
  refine iz fun R9 hR9=>?_
  simp_arith[ir,eb,iJ,iT]
  refine⟨_,_,rfl,lL (vS Hc q.1),?_⟩
  simp_arith[jZ,lZ,ir,eb,iT]
  refine⟨_,_,rfl,lL (vS Hc q.2),?_⟩
  simp_arith[jZ,lZ]
  subst hR9
  refine iz fun R9 hR9=>?_
  simp_arith[ir,eb,iJ,iT,s2 _ _ hu1,s2 _ _ hpa,ay,eb2]
  rw[af ek,aE (by decide),az (show ¬q.2<0 by lia),aE (by decide),az (show ¬q.2>2 by lia),aE (by decide)]
  subst hR9
  simp_arith[ir,eb,iJ,iT,ed2]
  have hn:q.1∉(hs.take i).map (·.1):=by
   rw[List.map_take,hk]
   exact B3 nd (by rw[aJ,hp,ek];rfl)
  refine⟨?_,_,_,rfl,iW s2 hd0,?_⟩
  ·have:(i5 (hs.take i)).length=(hs.take i).length:=by unfold i5;rw[aa]
   rw[this,aO]
   exact iM (by lia)
  ·rw [ie,tL _ (Ar hn),<- HH,je hq]
 ·rintro σ Hc ⟨w1,w2,rfl,s2,ed2⟩
  rw[hzl,aG]at ed2
  have ndh:(hs.map (·.1)).Nodup:=by rw[hk];exact nd
  refine(?_:R _ _ _)
  subst hR
  walk_at "D"
  refine jx (i6 K ta) Hc (fun R hR=>?_) (fun z hz0=>ju ts.length (fun i σ' Hd=>∃w1,σ'=[w1,some (.ref d)]/\Same Hc Hd/\Hd z=some (.lst [])) ⟨none,rfl,iq hz0 _,ie⟩ ?_ ?_)
  ·unfold jc
   simp_arith[ir,s2 _ _ hu1,iT]
   exact⟨ta,rfl,⟨_,SqL.of (s2 _ _ hta)⟩,hR⟩
  ·rintro i σ' Hd hi ⟨w1,rfl,s7,ez⟩
   have hyl:=ao hys
   have x1:ys[i]? =some (ys[i]'(by lia)):=gE _
   have s8:=s2.trans s7
   refine⟨⟨_,_,SqL.of (s8 _ _ hta),x1⟩,?_⟩
   rintro y H' ⟨rfl,hy⟩
   have E1:=aD (x1.symm.trans (hy _ (SqL.of (s8 _ _ hta))))
   obtain⟨pr,hpr,px⟩:=jl hys x1
   rw[E1]at px
   obtain⟨b,rfl,hb⟩:=px.same s8
   obtain⟨_,k1,k2⟩:=wk.t.in pr (aA hpr)
   have v1:=nS ndh (by rw[hk];exact lz k1)
   have v2:=nS ndh (by rw[hk];exact lz k2)
   have v3:=bp (cV.mp hti pr (aA hpr))
   simp_arith[ir,hb,s7 _ _ ed2,iJ,iT,v1,v2]
   rw[aE (by simp;lia)]
   exact⟨_,rfl,s7,ez⟩
  ·rintro σ' Hd ⟨w1,rfl,s7,ez⟩
   have s8:=s2.trans s7
   refine⟨⟨_,SqL.of (s8 _ _ hta),by have:=ao hys;lia⟩,?_⟩
   walk_at "D"
   intro e he
   have s9:=iq he (.lst [])
   refine⟨.lst [],.lst [],(by rw[Rep];exact⟨z,[],rfl,s9 _ _ ez,rfl⟩),(by rw[Rep];exact⟨e,[],rfl,ie,rfl⟩),(by decide),.inl ⟨_,_,rfl,rfl⟩,?_⟩
   rw[kR]
   exact h _ (s8.trans s9)
end
end My
namespace L2
open PySem PySem.Spec PyProof.Rows
def xR(td:TE):TE:=fun σ H Q=>td σ H fun x H1=>∃a kvs,x= .ref a/\H1 a=some (.dK kvs)/\∀l,H1 l=none->Q (.ref l) (upd H1 l (.lst (kvs.map (·.2))))
theorem zL{κ:Type}:∀{kvs:List (κ×V)} {vs:List (κ×Value)},KV kvs vs->Vals (kvs.map (·.2)) (vs.map (·.2))
 |_,_,.nil=>.nil
 |_,_,.cons r t=>.cons r.2 (zL t)
theorem IQ{X:Cx}{x:Str}{o:Expr}{td:TE}{p apos vpos cpos:Pos}(hc:X.calm=true)(hg:Gl X x)(hm:X.mg x=none)(hv:bootBuiltins x=some (.type "list"))(ho:PE X o td)
  (hn:x≠"__name__":=by decide) (hdb:(x==("__debug__":Str))=false:=by decide)
  (hbase:attributeBase o "values" X.env (eval o X.env)=eval o X.env:=by rfl) (hline:(apos.endLine==vpos.line)=true:=by rfl)
  (he:starEach [.Call (.Attribute o "values" apos) [] [] vpos] X.env=(false,eval (.Call (.Attribute o "values" apos) [] [] vpos) X.env)::starEach [] X.env:=by rfl):
  PE X (.Call (.Name x p) [.Call (.Attribute o "values" apos) [] [] vpos] [] cpos) (xR td):=by
 intro pins s σ H Q I h
 refine dA (nc I hg hm hv ?_ hn hdb)
 refine cL ?_ he rfl
 rw[he]
 show wpAny _ _ (spliced ((false,eval (.Call (.Attribute o "values" apos) [] [] vpos) X.env)::backTo cpos (starEach [] X.env))) _ _ s
 refine eI ?_
 refine wpAny_Call_method0_late hbase hline (iy (ho pins s σ H _ I h) fun v s1 ⟨x,H1,I1,r1,a,kvs,ex,ea,q1⟩=>?_)
 subst ex
 cases r1
 obtain⟨z,hd,vs,rel,dd⟩:=rK I1.hok ea
 refine⟨"dict","dict.values",fK,PySem.F.slot_dict_values,PySem.F.type_dict_values,dd.typeIs,?_,dF rfl (PySem.evalArgs_none ?_)⟩
 ·exact(vj I1 (.inl ⟨kvs,.inl ea⟩)).2.1
 refine fP PySem.F.slot_dict_values dd.typeIs PySem.F.entry_dict_values (PySem.F.args_dict_values_1 _) (meets_dict_values (jY X.prog X.w) a hd) ⟨⟨vs,dd⟩,?_⟩
 show wpAny _ _ (spliced []) _ _ _
 refine aI ?_
 obtain⟨ep,dat⟩:=dd.dictAt
 have hlv:kvs.length=vs.length:=ao rel
 refine PySem.W.kdl_call (PySem.W.kdl_values (prog:=X.prog) (w:=X.w) (knd:=jY X.prog X.w) (r:=s1.heap.objs.size) (d:=a) (kvs:=vs) (ep:=ep)) (I.ok.hd hc) ⟨⟨_,aQ _ rfl,rfl,rfl⟩,dat.push _⟩ (by lia) fun h' tk acc' c' hk hD hacc=>?_
 have hav:acc'.toList=vs.map (·.2):=by
  refine eS fun j=>?_
  rw[aJ,Array.getElem?_toList]
  cases e:acc'[j]? with
  |some v=>
   obtain⟨k,hk⟩:=hacc.2 j v e
   rw[hk];rfl
  |none=>
   have:acc'.size<=j:=by simpa using e
   rw [bF (by rw [<- hacc.1]; exact this)]
   rfl
 refine⟨.ref _,_,I1.laid (fun b o' qq=>hk b o' (ag _ qq)) ?_ (show jc7 X.prog X.w _ h' _ (.lst (kvs.map (·.2)))from⟨by rw[aa];exact z,vs.map (·.2),c',zL rel,?_⟩),rfl,q1 _ ?_⟩
 ·show _<=(s1.heap.push _).objs.size
  rw[gB]
  exact fk _
 ·rw [<- hav,Array.toArray_toList]
  exact hD
 ·refine I1.hok.fresh ?_
  show _<=(s1.heap.push _).objs.size
  rw[gB]
  exact fk _
section
variable{prog:Program}{w:World}{A:Around}{R:Result->Shared->Prop}{I:Addr}{fp wr:List Addr}{n:Nat}{P:Nat->Value->Prop}{St:Nat->Heap->Prop}
def jmj(val:Nat->Int)(n:Nat)(m:Int):Prop:=(∃i,i<n/\m=val i)/\∀i,i<n->m<=val i
theorem jmj.up{val:Nat->Int}{j:Nat}{m:Int}(h:jmj val j m)(hb:val j<m):jmj val (j+1) (val j):=
 ⟨⟨j,gQ _,rfl⟩,fun i hi=>by
  rcases fH.mp hi with z|z
  ·have:=h.2 i z;lia
  ·rw[z];exact cE _⟩
theorem jmj.keep{val:Nat->Int}{j:Nat}{m:Int}(h:jmj val j m)(hb:¬val j<m):jmj val (j+1) m:=
 ⟨let⟨i,hi,e⟩:=h.1;⟨i,dQ hi,e⟩,fun i hi=>by
  rcases fH.mp hi with z|z
  ·exact h.2 i z
  ·rw[z];lia⟩
theorem pF:(toString "min"++toString ".loop":String)="min.loop":=by decide
theorem Cg(W:Walks prog w A.in1 I fp wr n P St)(val:Nat->Int)(hval:∀i v,P i v->∃t:Tok,v=Value.int (val i) t)(kw:List (Str×Value))(S:Addr)(hSf:S∉fp):
  ∀(k j:Nat) (s:Shared) (m:Int) (t:Tok) (c:Nat),n-j=k->j<=n->St j s.heap->jmj val j m->
  s.heap.get? S=some {cls:=.type "list",dict:=none,data:=.seq #[.int m t,.int m t] c,slots:=#[]}->
  (∀m' t' h' tk,jmj val n m'->(∀b o,b∉wr->b≠S->s.heap.get? b=some o->h'.get? b=some o)->R (.ok (.ret (.int m' t'))) {s with heap:=h',toks:=tk})->
  codeAny (model prog w) A (.builtin "min.loop" ⟨[.ref I,.none,.ref S],kw⟩) R s:=by
 have hSw:S∉wr:=fun z=>hSf (W.sub _ z)
 intro k
 induction k with
 |zero=>
  intro j s m t c hk hj hst hb hS hR
  have hin:j=n:=by lia
  subst hin
  refine de eM ?_
  rw[cK bQ _]
  show wpAny _ A.in1 (seqItems? (.ref S)>>=_) _ _ s
  refine ae (bY hS rfl ?_)
  show wpAny _ A.in1 (tryCatch (pyNext (.ref I)) _>>=_) _ _ s
  refine ae (dk (W.done s _ _ hst fun h' tk kp=>?_))
  have hS':=kp S _ hSw hS
  show wpAny _ A.in1 (updateSeq S (fun _=>#[])>>=_) _ _ _
  refine ae ?_
  refine fT hS' rfl (ae (fj (aI ?_)))
  exact hR m t _ tk hb fun b o hbw hbS e=>(bR _ _ (cS hbS)).trans (kp b o hbw e)
 | succ k ih=>
  intro j s m t c hk hj hst hb hS hR
  have hlt:j<n:=by lia
  refine de eM ?_
  rw[cK bQ _]
  show wpAny _ A.in1 (seqItems? (.ref S)>>=_) _ _ s
  refine ae (bY hS rfl ?_)
  show wpAny _ A.in1 (tryCatch (pyNext (.ref I)) _>>=_) _ _ s
  refine ae (dk (W.item j s _ _ hlt hst fun v h' tk hP hst' kp=>?_))
  obtain⟨t',rfl⟩:=hval j v hP
  have hS':=kp S _ hSw hS
  show wpAny _ A.in1 (tryCatch (holding [.int (val j) t',.int (val j) t'] (richCompare .Lt (.int (val j) t') (.int m t)>>=_)) _>>=_) _ _ _
  refine ae (dk (cM (ae (lt_int ?_))))
  refine ae (cM (cj ?_))
  refine ae (fj (aI ?_))
  by_cases hc:val j<m
  ·rw[af (show val j<m from hc)]
   simp only[if_true]
   refine ae ?_
   refine fT hS' rfl (ae (fj ?_))
   rw[pF]
   refine aI ⟨cZ bQ _,ih (j+1) _ (val j) t' _ (by lia) hlt (W.frame _ _ _ hst' fun b hbf o e=>?_) (hb.up hc) (c7 _ hS' rfl) fun m' u h'' tk'' hB k''=>?_⟩
   ·exact(bR _ _ (fun z:S=b=>hSf (by rw[z];exact hbf))).trans e
   ·exact hR m' u h'' tk'' hB fun b o hbw hbS e=>k'' b o hbw hbS ((bR _ _ (cS hbS)).trans (kp b o hbw e))
  ·rw[az (show ¬val j<m from hc)]
   simp only[aM,if_false]
   refine ae (fj ?_)
   rw[pF]
   refine aI ⟨cZ bQ _,ih (j+1) _ m t c (by lia) hlt hst' (hb.keep hc) hS' fun m' u h'' tk'' hB k''=>?_⟩
   exact hR m' u h'' tk'' hB fun b o hbw hbS e=>k'' b o hbw hbS (kp b o hbw e)
end
section
variable{X:Cx}
theorem JK(a d:Value):argsOk "min" ⟨[a],[(Str.ofString "default",d)]⟩:=by unfold argsOk;kernel_rfl
def DT:List V->List V->Hp->VK->Prop:=fun vs zs H Q=>∃(p:Addr) (ns:List Int) (d:Int),vs=[.ref p]/\zs=[.int d]/\H p=some (.lst (ns.map V.int))/\
 ∀m,(ns=[]->m=d)->(ns≠[]->m∈ns)->(∀x∈ns,m<=x)->Q (.int m) H
theorem Gy(hc:X.calm=true):∀(pins:List (Addr×Obj)) (s:Shared) (σ:St) (H:Hp) (xs zs:List V) (us ws:List Value) (Q:VK),Inv X pins σ H s->Vals xs us->Vals zs ws->DT xs zs H Q->
  wpAny (model X.prog X.w) X.A (call (.builtin "min") us ([Str.ofString "default"].zip ws)) (EP X pins σ Q) X.xe s:=by
 intro pins s σ H xs zs us ws Q I r rz h
 obtain⟨p,ns,d,rfl,rfl,e,q⟩:=h
 obtain⟨u,rfl,rx⟩:=mL r
 cases rx
 obtain⟨dv,rfl,td,rfl⟩:=mL rz
 obtain⟨z,its,c,r',hlen,e'⟩:=I.lstM e
 have hI:=nY r'
 have plt:p<s.heap.objs.size:=aL e'
 have hL:s.heap.IsList p its.toArray:=⟨_,e',rfl,_,rfl⟩
 refine kmk_tree PySem.F.kind_min PySem.F.plain_min PySem.F.entry_min (JK _ _) ?_
 show wpAny _ X.A.in1 (Builtin.Builtins.bindParams "min" ["key","default"] 0 ⟨[],[(Str.ofString "default",.int d td)]⟩>>=_) _ _ s
 refine ae (fG (show Builtin.Builtins.bindParams "min" ["key","default"] 0 ⟨[],[(Str.ofString "default",.int d td)]⟩=pure [none,some (.int d td)]from rfl) ?_)
 refine ae (aI ?_)
 refine ae (dM hL ?_)
 refine ae (wpAny_newList ?_ (bM _))
 rw[pF]
 have hS:(s.heap.push {cls:=.type "list_iterator",data:=.fields #[.ref p,.int 0 0]}).objs.size=s.heap.objs.size+1:=gB ..
 have W:=Walks.list (prog:=X.prog) (w:=X.w) (A:=X.A.in1) (show X.A.in1.handled=none from I.ok.hd hc) s.heap.objs.size p (bj plt) its.toArray
 have hsz:its.toArray.size = ns.length:=by rw [aC,<- hlen,aa]
 have hval:∀(i:Nat) (v:Value),its.toArray[i]? =some v->∃t:Tok,v=Value.int (ns[i]?.getD 0) t:=fun i v hv=>by
  have hv':its[i]? =some v:=by simpa using hv
  have hi:i<ns.length:=by
   have:=(aq.mp hv').1
   rw[aa]at hlen
   lia
  obtain⟨u,e1,t,e2⟩:=r'.get (i:=i) (x:=.int ns[i]) (by rw[aJ,gE hi];rfl)
  rw[hv']at e1
  cases e1
  exact⟨t,by rw[e2,gE hi];rfl⟩
 have kp0:∀(h':Heap) (tk:Nat),(∀b o,b∉[s.heap.objs.size]->b≠(s.heap.push {cls:=.type "list_iterator",data:=.fields #[.ref p,.int 0 0]}).objs.size->((s.heap.push {cls:=.type "list_iterator",data:=.fields #[.ref p,.int 0 0]}).push {cls:=.type "list",data:=.seq #[]}).get? b=some o->h'.get? b=some o)->
   Inv X pins σ H {s with heap:=h',toks:=tk}:=fun h' tk k=>I.kept fun b o qq=>k b o (by
    intro z
    have:b=s.heap.objs.size:=by simpa using z
    exact absurd (aL qq) (by rw[this];exact cN _)) (by rw[hS];exact bj (dQ (aL qq))) (ag _ (ag _ qq))
 have hst0:(fun i (h:Heap)=>h.IsListIter s.heap.objs.size p i/\h.IsList p its.toArray) 0 ((s.heap.push {cls:=.type "list_iterator",data:=.fields #[.ref p,.int 0 0]}).push {cls:=.type "list",data:=.seq #[]}):=
  ⟨⟨_,ag _ (aQ _ rfl),rfl,rfl⟩,(hL.push _).push _⟩
 have hSg:((s.heap.push {cls:=.type "list_iterator",data:=.fields #[.ref p,.int 0 0]}).push {cls:=.type "list",data:=.seq #[]}).get? (s.heap.push {cls:=.type "list_iterator",data:=.fields #[.ref p,.int 0 0]}).objs.size=some {cls:=.type "list",dict:=none,data:=.seq #[] 0,slots:=#[]}:=aQ _ rfl
 have hSf:(s.heap.push {cls:=.type "list_iterator",data:=.fields #[.ref p,.int 0 0]}).objs.size∉[s.heap.objs.size,p]:=by
  rw[hS]
  intro z
  rcases aR.mp z with z|z
  ·exact absurd z (gP _)
  ·have z:=aU.mp z
   rw [<- z] at plt
   exact cN _ (au plt)
 refine aI ⟨cZ bQ _,?_⟩
 refine de eM ?_
 rw[cK bQ _]
 show wpAny _ X.A.in1 (seqItems? (.ref _)>>=_) _ _ _
 refine ae (bY hSg rfl ?_)
 show wpAny _ X.A.in1 (tryCatch (pyNext (.ref s.heap.objs.size)) _>>=_) _ _ _
 cases hn:ns with
 |nil=>
  have h0:its.toArray.size=0:=by rw[hsz,hn];rfl
  refine ae (dk (W.done _ _ _ (by rw[h0];exact hst0) fun h' tk kp=>?_))
  refine ae (fc (aI ?_))
  exact⟨.int d,H,kp0 h' tk fun b o h1 _ h3=>kp b o h1 h3,⟨td,rfl⟩,q d (fun _=>rfl) (fun z=>absurd hn z) (by rw[hn];intro x hx;cases hx)⟩
 | cons n0 rest=>
  have hpos:0<its.toArray.size:=by rw[hsz,hn];simp
  refine ae (dk (W.item 0 _ _ _ hpos hst0 fun v h' tk hP hst' kp=>?_))
  obtain⟨t',rfl⟩:=hval 0 v hP
  have hS':=kp _ _ (fun z=>hSf (aR.mpr (.inl (aU.mp z)))) hSg
  show wpAny _ X.A.in1 (updateSeq _ (fun _=>#[_,_])>>=_) _ _ _
  refine ae ?_
  refine fT hS' rfl ?_
  rw[pF]
  refine aI ⟨cZ bQ _,Cg W (fun i=>ns[i]?.getD 0) hval _ _ hSf _ 1 _ _ t' _ rfl hpos (W.frame _ _ _ hst' fun b hbf o e=>?_) ⟨⟨0,Nat.one_pos,rfl⟩,fun i hi=>by
   have:i=0:=by lia
   subst this;exact cE _⟩ (c7 _ hS' rfl) fun m u h'' tk'' hB k''=>?_⟩
  ·exact(bR _ _ (fun z=>hSf (by rw[z];exact hbf))).trans e
  ·refine⟨.int m,H,kp0 h'' tk'' fun b o h1 h2 h3=>k'' b o h1 h2 ((bR _ _ (cS h2)).trans (kp b o h1 h3)),⟨u,rfl⟩,q m (fun z=>by rw[hn]at z;cases z) (fun _=>?_) fun x hx=>?_⟩
   ·obtain⟨i,hi,e1⟩:=hB.1
    rw[hsz]at hi
    rw[e1]
    show ns[i]?.getD 0∈ns
    rw[gE hi]
    exact cf hi
   ·obtain⟨i,hi,e1⟩:=bq.mp hx
    have:m<=ns[i]?.getD 0:=hB.2 i (by rw[hsz];exact hi)
    rw[gE hi]at this
    rw [<- e1]
    exact this
end
end L2
namespace My
open PySem L2
section
variable{P:Program}{w:World}{K:PySem.W.Frag}{mg:Str->Option Value}{base:Heap}{c1 c2 c3 c4:Tok}{C_NoWeb fqk:Addr}{dI:FuncData}
theorem yD(ts:List (Int×Int))(q:Int×Int):((ts.map jd).any fun c=>i4 c (jd q))=decide (q∈ts):=by
 induction ts with
 |nil=>simp
 | cons t r ih=>
  rw[ai,List.any_cons,ih]
  have:i4 (jd t) (jd q)=decide (t=q):=by
   obtain⟨a,b⟩:=t
   obtain⟨c,d⟩:=q
   simp only[jd,i4,j7,gw]
   by_cases h1:a=c<;>by_cases h2:b=d<;>simp[h1,h2]
  rw[this]
  by_cases c1:t=q
  ·subst c1;simp
  ·by_cases c2:q∈r
   ·simp[c2]
   ·simp[c1,c2,cS c1]
noncomputable def kr(ps:List (Int×Int))(f:Int->Int):List (ij×V):=ps.map fun p=>(Sum.inl p.1,V.int (2*p.2-f p.1))
theorem Bu{ps:List (Int×Int)}(nd:(ps.map (·.1)).Nodup){f:Int->Int}{p:Int×Int}(hp:p∈ps)(a:Int):jm (kr ps f) (Sum.inl p.1:ij) (.int (2*p.2-f p.1-a))=kr ps fun m=>f m+(if p.1=m then a else 0):=by
 unfold jm
 have h1:((kr ps f).any fun kv=>decide (kv.1=(Sum.inl p.1:ij)))=true:=by
  unfold kr
  rw[List.any_map,dZ]
  exact⟨p,hp,by simp⟩
 rw[aH h1]
 unfold kr
 rw[bw]
 refine fm fun q hq=>?_
 dsimp only[Function.comp]
 by_cases c:p.1=q.1
 ·have e:p=q:=by
   have w:=(df.mp nd)
   have:∀x∈ps,∀y∈ps,x.1=y.1->x=y:=fun x hx y hy e=>by
    obtain⟨i,hi,rfl⟩:=bq.mp hx
    obtain⟨j,hj,rfl⟩:=bq.mp hy
    rcases Nat.lt_trichotomy i j with z|z|z
    ·exact absurd e (eC.mp w i j hi hj z)
    ·subst z;rfl
    ·exact absurd e.symm (eC.mp w j i hj hi z)
   exact this p hp q hq c
  subst e
  rw[aH rfl,aH rfl]
  congr 2
  lia
 ·rw[aE (fun z=>c (bL z).symm),aE c,eU]
theorem Bv{ps:List (Int×Int)}(nd:(ps.map (·.1)).Nodup){f:Int->Int}{p:Int×Int}(hp:p∈ps):iK (kr ps f) (Sum.inl p.1:ij)=some (.int (2*p.2-f p.1)):=by
 have e:kr ps f=i5 (ps.map fun p=>(p.1,2*p.2-f p.1)):=by
  unfold kr i5
  rw[bw]
  rfl
 rw[e]
 exact nV (ps:=ps.map fun p=>(p.1,2*p.2-f p.1)) (p:=(p.1,2*p.2-f p.1)) (by rw[bw];exact nd) (av.mpr ⟨p,hp,rfl⟩)
theorem HP{ps:List (Int×Int)}{qs:List (Int×Int×Int)}{m:Int}(h1:(ps.map fun p=>2*p.2-iZ qs p.1)=[]->m=0)(h2:(ps.map fun p=>2*p.2-iZ qs p.1)≠[]->m∈ps.map fun p=>2*p.2-iZ qs p.1)(h3:∀x∈ps.map fun p=>2*p.2-iZ qs p.1,m<=x):decide (m ≥ 0)=lX ps qs:=by
 unfold lX
 by_cases c:m ≥ 0
 ·rw[af c]
  refine(cV.mpr fun p hp=>af ?_).symm
  have:=h3 _ (av.mpr ⟨p,hp,rfl⟩)
  lia
 ·rw[az c]
  have hne:(ps.map fun p=>2*p.2-iZ qs p.1)≠[]:=fun z=>c (by rw[h1 z];exact cE _)
  obtain⟨p,hp,e⟩:=av.mp (h2 hne)
  cases e2:ps.all fun p=>decide (iZ qs p.1<=2*p.2)with
  |false=>rfl
  |true=>
   have:=bp (cV.mp e2 p hp)
   lia
theorem Ao{H:Hp}{v:V}{d:Int×Int×Int}(h:Tp H v d):Rep H (jq d) v:=by
 obtain⟨t,e,q⟩:=h
 rw[jq,Rep]
 refine⟨t,_,e,q,?_⟩
 rw[Reps]
 refine⟨_,_,rfl,by rw[Rep],?_⟩
 rw[Reps]
 refine⟨_,_,rfl,by rw[Rep],?_⟩
 rw[Reps]
 exact⟨_,_,rfl,by rw[Rep],by rw[Reps]⟩
theorem w4{H:Hp}:∀{xs:List V} {ds:List (Int×Int×Int)},jP H xs ds->Reps H (ds.map jq) xs
 |_,_,.nil=>by rw[bJ,Reps]
 |_,_,.cons r t=>by
  rw[ai,Reps]
  exact⟨_,_,rfl,Ao r,w4 t⟩
theorem Hw{ts:List (Int×Int)}{q:Int×Int}{p:Int×Int×Int}{r:List (Int×Int×Int)}(h:jQ ts q ((p::r).map jq)=some (p::r)):1<=p.2.2/\(p.1,p.2.1)∈ts/\lV [p.1,p.2.1] [q.1,q.2]=false/\jQ ts (p.1,p.2.1) (r.map jq)=some r:=by
 have dO:l9 (jq p)=if 1<=p.2.2 then some p else none:=rfl
 rw[ai,jQ,dO]at h
 by_cases c:1<=p.2.2
 ·rw[aH c]at h
  dsimp only at h
  by_cases d:(p.1,p.2.1)∈ts/\lV [p.1,p.2.1] [q.1,q.2]=false
  ·rw[aH d]at h
   refine⟨c,d.1,d.2,?_⟩
   cases e:jQ ts (p.1,p.2.1) (r.map jq)with
   |none=>rw[e]at h;cases h
   |some z=>rw[e]at h;cases h;rfl
  ·rw[aE d]at h;cases h
 ·rw[aE c]at h;cases h
def y9:Sp:=fun vs H Q _=>∃v ps ts l zs ds,vs=[v,.ref l]/\jbz H v ps ts/\WebOk ps ts/\H l=some (.lst zs)/\jP H zs ds/\ds.length<=200/\jQ ts (-1,-1) (ds.map jq)=some ds/\lX ps ds=true/\∀H',Same H H'->Q (.bl true) H'
theorem JD(B:Blt mg)(D:DefAt K mg "_law_are_dues" (ig 60) ["_law_web_here","_law_thing"] f fd)(Dqj:DefAt K mg "_law_whole" (ig 58) ["_law_thing"] fqj dqj)(Gqj:FnOk P w K mg base iu 1 fqj dqj ["_law_thing"] nT):FnOk P w K mg base iu 2 f fd ["_law_web_here","_law_thing"] y9:=by
 have sc:FnScope ["_law_web_here","_law_thing","_law_left","_law_place","_law_price","_law_last","_law_one"] ["_law_web_here","_law_thing"] (iN (ig 60)):=by walk_at "SC"
 refine D.F.ok sc (fun vs H Q E h=>?_) (fun cdv A outer s H vs Q E hr h=>?_)
 ·obtain⟨v,ps,ts,l,zs,ds,rfl,_⟩:=h
  rfl
 obtain⟨v,ps,ts,l,zs,ds,rfl,hw,wk,el,hz,hl,hdu,hpd,h⟩:=h
 obtain⟨u,pa,ta,xs,ys,rfl,hu1,hpa,hta,hxs,hys⟩:=hw
 have hxl:=ao hxs
 have hzl:=ao hz
 have hu:=iX hr
 have hu0:_<PySem.cLine:=au hu
 refine⟨_,(ik (i7 (jy (jz (iU (kP .lst) rfl B.isinstance aS (h8 (qv 1) (h8 (kQ (v:=.ty "list") rfl B.list bH rfl) ic))))) (iw (iG jk)) i8) (ik (iH (i:=2) sc.nd rfl (Or.inl rfl) pG) (ik (j0 ba rfl (jg (il ip (qv 0) h9 (fun _ _=>rfl))) (jJ (n:=2) rfl (iO (iE (i:=3) sc.nd rfl (Or.inl rfl)) (iO (iE (i:=4) sc.nd rfl (Or.inl rfl)) jK))) (iw (mx hu (qv 2) (qv 3) (iQ lK h9 (qv 4))))) (ik (iH (i:=5) sc.nd rfl (Or.inl rfl) (jw (h8 (kZ k6 h9) (h8 (kZ k6 h9) ic)))) (ik (j0 ba rfl (jg (qv 1)) (iE (i:=6) sc.nd rfl (Or.inl rfl)) (ik (i7 (PW.pt (jS (jy (jz (iU (kP .tup) rfl B.isinstance aS (h8 (qv 6) (h8 (kQ (v:=.ty "tuple") rfl B.tuple cI rfl) ic))))) (ku (iV mm (iU kc rfl B.len bu (h8 (qv 6) ic)) h9 (iL _))))) (iw (iG jk)) i8) (ik (i7 (iV (mv hr.units) (jU (CpScope.of (N:=["_law_part"]) (src:=[none]) (by rfl)) rfl (sh (qv 6)) (fun _ _ _ _=>(iE (i:=0) (iS (l:=["_law_part"]) (by rfl)) rfl (Or.inl rfl))) (fun _ _ _ _=>(k8 (jy (jz (iF Gqj (hr.mono (by decide)) rfl Dqj.m Dqj.F.kp Dqj.b .nil iD (h8 (qv 0) ic)))))) (fun _ _ _ _=>(qv 0))) (kL ic) (iL _)) (iw (iG jk)) i8) (ik (i7 (PW.pt (jS (iV mn (il ip (qv 6) h9 (fun _ _=>rfl)) h9 (iL _)) (jS (iV (Bz hr.units) (lE mq (qv 6) lA (lB h9)) (il ip (qv 0) h9 (fun _ _=>rfl)) (by with_unfolding_all rfl)) (ku (iV (yw hu0) (lE mq (qv 6) lA (lB h9)) (qv 5) (iL _)))))) (iw (iG jk)) i8) (ik (iH (i:=5) sc.nd rfl (Or.inl rfl) (lE mq (qv 6) lA (lB h9))) (ik (mx hu (qv 2) (il ip (qv 6) h9 (fun _ _=>rfl)) (iQ rS (kF hu (qv 2) (il ip (qv 6) h9 (fun _ _=>rfl)) (fun _ _=>rfl)) (il ip (qv 6) h9 (fun _ _=>rfl)))) (iw (mx hu (qv 2) (il ip (qv 6) h9 (fun _ _=>rfl)) (iQ rS (kF hu (qv 2) (il ip (qv 6) h9 (fun _ _=>rfl)) (fun _ _=>rfl)) (il ip (qv 6) h9 (fun _ _=>rfl))))))))))) (iw (iG (kG rD (G6 (Gy rfl) rfl B.min gb (h8 (IQ rfl rfl B.list bH (qv 2)) ic) (Fw h9 D9)) h9 (iL _))))))))),?_⟩
 have hkd:=lL (show Rep H (.lst (ds.map jq)) (.ref l) by rw[Rep];exact⟨l,zs,rfl,el,w4 hz⟩)
 have hpl:=wk.pl
 have nd:(ps.map (·.1)).Nodup:=wk.p.nodup
 refine iz fun R hR=>?_
 simp_arith[hkd,jZ,j5]
 subst hR
 refine iz fun R hR=>?_
 walk_at "D"
 intro d hd0
 have s1:=iq hd0 (.dK [])
 have ed:upd H d (.dK []) d=some (.dK []):=ie
 generalize upd H d (.dK [])=H1 at s1 ed
 subst hR
 refine iz fun R hR=>?_
 refine ky (i6 K pa) H1 (fun R' hR'=>?_) (lD (K:=K) (a:=pa) (xs:=xs) (fun i σ Hc=>∃w1 w2,σ=[some (.ref u),some (.ref l),some (.ref d),w1,w2,none,none]/\Same H Hc/\Hc d=some (.dK (kr (ps.take i) fun _=>0))) ⟨none,none,rfl,s1,ed⟩ (fun i σ Hc _ ⟨_,_,_,s2,_⟩=>SqL.of (s2 _ _ hpa)) ?_ ?_)
 ·unfold jc
  simp_arith[ir,s1 _ _ hu1,iJ]
  exact⟨pa,rfl,⟨_,SqL.of (s1 _ _ hpa)⟩,hR'⟩
 ·rintro i x σ Hc hx ⟨w1,w2,rfl,s2,ed2⟩
  obtain⟨p,hp,px⟩:=jl hxs hx
  obtain⟨b,rfl,hb⟩:=px.same s2
  simp_arith[hb,ed2]
  have hi:=(aq.mp hp).1
  refine⟨mD (by decide) (by decide),?_,_,_,rfl,iW s2 hd0,?_⟩
  ·unfold kr
   rw[aa,aO]
   exact iM (by lia)
  ·have hn:iK (kr (ps.take i) fun _=>0) (Sum.inl p.1:ij)=none:=by
    have e:(kr (ps.take i) fun _=>0)=i5 ((ps.take i).map fun p=>(p.1,2*p.2-0)):=by
     unfold kr i5
     rw[bw]
     rfl
    rw[e]
    refine Ar ?_
    rw[bw]
    show p.1∉(ps.take i).map (·.1)
    rw[List.map_take]
    exact B3 nd (by rw[aJ,hp];rfl)
   rw[ie,tL _ hn,je hp]
   unfold kr
   rw[ah,List.map_singleton,Int.sub_zero]
 rintro σ H2 ⟨w1,w2,rfl,s2,ed2⟩
 rw[hxl,aG]at ed2
 refine(?_:R _ _ _)
 subst hR
 refine iz fun R hR=>?_
 walk_at "D"
 intro pl0 hp0
 have s3:=s2.trans (iq hp0 (.tup [.int (-1),.int (-1)]))
 have ed3:=iq hp0 (.tup [.int (-1),.int (-1)]) _ _ ed2
 have ep:upd H2 pl0 (.tup [.int (-1),.int (-1)]) pl0=some (.tup [.int (-1),.int (-1)]):=ie
 generalize upd H2 pl0 (.tup [.int (-1),.int (-1)])=H3 at s3 ed3 ep
 subst hR
 refine iz fun R hR=>?_
 refine ky (i6 K l) H3 (fun R' hR'=>?_) (lD (K:=K) (a:=l) (xs:=zs) (fun i σ Hc=>∃v4 pl q,σ=[some (.ref u),some (.ref l),some (.ref d),w1,w2,some (.ref pl),v4]/\Same H Hc/\Hc d=some (.dK (kr ps (iZ (ds.take i))))/\Hc pl=some (.tup [.int q.1,.int q.2])/\jQ ts q ((ds.drop i).map jq)=some (ds.drop i)) ⟨none,pl0,(-1,-1),rfl,s3,ed3,ep,hdu⟩ (fun i σ Hc _ ⟨_,_,_,_,s3,_⟩=>SqL.of (s3 _ _ el)) ?_ ?_)
 ·unfold jc
  walk_at "D"
  exact⟨l,rfl,⟨_,SqL.of (s3 _ _ el)⟩,hR'⟩
 ·rintro i x σ Hc hx ⟨v4,pl,q,rfl,s4,ed4,epl,hdo⟩
  obtain⟨p,hp,px⟩:=jl hz hx
  obtain⟨t,rfl,et⟩:=id px
  rw[nh hp]at hdo
  obtain⟨c1,cm,cl,hdo⟩:=Hw hdo
  have etc:=s4 _ _ et
  have hkx:=lL (Ao (H:=Hc) (v:=.ref t) (d:=p) ⟨t,rfl,etc⟩)
  simp only[mY,List.set_cons_zero,List.set_cons_succ]
  refine iz fun R9 hR9=>?_
  simp_arith[hkx,jZ,j5,jq,ir,etc]
  rw[aE (by simp)]
  subst hR9
  refine iz fun R9 hR9=>?_
  walk_at "D"
  refine jx (pO K t) Hc (fun R hR=>?_) (fun z hz0=>ju 3 (fun i σ' Hd=>∃w1,σ'=[w1]/\Same Hc Hd/\Hd z=some (.lst [])) ⟨none,rfl,iq hz0 _,ie⟩ ?_ ?_)
  ·unfold qR
   walk_at "D"
   exact⟨t,rfl,⟨_,SqT.of etc⟩,hR⟩
  ·rintro j σ' Hd hj ⟨w3,rfl,s7,ez⟩
   obtain⟨n,x1⟩:∃n:Int,([.int p.1,.int p.2.1,.int p.2.2]:List V)[j]? =some (.int n):=by
    have:j=0\/j=1\/j=2:=by lia
    rcases this with rfl|rfl|rfl
    ·exact⟨_,rfl⟩
    ·exact⟨_,rfl⟩
    ·exact⟨_,rfl⟩
   refine⟨⟨_,_,SqT.of (s7 _ _ etc),x1⟩,?_⟩
   rintro y H' ⟨rfl,hy⟩
   have E1:=aD (x1.symm.trans (hy _ (SqT.of (s7 _ _ etc))))
   subst E1
   walk_at "D"
   refine⟨_,_,rfl,lL (vS H' n),?_⟩
   simp_arith[jZ,lZ]
   exact⟨_,rfl,s7,ez⟩
  rintro σ' Hd ⟨w3,rfl,s7,ez⟩
  refine⟨⟨_,SqT.of (s7 _ _ etc),aF _⟩,?_⟩
  walk_at "D"
  intro e he
  have s9:=iq he (.lst [])
  have ee:upd Hd e (.lst []) e=some (.lst []):=ie
  have ez9:=s9 _ _ ez
  generalize upd Hd e (.lst [])=He at s9 ee ez9
  have sA:=s7.trans s9
  have sB:=s4.trans sA
  refine⟨.lst [],.lst [],(by rw[Rep];exact⟨z,[],rfl,ez9,rfl⟩),(by rw[Rep];exact⟨e,[],rfl,ee,rfl⟩),(by decide),.inl ⟨_,_,rfl,rfl⟩,?_⟩
  rw[kR]
  have etB:=sB _ _ et
  have edB:=sA _ _ ed4
  have epB:=sA _ _ epl
  have euB:=sB _ _ hu1
  have etaB:=sB _ _ hta
  have hyB:=Prs.same sB hys
  clear s7 ez ez9 s9 ee sA ed4 epl etc hkx he
  walk_at "D"
  subst hR9
  refine iz fun R9 hR9=>?_
  simp_arith[ir,etB,ki]
  rw[az (show ¬p.2.2<1 by lia),aE (by decide)]
  refine⟨by decide,fun k1 hk1=>?_⟩
  rw[nC]
  have u1:=iq hk1 (.tup [.int p.1,.int p.2.1])
  have e1:upd He k1 (.tup [.int p.1,.int p.2.1]) k1=some (.tup [.int p.1,.int p.2.1]):=ie
  generalize upd He k1 (.tup [.int p.1,.int p.2.1])=H5 at u1 e1
  simp only[ir,u1 _ _ euB,iT]
  refine⟨jd (p.1,p.2.1),ta,ys,ts.map jd,Pr.rep ⟨k1,rfl,e1⟩,rfl,u1 _ _ etaB,(Prs.same u1 hyB).reps,by have:=nX ts;lia,?_⟩
  rw[aH rfl,yD,af cm]
  have et5:=u1 _ _ etB
  dsimp only[Bool.not_true]
  rw[aE (by decide),et5]
  refine⟨nJ (.int p.1) (.int p.2.1) (.int p.2.2),fun k2 hk2=>?_⟩
  rw[nC]
  have u2:=u1.trans (iq hk2 (.tup [.int p.1,.int p.2.1]))
  have e2:upd H5 k2 (.tup [.int p.1,.int p.2.1]) k2=some (.tup [.int p.1,.int p.2.1]):=ie
  generalize upd H5 k2 (.tup [.int p.1,.int p.2.1])=H6 at u2 e2
  simp only[ux,e2,u2 _ _ epB]
  rw[aE (by rw[cl];decide)]
  subst hR9
  refine iz fun R9 hR9=>?_
  simp_arith[u2 _ _ etB]
  refine⟨nJ (.int p.1) (.int p.2.1) (.int p.2.2),fun k3 hk3=>?_⟩
  rw[nC]
  have u3:=u2.trans (iq hk3 (.tup [.int p.1,.int p.2.1]))
  have e3:upd H6 k3 (.tup [.int p.1,.int p.2.1]) k3=some (.tup [.int p.1,.int p.2.1]):=ie
  generalize upd H6 k3 (.tup [.int p.1,.int p.2.1])=H7 at u3 e3
  obtain⟨_,m1,m2⟩:=wk.t.in _ cm
  obtain⟨p1,hp1,f1⟩:=av.mp (lz m1)
  obtain⟨p2,hp2,f2⟩:=av.mp (lz m2)
  dsimp only at f1 f2
  have g1:=Bv nd (f:=iZ (ds.take i)) hp1
  rw[f1]at g1
  have et7:=u3 _ _ etB
  have ed7:=u3 _ _ edB
  have w1:=Bu nd (f:=iZ (ds.take i)) hp1 p.2.2
  rw[f1]at w1
  have hgl:∀g:Int->Int,(kr ps g).length<sizeLine:=fun g=>by
   unfold kr
   rw[aa]
   exact iM (by lia)
  subst hR9
  refine iz fun R9 hR9=>?_
  simp_arith[ir,et7,ed7,iJ,ki,g1]
  rw[w1]
  refine⟨hgl _,?_⟩
  have et8:upd H7 d (.dK (kr ps fun m=>iZ (ds.take i) m+(if p.1=m then p.2.2 else 0))) t=some (.tup [.int p.1,.int p.2.1,.int p.2.2]):=by
   rw[ix (iI et hd0)]
   exact et7
  have ed8:upd H7 d (.dK (kr ps fun m=>iZ (ds.take i) m+(if p.1=m then p.2.2 else 0))) d=some (.dK (kr ps fun m=>iZ (ds.take i) m+(if p.1=m then p.2.2 else 0))):=ie
  have g2:=Bv nd (f:=fun m=>iZ (ds.take i) m+(if p.1=m then p.2.2 else 0)) hp2
  rw[f2]at g2
  have w2':=Bu nd (f:=fun m=>iZ (ds.take i) m+(if p.1=m then p.2.2 else 0)) hp2 p.2.2
  rw[f2]at w2'
  have nk:k3≠d:=fun z=>by rw[z,ed7]at e3;cases e3
  subst hR9
  simp_arith[ir,et8,ed8,iT,ki,g2]
  refine⟨hgl _,_,k3,(p.1,p.2.1),rfl,iW (iW (sB.trans u3) hd0) hd0,?_,?_,hdo⟩
  ·rw[ie]
   refine bV (fun z=>some (HO.dK z)) (Eq.trans w2' ?_)
   have ef:(fun m=>iZ (ds.take i) m+(if p.1=m then p.2.2 else 0)+(if p.2.1=m then p.2.2 else 0))=iZ (ds.take (i+1)):=by
    funext m
    rw[je hp]
    unfold iZ
    rw[ah,cG]
    simp
    lia
   rw [<- ef]
  ·rw[ix nk,ix nk]
   exact e3
 rintro σ Hc ⟨v4,pl,q,rfl,s4,ed4,epl,hdo⟩
 rw[hzl,aG]at ed4
 refine(?_:R _ _ _)
 subst hR
 simp_arith[xR,ed4]
 refine⟨d,_,rfl,ed4,fun z hz=>⟨z,ps.map (fun p=>2*p.2-iZ ds p.1),0,rfl,rfl,?_,fun m m1 m2 m3=>?_⟩⟩
 ·rw[ie]
  unfold kr
  rw[bw,bw]
  rfl
 ·show Q (.bl (decide (m ≥ 0))) _
  rw[HP m1 m2 m3,hpd]
  exact h _ (s4.trans (iq hz _))
theorem JY{ps:List (Int×Int)}{p:Int×Int}(nd:(ps.map (·.1)).Nodup)(h:p∈ps):ko ps p.1=p.2:=by
 unfold ko
 rw[nV nd h]
theorem BA:∀{a b:List (Int×Int)},a.map jd=b.map jd->a=b
 |[],[],_=>rfl
 |[],_::_,h=>by cases h
 |_::_,[],h=>by cases h
 |p::a,q::b,h=>by
  rw[ai,ai]at h
  injection h with h1 h2
  unfold jd at h1
  injection h1 with h1
  injection h1 with h3 h4
  injection h4 with h4
  injection h3 with h3
  injection h4 with h4
  rw[BA h2,gL (x:=p) (y:=q) h3 h4]
theorem BI:∀{a b:List (Int×Int×Int)},a.map jq=b.map jq->a=b
 |[],[],_=>rfl
 |[],_::_,h=>by cases h
 |_::_,[],h=>by cases h
 |p::a,q::b,h=>by
  rw[ai,ai]at h
  injection h with h1 h2
  unfold jq at h1
  injection h1 with h1
  injection h1 with h3 h4
  injection h4 with h4 h5
  injection h5 with h5
  injection h3 with h3
  injection h4 with h4
  injection h5 with h5
  rw[BI h2,gL (x:=p) (y:=q) h3 (gL h4 h5)]
def A4:Sp:=fun vs H Q _=>∃v ps ts g l1 l2 z1 z2 hs qs,vs=[v,.ref g]/\jbz H v ps ts/\WebOk ps ts/\H g=some (.tup [.ref l1,.ref l2])/\H l1=some (.lst z1)/\H l2=some (.lst z2)/\Prs H z1 hs/\jP H z2 qs/\qs.length<=200/\mw ps ts (.tup [.lst (hs.map jd),.lst (qs.map jq)])=true/\∀H',Same H H'->Q (.bl true) H'
theorem IJ(B:Blt mg)(D:DefAt K mg "_law_lets" (ig 61) ["_law_web_here","_law_thing"] f fd)(Dzb:DefAt K mg "_law_are_halves" (ig 59) ["_law_web_here","_law_thing"] fzb dzb)(Gzb:FnOk P w K mg base iu 2 fzb dzb ["_law_web_here","_law_thing"] zg)(Dza:DefAt K mg "_law_are_dues" (ig 60) ["_law_web_here","_law_thing"] fza dza)(Gza:FnOk P w K mg base iu 2 fza dza ["_law_web_here","_law_thing"] y9):FnOk P w K mg base iu 3 f fd ["_law_web_here","_law_thing"] A4:=by
 have sc:FnScope ["_law_web_here","_law_thing","_law_cost","_law_k"] ["_law_web_here","_law_thing"] (iN (ig 61)):=by walk_at "SC"
 refine D.F.ok sc (fun vs H Q E h=>?_) (fun cdv A outer s H vs Q E hr h=>?_)
 ·obtain⟨v,ps,ts,g,l1,l2,z1,z2,hs,qs,rfl,_⟩:=h
  rfl
 obtain⟨v,ps,ts,g,l1,l2,z1,z2,hs,qs,rfl,hw,wk,ea,el1,el2,p1,p2,hql,pap,h⟩:=h
 have hu:=iX hr
 have hu0:_<PySem.cLine:=au hu
 refine⟨_,(ik (i7 (PW.pt (jS (jy (jz (iU (kP .tup) rfl B.isinstance aS (h8 (qv 1) (h8 (kQ (v:=.ty "tuple") rfl B.tuple cI rfl) ic))))) (ku (iV mm (iU kc rfl B.len bu (h8 (qv 1) ic)) h9 (iL _))))) (iw (iG jk)) i8) (ik (i7 (PW.pt (jS (jy (jz (iF Gzb (hr.mono (by decide)) rfl Dzb.m Dzb.F.kp Dzb.b .nil iD (h8 (qv 0) (h8 (il ip (qv 1) h9 (fun _ _=>rfl)) ic))))) (ku (jy (jz (iF Gza (hr.mono (by decide)) rfl Dza.m Dza.F.kp Dza.b .nil iD (h8 (qv 0) (h8 (il ip (qv 1) h9 (fun _ _=>rfl)) ic)))))))) (iw (iG jk)) i8) (ik (iH (i:=2) sc.nd rfl (Or.inl rfl) h9) (ik (j0 ba rfl (oO rfl B.range (h8 (iU kc rfl B.len bu (h8 (il ip (qv 0) h9 (fun _ _=>rfl)) ic)) ic)) (iE (i:=3) sc.nd rfl (Or.inl rfl)) (iw (iH (i:=2) sc.nd rfl (Or.inl rfl) (iQ jM (qv 2) (iQ lK (il ip (il ip (il ip (qv 0) h9 (fun _ _=>rfl)) (qv 3) (fun _ _=>rfl)) h9 (fun _ _=>rfl)) (il ip (il ip (il ip (qv 1) h9 (fun _ _=>rfl)) (qv 3) (fun _ _=>rfl)) h9 (fun _ _=>rfl))))))) (iw (iG (kG kA (iU (qh rfl) rfl B.sum dH (h8 (jU (CpScope.of (N:=["_law_one"]) (src:=[none]) (by rfl)) rfl (jg (il ip (qv 1) h9 (fun _ _=>rfl))) (fun _ _ _ _=>(iE (i:=0) (iS (l:=["_law_one"]) (by rfl)) rfl (Or.inl rfl))) (fun _ _ _ _=>kf) (fun _ _ _ _=>(il ip (qv 0) h9 (fun _ _=>rfl)))) ic)) (qv 2) (iL _)))))))),?_⟩
 have hkd:=lL (show Rep H (.tup [.lst (hs.map jd),.lst (qs.map jq)]) (.ref g) by
  rw[Rep]
  refine⟨g,_,rfl,ea,?_⟩
  rw[Reps]
  refine⟨_,_,rfl,(by rw[Rep];exact⟨l1,z1,rfl,el1,Prs.reps p1⟩),?_⟩
  rw[Reps]
  exact⟨_,_,rfl,(by rw[Rep];exact⟨l2,z2,rfl,el2,w4 p2⟩),(by rw[Reps])⟩)
 rw[xf]at pap
 unfold mH at pap
 dsimp only at pap
 split at pap
 case h_2=>cases pap
 rename_i hs' qs' ho qo
 obtain⟨a1,hk,hrg⟩:=tZ ho
 have a2:=(um qo).1
 have a1:=BA a1
 have a2:=BI a2
 subst a1 a2
 have hti:=(dW.mp pap).1
 have hpa:=(dW.mp (dW.mp pap).2).1
 have hsum:=bp (dW.mp (dW.mp pap).2).2
 have hzl:=ao p2
 have hz1:=ao p1
 have hpl:hs.length=ps.length:=by
  have:=bV List.length hk
  rw[aa,aa]at this
  exact this
 have h40:=wk.pl
 refine iz fun R hR=>?_
 simp_arith[hkd,jZ,j5,ir,ea]
 rw[aE (by simp)]
 subst hR
 refine iz fun R hR=>?_
 simp_arith[ir,ea,iJ,iT]
 refine⟨_,ps,ts,l1,z1,hs,rfl,hw,wk,el1,p1,hk,hrg,hti,fun H1 s1=>?_⟩
 simp_arith[ir,s1 _ _ ea,iT]
 refine⟨_,ps,ts,l2,z2,qs,rfl,hw.same s1,wk,s1 _ _ el2,jD s1.tups p2,hql,qo,hpa,fun H2 s2=>?_⟩
 walk_at "D"
 have s3:=s1.trans s2
 obtain⟨u,pa,ta,xs,ys,rfl,hu1,hpl0,hta,hxs,hys⟩:=hw
 have hxl:=ao hxs
 subst hR
 refine iz fun R hR=>?_
 walk_at "D"
 subst hR
 refine iz fun R hR=>?_
 refine ky (lO 0 xs.length) H2 (fun R' hR'=>?_) (oN (n:=xs.length) (fun i σ Hc=>∃w1,σ=[some (.ref u),some (.ref g),some (.int (((hs.take i).map fun h=>ko ps h.1*h.2).sum)),w1]/\Same H Hc) ⟨none,rfl,s3⟩ ?_ ?_)
 ·unfold oo
  simp_arith[ir,s3 _ _ hu1,iJ,s3 _ _ hpl0]
  exact⟨_,rfl,by lia,by lia,by simpa using hR'⟩
 ·rintro i σ Hc hi ⟨w1,rfl,s4⟩
  have hx:xs[i]? =some (xs[i]'(by lia)):=gE _
  have hy:z1[i]? =some (z1[i]'(by lia)):=gE _
  obtain⟨p,hp,px⟩:=jl hxs hx
  obtain⟨k,hk',pk⟩:=jl p1 hy
  have ax:jb xs (i:Int)=some _:=k7 hx
  have ay:jb z1 (i:Int)=some _:=k7 hy
  rw[eT]
  generalize xs[i]=x at hx px ax
  generalize z1[i]=y at hy pk ay
  obtain⟨b1,rfl,eb1⟩:=px.same s4
  obtain⟨b2,rfl,eb2⟩:=pk.same s4
  simp_arith[ir,s4 _ _ hu1,iJ,s4 _ _ hpl0,ax,eb1,iT,s4 _ _ ea,s4 _ _ el1,ay,eb2]
  obtain⟨k1,k2⟩:=hrg k (aA hk')
  have ek:k.1=p.1:=by
   have h1:(hs.map (·.1))[i]? =some k.1:=by rw[aJ,hk'];rfl
   have h2:(ps.map (·.1))[i]? =some p.1:=by rw[aJ,hp];rfl
   rw[hk,h2]at h1
   exact(aD h1).symm
  refine⟨qX (by lia) (by lia),some (.int i),?_,s4⟩
  rw[je hk',ah,cG,List.map_singleton,List.sum_cons,List.sum_nil,eU,ek,JY wk.p.nodup (aA hp)]
 rintro σ Hc ⟨w1,rfl,s4⟩
 rw[cY (by lia)]
 refine(?_:R _ _ _)
 subst hR
 walk_at "D"
 refine jx (i6 K l2) Hc (fun R hR=>?_) (fun z hz0=>ju qs.length (fun i σ' Hd=>∃w1,σ'=[w1]/\Same Hc Hd/\Hd z=some (.lst (((qs.take i).map (·.2.2)).map V.int))) ⟨none,rfl,iq hz0 _,ie⟩ ?_ ?_)
 ·unfold jc
  simp_arith[ir,s4 _ _ ea,iT]
  exact⟨l2,rfl,⟨_,SqL.of (s4 _ _ el2)⟩,hR⟩
 ·rintro i σ' Hd hi ⟨w1,rfl,s7,ez⟩
  have x1:z2[i]? =some (z2[i]'(by lia)):=gE _
  have s8:=s4.trans s7
  refine⟨⟨_,_,SqL.of (s8 _ _ el2),x1⟩,?_⟩
  rintro y H' ⟨rfl,hy⟩
  have E1:=aD (x1.symm.trans (hy _ (SqL.of (s8 _ _ el2))))
  obtain⟨pr,hpr,px⟩:=jl p2 x1
  rw[E1]at px
  obtain⟨b,rfl,hb⟩:=Tp.tups px s8.tups
  simp_arith[ir,hb,ki]
  refine⟨_,ez,?_,_,rfl,iW s7 hz0,?_⟩
  ·rw[aa,aa,aO]
   exact iM (by lia)
  ·rw[ie,je hpr,ah,ah]
   rfl
 ·rintro σ' Hd ⟨w1,rfl,s7,ez⟩
  have s8:=s4.trans s7
  refine⟨⟨_,SqL.of (s8 _ _ el2),by lia⟩,?_⟩
  rw[aG]at ez
  refine⟨z,_,rfl,ez,?_⟩
  rw[hsum]
  walk_at "D"
  show Q (.bl (decide (nH ps hs=nH ps hs))) Hd
  rw[af rfl]
  exact h Hd s8
noncomputable def nr(n:Int)(t:Int×Int):List Int:=if t.1=n then[t.2]else if t.2=n then[t.1]else[]
noncomputable def jv(ts:List (Int×Int))(n:Int):List Int:=ts.flatMap (nr n)
theorem Ia{ts:List (Int×Int)}{j:Nat}{t:Int×Int}(h:ts[j]? =some t)(n:Int):jv (ts.take (j+1)) n=jv (ts.take j) n++nr n t:=by
 unfold jv
 rw[je h,gr]
 simp
theorem wR:∀(ts:List (Int×Int)) (n:Int),(jv ts n).length<=ts.length
 |[],n=>by simp[jv]
 | t::r,n=>by
  have ih:=wR r n
  have e:jv (t::r) n=nr n t++jv r n:=by simp[jv]
  have e2:(nr n t).length<=1:=by
   unfold nr
   split
   ·simp
   ·split<;>simp
  rw[e,aK,List.length_cons]
  lia
noncomputable def kz:List (Int×Int)->List Addr->List (ij×V)
 |p::r,a::s=>(Sum.inl p.1,V.ref a)::kz r s
 |_,_=>[]
theorem zM:∀{ps:List (Int×Int)} {as:List Addr} {p:Int×Int} {a:Addr},ps.length=as.length->kz (ps++[p]) (as++[a])=kz ps as++[(Sum.inl p.1,V.ref a)]
 |[],[],_,_,_=>rfl
 |[],_::_,_,_,h=>by simp at h
 |_::_,[],_,_,h=>by simp at h
 |q::r,b::s,p,a,h=>by
  have ih:=zM (ps:=r) (as:=s) (p:=p) (a:=a) (by simpa using h)
  show(Sum.inl q.1,V.ref b)::kz (r++[p]) (s++[a])=_
  rw[ih]
  rfl
theorem sJ:∀{ps:List (Int×Int)} {as:List Addr},ps.length=as.length->(kz ps as).map (·.1)=ps.map fun p=>(Sum.inl p.1:ij)
 |[],[],_=>rfl
 |[],_::_,h=>by simp at h
 |_::_,[],h=>by simp at h
 |q::r,b::s,h=>by
  show(Sum.inl q.1:ij)::(kz r s).map (·.1)=_
  rw[sJ (by simpa using h)]
  rfl
theorem r6:∀{ps:List (Int×Int)} {as:List Addr} {i:Nat} {p:Int×Int} {a:Addr},(ps.map (·.1)).Nodup->ps[i]? =some p->as[i]? =some a->iK (kz ps as) (Sum.inl p.1:ij)=some (.ref a)
 |[],_,i,_,_,_,h,_=>by simp at h
 |_::_,[],i,_,_,_,_,h=>by simp at h
 | q::r,b::s,i,p,a,hn,h1,h2=>by
  rw[ai]at hn
  unfold iK
  show Option.map _ (List.find? _ ((Sum.inl q.1,V.ref b)::kz r s))=_
  rw[List.find?_cons]
  cases i with
  |zero=>
   simp at h1 h2
   subst h1 h2
   simp
  |succ i=>
   have hp:p∈r:=aA (by simpa using h1)
   have hne:q.1≠p.1:=fun z=>(bO.mp hn).1 (by rw[z];exact cg hp)
   have hd:decide ((Sum.inl q.1:ij)=Sum.inl p.1)=false:=az fun z=>hne (bL z)
   dsimp only
   rw[hd]
   exact r6 (bO.mp hn).2 (i:=i) (by simpa using h1) (by simpa using h2)
theorem AE{ps:List (Int×Int)}{n:Int}(h:ja (i5 ps) n=true):∃(i:Nat) (p:Int×Int),ps[i]? =some p/\p.1=n:=by
 unfold ja iK i5 at h
 rw[dP,gM]at h
 obtain⟨kv,hm,he⟩:=h
 obtain⟨p,hp,e⟩:=av.mp hm
 subst e
 obtain⟨i,hi,e2⟩:=bq.mp hp
 refine⟨i,p,by rw[gE hi,e2],?_⟩
 exact bL (bp he)
theorem TiOk.ats{kvs:List (ij×V)}:∀{ts:List (Int×Int)} {q:Int×Int},TiOk kvs q ts->∀t∈ts,t.1<t.2/\ja kvs t.1=true/\ja kvs t.2=true
 |[],_,_,_,h=>by cases h
 |p::r,q,h,t,ht=>by
  rcases aR.mp ht with e|ht
  ·rw[e];exact⟨h.1.2.1,h.1.2.2.1,h.1.2.2.2⟩
  ·exact TiOk.ats h.2 t ht
def uQ(H:Hp)(ps ts:List (Int×Int))(as:List Addr):Prop:=∀(i:Nat) (p:Int×Int) (a:Addr),ps[i]? =some p->as[i]? =some a->H a=some (.lst ((jv ts p.1).map V.int))
def wY:Sp:=fun vs H Q _=>∃v ps ts,vs=[v]/\jbz H v ps ts/\WebOk ps ts/\∀d as H',H d=none->Same H H'->H' d=some (.dK (kz ps as))->as.length=ps.length->uQ H' ps ts as->Q (.ref d) H'
theorem tH{α:Type}{l:List α}(h:l.Nodup){i j:Nat}{a b:α}(h1:l[i]? =some a)(h2:l[j]? =some b)(hij:i≠j):a≠b:=by
 intro e
 subst e
 obtain⟨p1,q1⟩:=aq.mp h1
 obtain⟨p2,q2⟩:=aq.mp h2
 exact hij ((fN h).mp (q1.trans q2.symm))
theorem IM(B:Blt mg)(D:DefAt K mg "nears_in" (ig 27) ["web"] f fd):FnOk P w K mg base iu 1 f fd ["web"] wY:=by
 have sc:FnScope ["web","nears","one","other"] ["web"] (iN (ig 27)):=by walk_at "SC"
 refine D.F.ok sc (fun vs H Q E h=>?_) (fun cdv A outer s H vs Q E hr h=>?_)
 ·obtain⟨v,ps,ts,rfl,_⟩:=h
  rfl
 obtain⟨v,ps,ts,rfl,hw,wok,h⟩:=h
 obtain⟨x,pa,ta,xs,ys,rfl,ex,ep,et,pp,pt⟩:=id hw
 have hlx:xs.length=ps.length:=ao pp
 have hly:ys.length=ts.length:=ao pt
 have okl:=wok.pl
 have okt:=wok.tl
 have hnd:=wok.p.nodup
 have hu:=iX hr
 have hu0:_<PySem.cLine:=au hu
 refine⟨_,(ik (iH (i:=1) sc.nd rfl (Or.inl rfl) (lN (pD rfl) rfl B.dict cP (h8 (jU (CpScope.of (N:=["place","price"]) (src:=[none,none]) (by rfl)) rfl (jg (il ip (qv 0) h9 (fun _ _=>rfl))) (fun _ _ _ _=>(jJ (n:=2) rfl (iO (iE (i:=0) (iS (l:=["place","price"]) (by rfl)) rfl (Or.inl rfl)) (iO (iE (i:=1) (iS (l:=["place","price"]) (by rfl)) rfl (Or.inl rfl)) jK)))) (fun _ _ _ _=>kf) (fun _ _ _ _=>(jw (h8 (qv 0) (h8 (kL ic) ic))))) ic))) (ik (j0 ba rfl (jg (il ip (qv 0) h9 (fun _ _=>rfl))) (jJ (n:=2) rfl (iO (iE (i:=2) sc.nd rfl (Or.inl rfl)) (iO (iE (i:=3) sc.nd rfl (Or.inl rfl)) jK))) (ik (jV (kN aY bh bg kS (kF hu (qv 1) (qv 2) (fun _ _=>rfl)) (h8 (qv 3) ic))) (iw (jV (kN aY bh bg kS (kF hu (qv 1) (qv 3) (fun _ _=>rfl)) (h8 (qv 2) ic)))))) (iw (iG (qv 1))))),?_⟩
 walk_at "D"
 refine jx (i6 K pa) H (fun R hR=>?_) (fun l hl0=>ju ps.length (fun i σ' Hc=>∃w1 w2 zs as,σ'=[w1,w2]/\Same H Hc/\Hc l=some (.lst zs)/\as.length=i/\as.Nodup/\(∀a∈as,H a=none/\a≠l/\Hc a=some (.lst []))/\Paired (PairAt Hc) zs (kz (ps.take i) as)) ⟨none,none,[],[],rfl,iq hl0 _,ie,rfl,fu,(fun _ h=>by cases h),.nil⟩ ?_ ?_)
 ·unfold jc
  simp_arith[ir,ex,iJ]
  exact⟨pa,rfl,⟨_,SqL.of ep⟩,hR⟩
 ·rintro i σ' Hc hi ⟨w1,w2,zs,as,rfl,s2,ez,hla,nda,ha,pz⟩
  have x1:xs[i]? =some (xs[i]'(by lia)):=gE _
  have z1:SqL K Hc pa xs:=SqL.of (s2 _ _ ep)
  have hlt:(ps.take i).length=as.length:=by rw[aO];lia
  have hlz:zs.length=(kz (ps.take i) as).length:=ao pz
  have hlz2:zs.length<=i:=by
   have e:=bV List.length (sJ hlt)
   rw[aa,aa]at e
   lia
  refine⟨⟨_,_,z1,x1⟩,?_⟩
  rintro y H' ⟨rfl,hy⟩
  obtain⟨q,hq,pq⟩:=jl pp (hy _ z1)
  obtain⟨t,rfl,ht⟩:=pq.same s2
  simp_arith[ht]
  intro a1 ha1 t2 ht2
  have na1:a1≠l:=fun z=>by rw[z,ez]at ha1;cases ha1
  have nt2:t2≠a1:=fun z=>by rw[z,ie]at ht2;cases ht2
  have s3:=iq ha1 (.lst [])
  have s4:=iq ht2 (.tup [.int q.1,.ref a1])
  have ez2:=s4 _ _ (s3 _ _ ez)
  have t6:=kx (ys:=zs++[.ref t2]) ez2
  refine⟨zs,ez2,iM (by lia),_,_,zs++[.ref t2],as++[a1],rfl,iW (s2.trans (s3.trans s4)) hl0,(by first|rfl|exact ie),(by rw[aK,hla];rfl),?_,?_,?_⟩
  ·rw[eQ]
   refine⟨nda,(by simp),fun a hm b hb=>?_⟩
   have hb':b=a1:=by simpa using hb
   intro z
   rw[hb']at z
   have:=(ha a hm).2.2
   rw[z,ha1]at this
   cases this
  ·intro a hm
   rcases bz.mp hm with hm|hm
   ·obtain⟨q1,q2,q3⟩:=ha a hm
    refine⟨q1,q2,?_⟩
    rw[ix q2]
    exact s4 _ _ (s3 _ _ q3)
   ·have e:a=a1:=by simpa using hm
    subst e
    refine⟨s2.free ha1,na1,?_⟩
    rw[ix na1]
    exact s4 _ _ ie
  ·rw[je hq,zM hlt]
   refine kg (Paired.mapP pz fun v p q=>?_) ⟨t2,rfl,t6 _ _ rfl ie⟩
   obtain⟨b,e,q⟩:=q
   exact⟨b,e,t6 _ _ rfl (s4 _ _ (s3 _ _ q))⟩
 rintro σ' Hc ⟨w1,w2,zs,as,rfl,s2,ez,hla,nda,ha,pz⟩
 refine⟨⟨_,SqL.of (s2 _ _ ep),by lia⟩,?_⟩
 rw[aG]at pz
 have hlz:zs.length=(kz ps as).length:=ao pz
 have hkk:=sJ (ps:=ps) (as:=as) hla.symm
 have hlz2:zs.length=ps.length:=by
  have e:=bV List.length hkk
  rw[aa,aa]at e
  lia
 simp_arith[ez]
 refine⟨kz ps as,pz,by lia,?_,fun d hd=>?_⟩
 ·rw[hkk]
  have hnd2:=hnd
  unfold List.Nodup at hnd2 ⊢
  rw[df]at hnd2 ⊢
  exact hnd2.imp fun q z=>q (bL z)
 have s3:=iq hd (.dK (kz ps as))
 have ed:upd Hc d (.dK (kz ps as)) d=some (.dK (kz ps as)):=ie
 have hd0:=s2.free hd
 have ha3:∀a∈as,H a=none/\a≠d/\upd Hc d (.dK (kz ps as)) a=some (.lst []):=fun a hm=>by
  obtain⟨q1,q2,q3⟩:=ha a hm
  exact⟨q1,iI q3 hd,s3 _ _ q3⟩
 have s23:=s2.trans s3
 generalize upd Hc d (.dK (kz ps as))=H2 at s23 ed ha3
 clear s3 s2 ez pz ha hlz hd
 refine ky (i6 K ta) H2 (fun R hR=>?_) (lD (K:=K) (a:=ta) (xs:=ys) (fun j σ H3=>∃v1 v2,σ=[some (.ref x),some (.ref d),v1,v2]/\Same H H3/\H3 d=some (.dK (kz ps as))/\uQ H3 ps (ts.take j) as) ⟨none,none,rfl,s23,ed,fun i p a _ h2=>(ha3 a (aA h2)).2.2⟩ (fun i σ H3 _ ⟨_,_,_,s3,_⟩=>SqL.of (s3 _ _ et)) ?_ ?_)
 ·unfold jc
  simp_arith[ir,s23 _ _ ex,iT]
  exact⟨ta,rfl,⟨_,SqL.of (s23 _ _ et)⟩,hR⟩
 ·rintro j y σ H3 hj ⟨v1,v2,rfl,s3,ed3,hN⟩
  obtain⟨q,hq,pq⟩:=jl pt hj
  obtain⟨t,rfl,ht⟩:=pq.same s3
  obtain⟨b1,b2,b3⟩:=wok.t.ats q (aA hq)
  obtain⟨i1,p1,g1,e1⟩:=AE b2
  obtain⟨i2,p2,g2,e2⟩:=AE b3
  have hi1:i1<as.length:=by have:=(aq.mp g1).1;lia
  have hi2:i2<as.length:=by have:=(aq.mp g2).1;lia
  have A1:as[i1]? =some as[i1]:=gE hi1
  have A2:as[i2]? =some as[i2]:=gE hi2
  generalize as[i1]=a1 at A1
  generalize as[i2]=a2 at A2
  have V1:=r6 hnd g1 A1
  have V2:=r6 hnd g2 A2
  have n12:i1≠i2:=fun z=>by rw[z,g2]at g1;cases g1;lia
  have na:a1≠a2:=tH nda A1 A2 n12
  rw[e1]at V1
  rw[e2]at V2
  have M1:=hN i1 p1 a1 g1 A1
  have M2:=hN i2 p2 a2 g2 A2
  have hlj:∀n,(jv (ts.take j) n).length<=120:=fun n=>br (wR _ _) (by rw[aO];lia)
  have nd1:d≠a1:=((ha3 a1 (aA A1)).2.1).symm
  have nd2:d≠a2:=((ha3 a2 (aA A2)).2.1).symm
  simp_arith[ht,ed3,V1]
  refine⟨⟨a1,_,rfl,M1⟩,?_⟩
  simp_arith[M1]
  refine⟨iM (by rw[aa];have:=hlj p1.1;lia),?_⟩
  simp_arith[ix nd1,ed3,V2]
  refine⟨⟨a2,_,rfl,(by rw[ix na.symm];exact M2)⟩,?_⟩
  simp_arith[ix na.symm,M2]
  refine⟨iM (by rw[aa];have:=hlj p2.1;lia),_,_,rfl,?_,?_,?_⟩
  ·intro b o hb
   rw[ix (iI hb (ha3 a2 (aA A2)).1),ix (iI hb (ha3 a1 (aA A1)).1)]
   exact s3 b o hb
  ·rw[ix nd2,ix nd1]
   exact ed3
  ·intro i p a hp ha'
   rw[Ia hq,ah]
   have hpe:∀{k:Nat} {r:Int×Int},ps[k]? =some r->r.1=p.1->k=i:=fun{k r} hr he=>by
    have h1:(ps.map (·.1))[k]? =some r.1:=by rw[aJ,hr];rfl
    have h2:(ps.map (·.1))[i]? =some p.1:=by rw[aJ,hp];rfl
    by_cases z:k=i
    ·exact z
    ·exact absurd he (tH hnd h1 h2 z)
   by_cases c2:i=i2
   ·subst c2
    rw[g2]at hp
    cases hp
    rw[A2]at ha'
    cases ha'
    have e3:nr p2.1 q=[q.1]:=by
     unfold nr
     rw[aE (by lia),aH e2.symm]
    rw[ie,e3]
    rfl
   by_cases c1:i=i1
   ·subst c1
    rw[g1]at hp
    cases hp
    rw[A1]at ha'
    cases ha'
    have e3:nr p1.1 q=[q.2]:=by
     unfold nr
     rw[aH e1.symm]
    rw[ix na,ie,e3]
    rfl
   have n1:a≠a1:=tH nda ha' A1 c1
   have n2:a≠a2:=tH nda ha' A2 c2
   have e3:nr p.1 q=[]:=by
    unfold nr
    rw[aE (fun z=>c1 (hpe g1 (e1.trans z)).symm),aE (fun z=>c2 (hpe g2 (e2.trans z)).symm)]
   rw[ix n2,ix n1,e3,bJ,bb]
   exact hN i p a hp ha'
 ·rintro σ H3 ⟨v1,v2,rfl,s3,ed3,hN⟩
  rw[hly,aG]at hN
  walk_at "D"
  exact h d as H3 hd0 s3 ed3 hla hN
def zj:Sp:=fun vs H Q _=>∃d n kvs,vs=[.ref d,.int n]/\H d=some (.dK kvs)/\Q (.bl (ja kvs n)) H
def zZ:Sp:=fun vs H Q _=>∃d kvs l,∃ns:List Int,vs=[.ref d,.ref l]/\H d=some (.dK kvs)/\H l=some (.tup (ns.map V.int))/\ns.length<=900/\∀H',Same H H'->Q (.bl (ns.all fun n=>ja kvs n)) H'
theorem E4{ns:List Int}{i:Nat}{x:V}(h:(ns.map V.int)[i]? =some x):∃n,ns[i]? =some n/\x= .int n:=by
 rw[aJ]at h
 cases c:ns[i]? with
 |none=>rw[c]at h;cases h
 |some n=>rw[c]at h;exact⟨n,rfl,(aD h).symm⟩
def NrAt(H:Hp)(d:Addr)(ps ts:List (Int×Int)):Prop:=∃as,H d=some (.dK (kz ps as))/\as.length=ps.length/\uQ H ps ts as
theorem NrAt.same{H H':Hp}{d:Addr}{ps ts:List (Int×Int)}(h:NrAt H d ps ts)(s:Same H H'):NrAt H' d ps ts:=by
 obtain⟨as,e,l,n⟩:=h
 exact⟨as,s _ _ e,l,fun i p a h1 h2=>s _ _ (n i p a h1 h2)⟩
theorem yQ{ps:List (Int×Int)}{as:List Addr}(hl:as.length=ps.length){n:Int}:ja (kz ps as) n=decide (n∈ps.map (·.1)):=by
 have hk:=sJ (ps:=ps) (as:=as) hl.symm
 unfold ja iK
 rw[dP,bP,gM,bE]
 constructor
 ·rintro⟨kv,hm,he⟩
  have h1:kv.1∈(kz ps as).map (·.1):=cg hm
  rw[hk]at h1
  obtain⟨p,hp,e⟩:=av.mp h1
  have e2:kv.1=Sum.inl n:=bp he
  rw[e2]at e
  exact av.mpr ⟨p,hp,bL e⟩
 ·intro h
  obtain⟨p,hp,e⟩:=av.mp h
  have h1:(Sum.inl n:ij)∈(kz ps as).map (·.1):=by rw[hk];exact av.mpr ⟨p,hp,by rw[e]⟩
  obtain⟨kv,hm,he⟩:=av.mp h1
  exact⟨kv,hm,by rw[he];simp⟩
theorem NrAt.get{H:Hp}{d:Addr}{ps ts:List (Int×Int)}(h:NrAt H d ps ts)(hn:(ps.map (·.1)).Nodup){n:Int}(m:n∈ps.map (·.1)):∃as a,H d=some (.dK (kz ps as))/\iK (kz ps as) (Sum.inl n:ij)=some (.ref a)/\H a=some (.lst ((jv ts n).map V.int)):=by
 obtain⟨as,e,l,nr⟩:=h
 obtain⟨p,hp,rfl⟩:=av.mp m
 obtain⟨i,hi,e2⟩:=bq.mp hp
 have h1:ps[i]? =some p:=by rw[gE hi,e2]
 have h2:as[i]? =some (as[i]'(by lia)):=gE _
 exact⟨as,_,e,r6 hn h1 h2,nr i p _ h1 h2⟩
theorem IH(B:Blt mg)(D:DefAt K mg "is_place" (ig 25) ["prices","thing"] f fd)(Dqd:DefAt K mg "is_whole" (ig 7) ["thing"] fqd dqd)(Gqd:FnOk P w K mg base iu 1 fqd dqd ["thing"] nT):FnOk P w K mg base iu 2 f fd ["prices","thing"] zj:=by
 have sc:FnScope ["prices","thing"] ["prices","thing"] (iN (ig 25)):=by walk_at "SC"
 refine D.F.ok sc (fun vs H Q E h=>?_) (fun cdv A outer s H vs Q E hr h=>?_)
 ·obtain⟨d,n,kvs,rfl,_⟩:=h
  rfl
 obtain⟨d,n,kvs,rfl,ed,h⟩:=h
 unfold ja at h
 have hu:=iX hr
 have hu0:_<PySem.cLine:=au hu
 refine⟨_,(iw (iG (kO (iF Gqd (hr.mono (by decide)) rfl Dqd.m Dqd.F.kp Dqd.b .nil iD (h8 (qv 1) ic)) (lY (vo (qf hu (qv 1) (qv 0))))))),?_⟩
 walk_at "D"
 refine⟨_,.int,rfl,rfl,?_⟩
 simp_arith[lZ,ed]
 exact h
theorem Jf(B:Blt mg)(D:DefAt K mg "are_places" (ig 26) ["prices","things"] f fd)(Dq9:DefAt K mg "is_place" (ig 25) ["prices","thing"] fq9 dq9)(Gq9:FnOk P w K mg base iu 2 fq9 dq9 ["prices","thing"] zj):FnOk P w K mg base iu 3 f fd ["prices","things"] zZ:=by
 have sc:FnScope ["prices","things"] ["prices","things"] (iN (ig 26)):=by walk_at "SC"
 refine D.F.ok sc (fun vs H Q E h=>?_) (fun cdv A outer s H vs Q E hr h=>?_)
 ·obtain⟨d,kvs,l,ns,rfl,_⟩:=h
  rfl
 obtain⟨d,kvs,l,ns,rfl,ed,el,hl9,h⟩:=h
 have hu:=iX hr
 have hu0:_<PySem.cLine:=au hu
 refine⟨_,(iw (iG (iU (rQ rfl) rfl B.all eZ (h8 (jU (CpScope.of (N:=["thing","prices"]) (src:=[none,some 0]) (by rfl)) rfl (sh (qv 1)) (fun _ _ _ _=>(iE (i:=0) (iS (l:=["thing","prices"]) (by rfl)) rfl (Or.inl rfl))) (fun _ _ _ _=>kf) (fun _ _ _ _=>(iF Gq9 (hr.mono (by decide)) rfl Dq9.m Dq9.F.kp Dq9.b .nil iD (h8 (qv 1) (h8 (qv 0) ic))))) ic)))),?_⟩
 walk_at "D"
 refine jx (pO K l) H (fun R hR=>?_) (fun z hz0=>ju ns.length (fun i σ' Hc=>∃w1,σ'=[w1,some (.ref d)]/\Same H Hc/\Hc z=some (.lst (((ns.take i).map fun n=>ja kvs n).map V.bl))/\i<=900) ⟨none,rfl,iq hz0 _,ie,by lia⟩ ?_ ?_)
 ·unfold qR
  walk_at "D"
  exact⟨l,rfl,⟨_,SqT.of el⟩,hR⟩
 ·rintro i σ' Hc hi ⟨w1,rfl,s2,ez,i9⟩
  have x1:(ns.map V.int)[i]? =some ((ns.map V.int)[i]'(by rw[aa];lia)):=gE _
  refine⟨⟨_,_,SqT.of (s2 _ _ el),x1⟩,?_⟩
  rintro y H' ⟨rfl,hy⟩
  obtain⟨n,hn,rfl⟩:=E4 (hy _ (SqT.of (s2 _ _ el)))
  walk_at "D"
  refine⟨d,n,kvs,rfl,s2 _ _ ed,?_⟩
  refine⟨_,ez,?_,_,rfl,iW s2 hz0,?_,by lia⟩
  ·rw[aa,aa,aO]
   exact iM (by lia)
  ·rw[ie,je hn,ah,ah]
   rfl
 ·rintro σ' Hc ⟨w1,rfl,s2,ez,_⟩
  refine⟨⟨_,SqT.of (s2 _ _ el),by rw[aa];lia⟩,?_⟩
  rw[aG]at ez
  simp_arith[ez]
  refine⟨_,rfl,?_⟩
  rw[fS]
  exact h Hc s2
noncomputable def jB(ps:List (Int×Int))(ds:List (Int×Int×Int)):List Int:=(ps.filter fun p=>decide (iZ ds p.1<2*p.2)).map (·.1)
def vV:Sp:=fun vs H Q _=>∃v ps ts l zs ds,vs=[v,.ref l]/\jbz H v ps ts/\WebOk ps ts/\H l=some (.lst zs)/\jP H zs ds/\ds.length<=200/\∀r H',Same H H'->H' r=some (.lst ((jB ps ds).map V.int))->Q (.ref r) H'
theorem Cd{ps:List (Int×Int)}{ds:List (Int×Int×Int)}{i:Nat}{q:Int×Int}(h:ps[i]? =some q):jB (ps.take (i+1)) ds=jB (ps.take i) ds++(if iZ ds q.1<2*q.2 then[q.1]else[]):=by
 unfold jB
 rw[je h,cn,ah]
 congr 1
 by_cases c:iZ ds q.1<2*q.2
 ·simp[c]
 ·simp[c]
noncomputable def jT(ns:List Int):List (ij×V):=ns.map fun n=>(Sum.inl n,V.bl true)
theorem qw:∀(ns:List Int) (n:Int),ja (jT ns) n=decide (n∈ns)
 |[],n=>rfl
 | m::r,n=>by
  have ih:=qw r n
  unfold ja iK jT at ih ⊢
  rw[ai,List.find?_cons]
  by_cases c:m=n
  ·subst c
   simp
  ·have hd:decide ((Sum.inl m:ij)=Sum.inl n)=false:=az fun z=>c (bL z)
   dsimp only
   rw[hd]
   rw[ih,bP,bE,bE,aR]
   exact⟨.inr,fun z=>z.resolve_left fun y=>c y.symm⟩
def qE:Sp:=fun vs H Q _=>∃u,∃ns:List Int,vs=[.ref u]/\H u=some (.lst (ns.map V.int))/\ns.Nodup/\ns.length<=120/\∀d H',H d=none->Same H H'->H' d=some (.dK (jT ns))->Q (.ref d) H'
def kJ(ds:List (Int×Int×Int))(a b:Int):Bool:=ds.any fun d=>(d.1==a&&d.2.1==b)||(d.1==b&&d.2.1==a)
def uR(kvs:List (List ij×V))(ds:List (Int×Int×Int)):Prop:=∀a b:Int,(iK kvs ([Sum.inl a,Sum.inl b]:List ij)).isSome=kJ ds a b
theorem Ir{ds:List (Int×Int×Int)}{i:Nat}{q:Int×Int×Int}(h:ds[i]? =some q)(a b:Int):kJ (ds.take (i+1)) a b=(kJ (ds.take i) a b||((q.1==a&&q.2.1==b)||(q.1==b&&q.2.1==a))):=by
 unfold kJ
 rw[je h,List.any_append]
 simp
theorem qx{κ:Type}[DecidableEq κ](kvs:List (κ×V))(k:κ)(v:V):(jm kvs k v).length<=kvs.length+1:=by
 unfold jm
 split<;>simp
def vz:Sp:=fun vs H Q _=>∃l zs ds,vs=[.ref l]/\H l=some (.lst zs)/\jP H zs ds/\ds.length<=200/\∀d kvs H',Same H H'->H' d=some (.dT kvs)->uR kvs ds->Q (.ref d) H'
theorem JF(B:Blt mg)(D:DefAt K mg "loose_places" (ig 42) ["web","dues"] f fd)(Dql:DefAt K mg "due_at" (ig 31) ["dues"] fql dql)(Gql:FnOk P w K mg base iu 1 fql dql ["dues"] vT):FnOk P w K mg base iu 2 f fd ["web","dues"] vV:=by
 have sc:FnScope ["web","dues","paid"] ["web","dues"] (iN (ig 42)):=by walk_at "SC"
 refine D.F.ok sc (fun vs H Q E h=>?_) (fun cdv A outer s H vs Q E hr h=>?_)
 ·obtain⟨v,ps,ts,l,zs,ds,rfl,_⟩:=h
  rfl
 obtain⟨v,ps,ts,l,zs,ds,rfl,hw,wk,el,pd,hl,h⟩:=h
 obtain⟨u,pa,ta,xs,ys,rfl,hu1,hpa,hta,hxs,hys⟩:=hw
 have hu:=iX hr
 have hu0:_<PySem.cLine:=au hu
 refine⟨_,(ik (iH (i:=2) sc.nd rfl (Or.inr rfl) (iF Gql (hr.mono (by decide)) rfl Dql.m Dql.F.kp Dql.b .nil iD (h8 (qv 1) ic))) (iw (iG (jU (CpScope.of (N:=["place","price","paid"]) (src:=[none,none,some 2]) (by rfl)) rfl (jg (il ip (qv 0) h9 (fun _ _=>rfl))) (fun _ _ _ _=>(jJ (n:=2) rfl (iO (iE (i:=0) (iS (l:=["place","price","paid"]) (by rfl)) rfl (Or.inl rfl)) (iO (iE (i:=1) (iS (l:=["place","price","paid"]) (by rfl)) rfl (Or.inl rfl)) jK)))) (fun _ _ _ _=>(k8 (iV mn (oI hu (qv 2) (qv 0) h9) (iQ lK h9 (qv 1)) (iL _)))) (fun _ _ _ _=>(qv 0)))))),?_⟩
 have hlx:xs.length=ps.length:=ao hxs
 have hpl:=wk.pl
 walk_at "D"
 refine⟨l,zs,ds,rfl,el,pd,hl,fun d kvs H1 s1 ed pk=>?_⟩
 walk_at "D"
 refine jx (i6 K pa) H1 (fun R hR=>?_) (fun z hz0=>ju ps.length (fun i σ' Hc=>∃w1 w2,σ'=[w1,w2,some (.ref d)]/\Same H1 Hc/\Hc z=some (.lst ((jB (ps.take i) ds).map V.int))) ⟨none,none,rfl,iq hz0 _,ie⟩ ?_ ?_)
 ·unfold jc
  simp_arith[ir,s1 _ _ hu1,iJ]
  exact⟨pa,rfl,⟨_,SqL.of (s1 _ _ hpa)⟩,hR⟩
 ·rintro i σ' Hc hi ⟨w1,w2,rfl,s2,ez⟩
  have s3:=s1.trans s2
  have x1:xs[i]? =some (xs[i]'(by lia)):=gE _
  have z1:SqL K Hc pa xs:=SqL.of (s3 _ _ hpa)
  refine⟨⟨_,_,z1,x1⟩,?_⟩
  rintro y H' ⟨rfl,hy⟩
  obtain⟨q,hq,pq⟩:=jl hxs (hy _ z1)
  obtain⟨t,rfl,ht⟩:=pq.same s3
  have ed2:=s2 _ _ ed
  have lt:=Cd (ds:=ds) hq
  have hlz:(jB (ps.take i) ds).length<=40:=by
   unfold jB
   rw[aa]
   have:=bS (fun p:Int×Int=>decide (iZ ds p.1<2*p.2)) (ps.take i)
   rw[aO]at this
   lia
  simp_arith[ht]
  refine⟨⟨kvs,ed2⟩,?_⟩
  simp only[ed2,pk.get]
  refine⟨mD (by decide) (by decide),?_⟩
  by_cases c:iZ ds q.1<2*q.2
  ·rw[aH c]at lt
   simp only[af c,if_true]
   refine⟨_,ez,by rw[aa];exact iM (by lia),_,_,rfl,iW s2 hz0,?_⟩
   rw[ie,lt,ah]
   rfl
  ·rw[aE c,bb]at lt
   simp only[az c,aM,if_false]
   exact⟨_,_,rfl,s2,by rw[lt];exact ez⟩
 ·rintro σ' Hc ⟨w1,w2,rfl,s2,ez⟩
  rw[aG]at ez
  refine⟨⟨_,SqL.of ((s1.trans s2) _ _ hpa),by lia⟩,?_⟩
  exact h z Hc (s1.trans s2) ez
theorem Ie(B:Blt mg)(D:DefAt K mg "marked" (ig 11) ["places"] f fd):FnOk P w K mg base iu 1 f fd ["places"] qE:=by
 have sc:FnScope ["places"] ["places"] (iN (ig 11)):=by walk_at "SC"
 refine D.F.ok sc (fun vs H Q E h=>?_) (fun cdv A outer s H vs Q E hr h=>?_)
 ·obtain⟨u,ns,rfl,_⟩:=h
  rfl
 obtain⟨u,ns,rfl,eu,nd,hl,h⟩:=h
 have hu:=iX hr
 have hu0:_<PySem.cLine:=au hu
 refine⟨_,(iw (iG (lN (pD rfl) rfl B.dict cP (h8 (jU (CpScope.of (N:=["place"]) (src:=[none]) (by rfl)) rfl (jg (qv 0)) (fun _ _ _ _=>(iE (i:=0) (iS (l:=["place"]) (by rfl)) rfl (Or.inl rfl))) (fun _ _ _ _=>kf) (fun _ _ _ _=>(jw (h8 (qv 0) (h8 jk ic))))) ic)))),?_⟩
 walk_at "D"
 refine jx (i6 K u) H (fun R hR=>?_) (fun l hl0=>ju ns.length (fun i σ' Hc=>∃w1 zs,σ'=[w1]/\Same H Hc/\Hc l=some (.lst zs)/\Paired (PairAt Hc) zs (jT (ns.take i))) ⟨none,[],rfl,iq hl0 _,ie,.nil⟩ ?_ ?_)
 ·unfold jc
  walk_at "D"
  exact⟨u,rfl,⟨_,SqL.of eu⟩,hR⟩
 ·rintro i σ' Hc hi ⟨w1,zs,rfl,s2,ez,pz⟩
  have x1:ns[i]? =some ns[i]:=gE hi
  have X1:(ns.map V.int)[i]? =some (.int ns[i]):=by rw[aJ,x1];rfl
  have hlz:zs.length=(jT (ns.take i)).length:=ao pz
  have hlz2:zs.length<=i:=by
   rw[hlz,jT,aa,aO]
   lia
  refine⟨⟨_,_,SqL.of (s2 _ _ eu),X1⟩,?_⟩
  rintro y H' ⟨rfl,hy⟩
  have E1:V.int ns[i]=y:=aD (X1.symm.trans (hy _ (SqL.of (s2 _ _ eu))))
  subst E1
  walk_at "D"
  intro t ht
  have ez2:=iq ht (.tup [.int ns[i],.bl true]) _ _ ez
  have t6:=kx (ys:=zs++[.ref t]) ez2
  refine⟨zs,ez2,iM (by lia),_,zs++[.ref t],rfl,iW (s2.trans (iq ht _)) hl0,(by first|rfl|exact ie),?_⟩
  rw[je x1,jT,ah]
  refine kg (Paired.mapP pz fun v p q=>?_) ?_
  ·obtain⟨b,e,q⟩:=q
   exact⟨b,e,t6 _ _ rfl (iq ht _ _ _ q)⟩
  ·exact⟨t,rfl,t6 _ _ rfl ie⟩
 ·rintro σ' Hc ⟨w1,zs,rfl,s2,ez,pz⟩
  refine⟨⟨_,SqL.of (s2 _ _ eu),by rw[aa];exact aF _⟩,?_⟩
  rw[aG]at pz
  have hlz:zs.length=(jT ns).length:=ao pz
  rw[jT,aa]at hlz
  simp_arith[ez]
  refine⟨jT ns,pz,by lia,?_,fun d hd=>h d _ (s2.free hd) (s2.trans (iq hd _)) ie⟩
  unfold jT
  rw[bw]
  have e:((fun(x:ij×V)=>x.1)∘fun(n:Int)=>((Sum.inl n:ij),V.bl true))=fun(n:Int)=>(Sum.inl n:ij):=rfl
  rw[e]
  unfold List.Nodup at nd ⊢
  rw[df]
  exact nd.imp fun q z=>q (bL z)
theorem JJ(B:Blt mg)(D:DefAt K mg "tied_by_dues" (ig 43) ["dues"] f fd):FnOk P w K mg base iu 1 f fd ["dues"] vz:=by
 have sc:FnScope ["dues","tied","one","other","amount"] ["dues"] (iN (ig 43)):=by walk_at "SC"
 refine D.F.ok sc (fun vs H Q E h=>?_) (fun cdv A outer s H vs Q E hr h=>?_)
 ·obtain⟨l,zs,ds,rfl,_⟩:=h
  rfl
 obtain⟨l,zs,ds,rfl,el,pd,hl,h⟩:=h
 have hu:=iX hr
 have hu0:_<PySem.cLine:=au hu
 refine⟨_,(ik (iH (i:=1) sc.nd rfl (Or.inl rfl) Gd) (ik (j0 ba rfl (jg (qv 0)) (jJ (n:=3) rfl (iO (iE (i:=2) sc.nd rfl (Or.inl rfl)) (iO (iE (i:=3) sc.nd rfl (Or.inl rfl)) (iO (iE (i:=4) sc.nd rfl (Or.inl rfl)) jK)))) (ik (zV hu (qv 1) (jw (h8 (qv 2) (h8 (qv 3) ic))) jk rfl) (iw (zV hu (qv 1) (jw (h8 (qv 3) (h8 (qv 2) ic))) jk rfl)))) (iw (iG (qv 1))))),?_⟩
 refine iz fun R hR=>?_
 walk_at "D"
 intro d hd
 subst hR
 refine iz fun R hR=>?_
 refine ky (i6 K l) _ (fun R' hR'=>?_) (lD (K:=K) (a:=l) (xs:=zs) (fun i σ Hc=>∃v1 v2 v3 kvs,σ=[some (.ref l),some (.ref d),v1,v2,v3]/\Same H Hc/\Hc d=some (.dT kvs)/\uR kvs (ds.take i)/\kvs.length<=2*i) ⟨none,none,none,[],rfl,iq hd _,ie,(fun a b=>rfl),aF _⟩ (fun i σ Hc _ ⟨_,_,_,_,_,s3,_⟩=>SqL.of (s3 _ _ el)) ?_ ?_)
 ·unfold jc
  walk_at "D"
  exact⟨l,rfl,⟨_,SqL.of (iq hd _ _ _ el)⟩,hR'⟩
 ·rintro i x σ Hc hx ⟨v1,v2,v3,kvs,rfl,s3,ed,td,hk⟩
  obtain⟨q,hq,pq⟩:=jl pd hx
  obtain⟨t,rfl,ht⟩:=Tp.tups pq s3.tups
  have hi:=(aq.mp hq).1
  simp_arith[ht,yl]
  intro t1 ht1
  have q1:=iq ht1 (.tup [.int q.1,.int q.2.1])
  have f1:upd Hc t1 (.tup [.int q.1,.int q.2.1]) t1=some (.tup (([Sum.inl q.1,Sum.inl q.2.1]:List ij).map kV)):=ie
  have ed1:=q1 _ _ ed
  generalize upd Hc t1 (.tup [.int q.1,.int q.2.1])=H1 at q1 f1 ed1
  refine⟨d,_,rfl,DPut.t ed1 f1 (iM (by lia)),?_⟩
  have s4:=iW (s3.trans q1) hd (o:=.dT (jm kvs [Sum.inl q.1,Sum.inl q.2.1] (.bl true)))
  have ed3:upd H1 d (.dT (jm kvs ([Sum.inl q.1,Sum.inl q.2.1]:List ij) (.bl true))) d=some (.dT (jm kvs [Sum.inl q.1,Sum.inl q.2.1] (.bl true))):=ie
  generalize upd H1 d (.dT (jm kvs ([Sum.inl q.1,Sum.inl q.2.1]:List ij) (.bl true)))=H2 at s4 ed3
  intro t2 ht2
  have q2:=iq ht2 (.tup [.int q.2.1,.int q.1])
  have f2:upd H2 t2 (.tup [.int q.2.1,.int q.1]) t2=some (.tup (([Sum.inl q.2.1,Sum.inl q.1]:List ij).map kV)):=ie
  have ed4:=q2 _ _ ed3
  generalize upd H2 t2 (.tup [.int q.2.1,.int q.1])=H3 at q2 f2 ed4
  have hp1:=qx kvs ([Sum.inl q.1,Sum.inl q.2.1]:List ij) (.bl true)
  have hp2:=qx (jm kvs ([Sum.inl q.1,Sum.inl q.2.1]:List ij) (.bl true)) ([Sum.inl q.2.1,Sum.inl q.1]:List ij) (.bl true)
  refine⟨d,_,rfl,DPut.t ed4 f2 (iM (by lia)),_,_,_,_,rfl,iW (s4.trans q2) hd,ie,?_,by lia⟩
  intro a b
  rw [tO,tO,Ir hq,<- td a b]
  by_cases c2:([Sum.inl a,Sum.inl b]:List ij)=[Sum.inl q.2.1,Sum.inl q.1]
  ·rw[aH c2]
   injection c2 with c3 c4
   injection c4 with c4 _
   have:=bL c3
   have:=bL c4
   subst_vars
   simp
  ·rw[aE c2]
   by_cases c1:([Sum.inl a,Sum.inl b]:List ij)=[Sum.inl q.1,Sum.inl q.2.1]
   ·rw[aH c1]
    injection c1 with c3 c4
    injection c4 with c4 _
    have:=bL c3
    have:=bL c4
    subst_vars
    simp
   ·rw[aE c1]
    have n1:(q.1==a&&q.2.1==b)=false:=eX.mpr fun z=>c1 (by rw[bo]at z;rw[eq_of_beq z.1,eq_of_beq z.2])
    have n2:(q.1==b&&q.2.1==a)=false:=eX.mpr fun z=>c2 (by rw[bo]at z;rw[eq_of_beq z.1,eq_of_beq z.2])
    rw[n1,n2]
    simp
 ·rintro σ Hc ⟨v1,v2,v3,kvs,rfl,s3,ed,td,hk⟩
  have hlz:zs.length=ds.length:=ao pd
  rw[hlz,aG]at td
  subst hR
  walk_at "D"
  exact h d kvs Hc s3 ed td
end
end My
namespace HT
open PySem PyProof.Rows
open PySem.SeqAt
open PySem.AutoSeq1 (wpAny_loadPart')
open PySem.MeetsSeq PySem.MeetsSeq2 PySem.MeetsSeq3
section
variable{prog:Program}{w:World}{A:Around}{E:Value->Shared->Prop}{s:Shared}
end
end HT
namespace L2
open PySem PySem.Spec PyProof.Rows
section
variable{X:Cx}
end
end L2
namespace My
open PySem L2
section
variable{P:Program}{w:World}{K:PySem.W.Frag}{mg:Str->Option Value}{base:Heap}{c1 c2 c3 c4:Tok}{C_NoWeb fqk:Addr}{dI:FuncData}
abbrev Lk:=Option Str×List Int
noncomputable def kC(x:Lk):List V:=(match x.1 with |some w=>[V.str w]|none=>[])++x.2.map V.int
def LkAt(H:Hp)(v:V)(x:Lk):Prop:=∃t,v= .ref t/\H t=some (.tup (kC x))
theorem LkAt.tups{H H':Hp}{v:V}{x:Lk}(h:LkAt H v x)(s:TupS H H'):LkAt H' v x:=let⟨t,e,q⟩:=h;⟨t,e,s _ _ rfl q⟩
abbrev wL:Str:=Str.ofString "loose"
abbrev wB:Str:=Str.ofString "beside"
abbrev wT:Str:=Str.ofString "tight"
noncomputable def kY(ps ts:List (Int×Int)):Lk->Bool
 |(some w,[p])=>decide (p∈ps.map (·.1))&&decide (w=wL)
 |(some w,[u,v])=>decide (u∈ps.map (·.1))&&decide (v∈ps.map (·.1))&&((decide (w=wB)||decide (w=wT))&&decide (v∈jv ts u))
 |_=>false
theorem zN(w:Str)(ns:List Int):(kC (some w,ns)).length=ns.length+1:=by simp[kC]
theorem E3(w a b:Str):n6 (V.str w) [V.str a,V.str b]=(decide (w=a)||decide (w=b)):=by
 have e:∀x:Str,(x==w)=decide (w=x):=fun x=>by
  by_cases c:w=x
  ·subst c;simp
  ·rw[az c];exact gW (cS c)
 show((a==w)||((b==w)||false))=_
 rw[e,e,Bool.or_false]
def zm:Sp:=fun vs H Q _=>∃d v ps ts x,vs=[.ref d,v]/\NrAt H d ps ts/\WebOk ps ts/\LkAt H v x/\x.2.length<=8/\∀H',Same H H'->Q (.bl (kY ps ts x)) H'
theorem wj{ps ts:List (Int×Int)}{x:Lk}(h:x.1=none\/x.2=[]\/3<=x.2.length):kY ps ts x=false:=by
 obtain⟨w,ns⟩:=x
 rcases h with h|h|h
 ·cases h;rfl
 ·cases h;cases w<;>rfl
 ·match w,ns,h with
  |none,_,_=>rfl
  |some _,_::_::_::_,_=>rfl
theorem Ih(B:Blt mg)(D:DefAt K mg "is_link" (ig 44) ["nears","thing"] f fd)(Dqx:DefAt K mg "are_places" (ig 26) ["prices","things"] fqx dqx)(Gqx:FnOk P w K mg base iu 3 fqx dqx ["prices","things"] zZ):FnOk P w K mg base iu 4 f fd ["nears","thing"] zm:=by
 have sc:FnScope ["nears","thing"] ["nears","thing"] (iN (ig 44)):=by walk_at "SC"
 refine D.F.ok sc (fun vs H Q E h=>?_) (fun cdv A outer s H vs Q E hr h=>?_)
 ·obtain⟨d,v,ps,ts,x,rfl,_⟩:=h
  rfl
 obtain⟨d,v,ps,ts,x,rfl,hn,wk,hx,hl,h⟩:=h
 obtain⟨t,rfl,et⟩:=hx
 obtain⟨w,ns⟩:=x
 have hu:=iX hr
 have hu0:_<PySem.cLine:=au hu
 refine⟨_,(ik (i7 (PW.pt (jS (jy (jz (iU (kP .tup) rfl B.isinstance aS (h8 (qv 1) (h8 (kQ (v:=.ty "tuple") rfl B.tuple cI rfl) ic))))) (jS (jy (AW mV mV h9 (iU kc rfl B.len bu (h8 (qv 1) ic)) h9)) (ku (jy (jz (iU (kP .str) rfl B.isinstance aS (h8 (il ip (qv 1) h9 (fun _ _=>rfl)) (h8 (kQ (v:=.ty "str") rfl B.str PyProof.Rows.boot_str rfl) ic))))))))) (iw (iG jk)) i8) (ik (i7 (jy (jz (iF Gqx (hr.mono (by decide)) rfl Dqx.m Dqx.F.kp Dqx.b .nil iD (h8 (qv 0) (h8 (lE mq (qv 1) (lB h9) lA) ic))))) (iw (iG jk)) i8) (ik (i7 (iV kA (iU kc rfl B.len bu (h8 (qv 1) ic)) h9 (iL _)) (iw (iG (kG kA (il ip (qv 1) h9 (fun _ _=>rfl)) kE (iL _)))) i8) (iw (iG (kO (kG qg (il ip (qv 1) h9 (fun _ _=>rfl)) (jw (h8 kE (h8 kE ic))) (by with_unfolding_all rfl)) (lY (kG qg (il ip (qv 1) h9 (fun _ _=>rfl)) (kF hu (qv 0) (il ip (qv 1) h9 (fun _ _=>rfl)) (fun _ _=>rfl)) (by with_unfolding_all rfl))))))))),?_⟩
 have hkt:kd H (.ref t)=some .tup:=by unfold kd;dsimp only;rw[et]
 refine iz fun R hR=>?_
 simp_arith[hkt,j5,ir,et]
 have hb:=h H (Same.refl _)
 by_cases c1:(2:Int)<=((kC (w,ns)).length:Int)
 ·simp only[af c1,if_true]
  by_cases c2:((kC (w,ns)).length:Int)<=3
  ·simp only[af c2,bN,aM,if_false]
   cases w with
   | none=>
    rw[wj (.inl rfl)]at hb
    cases ns with
    |nil=>simp[kC]at c1
    |cons n r=>
     simp only[kC,List.nil_append,ai,iJ,kd,du,if_true]
     exact hb
   | some w=>
    clear hb
    match ns,c1,c2,hl,et,h with
    |[],c1,_,_,_,_=>simp[kC]at c1
    | [p],_,_,_,et,h=>
     simp only[kC,List.cons_append,List.nil_append,ai,bJ]at et ⊢
     simp only[iJ,kd,bN,aM,if_false]
     subst hR
     refine iz fun R hR=>?_
     simp_arith[et]
     refine⟨(fun z=>by cases z.1),fun p1 hp1=>?_⟩
     rw[show kW [V.str w,V.int p] (some 1) none=[V.int p]from rfl]
     have q1:=iq hp1 (.tup ([V.int p]))
     have e1:upd H p1 (.tup ([V.int p])) p1=some (.tup ([p].map V.int)):=ie
     generalize upd H p1 (.tup ([V.int p]))=H1 at q1 e1
     obtain⟨as,ed,la,nr⟩:=id (hn.same q1)
     refine⟨d,_,p1,[p],rfl,ed,e1,by simp only[List.length_cons,List.length_nil];lia,fun H2 q2=>?_⟩
     have q3:=q1.trans q2
     have hk:([p].all fun n=>ja (kz ps as) n)=decide (p∈ps.map (·.1)):=by simp only[List.all_cons,List.all_nil,yQ la,gw]
     rw[hk]
     have hb:=h H2 q3
     simp only[kY]at hb
     cases c3:decide (p∈ps.map (·.1))with
     |false=>
      simp only[c3,cR]at hb
      walk_at "D"
      exact hb
     |true=>
      simp only[c3,cu]at hb
      simp only[bN,aM,if_false]
      subst hR
      simp_arith[ir,q3 _ _ et,iJ]
      exact hb
    | [u,v],_,_,_,et,h=>
     simp only[kC,List.cons_append,List.nil_append,ai,bJ]at et ⊢
     simp only[iJ,kd,bN,aM,if_false]
     subst hR
     refine iz fun R hR=>?_
     simp_arith[et]
     refine⟨(fun z=>by cases z.1),fun p1 hp1=>?_⟩
     rw[show kW [V.str w,V.int u,V.int v] (some 1) none=[V.int u,V.int v]from rfl]
     have q1:=iq hp1 (.tup ([V.int u,V.int v]))
     have e1:upd H p1 (.tup ([V.int u,V.int v])) p1=some (.tup ([u,v].map V.int)):=ie
     generalize upd H p1 (.tup ([V.int u,V.int v]))=H1 at q1 e1
     obtain⟨as,ed,la,nr⟩:=id (hn.same q1)
     refine⟨d,_,p1,[u,v],rfl,ed,e1,by simp only[List.length_cons,List.length_nil];lia,fun H2 q2=>?_⟩
     have q3:=q1.trans q2
     have hk:([u,v].all fun n=>ja (kz ps as) n)=(decide (u∈ps.map (·.1))&&decide (v∈ps.map (·.1))):=by simp only[List.all_cons,List.all_nil,yQ la,gw]
     rw[hk]
     have hb:=h H2 q3
     simp only[kY]at hb
     cases c3:(decide (u∈ps.map (·.1))&&decide (v∈ps.map (·.1)))with
     |false=>
      simp only[c3,cR]at hb
      walk_at "D"
      exact hb
     | true=>
      simp only[c3,cu]at hb
      simp only[bN,aM,if_false]
      have hu2:=bp ((bo _ _).mp c3).1
      subst hR
      simp_arith[ir,q3 _ _ et,iJ,iT,ki]
      rw[aE (by first|decide|simp)]
      intro p2 hp2
      have q4:=iq hp2 (.tup [V.str (Str.ofString "beside"),V.str (Str.ofString "tight")])
      have e2:upd H2 p2 (.tup [V.str (Str.ofString "beside"),V.str (Str.ofString "tight")]) p2=some (.tup [V.str (Str.ofString "beside"),V.str (Str.ofString "tight")]):=ie
      generalize upd H2 p2 (.tup [V.str (Str.ofString "beside"),V.str (Str.ofString "tight")])=H3 at q4 e2
      have q5:=q3.trans q4
      have hb:=h H3 q5
      simp only[kY,c3,cu]at hb
      simp only[e2]
      refine⟨rfl,rfl,?_⟩
      rw[show n6 (V.str w) [V.str (Str.ofString "beside"),V.str (Str.ofString "tight")]=(decide (w=wB)||decide (w=wT))from E3 w _ _]
      cases c4:(decide (w=wB)||decide (w=wT))with
      |false=>
       simp only[c4,cR]at hb
       simp only[aM,if_false]
       exact hb
      |true=>
       simp only[c4,cu]at hb
       obtain⟨as',a',ed',ev',ea'⟩:=(hn.same q5).get wk.p.nodup hu2
       simp only[if_true,q5 _ _ et,ki,iT,ed',ev',ea',tY,ll,tE,true_and]
       exact hb
    |_::_::_::_,_,c2,_,_,_=>simp[kC]at c2;lia
  ·simp only[az c2,du,if_true]
   rw[wj (by cases w with |none=>exact .inl rfl|some w=>have:=zN w ns;exact .inr (.inr (by show 3<=ns.length;lia)))]at hb
   exact hb
 ·simp only[az c1,aM,if_false]
  rw[wj (by cases w with |none=>exact .inl rfl|some w=>have:=zN w ns;exact .inr (.inl (List.length_eq_zero_iff.mp (show ns.length=0 by lia))))]at hb
  exact hb
abbrev Lks(H:Hp)(xs:List V)(c:List Lk):Prop:=Paired (LkAt H) xs c
theorem Lks.tups{H H':Hp}{xs:List V}{c:List Lk}(h:Lks H xs c)(s:TupS H H'):Lks H' xs c:=Paired.mapP h fun _ _ q=>q.tups s
def iC(x:Lk):Int:=x.2.getLastD 0
noncomputable def jX(ps ts:List (Int×Int))(ds:List (Int×Int×Int))(ins outs:List Int)(x:Lk):Bool:=kY ps ts x&&(match x with
 |(some w,[p])=>decide (p∈jB ps ds)
 |(some w,[u,v])=>if w=wB then decide (u∈outs)else decide (u∈ins)&&kJ ds u v
 |_=>false)
noncomputable def jN(ps ts:List (Int×Int))(ds:List (Int×Int×Int)):List Int->List Int->List Lk->Bool
 |_,_,[]=>true
 |ins,outs,x::r=>jX ps ts ds ins outs x&&(if x.1=some wB then jN ps ts ds (iC x::ins) outs r else jN ps ts ds ins (iC x::outs) r)
def HasI(kvs:List (ij×V))(ns:List Int):Prop:=∀n:Int,ja kvs n=decide (n∈ns)
theorem HasI.put{kvs:List (ij×V)}{ns:List Int}(h:HasI kvs ns)(m:Int):HasI (jm kvs (Sum.inl m) (.bl true)) (m::ns):=fun n=>by
 unfold ja
 rw[tO]
 by_cases c:n=m
 ·subst c
  simp
 ·rw[aE fun z=>c (bL z)]
  have:=h n
  unfold ja at this
  rw[this,bP,bE,bE,aR]
  exact⟨.inr,fun z=>z.resolve_left c⟩
theorem xi{ps ts:List (Int×Int)}{x:Lk}(h:kY ps ts x=true):(∃p,x=(some wL,[p]))\/(∃u v,x=(some wB,[u,v]))\/∃u v,x=(some wT,[u,v]):=by
 unfold kY at h
 split at h
 ·rw[bo,bE,bE]at h
  rename_i w p
  exact .inl ⟨p,by rw[h.2]⟩
 ·rename_i w u v
  simp only[bo,g9,bE]at h
  rcases h.2.1 with z|z
  ·exact .inr (.inl ⟨u,v,by rw[z]⟩)
  ·exact .inr (.inr ⟨u,v,by rw[z]⟩)
 ·cases h
theorem oX:(wL=wB)=False:=gJ (by decide+kernel)
theorem Ez:(wL=wT)=False:=gJ (by decide+kernel)
theorem EB:(wB=wL)=False:=gJ (by decide+kernel)
theorem EA:(wB=wT)=False:=gJ (by decide+kernel)
theorem Ey:(wT=wL)=False:=gJ (by decide+kernel)
theorem mJ:(wT=wB)=False:=gJ (by decide+kernel)
theorem xN{x y:V}:jb [x,y] (-1)=some y:=Ax [x] y
theorem pN{x y z:V}:jb [x,y,z] (-1)=some z:=Ax [x,y] z
def z6:Sp:=fun vs H Q _=>∃v ps ts l zs ds ch xs c,vs=[v,.ref l,.ref ch]/\jbz H v ps ts/\WebOk ps ts/\H l=some (.lst zs)/\jP H zs ds/\ds.length<=200/\H ch=some (.lst xs)/\Lks H xs c/\c.length<=200/\(∀x∈c,x.2.length<=8)/\∀H',Same H H'->Q (.bl (jN ps ts ds [] [] c)) H'
theorem nj(ps:List (Int×Int))(ds:List (Int×Int×Int)):(jB ps ds).Sublist (ps.map (·.1)):=gR _ eD
theorem JA(B:Blt mg)(D:DefAt K mg "chain_stands" (ig 45) ["web","dues","chain"] f fd)(Dqe:DefAt K mg "is_list_up_to" (ig 10) ["thing","most"] fqe dqe)(Gqe:FnOk P w K mg base iu 1 fqe dqe ["thing","most"] ur)(Dqp:DefAt K mg "nears_in" (ig 27) ["web"] fqp dqp)(Gqp:FnOk P w K mg base iu 1 fqp dqp ["web"] wY)(Dqo:DefAt K mg "loose_places" (ig 42) ["web","dues"] fqo dqo)(Gqo:FnOk P w K mg base iu 2 fqo dqo ["web","dues"] vV)(Dqb:DefAt K mg "marked" (ig 11) ["places"] fqb dqb)(Gqb:FnOk P w K mg base iu 1 fqb dqb ["places"] qE)(Dqq:DefAt K mg "tied_by_dues" (ig 43) ["dues"] fqq dqq)(Gqq:FnOk P w K mg base iu 1 fqq dqq ["dues"] vz)(Dq8:DefAt K mg "is_link" (ig 44) ["nears","thing"] fq8 dq8)(Gq8:FnOk P w K mg base iu 4 fq8 dq8 ["nears","thing"] zm){c5:Tok}(hML:mg "MOST_LINKS"=some (.int 200 c5)):FnOk P w K mg base iu 5 f fd ["web","dues","chain"] z6:=by
 have sc:FnScope ["web","dues","chain","nears","loose","paid_ties","ins","outs","link","named"] ["web","dues","chain"] (iN (ig 45)):=by walk_at "SC"
 refine D.F.ok sc (fun vs H Q E h=>?_) (fun cdv A outer s H vs Q E hr h=>?_)
 ·obtain⟨v,ps,ts,l,zs,ds,ch,xs,c,rfl,_⟩:=h
  rfl
 obtain⟨v,ps,ts,l,zs,ds,ch,xs,c,rfl,hw,wk,el,pd,hl,ec,pc,hc,hx8,h⟩:=h
 have hu:=iX hr
 have hu0:_<PySem.cLine:=au hu
 refine⟨_,(ik (i7 (jy (jz (iF Gqe (hr.mono (by decide)) rfl Dqe.m Dqe.F.kp Dqe.b .nil iD (h8 (qv 2) (h8 (lM (v:=.int 200) rfl hML ⟨_,rfl⟩) ic))))) (iw (iG jk)) i8) (ik (iH (i:=3) sc.nd rfl (Or.inl rfl) (iF Gqp (hr.mono (by decide)) rfl Dqp.m Dqp.F.kp Dqp.b .nil iD (h8 (qv 0) ic))) (ik (iH (i:=4) sc.nd rfl (Or.inl rfl) (iF Gqb (hr.mono (by decide)) rfl Dqb.m Dqb.F.kp Dqb.b .nil iD (h8 (iF Gqo (hr.mono (by decide)) rfl Dqo.m Dqo.F.kp Dqo.b .nil iD (h8 (qv 0) (h8 (qv 1) ic))) ic))) (ik (iH (i:=5) sc.nd rfl (Or.inl rfl) (iF Gqq (hr.mono (by decide)) rfl Dqq.m Dqq.F.kp Dqq.b .nil iD (h8 (qv 1) ic))) (ik (iH (i:=6) sc.nd rfl (Or.inl rfl) pG) (ik (iH (i:=7) sc.nd rfl (Or.inl rfl) pG) (ik (j0 ba rfl (jg (qv 2)) (iE (i:=8) sc.nd rfl (Or.inl rfl)) (ik (i7 (jy (jz (iF Gq8 (hr.mono (by decide)) rfl Dq8.m Dq8.F.kp Dq8.b .nil iD (h8 (qv 3) (h8 (qv 8) ic))))) (iw (iG jk)) i8) (ik (i7 (PW.pt (qm (iV kA (il ip (qv 8) h9 (fun _ _=>rfl)) kE (iL _)) (qy (oz (qK hu (il ip (qv 8) h9 (fun _ _=>rfl)) (qv 4)))))) (iw (iG jk)) i8) (ik (i7 (PW.pt (qm (iV kA (il ip (qv 8) h9 (fun _ _=>rfl)) kE (iL _)) (qy (oz (qK hu (il ip (qv 8) h9 (fun _ _=>rfl)) (qv 7)))))) (iw (iG jk)) i8) (ik (i7 (PW.pt (qm (iV kA (il ip (qv 8) h9 (fun _ _=>rfl)) kE (iL _)) (qy (PW.pt (jS (oz (qK hu (il ip (qv 8) h9 (fun _ _=>rfl)) (qv 6))) (ku (vp (BB hu (lE mq (qv 8) (lB h9) lA) (qv 5))))))))) (iw (iG jk)) i8) (ik (iH (i:=9) sc.nd rfl (Or.inl rfl) (wy (iV kA (il ip (qv 8) h9 (fun _ _=>rfl)) kE (iL _)) (qv 6) (qv 7))) (iw (mx hu (qv 9) (il ip (qv 8) (kZ k6 h9) (fun _ _=>rfl)) jk)))))))) (iw (iG jk))))))))),?_⟩
 have hlx:xs.length=c.length:=ao pc
 refine iz fun R hR=>?_
 walk_at "D"
 refine⟨ch,xs,200,rfl,ec,?_⟩
 rw[af (show(xs.length:Int)<=200 by lia)]
 walk_at "D"
 subst hR
 refine iz fun R hR=>?_
 walk_at "D"
 refine⟨v,ps,ts,rfl,hw,wk,fun dn as H1 hd1 s1 ed1 la1 nr1=>?_⟩
 have nrA:NrAt H1 dn ps ts:=⟨as,ed1,la1,nr1⟩
 subst hR
 refine iz fun R hR=>?_
 walk_at "D"
 refine⟨v,ps,ts,l,zs,ds,rfl,hw.same s1,wk,s1 _ _ el,jD s1.tups pd,hl,fun r H2 s2 er=>?_⟩
 refine⟨r,_,rfl,er,(nj ps ds).nodup wk.p.nodup,?_,fun dl H3 hd3 s3 edl=>?_⟩
 ·have:=(nj ps ds).length_le
  rw[aa]at this
  have:=wk.pl
  lia
 have s13:=s1.trans (s2.trans s3)
 have nrB:=nrA.same (s2.trans s3)
 clear nrA er ed1 nr1
 subst hR
 refine iz fun R hR=>?_
 walk_at "D"
 refine⟨l,zs,ds,rfl,s13 _ _ el,jD s13.tups pd,hl,fun dt kt H4 s4 edt tdt=>?_⟩
 have s14:=s13.trans s4
 have nrC:=nrB.same s4
 have edl4:=s4 _ _ edl
 subst hR
 refine iz fun R hR=>?_
 walk_at "D"
 intro di hdi
 have q5:=iq hdi (.dK [])
 have edi:upd H4 di (.dK []) di=some (.dK []):=ie
 generalize upd H4 di (.dK [])=H5 at q5 edi
 subst hR
 refine iz fun R hR=>?_
 walk_at "D"
 intro do' hdo
 have q6:=iq hdo (.dK [])
 have edo:upd H5 do' (.dK []) do' = some (.dK []):=ie
 have ndio:di ≠ do':=iI edi hdo
 have edi6:=q6 _ _ edi
 have hdiH4:=hdi
 have hdoH4:H4 do' = none:=q5.free hdo
 have s46:=q5.trans q6
 generalize upd H5 do' (.dK []) = H6 at q6 edo edi6 s46
 have s16:=s14.trans s46
 have nd1:di≠dn:=fun z=>by rw[z]at hdi;obtain⟨_,e,_⟩:=nrC;rw[e]at hdi;cases hdi
 have edt4:=edt
 clear nd1
 subst hR
 refine iz fun R hR=>?_
 refine ky (i6 K ch) _ (fun R' hR'=>?_) (lD (K:=K) (a:=ch) (xs:=xs) (fun i σ Hc=>∃ v8 v9 kin kout ins outs,σ = [some v,some (.ref l),some (.ref ch),some (.ref dn),some (.ref dl),some (.ref dt),some (.ref di),some (.ref do'),v8,v9]/\Same H4 Hc/\Hc di = some (.dK kin)/\Hc do' = some (.dK kout)/\HasI kin ins/\HasI kout outs/\kin.length <= i/\kout.length <= i/\jN ps ts ds [] [] c = jN ps ts ds ins outs (c.drop i)) ⟨none,none,[],[],[],[],rfl,s46,edi6,edo,(fun n=>rfl),(fun n=>rfl),aF _,aF _,by rw [fw]⟩ (fun i σ Hc _ ⟨_,_,_,_,_,_,_,s3,_⟩=>SqL.of ((s14.trans s3) _ _ ec)) ?_ ?_)
 ·unfold jc
  walk_at "D"
  exact⟨ch,rfl,⟨_,SqL.of (s16 _ _ ec)⟩,hR'⟩
 ·rintro i y σ Hc hy ⟨v8,v9,kin,kout,ins,outs,rfl,s7,eki,eko,hki,hko,lki,lko,hch⟩
  obtain⟨x,hx,pq⟩:=jl pc hy
  obtain⟨t,rfl,ht⟩:=pq.tups (s14.trans s7).tups
  have hi:=(aq.mp hx).1
  have hdr:c.drop i=x::c.drop (i+1):=nh hx
  rw[hdr,jN]at hch
  have nr7:=nrC.same s7
  have hki':∀n:Int,(iK kin (Sum.inl n:ij)).isSome=decide (n∈ins):=hki
  have hko':∀n:Int,(iK kout (Sum.inl n:ij)).isSome=decide (n∈outs):=hko
  refine iz fun R9 hR9=>?_
  walk_at "D"
  refine⟨dn,.ref t,ps,ts,x,rfl,nr7,wk,⟨t,rfl,ht⟩,hx8 x (aA hx),fun H8 s8=>?_⟩
  have s48:=s7.trans s8
  have F:jX ps ts ds ins outs x=false->Q (.bl false) H8:=fun z=>by
   have:=h H8 (s14.trans s48)
   rw[hch,z,cR]at this
   exact this
  cases hlb:kY ps ts x with
  |false=>
   walk_at "D"
   exact F (by unfold jX;rw[hlb,cR])
  | true=>
   walk_at "D"
   have ht8:=s8 _ _ ht
   have ei8:=s8 _ _ eki
   have eo8:=s8 _ _ eko
   have el8:=s48 _ _ edl4
   have et8:=s48 _ _ edt
   rcases xi hlb with⟨p,rfl⟩|⟨a,b,rfl⟩|⟨a,b,rfl⟩
   ·simp only[kC,List.cons_append,List.nil_append,ai,bJ]at ht8
    subst hR9
    refine iz fun R9 hR9=>?_
    simp_arith[ir,ht8,iJ,iT,el8,cC]
    have e9:(iK (jT (jB ps ds)) (Sum.inl p:ij)).isSome=decide (p∈jB ps ds):=qw _ p
    rw[e9]
    have hok0:jX ps ts ds ins outs (some wL,[p])=decide (p∈jB ps ds):=by unfold jX;rw[hlb,cu]
    by_cases c9:p∈jB ps ds
    case neg=>
     rw[az c9]at hok0 ⊢
     exact F hok0
    rw[af c9]at hok0 ⊢
    have hok:=hok0
    simp only[bN,aM,if_false]
    subst hR9
    simp_arith[ir,ht8,iJ,iT,oX,Ez,dY,xN,eo8]
    refine⟨iM (by lia),_,_,kin,jm kout (Sum.inl p) (.bl true),ins,p::outs,rfl,iW s48 hdoH4,by rw[ix ndio];exact ei8,ie,hki,hko.put p,by lia,(by have:=qx kout (Sum.inl p:ij) (.bl true);lia),?_⟩
    rw[hch,hok]
    simp only[cu,iC,cD,oX,if_false]
    rfl
   ·simp only[kC,List.cons_append,List.nil_append,ai,bJ]at ht8
    subst hR9
    refine iz fun R9 hR9=>?_
    simp_arith[ir,ht8,iJ,iT,el8,EB,dY]
    subst hR9
    refine iz fun R9 hR9=>?_
    simp_arith[ir,ht8,iJ,iT,eo8,cC]
    rw[hko' a]
    have hok0:jX ps ts ds ins outs (some wB,[a,b])=decide (a∈outs):=by unfold jX;rw[hlb,Bool.true_and];dsimp only;rw[if_pos rfl]
    by_cases c9:a∈outs
    case neg=>
     rw[az c9]at hok0 ⊢
     exact F hok0
    rw[af c9]at hok0 ⊢
    have hok:=hok0
    simp only[bN,aM,if_false]
    subst hR9
    simp_arith[ir,ht8,iJ,iT,EA,dY,cC,pN,ei8]
    refine⟨iM (by lia),_,_,jm kin (Sum.inl b) (.bl true),kout,b::ins,outs,rfl,iW s48 hdiH4,ie,by rw[ix ndio.symm];exact eo8,hki.put b,hko,(by have:=qx kin (Sum.inl b:ij) (.bl true);lia),by lia,?_⟩
    rw[hch,hok]
    simp only[cu,iC,if_true]
    rfl
   ·simp only[kC,List.cons_append,List.nil_append,ai,bJ]at ht8
    subst hR9
    refine iz fun R9 hR9=>?_
    simp_arith[ir,ht8,iJ,iT,el8,Ey,dY]
    subst hR9
    refine iz fun R9 hR9=>?_
    simp_arith[ir,ht8,iJ,iT,eo8,mJ,dY]
    subst hR9
    refine iz fun R9 hR9=>?_
    simp_arith[ir,ht8,iJ,iT,ei8,cC,tB,vX]
    rw[hki' a]
    have hok0:jX ps ts ds ins outs (some wT,[a,b])=(decide (a∈ins)&&kJ ds a b):=by unfold jX;rw[hlb,Bool.true_and];dsimp only;rw[if_neg (by rw[mJ];exact id)]
    by_cases c9:a∈ins
    case neg=>
     rw[az c9]at hok0 ⊢
     exact F hok0
    rw[af c9,cu]at hok0
    rw[af c9]
    simp only[bN,aM,if_false]
    refine⟨(fun z=>by cases z.1),fun p1 hp1=>?_⟩
    rw[show kW [V.str wT,V.int a,V.int b] (some 1) none=[V.int a,V.int b]from rfl]
    have q9:=iq hp1 (.tup [V.int a,V.int b])
    have f9:upd H8 p1 (.tup [V.int a,V.int b]) p1=some (.tup (([Sum.inl a,Sum.inl b]:List ij).map kV)):=ie
    generalize upd H8 p1 (.tup [V.int a,V.int b])=H9 at q9 f9
    have s49:=s48.trans q9
    refine⟨dt,_,rfl,DGet.t (q9 _ _ et8) f9,_,rfl,?_⟩
    rw[tdt a b]
    cases c8:kJ ds a b with
    |false=>
     rw[c8]at hok0
     simp only[du,if_true]
     have:=h H9 (s14.trans s49)
     rw[hch,hok0,cR]at this
     exact this
    |true=>
     rw[c8]at hok0
     have hok:=hok0
     simp only[bN,aM,if_false]
     have eo9:=q9 _ _ eo8
     have ei9:=q9 _ _ ei8
     have ht9:=q9 _ _ ht8
     subst hR9
     simp_arith[ir,ht9,iJ,iT,mJ,dY,pN,eo9]
     refine⟨iM (by lia),_,_,kin,jm kout (Sum.inl b) (.bl true),ins,b::outs,rfl,iW s49 hdoH4,by rw[ix ndio];exact ei9,ie,hki,hko.put b,by lia,(by have:=qx kout (Sum.inl b:ij) (.bl true);lia),?_⟩
     rw[hch,hok]
     simp only[cu,iC,cD,mJ,if_false]
     rfl
 ·rintro σ Hc ⟨v8,v9,kin,kout,ins,outs,rfl,s7,eki,eko,hki,hko,lki,lko,hch⟩
  rw[hlx,List.drop_length,jN]at hch
  subst hR
  walk_at "D"
  have:=h Hc (s14.trans s7)
  rw[hch]at this
  exact this
def oj(la lb:List Dt):Dt:=.tup [.lst la,.lst lb]
structure Fx(H:Hp)(t hl da ch:Addr)(qs:List (Int×Int))(ds:List (Int×Int×Int))(c:List Lk):Prop where
 e:H t=some (.tup [.ref hl,.ref da,.ref ch])
 h:∃hx,H hl=some (.lst hx)/\Prs H hx qs
 d:∃dx,H da=some (.lst dx)/\jP H dx ds
 c:∃xs,H ch=some (.lst xs)/\Lks H xs c
theorem Fx.same{H H':Hp}{t hl da ch:Addr}{qs:List (Int×Int)}{ds:List (Int×Int×Int)}{c:List Lk}(h:Fx H t hl da ch qs ds c)(s:Same H H'):Fx H' t hl da ch qs ds c:=by
 obtain⟨e,⟨hx,e1,p1⟩,⟨dx,e2,p2⟩,⟨xs,e3,p3⟩⟩:=h
 exact⟨s _ _ e,⟨hx,s _ _ e1,Prs.same s p1⟩,⟨dx,s _ _ e2,jD s.tups p2⟩,⟨xs,s _ _ e3,Lks.tups p3 s.tups⟩⟩
noncomputable def qS(ps ts qs:List (Int×Int))(ds:List (Int×Int×Int))(c:List Lk):Bool:=mw ps ts (oj (qs.map jd) (ds.map jq))&&jN ps ts ds [] [] c
def z9:Sp:=fun vs H Q _=>∃v ps ts t hl da ch qs ds c,vs=[v,.ref t]/\jbz H v ps ts/\WebOk ps ts/\Fx H t hl da ch qs ds c/\ds.length<=200/\c.length<=200/\(∀x∈c,x.2.length<=8)/\∀H',Same H H'->Q (.bl (qS ps ts qs ds c)) H'
theorem wG{H:Hp}:∀{xs:List V} {ds:List (Int×Int×Int)},jP H xs ds->Reps H (ds.map jq) xs
 |_,_,.nil=>by rw[bJ,Reps]
 |_,_,.cons a t=>by
  rw[ai,Reps]
  refine⟨_,_,rfl,?_,wG t⟩
  obtain⟨u,e,q⟩:=a
  rw[jq,Rep]
  exact⟨u,_,e,q,qO [_,_,_]⟩
theorem Fq{H:Hp}{t hl da:Addr}{qs:List (Int×Int)}{ds:List (Int×Int×Int)}(e:H t=some (.tup [.ref hl,.ref da]))(h:∃hx,H hl=some (.lst hx)/\Prs H hx qs)(d:∃dx,H da=some (.lst dx)/\jP H dx ds):Rep H (oj (qs.map jd) (ds.map jq)) (.ref t):=by
 obtain⟨hx,e1,p1⟩:=h
 obtain⟨dx,e2,p2⟩:=d
 unfold oj
 rw[Rep]
 refine⟨t,_,rfl,e,?_⟩
 rw[Reps]
 refine⟨_,_,rfl,by rw[Rep];exact⟨hl,hx,rfl,e1,Prs.reps p1⟩,?_⟩
 rw[Reps]
 exact⟨_,_,rfl,by rw[Rep];exact⟨da,dx,rfl,e2,wG p2⟩,by rw[Reps]⟩
theorem G4{qs:List (Int×Int)}{ds:List (Int×Int×Int)}(h:ds.length<=200):y8 (oj (qs.map jd) (ds.map jq)):=fun a b e xs hb=>by
 unfold oj at e
 injection e with e
 injection e with e1 e2
 injection e2 with e2 _
 rw [<- e2] at hb
 injection hb with hb
 rw [<- hb,aa]
 exact h
theorem Jj(B:Blt mg)(D:DefAt K mg "lets_fixed" (ig 46) ["web","thing"] f fd)(Dqg:DefAt K mg "look_at_web" (ig 24) ["thing"] fqg dqg)(Gqg:FnOk P w K mg base iu 5 fqg dqg ["thing"] ud)(Dqa:DefAt K mg "is_tuple_of" (ig 8) ["thing","many"] fqa dqa)(Gqa:FnOk P w K mg base iu 1 fqa dqa ["thing","many"] ue)(Dzn:DefAt K mg "paper_stands" (ig 34) ["web","thing"] fzn dzn)(Gzn:FnOk P w K mg base iu 5 fzn dzn ["web","thing"] Af)(Dqz:DefAt K mg "chain_stands" (ig 45) ["web","dues","chain"] fqz dqz)(Gqz:FnOk P w K mg base iu 5 fqz dqz ["web","dues","chain"] z6):FnOk P w K mg base iu 6 f fd ["web","thing"] z9:=by
 have sc:FnScope ["web","thing"] ["web","thing"] (iN (ig 46)):=by walk_at "SC"
 refine D.F.ok sc (fun vs H Q E h=>?_) (fun cdv A outer s H vs Q E hr h=>?_)
 ·obtain⟨v,ps,ts,t,hl,da,ch,qs,ds,c,rfl,_⟩:=h
  rfl
 obtain⟨v,ps,ts,t,hl,da,ch,qs,ds,c,rfl,hw,wk,fx,ld,lc,l8,h⟩:=h
 have hu:=iX hr
 have hu0:_<PySem.cLine:=au hu
 refine⟨_,(ik (jV (iF Gqg (hr.mono (by decide)) rfl Dqg.m Dqg.F.kp Dqg.b .nil iD (h8 (qv 0) ic))) (ik (i7 (PW.pt (jS (jy (jz (iF Gqa (hr.mono (by decide)) rfl Dqa.m Dqa.F.kp Dqa.b .nil iD (h8 (qv 1) (h8 h9 ic))))) (ku (jy (jz (iF Gzn (hr.mono (by decide)) rfl Dzn.m Dzn.F.kp Dzn.b .nil iD (h8 (qv 0) (h8 (lE mq (qv 1) lA (lB h9)) ic)))))))) (iw (iG jk)) i8) (iw (iG (iF Gqz (hr.mono (by decide)) rfl Dqz.m Dqz.F.kp Dqz.b .nil iD (h8 (qv 0) (h8 (il ip (qv 1) h9 (fun _ _=>rfl)) (h8 (il ip (qv 1) h9 (fun _ _=>rfl)) ic)))))))),?_⟩
 walk_at "D"
 refine⟨_,ps,ts,rfl,hw,wk,fun H1 s1=>?_⟩
 have fx1:=fx.same s1
 walk_at "D"
 refine⟨t,_,3,rfl,fx1.e,?_⟩
 simp_arith[fx1.e]
 rw[aE (by first|decide|simp)]
 refine⟨nJ (.ref hl) (.ref da) (.ref ch),fun p hp=>?_⟩
 rw[nC]
 have q2:=iq hp (.tup [.ref hl,.ref da])
 have ep:upd H1 p (.tup [.ref hl,.ref da]) p=some (.tup [.ref hl,.ref da]):=ie
 generalize upd H1 p (.tup [.ref hl,.ref da])=H2 at q2 ep
 have fx2:=fx1.same q2
 have s2:=s1.trans q2
 refine⟨_,ps,ts,_,_,rfl,hw.same s2,wk,Fq ep fx2.h fx2.d,G4 ld,fun H3 s3=>?_⟩
 have fx3:=fx2.same s3
 have s23:=s2.trans s3
 cases hp2:mw ps ts (oj (qs.map jd) (ds.map jq))with
 |false=>
  simp only[du,if_true]
  have:=h H3 s23
  unfold qS at this
  rw[hp2,cR]at this
  exact this
 |true=>
  simp only[bN,aM,if_false,ir,fx3.e,iT,ki]
  obtain⟨dx,ed,pd⟩:=fx3.d
  obtain⟨xs,ec,pc⟩:=fx3.c
  refine⟨v,ps,ts,da,dx,ds,ch,xs,c,rfl,hw.same s23,wk,ed,pd,ld,ec,pc,lc,l8,fun H4 s4=>?_⟩
  have:=h H4 (s23.trans s4)
  unfold qS at this
  rw[hp2,cu]at this
  exact this
theorem But.same{s:Addr}{H H':Hp}(h:Same H H'):But s H H':=fun b o _ q=>h b o q
theorem Hi{a b:TS}{D:Ends}{σ:St}{H:Hp}(h:∀R E,R=b->E=D->oW a R E σ H):oW a b D σ H:=h b D rfl rfl
inductive GLk:Lk->Prop
 |l (p:Int):GLk (some wL,[p])
 |b (u v:Int):GLk (some wB,[u,v])
 |t (u v:Int):GLk (some wT,[u,v])
noncomputable def ka(c:List Lk):List Int:=(c.filter fun x=>decide (x.1=some wB)).map iC
def kn(c:List Lk):List Int:=(c.filter fun x=>!decide (x.1=some wB)).map iC
theorem BP{c:List Lk}{i:Nat}{q:Lk}(h:c[i]? =some q):ka (c.take (i+1))=ka (c.take i)++(if q.1=some wB then[iC q]else[]):=by
 unfold ka
 rw[je h,cn,ah]
 congr 1
 by_cases e:q.1=some wB
 ·simp[e]
 ·simp[e]
theorem Cj{c:List Lk}{i:Nat}{q:Lk}(h:c[i]? =some q):kn (c.take (i+1))=kn (c.take i)++(if q.1=some wB then[]else[iC q]):=by
 unfold kn
 rw[je h,cn,ah]
 congr 1
 by_cases e:q.1=some wB
 ·simp[e]
 ·simp[e]
theorem Bp(c:List Lk):(ka c).length<=c.length:=by
 unfold ka
 rw[aa]
 exact bS _ _
theorem Il(c:List Lk):(kn c).length<=c.length:=by
 unfold kn
 rw[aa]
 exact bS _ _
noncomputable def nF(ds:List (Int×Int×Int))(ins outs:List Int)(t:Int×Int)(u v:Int):List Lk:=(if u∈outs then[(some wB,[u,v])]else[])++(if u∈ins/\t∈ds.map (fun d=>(d.1,d.2.1))then[(some wT,[u,v])]else[])
noncomputable def nx(ds:List (Int×Int×Int))(ins outs:List Int)(t:Int×Int):List Lk:=nF ds ins outs t t.1 t.2++nF ds ins outs t t.2 t.1
noncomputable def qd(ps ts:List (Int×Int))(ds:List (Int×Int×Int))(ins outs:List Int):List Lk:=(jB ps ds).map (fun p=>(some wL,[p]))++ts.flatMap (nx ds ins outs)
def zo:Sp:=fun vs H Q _=>∃v ps ts l zs ds ch xs c,vs=[v,.ref l,.ref ch]/\jbz H v ps ts/\WebOk ps ts/\H l=some (.lst zs)/\jP H zs ds/\ds.length<=200/\H ch=some (.lst xs)/\Lks H xs c/\c.length<=200/\(∀x∈c,GLk x)/\∀r ys H',Same H H'->H r=none->H' r=some (.lst ys)->Lks H' ys (qd ps ts ds (ka c) (kn c))->Q (.ref r) H'
theorem GLk.at{H:Hp}{v:V}{x:Lk}(g:GLk x)(h:LkAt H v x):∃t w u r,v= .ref t/\x.1=some w/\H t=some (.tup (.str w:: .int u::r))/\jb (V.str w:: .int u::r) (-1)=some (.int (iC x))/\(w=wB->jb (V.str w:: .int u::r) 2=some (.int (iC x))):=by
 obtain⟨t,rfl,e⟩:=h
 cases g with
 |l p=>exact⟨t,wL,p,[],rfl,rfl,e,xN,fun z=>by rw[oX]at z;exact z.elim⟩
 |b u v=>exact⟨t,wB,u,[.int v],rfl,rfl,e,pN,fun _=>ki⟩
 |t u v=>exact⟨t,wT,u,[.int v],rfl,rfl,e,pN,fun z=>by rw[mJ]at z;exact z.elim⟩
theorem IK(B:Blt mg)(D:DefAt K mg "_law_next" (ig 62) ["_law_web_here","_law_dues","_law_chain"] f fd):FnOk P w K mg base iu 1 f fd ["_law_web_here","_law_dues","_law_chain"] zo:=by
 have sc:FnScope ["_law_web_here","_law_dues","_law_chain","_law_ins","_law_outs","_law_paid","_law_one","_law_other","_law_amount","_law_found","_law_tied","_law_u","_law_v"] ["_law_web_here","_law_dues","_law_chain"] (iN (ig 62)):=by walk_at "SC"
 refine D.F.ok sc (fun vs H Q E h=>?_) (fun cdv A outer s H vs Q E hr h=>?_)
 ·obtain⟨v,ps,ts,l,zs,ds,ch,xs,c,rfl,_⟩:=h
  rfl
 obtain⟨v,ps,ts,l,zs,ds,ch,xs,c,rfl,hw,wk,el,pd,hl,ec,pc,hc,gc,h⟩:=h
 have hu:=iX hr
 have hu0:_<PySem.cLine:=au hu
 refine⟨_,(ik (mh (i:=3) sc.nd rfl (Or.inl rfl) (CpScope.of (N:=["_law_one"]) (src:=[none]) (by rfl)) rfl (jg (qv 2)) (fun _ _ _ _=>(iE (i:=0) (iS (l:=["_law_one"]) (by rfl)) rfl (Or.inl rfl))) (fun _ _ _ _=>(k8 (iV kA (il ip (qv 0) h9 (fun _ _=>rfl)) kE (iL _)))) (fun _ _ _ _=>(il ip (qv 0) h9 (fun _ _=>rfl)))) (ik (mh (i:=4) sc.nd rfl (Or.inl rfl) (CpScope.of (N:=["_law_one"]) (src:=[none]) (by rfl)) rfl (jg (qv 2)) (fun _ _ _ _=>(iE (i:=0) (iS (l:=["_law_one"]) (by rfl)) rfl (Or.inl rfl))) (fun _ _ _ _=>(k8 (iV mm (il ip (qv 0) h9 (fun _ _=>rfl)) kE (iL _)))) (fun _ _ _ _=>(il ip (qv 0) (kZ k6 h9) (fun _ _=>rfl)))) (ik (iH (i:=5) sc.nd rfl (Or.inr rfl) pG) (ik (j0 ba rfl (jg (qv 1)) (jJ (n:=3) rfl (iO (iE (i:=6) sc.nd rfl (Or.inl rfl)) (iO (iE (i:=7) sc.nd rfl (Or.inl rfl)) (iO (iE (i:=8) sc.nd rfl (Or.inl rfl)) jK)))) (ik (mx hu (qv 5) (qv 6) (iQ jM (oI hu (qv 5) (qv 6) h9) (qv 8))) (iw (mx hu (qv 5) (qv 7) (iQ jM (oI hu (qv 5) (qv 7) h9) (qv 8)))))) (ik (mh (i:=9) sc.nd rfl (Or.inl rfl) (CpScope.of (N:=["_law_place","_law_price","_law_paid"]) (src:=[none,none,some 5]) (by rfl)) rfl (jg (il ip (qv 0) h9 (fun _ _=>rfl))) (fun _ _ _ _=>(jJ (n:=2) rfl (iO (iE (i:=0) (iS (l:=["_law_place","_law_price","_law_paid"]) (by rfl)) rfl (Or.inl rfl)) (iO (iE (i:=1) (iS (l:=["_law_place","_law_price","_law_paid"]) (by rfl)) rfl (Or.inl rfl)) jK)))) (fun _ _ _ _=>(k8 (iV mn (oI hu (qv 2) (qv 0) h9) (iQ lK h9 (qv 1)) (iL _)))) (fun _ _ _ _=>(jw (h8 kE (h8 (qv 0) ic))))) (ik (mh (i:=10) sc.nd rfl (Or.inl rfl) (CpScope.of (N:=["_law_due"]) (src:=[none]) (by rfl)) rfl (jg (qv 1)) (fun _ _ _ _=>(iE (i:=0) (iS (l:=["_law_due"]) (by rfl)) rfl (Or.inl rfl))) (fun _ _ _ _=>kf) (fun _ _ _ _=>(lE mq (qv 0) lA (lB h9)))) (ik (j0 ba rfl (jg (il ip (qv 0) h9 (fun _ _=>rfl))) (jJ (n:=2) rfl (iO (iE (i:=6) sc.nd rfl (Or.inl rfl)) (iO (iE (i:=7) sc.nd rfl (Or.inl rfl)) jK))) (iw (j0 ba rfl (jg (kL (h8 (jw (h8 (qv 6) (h8 (qv 7) ic))) (h8 (jw (h8 (qv 7) (h8 (qv 6) ic))) ic)))) (jJ (n:=2) rfl (iO (iE (i:=11) sc.nd rfl (Or.inl rfl)) (iO (iE (i:=12) sc.nd rfl (Or.inl rfl)) jK))) (ik (i7 (iV qg (qv 11) (qv 4) (by with_unfolding_all rfl)) (iw (jV (kN aY bh bg kS (qv 9) (h8 (jw (h8 kE (h8 (qv 11) (h8 (qv 12) ic)))) ic)))) i8) (iw (i7 (PW.pt (qm (iV qg (qv 11) (qv 3) (by with_unfolding_all rfl)) (qy (iV (En hr.units) (jw (h8 (qv 6) (h8 (qv 7) ic))) (qv 10) (by with_unfolding_all rfl))))) (iw (jV (kN aY bh bg kS (qv 9) (h8 (jw (h8 kE (h8 (qv 11) (h8 (qv 12) ic)))) ic)))) i8)))))) (iw (iG (qv 9)))))))))),?_⟩
 have hlx:xs.length=c.length:=ao pc
 refine iz fun R hR=>?_
 walk_at "D"
 refine jx (i6 K ch) H (fun R' hR'=>?_) (fun z1 hz1=>ju c.length (fun i σ' Hc=>∃w1,σ'=[w1]/\Same H Hc/\Hc z1=some (.lst ((ka (c.take i)).map V.int))) ⟨none,rfl,iq hz1 _,ie⟩ ?_ ?_)
 ·unfold jc
  walk_at "D"
  exact⟨ch,rfl,⟨_,SqL.of ((Same.refl H) _ _ ec)⟩,hR'⟩
 ·rintro i σ' Hc hi ⟨w1,rfl,s2,ez⟩
  have sA:=Same.trans (Same.refl H) s2
  have x1:xs[i]? =some (xs[i]'(by lia)):=gE _
  have y1:SqL K Hc ch xs:=SqL.of (sA _ _ ec)
  refine⟨⟨_,_,y1,x1⟩,?_⟩
  rintro y H' ⟨rfl,hy⟩
  obtain⟨q,hq,pq⟩:=jl pc (hy _ y1)
  obtain⟨t,w,u,r,rfl,ew,ht,eL,e2⟩:=(gc q (aA hq)).at (pq.tups sA.tups)
  have lt:=BP hq
  rw[ew]at lt
  have ln:=Bp (c.take i)
  rw[aO]at ln
  simp_arith[ir,ht,iJ]
  by_cases cw:w=wB
  ·rw[aH (by rw[cw])]at lt
   simp only[af cw,if_true]
   simp only[e2 cw]
   refine⟨_,ez,by rw[aa];exact iM (by lia),_,rfl,iW s2 hz1,?_⟩
   rw[ie,lt,ah]
   rfl
  ·rw[aE (fun z=>cw (aD z))]at lt
   simp only[az cw,aM,if_false]
   rw[bb]at lt
   exact⟨_,rfl,s2,by rw[lt];exact ez⟩
 rintro σ' H1 ⟨w1,rfl,s1,ez1⟩
 refine⟨⟨_,SqL.of ((Same.trans (Same.refl H) s1) _ _ ec),by lia⟩,?_⟩
 rw[aG]at ez1
 walk_at "D"
 subst hR
 refine iz fun R hR=>?_
 walk_at "D"
 refine jx (i6 K ch) H1 (fun R' hR'=>?_) (fun z2 hz2=>ju c.length (fun i σ' Hc=>∃w1,σ'=[w1]/\Same H1 Hc/\Hc z2=some (.lst ((kn (c.take i)).map V.int))) ⟨none,rfl,iq hz2 _,ie⟩ ?_ ?_)
 ·unfold jc
  walk_at "D"
  exact⟨ch,rfl,⟨_,SqL.of (s1 _ _ ec)⟩,hR'⟩
 ·rintro i σ' Hc hi ⟨w1,rfl,s2,ez⟩
  have sA:=Same.trans s1 s2
  have x1:xs[i]? =some (xs[i]'(by lia)):=gE _
  have y1:SqL K Hc ch xs:=SqL.of (sA _ _ ec)
  refine⟨⟨_,_,y1,x1⟩,?_⟩
  rintro y H' ⟨rfl,hy⟩
  obtain⟨q,hq,pq⟩:=jl pc (hy _ y1)
  obtain⟨t,w,u,r,rfl,ew,ht,eL,e2⟩:=(gc q (aA hq)).at (pq.tups sA.tups)
  have lt:=Cj hq
  rw[ew]at lt
  have ln:=Il (c.take i)
  rw[aO]at ln
  simp_arith[ir,ht,iJ]
  by_cases cw:w=wB
  ·rw[aH (by rw[cw])]at lt
   simp only[af cw,bN,aM,if_false]
   rw[bb]at lt
   exact⟨_,rfl,s2,by rw[lt];exact ez⟩
  ·rw[aE (fun z=>cw (aD z))]at lt
   simp only[az cw,du,if_true]
   simp only[eL]
   refine⟨_,ez,by rw[aa];exact iM (by lia),_,rfl,iW s2 hz2,?_⟩
   rw[ie,lt,ah]
   rfl
 rintro σ' H2 ⟨w1,rfl,s2,ez2⟩
 refine⟨⟨_,SqL.of ((Same.trans s1 s2) _ _ ec),by lia⟩,?_⟩
 rw[aG]at ez2
 walk_at "D"
 have s12:=s1.trans s2
 have ez1b:=s2 _ _ ez1
 subst hR
 refine iz fun R hR=>?_
 walk_at "D"
 intro d hd
 have s3:=iq hd (.dK [])
 have ed:upd H2 d (.dK []) d=some (.dK []):=ie
 generalize upd H2 d (.dK [])=H3 at s3 ed
 subst hR
 refine iz fun R hR=>?_
 have hlz:zs.length=ds.length:=ao pd
 refine ky (i6 K l) H3 (fun R' hR'=>?_) (lD (K:=K) (a:=l) (xs:=zs) (fun i σ Hc=>∃v1 v2 v3 v4 v5 v6 v7 kvs,σ=[some v,some (.ref l),some (.ref ch),some (.ref z1),some (.ref z2),some (.ref d),v1,v2,v3,v4,v5,v6,v7]/\Same H2 Hc/\Hc d=some (.dK kvs)/\jif kvs (ds.take i)/\kvs.length<=2*i) ⟨none,none,none,none,none,none,none,[],rfl,s3,ed,fun n=>.inl ⟨rfl,rfl⟩,bM _⟩ (fun i σ Hc _ ⟨_,_,_,_,_,_,_,_,_,s2',_⟩=>SqL.of ((s12.trans s2') _ _ el)) ?_ ?_)
 ·unfold jc
  walk_at "D"
  exact⟨l,rfl,⟨_,SqL.of ((s12.trans s3) _ _ el)⟩,hR'⟩
 ·rintro i x σ H4 hx ⟨v1,v2,v3,v4,v5,v6,v7,kvs,rfl,s4,ed2,pk,hkl⟩
  obtain⟨p,hp,px⟩:=jl pd hx
  obtain⟨t,rfl,ht⟩:=Tp.tups px (s12.trans s4).tups
  have hil:=(aq.mp hp).1
  simp_arith[ht,ed2,pk.get]
  have q1:=jif.put (f:=iZ (ds.take i)) pk p.1 p.2.2
  have kl1:=tK kvs (Sum.inl p.1:ij) (.int (iZ (ds.take i) p.1+p.2.2))
  refine⟨⟨_,rfl⟩,iM (by lia),⟨_,ie⟩,?_⟩
  generalize jm kvs (Sum.inl p.1:ij) (.int (iZ (ds.take i) p.1+p.2.2))=k1 at q1 kl1 ⊢
  have g2:(iK k1 (Sum.inl p.2.1:ij)).getD (.int 0)= .int (iZ (ds.take i) p.2.1+(if p.1=p.2.1 then p.2.2 else 0)):=by
   rcases q1 p.2.1 with⟨e,z⟩|e
   ·rw[e,z];rfl
   ·rw[e];rfl
  have q2:=jif.put (f:=fun n=>iZ (ds.take i) n+(if p.1=n then p.2.2 else 0)) q1 p.2.1 p.2.2
  have kl2:=tK k1 (Sum.inl p.2.1:ij) (.int (iZ (ds.take i) p.2.1+(if p.1=p.2.1 then p.2.2 else 0)+p.2.2))
  rw[ie]
  dsimp only
  rw[g2]
  dsimp only
  refine⟨iM (by lia),_,_,_,_,_,_,_,_,rfl,?_,ie,?_,by lia⟩
  ·exact iW (iW s4 hd) hd
  ·intro n
   rw [BW hp n,<- Int.add_assoc]
   exact q2 n
 rintro σ H4 ⟨v1,v2,v3,v4,v5,v6,v7,kvs,rfl,s4,ed4,pk,hkl⟩
 rw[hlz,aG]at pk
 have s14:=s12.trans s4
 have ez1c:=s4 _ _ ez1b
 have ez2c:=s4 _ _ ez2
 clear ez1b ez2 ez1 s3 ed
 obtain⟨wu,pa,ta,ws,ys,rfl,hu1,hpa,hta,hws,hys⟩:=hw
 have hlw:ws.length=ps.length:=ao hws
 have hly:ys.length=ts.length:=ao hys
 have wkl:=wk.pl
 have wkt:=wk.tl
 dsimp only
 subst hR
 refine iz fun R hR=>?_
 walk_at "D"
 refine jx (i6 K pa) H4 (fun R' hR'=>?_) (fun z3 hz3=>ju ps.length (fun i σ' Hc=>∃w1 w2 gs,σ'=[w1,w2,some (.ref d)]/\Same H4 Hc/\Hc z3=some (.lst gs)/\Lks Hc gs ((jB (ps.take i) ds).map fun p=>(some wL,[p]))) ⟨none,none,[],rfl,iq hz3 _,ie,.nil⟩ ?_ ?_)
 ·unfold jc
  simp_arith[ir,s14 _ _ hu1,iJ]
  exact⟨pa,rfl,⟨_,SqL.of (s14 _ _ hpa)⟩,hR'⟩
 ·rintro i σ' Hc hi ⟨w1,w2,gs,rfl,s2',ez,pg⟩
  have sA:=s14.trans s2'
  have x1:ws[i]? =some (ws[i]'(by lia)):=gE _
  have y1:SqL K Hc pa ws:=SqL.of (sA _ _ hpa)
  refine⟨⟨_,_,y1,x1⟩,?_⟩
  rintro y H' ⟨rfl,hy⟩
  obtain⟨q,hq,pq⟩:=jl hws (hy _ y1)
  obtain⟨t,rfl,ht⟩:=pq.same sA
  have ed5:=s2' _ _ ed4
  have lt:=Cd (ds:=ds) hq
  have lg:gs.length<=40:=by
   have e:=ao pg
   rw[aa]at e
   have:=(nj (ps.take i) ds).length_le
   rw[aa,aO]at this
   lia
  simp_arith[ht]
  refine⟨⟨kvs,ed5⟩,?_⟩
  simp only[ed5,pk.get]
  refine⟨mD (by decide) (by decide),?_⟩
  by_cases c9:iZ ds q.1<2*q.2
  ·rw[aH c9]at lt
   simp only[af c9,if_true]
   intro t5 ht5
   have q5:=iq ht5 (.tup [.str wL,.int q.1])
   have e5:upd H' t5 (.tup [.str wL,.int q.1]) t5=some (.tup (kC (some wL,[q.1]))):=ie
   have ez5:=q5 _ _ ez
   generalize upd H' t5 (.tup [.str wL,.int q.1])=H5 at q5 e5 ez5
   have t6:=kx (ys:=gs++[.ref t5]) ez5
   refine⟨_,ez5,iM (by lia),_,_,gs++[.ref t5],rfl,iW (s2'.trans q5) hz3,ie,?_⟩
   rw[lt,ah]
   exact kg (Lks.tups (Lks.tups pg q5.tups) t6) ⟨t5,rfl,t6 _ _ rfl e5⟩
  ·rw[aE c9,bb]at lt
   simp only[az c9,aM,if_false]
   exact⟨_,_,_,rfl,s2',ez,by rw[lt];exact pg⟩
 rintro σ' H5 ⟨w1,w2,gs,rfl,s5,ez3,pg⟩
 refine⟨⟨_,SqL.of ((s14.trans s5) _ _ hpa),by lia⟩,?_⟩
 rw[aG]at pg
 have s15:=s14.trans s5
 have hz3H:H z3=none:=s14.free hz3
 have ez1d:=s5 _ _ ez1c
 have ez2d:=s5 _ _ ez2c
 walk_at "D"
 subst hR
 refine iz fun R hR=>?_
 walk_at "D"
 refine jx (i6 K l) H5 (fun R' hR'=>?_) (fun z4 hz4=>ju ds.length (fun i σ' Hc=>∃w1 us,σ'=[w1]/\Same H5 Hc/\Hc z4=some (.lst us)/\Prs Hc us ((ds.take i).map fun d=>(d.1,d.2.1))) ⟨none,[],rfl,iq hz4 _,ie,.nil⟩ ?_ ?_)
 ·unfold jc
  walk_at "D"
  exact⟨l,rfl,⟨_,SqL.of (s15 _ _ el)⟩,hR'⟩
 ·rintro i σ' Hc hi ⟨w1,us,rfl,s2',ez,pu⟩
  have sA:=s15.trans s2'
  have x1:zs[i]? =some (zs[i]'(by lia)):=gE _
  have y1:SqL K Hc l zs:=SqL.of (sA _ _ el)
  refine⟨⟨_,_,y1,x1⟩,?_⟩
  rintro y H' ⟨rfl,hy⟩
  obtain⟨q,hq,pq⟩:=jl pd (hy _ y1)
  obtain⟨t,rfl,ht⟩:=Tp.tups pq sA.tups
  have lu:us.length<=200:=by
   have e:=ao pu
   rw[aa,aO]at e
   lia
  simp_arith[ht]
  refine⟨nJ (.int q.1) (.int q.2.1) (.int q.2.2),fun t5 ht5=>?_⟩
  rw[nC]
  have q5:=iq ht5 (.tup [.int q.1,.int q.2.1])
  have e5:upd H' t5 (.tup [.int q.1,.int q.2.1]) t5=some (.tup [.int q.1,.int q.2.1]):=ie
  have ez5:=q5 _ _ ez
  generalize upd H' t5 (.tup [.int q.1,.int q.2.1])=H6 at q5 e5 ez5
  have t6:=kx (ys:=us++[.ref t5]) ez5
  refine⟨_,ez5,iM (by lia),_,us++[.ref t5],rfl,iW (s2'.trans q5) hz4,ie,?_⟩
  rw[je hq,ah]
  exact kg (Prs.tups t6 (Prs.same q5 pu)) (Pr.tups (p:=(q.1,q.2.1)) ⟨t5,rfl,e5⟩ t6)
 rintro σ' H6 ⟨w1,us,rfl,s6,ez4,pu⟩
 refine⟨⟨_,SqL.of ((s15.trans s6) _ _ el),by lia⟩,?_⟩
 rw[aG]at pu
 have s16:=s15.trans s6
 have ez1e:=s6 _ _ ez1d
 have ez2e:=s6 _ _ ez2d
 have ez3e:=s6 _ _ ez3
 have pg6:=Lks.tups pg s6.tups
 walk_at "D"
 have n13:z1≠z3:=iI ez1c hz3
 have n23:z2≠z3:=iI ez2c hz3
 have n43:z4≠z3:=(iI ez3 hz4).symm
 have nt3:ta≠z3:=iI (s14 _ _ hta) hz3
 have hu6:=s16 _ _ hu1
 have ht6:=s16 _ _ hta
 have py6:=Prs.same s16 hys
 have pu6:Prs H6 us (ds.map fun d=>(d.1,d.2.1)):=pu
 have lg6:gs.length<=40:=by
  have e:=ao pg
  rw[aa]at e
  have:=(nj ps ds).length_le
  rw[aa]at this
  lia
 generalize hL0:(jB ps ds).map (fun p=>((some wL,[p]):Lk))=L0 at pg6
 have hins:(ka c).length<=200:=br (Bp c) hc
 generalize hI:ka c=ins at ez1e hins
 generalize hO:kn c=outs at ez2e
 subst hR
 refine iz fun R hR=>?_
 refine ky (i6 K ta) H6 (fun R' hR'=>?_) (lD (K:=K) (a:=ta) (xs:=ys) (fun j σ Hc=>∃v1 v2 v3 v6 v7 gs',σ=[some (.ref wu),some (.ref l),some (.ref ch),some (.ref z1),some (.ref z2),some (.ref d),v1,v2,v3,some (.ref z3),some (.ref z4),v6,v7]/\But z3 H6 Hc/\Hc z3=some (.lst gs')/\Lks Hc gs' (L0++(ts.take j).flatMap (nx ds ins outs))/\gs'.length<=40+4*j) ⟨v1,v2,v3,v6,v7,gs,rfl,But.refl _ _,ez3e,by simpa using pg6,by lia⟩ (fun j σ Hc _ ⟨_,_,_,_,_,_,_,b,_⟩=>SqL.of (b _ _ nt3 ht6)) ?_ ?_)
 ·unfold jc
  simp_arith[ir,hu6,iT]
  exact⟨ta,rfl,⟨_,SqL.of ht6⟩,hR'⟩
 ·rintro j x σ Hc hx ⟨v1,v2,v3,v6,v7,gs',rfl,bc,eg,pg',lg'⟩
  obtain⟨q,hq,px⟩:=jl py6 hx
  obtain⟨t,rfl,ht⟩:=px.tups (bc.tups ez3e rfl)
  have hj:=(aq.mp hq).1
  simp_arith[ht]
  refine B2 (ι:=Addr×Addr×Addr×Hp) (fun y=>i6 K y.2.2.1) (fun y=>y.2.2.2) (fun y=>Same Hc y.2.2.2/\y.2.2.2 y.1=some (.tup [.int q.1,.int q.2])/\y.2.2.2 y.2.1=some (.tup [.int q.2,.int q.1])/\y.2.2.2 y.2.2.1=some (.lst [.ref y.1,.ref y.2.1])/\Hc y.2.2.1=none) (fun R' hR'=>?_) ?_
  ·unfold jc
   walk_at "D"
   intro p5 h5 p6 h6 l7 h7
   have qa:=iq h5 (.tup [.int q.1,.int q.2])
   have qb:=iq h6 (.tup [.int q.2,.int q.1])
   have qc:=iq h7 (.lst [.ref p5,.ref p6])
   exact⟨l7,rfl,⟨_,SqL.of ie⟩,hR' (p5,p6,l7,_) ⟨(qa.trans qb).trans qc,qc _ _ (qb _ _ ie),qc _ _ ie,ie,(qa.trans qb).free h7⟩⟩
  ·rintro⟨t5,t6,l7,H8⟩ ⟨s8,e5,e6,e7,h7⟩
   dsimp only at s8 e5 e6 e7 h7
   have n7:l7≠z3:=(iI eg h7).symm
   have eg8:=s8 _ _ eg
   have p8:Prs H8 [.ref t5,.ref t6] [(q.1,q.2),(q.2,q.1)]:=.cons ⟨t5,rfl,e5⟩ (.cons ⟨t6,rfl,e6⟩ .nil)
   have f1:=s8 _ _ (bc _ _ n13 ez1e)
   have f2:=s8 _ _ (bc _ _ n23 ez2e)
   have f4:=s8 _ _ (bc _ _ n43 ez4)
   have pu8:=Prs.same s8 (Prs.tups (bc.tups ez3e rfl) pu6)
   have e7':H8 l7=some (.lst [.ref t5,.ref t6]):=e7
   clear e5 e6 e7
   refine lD (K:=K) (a:=l7) (xs:=[.ref t5,.ref t6]) (fun m σ Hd=>∃v3' v6' v7' gs2,σ=[some (.ref wu),some (.ref l),some (.ref ch),some (.ref z1),some (.ref z2),some (.ref d),some (.int q.1),some (.int q.2),v3',some (.ref z3),some (.ref z4),v6',v7']/\But z3 H8 Hd/\Hd z3=some (.lst gs2)/\Lks Hd gs2 ((L0++(ts.take j).flatMap (nx ds ins outs))++(([(q.1,q.2),(q.2,q.1)]:List (Int×Int)).take m).flatMap fun p=>nF ds ins outs q p.1 p.2)/\gs2.length<=gs'.length+2*m) ⟨v3,v6,v7,gs',rfl,But.refl _ _,eg8,by simpa using Lks.tups pg' s8.tups,by lia⟩ (fun m σ Hd _ ⟨_,_,_,_,_,b,_⟩=>SqL.of (b _ _ n7 e7')) ?_ ?_
   ·rintro m x σ Hd hx ⟨v3',v6',v7',gs2,rfl,bd,eg2,pg2,lg2⟩
    obtain⟨r,hr,px⟩:=jl p8 hx
    obtain⟨tt,rfl,htt⟩:=px.tups (bd.tups eg8 rfl)
    have hm:m<2:=(aq.mp hr).1
    have hfm:=bV (fun l:List (Int×Int)=>l.flatMap fun p=>nF ds ins outs q p.1 p.2) (je hr)
    simp only[gr,List.flatMap_cons,List.flatMap_nil,bb]at hfm
    rw[hfm]
    generalize ((([(q.1,q.2),(q.2,q.1)]:List (Int×Int)).take m).flatMap fun p=>nF ds ins outs q p.1 p.2)=LM at pg2
    simp only[rM,rZ,rL,mY,htt,List.length_cons,List.length_nil,Nat.reduceAdd,List.set_cons_zero,List.set_cons_succ,if_true,eq_self,true_and]
    have g1:=bd _ _ n13 f1
    have g2:=bd _ _ n23 f2
    refine Hi fun R8 E hR8 hE=>?_
    have PIN:∀(He:Hp) (gs3:List V),But z3 H8 He->He z3=some (.lst gs3)->Lks He gs3 (L0++(ts.take j).flatMap (nx ds ins outs)++(LM++(if r.1∈outs then[(some wB,[r.1,r.2])]else[])))->gs3.length<=gs2.length+1->R8 E [some (.ref wu),some (.ref l),some (.ref ch),some (.ref z1),some (.ref z2),some (.ref d),some (.int q.1),some (.int q.2),v3',some (.ref z3),some (.ref z4),some (.int r.1),some (.int r.2)] He:=by
     intro He gs3 be ee pe le
     subst hR8
     subst hE
     unfold nF
     generalize (if r.1∈outs then([(some wB,[r.1,r.2])]:List Lk)else[])=Z at pe ⊢
     have k1:=be _ _ n13 f1
     have k4:=be _ _ n43 f4
     have pk4:=Prs.tups (be.tups eg8 rfl) pu8
     simp_arith[ir,k1,tY,ll,tE]
     by_cases ci:r.1∈ins
     ·simp only[af ci,if_true]
      intro p5 h5
      have q5:=iq h5 (.tup [.int q.1,.int q.2])
      have f5:Pr (upd He p5 (.tup [.int q.1,.int q.2])) (.ref p5) q:=⟨p5,rfl,ie⟩
      generalize upd He p5 (.tup [.int q.1,.int q.2])=Hf at q5 f5
      have b5:But z3 H8 Hf:=be.trans (But.same q5)
      have e5:=q5 _ _ ee
      have pe5:=Lks.tups pe q5.tups
      refine⟨jd q,z4,us,(ds.map fun d=>(d.1,d.2.1)).map jd,f5.rep,rfl,q5 _ _ k4,Prs.reps (Prs.same q5 pk4),br (nX _) (by decide),?_⟩
      simp only[aM,if_false,yD]
      by_cases ct:q∈ds.map fun d=>(d.1,d.2.1)
      ·simp only[af ct,if_true]
       refine⟨⟨z3,_,rfl,e5⟩,fun p6 h6=>?_⟩
       have q6:=iq h6 (.tup [.str wT,.int r.1,.int r.2])
       have f6:upd Hf p6 (.tup [.str wT,.int r.1,.int r.2]) p6=some (.tup (kC (some wT,[r.1,r.2]))):=ie
       generalize upd Hf p6 (.tup [.str wT,.int r.1,.int r.2])=Hg at q6 f6
       have e6:=q6 _ _ e5
       simp only[e6]
       have t7:=kx (ys:=gs3++[.ref p6]) e6
       refine⟨iM (by lia),_,_,_,gs3++[.ref p6],rfl,(b5.trans (But.same q6)).trans (But.at z3 Hg _),ie,?_,by rw[aK,List.length_singleton];lia⟩
       have:=kg (Lks.tups (Lks.tups pe5 q6.tups) t7) (b:=((some wT,[r.1,r.2]):Lk)) ⟨p6,rfl,t7 _ _ rfl f6⟩
       rw[aH ⟨ci,ct⟩]
       simpa only[bf]using this
      ·simp only[az ct,aM,if_false]
       refine⟨_,_,_,gs3,rfl,b5,e5,?_,by lia⟩
       rw[aE (fun z=>ct z.2),bb]
       exact pe5
     ·simp only[az ci,aM,if_false]
      refine⟨_,_,_,gs3,rfl,be,ee,?_,by lia⟩
      rw[aE (fun z=>ci z.1),bb]
      exact pe
    simp_arith[ir,g2,tY,ll,tE]
    by_cases co:r.1∈outs
    ·simp only[af co,if_true]
     refine⟨⟨z3,_,rfl,eg2⟩,fun p6 h6=>?_⟩
     have q6:=iq h6 (.tup [.str wB,.int r.1,.int r.2])
     have f6:upd Hd p6 (.tup [.str wB,.int r.1,.int r.2]) p6=some (.tup (kC (some wB,[r.1,r.2]))):=ie
     generalize upd Hd p6 (.tup [.str wB,.int r.1,.int r.2])=Hg at q6 f6
     have e6:=q6 _ _ eg2
     simp only[e6]
     have t7:=kx (ys:=gs2++[.ref p6]) e6
     refine⟨iM (by lia),PIN _ (gs2++[.ref p6]) ((bd.trans (But.same q6)).trans (But.at z3 Hg _)) ie ?_ (by rw[aK,List.length_singleton];lia)⟩
     have:=kg (Lks.tups (Lks.tups pg2 q6.tups) t7) (b:=((some wB,[r.1,r.2]):Lk)) ⟨p6,rfl,t7 _ _ rfl f6⟩
     rw[aH co]
     simpa only[bf]using this
    ·simp only[az co,aM,if_false]
     exact PIN Hd gs2 bd eg2 (by rw[aE co,bb];exact pg2) (by lia)
   ·rintro σ Hd ⟨v3',v6',v7',gs2,rfl,bd,eg2,pg2,lg2⟩
    refine⟨_,_,_,_,_,gs2,rfl,?_,eg2,?_,?_⟩
    ·exact fun b o nb qb=>bd _ _ nb (s8 _ _ (bc _ _ nb qb))
    ·rw[je hq,gr]
     simp only[List.flatMap_cons,List.flatMap_nil,bb,nx]
     simpa using pg2
    ·simp only[List.length_cons,List.length_nil]at lg2
     lia
 ·rintro σ Hc ⟨v1,v2,v3,v6,v7,gs',rfl,bc,eg,pg',lg'⟩
  rw[hly,aG]at pg'
  subst hR
  walk_at "D"
  refine h z3 gs' Hc (fun b o q=>?_) hz3H eg (by unfold qd;rw[hL0,hI,hO];exact pg')
  exact bc _ _ (fun z=>by rw[z,hz3H]at q;cases q) (s16 _ _ q)
noncomputable def lJ(x:Lk):Dt:=.tup ((match x.1 with |some w=>[Dt.str w]|none=>[])++x.2.map Dt.int)
theorem LkAt.rep{H:Hp}{v:V}{x:Lk}(h:LkAt H v x):Rep H (lJ x) v:=by
 obtain⟨t,rfl,e⟩:=h
 obtain⟨w,ns⟩:=x
 unfold lJ
 rw[Rep]
 refine⟨t,_,rfl,e,?_⟩
 cases w with
 |none=>exact qO ns
 |some w=>
  show Reps H (Dt.str w::ns.map Dt.int) (V.str w::ns.map V.int)
  rw[Reps]
  exact⟨_,_,rfl,by rw[Rep],qO ns⟩
theorem Lks.reps{H:Hp}:∀{xs:List V} {c:List Lk},Lks H xs c->Reps H (c.map lJ) xs
 |_,_,.nil=>by rw[bJ,Reps]
 |_,_,.cons a t=>by rw[ai,Reps];exact⟨_,_,rfl,a.rep,Lks.reps t⟩
theorem wM:∀(a b:List Int),j7 (a.map Dt.int) (b.map Dt.int)=decide (a=b)
 |[],[]=>rfl
 |[],_::_=>rfl
 |_::_,[]=>rfl
 |x::a,y::b=>by
  rw[ai,ai,j7,wM a b]
  have e:i4 (.int x) (.int y)=decide (x=y):=by rw[i4];first|rfl|(rw[bP];simp)
  rw[e,bP]
  simp
theorem Kb(a b:Lk):i4 (lJ a) (lJ b)=decide (a=b):=by
 obtain⟨w,ns⟩:=a
 obtain⟨w',ns'⟩:=b
 unfold lJ
 rw[i4]
 cases w with
 | none=>
  cases w' with
  |none=>
   show j7 (ns.map Dt.int) (ns'.map Dt.int)=_
   rw[wM,bP]
   simp
  |some w'=>
   show j7 (ns.map Dt.int) (Dt.str w'::ns'.map Dt.int)=_
   cases ns with
   |nil=>rfl
   |cons n ns=>rw[ai,j7,show i4 (.int n) (.str w')=false by rw[i4]<;>simp,cR];simp
 | some w=>
  cases w' with
  |none=>
   show j7 (Dt.str w::ns.map Dt.int) (ns'.map Dt.int)=_
   cases ns' with
   |nil=>rfl
   |cons n ns'=>rw[ai,j7,show i4 (.str w) (.int n)=false by rw[i4]<;>simp,cR];simp
  |some w'=>
   show j7 (Dt.str w::ns.map Dt.int) (Dt.str w'::ns'.map Dt.int)=_
   rw[j7,wM]
   have e:i4 (.str w) (.str w')=decide (w=w'):=by rw[i4];first|rfl|(rw[bP];simp)
   rw[e,bP]
   simp
theorem Kn(l:List Lk)(x:Lk):((l.map lJ).any fun c=>i4 c (lJ x))=decide (x∈l):=by
 induction l with
 |nil=>rfl
 |cons a l ih=>
  rw[ai,List.any_cons,ih,Kb,bP,g9,bE,bE,bE,aR]
  exact⟨fun z=>z.imp (fun y=>y.symm) id,fun z=>z.imp (fun y=>y.symm) id⟩
theorem ED(x:Lk):jF (lJ x)<=1:=by
 have hi:∀ns:List Int,jo (ns.map Dt.int)=0:=fun ns=>by
  induction ns with
  |nil=>rfl
  |cons n ns ih=>rw[ai,jo,ih];rfl
 obtain⟨w,ns⟩:=x
 unfold lJ
 rw[jF]
 cases w with
 |none=>
  show jo (ns.map Dt.int)+1<=1
  rw[hi]
  exact aF _
 |some w=>
  show jo (Dt.str w::ns.map Dt.int)+1<=1
  rw[jo,hi]
  exact aF 1
theorem vP:∀(l:List Lk),jo (l.map lJ)<=1
 |[]=>by rw[bJ,jo];lia
 |x::r=>by
  rw[ai,jo]
  have:=ED x
  have:=vP r
  lia
theorem wt{ts:List (Int×Int)}(lt:∀t∈ts,t.1<t.2)(u v:Int):v∈jv ts u↔(u,v)∈ts\/(v,u)∈ts:=by
 unfold jv
 rw[ff]
 constructor
 ·rintro⟨t,ht,hv⟩
  unfold nr at hv
  split at hv
  ·rename_i c
   simp only[aU]at hv
   left
   rw [<- c,hv]
   exact ht
  ·split at hv
   ·rename_i c
    simp only[aU]at hv
    right
    rw [<- c,hv]
    exact ht
   ·cases hv
 ·rintro(h|h)
  ·exact⟨_,h,by unfold nr;rw[aH rfl];exact aU.mpr rfl⟩
  ·have:=lt _ h
   exact⟨_,h,by unfold nr;rw[aE (show ¬v=u by lia),aH rfl];exact aU.mpr rfl⟩
theorem qk{ds:List (Int×Int×Int)}{ins outs:List Int}{t:Int×Int}{x:Lk}:x∈nx ds ins outs t↔∃u v,((u,v)=t\/(v,u)=t)/\((x=(some wB,[u,v])/\u∈outs)\/(x=(some wT,[u,v])/\u∈ins/\t∈ds.map (fun d=>(d.1,d.2.1)))):=by
 have h1:∀u v:Int,x∈nF ds ins outs t u v↔((x=(some wB,[u,v])/\u∈outs)\/(x=(some wT,[u,v])/\u∈ins/\t∈ds.map (fun d=>(d.1,d.2.1)))):=fun u v=>by
  unfold nF
  rw[bz]
  refine or_congr ?_ ?_
  ·by_cases c:u∈outs
   ·rw[aH c,aU];exact⟨fun z=>⟨z,c⟩,fun z=>z.1⟩
   ·rw[aE c];exact⟨fun z=>(by cases z),fun z=>absurd z.2 c⟩
  ·by_cases c:u∈ins/\t∈ds.map (fun d=>(d.1,d.2.1))
   ·rw[aH c,aU];exact⟨fun z=>⟨z,c⟩,fun z=>z.1⟩
   ·rw[aE c];exact⟨fun z=>(by cases z),fun z=>absurd z.2 c⟩
 unfold nx
 rw[bz,h1,h1]
 constructor
 ·rintro(h|h)
  ·exact⟨t.1,t.2,.inl rfl,h⟩
  ·exact⟨t.2,t.1,.inr rfl,h⟩
 ·rintro⟨u,v,e|e,h⟩
  ·subst e;exact .inl h
  ·subst e;exact .inr h
theorem wZ(ds:List (Int×Int×Int))(a b:Int):kJ ds a b=true↔(a,b)∈ds.map (fun d=>(d.1,d.2.1))\/(b,a)∈ds.map (fun d=>(d.1,d.2.1)):=by
 unfold kJ
 rw[dZ]
 constructor
 ·rintro⟨d,hd,h⟩
  rw[g9,bo,bo]at h
  rcases h with h|h
  ·exact .inl (av.mpr ⟨d,hd,by rw[eq_of_beq h.1,eq_of_beq h.2]⟩)
  ·exact .inr (av.mpr ⟨d,hd,by rw[eq_of_beq h.1,eq_of_beq h.2]⟩)
 ·rintro(h|h)
  ·obtain⟨d,hd,e⟩:=av.mp h
   injection e with e1 e2
   exact⟨d,hd,by rw[e1,e2];simp⟩
  ·obtain⟨d,hd,e⟩:=av.mp h
   injection e with e1 e2
   exact⟨d,hd,by rw[e1,e2];simp⟩
section
variable{ps ts:List (Int×Int)}{ds:List (Int×Int×Int)}{ins outs:List Int}{x:Lk}
theorem Fh(wk:WebOk ps ts)(hd:∀d∈ds,(d.1,d.2.1)∈ts):x∈qd ps ts ds ins outs↔jX ps ts ds ins outs x=true:=by
 have lt:∀t∈ts,t.1<t.2:=fun t ht=>(wk.t.ats t ht).1
 have inn:∀{u v:Int},(u,v)∈ts\/(v,u)∈ts->u∈ps.map (·.1)/\v∈ps.map (·.1):=fun{u v} h=>by
  rcases h with h|h
  ·exact⟨lz (wk.t.ats _ h).2.1,lz (wk.t.ats _ h).2.2⟩
  ·exact⟨lz (wk.t.ats _ h).2.2,lz (wk.t.ats _ h).2.1⟩
 have hdm:∀t∈ds.map (fun d=>(d.1,d.2.1)),t∈ts:=fun t ht=>by
  obtain⟨d,h,rfl⟩:=av.mp ht
  exact hd d h
 unfold qd
 rw[bz,ff]
 constructor
 ·rintro(h|⟨t,ht,h⟩)
  ·obtain⟨p,hp,rfl⟩:=av.mp h
   have hn:=(nj ps ds).subset hp
   unfold jX kY
   simp only[af hn,af hp,cC,fh]
  ·obtain⟨u,v,e,h⟩:=qk.mp h
   have huv:(u,v)∈ts\/(v,u)∈ts:=by
    rcases e with e|e
    ·left;rw[e];exact ht
    ·right;rw[e];exact ht
   have hn:=(wt lt u v).mpr huv
   obtain⟨hu,hv⟩:=inn huv
   rcases h with⟨rfl,ho⟩|⟨rfl,hi,hm⟩
   ·unfold jX kY
    simp only[af hn,af hu,af hv,af ho,cC,Bool.true_or,fh,if_true]
   ·have htb:kJ ds u v=true:=(wZ ds u v).mpr (by
     rcases e with e|e
     ·left;rw[e];exact hm
     ·right;rw[e];exact hm)
    unfold jX kY
    simp only[af hn,af hu,af hv,af hi,htb,mJ,cC,dY,Bool.or_true,fh,if_false]
 ·intro h
  unfold jX at h
  rw[bo]at h
  obtain⟨h1,h2⟩:=h
  rcases xi h1 with⟨p,rfl⟩|⟨u,v,rfl⟩|⟨u,v,rfl⟩
  ·left
   exact av.mpr ⟨p,bp h2,rfl⟩
  ·right
   unfold kY at h1
   simp only[bo,bE]at h1
   dsimp only at h2
   rw[aH rfl]at h2
   rcases(wt lt u v).mp h1.2.2 with z|z
   ·exact⟨_,z,qk.mpr ⟨u,v,.inl rfl,.inl ⟨rfl,bp h2⟩⟩⟩
   ·exact⟨_,z,qk.mpr ⟨u,v,.inr rfl,.inl ⟨rfl,bp h2⟩⟩⟩
  ·right
   unfold kY at h1
   simp only[bo,bE]at h1
   dsimp only at h2
   rw[aE (by rw[mJ];exact id),bo]at h2
   have hi:=bp h2.1
   rcases(wt lt u v).mp h1.2.2 with z|z
   ·refine⟨_,z,qk.mpr ⟨u,v,.inl rfl,.inr ⟨rfl,hi,?_⟩⟩⟩
    rcases(wZ ds u v).mp h2.2 with y|y
    ·exact y
    ·have:=lt _ z
     have:=lt _ (hdm _ y)
     lia
   ·refine⟨_,z,qk.mpr ⟨u,v,.inr rfl,.inr ⟨rfl,hi,?_⟩⟩⟩
    rcases(wZ ds u v).mp h2.2 with y|y
    ·have:=lt _ z
     have:=lt _ (hdm _ y)
     lia
    ·exact y
theorem Ew(h:jX ps ts ds ins outs x=true):GLk x:=by
 unfold jX at h
 rw[bo]at h
 rcases xi h.1 with⟨p,rfl⟩|⟨u,v,rfl⟩|⟨u,v,rfl⟩
 ·exact .l p
 ·exact .b u v
 ·exact .t u v
theorem vm{ins' outs':List Int}(h1:∀n,n∈ins↔n∈ins')(h2:∀n,n∈outs↔n∈outs'):jX ps ts ds ins outs x=jX ps ts ds ins' outs' x:=by
 unfold jX
 simp only[h1,h2]
theorem tV:∀{c:List Lk} {ins outs ins' outs':List Int},(∀n,n∈ins↔n∈ins')->(∀n,n∈outs↔n∈outs')->jN ps ts ds ins outs c=jN ps ts ds ins' outs' c
 |[],_,_,_,_,_,_=>rfl
 |x::r,ins,outs,ins',outs',h1,h2=>by
  rw[jN,jN,vm h1 h2]
  congr 1
  split
  ·exact tV (fun n=>by rw[aR,aR,h1 n]) h2
  ·exact tV h1 (fun n=>by rw[aR,aR,h2 n])
theorem Ht{c:List Lk}{i:Nat}(h:c[i]? =some x)(ok:jX ps ts ds (ka (c.take i)) (kn (c.take i)) x=true):jN ps ts ds (ka (c.take i)) (kn (c.take i)) (c.drop i)=jN ps ts ds (ka (c.take (i+1))) (kn (c.take (i+1))) (c.drop (i+1)):=by
 rw[nh h,jN,ok,cu,BP h,Cj h]
 split
 ·exact tV (fun n=>by rw[aR,bz,aU];exact or_comm) (fun n=>by rw[bb])
 ·exact tV (fun n=>by rw[bb]) (fun n=>by rw[aR,bz,aU];exact or_comm)
theorem wK:∀{c:List Lk} {ins outs:List Int},jN ps ts ds ins outs (c++[x])=(jN ps ts ds ins outs c&&jX ps ts ds (ka c++ins) (kn c++outs) x)
 |[],ins,outs=>by
  show jN ps ts ds ins outs [x]=_
  rw[jN,jN]
  simp[jN,ka,kn]
 | y::c,ins,outs=>by
  rw[List.cons_append,jN,jN,Bool.and_assoc]
  congr 1
  have e1:ka (y::c)=(if y.1=some wB then[iC y]else[])++ka c:=by
   unfold ka
   by_cases e:y.1=some wB<;>simp[e]
  have e2:kn (y::c)=(if y.1=some wB then[]else[iC y])++kn c:=by
   unfold kn
   by_cases e:y.1=some wB<;>simp[e]
  by_cases e:y.1=some wB
  ·rw[aH e,aH e,wK,e1,e2,aH e,aH e]
   congr 1
   exact vm (fun n=>by simp only[bz,aR,fe,hJ,List.nil_append];exact⟨fun z=>by rcases z with z|z|z<;>simp[z],fun z=>by rcases z with(z|z)|z<;>simp[z]⟩) (fun n=>by simp)
  ·rw[aE e,aE e,wK,e1,e2,aE e,aE e]
   congr 1
   exact vm (fun n=>by simp) (fun n=>by simp only[bz,aR,fe,hJ,List.nil_append];exact⟨fun z=>by rcases z with z|z|z<;>simp[z],fun z=>by rcases z with(z|z)|z<;>simp[z]⟩)
end
end
end My
namespace Fl
structure Tw where
 a:Int
 b:Int
 x:Int
 y:Int
def iR(n m v:Int):Int:=if n=m then v else 0
theorem qP(n v:Int):iR n n v=v:=by unfold iR;rw[aH rfl]
theorem kM{n m:Int}(h:n≠m)(v:Int):iR n m v=0:=by unfold iR;rw[aE h]
theorem qF(c:Int->Int)(a x:Int):∀{ns:List Int},ns.Nodup->a∈ns->(ns.map fun p=>c p*iR a p x).sum=c a*x
 |[],_,h=>by cases h
 | n ::ns,nd,h=>by
  rw[ai,List.sum_cons]
  have nd':=bO.mp nd
  by_cases e:a=n
  ·subst e
   have h0:∀{l:List Int},a∉l->(l.map fun p=>c p*iR a p x).sum=0:=by
    intro l
    induction l with
    |nil=>intro _;rfl
    |cons m l ih=>
     intro hm
     rw[ai,List.sum_cons,kM (fun z:a=m=>hm (by rw[z];exact aZ ..)),fq,ih fun z=>hm (aP _ z)]
     rfl
   rw[qP,h0 nd'.1,eU]
  ·have hm:a∈ns:=(aR.mp h).resolve_left e
   rw[kM e,fq,qF c a x nd'.2 hm,eT]
theorem lC{α:Type}(f g:α->Int):∀(l:List α),(l.map fun p=>f p+g p).sum=(l.map f).sum+(l.map g).sum
 |[]=>rfl
 |a::l=>by
  rw[ai,ai,ai,List.sum_cons,List.sum_cons,List.sum_cons,lC f g l]
  lia
theorem ml{α:Type}:∀(l:List α),(l.map fun _=>(0:Int)).sum=0
 |[]=>rfl
 |_::l=>by rw[ai,List.sum_cons,ml l];rfl
theorem j4{α:Type}{f g:α->Int}:∀{l:List α},(∀p∈l,f p=g p)->(l.map f).sum=(l.map g).sum
 |[],_=>rfl
 |a::l,h=>by
  rw[ai,ai,List.sum_cons,List.sum_cons,h a (aZ ..),j4 fun p hp=>h p (aP _ hp)]
noncomputable def kB(zs:List Tw)(p:Int):Int:=(zs.map fun z=>iR z.a p z.x+iR z.b p z.y).sum
noncomputable def inR(zs:List Tw)(p:Int):Int:=(zs.map fun z=>iR z.b p z.x+iR z.a p z.y).sum
theorem tf(c:Int->Int){ns:List Int}(nd:ns.Nodup):∀{zs:List Tw},(∀z∈zs,z.a∈ns/\z.b∈ns)->(ns.map fun p=>c p*kB zs p).sum=(zs.map fun z=>c z.a*z.x+c z.b*z.y).sum
 |[],_=>by
  show(ns.map fun p=>c p*0).sum=0
  rw[j4 (g:=fun _=>0) fun p _=>fq _,ml]
 | z::zs,h=>by
  have hz:=h z (aZ ..)
  have e:∀p∈ns,c p*kB (z::zs) p=(c p*iR z.a p z.x+c p*iR z.b p z.y)+c p*kB zs p:=fun p _=>by
   unfold kB
   rw[ai,List.sum_cons,eJ,eJ]
  rw[j4 e,lC,lC,qF c _ _ nd hz.1,qF c _ _ nd hz.2,tf c nd fun z hz=>h z (aP _ hz),ai,List.sum_cons]
theorem vB(c:Int->Int){ns:List Int}(nd:ns.Nodup):∀{zs:List Tw},(∀z∈zs,z.a∈ns/\z.b∈ns)->(ns.map fun p=>c p*inR zs p).sum=(zs.map fun z=>c z.b*z.x+c z.a*z.y).sum
 |[],_=>by
  show(ns.map fun p=>c p*0).sum=0
  rw[j4 (g:=fun _=>0) fun p _=>fq _,ml]
 | z::zs,h=>by
  have hz:=h z (aZ ..)
  have e:∀p∈ns,c p*inR (z::zs) p=(c p*iR z.b p z.x+c p*iR z.a p z.y)+c p*inR zs p:=fun p _=>by
   unfold inR
   rw[ai,List.sum_cons,eJ,eJ]
  rw[j4 e,lC,lC,qF c _ _ nd hz.2,qF c _ _ nd hz.1,vB c nd fun z hz=>h z (aP _ hz),ai,List.sum_cons]
structure Full(ns:List Int)(pr:Int->Int)(zs:List Tw)(fs ft:Int->Int)(SL SR:Int->Bool):Prop where
 nd:ns.Nodup
 ends:∀z∈zs,z.a∈ns/\z.b∈ns
 pos:∀z∈zs,0<=z.x/\0<=z.y
 left:∀p∈ns,fs p=kB zs p
 right:∀p∈ns,ft p=inR zs p
 capL:∀p∈ns,0<=fs p/\fs p<=pr p
 capR:∀p∈ns,0<=ft p/\ft p<=pr p
 satL:∀p∈ns,SL p=false->fs p=pr p
 satR:∀p∈ns,SR p=true->ft p=pr p
 go:∀z∈zs,(SL z.a=true->SR z.b=true)/\(SL z.b=true->SR z.a=true)
 zero:∀z∈zs,(SR z.b=true->SL z.a=false->z.x=0)/\(SR z.a=true->SL z.b=false->z.y=0)
def one(b:Bool):Int:=if b=true then 1 else 0
def kH(SL SR:Int->Bool)(p:Int):Int:=(1-one (SL p))+one (SR p)
theorem yW(b:Bool):0<=one b/\one b<=1:=by cases b<;>decide
section
variable{ns:List Int}{pr:Int->Int}{zs:List Tw}{fs ft:Int->Int}{SL SR:Int->Bool}
theorem CL(p:Int):0<=kH SL SR p/\kH SL SR p<=2:=by
 unfold kH
 have:=yW (SL p)
 have:=yW (SR p)
 lia
theorem Full.two(F:Full ns pr zs fs ft SL SR):∀z∈zs,2<=kH SL SR z.a+kH SL SR z.b:=fun z hz=>by
 obtain⟨g1,g2⟩:=F.go z hz
 unfold kH one
 cases h1:SL z.a<;>cases h2:SL z.b<;>cases h3:SR z.a<;>cases h4:SR z.b<;>simp_all
theorem Full.paid(F:Full ns pr zs fs ft SL SR){p:Int}(hp:p∈ns):(zs.map fun z=>iR z.a p (z.x+z.y)+iR z.b p (z.x+z.y)).sum<=2*pr p:=by
 have e:(zs.map fun z=>iR z.a p (z.x+z.y)+iR z.b p (z.x+z.y)).sum=kB zs p+inR zs p:=by
  unfold kB inR
  rw [<- lC]
  refine j4 fun z _=>?_
  unfold iR
  split<;>split<;>lia
 rw [e,<- F.left p hp,<- F.right p hp]
 have:=F.capL p hp
 have:=F.capR p hp
 lia
theorem Full.worth(F:Full ns pr zs fs ft SL SR):(zs.map fun z=>z.x+z.y).sum=(ns.map fun p=>pr p*kH SL SR p).sum:=by
 have h1:(zs.map fun z=>z.x+z.y).sum=(ns.map fs).sum:=by
  have:=tf (fun _=>1) F.nd (zs:=zs) F.ends
  rw[j4 (g:=fs) (fun p hp=>by rw[Int.one_mul,F.left p hp])]at this
  rw[this]
  exact j4 fun z _=>by rw[Int.one_mul,Int.one_mul]
 have h2:(ns.map fs).sum=(ns.map fun p=>(1-one (SL p))*pr p).sum+(ns.map fun p=>one (SL p)*kB zs p).sum:=by
  rw [<- lC]
  refine j4 fun p hp=>?_
  cases e:SL p with
  | true=>rw [<- F.left p hp]; show fs p = (1 - 1) * pr p + 1 * fs p; lia
  |false=>rw[F.satL p hp e];show pr p=(1-0)*pr p+0*kB zs p;lia
 have h3:(ns.map fun p=>one (SL p)*kB zs p).sum=(ns.map fun p=>one (SR p)*inR zs p).sum:=by
  rw[tf _ F.nd F.ends,vB _ F.nd F.ends]
  refine j4 fun z hz=>?_
  obtain⟨g1,g2⟩:=F.go z hz
  obtain⟨z1,z2⟩:=F.zero z hz
  have e1:one (SL z.a)*z.x=one (SR z.b)*z.x:=by
   cases h1:SL z.a with
   |true=>rw[g1 h1]
   |false=>
    cases h2:SR z.b with
    |false=>rfl
    |true=>rw[z1 h2 h1];rfl
  have e2:one (SL z.b)*z.y=one (SR z.a)*z.y:=by
   cases h1:SL z.b with
   |true=>rw[g2 h1]
   |false=>
    cases h2:SR z.a with
    |false=>rfl
    |true=>rw[z2 h2 h1];rfl
  rw[e1,e2]
 have h4:(ns.map fun p=>one (SR p)*inR zs p).sum=(ns.map fun p=>one (SR p)*pr p).sum:=j4 fun p hp=>by
  cases e:SR p with
  | true=>rw [<- F.right p hp,F.satR p hp e]
  |false=>show 0*_=0*_;lia
 rw [h1,h2,h3,h4,<- lC]
 refine j4 fun p _=>?_
 unfold kH
 rw[eJ,dh (pr p),dh (pr p)]
end
end Fl
namespace Fl
noncomputable def iP(w:Nat):Nat:=if w%2=0 then w+1 else w-1
theorem Bw(w:Nat):iP (iP w)=w:=by unfold iP;split<;>split<;>lia
theorem uP(w:Nat):iP w≠w:=by unfold iP;split<;>lia
theorem rH{w m:Nat}(h:w<2*m):iP w<2*m:=by unfold iP;split<;>lia
def at'(l:List Int)(i:Nat):Int:=l.getD i 0
theorem xM(l:List Int)(i j:Nat)(v:Int):at' (l.set i v) j=if i=j/\j<l.length then v else at' l j:=by
 unfold at'
 rw[aV,aV,List.getElem?_set]
 by_cases h:i=j
 ·by_cases h2:j<l.length
  ·rw[aH h,aH (by lia),aH ⟨h,h2⟩];rfl
  ·rw[aH h,aE (by lia),aE (fun z=>h2 z.2),bF (by lia)]
 ·rw[aE h,aE (fun z=>h z.1)]
noncomputable def bump(r:List Int)(w:Nat)(a:Int):List Int:=(r.set w (at' r w-a)).set (iP w) (at' r (iP w)+a)
theorem vZ(r:List Int)(w:Nat)(a:Int):(bump r w a).length=r.length:=by unfold bump;rw[eG,eG]
theorem vG{r:List Int}{w m:Nat}{a:Int}(hl:r.length=2*m)(hw:w<2*m)(j:Nat):at' (bump r w a) j=at' r j-(if j=w then a else 0)+(if j=iP w then a else 0):=by
 unfold bump
 rw[xM,xM]
 have hm:=rH hw
 have hn:=uP w
 rw[eG,hl]
 by_cases h1:j=iP w
 ·subst h1
  rw[aH ⟨rfl,hm⟩,aE hn,aH rfl]
  lia
 ·rw[aE (fun z=>h1 z.1.symm),aE h1]
  by_cases h2:j=w
  ·subst h2
   rw[aH ⟨rfl,hw⟩,aH rfl]
   lia
  ·rw[aE (fun z=>h2 z.1.symm),aE h2]
   lia
theorem xq{g g':Nat->Int}:∀{m k0:Nat},k0<m->(∀k,k≠k0->g' k=g k)->((List.range m).map g').sum=((List.range m).map g).sum+(g' k0-g k0)
 |0,_,h,_=>by lia
 | m+1,k0,h,he=>by
  rw[bZ,ah,ah,cG,cG]
  show _+(g' m+0)=_+(g m+0)+_
  by_cases c:k0=m
  ·subst c
   have e:((List.range k0).map g').sum=((List.range k0).map g).sum:=j4 fun k hk=>he k (by have:=bI.mp hk;lia)
   rw[e]
   lia
  ·rw[xq (m:=m) (k0:=k0) (by lia) he,he m (fun z=>c z.symm)]
   lia
noncomputable def ex(hs:List Int)(m:Nat)(r:List Int)(v:Int):Int:=((List.range m).map fun k=>iR (at' hs (2*k)) v (at' r (2*k+1))-iR (at' hs (2*k+1)) v (at' r (2*k+1))).sum
theorem AQ(n v a b:Int):iR n v (a+b)=iR n v a+iR n v b:=by unfold iR;split<;>lia
theorem AS(n v a b:Int):iR n v (a-b)=iR n v a-iR n v b:=by unfold iR;split<;>lia
theorem EW{hs r:List Int}{m w:Nat}{a:Int}(hl:r.length=2*m)(hw:w<2*m)(v:Int):ex hs m (bump r w a) v=ex hs m r v+iR (at' hs w) v a-iR (at' hs (iP w)) v a:=by
 unfold ex
 have hk:w/2<m:=by lia
 rw[xq (g:=fun k=>iR (at' hs (2*k)) v (at' r (2*k+1))-iR (at' hs (2*k+1)) v (at' r (2*k+1))) hk (fun k hne=>?_)]
 ·rw[vG hl hw]
  by_cases c:w%2=0
  ·have e1:iP w=w+1:=by unfold iP;rw[aH c]
   have e2:2*(w/2)=w:=by lia
   rw[e2,e1,aE (by lia),aH rfl,Int.sub_zero,AQ,AQ]
   lia
  ·have e1:iP w=w-1:=by unfold iP;rw[aE c]
   have e2:2*(w/2)+1=w:=by lia
   have e3:2*(w/2)=w-1:=by lia
   rw[e2,e3,e1,aH rfl,aE (by lia),eU,AS,AS]
   lia
 ·rw[vG hl hw,aE (by lia),aE (by unfold iP;split<;>lia),Int.sub_zero,eU]
def push(r:List Int)(tr:List Nat)(a:Int):List Int:=tr.foldl (fun r w=>bump r w a) r
theorem rE:∀(tr:List Nat) (r:List Int) (a:Int),(push r tr a).length=r.length
 |[],_,_=>rfl
 |w::tr,r,a=>by
  show(push (bump r w a) tr a).length=_
  rw[rE tr,vZ]
def rJ(hs:List Int):Int->List Nat->Int->Prop
 |t,[],s=>t=s
 |t,w::tr,s=>at' hs w=t/\rJ hs (at' hs (iP w)) tr s
theorem zF{hs:List Int}{m:Nat}{a:Int}{s:Int}(v:Int):∀{tr:List Nat} {r:List Int} {t:Int},r.length=2*m->(∀w∈tr,w<2*m)->rJ hs t tr s->ex hs m (push r tr a) v=ex hs m r v+iR t v a-iR s v a
 |[],r,t,_,_,h=>by
  have h:t=s:=h
  subst h
  show ex hs m r v=_
  lia
 |w::tr,r,t,hl,hw,h=>by
  show ex hs m (push (bump r w a) tr a) v=_
  obtain⟨h1,h2⟩:=h
  rw[zF v (by rw[vZ];exact hl) (fun x hx=>hw x (aP _ hx)) h2,EW hl (hw w (aZ ..)),h1]
  lia
theorem By(a:Int)(n:Nat):a*((n+1:Nat):Int)=a*(n:Int)+a:=by rw[Int.natCast_add,eJ];show _+a*1=_;rw[Int.mul_one]
theorem sP{m:Nat}{a:Int}(j:Nat):∀{tr:List Nat} {r:List Int},r.length=2*m->(∀w∈tr,w<2*m)->at' (push r tr a) j=at' r j-a*(tr.count j:Int)+a*(tr.count (iP j):Int)
 |[],r,_,_=>by
  show at' r j=at' r j-a*0+a*0
  lia
 | w::tr,r,hl,hw=>by
  show at' (push (bump r w a) tr a) j=_
  have hm:(j=iP w)↔(w=iP j):=⟨fun z=>by rw[z,Bw],fun z=>by rw[z,Bw]⟩
  rw[sP j (by rw[vZ];exact hl) (fun x hx=>hw x (aP _ hx)),vG hl (hw w (aZ ..)),List.count_cons,List.count_cons]
  by_cases c1:j=w
  ·by_cases c2:j=iP w
   ·exact absurd (c2.symm.trans c1) (uP w)
   ·rw[aH c1,aE c2,aH (by simp[c1]),aE (by simp;exact fun z=>c2 (hm.mpr z)),By]
    simp only[Nat.add_zero]
    lia
  ·by_cases c2:j=iP w
   ·rw[aE c1,aH c2,aE (by simp;exact fun z=>c1 z.symm),aH (by simp;exact hm.mp c2),By]
    simp only[Nat.add_zero]
    lia
   ·rw[aE c1,aE c2,aE (by simp;exact fun z=>c1 z.symm),aE (by simp;exact fun z=>c2 (hm.mpr z))]
    simp only[Nat.add_zero]
    lia
end Fl
namespace Fl
abbrev Cb:=List (Int×Option Nat)
noncomputable def seen(cb:Cb)(v:Int):Bool:=decide (v∈cb.map (·.1))
noncomputable def jW(hs r:List Int):Cb->List Nat->Cb
 |cb,[]=>cb
 |cb,w::ws=>jW hs r (if 0<at' r w/\seen cb (at' hs w)=false then cb++[(at' hs w,some w)]else cb) ws
noncomputable def ji(wf:Int->List Nat)(hs r:List Int)(s:Int):Nat->Cb
 |0=>[(s,none)]
 |k+1=>match(ji wf hs r s k)[k]? with
  |some p=>jW hs r (ji wf hs r s k) (wf p.1)
  |none=>ji wf hs r s k
structure Cam(hs r:List Int)(m:Nat)(s:Int)(cb:Cb):Prop where
 nd:(cb.map (·.1)).Nodup
 first:cb[0]? =some (s,none)
 came:∀i v o,cb[i]? =some (v,o)->0<i->∃w,o=some w/\w<2*m/\0<at' r w/\at' hs w=v/\∃j u,j<i/\(cb[j]?.map (·.1))=some u/\at' hs (iP w)=u
section
variable{hs r:List Int}{m:Nat}{s:Int}
theorem Cam.put{cb:Cb}(h:Cam hs r m s cb){w:Nat}{j:Nat}{u:Int}(hw:w<2*m)(hp:0<at' r w)(hn:seen cb (at' hs w)=false)(hj:(cb[j]?.map (·.1))=some u)(hu:at' hs (iP w)=u):Cam hs r m s (cb++[(at' hs w,some w)]):=by
 have hlen:0<cb.length:=by
  have:=h.first
  cases cb with
  |nil=>cases this
  |cons _ _=>simp
 have hjl:j<cb.length:=by
  cases e:cb[j]? with
  |none=>rw[e]at hj;cases hj
  |some p=>exact(aq.mp e).1
 refine⟨?_,?_,?_⟩
 ·rw[ah,eQ]
  refine⟨h.nd,by simp,fun a ha b hb=>?_⟩
  simp at hb
  subst hb
  intro z
  subst z
  unfold seen at hn
  rw[fJ]at hn
  exact hn ha
 ·rw[bx hlen]
  exact h.first
 ·intro i v o hi h0
  by_cases c:i<cb.length
  ·rw[bx c]at hi
   obtain⟨w',h1,h2,h3,h4,j',u',h5,h6,h7⟩:=h.came i v o hi h0
   exact⟨w',h1,h2,h3,h4,j',u',h5,by rw[bx (by lia)];exact h6,h7⟩
  ·rw[cQ (by lia)]at hi
   have:i-cb.length=0:=by
    cases e:i-cb.length with
    |zero=>rfl
    |succ n=>rw[e]at hi;simp at hi
   rw[this]at hi
   simp at hi
   obtain⟨rfl,rfl⟩:=hi
   exact⟨w,rfl,hw,hp,rfl,j,u,by lia,by rw[bx hjl];exact hj,hu⟩
theorem w8:∀{ws:List Nat} {cb:Cb} {j:Nat} {u:Int},Cam hs r m s cb->(cb[j]?.map (·.1))=some u->(∀w∈ws,w<2*m/\at' hs (iP w)=u)->Cam hs r m s (jW hs r cb ws)
 |[],_,_,_,h,_,_=>h
 | w::ws,cb,j,u,h,hj,hw=>by
  unfold jW
  have h1:=hw w (aZ ..)
  have hjl:j<cb.length:=by
   cases e:cb[j]? with
   |none=>rw[e]at hj;cases hj
   |some p=>exact(aq.mp e).1
  split
  ·rename_i c
   exact w8 (j:=j) (u:=u) (h.put h1.1 c.1 c.2 hj h1.2) (by rw[bx hjl];exact hj) fun x hx=>hw x (aP _ hx)
  ·exact w8 h hj fun x hx=>hw x (aP _ hx)
theorem oU:∀(ws:List Nat) (cb:Cb),∃l,jW hs r cb ws=cb++l
 |[],cb=>⟨[],(bb _).symm⟩
 | w::ws,cb=>by
  unfold jW
  split
  ·obtain⟨l,e⟩:=oU ws (cb++[(at' hs w,some w)])
   exact⟨(at' hs w,some w)::l,by rw[e,bf];rfl⟩
  ·exact oU ws cb
theorem BL:∀{ws:List Nat} {cb:Cb} {w:Nat},w∈ws->0<at' r w->at' hs w∈(jW hs r cb ws).map (·.1)
 | x::ws,cb,w,h,hp=>by
  unfold jW
  rcases aR.mp h with rfl|h
  ·by_cases c:seen cb (at' hs w)=false
   ·rw[aH ⟨hp,c⟩]
    obtain⟨l,e⟩:=oU (hs:=hs) (r:=r) ws (cb++[(at' hs w,some w)])
    rw[e]
    simp
   ·rw[aE (fun z=>c z.2)]
    obtain⟨l,e⟩:=oU (hs:=hs) (r:=r) ws cb
    rw[e,ah,bz]
    left
    unfold seen at c
    simpa using c
  ·exact BL h hp
end
section
variable{wf:Int->List Nat}{hs r:List Int}{m:Nat}{s:Int}
theorem mS(hwf:∀u,∀w∈wf u,w<2*m/\at' hs (iP w)=u):∀k,Cam hs r m s (ji wf hs r s k)
 | 0=>⟨by simp[ji],rfl,fun i v o h h0=>by
   cases i with
   |zero=>lia
   |succ i=>simp[ji]at h⟩
 | k+1=>by
  unfold ji
  have ih:=mS hwf k
  split
  ·rename_i p e
   exact w8 ih (j:=k) (u:=p.1) (by rw[e];rfl) (hwf p.1)
  ·exact ih
theorem yi(k:Nat):∃l,ji wf hs r s (k+1)=ji wf hs r s k++l:=by
 rw[ji]
 split
 ·exact oU _ _
 ·exact⟨[],(bb _).symm⟩
theorem uL{k:Nat}(h:(ji wf hs r s k).length<=k):∀j,ji wf hs r s (k+j)=ji wf hs r s k
 |0=>rfl
 |j+1=>by
  have ih:=uL h j
  show ji wf hs r s (k+j+1)=_
  rw[ji,ih,bF (by lia)]
theorem A7:∀{k:Nat} {i:Nat} {p:Int×Option Nat} {w:Nat},i<k->(ji wf hs r s k)[i]? =some p->w∈wf p.1->0<at' r w->at' hs w∈(ji wf hs r s k).map (·.1)
 | k+1,i,p,w,hi,hp,hw,h0=>by
  obtain⟨l,e⟩:=yi (wf:=wf) (hs:=hs) (r:=r) (s:=s) k
  by_cases c:i<(ji wf hs r s k).length
  ·rw[e,bx c]at hp
   by_cases c2:i=k
   ·subst c2
    rw[ji,hp]
    exact BL hw h0
   ·rw[e,ah,bz]
    left
    exact A7 (by lia) hp hw h0
  ·by_cases c3:(ji wf hs r s k).length<=k
   ·have:=uL c3 1
    rw[this,bF (by lia)]at hp
    cases hp
   ·lia
end
end Fl
namespace Fl
noncomputable def lk(cb:Cb)(v:Int):Option Nat:=(cb.find? fun p=>decide (p.1=v)).bind (·.2)
theorem u5{cb:Cb}(nd:(cb.map (·.1)).Nodup){i:Nat}{v:Int}{o:Option Nat}(h:cb[i]? =some (v,o)):lk cb v=o:=by
 unfold lk
 induction cb generalizing i with
 |nil=>cases h
 | cons p cb ih=>
  rw[ai]at nd
  have nd':=bO.mp nd
  rw[List.find?_cons]
  cases i with
  |zero=>
   simp at h
   subst h
   simp
  |succ i=>
   simp at h
   have hm:v∈cb.map (·.1):=av.mpr ⟨(v,o),aA h,rfl⟩
   have hne:p.1≠v:=fun z=>nd'.1 (z▸hm)
   rw[az hne]
   exact ih nd'.2 h
theorem Fd{cb:Cb}{v:Int}(h:v∉cb.map (·.1)):lk cb v=none:=by
 unfold lk
 rw[List.find?_eq_none.mpr fun p hp=>by
  rw[bE]
  exact fun z=>h (av.mpr ⟨p,hp,z⟩)]
 rfl
noncomputable def jH(hs:List Int)(cb:Cb):Nat->Int->List Nat
 |0,_=>[]
 |f+1,v=>match lk cb v with
  |some w=>w::jH hs cb f (at' hs (iP w))
  |none=>[]
noncomputable def key(cb:Cb)(i:Nat):Option Int:=cb[i]?.map (·.1)
theorem E9{cb:Cb}(nd:(cb.map (·.1)).Nodup){i j:Nat}{v:Int}(h1:key cb i=some v)(h2:key cb j=some v):i=j:=by
 unfold key at h1 h2
 rw [<- aJ] at h1 h2
 obtain⟨a,b⟩:=aq.mp h1
 obtain⟨c,d⟩:=aq.mp h2
 exact(fN nd).mp (b.trans d.symm)
structure Good(hs r:List Int)(m:Nat)(cb:Cb)(i:Nat)(tr:List Nat):Prop where
 up:∀w∈tr,w<2*m/\0<at' r w/\∃k j,j<k/\k<=i/\key cb k=some (at' hs w)/\key cb j=some (at' hs (iP w))
 nd:tr.Nodup
section
variable{hs r:List Int}{m:Nat}{s:Int}{cb:Cb}
theorem B6(C:Cam hs r m s cb):∀(i:Nat) (v:Int) (o:Option Nat),cb[i]? =some (v,o)->∀f,i<=f->rJ hs v (jH hs cb f v) s/\Good hs r m cb i (jH hs cb f v)/\(0<i->jH hs cb f v≠[]):=by
 intro i
 induction i using Nat.strongRecOn with
 | ind i ih=>
  intro v o h f hf
  by_cases h0:i=0
  ·subst h0
   have e:=C.first
   rw[h]at e
   have ho:o=none:=bV Prod.snd (aD e)
   have hv:v=s:=bV Prod.fst (aD e)
   have hl:=u5 C.nd h
   rw[ho]at hl
   have ht:jH hs cb f v=[]:=by
    cases f with
    |zero=>rfl
    |succ f=>unfold jH;rw[hl]
   rw[ht]
   exact⟨hv,⟨(fun w hw=>by cases hw),.nil⟩,fun z=>by lia⟩
  ·obtain⟨w,rfl,h2,h3,h4,j,u,h5,h6,h7⟩:=C.came i v o h (by lia)
   have hl:=u5 C.nd h
   obtain⟨f',rfl⟩:∃f',f=f'+1:=⟨f-1,by lia⟩
   have ht:jH hs cb (f'+1) v=w::jH hs cb f' u:=by
    rw[jH,hl]
    dsimp only
    rw[h7]
   obtain⟨p,hp⟩:∃p,cb[j]? =some p:=by
    cases e:cb[j]? with
    |none=>rw[e]at h6;cases h6
    |some p=>exact⟨p,rfl⟩
   have hpu:p.1=u:=by rw[hp]at h6;exact aD h6
   obtain⟨p1,p2⟩:=p
   dsimp only at hpu
   subst hpu
   obtain⟨t1,t2,_⟩:=ih j h5 p1 p2 hp f' (by lia)
   rw[ht]
   have kv:key cb i=some v:=by unfold key;rw[h];rfl
   refine⟨⟨h4,by rw[h7];exact t1⟩,⟨fun x hx=>?_,?_⟩,fun _=>by simp⟩
   ·rcases aR.mp hx with rfl|hx
    ·exact⟨h2,h3,i,j,h5,aF _,by rw[h4];exact kv,by rw[h7];exact h6⟩
    ·obtain⟨a,b,k,l,c1,c2,c3,c4⟩:=t2.up x hx
     exact⟨a,b,k,l,c1,by lia,c3,c4⟩
   ·refine bO.mpr ⟨fun hm=>?_,t2.nd⟩
    obtain⟨a,b,k,l,c1,c2,c3,c4⟩:=t2.up w hm
    rw[h4]at c3
    have:=E9 C.nd kv c3
    lia
structure Rooms(m:Nat)(cap:Nat->Int)(r:List Int):Prop where
 len:r.length=2*m
 pos:∀j,0<=at' r j
 two:∀k,k<m->at' r (2*k)+at' r (2*k+1)=cap k
theorem GA{l:List Nat}(nd:l.Nodup)(j:Nat):l.count j=if j∈l then 1 else 0:=by
 by_cases h:j∈l
 ·rw[aH h]
  have h1:=List.nodup_iff_count.mp nd j
  have h2:=List.count_pos_iff.mpr h
  lia
 ·rw[aE h];exact List.count_eq_zero.mpr h
theorem Rooms.push{cap:Nat->Int}(R:Rooms m cap r){tr:List Nat}(nd:tr.Nodup)(hw:∀w∈tr,w<2*m){a:Int}(ha:0<=a)(hm:∀w∈tr,a<=at' r w):Rooms m cap (push r tr a):=by
 refine⟨by rw[rE];exact R.len,fun j=>?_,fun k hk=>?_⟩
 ·rw[sP j R.len hw,GA nd j]
  have h0:0<=a*(tr.count (iP j):Int):=hV ha (gH _)
  by_cases h:j∈tr
  ·rw[aH h]
   have:=hm j h
   show 0<=at' r j-a*1+_
   lia
  ·rw[aE h]
   have:=R.pos j
   show 0<=at' r j-a*0+_
   lia
 ·rw[sP _ R.len hw,sP _ R.len hw]
  have e1:iP (2*k)=2*k+1:=by unfold iP;rw[aH (by lia)]
  have e2:iP (2*k+1)=2*k:=by unfold iP;rw[aE (by lia)];lia
  rw[e1,e2]
  have:=R.two k hk
  lia
end
end Fl
namespace Fl
structure Net(wf:Int->List Nat)(hs:List Int)(m n:Nat):Prop where
 len:hs.length=2*m
 from':∀u,∀w∈wf u,w<2*m/\at' hs (iP w)=u
 knot:∀w,w<2*m->0<=at' hs w/\at' hs w<n
 all:∀w,w<2*m->w∈wf (at' hs (iP w))
noncomputable def lx(r:List Int):List Nat->Int
 |[]=>0
 |[w]=>at' r w
 |w::x::tr=>if lx r (x::tr)<at' r w then lx r (x::tr)else at' r w
theorem uO(r:List Int):∀{tr:List Nat} {w:Nat},w∈tr->lx r tr<=at' r w
 |[],_,h=>by cases h
 |[x],w,h=>by rw[aU.mp h];exact cE _
 | y::x::tr,w,h=>by
  unfold lx
  rcases aR.mp h with rfl|h
  ·split<;>lia
  ·have:=uO r h
   split<;>lia
theorem AI(r:List Int):∀{tr:List Nat},tr≠[]->(∀w∈tr,0<at' r w)->0<lx r tr
 |[],h,_=>absurd rfl h
 |[x],_,h=>h x (aU.mpr rfl)
 |y::x::tr,_,h=>by
  unfold lx
  have h1:=h y (aZ ..)
  have h2:=AI r (tr:=x::tr) (by simp) fun w hw=>h w (aP _ hw)
  split<;>lia
section
variable(wf:Int->List Nat)(hs:List Int)(n:Nat)(s t:Int)
def jG(r:List Int):Cb:=ji wf hs r s n
def kI(r:List Int):List Nat:=jH hs (jG wf hs n s r) n t
noncomputable def lh(r:List Int):Option (List Int):=if kI wf hs n s t r=[]then none else some (push r (kI wf hs n s t r) (lx r (kI wf hs n s t r)))
inductive Runs:List Int->List Int->Prop
 |done (r:List Int):Runs r r
 |step {r r1 r':List Int}:lh wf hs n s t r=some r1->Runs r1 r'->Runs r r'
end
section
variable{wf:Int->List Nat}{hs:List Int}{n:Nat}{s t:Int}
theorem Runs.snoc{r r' r2:List Int}(h:Runs wf hs n s t r r')(e:lh wf hs n s t r'=some r2):Runs wf hs n s t r r2:=by
 induction h with
 |done r=>exact .step e (.done _)
 |step a _ ih=>exact .step a (ih e)
theorem DH{r a b:List Int}(h1:Runs wf hs n s t r a)(e1:lh wf hs n s t a=none)(h2:Runs wf hs n s t r b)(e2:lh wf hs n s t b=none):a=b:=by
 induction h1 with
 |done r=>
  cases h2 with
  |done _=>rfl
  |step x _=>rw[e1]at x;cases x
 | step x _ ih=>
  cases h2 with
  |done _=>rw[e2]at x;cases x
  |step y z=>
   rw[x]at y
   cases y
   exact ih e1 z
variable{m:Nat}{r:List Int}
theorem yB(N:Net wf hs m n)(hs0:0<=s/\s<n)(k:Nat):∀v:Int,v∈(ji wf hs r s k).map (·.1)->0<=v/\v<(n:Int):=fun v hv=>by
 obtain⟨p,hp,rfl⟩:=av.mp hv
 obtain⟨i,hi,e⟩:=bq.mp hp
 have C:=mS (r:=r) (s:=s) N.from' k
 have he:(ji wf hs r s k)[i]? =some p:=by rw[gE hi,e]
 cases i with
 |zero=>
  have:=C.first
  rw[he]at this
  cases this
  exact hs0
 |succ i=>
  obtain⟨w,_,h2,_,h4,_⟩:=C.came (i+1) p.1 p.2 he (by lia)
  rw [<- h4]
  exact N.knot w h2
theorem EE{l:List Int}(nd:l.Nodup):∀{n:Nat},(∀v:Int,v∈l->0<=v/\v<(n:Int))->l.length<=n:=fun{n} h=>by
 have h1:(l.map Int.toNat).Nodup:=by
  unfold List.Nodup at nd ⊢
  rw[df]
  exact nd.imp_of_mem fun{a b} ha hb z e=>z (by have:=h a ha;have:=h b hb;lia)
 have h2:∀x∈l.map Int.toNat,x∈List.range n:=fun x hx=>by
  obtain⟨v,hv,rfl⟩:=av.mp hx
  have:=h v hv
  exact bI.mpr (by lia)
 have h3:(l.map Int.toNat).length<=(List.range n).length:=by
  have key:∀(a b:List Nat),a.Nodup->(∀x∈a,x∈b)->a.length<=b.length:=by
   intro a
   induction a with
   |nil=>intro b _ _;exact bM _
   |cons x a ih=>
    intro b nd hb
    have nd':=bO.mp nd
    have hx:=hb x (aZ ..)
    have h4:=ih (b.erase x) nd'.2 fun y hy=>(List.mem_erase_of_ne (fun z:y = x=>nd'.1 (by rw [<- z]; exact hy))).mpr (hb y (aP _ hy))
    rw[List.length_erase_of_mem hx]at h4
    have:=List.length_pos_of_mem hx
    rw[List.length_cons]
    lia
  exact key _ _ h1 h2
 rw[aa,bU]at h3
 exact h3
theorem oa(N:Net wf hs m n)(hs0:0<=s/\s<n)(k:Nat):(ji wf hs r s k).length<=n:=by
 have:=EE (mS (r:=r) (s:=s) N.from' k).nd (yB N hs0 k)
 rw[aa]at this
 exact this
theorem Bi(N:Net wf hs m n)(hs0:0<=s/\s<n){w:Nat}(hw:w<2*m)(h0:0<at' r w)(hf:at' hs (iP w)∈(jG wf hs n s r).map (·.1)):at' hs w∈(jG wf hs n s r).map (·.1):=by
 obtain⟨p,hp,e⟩:=av.mp hf
 obtain⟨i,hi,e2⟩:=bq.mp hp
 have:=oa (r:=r) N hs0 n
 unfold jG at hi
 exact A7 (k:=n) (i:=i) (p:=p) (by lia) (by rw[gE hi];exact bV some e2) (by rw[e];exact N.all w hw) h0
theorem DD(N:Net wf hs m n):s∈(jG wf hs n s r).map (·.1):=by
 have:=(mS (r:=r) (s:=s) N.from' n).first
 exact av.mpr ⟨_,aA this,rfl⟩
theorem xQ(N:Net wf hs m n)(hst:s≠t)(hs0:0<=s/\s<n)(h:lh wf hs n s t r=none):t∉(jG wf hs n s r).map (·.1):=fun ht=>by
 obtain⟨p,hp,e⟩:=av.mp ht
 obtain⟨i,hi,e2⟩:=bq.mp hp
 have C:=mS (r:=r) (s:=s) N.from' n
 have he:(ji wf hs r s n)[i]? =some (t,p.2):=by
  unfold jG at hi e2
  rw [gE hi,e2,<- e]
 have hn:kI wf hs n s t r=[]:=by
  unfold lh at h
  split at h
  ·assumption
  ·cases h
 have hl:=oa (r:=r) N hs0 n
 unfold jG at hi
 have G:=B6 C i t p.2 he n (by lia)
 by_cases h0:i=0
 ·subst h0
  have:=C.first
  rw[he]at this
  have:=bV Prod.fst (aD this)
  exact hst this.symm
 ·exact G.2.2 (by lia) hn
end
end Fl
namespace Fl
section
variable{wf:Int->List Nat}{hs:List Int}{m n:Nat}{s t:Int}{r:List Int}{cap:Nat->Int}
theorem xP(N:Net wf hs m n)(hst:s≠t)(hs0:0<=s/\s<(n:Int))(h:kI wf hs n s t r≠[]):rJ hs t (kI wf hs n s t r) s/\∃i,Good hs r m (jG wf hs n s r) i (kI wf hs n s t r):=by
 have C:=mS (r:=r) (s:=s) N.from' n
 by_cases ht:t∈(jG wf hs n s r).map (·.1)
 ·obtain⟨p,hp,e⟩:=av.mp ht
  obtain⟨i,hi,e2⟩:=bq.mp hp
  have he:(ji wf hs r s n)[i]? =some (t,p.2):=by
   unfold jG at hi e2
   rw [gE hi,e2,<- e]
  have hl:=oa (r:=r) N hs0 n
  unfold jG at hi
  have G:=B6 C i t p.2 he n (by lia)
  exact⟨G.1,i,G.2.1⟩
 ·refine absurd ?_ h
  unfold kI
  cases n with
  |zero=>rfl
  |succ k=>rw[jH,Fd ht]
theorem yh(N:Net wf hs m n)(hst:s≠t)(hs0:0<=s/\s<(n:Int))(R:Rooms m cap r){r1:List Int}(h:lh wf hs n s t r=some r1):Rooms m cap r1/\(∀v,v≠s->v≠t->ex hs m r1 v=ex hs m r v)/\ex hs m r t+1<=ex hs m r1 t:=by
 unfold lh at h
 split at h
 ·cases h
 ·rename_i hne
  cases h
  obtain⟨T,i,G⟩:=xP N hst hs0 hne
  have hw:∀w∈kI wf hs n s t r,w<2*m:=fun w hw=>(G.up w hw).1
  have hp:=AI r hne fun w hw=>(G.up w hw).2.1
  have E:=fun v=>zF (a:=lx r (kI wf hs n s t r)) v R.len hw T
  refine⟨R.push G.nd hw (by lia) fun w hw=>uO r hw,fun v h1 h2=>?_,?_⟩
  ·rw[E v,kM (fun z=>h2 z.symm),kM (fun z=>h1 z.symm)]
   lia
  ·rw[E t,qP,kM hst]
   lia
def xJ(cap:Nat->Int)(m:Nat):Int:=((List.range m).map cap).sum
theorem rA{α:Type}{f g:α->Int}:∀{l:List α},(∀p∈l,f p<=g p)->(l.map f).sum<=(l.map g).sum
 |[],_=>cE _
 |a::l,h=>by
  rw[ai,ai,List.sum_cons,List.sum_cons]
  have:=h a (aZ ..)
  have:=rA fun p hp=>h p (aP _ hp)
  lia
theorem J9(R:Rooms m cap r)(v:Int):ex hs m r v<=xJ cap m:=by
 unfold ex xJ
 refine rA fun k hk=>?_
 have h1:=R.pos (2*k+1)
 have h2:=R.pos (2*k)
 have h3:=R.two k (bI.mp hk)
 unfold iR
 split<;>split<;>lia
theorem DF(N:Net wf hs m n)(hst:s≠t)(hs0:0<=s/\s<(n:Int)){r':List Int}(h:Runs wf hs n s t r r'):Rooms m cap r->Rooms m cap r'/\∀v,v≠s->v≠t->ex hs m r' v=ex hs m r v:=by
 induction h with
 |done r=>exact fun R=>⟨R,fun _ _ _=>rfl⟩
 |step e _ ih=>
  intro R
  obtain⟨R1,E1,_⟩:=yh N hst hs0 R e
  obtain⟨R2,E2⟩:=ih R1
  exact⟨R2,fun v h1 h2=>(E2 v h1 h2).trans (E1 v h1 h2)⟩
theorem pI(N:Net wf hs m n)(hs0:0<=s/\s<(n:Int))(R:Rooms m cap r){k:Nat}(hk:k<m):
  (at' hs (2*k+1)∈(jG wf hs n s r).map (·.1)->at' hs (2*k)∉(jG wf hs n s r).map (·.1)->at' r (2*k+1)=cap k)/\
  (at' hs (2*k)∈(jG wf hs n s r).map (·.1)->at' hs (2*k+1)∉(jG wf hs n s r).map (·.1)->at' r (2*k+1)=0):=by
 have e1:iP (2*k)=2*k+1:=by unfold iP;rw[aH (by lia)]
 have e2:iP (2*k+1)=2*k:=by unfold iP;rw[aE (by lia)];lia
 have h1:=R.pos (2*k+1)
 have h2:=R.pos (2*k)
 have h3:=R.two k hk
 refine⟨fun a b=>?_,fun a b=>?_⟩
 ·have:¬0<at' r (2*k):=fun z=>b (Bi N hs0 (by lia) z (by rw[e1];exact a))
  lia
 ·have:¬0<at' r (2*k+1):=fun z=>b (Bi N hs0 (by lia) z (by rw[e2];exact a))
  lia
end
end Fl
namespace Fl
theorem qQ(g:Nat->Int)(a:Nat):∀b,((List.range (a+b)).map g).sum=((List.range a).map g).sum+((List.range b).map fun k=>g (a+k)).sum
 |0=>by show _=_+0;rw[eU];rfl
 |b+1=>by
  rw [<- Nat.add_assoc,bZ,ah,cG,qQ g a b,bZ,ah,cG]
  show _+(g (a+b)+0)=_+(_+(g (a+b)+0))
  lia
theorem xp(g:Nat->Int):∀b,((List.range (2*b)).map g).sum=((List.range b).map fun k=>g (2*k)+g (2*k+1)).sum
 |0=>rfl
 |b+1=>by
  rw[show 2*(b+1)=2*b+1+1 by lia,bZ,ah,cG,bZ,ah,cG,xp g b,bZ,ah,cG]
  show _+(g (2*b)+0)+(g (2*b+1)+0)=_+(g (2*b)+g (2*b+1)+0)
  lia
theorem CH(g:Nat->Int){n i:Nat}(hi:i<n)(h:∀k,k<n->k≠i->g k=0):((List.range n).map g).sum=g i:=by
 have h1:((List.range n).map g).sum=((List.range n).map fun k=>if k=i then g i else 0).sum:=j4 fun k hk=>by
  by_cases c:k=i
  ·rw[aH c,c]
  ·rw[aE c];exact h k (bI.mp hk) c
 have h2:=xq (g:=fun _=>0) (g':=fun k=>if k=i then g i else 0) hi fun k hk=>aE hk
 rw[h1,h2,ml,aH rfl]
 lia
structure Dbl(ns:List Int)(ts:List (Int×Int))(sp:Int->Int)(hs:List Int):Prop where
 nd:ns.Nodup
 spot:∀(i:Nat) (p:Int),ns[i]? =some p->sp p=2+(i:Int)
 ends:∀t∈ts,t.1∈ns/\t.2∈ns
 src:∀i:Nat,i<ns.length->at' hs (2*i)=2+(i:Int)/\at' hs (2*i+1)=0
 snk:∀i:Nat,i<ns.length->at' hs (2*(ns.length+i))=1/\at' hs (2*(ns.length+i)+1)=2+(ns.length:Int)+i
 tie:∀(j:Nat) (t:Int×Int),ts[j]? =some t->(at' hs (2*(ns.length+ns.length+2*j))=sp t.2+ns.length/\at' hs (2*(ns.length+ns.length+2*j)+1)=sp t.1)/\(at' hs (2*(ns.length+ns.length+(2*j+1)))=sp t.1+ns.length/\at' hs (2*(ns.length+ns.length+(2*j+1))+1)=sp t.2)
section
variable{ns:List Int}{ts:List (Int×Int)}{sp:Int->Int}{hs r:List Int}
noncomputable def twAt(ns:List Int)(r:List Int)(ts:List (Int×Int))(j:Nat):Tw:=⟨(ts.getD j (0,0)).1,(ts.getD j (0,0)).2,at' r (2*(ns.length+ns.length+2*j)+1),at' r (2*(ns.length+ns.length+(2*j+1))+1)⟩
noncomputable def twS(ns:List Int)(r:List Int)(ts:List (Int×Int)):List Tw:=(List.range ts.length).map (twAt ns r ts)
theorem getD_at{l:List (Int×Int)}{j:Nat}(h:j<l.length):l[j]? =some (l.getD j (0,0)):=by
 rw[aV,gE h];rfl
theorem Dbl.spI(D:Dbl ns ts sp hs){i:Nat}{p q:Int}(hp:ns[i]? =some p)(hq:q∈ns):sp q=2+(i:Int)↔q=p:=by
 obtain⟨k,hk,e⟩:=bq.mp hq
 have hk':ns[k]? =some q:=by rw[gE hk,e]
 constructor
 ·intro h
  rw[D.spot k q hk']at h
  have:k=i:=by lia
  subst this
  rw[hp]at hk'
  exact(aD hk').symm
 ·rintro rfl
  exact D.spot i q hp
theorem Dbl.spB(D:Dbl ns ts sp hs){q:Int}(hq:q∈ns):2<=sp q/\sp q<2+(ns.length:Int):=by
 obtain⟨k,hk,e⟩:=bq.mp hq
 rw[D.spot k q (by rw[gE hk,e])]
 lia
theorem tI{a b c d v:Int}(h:a=b↔c=d):iR a b v=iR c d v:=by
 unfold iR
 by_cases x:a=b
 ·rw[aH x,aH (h.mp x)]
 ·rw[aE x,aE fun z=>x (h.mpr z)]
theorem Dbl.left(D:Dbl ns ts sp hs){i:Nat}{p:Int}(hp:ns[i]? =some p):ex hs (ns.length+ns.length+2*ts.length) r (2+(i:Int))=at' r (2*i+1)-kB (twS ns r ts) p:=by
 have hi:=(aq.mp hp).1
 unfold ex
 rw[qQ,qQ,xp]
 have h1:((List.range ns.length).map fun k=>iR (at' hs (2*k)) (2+(i:Int)) (at' r (2*k+1))-iR (at' hs (2*k+1)) (2+(i:Int)) (at' r (2*k+1))).sum=at' r (2*i+1):=by
  rw[CH _ hi fun k hk hne=>?_]
  ·rw[(D.src i hi).1,(D.src i hi).2,qP,kM (by lia)];lia
  ·rw[(D.src k hk).1,(D.src k hk).2,kM (by lia),kM (by lia)];rfl
 have h2:((List.range ns.length).map fun k=>iR (at' hs (2*(ns.length+k))) (2+(i:Int)) (at' r (2*(ns.length+k)+1))-iR (at' hs (2*(ns.length+k)+1)) (2+(i:Int)) (at' r (2*(ns.length+k)+1))).sum=0:=by
  rw [<- ml (List.range ns.length)]
  refine j4 fun k hk=>?_
  have hk:=bI.mp hk
  rw[(D.snk k hk).1,(D.snk k hk).2,kM (by lia),kM (by lia)]
  rfl
 rw[h1,h2]
 have h3:kB (twS ns r ts) p=((List.range ts.length).map fun j=>iR (twAt ns r ts j).a p (twAt ns r ts j).x+iR (twAt ns r ts j).b p (twAt ns r ts j).y).sum:=by
  unfold kB twS
  rw[bw]
  rfl
 have h4:∀(l:List Nat) (f g:Nat->Int),(∀j∈l,f j= -g j)->(l.map f).sum= -(l.map g).sum:=fun l f g h=>by
  induction l with
  |nil=>rfl
  |cons a l ih=>
   rw[ai,ai,List.sum_cons,List.sum_cons,h a (aZ ..),ih fun j hj=>h j (aP _ hj)]
   lia
 rw[h3,h4 _ _ (fun j=>iR (twAt ns r ts j).a p (twAt ns r ts j).x+iR (twAt ns r ts j).b p (twAt ns r ts j).y) fun j hj=>?_]
 ·lia
 ·have hj:=bI.mp hj
  have hg:=getD_at hj
  have hm:=aA hg
  have he:=D.ends _ hm
  obtain⟨⟨a1,a2⟩,b1,b2⟩:=D.tie j _ hg
  have l1:=D.spB he.1
  have l2:=D.spB he.2
  have n1:sp (ts.getD j (0,0)).2+ns.length≠2+(i:Int):=by lia
  have n2:sp (ts.getD j (0,0)).1+ns.length≠2+(i:Int):=by lia
  rw[a1,a2,b1,b2,kM n1,kM n2,tI (D.spI hp he.1),tI (D.spI hp he.2)]
  unfold twAt
  dsimp only
  lia
theorem Dbl.right(D:Dbl ns ts sp hs){i:Nat}{p:Int}(hp:ns[i]? =some p):ex hs (ns.length+ns.length+2*ts.length) r (2+(ns.length:Int)+i)=inR (twS ns r ts) p-at' r (2*(ns.length+i)+1):=by
 have hi:=(aq.mp hp).1
 unfold ex
 rw[qQ,qQ,xp]
 have h1:((List.range ns.length).map fun k=>iR (at' hs (2*k)) (2+(ns.length:Int)+i) (at' r (2*k+1))-iR (at' hs (2*k+1)) (2+(ns.length:Int)+i) (at' r (2*k+1))).sum=0:=by
  rw [<- ml (List.range ns.length)]
  refine j4 fun k hk=>?_
  have hk:=bI.mp hk
  rw[(D.src k hk).1,(D.src k hk).2,kM (by lia),kM (by lia)]
  rfl
 have h2:((List.range ns.length).map fun k=>iR (at' hs (2*(ns.length+k))) (2+(ns.length:Int)+i) (at' r (2*(ns.length+k)+1))-iR (at' hs (2*(ns.length+k)+1)) (2+(ns.length:Int)+i) (at' r (2*(ns.length+k)+1))).sum= -at' r (2*(ns.length+i)+1):=by
  rw[CH _ hi fun k hk hne=>?_]
  ·rw[(D.snk i hi).1,(D.snk i hi).2,qP,kM (by lia)];lia
  ·rw[(D.snk k hk).1,(D.snk k hk).2,kM (by lia),kM (by lia)];rfl
 rw[h1,h2]
 have h3:inR (twS ns r ts) p=((List.range ts.length).map fun j=>iR (twAt ns r ts j).b p (twAt ns r ts j).x+iR (twAt ns r ts j).a p (twAt ns r ts j).y).sum:=by
  unfold inR twS
  rw[bw]
  rfl
 rw[h3,j4 (g:=fun j=>iR (twAt ns r ts j).b p (twAt ns r ts j).x+iR (twAt ns r ts j).a p (twAt ns r ts j).y) fun j hj=>?_]
 ·lia
 ·have hj:=bI.mp hj
  have hg:=getD_at hj
  have hm:=aA hg
  have he:=D.ends _ hm
  obtain⟨⟨a1,a2⟩,b1,b2⟩:=D.tie j _ hg
  have l1:=D.spB he.1
  have l2:=D.spB he.2
  have i1:sp (ts.getD j (0,0)).1+ns.length=2+(ns.length:Int)+i↔(ts.getD j (0,0)).1=p:=⟨fun z=>(D.spI hp he.1).mp (by lia),fun z=>by have:=(D.spI hp he.1).mpr z;lia⟩
  have i2:sp (ts.getD j (0,0)).2+ns.length=2+(ns.length:Int)+i↔(ts.getD j (0,0)).2=p:=⟨fun z=>(D.spI hp he.2).mp (by lia),fun z=>by have:=(D.spI hp he.2).mpr z;lia⟩
  have n1:sp (ts.getD j (0,0)).1≠2+(ns.length:Int)+i:=by lia
  have n2:sp (ts.getD j (0,0)).2≠2+(ns.length:Int)+i:=by lia
  rw[a1,a2,b1,b2,tI i1,tI i2,kM n1,kM n2]
  unfold twAt
  dsimp only
  lia
end
end Fl
namespace Fl
section
variable{ns:List Int}{ts:List (Int×Int)}{sp:Int->Int}{hs r:List Int}{wf:Int->List Nat}{pr:Int->Int}{cap:Nat->Int}
def kq(ns:List Int):Nat:=2+(ns.length+ns.length)
def arcs(ns:List Int)(ts:List (Int×Int)):Nat:=ns.length+ns.length+2*ts.length
def mi(sp:Int->Int)(r:List Int)(p:Int):Int:=at' r (2*(sp p-2).toNat+1)
noncomputable def nu(ns:List Int)(sp:Int->Int)(r:List Int)(p:Int):Int:=at' r (2*(ns.length+(sp p-2).toNat)+1)
noncomputable def mB(wf:Int->List Nat)(hs:List Int)(n:Nat)(r:List Int)(v:Int):Bool:=decide (v∈(jG wf hs n 0 r).map (·.1))
structure Caps(ns:List Int)(ts:List (Int×Int))(pr:Int->Int)(cap:Nat->Int):Prop where
 src:∀(i:Nat) (p:Int),ns[i]? =some p->cap i=pr p
 snk:∀(i:Nat) (p:Int),ns[i]? =some p->cap (ns.length+i)=pr p
 tie:∀j,j<2*ts.length->∀p∈ns,pr p<cap (ns.length+ns.length+j)
theorem mW{α:Type}{f:α->Int}:∀{l:List α},(∀p∈l,0<=f p)->∀p∈l,f p<=(l.map f).sum
 |[],_,p,h=>by cases h
 | a::l,h0,p,h=>by
  rw[ai,List.sum_cons]
  have ha:=h0 a (aZ ..)
  have hl:0<=(l.map f).sum:=by
   have:=rA (f:=fun _=>0) (g:=f) (l:=l) fun q hq=>h0 q (aP _ hq)
   rw[ml]at this
   exact this
  rcases aR.mp h with rfl|h
  ·lia
  ·have:=mW (fun q hq=>h0 q (aP _ hq)) p h
   lia
theorem sN{n m v:Int}(h:0<=v):0<=iR n m v:=by unfold iR;split<;>lia
theorem J3(D:Dbl ns ts sp hs)(N:Net wf hs (arcs ns ts) (kq ns))(C:Caps ns ts pr cap)(R:Rooms (arcs ns ts) cap r)(B:∀v,v≠0->v≠1->ex hs (arcs ns ts) r v=0)(hr:lh wf hs (kq ns) 0 1 r=none):
  Full ns pr (twS ns r ts) (mi sp r) (nu ns sp r) (fun p=>mB wf hs (kq ns) r (sp p)) (fun p=>mB wf hs (kq ns) r (sp p+ns.length)):=by
 have hs0:(0:Int)<=0/\(0:Int)<(kq ns:Nat):=⟨cE _,by unfold kq;lia⟩
 have h0:(0:Int)∈(jG wf hs (kq ns) 0 r).map (·.1):=DD N
 have h1:(1:Int)∉(jG wf hs (kq ns) 0 r).map (·.1):=xQ N (by decide) hs0 hr
 have idx:∀p∈ns,∃i:Nat,ns[i]? =some p/\i<ns.length/\(sp p-2).toNat=i/\sp p=2+(i:Int):=fun p hp=>by
  obtain⟨k,hk,e⟩:=bq.mp hp
  have hk':ns[k]? =some p:=by rw[gE hk,e]
  have:=D.spot k p hk'
  exact⟨k,hk',hk,by lia,this⟩
 have tw:∀z∈twS ns r ts,∃j,j<ts.length/\z=twAt ns r ts j:=fun z hz=>by
  unfold twS at hz
  obtain⟨j,hj,e⟩:=av.mp hz
  exact⟨j,bI.mp hj,e.symm⟩
 have ends:∀z∈twS ns r ts,z.a∈ns/\z.b∈ns:=fun z hz=>by
  obtain⟨j,hj,rfl⟩:=tw z hz
  exact D.ends _ (aA (getD_at hj))
 have pos:∀z∈twS ns r ts,0<=z.x/\0<=z.y:=fun z hz=>by
  obtain⟨j,hj,rfl⟩:=tw z hz
  exact⟨R.pos _,R.pos _⟩
 have left:∀p∈ns,mi sp r p=kB (twS ns r ts) p:=fun p hp=>by
  obtain⟨i,hi,hl,e,es⟩:=idx p hp
  have:=D.left (r:=r) hi
  have hb:=B (2+(i:Int)) (by lia) (by lia)
  unfold arcs at hb
  rw[hb]at this
  unfold mi
  rw[e]
  lia
 have right:∀p∈ns,nu ns sp r p=inR (twS ns r ts) p:=fun p hp=>by
  obtain⟨i,hi,hl,e,es⟩:=idx p hp
  have:=D.right (r:=r) hi
  have hb:=B (2+(ns.length:Int)+i) (by lia) (by lia)
  unfold arcs at hb
  rw[hb]at this
  unfold nu
  rw[e]
  lia
 have capL:∀p∈ns,0<=mi sp r p/\mi sp r p<=pr p:=fun p hp=>by
  obtain⟨i,hi,hl,e,es⟩:=idx p hp
  have h2:=R.two i (by unfold arcs;lia)
  rw[C.src i p hi]at h2
  have h3:=R.pos (2*i)
  have h4:=R.pos (2*i+1)
  unfold mi
  rw[e]
  lia
 have capR:∀p∈ns,0<=nu ns sp r p/\nu ns sp r p<=pr p:=fun p hp=>by
  obtain⟨i,hi,hl,e,es⟩:=idx p hp
  have h2:=R.two (ns.length+i) (by unfold arcs;lia)
  rw[C.snk i p hi]at h2
  have h3:=R.pos (2*(ns.length+i))
  have h4:=R.pos (2*(ns.length+i)+1)
  unfold nu
  rw[e]
  lia
 have xle:∀z∈twS ns r ts,z.x<=pr z.a/\z.y<=pr z.b:=fun z hz=>by
  obtain⟨e1,e2⟩:=ends z hz
  have nn:∀p,∀z∈twS ns r ts,0<=iR z.a p z.x+iR z.b p z.y:=fun p z hz=>by
   have:=sN (n:=z.a) (m:=p) (pos z hz).1
   have:=sN (n:=z.b) (m:=p) (pos z hz).2
   lia
  have a1:=mW (nn z.a) z hz
  have a2:=mW (nn z.b) z hz
  have b1:kB (twS ns r ts) z.a <= pr z.a:=by rw [<- left z.a e1]; exact (capL z.a e1).2
  have b2:kB (twS ns r ts) z.b <= pr z.b:=by rw [<- left z.b e2]; exact (capL z.b e2).2
  unfold kB at b1 b2
  rw[qP]at a1 a2
  have:=sN (n:=z.b) (m:=z.a) (pos z hz).2
  have:=sN (n:=z.a) (m:=z.b) (pos z hz).1
  lia
 refine⟨D.nd,ends,pos,left,right,capL,capR,fun p hp hS=>?_,fun p hp hS=>?_,fun z hz=>?_,fun z hz=>?_⟩
 ·obtain⟨i,hi,hl,e,es⟩:=idx p hp
  have:=(pI N hs0 R (k:=i) (by unfold arcs;lia)).1
  rw[(D.src i hl).1,(D.src i hl).2,C.src i p hi]at this
  unfold mB at hS
  rw[fJ,es]at hS
  unfold mi
  rw[e]
  exact this h0 hS
 ·obtain⟨i,hi,hl,e,es⟩:=idx p hp
  have:=(pI N hs0 R (k:=ns.length+i) (by unfold arcs;lia)).1
  rw[(D.snk i hl).1,(D.snk i hl).2,C.snk i p hi]at this
  unfold mB at hS
  rw[bE,es]at hS
  unfold nu
  rw[e]
  exact this (by rw[show(2:Int)+ns.length+i=2+i+ns.length by lia];exact hS) h1
 ·obtain⟨x1,x2⟩:=xle z hz
  obtain⟨e1,e2⟩:=ends z hz
  obtain⟨j,hj,rfl⟩:=tw z hz
  obtain⟨⟨a1,a2⟩,b1,b2⟩:=D.tie j _ (getD_at hj)
  have r1:=(pI N hs0 R (k:=ns.length+ns.length+2*j) (by unfold arcs;lia)).1
  have r2:=(pI N hs0 R (k:=ns.length+ns.length+(2*j+1)) (by unfold arcs;lia)).1
  rw[a1,a2]at r1
  rw[b1,b2]at r2
  have c1:=C.tie (2*j) (by lia) _ e1
  have c2:=C.tie (2*j+1) (by lia) _ e2
  unfold mB
  simp only[bE]
  unfold twAt at x1 x2 c1 c2 ⊢
  dsimp only at x1 x2 c1 c2 ⊢
  refine⟨fun h=>fF fun hn=>?_,fun h=>fF fun hn=>?_⟩
  ·have:=r1 h hn;lia
  ·have:=r2 h hn;lia
 ·obtain⟨j,hj,rfl⟩:=tw z hz
  obtain⟨⟨a1,a2⟩,b1,b2⟩:=D.tie j _ (getD_at hj)
  have r1:=(pI N hs0 R (k:=ns.length+ns.length+2*j) (by unfold arcs;lia)).2
  have r2:=(pI N hs0 R (k:=ns.length+ns.length+(2*j+1)) (by unfold arcs;lia)).2
  rw[a1,a2]at r1
  rw[b1,b2]at r2
  unfold mB
  simp only[bE,fJ]
  unfold twAt
  exact⟨r1,r2⟩
end
end Fl
namespace Fl
abbrev j3:=Int×Int×Int
noncomputable def jr:List j3->List Int
 |[]=>[]
 |a::r=>a.2.1::a.1::jr r
noncomputable def j2:List j3->List Int
 |[]=>[]
 |a::r=>a.2.2::0::j2 r
def ma(as:List j3)(k:Nat):Int:=(as.getD k (0,0,0)).2.2
theorem uw:∀as:List j3,(jr as).length=2*as.length
 |[]=>rfl
 |a::r=>by rw[jr,List.length_cons,List.length_cons,uw r,List.length_cons];lia
theorem rC:∀as:List j3,(j2 as).length=2*as.length
 |[]=>rfl
 |a::r=>by rw[j2,List.length_cons,List.length_cons,rC r,List.length_cons];lia
theorem tm(x y:Int)(l:List Int)(i:Nat):at' (x::y::l) (i+2)=at' l i:=rfl
theorem oM:∀(as:List j3) (i:Nat),at' (jr as) (2*i)=(as.getD i (0,0,0)).2.1
 |[],i=>by simp[jr,at']
 |a::r,0=>rfl
 |a::r,i+1=>by rw[show 2*(i+1)=2*i+2 by lia,jr,tm,oM r i];rfl
theorem oH:∀(as:List j3) (i:Nat),at' (jr as) (2*i+1)=(as.getD i (0,0,0)).1
 |[],i=>by simp[jr,at']
 |a::r,0=>rfl
 |a::r,i+1=>by rw[show 2*(i+1)+1=(2*i+1)+2 by lia,jr,tm,oH r i];rfl
theorem wA:∀(as:List j3) (i:Nat),at' (j2 as) (2*i)=ma as i
 |[],i=>by simp[j2,at',ma]
 |a::r,0=>rfl
 |a::r,i+1=>by rw[show 2*(i+1)=2*i+2 by lia,j2,tm,wA r i];rfl
theorem sS:∀(as:List j3) (i:Nat),at' (j2 as) (2*i+1)=0
 |[],i=>by simp[j2,at']
 |a::r,0=>rfl
 |a::r,i+1=>by rw[show 2*(i+1)+1=(2*i+1)+2 by lia,j2,tm,sS r i]
def j1(as:List j3)(u:Int):List Nat:=(List.range (2*as.length)).filter fun w=>decide (at' (jr as) (iP w)=u)
theorem F2(k:Nat):iP (2*k)=2*k+1:=by unfold iP;rw[aH (by lia)]
theorem GR(k:Nat):iP (2*k+1)=2*k:=by unfold iP;rw[aE (by lia)];lia
theorem nR{α:Type}{l:List α}{i:Nat}{a d:α}(h:l[i]? =some a):l.getD i d=a:=by
 rw[aV,h];rfl
theorem we{α:Type}{l:List α}{i:Nat}(d:α)(h:i<l.length):l.getD i d∈l:=by
 rw[aV,gE h]
 exact cf h
theorem yy{as:List j3}{n:Nat}(h:∀a∈as,(0<=a.1/\a.1<(n:Int))/\0<=a.2.1/\a.2.1<(n:Int)):Net (j1 as) (jr as) as.length n:=by
 refine⟨uw as,fun u w hw=>?_,fun w hw=>?_,fun w hw=>?_⟩
 ·have hw:=bG.mp hw
  exact⟨bI.mp hw.1,bp hw.2⟩
 ·by_cases c:w%2=0
  ·have e:w=2*(w/2):=by lia
   have hk:w/2<as.length:=by lia
   rw[e,oM]
   exact(h _ (we _ hk)).2
  ·have e:w=2*(w/2)+1:=by lia
   have hk:w/2<as.length:=by lia
   rw[e,oH]
   exact(h _ (we _ hk)).1
 ·exact bG.mpr ⟨bI.mpr hw,af rfl⟩
theorem DG{as:List j3}(h:∀a∈as,0<=a.2.2):Rooms as.length (ma as) (j2 as):=by
 refine⟨rC as,fun j=>?_,fun k hk=>?_⟩
 ·by_cases c:j%2=0
  ·rw[show j=2*(j/2) by lia,wA]
   unfold ma
   by_cases hk:j/2<as.length
   ·exact h _ (we _ hk)
   ·rw[aV,bF (by lia)]
    exact cE _
  ·rw[show j=2*(j/2)+1 by lia,sS]
   exact cE _
 ·rw[wA,sS];lia
theorem Ka(as:List j3)(hs:List Int)(m:Nat)(v:Int):ex hs m (j2 as) v=0:=by
 unfold ex
 rw [<- ml (List.range m)]
 refine j4 fun k _=>?_
 rw[sS]
 unfold iR
 split<;>split<;>rfl
theorem xu:∀(as:List j3) (a:j3),jr (as++[a])=jr as++[a.2.1,a.1]
 |[],a=>rfl
 |b::r,a=>by rw[List.cons_append,jr,xu r a,jr];rfl
theorem ym:∀(as:List j3) (a:j3),j2 (as++[a])=j2 as++[a.2.2,0]
 |[],a=>rfl
 |b::r,a=>by rw[List.cons_append,j2,ym r a,j2];rfl
theorem Kj{l l':List Int}{i:Nat}(h:i<l.length):at' (l++l') i=at' l i:=by
 unfold at'
 rw[aV,aV,bx h]
theorem Dg(as:List j3)(a:j3)(u:Int):j1 (as++[a]) u=(j1 as u++(if a.1=u then[2*as.length]else[]))++(if a.2.1=u then[2*as.length+1]else[]):=by
 unfold j1
 rw[aK,List.length_singleton,show 2*(as.length+1)=2*as.length+1+1 by lia,bZ,cn,bZ,cn]
 have e1:at' (jr (as++[a])) (iP (2*as.length))=a.1:=by
  rw[F2,oH,aV,cQ (aF _),Nat.sub_self];rfl
 have e2:at' (jr (as++[a])) (iP (2*as.length+1))=a.2.1:=by
  rw[GR,oM,aV,cQ (aF _),Nat.sub_self];rfl
 congr 1
 ·congr 1
  ·refine List.filter_congr fun w hw=>?_
   rw[xu,Kj]
   rw[uw]
   exact rH (bI.mp hw)
  ·rw[cT,e1]
   by_cases c:a.1=u
   ·rw[aH c,aH (af c)];rfl
   ·rw[aE c,aE (by simp[c])];rfl
 ·rw[cT,e2]
  by_cases c:a.2.1=u
  ·rw[aH c,aH (af c)];rfl
  ·rw[aE c,aE (by simp[c])];rfl
noncomputable def lT(sp:Int->Int)(n pl:Int):List (Int×Int)->List j3
 |[]=>[]
 |t::r=>(sp t.1,sp t.2+n,pl)::(sp t.2,sp t.1+n,pl)::lT sp n pl r
noncomputable def md(sp:Int->Int)(pl:Int)(ps ts:List (Int×Int)):List j3:=((ps.map fun p=>((0:Int),sp p.1,p.2))++ps.map fun p=>(sp p.1+ps.length,(1:Int),p.2))++lT sp ps.length pl ts
theorem Cr(sp:Int->Int)(n pl:Int):∀ts,(lT sp n pl ts).length=2*ts.length
 |[]=>rfl
 |t::r=>by rw[lT,List.length_cons,List.length_cons,Cr sp n pl r,List.length_cons];lia
theorem xh(sp:Int->Int)(n pl:Int):∀(ts:List (Int×Int)) (j:Nat) (t:Int×Int),ts[j]? =some t->(lT sp n pl ts)[2*j]? =some (sp t.1,sp t.2+n,pl)/\(lT sp n pl ts)[2*j+1]? =some (sp t.2,sp t.1+n,pl)
 |[],j,t,h=>by simp at h
 |u::r,0,t,h=>by cases h;exact⟨rfl,rfl⟩
 |u::r,j+1,t,h=>by
  obtain⟨a,b⟩:=xh sp n pl r j t (by simpa using h)
  rw[lT,show 2*(j+1)=2*j+1+1 by lia,show 2*j+1+1+1=(2*j+1)+1+1 by lia]
  exact⟨by rw[List.getElem?_cons_succ,List.getElem?_cons_succ];exact a,by rw[List.getElem?_cons_succ,List.getElem?_cons_succ];exact b⟩
theorem Km(sp:Int->Int)(pl:Int)(ps ts:List (Int×Int)):(md sp pl ps ts).length=ps.length+ps.length+2*ts.length:=by
 unfold md
 rw[aK,aK,aa,aa,Cr]
section
variable{sp:Int->Int}{pl:Int}{ps ts:List (Int×Int)}
theorem Bd{i:Nat}{p:Int×Int}(h:ps[i]? =some p):(md sp pl ps ts)[i]? =some (0,sp p.1,p.2):=by
 have hi:=(aq.mp h).1
 unfold md
 rw[bx (by rw[aK,aa,aa];lia),bx (by rw[aa];exact hi),aJ,h]
 rfl
theorem Bc{i:Nat}{p:Int×Int}(h:ps[i]? =some p):(md sp pl ps ts)[ps.length+i]? =some (sp p.1+ps.length,1,p.2):=by
 have hi:=(aq.mp h).1
 unfold md
 rw[bx (by rw[aK,aa,aa];lia),cQ (by rw[aa];lia),aa,Nat.add_sub_cancel_left,aJ,h]
 rfl
theorem tQ{j:Nat}(k:Nat):(md sp pl ps ts)[ps.length+ps.length+k]? =(lT sp ps.length pl ts)[k]?:=by
 unfold md
 rw[cQ (by rw[aK,aa,aa];lia)]
 congr 1
 rw[aK,aa,aa]
 lia
theorem C1(nd:(ps.map (·.1)).Nodup)(hsp:∀(i:Nat) (p:Int),(ps.map (·.1))[i]? =some p->sp p=2+(i:Int))(hen:∀t∈ts,t.1∈ps.map (·.1)/\t.2∈ps.map (·.1)):Dbl (ps.map (·.1)) ts sp (jr (md sp pl ps ts)):=by
 have get:∀i,i<ps.length->∃p,ps[i]? =some p/\sp p.1=2+(i:Int):=fun i hi=>by
  refine⟨ps[i],gE hi,hsp i _ ?_⟩
  rw[aJ,gE hi];rfl
 refine⟨nd,hsp,hen,fun i hi=>?_,fun i hi=>?_,fun j t hj=>?_⟩
 ·rw[aa]at hi
  obtain⟨p,hp,e⟩:=get i hi
  rw[oM,oH,nR (Bd hp)]
  exact⟨e,rfl⟩
 ·rw[aa]at hi
  obtain⟨p,hp,e⟩:=get i hi
  rw[aa,oM,oH,nR (Bc hp)]
  exact⟨rfl,by dsimp only;rw[e];lia⟩
 ·obtain⟨a,b⟩:=xh sp ps.length pl ts j t hj
  rw[aa,oM,oH,oM,oH,nR ((tQ (j:=0) (2*j)).trans a),nR ((tQ (j:=0) (2*j+1)).trans b)]
  exact⟨⟨rfl,rfl⟩,rfl,rfl⟩
theorem C5{pr:Int->Int}(hpr:∀p∈ps,pr p.1=p.2)(hpl:∀p∈ps,p.2<pl):Caps (ps.map (·.1)) ts pr (ma (md sp pl ps ts)):=by
 have get:∀(i:Nat) (p:Int),(ps.map (·.1))[i]? =some p->∃q,ps[i]? =some q/\q.1=p:=fun i p h=>by
  rw[aJ]at h
  cases e:ps[i]? with
  |none=>rw[e]at h;cases h
  |some q=>rw[e]at h;exact⟨q,rfl,aD h⟩
 refine⟨fun i p h=>?_,fun i p h=>?_,fun j hj p hp=>?_⟩
 ·obtain⟨q,hq,rfl⟩:=get i p h
  unfold ma
  rw[nR (Bd hq),hpr q (aA hq)]
 ·obtain⟨q,hq,rfl⟩:=get i p h
  unfold ma
  rw[aa,nR (Bc hq),hpr q (aA hq)]
 ·obtain⟨q,hq,rfl⟩:=av.mp hp
  have hk:j/2<ts.length:=by lia
  have hg:ts[j/2]? =some ts[j/2]:=gE hk
  obtain⟨a,b⟩:=xh sp ps.length pl ts (j/2) _ hg
  unfold ma
  rw[aa,hpr q hq]
  by_cases c:j%2=0
  ·rw[show j=2*(j/2) by lia,nR ((tQ (j:=0) _).trans a)]
   exact hpl q hq
  ·rw[show j=2*(j/2)+1 by lia,nR ((tQ (j:=0) _).trans b)]
   exact hpl q hq
theorem Kl(hsp:∀p∈ps.map (·.1),2<=sp p/\sp p<2+(ps.length:Int))(hen:∀t∈ts,t.1∈ps.map (·.1)/\t.2∈ps.map (·.1))(hpp:∀p∈ps,0<=p.2)(hpl:0<=pl):∀a∈md sp pl ps ts,((0<=a.1/\a.1<((2+(ps.length+ps.length):Nat):Int))/\0<=a.2.1/\a.2.1<((2+(ps.length+ps.length):Nat):Int))/\0<=a.2.2:=fun a ha=>by
 unfold md at ha
 have tie:∀{us:List (Int×Int)},(∀t∈us,t.1∈ps.map (·.1)/\t.2∈ps.map (·.1))->a∈lT sp ps.length pl us->((0<=a.1/\a.1<((2+(ps.length+ps.length):Nat):Int))/\0<=a.2.1/\a.2.1<((2+(ps.length+ps.length):Nat):Int))/\0<=a.2.2:=fun{us}=>by
  induction us with
  |nil=>intro _ h;cases h
  | cons u r ih=>
   intro he h
   have h1:=hsp _ (he u (.head _)).1
   have h2:=hsp _ (he u (.head _)).2
   rcases aR.mp h with rfl|h
   ·dsimp only;lia
   ·rcases aR.mp h with rfl|h
    ·dsimp only;lia
    ·exact ih (fun t ht=>he t (.tail _ ht)) h
 rcases bz.mp ha with ha|ha
 ·rcases bz.mp ha with ha|ha
  ·obtain⟨p,hp,rfl⟩:=av.mp ha
   have:=hsp p.1 (cg hp)
   have:=hpp p hp
   dsimp only
   lia
  ·obtain⟨p,hp,rfl⟩:=av.mp ha
   have:=hsp p.1 (cg hp)
   have:=hpp p hp
   dsimp only
   lia
 ·exact tie hen ha
end
end Fl
namespace L2
open PySem PySem.Spec PyProof.Rows
section
variable{X:Cx}
theorem IA(a:Value):argsOk "min" ⟨[a],[]⟩:=by unfold argsOk;kernel_rfl
def DS:List V->Hp->VK->Prop:=fun vs H Q=>∃(p:Addr) (ns:List Int),vs=[.ref p]/\H p=some (.lst (ns.map V.int))/\ns≠[]/\
 ∀m,m∈ns->(∀x∈ns,m<=x)->Q (.int m) H
theorem Gz(hc:X.calm=true):jct X (.builtin "min") DS:=by
 intro pins s σ H xs us Q I r h
 obtain⟨p,ns,rfl,e,hne,q⟩:=h
 obtain⟨u,rfl,rx⟩:=mL r
 cases rx
 obtain⟨z,its,c,r',hlen,e'⟩:=I.lstM e
 have hI:=nY r'
 have plt:p<s.heap.objs.size:=aL e'
 have hL:s.heap.IsList p its.toArray:=⟨_,e',rfl,_,rfl⟩
 refine call_function_tree PySem.F.kind_min PySem.F.plain_min PySem.F.entry_min (IA _) ?_
 show wpAny _ X.A.in1 (Builtin.Builtins.bindParams "min" ["key","default"] 0 ⟨[],[]⟩>>=_) _ _ s
 refine ae (fG (show Builtin.Builtins.bindParams "min" ["key","default"] 0 ⟨[],[]⟩=pure [none,none]from rfl) ?_)
 refine ae (aI ?_)
 refine ae (dM hL ?_)
 refine ae (wpAny_newList ?_ (bM _))
 rw[pF]
 have hS:(s.heap.push {cls:=.type "list_iterator",data:=.fields #[.ref p,.int 0 0]}).objs.size=s.heap.objs.size+1:=gB ..
 have W:=Walks.list (prog:=X.prog) (w:=X.w) (A:=X.A.in1) (show X.A.in1.handled=none from I.ok.hd hc) s.heap.objs.size p (bj plt) its.toArray
 have hsz:its.toArray.size = ns.length:=by rw [aC,<- hlen,aa]
 have hval:∀(i:Nat) (v:Value),its.toArray[i]? =some v->∃t:Tok,v=Value.int (ns[i]?.getD 0) t:=fun i v hv=>by
  have hv':its[i]? =some v:=by simpa using hv
  have hi:i<ns.length:=by
   have:=(aq.mp hv').1
   rw[aa]at hlen
   lia
  obtain⟨u,e1,t,e2⟩:=r'.get (i:=i) (x:=.int ns[i]) (by rw[aJ,gE hi];rfl)
  rw[hv']at e1
  cases e1
  exact⟨t,by rw[e2,gE hi];rfl⟩
 have kp0:∀(h':Heap) (tk:Nat),(∀b o,b∉[s.heap.objs.size]->b≠(s.heap.push {cls:=.type "list_iterator",data:=.fields #[.ref p,.int 0 0]}).objs.size->((s.heap.push {cls:=.type "list_iterator",data:=.fields #[.ref p,.int 0 0]}).push {cls:=.type "list",data:=.seq #[]}).get? b=some o->h'.get? b=some o)->
   Inv X pins σ H {s with heap:=h',toks:=tk}:=fun h' tk k=>I.kept fun b o qq=>k b o (by
    intro z
    have:b=s.heap.objs.size:=by simpa using z
    exact absurd (aL qq) (by rw[this];exact cN _)) (by rw[hS];exact bj (dQ (aL qq))) (ag _ (ag _ qq))
 have hst0:(fun i (h:Heap)=>h.IsListIter s.heap.objs.size p i/\h.IsList p its.toArray) 0 ((s.heap.push {cls:=.type "list_iterator",data:=.fields #[.ref p,.int 0 0]}).push {cls:=.type "list",data:=.seq #[]}):=
  ⟨⟨_,ag _ (aQ _ rfl),rfl,rfl⟩,(hL.push _).push _⟩
 have hSg:((s.heap.push {cls:=.type "list_iterator",data:=.fields #[.ref p,.int 0 0]}).push {cls:=.type "list",data:=.seq #[]}).get? (s.heap.push {cls:=.type "list_iterator",data:=.fields #[.ref p,.int 0 0]}).objs.size=some {cls:=.type "list",dict:=none,data:=.seq #[] 0,slots:=#[]}:=aQ _ rfl
 have hSf:(s.heap.push {cls:=.type "list_iterator",data:=.fields #[.ref p,.int 0 0]}).objs.size∉[s.heap.objs.size,p]:=by
  rw[hS]
  intro z
  rcases aR.mp z with z|z
  ·exact absurd z (gP _)
  ·have z:=aU.mp z
   rw [<- z] at plt
   exact cN _ (au plt)
 refine aI ⟨cZ bQ _,?_⟩
 refine de eM ?_
 rw[cK bQ _]
 show wpAny _ X.A.in1 (seqItems? (.ref _)>>=_) _ _ _
 refine ae (bY hSg rfl ?_)
 show wpAny _ X.A.in1 (tryCatch (pyNext (.ref s.heap.objs.size)) _>>=_) _ _ _
 cases hn:ns with
 |nil=>exact absurd hn hne
 | cons n0 rest=>
  have hpos:0<its.toArray.size:=by rw[hsz,hn];simp
  refine ae (dk (W.item 0 _ _ _ hpos hst0 fun v h' tk hP hst' kp=>?_))
  obtain⟨t',rfl⟩:=hval 0 v hP
  have hS':=kp _ _ (fun z=>hSf (aR.mpr (.inl (aU.mp z)))) hSg
  show wpAny _ X.A.in1 (updateSeq _ (fun _=>#[_,_])>>=_) _ _ _
  refine ae ?_
  refine fT hS' rfl ?_
  rw[pF]
  refine aI ⟨cZ bQ _,Cg W (fun i=>ns[i]?.getD 0) hval _ _ hSf _ 1 _ _ t' _ rfl hpos (W.frame _ _ _ hst' fun b hbf o e=>?_) ⟨⟨0,Nat.one_pos,rfl⟩,fun i hi=>by
   have:i=0:=by lia
   subst this;exact cE _⟩ (c7 _ hS' rfl) fun m u h'' tk'' hB k''=>?_⟩
  ·exact(bR _ _ (fun z=>hSf (by rw[z];exact hbf))).trans e
  ·refine⟨.int m,H,kp0 h'' tk'' fun b o h1 h2 h3=>k'' b o h1 h2 ((bR _ _ (cS h2)).trans (kp b o h1 h3)),⟨u,rfl⟩,q m ?_ fun x hx=>?_⟩
   ·obtain⟨i,hi,e1⟩:=hB.1
    rw[hsz]at hi
    rw[e1]
    show ns[i]?.getD 0∈ns
    rw[gE hi]
    exact cf hi
   ·obtain⟨i,hi,e1⟩:=bq.mp hx
    have:m<=ns[i]?.getD 0:=hB.2 i (by rw[hsz];exact hi)
    rw[gE hi]at this
    rw [<- e1]
    exact this
end
end L2
namespace My
open PySem L2
section
variable{P:Program}{w:World}{K:PySem.W.Frag}{mg:Str->Option Value}{base:Heap}{c1 c2 c3 c4:Tok}{C_Net C_NoWeb fqk:Addr}{dI:FuncData}
noncomputable def ET:Stmt->List Stmt
 | .ClassDef _ _ _ b _ _ _ _ _ _ _=>b
 |_=>[]
def jE(i j:Nat):Stmt:=(ET (ig i)).getD j (.Pass ⟨0,0,0,0⟩)
structure MthAt(K:PySem.W.Frag)(C:Addr)(x qual:Str)(st:Stmt)(ps:List Str)(f:Addr)(fd:FuncData):Prop where
 F:Fun K x qual st f fd
 b:jg7 K fd ps []
 m:Meth K C x f
structure NetC(K:PySem.W.Frag)(mg:Str->Option Value)(C:Addr):Prop where
 cl:Cls K C
 n_ways_from:jfg K C "ways_from"
 n_heads:jfg K C "heads"
 n_rooms:jfg K C "rooms"
 m:mg "Net"=some (.ref C)
noncomputable def j9(C dx W Hd R:Addr):HO:=.ins C dx [("ways_from",.ref W),("heads",.ref Hd),("rooms",.ref R)]
section
variable{C dx W Hd R:Addr}
theorem CN:mX C (some (j9 C dx W Hd R)) "ways_from"=some (.ref W):=by unfold mX j9;dsimp only;rw[if_pos rfl];rfl
theorem rO:mX C (some (j9 C dx W Hd R)) "heads"=some (.ref Hd):=by unfold mX j9;dsimp only;rw[if_pos rfl];rfl
theorem o5:mX C (some (j9 C dx W Hd R)) "rooms"=some (.ref R):=by unfold mX j9;dsimp only;rw[if_pos rfl];rfl
theorem ou{m:Str}(h:(m==("ways_from":Str))=false)(h2:(m==("heads":Str))=false)(h3:(m==("rooms":Str))=false):me C (some (j9 C dx W Hd R)) m=true:=by
 unfold me j9
 simp only[cC,cu,List.lookup_cons,h,h2,h3,List.lookup_nil,Option.isNone_none]
theorem Ci:me C (some (j9 C dx W Hd R)) "put_way"=true:=ou rfl rfl rfl
theorem BU:me C (some (j9 C dx W Hd R)) "spread"=true:=ou rfl rfl rfl
theorem Cu:me C (some (j9 C dx W Hd R)) "shortest"=true:=ou rfl rfl rfl
theorem F7:me C (some (j9 C dx W Hd R)) "push"=true:=ou rfl rfl rfl
theorem F6:me C (some (j9 C dx W Hd R)) "fill"=true:=ou rfl rfl rfl
theorem GS:me C (some (j9 C dx W Hd R)) "flows"=true:=ou rfl rfl rfl
theorem IE:me C (some (j9 C dx W Hd R)) "reached_from"=true:=ou rfl rfl rfl
end
def nv(ws:List Nat):List V:=ws.map fun w:Nat=>V.int (w:Int)
def NtS(C:Addr)(H:Hp)(p R:Addr)(wf:Int->List Nat)(hs:List Int)(n:Nat):Prop:=∃(dx W Hd:Addr) (ls:List Addr),H p=some (j9 C dx W Hd R)/\H W=some (.lst (ls.map V.ref))/\ls.length=n/\(∀(i:Nat) (a:Addr),ls[i]? =some a->H a=some (.lst (nv (wf (i:Int))))/\a≠R)/\H Hd=some (.lst (hs.map V.int))/\W≠R/\Hd≠R/\p≠R
theorem NtS.but{C:Addr}{H H':Hp}{p R:Addr}{wf:Int->List Nat}{hs:List Int}{n:Nat}(h:NtS C H p R wf hs n)(s:But R H H'):NtS C H' p R wf hs n:=by
 obtain⟨dx,W,Hd,ls,e1,e2,e3,e4,e5,n1,n2,n3⟩:=h
 exact⟨dx,W,Hd,ls,s _ _ n3 e1,s _ _ n1 e2,e3,fun i a ha=>⟨s _ _ (e4 i a ha).2 (e4 i a ha).1,(e4 i a ha).2⟩,s _ _ n2 e5,n1,n2,n3⟩
theorem NtS.same{C:Addr}{H H':Hp}{p R:Addr}{wf:Int->List Nat}{hs:List Int}{n:Nat}(h:NtS C H p R wf hs n)(s:Same H H'):NtS C H' p R wf hs n:=h.but fun b o _ q=>s b o q
theorem o7{l:List Int}{w:Nat}(h:w<l.length):jb (l.map V.int) (w:Int)=some (.int (Fl.at' l w)):=by
 refine k7 ?_
 rw[aJ,gE h]
 unfold Fl.at'
 rw[aV,gE h]
 rfl
theorem yE{l:List Addr}{i:Nat}{a:Addr}(h:l[i]? =some a):jb (l.map V.ref) (i:Int)=some (.ref a):=by
 refine k7 ?_
 rw[aJ,h]
 rfl
def oV:Option Nat->V
 |none=>.non
 |some w=>.int (w:Int)
noncomputable def kX(cb:Fl.Cb):List (ij×V):=cb.map fun p=>(Sum.inl p.1,oV p.2)
theorem wb:∀(cb:Fl.Cb) (v:Int),(iK (kX cb) (Sum.inl v:ij)).isSome=Fl.seen cb v
 |[],v=>rfl
 | p::r,v=>by
  have ih:=wb r v
  unfold kX iK Fl.seen at ih ⊢
  rw[ai,List.find?_cons]
  by_cases c:p.1=v
  ·dsimp only
   rw[af (show(Sum.inl p.1:ij)=Sum.inl v from bV Sum.inl c)]
   dsimp only
   rw[af (by rw[ai,c];exact aZ)]
   rfl
  ·dsimp only
   rw[az (fun z:(Sum.inl p.1:ij)=Sum.inl v=>c (bL z))]
   dsimp only
   rw[ih,ai]
   congr 1
   simp only[aR,eq_iff_iff]
   exact⟨fun z=>.inr z,fun z=>z.resolve_left fun e=>c e.symm⟩
theorem vb:∀(cb:Fl.Cb) (v:Int),(iK (kX cb) (Sum.inl v:ij)).getD .non=oV (Fl.lk cb v)
 |[],v=>rfl
 | p::r,v=>by
  have ih:=vb r v
  unfold kX iK Fl.lk at ih ⊢
  rw[ai,List.find?_cons,List.find?_cons]
  by_cases c:p.1=v
  ·dsimp only
   rw[af (show(Sum.inl p.1:ij)=Sum.inl v from bV Sum.inl c),af c]
   rfl
  ·dsimp only
   rw[az (fun z:(Sum.inl p.1:ij)=Sum.inl v=>c (bL z)),az c]
   dsimp only
   exact ih
theorem ER{cb:Fl.Cb}{v:Int}{w:Nat}(h:Fl.seen cb v=false):jm (kX cb) (Sum.inl v:ij) (.int (w:Int))=kX (cb++[(v,some w)]):=by
 rw[tL]
 ·unfold kX
  rw[ah]
  rfl
 ·rw [<- wb] at h
  cases e:iK (kX cb) (Sum.inl v:ij)with
  |none=>rfl
  |some x=>rw[e]at h;cases h
theorem w6(hs r:List Int):∀(a b:List Nat) (cb:Fl.Cb),Fl.jW hs r cb (a++b)=Fl.jW hs r (Fl.jW hs r cb a) b
 |[],b,cb=>rfl
 |w::a,b,cb=>by
  rw[List.cons_append,Fl.jW,Fl.jW]
  exact w6 hs r a b _
theorem Gr(hs r:List Int)(ws:List Nat)(i:Nat)(cb:Fl.Cb):(Fl.jW hs r cb (ws.take i)).length<=(Fl.jW hs r cb ws).length:=by
 have e:Fl.jW hs r cb ws = Fl.jW hs r (Fl.jW hs r cb (ws.take i)) (ws.drop i):=by rw [<- w6,List.take_append_drop]
 obtain⟨l,e2⟩:=Fl.oU (hs:=hs) (r:=r) (ws.drop i) (Fl.jW hs r cb (ws.take i))
 rw[e,e2,aK]
 lia
structure Nt(C:Addr)(H:Hp)(p R:Addr)(wf:Int->List Nat)(hs:List Int)(m n:Nat)(r:List Int):Prop where
 st:NtS C H p R wf hs n
 eR:H R=some (.lst (r.map V.int))
 net:Fl.Net wf hs m n
 len:r.length=2*m
 big:2*m<=1000
 n200:n<=200
theorem Nt.same{C:Addr}{H H':Hp}{p R:Addr}{wf:Int->List Nat}{hs:List Int}{m n:Nat}{r:List Int}(h:Nt C H p R wf hs m n r)(s:Same H H'):Nt C H' p R wf hs m n r:=⟨h.st.same s,s _ _ h.eR,h.net,h.len,h.big,h.n200⟩
def wC(C:Addr):Sp:=fun vs H Q _=>∃p s R wf hs m n r,vs=[.ref p,.int s]/\Nt C H p R wf hs m n r/\0<=s/\s<(n:Int)/\∀d H',H d=none->Same H H'->H' d=some (.dK (kX (Fl.jG wf hs n s r)))->Q (.ref d) H'
noncomputable def nM(cb:Fl.Cb):List V:=cb.map fun p=>V.int p.1
theorem GZ(B:Blt mg)(D:MthAt K C_Net "spread" "Net.spread" (jE 5 4) ["self","source"] f fd)(T:NetC K mg C_Net):FnOk P w K mg base iu 1 f fd ["self","source"] (wC C_Net):=by
 have sc:FnScope ["self","source","came_by","line","done","knot","way","head"] ["self","source"] (iN (jE 5 4)):=by walk_at "SC"
 refine D.F.ok sc (fun vs H Q E h=>?_) (fun cdv A outer s H vs Q E hr h=>?_)
 ·obtain⟨p,s,R,wf,hs,m,n,r,rfl,_⟩:=h
  rfl
 obtain⟨p,s,R,wf,hs,m,n,r,rfl,N,s0,s1,h⟩:=h
 have hu:=iX hr
 have hu0:_<PySem.cLine:=au hu
 refine⟨_,(ik (iH (i:=2) sc.nd rfl (Or.inl rfl) (Gc (qv 1) sf)) (ik (iH (i:=3) sc.nd rfl (Or.inl rfl) (kL (h8 (qv 1) ic))) (ik (iH (i:=4) sc.nd rfl (Or.inl rfl) h9) (ik (tJ ba (iV mn (qv 4) (iU kc rfl B.len bu (h8 (qv 3) ic)) (iL _)) (ik (iH (i:=5) sc.nd rfl (Or.inl rfl) (il ip (qv 3) (qv 4) (fun _ _=>rfl))) (ik (j0 ba rfl (jg (il ip (mf T.cl T.n_ways_from (qv 0) rfl) (qv 5) (fun _ _=>rfl))) (iE (i:=6) sc.nd rfl (Or.inl rfl)) (ik (iH (i:=7) sc.nd rfl (Or.inl rfl) (il ip (mf T.cl T.n_heads (qv 0) rfl) (qv 6) (fun _ _=>rfl))) (iw (i7 (PW.pt (qm (iV pU (il ip (mf T.cl T.n_rooms (qv 0) rfl) (qv 6) (fun _ _=>rfl)) h9 (iL _)) (qy (oz (qK hu (qv 7) (qv 2)))))) (ik (mx hu (qv 2) (qv 7) (qv 6)) (iw (jV (kN aY bh bg kS (qv 3) (h8 (qv 7) ic))))) i8)))) (iw (qp (i:=4) sc.nd rfl (Or.inl rfl) h9 sj))))) (iw (iG (qv 2))))))),?_⟩
 have N0:=N
 obtain⟨⟨dx,W,Hd,ls,e1,e2,e3,e4,e5,n1,n2,n3⟩,eR,net,hlen,hbig,hn⟩:=N
 refine iz fun R' hR=>?_
 walk_at "D"
 intro d hd
 have q1:=iq hd (.dK [(Sum.inl s,.non)])
 have ed:upd H d (.dK [(Sum.inl s,.non)]) d=some (.dK [(Sum.inl s,.non)]):=ie
 generalize upd H d (.dK [(Sum.inl s,.non)])=H1 at q1 ed
 subst hR
 refine iz fun R' hR=>?_
 walk_at "D"
 intro l hl
 have q2:=q1.trans (iq hl (.lst [.int s]))
 have ed2:=iq hl (.lst [.int s]) _ _ ed
 have el:upd H1 l (.lst [.int s]) l=some (.lst [.int s]):=ie
 have ld:l≠d:=(iI ed hl).symm
 have hlH:H l=none:=q1.free hl
 generalize upd H1 l (.lst [.int s])=H2 at q2 ed2 el
 subst hR
 refine iz fun R' hR=>?_
 walk_at "D"
 subst hR
 refine iz fun R' hR=>?_
 refine tP (fun σ Hc=>∃(k:Nat) (v5 v6 v7:Option V),σ=[some (.ref p),some (.int s),some (.ref d),some (.ref l),some (.int (k:Int)),v5,v6,v7]/\Same H Hc/\Hc d=some (.dK (kX (Fl.ji wf hs r s k)))/\Hc l=some (.lst (nM (Fl.ji wf hs r s k)))/\k<=(Fl.ji wf hs r s k).length) (fun σ _=>match σ with |[_,_,_,_,some (.int k),_,_,_]=>n-k.toNat|_=>0) ⟨0,none,none,none,rfl,q2,ed2,el,bM _⟩ ?_ ?_
 ·rintro σ Hc ⟨k,v5,v6,v7,rfl,s3,ed3,el3,hk⟩
  have hkl:=Fl.oa (r:=r) net ⟨s0,s1⟩ k
  have hlk:(nM (Fl.ji wf hs r s k)).length=(Fl.ji wf hs r s k).length:=aa _
  by_cases c:k<(Fl.ji wf hs r s k).length
  ·have hdt:decide ((k:Int)<((Fl.ji wf hs r s k).length:Int))=true:=af (by lia)
   have hg:(Fl.ji wf hs r s k)[k]? =some (Fl.ji wf hs r s k)[k]:=gE c
   generalize hpk:(Fl.ji wf hs r s k)[k]=pk at hg
   have hgl:jb (nM (Fl.ji wf hs r s k)) (k:Int)=some (.int pk.1):=k7 (by unfold nM;rw[aJ,hg];rfl)
   simp_arith[ir,el3,hlk,hdt,hgl]
   have hkn:=Fl.yB (r:=r) net ⟨s0,s1⟩ k pk.1 (av.mpr ⟨_,aA hg,rfl⟩)
   have hi:pk.1.toNat<ls.length:=by lia
   have hla:ls[pk.1.toNat]? =some ls[pk.1.toNat]:=gE hi
   generalize ls[pk.1.toNat]=wa at hla
   have ewa:=(e4 _ _ hla).1
   rw[show((pk.1.toNat:Nat):Int)=pk.1 by lia]at ewa
   have hwa:jb (ls.map V.ref) pk.1=some (.ref wa):=by have:=yE hla;rw[show((pk.1.toNat:Nat):Int)=pk.1 by lia]at this;exact this
   have hnext:Fl.ji wf hs r s (k+1)=Fl.jW hs r (Fl.ji wf hs r s k) (wf pk.1):=by rw[Fl.ji,hg]
   have hkl2:=Fl.oa (r:=r) net ⟨s0,s1⟩ (k+1)
   rw[hnext]at hkl2
   generalize hcb:Fl.ji wf hs r s k=cb at*
   refine ky (i6 K wa) Hc (fun R3 hR3=>?_) (lD (K:=K) (a:=wa) (xs:=nv (wf pk.1)) (fun i σ H4=>∃v6 v7,σ=[some (.ref p),some (.int s),some (.ref d),some (.ref l),some (.int (k:Int)),some (.int pk.1),v6,v7]/\Same H H4/\H4 d=some (.dK (kX (Fl.jW hs r cb ((wf pk.1).take i))))/\H4 l=some (.lst (nM (Fl.jW hs r cb ((wf pk.1).take i))))) ⟨v6,v7,rfl,s3,ed3,el3⟩ (fun i σ H4 _ ⟨_,_,_,s4,_⟩=>SqL.of (s4 _ _ ewa)) ?_ ?_)
   ·unfold jc
    simp_arith[ir,s3 _ _ e1,CN,s3 _ _ e2,hwa]
    exact⟨wa,rfl,⟨_,SqL.of (s3 _ _ ewa)⟩,hR3⟩
   ·rintro i x σ H4 hx ⟨v6,v7,rfl,s4,ed4,el4⟩
    unfold nv at hx
    rw[aJ]at hx
    obtain⟨w,hw,rfl⟩:=eP.mp hx
    have hwm:=net.from' pk.1 w (aA hw)
    have hh:jb (hs.map V.int) (w:Int)=some (.int (Fl.at' hs w)):=o7 (by rw[net.len];exact hwm.1)
    have hr':jb (r.map V.int) (w:Int)=some (.int (Fl.at' r w)):=o7 (by rw[hlen];exact hwm.1)
    have hv1:Fl.jW hs r cb ((wf pk.1).take (i+1))=if 0<Fl.at' r w/\Fl.seen (Fl.jW hs r cb ((wf pk.1).take i)) (Fl.at' hs w)=false then Fl.jW hs r cb ((wf pk.1).take i)++[(Fl.at' hs w,some w)]else Fl.jW hs r cb ((wf pk.1).take i):=by
     rw[je hw,w6]
     rfl
    have hvl:=Gr hs r (wf pk.1) i cb
    generalize Fl.jW hs r cb ((wf pk.1).take i)=cb1 at*
    simp_arith[ir,s4 _ _ e1,rO,o5,s4 _ _ e5,hh,s4 _ _ eR,hr',ed4,wb]
    by_cases c1:0<Fl.at' r w
    ·rw[af c1,aH rfl]
     cases c2:Fl.seen cb1 (Fl.at' hs w)with
     |true=>
      walk_at "D"
      rw[aE (fun z=>by rw[c2]at z;cases z.2)]at hv1
      rw[hv1]
      exact⟨_,_,rfl,s4,(by first|rfl|exact ed4),el4⟩
     | false=>
      rw[aH ⟨c1,c2⟩]at hv1
      simp_arith[ER c2]
      have hcl:(kX cb1).length=cb1.length:=aa _
      refine⟨iM (by lia),?_⟩
      have el5:upd H4 d (.dK (kX (cb1++[(Fl.at' hs w,some w)]))) l=some (.lst (nM cb1)):=by rw[ix ld];exact el4
      refine⟨⟨l,_,rfl,el5⟩,?_⟩
      rw[el5]
      dsimp only
      have hcl2:(nM cb1).length=cb1.length:=aa _
      refine⟨iM (by lia),_,_,rfl,iW (iW s4 hd) hlH,?_,?_⟩
      ·rw[ix (cS ld),ie,hv1]
      ·rw[ie,hv1]
       unfold nM
       rw[ah]
       rfl
    ·rw[az c1,aE (by decide)]
     rw[aE (fun z=>c1 z.1)]at hv1
     rw[hv1]
     exact⟨_,_,rfl,s4,(by first|rfl|exact ed4),el4⟩
   ·rintro σ H4 ⟨v6,v7,rfl,s4,ed4,el4⟩
    have htl:(wf pk.1).take (nv (wf pk.1)).length=wf pk.1:=by unfold nv;rw[aa,aG]
    rw [htl,<- hnext] at ed4 el4
    walk_at "D"
    refine⟨⟨k+1,_,_,_,by rw[show((k+1:Nat):Int)=(k:Int)+1 by lia],s4,ed4,el4,?_⟩,?_⟩
    ·obtain⟨z,hz⟩:=Fl.yi (wf:=wf) (hs:=hs) (r:=r) (s:=s) k
     rw[hz,hcb,aK]
     lia
    ·lia
  ·have hdt:decide ((k:Int)<((Fl.ji wf hs r s k).length:Int))=false:=az (by lia)
   simp_arith[ir,el3,hlk,hdt]
   subst hR
   walk_at "D"
   have hfin:Fl.jG wf hs n s r=Fl.ji wf hs r s k:=by
    unfold Fl.jG
    rw[show n=k+(n-k) by lia]
    exact Fl.uL (by lia) _
   exact h d Hc hd s3 (by rw[hfin];exact ed3)
 ·intro σ Hc Q1 Q2 hq hc
  unfold fB nE pT qi oi kh at hc ⊢
  cases e:σ[4]? with
  |none=>rw[e]at hc;exact hc.elim
  | some ov=>
   rw[e]at hc
   cases ov with
   |none=>exact hc.elim
   | some u=>
    dsimp only[qU,fI,tC]at hc ⊢
    cases e3:σ[3]? with
    |none=>rw[e3]at hc;exact hc.elim
    | some ov3=>
     rw[e3]at hc
     cases ov3 with
     |none=>exact hc.elim
     | some u3=>
      dsimp only at hc ⊢
      cases u3 with
      | ref b=>
       dsimp only at hc ⊢
       cases e2:ir Hc b with
       |none=>rw[e2]at hc;exact hc.elim
       |some us=>
        rw[e2]at hc
        dsimp only at hc ⊢
        cases u with
        |int i=>exact hq _ _ hc
        |_=>exact hc.elim
      |_=>exact hc.elim
end
end My
namespace Fl
section
variable{hs r:List Int}{m:Nat}{s:Int}{cb:Cb}
theorem Fe{v:Int}{w:Nat}(h:lk cb v=some w):∃i:Nat,cb[i]? =some (v,some w):=by
 unfold lk at h
 cases e:cb.find? fun p=>decide (p.1=v)with
 |none=>rw[e]at h;cases h
 |some p=>
  rw[e]at h
  have hp:=List.mem_of_find?_eq_some e
  have hv:p.1=v:=by have:=List.find?_some e;exact bp (p:=p.1=v) this
  obtain⟨i,hi,e2⟩:=bq.mp hp
  refine⟨i,?_⟩
  rw[gE hi,e2]
  obtain⟨a,b⟩:=p
  dsimp only at hv
  have h:b=some w:=h
  rw[hv,h]
theorem Iw(C:Cam hs r m s cb):∀(i:Nat) (v:Int) (o:Option Nat),cb[i]? =some (v,o)->∀f,i<=f->jH hs cb (f+1) v=jH hs cb f v:=by
 intro i
 induction i using Nat.strongRecOn with
 | ind i ih=>
  intro v o h f hf
  have hl:=u5 C.nd h
  by_cases h0:i=0
  ·subst h0
   have e:=C.first
   rw[h]at e
   have ho:o=none:=bV Prod.snd (aD e)
   rw[ho]at hl
   rw[jH,hl]
   cases f with
   |zero=>rfl
   |succ f=>rw[jH,hl]
  ·obtain⟨w,rfl,h2,h3,h4,j,u,h5,h6,h7⟩:=C.came i v o h (by lia)
   obtain⟨f',rfl⟩:∃f',f=f'+1:=⟨f-1,by lia⟩
   obtain⟨p,hp⟩:∃p,cb[j]? =some p:=by
    cases e:cb[j]? with
    |none=>rw[e]at h6;cases h6
    |some p=>exact⟨p,rfl⟩
   have hpu:p.1=u:=by rw[hp]at h6;exact aD h6
   obtain⟨p1,p2⟩:=p
   dsimp only at hpu
   subst hpu
   have e1:jH hs cb (f'+1+1) v=w::jH hs cb (f'+1) p1:=by
    rw[jH,hl];dsimp only;rw[h7]
   have e2:jH hs cb (f'+1) v=w::jH hs cb f' p1:=by
    rw[jH,hl];dsimp only;rw[h7]
   rw[e1,e2,ih j h5 p1 p2 hp f' (by lia)]
theorem Dn(C:Cam hs r m s cb){n:Nat}(hn:cb.length<=n){v:Int}{w:Nat}(h:lk cb v=some w):jH hs cb n v=w::jH hs cb n (at' hs (iP w))/\w<2*m:=by
 obtain⟨i,hi⟩:=Fe h
 have hil:=(aq.mp hi).1
 have h0:0<i:=by
  by_cases z:i=0
  ·subst z
   have e:=C.first
   rw[hi]at e
   have:=bV Prod.snd (aD e)
   cases this
  ·lia
 obtain⟨w',hw',h2,h3,h4,j,u,h5,h6,h7⟩:=C.came i v _ hi h0
 cases hw'
 obtain⟨p,hp⟩:∃p,cb[j]? =some p:=by
  cases e:cb[j]? with
  |none=>rw[e]at h6;cases h6
  |some p=>exact⟨p,rfl⟩
 have hpu:p.1=u:=by rw[hp]at h6;exact aD h6
 obtain⟨f',rfl⟩:∃f',n=f'+1:=⟨n-1,by lia⟩
 refine⟨?_,h2⟩
 rw[jH,h]
 dsimp only
 rw [h7,<- hpu,Iw C j p.1 p.2 hp f' (by lia)]
theorem Do{v:Int}{n:Nat}(h:lk cb v=none):jH hs cb n v=[]:=by
 cases n with
 |zero=>rfl
 |succ n=>rw[jH,h]
theorem uJ:∀(n:Nat) (v:Int),(jH hs cb n v).length<=n
 |0,_=>aF _
 | n+1,v=>by
  rw[jH]
  split
  ·have:=uJ n (at' hs (iP ‹Nat›))
   rw[List.length_cons];lia
  ·exact bM _
theorem yz(r:List Int):∀{tr:List Nat},tr≠[]->lx r tr∈tr.map (at' r)
 |[],h=>absurd rfl h
 |[w],_=>aU.mpr rfl
 |w::x::tr,_=>by
  rw[lx]
  split
  ·exact aP _ (yz r (tr:=x::tr) (by simp))
  ·exact aZ
theorem D7(r:List Int)(tr:List Nat)(w:Nat)(a:Int):push r (tr++[w]) a=bump (push r tr a) w a:=by
 unfold push
 rw[List.foldl_append]
 rfl
end
end Fl
namespace My
open PySem L2
section
variable{P:Program}{w:World}{K:PySem.W.Frag}{mg:Str->Option Value}{base:Heap}{c1 c2 c3 c4:Tok}{C_Net C_NoWeb fqk:Addr}{dI:FuncData}
def Ah(C:Addr):Sp:=fun vs H Q _=>∃p s t R wf hs m n r,vs=[.ref p,.int s,.int t]/\Nt C H p R wf hs m n r/\0<=s/\s<(n:Int)/\∀l H',H l=none->Same H H'->H' l=some (.lst (nv (Fl.kI wf hs n s t r)))->Q (.ref l) H'
def zp(C:Addr):Sp:=fun vs H Q _=>∃p l R wf hs m n r tr,vs=[.ref p,.ref l]/\Nt C H p R wf hs m n r/\H l=some (.lst (nv tr))/\l≠R/\tr≠[]/\tr.length<=200/\(∀w∈tr,w<2*m)/\∀H',But R H H'->H' R=some (.lst ((Fl.push r tr (Fl.lx r tr)).map V.int))->Q (.int (Fl.lx r tr)) H'
def ze(C:Addr):Sp:=fun vs H Q _=>∃p s t R wf hs m n r cap,vs=[.ref p,.int s,.int t]/\Nt C H p R wf hs m n r/\s≠t/\0<=s/\s<(n:Int)/\Fl.Rooms m cap r/\∀x r' H',Fl.Runs wf hs n s t r r'->Fl.lh wf hs n s t r'=none->But R H H'->H' R=some (.lst (r'.map V.int))->Q (.int x) H'
theorem Ex(o:Option Nat):pZ (oV o)=o.isNone:=by cases o<;>rfl
theorem Bb(w:Nat):PySem.Builtin.bitXor (w:Int) 1=((Fl.iP w:Nat):Int):=FL w
noncomputable def unI(xs:List V):List Int:=xs.map fun x=>match x with
 | .int i=>i
 |_=>0
theorem Ap(r:List Int):unI (r.map V.int)=r:=by
 unfold unI
 rw[bw]
 exact List.map_id _
theorem zI{n w:Nat}(h:w<n):k9 n (w:Int)=some w:=by
 unfold k9
 rw[aH (by lia),aH (by lia)]
 rfl
theorem Nt.but{C:Addr}{H H':Hp}{p R:Addr}{wf:Int->List Nat}{hs:List Int}{m n:Nat}{r r':List Int}(h:Nt C H p R wf hs m n r)(s:But R H H')(e:H' R=some (.lst (r'.map V.int)))(hl:r'.length=2*m):Nt C H' p R wf hs m n r':=⟨h.st.but s,e,h.net,hl,h.big,h.n200⟩
theorem ES{cb:Fl.Cb}{v:Int}{w:Nat}(h:Fl.lk cb v=some w):iK (kX cb) (Sum.inl v:ij)=some (.int (w:Int)):=by
 have:=vb cb v
 rw[h]at this
 cases e:iK (kX cb) (Sum.inl v:ij)with
 |none=>rw[e]at this;cases this
 |some x=>rw[e]at this;exact bV some this
theorem IP(B:Blt mg)(D:MthAt K C_Net "shortest" "Net.shortest" (jE 5 3) ["self","source","sink"] f fd)(Dqt:MthAt K C_Net "spread" "Net.spread" (jE 5 4) ["self","source"] fqt dqt)(Gqt:FnOk P w K mg base iu 1 fqt dqt ["self","source"] (wC C_Net))(T:NetC K mg C_Net):FnOk P w K mg base iu 2 f fd ["self","source","sink"] (Ah C_Net):=by
 have sc:FnScope ["self","source","sink","came_by","trail","knot"] ["self","source","sink"] (iN (jE 5 3)):=by walk_at "SC"
 refine D.F.ok sc (fun vs H Q E h=>?_) (fun cdv A outer s H vs Q E hr h=>?_)
 ·obtain⟨p,s,t,R,wf,hs,m,n,r,rfl,_⟩:=h
  rfl
 obtain⟨p,s,t,R,wf,hs,m,n,r,rfl,N,s0,s1,h⟩:=h
 have hu:=iX hr
 have hu0:_<PySem.cLine:=au hu
 refine⟨_,(ik (iH (i:=3) sc.nd rfl (Or.inl rfl) (ni (qv 0) T.cl Dqt.m Gqt (hr.mono (by decide)) Dqt.b .nil iD (h8 (qv 1) ic))) (ik (iH (i:=4) sc.nd rfl (Or.inl rfl) (kL ic)) (ik (iH (i:=5) sc.nd rfl (Or.inl rfl) (qv 2)) (ik (tJ ba (iV D2 (FA hu (qv 3) (qv 5)) sf (iL _)) (ik (jV (kN aY bh bg kS (qv 4) (h8 (kF hu (qv 3) (qv 5) (fun _ _=>rfl)) ic))) (iw (iH (i:=5) sc.nd rfl (Or.inl rfl) (il ip (mf T.cl T.n_heads (qv 0) rfl) (iQ yt (kF hu (qv 3) (qv 5) (fun _ _=>rfl)) h9) (fun _ _=>rfl)))))) (iw (iG (qv 4))))))),?_⟩
 have N0:=N
 obtain⟨⟨dx,W,Hd,ls,e1,e2,e3,e4,e5,n1,n2,n3⟩,eR,net,hlen,hbig,hn⟩:=N
 refine iz fun R' hR=>?_
 simp_arith[e1,BU]
 refine⟨p,s,R,wf,hs,m,n,r,rfl,N0,s0,s1,fun d H1 hd q1 ed=>?_⟩
 subst hR
 refine iz fun R' hR=>?_
 walk_at "D"
 intro l hl
 have q2:=q1.trans (iq hl (.lst []))
 have ed2:=iq hl (.lst []) _ _ ed
 have el:upd H1 l (.lst []) l=some (.lst []):=ie
 have hlH:H l=none:=q1.free hl
 have ld:l≠d:=(iI ed hl).symm
 generalize upd H1 l (.lst [])=H2 at q2 ed2 el
 subst hR
 refine iz fun R' hR=>?_
 walk_at "D"
 subst hR
 refine iz fun R' hR=>?_
 have Cm:=Fl.mS (r:=r) (s:=s) net.from' n
 have hcl:=Fl.oa (r:=r) net ⟨s0,s1⟩ n
 have htl:=Fl.uJ (hs:=hs) (cb:=Fl.jG wf hs n s r) n t
 have htr:Fl.kI wf hs n s t r=Fl.jH hs (Fl.jG wf hs n s r) n t:=rfl
 rw[htr]at h
 generalize hcb:Fl.jG wf hs n s r=cb at*
 unfold Fl.jG at hcb
 rw[hcb]at Cm hcl
 refine tP (fun σ Hc=>∃(v:Int) (tr:List Nat),σ=[some (.ref p),some (.int s),some (.int t),some (.ref d),some (.ref l),some (.int v)]/\Same H Hc/\Hc d=some (.dK (kX cb))/\Hc l=some (.lst (nv tr))/\Fl.jH hs cb n t=tr++Fl.jH hs cb n v) (fun σ _=>match σ with |[_,_,_,_,_,some (.int v)]=>(Fl.jH hs cb n v).length|_=>0) ⟨t,[],rfl,q2,ed2,el,rfl⟩ ?_ ?_
 ·rintro σ Hc ⟨v,tr,rfl,s3,ed3,el3,htv⟩
  simp_arith[ed3,vb,Ex]
  refine⟨⟨_,rfl⟩,?_⟩
  cases hlk:Fl.lk cb v with
  |none=>
   simp_arith[Option.isNone]
   subst hR
   walk_at "D"
   rw[Fl.Do hlk,bb]at htv
   exact h l Hc hlH s3 (by rw[htv];exact el3)
  | some w=>
   obtain⟨hnx,hw⟩:=Fl.Dn Cm hcl hlk
   have hm:=Fl.rH hw
   have hh:jb (hs.map V.int) ((Fl.iP w:Nat):Int)=some (.int (Fl.at' hs (Fl.iP w))):=o7 (by rw[net.len];exact hm)
   have hval:=ES hlk
   have htl2:tr.length<=n:=by
    have:=bV List.length htv
    rw[aK]at this
    lia
   simp_arith[Option.isNone,el3,ed3,hval]
   refine⟨⟨l,_,rfl,el3⟩,?_⟩
   have hnl:(nv tr).length=tr.length:=aa _
   refine⟨iM (by lia),?_⟩
   have ed4:upd Hc l (.lst (nv tr++[.int (w:Int)])) d=some (.dK (kX cb)):=by rw[ix (cS ld)];exact ed3
   have s4:Same H (upd Hc l (.lst (nv tr++[.int (w:Int)]))):=iW s3 hlH
   have el4:upd Hc l (.lst (nv tr++[.int (w:Int)])) l=some (.lst (nv (tr++[w]))):=by rw[ie];unfold nv;rw[ah];rfl
   generalize upd Hc l (.lst (nv tr++[.int (w:Int)]))=H4 at ed4 s4 el4
   simp_arith[ir,s4 _ _ e1,rO,s4 _ _ e5,ed4,hval,Bb,hh]
   refine⟨⟨_,_,rfl,s4,el4,?_⟩,?_⟩
   ·rw[htv,hnx,bf]
    rfl
   ·rw[hnx,List.length_cons]
    lia
 ·intro σ Hc Q1 Q2 hq hc
  unfold fB nE vg kh at hc ⊢
  cases e:σ[3]? with
  |none=>rw[e]at hc;exact hc.elim
  | some ov=>
   rw[e]at hc
   cases ov with
   |none=>exact hc.elim
   | some u=>
    dsimp only at hc ⊢
    cases u with
    | ref a=>
     dsimp only at hc ⊢
     refine⟨hc.1,?_⟩
     have hc:=hc.2
     cases e3:σ[5]? with
     |none=>rw[e3]at hc;exact hc.elim
     | some ov3=>
      rw[e3]at hc
      cases ov3 with
      |none=>exact hc.elim
      | some u3=>
       dsimp only at hc ⊢
       cases u3 with
       | int i=>
        dsimp only at hc ⊢
        cases e4:Hc a with
        |none=>rw[e4]at hc;exact hc.elim
        |some ob=>
         rw[e4]at hc
         cases ob with
         |dK kvs=>dsimp only[tC,uy]at hc ⊢;exact hq _ _ hc
         |_=>exact hc.elim
       |_=>exact hc.elim
    |_=>exact hc.elim
theorem Ce(r:List Int)(w:Nat)(x:Int):(r.map V.int).set w (.int x)=(r.set w x).map V.int:=by rw[List.map_set]
theorem F4{i:Nat}{σ:St}{H:Hp}{Q Q':Bool->Hp->Prop}(hq:∀b H1,Q b H1->Q' b H1)(hc:pX (kh i) σ H Q):pX (kh i) σ H Q':=by
 unfold pX kh at hc ⊢
 cases e:σ[i]? with
 |none=>rw[e]at hc;exact hc.elim
 | some ov=>
  rw[e]at hc
  cases ov with
  |none=>exact hc.elim
  | some u=>
   dsimp only at hc ⊢
   cases u with
   | ref a=>
    dsimp only at hc ⊢
    cases e4:H a with
    |none=>rw[e4]at hc;exact hc.elim
    |some ob=>
     rw[e4]at hc
     cases ob with
     |lst xs=>exact hq _ _ hc
     |_=>exact hc.elim
   |_=>exact hc.elim
theorem Fn(B:Blt mg)(D:MthAt K C_Net "push" "Net.push" (jE 5 5) ["self","trail"] f fd)(T:NetC K mg C_Net):FnOk P w K mg base iu 1 f fd ["self","trail"] (zp C_Net):=by
 have sc:FnScope ["self","trail","amount","way"] ["self","trail"] (iN (jE 5 5)):=by walk_at "SC"
 refine D.F.ok sc (fun vs H Q E h=>?_) (fun cdv A outer s H vs Q E hr h=>?_)
 ·obtain⟨p,l,R,wf,hs,m,n,r,tr,rfl,_⟩:=h
  rfl
 obtain⟨p,l,R,wf,hs,m,n,r,tr,rfl,N,el,lR,tr0,htl,hw,h⟩:=h
 have hu:=iX hr
 have hu0:_<PySem.cLine:=au hu
 refine⟨_,(ik (iH (i:=2) sc.nd rfl (Or.inl rfl) (iU (Gz rfl) rfl B.min gb (h8 (jU (CpScope.of (N:=["way","self"]) (src:=[none,some 0]) (by rfl)) rfl (jg (qv 1)) (fun _ _ _ _=>(iE (i:=0) (iS (l:=["way","self"]) (by rfl)) rfl (Or.inl rfl))) (fun _ _ _ _=>kf) (fun _ _ _ _=>(il ip (mf T.cl T.n_rooms (qv 1) rfl) (qv 0) (fun _ _=>rfl)))) ic))) (ik (j0 ba rfl (jg (qv 1)) (iE (i:=3) sc.nd rfl (Or.inl rfl)) (ik (zS (mf T.cl T.n_rooms (qv 0) rfl) (qv 3) Bn (qv 2) E8 pf) (iw (zS (mf T.cl T.n_rooms (qv 0) rfl) (iQ yt (qv 3) h9) Bn (qv 2) E6 pf)))) (iw (iG (qv 2))))),?_⟩
 have N0:=N
 obtain⟨⟨dx,W,Hd,ls,e1,e2,e3,e4,e5,n1,n2,n3⟩,eR,net,hlen,hbig,hn⟩:=N
 have hnl:(nv tr).length=tr.length:=aa _
 refine iz fun R' hR=>?_
 walk_at "D"
 refine jx (i6 K l) H (fun R2 hR2=>?_) (fun z hz0=>ju tr.length (fun i σ' Hc=>∃w1,σ'=[w1,some (.ref p)]/\Same H Hc/\Hc z=some (.lst (((tr.take i).map (Fl.at' r)).map V.int))) ⟨none,rfl,iq hz0 _,ie⟩ ?_ ?_)
 ·unfold jc
  walk_at "D"
  exact⟨l,rfl,⟨_,SqL.of el⟩,hR2⟩
 ·rintro i σ' Hc hi ⟨w1,rfl,s7,ez⟩
  have x1:(nv tr)[i]? =some (.int ((tr[i]:Nat):Int)):=by unfold nv;rw[aJ,gE hi];rfl
  have x2:tr[i]? =some tr[i]:=gE hi
  have hwi:=hw _ (cf hi)
  generalize tr[i]=wi at x1 x2 hwi
  refine⟨⟨_,_,SqL.of (s7 _ _ el),x1⟩,?_⟩
  rintro y H' ⟨rfl,hy⟩
  have E1:=aD (x1.symm.trans (hy _ (SqL.of (s7 _ _ el))))
  subst E1
  have hr':jb (r.map V.int) (wi:Int)=some (.int (Fl.at' r wi)):=o7 (by rw[hlen];exact hwi)
  simp_arith[ir,s7 _ _ e1,o5,s7 _ _ eR,hr']
  refine⟨_,ez,?_,_,rfl,iW s7 hz0,?_⟩
  ·rw[aa,aa,aO]
   exact iM (by lia)
  ·rw[ie,je x2,ah,ah]
   rfl
 ·rintro σ' Hc ⟨w1,rfl,s7,ez⟩
  refine⟨⟨_,SqL.of (s7 _ _ el),by lia⟩,?_⟩
  rw[aG]at ez
  refine⟨z,_,rfl,ez,by simpa using tr0,fun a ha hmin=>?_⟩
  have hae:a=Fl.lx r tr:=by
   have h1:=hmin _ (Fl.yz r tr0)
   obtain⟨w,hwt,rfl⟩:=av.mp ha
   have h2:=Fl.uO r hwt
   lia
  subst hae
  generalize Fl.lx r tr=a at*
  walk_at "D"
  subst hR
  refine iz fun R' hR=>?_
  have zR:z≠R:=(iI eR hz0).symm
  refine ky (i6 K l) Hc (fun R3 hR3=>?_) (lD (K:=K) (a:=l) (xs:=nv tr) (fun i σ H4=>∃v3,σ=[some (.ref p),some (.ref l),some (.int a),v3]/\But R H H4/\H4 R=some (.lst ((Fl.push r (tr.take i) a).map V.int))) ⟨none,rfl,fun b o _ q=>s7 b o q,s7 _ _ eR⟩ (fun i σ H4 _ ⟨_,_,s4,_⟩=>SqL.of (s4 _ _ lR el)) ?_ ?_)
  ·unfold jc
   walk_at "D"
   exact⟨l,rfl,⟨_,SqL.of (s7 _ _ el)⟩,hR3⟩
  ·rintro i x σ H4 hx ⟨v3,rfl,s4,eR4⟩
   unfold nv at hx
   rw[aJ]at hx
   obtain⟨w,hwt,rfl⟩:=eP.mp hx
   have hwm:=hw w (aA hwt)
   have hmm:=Fl.rH hwm
   have hpl:(Fl.push r (tr.take i) a).length=2*m:=by rw[Fl.rE];exact hlen
   have hps:Fl.push r (tr.take (i+1)) a=Fl.bump (Fl.push r (tr.take i) a) w a:=by rw[je hwt,Fl.D7]
   generalize Fl.push r (tr.take i) a=r1 at*
   have e14:=s4 _ _ n3 e1
   have h1:jb (r1.map V.int) (w:Int)=some (.int (Fl.at' r1 w)):=o7 (by lia)
   have hx1:k9 (r1.map V.int).length (w:Int)=some w:=zI (by rw[aa];lia)
   refine iz fun R5 hR5=>?_
   simp_arith[e14,o5,eR4,h1,hx1]
   refine⟨gH _,?_⟩
   rw[Ce]
   have b5:But R H (upd H4 R (.lst ((r1.set w (Fl.at' r1 w-a)).map V.int))):=s4.trans (But.at R H4 _)
   have e15:=b5 _ _ n3 e1
   have eR5:upd H4 R (.lst ((r1.set w (Fl.at' r1 w-a)).map V.int)) R=some (.lst ((r1.set w (Fl.at' r1 w-a)).map V.int)):=ie
   generalize upd H4 R (.lst ((r1.set w (Fl.at' r1 w-a)).map V.int))=H5 at b5 e15 eR5
   have hl2:(r1.set w (Fl.at' r1 w-a)).length=2*m:=by rw[eG];exact hpl
   have h2:jb ((r1.set w (Fl.at' r1 w-a)).map V.int) ((Fl.iP w:Nat):Int)=some (.int (Fl.at' r1 (Fl.iP w))):=by
    rw[o7 (by lia),Fl.xM,aE (fun z=>Fl.uP w z.1.symm)]
   have hx2:k9 ((r1.set w (Fl.at' r1 w-a)).map V.int).length ((Fl.iP w:Nat):Int)=some (Fl.iP w):=zI (by rw[aa];lia)
   subst hR5
   simp_arith[e15,o5,eR5,Bb,h2,hx2]
   refine⟨gH _,_,rfl,b5.trans (But.at R H5 _),?_⟩
   rw[ie,hps,Ce]
   rfl
  ·rintro σ H4 ⟨v3,rfl,s4,eR4⟩
   rw[hnl,aG]at eR4
   subst hR
   walk_at "D"
   exact h H4 s4 eR4
theorem Fk(B:Blt mg)(D:MthAt K C_Net "fill" "Net.fill" (jE 5 2) ["self","source","sink"] f fd)(Dqv:MthAt K C_Net "shortest" "Net.shortest" (jE 5 3) ["self","source","sink"] fqv dqv)(Gqv:FnOk P w K mg base iu 2 fqv dqv ["self","source","sink"] (Ah C_Net))(Dzs:MthAt K C_Net "push" "Net.push" (jE 5 5) ["self","trail"] fzs dzs)(Gzs:FnOk P w K mg base iu 1 fzs dzs ["self","trail"] (zp C_Net))(T:NetC K mg C_Net):FnOk P w K mg base iu 3 f fd ["self","source","sink"] (ze C_Net):=by
 have sc:FnScope ["self","source","sink","flowing","trail"] ["self","source","sink"] (iN (jE 5 2)):=by walk_at "SC"
 refine D.F.ok sc (fun vs H Q E h=>?_) (fun cdv A outer s H vs Q E hr h=>?_)
 ·obtain⟨p,s,t,R,wf,hs,m,n,r,cap,rfl,_⟩:=h
  rfl
 obtain⟨p,s,t,R,wf,hs,m,n,r,cap,rfl,N,st,s0,s1,rm,h⟩:=h
 have hu:=iX hr
 have hu0:_<PySem.cLine:=au hu
 refine⟨_,(ik (iH (i:=3) sc.nd rfl (Or.inl rfl) h9) (ik (iH (i:=4) sc.nd rfl (Or.inl rfl) (ni (qv 0) T.cl Dqv.m Gqv (hr.mono (by decide)) Dqv.b .nil iD (h8 (qv 1) (h8 (qv 2) ic)))) (ik (tJ ba (Fz (qv 4)) (ik (qp (i:=3) sc.nd rfl (Or.inl rfl) (ni (qv 0) T.cl Dzs.m Gzs (hr.mono (by decide)) Dzs.b .nil iD (h8 (qv 4) ic)) sj) (iw (iH (i:=4) sc.nd rfl (Or.inl rfl) (ni (qv 0) T.cl Dqv.m Gqv (hr.mono (by decide)) Dqv.b .nil iD (h8 (qv 1) (h8 (qv 2) ic))))))) (iw (iG (qv 3)))))),?_⟩
 refine iz fun R' hR=>?_
 walk_at "D"
 subst hR
 refine iz fun R' hR=>?_
 obtain⟨dx,W,Hd,ls,e1,e2,e3,e4,e5,n1,n2,n3⟩:=N.st
 simp_arith[e1,Cu]
 refine⟨p,s,t,R,wf,hs,m,n,r,rfl,N,s0,s1,fun l H1 hl q1 el=>?_⟩
 have lR:l≠R:=(iI N.eR hl).symm
 subst hR
 refine iz fun R' hR=>?_
 refine tP (fun σ Hc=>∃(x:Int) (l:Addr) (r1:List Int),σ=[some (.ref p),some (.int s),some (.int t),some (.int x),some (.ref l)]/\But R H Hc/\Hc R=some (.lst (r1.map V.int))/\Fl.Runs wf hs n s t r r1/\Fl.Rooms m cap r1/\Hc l=some (.lst (nv (Fl.kI wf hs n s t r1)))/\l≠R) (fun _ Hc=>match Hc R with |some (.lst xs)=>(Fl.xJ cap m-Fl.ex hs m (unI xs) t).toNat|_=>0) ⟨0,l,r,rfl,fun b o _ q=>q1 b o q,q1 _ _ N.eR,.done r,rm,el,lR⟩ ?_ ?_
 ·rintro σ Hc ⟨x,l,r1,rfl,b2,eR2,run,rm1,el2,lR⟩
  have N2:=N.but b2 eR2 rm1.len
  have e12:=b2 _ _ n3 e1
  by_cases ct:Fl.kI wf hs n s t r1=[]
  ·have hst:Fl.lh wf hs n s t r1=none:=by unfold Fl.lh;rw[aH ct]
   have hne:(nv (Fl.kI wf hs n s t r1)).isEmpty=true:=by rw[ct];rfl
   simp_arith[el2,hne]
   subst hR
   walk_at "D"
   exact h x r1 Hc run hst b2 eR2
  ·have hst:Fl.lh wf hs n s t r1=some (Fl.push r1 (Fl.kI wf hs n s t r1) (Fl.lx r1 (Fl.kI wf hs n s t r1))):=by unfold Fl.lh;rw[aE ct]
   have hne:(nv (Fl.kI wf hs n s t r1)).isEmpty=false:=by unfold nv;cases hq:Fl.kI wf hs n s t r1 with |nil=>exact absurd hq ct|cons _ _=>rfl
   obtain⟨_,gi,G⟩:=Fl.xP N.net st ⟨s0,s1⟩ ct
   have hk:=Fl.yh N.net st ⟨s0,s1⟩ rm1 hst
   have hle:=Fl.uJ (hs:=hs) (cb:=Fl.jG wf hs n s r1) n t
   simp_arith[el2,hne,e12,F7]
   refine⟨p,l,R,wf,hs,m,n,r1,_,rfl,N2,el2,lR,ct,br hle N.n200,fun w hw=>(G.up w hw).1,fun H3 b3 eR3=>?_⟩
   have b4:=b2.trans b3
   have N3:=N2.but b3 eR3 (by rw[Fl.rE];exact rm1.len)
   simp_arith[b4 _ _ n3 e1,Cu]
   refine⟨p,s,t,R,wf,hs,m,n,_,rfl,N3,s0,s1,fun l2 H5 hl2 q5 el5=>?_⟩
   have eR5:=q5 _ _ eR3
   refine⟨⟨_,l2,_,rfl,b4.trans fun b o _ q=>q5 b o q,eR5,run.snoc hst,hk.1,el5,(iI eR3 hl2).symm⟩,?_⟩
   rw[eR5,eR2]
   dsimp only
   rw[Ap,Ap]
   have:=hk.2.2
   have:=Fl.J9 (hs:=hs) hk.1 t
   lia
 ·intro σ Hc Q1 Q2 hq hc
  exact F4 hq hc
structure NtG(C:Addr)(H:Hp)(p dx W Hd R:Addr)(ls:List Addr)(f:Nat->List V)(hv rv:List V):Prop where
 o:H p=some (j9 C dx W Hd R)
 w:H W=some (.lst (ls.map V.ref))
 l:∀(i:Nat) (a:Addr),ls[i]? =some a->H a=some (.lst (f i))/\a≠R/\a≠Hd/\a≠W
 nd:ls.Nodup
 h:H Hd=some (.lst hv)
 r:H R=some (.lst rv)
 n1:W≠R
 n2:Hd≠R
 n3:W≠Hd
noncomputable def pV(H:Hp)(wa Hd R:Addr)(a b c:List V):Hp:=upd (upd (upd H wa (.lst a)) Hd (.lst b)) R (.lst c)
theorem NtG.put{C:Addr}{H:Hp}{p dx W Hd R:Addr}{ls:List Addr}{f:Nat->List V}{hv rv:List V}(G:NtG C H p dx W Hd R ls f hv rv){i:Nat}{wa:Addr}(hi:ls[i]? =some wa)(x y z:V):
  NtG C (pV H wa Hd R (f i++[x]) (hv++[y]) (rv++[z])) p dx W Hd R ls (fun j=>if j=i then f i++[x]else f j) (hv++[y]) (rv++[z]):=by
 obtain⟨a1,a2,a3,a4⟩:=G.l i wa hi
 have p1:p≠wa:=ow G.o a1 (by intro z;cases z)
 have p2:p≠Hd:=ow G.o G.h (by intro z;cases z)
 have p3:p≠R:=ow G.o G.r (by intro z;cases z)
 unfold pV
 refine⟨by rw[ix p3,ix p2,ix p1];exact G.o,by rw[ix G.n1,ix G.n3,ix (cS a4)];exact G.w,fun j a ha=>?_,G.nd,by rw[ix G.n2,ie],ie,G.n1,G.n2,G.n3⟩
 obtain⟨b1,b2,b3,b4⟩:=G.l j a ha
 refine⟨?_,b2,b3,b4⟩
 rw[ix b2,ix b3]
 by_cases c:j=i
 ·subst c
  rw[hi]at ha
  cases ha
  rw[aH rfl,ie]
 ·rw[aE c,ix (fun e=>c ?_)]
  ·exact b1
  ·subst e
   have h1:=(aq.mp ha)
   have h2:=(aq.mp hi)
   exact(fN G.nd).mp (h1.2.trans h2.2.symm)
def A6(C:Addr):Sp:=fun vs H Q _=>∃p dx W Hd R ls f hv rv i wa hd rm,vs=[.ref p,.int ((i:Nat):Int),.int hd,.int rm]/\NtG C H p dx W Hd R ls f hv rv/\ls[i]? =some wa/\(f i).length<=900/\hv.length<=900/\rv.length<=900/\Q .non (pV H wa Hd R (f i++[.int (hv.length:Int)]) (hv++[.int hd]) (rv++[.int rm]))
def zi(C:Addr):Sp:=fun vs H Q _=>∃p dx n al zs as,vs=[.ref p,.int ((n:Nat):Int),.ref al]/\H p=some (.ins C dx [])/\H al=some (.lst zs)/\jP H zs as/\n<=200/\as.length<=450/\(∀a∈as,(0<=a.1/\a.1<(n:Int))/\0<=a.2.1/\a.2.1<(n:Int))/\∀R H',H R=none->But p H H'->Nt C H' p R (Fl.j1 as) (Fl.jr as) as.length n (Fl.j2 as)->Q .non H'
theorem Dh(as:List Fl.j3)(u:Int):(Fl.j1 as u).length<=2*as.length:=by
 unfold Fl.j1
 have:=bS (fun w=>decide (Fl.at' (Fl.jr as) (Fl.iP w)=u)) (List.range (2*as.length))
 rw[bU]at this
 exact this
theorem But.upd{p q:Addr}{H H':Hp}{o:HO}(b:But p H H')(h:H q=none):But p H (upd H' q o):=fun c u n e=>by rw[ix (iI e h)];exact b c u n e
theorem yV(a b:List Nat):nv (a++b)=nv a++nv b:=ah
theorem Ik(B:Blt mg)(D:MthAt K C_Net "put_way" "Net.put_way" (jE 5 1) ["self","tail","head","room"] f fd)(T:NetC K mg C_Net):FnOk P w K mg base iu 1 f fd ["self","tail","head","room"] (A6 C_Net):=by
 have sc:FnScope ["self","tail","head","room"] ["self","tail","head","room"] (iN (jE 5 1)):=by walk_at "SC"
 refine D.F.ok sc (fun vs H Q E h=>?_) (fun cdv A outer s H vs Q E hr h=>?_)
 ·obtain⟨p,dx,W,Hd,R,ls,f,hv,rv,i,wa,hd,rm,rfl,_⟩:=h
  rfl
 obtain⟨p,dx,W,Hd,R,ls,f,hv,rv,i,wa,hd,rm,rfl,G,hi,l1,l2,l3,h⟩:=h
 have hu:=iX hr
 have hu0:_<PySem.cLine:=au hu
 refine⟨_,(ik (jV (kN aY bh bg kS (il ip (mf T.cl T.n_ways_from (qv 0) rfl) (qv 1) (fun _ _=>rfl)) (h8 (iU kc rfl B.len bu (h8 (mf T.cl T.n_heads (qv 0) rfl) ic)) ic))) (ik (jV (kN aY bh bg kS (mf T.cl T.n_heads (qv 0) rfl) (h8 (qv 2) ic))) (iw (jV (kN aY bh bg kS (mf T.cl T.n_rooms (qv 0) rfl) (h8 (qv 3) ic)))))),?_⟩
 have e1:=G.o
 have e2:=G.w
 have e3:=G.h
 have hat:=yE hi
 obtain⟨a1,a2,a3,a4⟩:=G.l i wa hi
 have p1:p≠wa:=ow G.o a1 (by intro z;cases z)
 have p2:p≠Hd:=ow G.o G.h (by intro z;cases z)
 refine iz fun R' hR=>?_
 simp_arith[ir,e1,CN,rO,e2,hat,a1,e3]
 refine⟨⟨wa,_,rfl,a1⟩,iM (by lia),?_⟩
 have e4:upd H wa (.lst (f i++[.int (hv.length:Int)])) p=some (j9 C_Net dx W Hd R):=by rw[ix p1];exact e1
 have e5:upd H wa (.lst (f i++[.int (hv.length:Int)])) Hd=some (.lst hv):=by rw[ix (cS a3)];exact e3
 have e6:upd H wa (.lst (f i++[.int (hv.length:Int)])) R=some (.lst rv):=by rw[ix (cS a2)];exact G.r
 subst hR
 refine iz fun R' hR=>?_
 simp_arith[e4,rO,e5]
 refine⟨⟨Hd,_,rfl,e5⟩,iM (by lia),?_⟩
 have e7:upd (upd H wa (.lst (f i++[.int (hv.length:Int)]))) Hd (.lst (hv++[.int hd])) p=some (j9 C_Net dx W Hd R):=by rw[ix p2];exact e4
 have e8:upd (upd H wa (.lst (f i++[.int (hv.length:Int)]))) Hd (.lst (hv++[.int hd])) R=some (.lst rv):=by rw[ix (cS G.n2)];exact e6
 subst hR
 simp_arith[e7,o5,e8]
 exact⟨⟨R,_,rfl,e8⟩,iM (by lia),h⟩
theorem NtG.congr{C:Addr}{H:Hp}{p dx W Hd R:Addr}{ls:List Addr}{f g:Nat->List V}{hv rv hv' rv':List V}(G:NtG C H p dx W Hd R ls f hv rv)(h:∀i,i<ls.length->f i=g i)(e1:hv=hv')(e2:rv=rv'):NtG C H p dx W Hd R ls g hv' rv':=by
 subst e1 e2
 exact ⟨G.o,G.w,fun i a ha=>by rw [<- h i (aq.mp ha).1]; exact G.l i a ha,G.nd,G.h,G.r,G.n1,G.n2,G.n3⟩
theorem AV{p wa Hd R:Addr}{H H':Hp}{a b c:List V}(s:But p H H')(h1:H wa=none)(h2:H Hd=none)(h3:H R=none):But p H (pV H' wa Hd R a b c):=((s.upd h1).upd h2).upd h3
theorem FK{as:List Fl.j3}{a:Fl.j3}{i1 i2 j:Nat}(h1:a.1=(i1:Int))(h2:a.2.1=(i2:Int)){x y:V}(hx:x= .int ((2*as.length:Nat):Int))(hy:y= .int ((2*as.length+1:Nat):Int)):
  (if j=i2 then(if i2=i1 then nv (Fl.j1 as (i1:Int))++[x]else nv (Fl.j1 as (i2:Int)))++[y]else(if j=i1 then nv (Fl.j1 as (i1:Int))++[x]else nv (Fl.j1 as (j:Int))))=nv (Fl.j1 (as++[a]) (j:Int)):=by
 rw[Fl.Dg,yV,yV,h1,h2,hx,hy]
 by_cases c1:j=i1
 ·by_cases c2:j=i2
  ·have:i2=i1:=by lia
   subst c2
   subst this
   rw[aH rfl,aH rfl,aH rfl,aH rfl]
   rfl
  ·subst c1
   rw[aE c2,aH rfl,aH rfl,aE (by lia)]
   show _=_++[]
   rw[bb]
   rfl
 ·by_cases c2:j=i2
  ·subst c2
   rw[aH rfl,aE c1,aE (by lia),aH rfl]
   show _=(_++[])++_
   rw[bb]
   rfl
  ·rw[aE c2,aE c1,aE (by lia),aE (by lia)]
   show _=(_++[])++[]
   rw[bb,bb]
theorem Fm(B:Blt mg)(D:MthAt K C_Net "__init__" "Net.__init__" (jE 5 0) ["self","many","arcs"] f fd)(Dqu:MthAt K C_Net "put_way" "Net.put_way" (jE 5 1) ["self","tail","head","room"] fqu dqu)(Gqu:FnOk P w K mg base iu 1 fqu dqu ["self","tail","head","room"] (A6 C_Net))(T:NetC K mg C_Net):FnOk P w K mg base iu 2 f fd ["self","many","arcs"] (zi C_Net):=by
 have sc:FnScope ["self","many","arcs","tail","head","room"] ["self","many","arcs"] (iN (jE 5 0)):=by walk_at "SC"
 refine D.F.ok sc (fun vs H Q E h=>?_) (fun cdv A outer s H vs Q E hr h=>?_)
 ·obtain⟨p,dx,n,al,zs,as,rfl,_⟩:=h
  rfl
 obtain⟨p,dx,n,al,zs,as,rfl,ep,eal,pz,hn,ha,hok,h⟩:=h
 have hu:=iX hr
 have hu0:_<PySem.cLine:=au hu
 refine⟨_,(ik (vR T.cl T.n_ways_from (qv 0) (jU (CpScope.of (N:=["knot"]) (src:=[none]) (by rfl)) rfl (oO rfl B.range (h8 (qv 1) ic)) (fun _ _ _ _=>(iE (i:=0) (iS (l:=["knot"]) (by rfl)) rfl (Or.inl rfl))) (fun _ _ _ _=>kf) (fun _ _ _ _=>(kL ic))) rfl) (ik (vR T.cl T.n_heads (qv 0) (kL ic) rfl) (ik (vR T.cl T.n_rooms (qv 0) (kL ic) rfl) (iw (j0 ba rfl (jg (qv 2)) (jJ (n:=3) rfl (iO (iE (i:=3) sc.nd rfl (Or.inl rfl)) (iO (iE (i:=4) sc.nd rfl (Or.inl rfl)) (iO (iE (i:=5) sc.nd rfl (Or.inl rfl)) jK)))) (ik (jV (ni (qv 0) T.cl Dqu.m Gqu (hr.mono (by decide)) Dqu.b .nil iD (h8 (qv 3) (h8 (qv 4) (h8 (qv 5) ic))))) (iw (jV (ni (qv 0) T.cl Dqu.m Gqu (hr.mono (by decide)) Dqu.b .nil iD (h8 (qv 4) (h8 (qv 3) (h8 h9 ic)))))))))))),?_⟩
 have hlz:zs.length=as.length:=ao pz
 have alp:al≠p:=ow eal ep (by intro z;cases z)
 refine iz fun R' hR=>?_
 walk_at "D"
 refine jx (lO 0 n) H (fun R2 hR2=>?_) (fun W hW=>ju n (fun i σ' Hc=>∃w1 ls,σ'=[w1]/\Same H Hc/\Hc W=some (.lst (ls.map V.ref))/\ls.length=i/\ls.Nodup/\∀a∈ls,Hc a=some (.lst [])/\a≠W/\H a=none) ⟨none,[],rfl,iq hW _,ie,rfl,.nil,fun a z=>by cases z⟩ ?_ ?_)
 ·unfold oo
  walk_at "D"
  exact⟨_,rfl,by lia,by lia,hR2⟩
 ·rintro i σ' Hc hi ⟨w1,ls,rfl,s1,eW,hl,nd,hls⟩
  refine⟨hi,?_⟩
  rintro y H' ⟨rfl,rfl⟩
  walk_at "D"
  intro b hb
  have q:=iq hb (.lst [])
  have eb:upd H' b (.lst []) b=some (.lst []):=ie
  have eW2:=q _ _ eW
  have bW:b≠W:=(iI eW hb).symm
  have s2:=s1.trans q
  have hls2:∀a∈ls,upd H' b (.lst []) a=some (.lst [])/\a≠b:=fun a ha=>⟨q _ _ (hls a ha).1,iI (hls a ha).1 hb⟩
  generalize upd H' b (.lst [])=H3 at q eb eW2 s2 hls2
  refine⟨_,eW2,by rw[aa];exact iM (by lia),_,ls++[b],rfl,iW s2 hW,by rw[ie,ah];rfl,by rw[aK,hl];rfl,?_,fun a ha=>?_⟩
  ·rw[eQ]
   refine⟨nd,by simp,fun a ha c hc=>?_⟩
   rw[aU.mp hc]
   exact(hls2 a ha).2
  ·rcases bz.mp ha with ha|ha
   ·refine⟨by rw[ix (hls a ha).2.1];exact(hls2 a ha).1,(hls a ha).2⟩
   ·rw[aU.mp ha]
    exact⟨by rw[ix bW];exact eb,bW,s1.free hb⟩
 rintro σ' H1 ⟨w1,ls,rfl,s1,eW,hl,nd,hls⟩
 refine⟨aF _,?_⟩
 have ep1:=s1 _ _ ep
 simp_arith[ep1]
 refine⟨dJ rfl,?_⟩
 have b2:But p H (upd H1 p (.ins C_Net dx (jn "ways_from" (.ref W) []))):=fun b o n q=>by rw[ix n];exact s1 b o q
 have ep2:upd H1 p (.ins C_Net dx (jn "ways_from" (.ref W) [])) p=some (.ins C_Net dx (jn "ways_from" (.ref W) [])):=ie
 have Wp:W≠p:=(iI ep hW).symm
 have eW2:upd H1 p (.ins C_Net dx (jn "ways_from" (.ref W) [])) W=some (.lst (ls.map V.ref)):=by rw[ix Wp];exact eW
 have hls2:∀a∈ls,upd H1 p (.ins C_Net dx (jn "ways_from" (.ref W) [])) a=some (.lst [])/\a≠W/\H a=none:=fun a ha=>⟨by rw[ix (iI ep (hls a ha).2.2).symm];exact(hls a ha).1,(hls a ha).2⟩
 generalize upd H1 p (.ins C_Net dx (jn "ways_from" (.ref W) []))=H2 at b2 ep2 eW2 hls2
 clear hls eW ep1 s1
 have free:∀{H':Hp} {q:Addr},But p H H'->H' p≠none->H' q=none->H q=none:=fun{H' q} b hp hq=>by
  cases e:H q with
  |none=>rfl
  |some o=>
   have hqp:q ≠ p:=fun z=>hp (by rw [<- z]; exact hq)
   rw[b _ _ hqp e]at hq
   cases hq
 subst hR
 refine iz fun R' hR=>?_
 walk_at "D"
 intro Hd hHd
 have fHd:H Hd=none:=free b2 (by rw[ep2];simp) hHd
 have ep3:upd H2 Hd (.lst []) p=some (.ins C_Net dx (jn "ways_from" (.ref W) [])):=iq hHd _ _ _ ep2
 have eHd:upd H2 Hd (.lst []) Hd=some (.lst []):=ie
 have WHd:W≠Hd:=iI eW2 hHd
 have hls3:∀a∈ls,upd H2 Hd (.lst []) a=some (.lst [])/\a≠Hd:=fun a ha=>⟨iq hHd _ _ _ (hls2 a ha).1,iI (hls2 a ha).1 hHd⟩
 have eW3:=iq hHd (.lst []) _ _ eW2
 have b3:But p H (upd H2 Hd (.lst [])):=b2.upd fHd
 generalize upd H2 Hd (.lst [])=H3 at ep3 eHd hls3 eW3 b3
 simp_arith[ep3]
 refine⟨dJ rfl,?_⟩
 have Hdp:Hd≠p:=(iI ep fHd).symm
 have ep4:upd H3 p (.ins C_Net dx (jn "heads" (.ref Hd) (jn "ways_from" (.ref W) []))) p=some (.ins C_Net dx (jn "heads" (.ref Hd) (jn "ways_from" (.ref W) []))):=ie
 have eHd4:upd H3 p (.ins C_Net dx (jn "heads" (.ref Hd) (jn "ways_from" (.ref W) []))) Hd=some (.lst []):=by rw[ix Hdp];exact eHd
 have eW4:upd H3 p (.ins C_Net dx (jn "heads" (.ref Hd) (jn "ways_from" (.ref W) []))) W=some (.lst (ls.map V.ref)):=by rw[ix Wp];exact eW3
 have hls4:∀a∈ls,upd H3 p (.ins C_Net dx (jn "heads" (.ref Hd) (jn "ways_from" (.ref W) []))) a=some (.lst []):=fun a ha=>by rw[ix (iI ep (hls2 a ha).2.2).symm];exact(hls3 a ha).1
 have b4:But p H (upd H3 p (.ins C_Net dx (jn "heads" (.ref Hd) (jn "ways_from" (.ref W) [])))):=b3.trans (But.at p H3 _)
 generalize upd H3 p (.ins C_Net dx (jn "heads" (.ref Hd) (jn "ways_from" (.ref W) [])))=H4 at ep4 eHd4 eW4 hls4 b4
 subst hR
 refine iz fun R' hR=>?_
 walk_at "D"
 intro R hRn
 have fR:H R=none:=free b4 (by rw[ep4];simp) hRn
 have ep5:upd H4 R (.lst []) p=some (.ins C_Net dx (jn "heads" (.ref Hd) (jn "ways_from" (.ref W) []))):=iq hRn _ _ _ ep4
 have eR5:upd H4 R (.lst []) R=some (.lst []):=ie
 have eHd5:=iq hRn (.lst []) _ _ eHd4
 have eW5:=iq hRn (.lst []) _ _ eW4
 have WR:W≠R:=iI eW4 hRn
 have HdR:Hd≠R:=iI eHd4 hRn
 have hls5:∀a∈ls,upd H4 R (.lst []) a=some (.lst [])/\a≠R:=fun a ha=>⟨iq hRn _ _ _ (hls4 a ha),iI (hls4 a ha) hRn⟩
 have b5:But p H (upd H4 R (.lst [])):=b4.upd fR
 generalize upd H4 R (.lst [])=H5 at ep5 eR5 eHd5 eW5 hls5 b5
 simp_arith[ep5]
 refine⟨dJ rfl,?_⟩
 have Rp:R≠p:=(iI ep fR).symm
 have eo:(HO.ins C_Net dx (jn "rooms" (.ref R) (jn "heads" (.ref Hd) (jn "ways_from" (.ref W) []))))=j9 C_Net dx W Hd R:=rfl
 rw[eo]
 have b6:But p H (upd H5 p (j9 C_Net dx W Hd R)):=b5.trans (But.at p H5 _)
 have G0:NtG C_Net (upd H5 p (j9 C_Net dx W Hd R)) p dx W Hd R ls (fun i=>nv (Fl.j1 (as.take 0) (i:Int))) ((Fl.jr (as.take 0)).map V.int) ((Fl.j2 (as.take 0)).map V.int):=by
  refine⟨ie,by rw[ix Wp];exact eW5,fun i a hia=>?_,nd,by rw[ix Hdp];exact eHd5,by rw[ix Rp];exact eR5,WR,HdR,WHd⟩
  have ha:=aA hia
  exact⟨by rw[ix (iI ep (hls2 a ha).2.2).symm];exact(hls5 a ha).1,(hls5 a ha).2,(hls3 a ha).2,(hls2 a ha).2.1⟩
 generalize upd H5 p (j9 C_Net dx W Hd R)=H6 at b6 G0
 have fls:∀a∈ls,H a=none:=fun a ha=>(hls2 a ha).2.2
 clear hls2 hls3 hls4 hls5 b2 b3 b4 b5 ep2 ep3 ep4 ep5 eW2 eW3 eW4 eW5 eHd eHd4 eHd5 eR5
 subst hR
 refine ky (i6 K al) H6 (fun R3 hR3=>?_) (lD (K:=K) (a:=al) (xs:=zs) (fun k σ Hc=>∃v1 v2 v3,σ=[some (.ref p),some (.int (n:Int)),some (.ref al),v1,v2,v3]/\But p H Hc/\NtG C_Net Hc p dx W Hd R ls (fun i=>nv (Fl.j1 (as.take k) (i:Int))) ((Fl.jr (as.take k)).map V.int) ((Fl.j2 (as.take k)).map V.int)) ⟨none,none,none,rfl,b6,G0⟩ (fun i σ Hc _ ⟨_,_,_,_,b,_⟩=>SqL.of (b _ _ alp eal)) ?_ ?_)
 ·unfold jc
  walk_at "D"
  exact⟨al,rfl,⟨_,SqL.of (b6 _ _ alp eal)⟩,hR3⟩
 ·rintro k x σ Hc hx ⟨v1,v2,v3,rfl,b7,G⟩
  obtain⟨a,hka,pa⟩:=jl pz hx
  obtain⟨t,rfl,et⟩:=Tp.tups pa (b7.tups ep rfl)
  have hkl:=(aq.mp hka).1
  obtain⟨⟨h1,h2⟩,h3,h4⟩:=hok a (aA hka)
  have i1:ls[a.1.toNat]? =some (ls[a.1.toNat]'(by lia)):=gE _
  have i2:ls[a.2.1.toNat]? =some (ls[a.2.1.toNat]'(by lia)):=gE _
  generalize ls[a.1.toNat]'(by lia)=w1 at i1
  generalize ls[a.2.1.toNat]'(by lia)=w2 at i2
  have c1:((a.1.toNat:Nat):Int)=a.1:=by lia
  have c2:((a.2.1.toNat:Nat):Int)=a.2.1:=by lia
  have htk:(as.take k).length=k:=by rw[aO];lia
  have hl1:((Fl.jr (as.take k)).map V.int).length=2*k:=by rw[aa,Fl.uw,htk]
  have hl2:((Fl.j2 (as.take k)).map V.int).length=2*k:=by rw[aa,Fl.rC,htk]
  have hl3:∀u:Int,(nv (Fl.j1 (as.take k) u)).length<=2*k:=fun u=>by
   have:=Dh (as.take k) u
   rw[htk]at this
   unfold nv
   rw[aa]
   exact this
  simp_arith[et,G.o,Ci]
  refine⟨p,dx,W,Hd,R,ls,_,_,_,a.1.toNat,w1,a.2.1,a.2.2,by rw[c1],G,i1,by have:=hl3 ((a.1.toNat:Nat):Int);lia,by lia,by lia,?_⟩
  have G1:=G.put i1 (.int (((Fl.jr (as.take k)).map V.int).length:Int)) (.int a.2.1) (.int a.2.2)
  have b8:=AV (wa:=w1) (Hd:=Hd) (R:=R) (a:=nv (Fl.j1 (as.take k) ((a.1.toNat:Nat):Int))++[.int (((Fl.jr (as.take k)).map V.int).length:Int)]) (b:=(Fl.jr (as.take k)).map V.int++[.int a.2.1]) (c:=(Fl.j2 (as.take k)).map V.int++[.int a.2.2]) b7 (fls _ (aA i1)) fHd fR
  generalize pV Hc w1 Hd R (nv (Fl.j1 (as.take k) ((a.1.toNat:Nat):Int))++[.int (((Fl.jr (as.take k)).map V.int).length:Int)]) ((Fl.jr (as.take k)).map V.int++[.int a.2.1]) ((Fl.j2 (as.take k)).map V.int++[.int a.2.2])=H8 at G1 b8
  simp_arith[G1.o,Ci]
  refine⟨p,dx,W,Hd,R,ls,_,_,_,a.2.1.toNat,w2,a.1,0,by rw[c2],G1,i2,?_,by rw[aK,hl1];show _+1<=_;lia,by rw[aK,hl2];show _+1<=_;lia,?_⟩
  ·split
   ·rw[aK]
    have:=hl3 ((a.1.toNat:Nat):Int)
    show _+1<=_
    lia
   ·have:=hl3 ((a.2.1.toNat:Nat):Int);lia
  have G2:=G1.put i2 (.int ((((Fl.jr (as.take k)).map V.int)++[V.int a.2.1]).length:Int)) (.int a.1) (.int 0)
  have b9:=AV (wa:=w2) (Hd:=Hd) (R:=R) (a:=(if a.2.1.toNat=a.1.toNat then nv (Fl.j1 (as.take k) ((a.1.toNat:Nat):Int))++[.int (((Fl.jr (as.take k)).map V.int).length:Int)]else nv (Fl.j1 (as.take k) ((a.2.1.toNat:Nat):Int)))++[.int ((((Fl.jr (as.take k)).map V.int)++[V.int a.2.1]).length:Int)]) (b:=((Fl.jr (as.take k)).map V.int++[.int a.2.1])++[.int a.1]) (c:=((Fl.j2 (as.take k)).map V.int++[.int a.2.2])++[.int 0]) b8 (fls _ (aA i2)) fHd fR
  refine⟨_,_,_,rfl,b9,G2.congr (fun j hj=>?_) ?_ ?_⟩
  ·rw[je hka]
   exact FK c1.symm c2.symm (by rw[hl1,htk]) (by rw[aK,hl1,htk];rfl)
  ·rw[je hka,Fl.xu,ah,bf];rfl
  ·rw[je hka,Fl.ym,ah,bf];rfl
 ·rintro σ Hc ⟨v1,v2,v3,rfl,b7,G⟩
  rw[hlz,aG]at G
  refine h R Hc fR b7 ⟨⟨dx,W,Hd,ls,G.o,G.w,hl,fun i a hia=>⟨(G.l i a hia).1,(G.l i a hia).2.1⟩,G.h,G.n1,G.n2,Rp.symm⟩,G.r,Fl.yy hok,Fl.rC as,by lia,hn⟩
end
end My
namespace My
open PySem L2
section
variable{P:Program}{w:World}{K:PySem.W.Frag}{mg:Str->Option Value}{base:Heap}{c1 c2 c3 c4 e1 e2 e3:Tok}{C_Net C_NoWeb fqk:Addr}{dI:FuncData}
structure Cst2(mg:Str->Option Value)(t1 t2 t3:Tok):Prop where
 SOURCE:mg "SOURCE"=some (.int 0 t1)
 SINK:mg "SINK"=some (.int 1 t2)
 FIRST:mg "FIRST"=some (.int 2 t3)
theorem Cq{ι:Type}{src:List (Option Nat)}{wi:TI}{g:TG}{tc:TT}{te:TE}{Q:VK}{σ:St}{H:Hp}(J:ι->It)(H1:ι->Hp)(ok:ι->Prop)(h1:∀R:It->Hp->Prop,(∀p,ok p->R (J p) (H1 p))->wi σ H R)
  (h2:∀p,ok p->∀l,H1 p l=none->pW (J p) src g tc te Q σ (H1 p) l):rV src wi g tc te σ H Q:=h1 _ h2
theorem qu{α β:Type}(f:α->β):∀(b:Bool) (xs:List α),jh b (xs.map f)=(jh b xs).map f
 |true,[]=>rfl
 |false,[]=>rfl
 |true,x::xs=>by show f x::jh false (xs.map f)=f x::(jh false xs).map f;rw[qu f false xs]
 |false,x::xs=>qu f true xs
def Aa(C:Addr):Sp:=fun vs H Q _=>∃p R wf hs m n r,vs=[.ref p]/\Nt C H p R wf hs m n r/\∀l H',H l=none->Same H H'->H' l=some (.lst ((jh false r).map V.int))->Q (.ref l) H'
def Ag(C:Addr):Sp:=fun vs H Q _=>∃p s R wf hs m n r,vs=[.ref p,.int s]/\Nt C H p R wf hs m n r/\0<=s/\s<(n:Int)/\n<64/\∀(l:Addr) (ms:List Int) (H':Hp),H l=none->Same H H'->H' l=some (.lst (ms.map V.int))->ms.Perm ((Fl.jG wf hs n s r).map (·.1))->Q (.ref l) H'
noncomputable def mC(S:Int->Bool)(many:Int)(ps:List (Int×Int))(k:Nat):List (Int×Int):=(List.range k).map fun i=>((ps.getD i (0,0)).1,(if S (2+(i:Int))=true then 0 else 1)+(if S (2+many+(i:Int))=true then 1 else 0))
def zh:Sp:=fun vs H Q _=>∃v ps ts d kvs,vs=[v,.ref d]/\jbz H v ps ts/\WebOk ps ts/\H d=some (.dK kvs)/\∀l zs H',H l=none->Same H H'->H' l=some (.lst zs)->Prs H' zs (mC (ja kvs) ps.length ps ps.length)->Q (.ref l) H'
noncomputable def nB(fs:List Int)(n:Nat)(ts:List (Int×Int))(k:Nat):List (Int×Int×Int):=((List.range k).map fun j=>((ts.getD j (0,0)).1,(ts.getD j (0,0)).2,Fl.at' fs (2*n+2*j)+Fl.at' fs (2*n+2*j+1))).filter fun d=>decide (d.2.2>0)
def z8:Sp:=fun vs H Q _=>∃v ps ts fl fs,vs=[v,.ref fl]/\jbz H v ps ts/\WebOk ps ts/\H fl=some (.lst (fs.map V.int))/\fs.length=2*ps.length+2*ts.length/\∀l zs H',H l=none->Same H H'->H' l=some (.lst zs)->jP H' zs (nB fs ps.length ts ts.length)->Q (.ref l) H'
theorem oK{α:Type}{l:List α}{i:Nat}{a d:α}(h:l[i]? =some a):l.getD i d=a:=by rw[aV,h];rfl
theorem Az{xs:List V}{k:Nat}(h1:k<=xs.length):kW xs (some (k:Int)) none=xs.drop k:=by
 unfold kW HT.iY
 simp only[aE (show ¬(k:Int)<0 by lia)]
 rw[Nat.min_eq_left (by lia)]
 exact cY (by rw[fg];exact aF _)
theorem Gb(B:Blt mg)(D:MthAt K C_Net "flows" "Net.flows" (jE 5 6) ["self"] f fd)(T:NetC K mg C_Net):FnOk P w K mg base iu 1 f fd ["self"] (Aa C_Net):=by
 have sc:FnScope ["self"] ["self"] (iN (jE 5 6)):=by walk_at "SC"
 refine D.F.ok sc (fun vs H Q E h=>?_) (fun cdv A outer s H vs Q E hr h=>?_)
 ·obtain⟨p,R,wf,hs,m,n,r,rfl,_⟩:=h
  rfl
 obtain⟨p,R,wf,hs,m,n,r,rfl,N,h⟩:=h
 have hu:=iX hr
 have hu0:_<PySem.cLine:=au hu
 refine⟨_,(iw (iG (vn (b:=false) rfl (mf T.cl T.n_rooms (qv 0) rfl)))),?_⟩
 obtain⟨⟨dx,W,Hd,ls,e1,e2,e3,e4,e5,n1,n2,n3⟩,eR,net,hlen,hbig,hn⟩:=N
 simp_arith[e1,o5,eR]
 intro l hl
 rw[qu]
 exact h l _ hl (iq hl _) ie
theorem JI(B:Blt mg)(D:MthAt K C_Net "reached_from" "Net.reached_from" (jE 5 7) ["self","source"] f fd)(Dqt:MthAt K C_Net "spread" "Net.spread" (jE 5 4) ["self","source"] fqt dqt)(Gqt:FnOk P w K mg base iu 1 fqt dqt ["self","source"] (wC C_Net))(T:NetC K mg C_Net):FnOk P w K mg base iu 2 f fd ["self","source"] (Ag C_Net):=by
 have sc:FnScope ["self","source"] ["self","source"] (iN (jE 5 7)):=by walk_at "SC"
 refine D.F.ok sc (fun vs H Q E h=>?_) (fun cdv A outer s H vs Q E hr h=>?_)
 ·obtain⟨p,s,R,wf,hs,m,n,r,rfl,_⟩:=h
  rfl
 obtain⟨p,s,R,wf,hs,m,n,r,rfl,N,s0,s1,h64,h⟩:=h
 have hu:=iX hr
 have hu0:_<PySem.cLine:=au hu
 refine⟨_,(iw (iG (iU (xa rfl) rfl B.sorted dj (h8 (ni (qv 0) T.cl Dqt.m Gqt (hr.mono (by decide)) Dqt.b .nil iD (h8 (qv 1) ic)) ic)))),?_⟩
 have N0:=N
 obtain⟨⟨dx,W,Hd,ls,e1,e2,e3,e4,e5,n1,n2,n3⟩,eR,net,hlen,hbig,hn⟩:=N
 simp_arith[e1,BU]
 refine⟨p,s,R,wf,hs,m,n,r,rfl,N0,s0,s1,fun d H1 hd q1 ed=>?_⟩
 have hcl:=Fl.oa (r:=r) net ⟨s0,s1⟩ n
 refine⟨d,_,(Fl.jG wf hs n s r).map (·.1),rfl,ed,?_,by rw[aa];exact gG hcl h64,fun l ms hl pm _=>?_⟩
 ·unfold kX
  rw[bw,bw]
  rfl
 ·exact h l ms _ (q1.free hl) (q1.trans (iq hl _)) ie pm
theorem JO(B:Blt mg)(D:DefAt K mg "halves_reached" (ig 37) ["web","reached"] f fd)(C2:Cst2 mg e1 e2 e3):FnOk P w K mg base iu 1 f fd ["web","reached"] zh:=by
 have sc:FnScope ["web","reached","many","halves","at","pair","left","right"] ["web","reached"] (iN (ig 37)):=by walk_at "SC"
 refine D.F.ok sc (fun vs H Q E h=>?_) (fun cdv A outer s H vs Q E hr h=>?_)
 ·obtain⟨v,ps,ts,d,kvs,rfl,_⟩:=h
  rfl
 obtain⟨v,ps,ts,d,kvs,rfl,hw,wk,ed,h⟩:=h
 obtain⟨u,pa,ta,xs,ys,rfl,hu1,hpa,hta,hxs,hys⟩:=hw
 have hxl:=ao hxs
 have hu:=iX hr
 have hu0:_<PySem.cLine:=au hu
 refine⟨_,(ik (iH (i:=2) sc.nd rfl (Or.inl rfl) (iU kc rfl B.len bu (h8 (il ip (qv 0) h9 (fun _ _=>rfl)) ic))) (ik (iH (i:=3) sc.nd rfl (Or.inl rfl) (kL ic)) (ik (j0 ba rfl (sL rfl B.enumerate (h8 (il ip (qv 0) h9 (fun _ _=>rfl)) ic)) (jJ (n:=2) rfl (iO (iE (i:=4) sc.nd rfl (Or.inl rfl)) (iO (iE (i:=5) sc.nd rfl (Or.inl rfl)) jK))) (ik (iH (i:=6) sc.nd rfl (Or.inl rfl) (wy (oz (qf hu (iQ jM (lM (v:=.int 2) rfl C2.FIRST ⟨_,rfl⟩) (qv 4)) (qv 1))) h9 h9)) (ik (iH (i:=7) sc.nd rfl (Or.inl rfl) (wy (oz (qf hu (iQ jM (iQ jM (lM (v:=.int 2) rfl C2.FIRST ⟨_,rfl⟩) (qv 2)) (qv 4)) (qv 1))) h9 h9)) (iw (jV (kN aY bh bg kS (qv 3) (h8 (jw (h8 (il ip (qv 5) h9 (fun _ _=>rfl)) (h8 (iQ jM (qv 6) (qv 7)) ic))) ic))))))) (iw (iG (qv 3)))))),?_⟩
 have hpl:=wk.pl
 refine iz fun R' hR=>?_
 simp_arith[ir,hu1,iJ,hpa]
 subst hR
 refine iz fun R' hR=>?_
 walk_at "D"
 intro l hl
 have q1:=iq hl (.lst [])
 have el:upd H l (.lst []) l=some (.lst []):=ie
 generalize upd H l (.lst [])=H1 at q1 el
 subst hR
 refine iz fun R' hR=>?_
 refine ky (oR K pa) H1 (fun R3 hR3=>?_) (wd (K:=K) (a:=pa) (xs:=xs) (fun i σ Hc=>∃v4 v5 v6 v7 zs,σ=[some (.ref u),some (.ref d),some (.int (xs.length:Int)),some (.ref l),v4,v5,v6,v7]/\Same H Hc/\Hc l=some (.lst zs)/\Prs Hc zs (mC (ja kvs) ps.length ps i)) ⟨none,none,none,none,[],rfl,q1,el,.nil⟩ (fun i σ Hc _ ⟨_,_,_,_,_,_,s1,_⟩=>SqL.of (s1 _ _ hpa)) ?_ ?_)
 ·unfold uZ
  simp_arith[ir,q1 _ _ hu1,iJ]
  exact⟨pa,rfl,⟨_,SqL.of (q1 _ _ hpa)⟩,hR3⟩
 ·rintro i x σ Hc t hx ⟨v4,v5,v6,v7,zs,rfl,s2,el2,pz⟩ ht
  obtain⟨p,hp,px⟩:=jl hxs hx
  have hil:=(aq.mp hp).1
  have q3:=iq ht (.tup [.int i,x])
  have s3:=s2.trans q3
  have et:upd Hc t (.tup [.int i,x]) t=some (.tup [.int i,x]):=ie
  have el3:=q3 _ _ el2
  have pz3:=Prs.same q3 pz
  obtain⟨b,rfl,eb⟩:=px.same s3
  generalize upd Hc t (.tup [.int i,.ref b])=H3 at q3 s3 et el3 pz3 eb
  have ed3:=s3 _ _ ed
  have hzl:=ao pz
  have hhl:(mC (ja kvs) ps.length ps i).length=i:=by unfold mC;rw[aa,bU]
  have key:∀n:Int,(iK kvs (Sum.inl n:ij)).isSome=ja kvs n:=fun n=>rfl
  have fin:∀(a c:Int),a=(if ja kvs (2+(i:Int))=true then 0 else 1)->c=(if ja kvs (2+(xs.length:Int)+(i:Int))=true then 1 else 0)->∀t2,H3 t2=none->∃v4 v5 v6 v7 zs',[some (V.ref u),some (.ref d),some (.int (xs.length:Int)),some (.ref l),some (.int i),some (.ref b),some (.int a),some (.int c)]=[some (V.ref u),some (.ref d),some (.int (xs.length:Int)),some (.ref l),v4,v5,v6,v7]/\Same H (upd (upd H3 t2 (.tup [.int p.1,.int (a+c)])) l (.lst (zs++[.ref t2])))/\upd (upd H3 t2 (.tup [.int p.1,.int (a+c)])) l (.lst (zs++[.ref t2])) l=some (.lst zs')/\Prs (upd (upd H3 t2 (.tup [.int p.1,.int (a+c)])) l (.lst (zs++[.ref t2]))) zs' (mC (ja kvs) ps.length ps (i+1)):=fun a c ha hc t2 ht2=>by
   have q4:=iq ht2 (.tup [.int p.1,.int (a+c)])
   have t6:=kx (ys:=zs++[.ref t2]) (q4 _ _ el3)
   refine⟨_,_,_,_,zs++[.ref t2],rfl,iW (s3.trans q4) hl,ie,?_⟩
   have eh:mC (ja kvs) ps.length ps (i+1)=mC (ja kvs) ps.length ps i++[(p.1,a+c)]:=by
    unfold mC
    rw[bZ,ah,List.map_singleton,oK hp,ha,hc,hxl]
   rw[eh]
   exact kg (Prs.tups t6 (Prs.same q4 pz3)) ⟨t2,rfl,t6 _ _ rfl ie⟩
  simp_arith[et,ed3,key]
  cases c1:ja kvs (2+(i:Int))<;>cases c3:ja kvs (2+(xs.length:Int)+(i:Int))
  all_goals
   simp_arith[ir,eb,iJ,c3,ed3,key]
   refine⟨⟨l,zs,rfl,el3⟩,fun t2 ht2=>?_⟩
   have e9:=fun o=>iq ht2 o _ _ el3
   simp only[e9]
   exact⟨iM (by lia),fin _ _ (by rw[c1];rfl) (by rw[c3];rfl) t2 ht2⟩
 ·rintro σ Hc ⟨v4,v5,v6,v7,zs,rfl,s2,el2,pz⟩
  subst hR
  walk_at "D"
  rw[hxl]at pz
  exact h l zs Hc hl s2 el2 pz
theorem JB(B:Blt mg)(D:DefAt K mg "dues_flowing" (ig 36) ["web","flows"] f fd):FnOk P w K mg base iu 1 f fd ["web","flows"] z8:=by
 have sc:FnScope ["web","flows","across","amounts"] ["web","flows"] (iN (ig 36)):=by walk_at "SC"
 refine D.F.ok sc (fun vs H Q E h=>?_) (fun cdv A outer s H vs Q E hr h=>?_)
 ·obtain⟨v,ps,ts,fl,fs,rfl,_⟩:=h
  rfl
 obtain⟨v,ps,ts,fl,fs,rfl,hw,wk,ef,hfl,h⟩:=h
 obtain⟨u,pa,ta,xs,ys,rfl,hu1,hpa,hta,hxs,hys⟩:=hw
 have hxl:=ao hxs
 have hyl:=ao hys
 have hu:=iX hr
 have hu0:_<PySem.cLine:=au hu
 refine⟨_,(ik (iH (i:=2) sc.nd rfl (Or.inl rfl) (lE rR (qv 1) (lB (iQ lK h9 (iU kc rfl B.len bu (h8 (il ip (qv 0) h9 (fun _ _=>rfl)) ic)))) lA)) (ik (mh (i:=3) sc.nd rfl (Or.inl rfl) (CpScope.of (N:=["there","back"]) (src:=[none,none]) (by rfl)) rfl (vQ rfl B.zip (h8 (vn (b:=true) rfl (qv 2)) (h8 (vn (b:=false) rfl (qv 2)) ic))) (fun _ _ _ _=>(jJ (n:=2) rfl (iO (iE (i:=0) (iS (l:=["there","back"]) (by rfl)) rfl (Or.inl rfl)) (iO (iE (i:=1) (iS (l:=["there","back"]) (by rfl)) rfl (Or.inl rfl)) jK)))) (fun _ _ _ _=>kf) (fun _ _ _ _=>(iQ jM (qv 0) (qv 1)))) (iw (iG (jU (CpScope.of (N:=["tie","amount"]) (src:=[none,none]) (by rfl)) rfl (vQ rfl B.zip (h8 (il ip (qv 0) h9 (fun _ _=>rfl)) (h8 (qv 3) ic))) (fun _ _ _ _=>(jJ (n:=2) rfl (iO (iE (i:=0) (iS (l:=["tie","amount"]) (by rfl)) rfl (Or.inl rfl)) (iO (iE (i:=1) (iS (l:=["tie","amount"]) (by rfl)) rfl (Or.inl rfl)) jK)))) (fun _ _ _ _=>(k8 (iV pU (qv 1) h9 (iL _)))) (fun _ _ _ _=>(jw (h8 (il ip (qv 0) h9 (fun _ _=>rfl)) (h8 (il ip (qv 0) h9 (fun _ _=>rfl)) (h8 (qv 1) ic)))))))))),?_⟩
 have hpl:=wk.pl
 have htl:=wk.tl
 refine iz fun R' hR=>?_
 simp_arith[ir,hu1,iJ,hpa,ef]
 refine⟨mD (by decide) (by decide),?_⟩
 intro ac hac
 rw [show (2:Int) * (xs.length:Int) = ((2 * ps.length:Nat):Int) by lia,Az (by rw [aa]; lia),<- List.map_drop]
 have q1:=iq hac (.lst ((fs.drop (2*ps.length)).map V.int))
 have ea:upd H ac (.lst ((fs.drop (2*ps.length)).map V.int)) ac=some (.lst ((fs.drop (2*ps.length)).map V.int)):=ie
 generalize upd H ac (.lst ((fs.drop (2*ps.length)).map V.int))=H1 at q1 ea
 have hgl:(fs.drop (2*ps.length)).length=2*ts.length:=by rw[fg];lia
 have hgat:∀k,Fl.at' (fs.drop (2*ps.length)) k=Fl.at' fs (2*ps.length+k):=fun k=>by unfold Fl.at';rw[aV,aV,List.getElem?_drop]
 generalize fs.drop (2*ps.length)=gs at*
 have la:∀b,(jh b gs).length=ts.length:=fun b=>by
  have hb1:(if b=true then 0 else 1:Nat)<=1:=by split<;>decide
  have h1:=oC b gs
  have hlt:∀j,j<ts.length->j<(jh b gs).length:=fun j hj=>by
   have:=h1 j
   rw[gE (show 2*j+(if b=true then 0 else 1)<gs.length by lia)]at this
   exact(aq.mp this).1
  have hge:¬ts.length<(jh b gs).length:=fun z=>by
   have:=h1 ts.length
   rw[gE z,bF (show gs.length<=2*ts.length+(if b=true then 0 else 1) by lia)]at this
   cases this
  by_cases c:ts.length=0
  ·lia
  ·have:=hlt (ts.length-1) (by lia)
   lia
 subst hR
 refine iz fun R' hR=>?_
 walk_at "D"
 refine Cq (ι:=Addr×Addr×Hp) (fun y=>nD true K y.1 y.2.1) (fun y=>y.2.2) (fun y=>Same H1 y.2.2/\y.2.2 y.1=some (.lst ((jh true gs).map V.int))/\y.2.2 y.2.1=some (.lst ((jh false gs).map V.int))) (fun R2 hR2=>?_) ?_
 ·unfold rP
  simp_arith[ea]
  intro b1 hb1
  rw[qu]
  have s1:=iq hb1 (.lst ((jh true gs).map V.int))
  have eb1:upd H1 b1 (.lst ((jh true gs).map V.int)) b1=some (.lst ((jh true gs).map V.int)):=ie
  generalize upd H1 b1 (.lst ((jh true gs).map V.int))=H2 at s1 eb1
  simp_arith[s1 _ _ ea]
  intro b2 hb2
  rw[qu]
  have s2:=s1.trans (iq hb2 (.lst ((jh false gs).map V.int)))
  have eb2:upd H2 b2 (.lst ((jh false gs).map V.int)) b2=some (.lst ((jh false gs).map V.int)):=ie
  have eb1':=iq hb2 (.lst ((jh false gs).map V.int)) _ _ eb1
  generalize upd H2 b2 (.lst ((jh false gs).map V.int))=H3 at s2 eb2 eb1'
  exact⟨true,b1,b2,rfl,⟨_,SqL.of eb1'⟩,⟨_,SqL.of eb2⟩,hR2 (b1,b2,H3) ⟨s2,eb1',eb2⟩⟩
 rintro⟨b1,b2,H3⟩ ⟨s3,eb1,eb2⟩ am ham
 refine ju ts.length (fun i σ' Hc=>∃w1 w2,σ'=[w1,w2]/\Same H3 Hc/\Hc am=some (.lst (((List.range i).map fun j=>Fl.at' gs (2*j)+Fl.at' gs (2*j+1)).map V.int))) ⟨none,none,rfl,iq ham _,ie⟩ ?_ ?_
 ·rintro i σ' Hc hi ⟨w1,w2,rfl,s4,em⟩
  have z1:j8 true K Hc b1 ((jh true gs).map V.int):=SqL.of (s4 _ _ eb1)
  have z2:j8 true K Hc b2 ((jh false gs).map V.int):=SqL.of (s4 _ _ eb2)
  have at1':∀b,(jh b gs)[i]? =some (Fl.at' gs (2*i+(if b then 0 else 1))):=fun b=>by
   rw[oC,gE (by cases b<;>simp<;>lia)]
   unfold Fl.at'
   rw[aV,gE (by cases b<;>simp<;>lia)]
   rfl
  have x1:((jh true gs).map V.int)[i]? =some (.int (Fl.at' gs (2*i))):=by rw[aJ,at1' true];rfl
  have x2:((jh false gs).map V.int)[i]? =some (.int (Fl.at' gs (2*i+1))):=by rw[aJ,at1' false];rfl
  refine⟨⟨_,_,_,_,z1,z2,x1,x2⟩,?_⟩
  rintro x H' ⟨t,y1,y2,ht,rfl,rfl,g1,g2⟩
  have E1:=aD (x1.symm.trans (g1 _ z1))
  have E2:=aD (x2.symm.trans (g2 _ z2))
  subst E1 E2
  have q5:=iq ht (.tup [.int (Fl.at' gs (2*i)),.int (Fl.at' gs (2*i+1))])
  simp_arith[ie]
  refine⟨_,q5 _ _ em,?_,_,_,rfl,iW (s4.trans q5) ham,?_⟩
  ·rw[aa,aa,bU]
   exact iM (by lia)
  ·try rw[ie]
   rw[bZ,ah,ah]
   rfl
 rintro σ' H4 ⟨w1,w2,rfl,s4,em⟩
 refine⟨⟨_,_,SqL.of (s4 _ _ eb1),SqL.of (s4 _ _ eb2),.inl (by rw[aa,la];exact aF _)⟩,?_⟩
 have s5:=(q1.trans s3).trans s4
 walk_at "D"
 subst hR
 walk_at "D"
 refine jx (nD true K ta am) H4 (fun R2 hR2=>?_) (fun l hl0=>ju ts.length (fun i σ' Hc=>∃w1 w2 zs,σ'=[w1,w2]/\Same H4 Hc/\Hc l=some (.lst zs)/\jP Hc zs (nB fs ps.length ts i)) ⟨none,none,[],rfl,iq hl0 _,ie,.nil⟩ ?_ ?_)
 ·unfold rP
  simp_arith[ir,s5 _ _ hu1,iT]
  exact⟨true,ta,am,rfl,⟨_,SqL.of (s5 _ _ hta)⟩,⟨_,SqL.of em⟩,hR2⟩
 ·rintro i σ' Hc hi ⟨w1,w2,zs,rfl,s6,el,pz⟩
  have s7:=s5.trans s6
  have z1:j8 true K Hc ta ys:=SqL.of (s7 _ _ hta)
  have z2:j8 true K Hc am (((List.range ts.length).map fun j=>Fl.at' gs (2*j)+Fl.at' gs (2*j+1)).map V.int):=SqL.of (s6 _ _ em)
  have x1:ys[i]? =some (ys[i]'(by lia)):=gE _
  have x2:(((List.range ts.length).map fun j=>Fl.at' gs (2*j)+Fl.at' gs (2*j+1)).map V.int)[i]? =some (.int (Fl.at' gs (2*i)+Fl.at' gs (2*i+1))):=by
   rw[aJ,aJ,fo hi];rfl
  refine⟨⟨_,_,_,_,z1,z2,x1,x2⟩,?_⟩
  rintro x H' ⟨t,y1,y2,ht,rfl,rfl,g1,g2⟩
  have E2:=aD (x2.symm.trans (g2 _ z2))
  subst E2
  obtain⟨tt,htt,pt⟩:=jl hys (g1 _ z1)
  have q8:=iq ht (.tup [y1,.int (Fl.at' gs (2*i)+Fl.at' gs (2*i+1))])
  have s8:=s7.trans q8
  obtain⟨tb,rfl,etb⟩:=pt.same s8
  have et:upd Hc t (.tup [.ref tb,.int (Fl.at' gs (2*i)+Fl.at' gs (2*i+1))]) t=some (.tup [.ref tb,.int (Fl.at' gs (2*i)+Fl.at' gs (2*i+1))]):=ie
  have el8:=q8 _ _ el
  have pz8:=jD q8.tups pz
  have s68:=s6.trans q8
  generalize upd Hc t (.tup [.ref tb,.int (Fl.at' gs (2*i)+Fl.at' gs (2*i+1))])=H8 at q8 s8 etb et el8 pz8 s68
  have hdu:nB fs ps.length ts (i+1)=nB fs ps.length ts i++(if Fl.at' gs (2*i)+Fl.at' gs (2*i+1)>0 then[(tt.1,tt.2,Fl.at' gs (2*i)+Fl.at' gs (2*i+1))]else[]):=by
   unfold nB
   rw[bZ,ah,cn,List.map_singleton,oK htt,hgat,hgat,Nat.add_assoc]
   congr 1
   rw[cT]
   by_cases c:Fl.at' fs (2*ps.length+2*i)+Fl.at' fs (2*ps.length+(2*i+1))>0
   ·rw[aH c,aH (af c)];rfl
   ·rw[aE c,aE (by simpa using c)];rfl
  have hzl:=ao pz
  have hzl2:zs.length<=i:=by
   rw[hzl]
   unfold nB
   refine br (bS _ _) ?_
   rw[aa,bU]
   exact aF _
  simp_arith[et]
  refine mO (fun c=>?_) (fun c=>?_)
  ·rw[aH (bp c)]at hdu
   simp_arith[ir,etb,iJ,iT]
   intro t2 ht2
   have q9:=iq ht2 (.tup [.int tt.1,.int tt.2,.int (Fl.at' gs (2*i)+Fl.at' gs (2*i+1))])
   have el9:=q9 _ _ el8
   have t9:=kx (ys:=zs++[.ref t2]) el9
   refine⟨zs,el9,iM (by lia),_,_,zs++[.ref t2],rfl,iW (s68.trans q9) hl0,(by first|rfl|exact ie),?_⟩
   rw[hdu]
   exact kg (jD t9 (jD q9.tups pz8)) ⟨t2,rfl,t9 _ _ rfl ie⟩
  ·rw[aE (fun z=>c (af z)),bb]at hdu
   rw[hdu]
   exact⟨_,_,zs,rfl,s68,el8,pz8⟩
 ·rintro σ' Hc ⟨w1,w2,zs,rfl,s6,el,pz⟩
  refine⟨⟨_,_,SqL.of ((s5.trans s6) _ _ hta),SqL.of (s6 _ _ em),.inl (by lia)⟩,?_⟩
  exact h l zs Hc (s5.free hl0) (s5.trans s6) el pz
end
end My
namespace L2
open PySem PySem.Spec PyProof.Rows
section
variable{X:Cx}
theorem Hh:seqSlot? (.type "list") (dunderI "add")=pure (some (.builtin "list.__iadd__")):=PySem.seqSlot_of gS.lookup (by decide+kernel)
theorem Hx:fillsInplaceSlot (.type "list") "add" (Operator.Add== .Add)=pure false:=by
 unfold fillsInplaceSlot
 show(typeLookup (.type "list") (dunderI "add")>>=fun fi=>pure (fi.isSome&& !isSeqSlot fi))=pure false
 rw[gS.lookup]
 have:isSeqSlot (some (Value.builtin "list.__iadd__"))=true:=by decide+kernel
 show(pure (true&& !isSeqSlot (some (Value.builtin "list.__iadd__"))):Sem Bool)=pure false
 rw[this]
 rfl
def ke:mR:=fun x y H Q=>match x,y with
 | .ref l,.ref b=>match H l,H b with
  |some (.lst xs),some (.lst zs)=>xs.length+zs.length<=sizeLine/\Q (.ref l) (upd H l (.lst (xs++zs)))
  |_,_=>False
 |_,_=>False
theorem E7:oQ X .Add ke:=by
 intro pins s σ H x y v u Q I rx ry h
 unfold ke at h
 split at h
 ·rename_i l b
  split at h
  ·rename_i xs zs hH hB
   obtain⟨hz,q⟩:=h
   cases rx
   cases ry
   obtain⟨z,its,n,r,hl,e⟩:=I.lstM hH
   obtain⟨z2,its2,n2,r2,hl2,e2⟩:=I.lstM hB
   have hsz:its.toArray.size+its2.toArray.size<=sizeLine:=by rw[aC,aC];lia
   have hlong:¬(!its.toArray.isEmpty&&Builtin.List.listTooLong (its.toArray.size+its2.toArray.size))=true:=by
    rw[Ga hsz,fD]
    exact aW
   have ha:s.TypeIs (.ref l) "list":=⟨_,e,rfl⟩
   have hb:s.TypeIs (.ref b) "list":=⟨_,e2,rfl⟩
   unfold inplaceOp
   refine cM ?_
   refine ae (eK ha (ae (fG Hx ?_)))
   show wpAny _ _ (if false=true then _ else _) _ _ s
   rw[aE aW]
   refine ae (wpAny_binaryOp1_none (nm:="add") ha hb noFill_list_add ?_)
   refine ae (fG Hh ?_)
   refine ae (fc ?_)
   refine call_meets gS ha F.entry_list_iadd (F.args_list_iadd_2 _ _)
    (AutoSeq1.list___iadd___list_list_0 l its.toArray n b its2.toArray n2 hlong (by rw[aC];lia) (by lia)) ⟨e,e2,?_⟩
   refine⟨.ref l,_,I.lset (its':=its++its2) hH e (by simp) (r.append r2) ?_,rfl,q⟩
   rw[aK]
   lia
  ·exact h.elim
 ·exact h.elim
end
end L2
namespace My
open PySem L2
section
variable{P:Program}{w:World}{K:PySem.W.Frag}{mg:Str->Option Value}{base:Heap}{c1 c2 c3 c4 e1 e2 e3:Tok}{C_Net C_NoWeb fqk:Addr}{dI:FuncData}
def kj(ps:List (Int×Int))(k:Nat):List (Int×Int):=(List.range k).map fun i=>((ps.getD i (0,0)).1,2+(i:Int))
theorem vU(ps:List (Int×Int)):∀k,k<=ps.length->(kj ps k).map (·.1)=(ps.take k).map (·.1)
 |0,_=>by simp[kj]
 |k+1,h=>by
  have hk:ps[k]? =some ps[k]:=gE (by lia)
  have ih:=vU ps k (by lia)
  unfold kj at ih ⊢
  rw[bZ,ah,ah,ih,je hk,ah,List.map_singleton,List.map_singleton,List.map_singleton,oK hk]
def jA(ps:List (Int×Int))(n:Int):Int:=ko (kj ps ps.length) n
noncomputable def lI(ps:List (Int×Int)):Int:=1+(ps.map (·.2)).sum
def jC(ps ts:List (Int×Int)):List Fl.j3:=Fl.md (jA ps) (lI ps) ps ts
theorem vx{ps ts:List (Int×Int)}(wk:WebOk ps ts):((kj ps ps.length).map (·.1)).Nodup:=by
 rw[vU ps ps.length (aF _),aG]
 exact wk.p.nodup
theorem qz{ps ts:List (Int×Int)}(wk:WebOk ps ts){n:Int}(h:n∈ps.map (·.1)):iK (i5 (kj ps ps.length)) (Sum.inl n:ij)=some (.int (jA ps n)):=by
 refine nS (vx wk) ?_
 rw[vU ps ps.length (aF _),aG]
 exact h
theorem sk{ps ts:List (Int×Int)}(wk:WebOk ps ts){i:Nat}{p:Int}(h:(ps.map (·.1))[i]? =some p):jA ps p=2+(i:Int):=by
 have hi:=(aq.mp h).1
 rw[aa]at hi
 have hm:(p,2+(i:Int))∈kj ps ps.length:=by
  unfold kj
  refine av.mpr ⟨i,bI.mpr hi,?_⟩
  rw[aJ,gE hi]at h
  have h2:ps[i].1=p:=aD h
  rw[oK (gE hi),h2]
 have e:=nV (vx wk) hm
 rw[qz wk (aA h)]at e
 exact V.int.inj (aD e)
theorem Dx{ps ts:List (Int×Int)}(wk:WebOk ps ts){p:Int}(h:p∈ps.map (·.1)):2<=jA ps p/\jA ps p<2+(ps.length:Int):=by
 obtain⟨i,hi,e⟩:=bq.mp h
 rw[sk wk (i:=i) (by rw[gE hi,e])]
 rw[aa]at hi
 lia
theorem ng{ps ts:List (Int×Int)}(wk:WebOk ps ts):∀t∈ts,t.1∈ps.map (·.1)/\t.2∈ps.map (·.1):=fun t ht=>by
 obtain⟨_,a,b⟩:=wk.t.in t ht
 exact⟨lz a,lz b⟩
theorem PlOk.pos:∀{ps:List (Int×Int)} {l s:Int},PlOk l s ps->∀p∈ps,1<=p.2
 |[],_,_,_,p,h=>by cases h
 |q::r,l,s,h,p,hp=>by
  rcases aR.mp hp with e|hp
  ·rw[e];exact h.1.2.2.1
  ·exact PlOk.pos h.2 p hp
theorem vY{ps ts:List (Int×Int)}(wk:WebOk ps ts):∀a∈jC ps ts,((0<=a.1/\a.1<((2+(ps.length+ps.length):Nat):Int))/\0<=a.2.1/\a.2.1<((2+(ps.length+ps.length):Nat):Int))/\0<=a.2.2:=
 Fl.Kl (fun p hp=>Dx wk hp) (ng wk) (fun p hp=>by have:=wk.p.pos p hp;lia) (by
  have h:0<=(ps.map (·.2)).sum:=by
   have:=Fl.rA (f:=fun _=>(0:Int)) (g:=fun p:Int×Int=>p.2) (l:=ps) fun p hp=>by have:=wk.p.pos p hp;lia
   rw[Fl.ml]at this
   exact this
  unfold lI
  lia)
theorem tR(ps ts:List (Int×Int)):(jC ps ts).length=ps.length+ps.length+2*ts.length:=Fl.Km _ _ _ _
def BE(C:Addr):Sp:=fun vs H Q _=>∃v ps ts,vs=[v]/\jbz H v ps ts/\WebOk ps ts/\∀p R H',H R=none->Same H H'->Nt C H' p R (Fl.j1 (jC ps ts)) (Fl.jr (jC ps ts)) (jC ps ts).length (2+(ps.length+ps.length)) (Fl.j2 (jC ps ts))->Q (.ref p) H'
theorem Cz(sp:Int->Int)(n pl:Int)(t:Int×Int):∀ts,Fl.lT sp n pl (ts++[t])=(Fl.lT sp n pl ts++[(sp t.1,sp t.2+n,pl)])++[(sp t.2,sp t.1+n,pl)]
 |[]=>rfl
 |u::r=>by rw[List.cons_append,Fl.lT,Cz sp n pl t r];rfl
theorem Ck{α β:Type}{F:α->β->Prop}:∀{xs xs':List α} {ys ys':List β},Paired F xs ys->Paired F xs' ys'->Paired F (xs++xs') (ys++ys')
 |_,_,_,_,.nil,h=>h
 |_,_,_,_,.cons a t,h=>.cons a (Ck t h)
theorem Ig(B:Blt mg)(D:DefAt K mg "doubled" (ig 35) ["web"] f fd)(Dqw:MthAt K C_Net "__init__" "Net.__init__" (jE 5 0) ["self","many","arcs"] fqw dqw)(Gqw:FnOk P w K mg base iu 2 fqw dqw ["self","many","arcs"] (zi C_Net))(T:NetC K mg C_Net)(C2:Cst2 mg e1 e2 e3)(MK:Mk K C_Net fqw):FnOk P w K mg base iu 5 f fd ["web"] (BE C_Net):=by
 have sc:FnScope ["web","many","plenty","spots","arcs","one","other"] ["web"] (iN (ig 35)):=by walk_at "SC"
 refine D.F.ok sc (fun vs H Q E h=>?_) (fun cdv A outer s H vs Q E hr h=>?_)
 ·obtain⟨v,ps,ts,rfl,_⟩:=h
  rfl
 obtain⟨v,ps,ts,rfl,hw,wk,h⟩:=h
 obtain⟨u,pa,ta,xs,ys,rfl,hu1,hpa,hta,hxs,hys⟩:=hw
 have hxl:=ao hxs
 have hyl:=ao hys
 have hu:=iX hr
 have hu0:_<PySem.cLine:=au hu
 refine⟨_,(ik (iH (i:=1) sc.nd rfl (Or.inr rfl) (iU kc rfl B.len bu (h8 (il ip (qv 0) h9 (fun _ _=>rfl)) ic))) (ik (iH (i:=2) sc.nd rfl (Or.inl rfl) (iQ jM h9 (iU (qh rfl) rfl B.sum dH (h8 (jU (CpScope.of (N:=["place","price"]) (src:=[none,none]) (by rfl)) rfl (jg (il ip (qv 0) h9 (fun _ _=>rfl))) (fun _ _ _ _=>(jJ (n:=2) rfl (iO (iE (i:=0) (iS (l:=["place","price"]) (by rfl)) rfl (Or.inl rfl)) (iO (iE (i:=1) (iS (l:=["place","price"]) (by rfl)) rfl (Or.inl rfl)) jK)))) (fun _ _ _ _=>kf) (fun _ _ _ _=>(qv 1))) ic)))) (ik (iH (i:=3) sc.nd rfl (Or.inr rfl) (lN (pD rfl) rfl B.dict cP (h8 (jU (CpScope.of (N:=["at","pair"]) (src:=[none,none]) (by rfl)) rfl (sL rfl B.enumerate (h8 (il ip (qv 0) h9 (fun _ _=>rfl)) ic)) (fun _ _ _ _=>(jJ (n:=2) rfl (iO (iE (i:=0) (iS (l:=["at","pair"]) (by rfl)) rfl (Or.inl rfl)) (iO (iE (i:=1) (iS (l:=["at","pair"]) (by rfl)) rfl (Or.inl rfl)) jK)))) (fun _ _ _ _=>kf) (fun _ _ _ _=>(jw (h8 (il ip (qv 1) h9 (fun _ _=>rfl)) (h8 (iQ jM (lM (v:=.int 2) rfl C2.FIRST ⟨_,rfl⟩) (qv 0)) ic))))) ic))) (ik (mh (i:=4) sc.nd rfl (Or.inl rfl) (CpScope.of (N:=["place","price","spots"]) (src:=[none,none,some 3]) (by rfl)) rfl (jg (il ip (qv 0) h9 (fun _ _=>rfl))) (fun _ _ _ _=>(jJ (n:=2) rfl (iO (iE (i:=0) (iS (l:=["place","price","spots"]) (by rfl)) rfl (Or.inl rfl)) (iO (iE (i:=1) (iS (l:=["place","price","spots"]) (by rfl)) rfl (Or.inl rfl)) jK)))) (fun _ _ _ _=>kf) (fun _ _ _ _=>(jw (h8 (lM (v:=.int 0) rfl C2.SOURCE ⟨_,rfl⟩) (h8 (kF hu (qv 2) (qv 0) (fun _ _=>rfl)) (h8 (qv 1) ic)))))) (ik (qp (i:=4) sc.nd rfl (Or.inl rfl) (jU (CpScope.of (N:=["place","price","many","spots"]) (src:=[none,none,some 1,some 3]) (by rfl)) rfl (jg (il ip (qv 0) h9 (fun _ _=>rfl))) (fun _ _ _ _=>(jJ (n:=2) rfl (iO (iE (i:=0) (iS (l:=["place","price","many","spots"]) (by rfl)) rfl (Or.inl rfl)) (iO (iE (i:=1) (iS (l:=["place","price","many","spots"]) (by rfl)) rfl (Or.inl rfl)) jK)))) (fun _ _ _ _=>kf) (fun _ _ _ _=>(jw (h8 (iQ jM (kF hu (qv 3) (qv 0) (fun _ _=>rfl)) (qv 2)) (h8 (lM (v:=.int 1) rfl C2.SINK ⟨_,rfl⟩) (h8 (qv 1) ic)))))) E7) (ik (j0 ba rfl (jg (il ip (qv 0) h9 (fun _ _=>rfl))) (jJ (n:=2) rfl (iO (iE (i:=5) sc.nd rfl (Or.inl rfl)) (iO (iE (i:=6) sc.nd rfl (Or.inl rfl)) jK))) (ik (jV (kN aY bh bg kS (qv 4) (h8 (jw (h8 (kF hu (qv 3) (qv 5) (fun _ _=>rfl)) (h8 (iQ jM (kF hu (qv 3) (qv 6) (fun _ _=>rfl)) (qv 1)) (h8 (qv 2) ic)))) ic))) (iw (jV (kN aY bh bg kS (qv 4) (h8 (jw (h8 (kF hu (qv 3) (qv 6) (fun _ _=>rfl)) (h8 (iQ jM (kF hu (qv 3) (qv 5) (fun _ _=>rfl)) (qv 1)) (h8 (qv 2) ic)))) ic)))))) (iw (iG (Ft MK Gqw (hr.mono (by decide)) rfl T.m Dqw.b .nil iD (h8 (iQ jM (lM (v:=.int 2) rfl C2.FIRST ⟨_,rfl⟩) (iQ lK h9 (qv 1))) (h8 (qv 4) ic))))))))))),?_⟩
 have hpl:=wk.pl
 have htl:=wk.tl
 refine iz fun R' hR=>?_
 simp_arith[ke,ir,hu1,iJ,hpa]
 subst hR
 refine iz fun R' hR=>?_
 simp_arith[ke]
 refine jx (i6 K pa) H (fun R2 hR2=>?_) (fun z hz0=>ju ps.length (fun i σ' Hc=>∃w1 w2,σ'=[w1,w2]/\Same H Hc/\Hc z=some (.lst (((ps.take i).map (·.2)).map V.int))) ⟨none,none,rfl,iq hz0 _,ie⟩ ?_ ?_)
 ·unfold jc
  simp_arith[ke,ir,hu1,iJ]
  exact⟨pa,rfl,⟨_,SqL.of hpa⟩,hR2⟩
 ·rintro i σ' Hc hi ⟨w1,w2,rfl,s7,ez⟩
  have x1:xs[i]? =some (xs[i]'(by lia)):=gE _
  refine⟨⟨_,_,SqL.of (s7 _ _ hpa),x1⟩,?_⟩
  rintro y H' ⟨rfl,hy⟩
  have E1:=aD (x1.symm.trans (hy _ (SqL.of (s7 _ _ hpa))))
  obtain⟨pr,hpr,px⟩:=jl hxs x1
  rw[E1]at px
  obtain⟨b,rfl,hb⟩:=px.same s7
  simp_arith[ke,hb]
  refine⟨_,ez,?_,_,_,rfl,iW s7 hz0,?_⟩
  ·rw[aa,aa,aO]
   exact iM (by lia)
  ·rw[ie,je hpr,ah,ah]
   rfl
 rintro σ' H1 ⟨w1,w2,rfl,s1,ez⟩
 refine⟨⟨_,SqL.of (s1 _ _ hpa),by lia⟩,?_⟩
 rw[aG]at ez
 refine⟨z,_,rfl,ez,?_⟩
 simp_arith[ke]
 rw[show(1:Int)+(ps.map (·.2)).sum=lI ps from rfl]
 clear ez
 subst hR
 refine iz fun R' hR=>?_
 simp_arith[ke]
 refine jx (oR K pa) H1 (fun R2 hR2=>?_) (fun z hz0=>ju ps.length (fun i σ' Hc=>∃w1 w2 zs,σ'=[w1,w2]/\Same H1 Hc/\Hc z=some (.lst zs)/\Prs Hc zs (kj ps i)) ⟨none,none,[],rfl,iq hz0 _,ie,.nil⟩ ?_ ?_)
 ·unfold uZ
  simp_arith[ke,ir,s1 _ _ hu1,iJ]
  exact⟨pa,rfl,⟨_,SqL.of (s1 _ _ hpa)⟩,hR2⟩
 ·rintro i σ' Hc hi ⟨w1,w2,zs,rfl,s2,ez,pz⟩
  have s3:=s1.trans s2
  have x1:xs[i]? =some (xs[i]'(by lia)):=gE _
  have z1:SqL K Hc pa xs:=SqL.of (s3 _ _ hpa)
  refine⟨⟨_,_,z1,x1⟩,?_⟩
  rintro x H' ⟨t,y,ht,rfl,rfl,g⟩
  obtain⟨p,hp,px⟩:=jl hxs (g _ z1)
  have q4:=iq ht (.tup [.int i,y])
  have s4:=s3.trans q4
  obtain⟨b,rfl,eb⟩:=px.same s4
  have et:upd Hc t (.tup [.int i,.ref b]) t=some (.tup [.int i,.ref b]):=ie
  have ez4:=q4 _ _ ez
  have pz4:=Prs.same q4 pz
  have s24:=s2.trans q4
  generalize upd Hc t (.tup [.int i,.ref b])=H4 at q4 s4 eb et ez4 pz4 s24
  have hzl:zs.length=i:=by rw[ao pz];unfold kj;rw[aa,bU]
  simp_arith[ke,et,ir,eb,iJ]
  intro t2 ht2
  have q5:=iq ht2 (.tup [.int p.1,.int (2+(i:Int))])
  have ez5:=q5 _ _ ez4
  have t6:=kx (ys:=zs++[.ref t2]) ez5
  refine⟨zs,ez5,iM (by lia),_,_,zs++[.ref t2],rfl,iW (s24.trans q5) hz0,(by first|rfl|exact ie),?_⟩
  have e:kj ps (i+1)=kj ps i++[(p.1,2+(i:Int))]:=by
   unfold kj
   rw[bZ,ah,List.map_singleton,oK hp]
  rw[e]
  exact kg (Prs.tups t6 (Prs.same q5 pz4)) ⟨t2,rfl,t6 _ _ rfl ie⟩
 rintro σ' H2 ⟨w1,w2,zs,rfl,s2,ez,pz⟩
 have s3:=s1.trans s2
 refine⟨⟨_,SqL.of (s3 _ _ hpa),by lia⟩,?_⟩
 have hzl:zs.length=ps.length:=by rw[ao pz];unfold kj;rw[aa,bU]
 simp_arith[ke,ez]
 refine⟨i5 (kj ps ps.length),qI pz,by lia,uo (vx wk),fun d hd0=>?_⟩
 have s4:=s3.trans (iq hd0 (.dK (i5 (kj ps ps.length))))
 have ed:upd H2 d (.dK (i5 (kj ps ps.length))) d=some (.dK (i5 (kj ps ps.length))):=ie
 generalize upd H2 d (.dK (i5 (kj ps ps.length)))=H3 at s4 ed
 clear ez pz hzl
 subst hR
 refine iz fun R' hR=>?_
 simp_arith[ke]
 refine jx (i6 K pa) H3 (fun R2 hR2=>?_) (fun al hal=>ju ps.length (fun i σ' Hc=>∃w1 w2 zs,σ'=[w1,w2,some (.ref d)]/\Same H3 Hc/\Hc al=some (.lst zs)/\jP Hc zs ((ps.take i).map fun p=>((0:Int),jA ps p.1,p.2))) ⟨none,none,[],rfl,iq hal _,ie,.nil⟩ ?_ ?_)
 ·unfold jc
  simp_arith[ke,ir,s4 _ _ hu1,iJ]
  exact⟨pa,rfl,⟨_,SqL.of (s4 _ _ hpa)⟩,hR2⟩
 ·rintro i σ' Hc hi ⟨w1,w2,zs,rfl,s7,ez,pz⟩
  have s8:=s4.trans s7
  have x1:xs[i]? =some (xs[i]'(by lia)):=gE _
  refine⟨⟨_,_,SqL.of (s8 _ _ hpa),x1⟩,?_⟩
  rintro y H' ⟨rfl,hy⟩
  have E1:=aD (x1.symm.trans (hy _ (SqL.of (s8 _ _ hpa))))
  obtain⟨pr,hpr,px⟩:=jl hxs x1
  rw[E1]at px
  obtain⟨b,rfl,hb⟩:=px.same s8
  have hv:=qz wk (av.mpr ⟨pr,aA hpr,rfl⟩)
  have hzl:zs.length<=i:=by rw[ao pz,aa,aO];lia
  simp_arith[ke,hb,s7 _ _ ed,hv]
  intro t2 ht2
  have q5:=iq ht2 (.tup [.int 0,.int (jA ps pr.1),.int pr.2])
  have ez5:=q5 _ _ ez
  have t6:=kx (ys:=zs++[.ref t2]) ez5
  refine⟨zs,ez5,iM (by lia),_,_,zs++[.ref t2],rfl,iW (s7.trans q5) hal,(by first|rfl|exact ie),?_⟩
  rw[je hpr,ah]
  exact kg (jD t6 (jD q5.tups pz)) ⟨t2,rfl,t6 _ _ rfl ie⟩
 rintro σ' H4 ⟨w1,w2,zs,rfl,s5,eal,pz⟩
 have s6:=s4.trans s5
 refine⟨⟨_,SqL.of (s6 _ _ hpa),by lia⟩,?_⟩
 rw[aG]at pz
 have falH:H al=none:=s4.free hal
 have hzl:zs.length=ps.length:=by rw[ao pz,aa]
 simp_arith[ke]
 subst hR
 refine iz fun R' hR=>?_
 have ed4:=s5 _ _ ed
 simp_arith[ke]
 refine jx (i6 K pa) H4 (fun R2 hR2=>?_) (fun bl hbl=>ju ps.length (fun i σ' Hc=>∃w1 w2 us,σ'=[w1,w2,some (.int (xs.length:Int)),some (.ref d)]/\Same H4 Hc/\Hc bl=some (.lst us)/\jP Hc us ((ps.take i).map fun p=>(jA ps p.1+(ps.length:Int),(1:Int),p.2))) ⟨none,none,[],rfl,iq hbl _,ie,.nil⟩ ?_ ?_)
 ·unfold jc
  simp_arith[ke,ir,s6 _ _ hu1,iJ]
  exact⟨pa,rfl,⟨_,SqL.of (s6 _ _ hpa)⟩,hR2⟩
 ·rintro i σ' Hc hi ⟨w1,w2,us,rfl,s7,ez,pu⟩
  have s8:=s6.trans s7
  have x1:xs[i]? =some (xs[i]'(by lia)):=gE _
  refine⟨⟨_,_,SqL.of (s8 _ _ hpa),x1⟩,?_⟩
  rintro y H' ⟨rfl,hy⟩
  have E1:=aD (x1.symm.trans (hy _ (SqL.of (s8 _ _ hpa))))
  obtain⟨pr,hpr,px⟩:=jl hxs x1
  rw[E1]at px
  obtain⟨b,rfl,hb⟩:=px.same s8
  have hv:=qz wk (av.mpr ⟨pr,aA hpr,rfl⟩)
  have hul:us.length<=i:=by rw[ao pu,aa,aO];lia
  simp_arith[ke,hb,s7 _ _ ed4,hv]
  intro t2 ht2
  have q5:=iq ht2 (.tup [.int (jA ps pr.1+(xs.length:Int)),.int 1,.int pr.2])
  have ez5:=q5 _ _ ez
  have t6:=kx (ys:=us++[.ref t2]) ez5
  refine⟨us,ez5,iM (by lia),_,_,us++[.ref t2],rfl,iW (s7.trans q5) hbl,(by first|rfl|exact ie),?_⟩
  rw[je hpr,ah]
  exact kg (jD t6 (jD q5.tups pu)) ⟨t2,rfl,by rw [<- hxl]; exact t6 _ _ rfl ie⟩
 rintro σ' H5 ⟨w1,w2,us,rfl,s7,ebl,pu⟩
 have s8:=s6.trans s7
 refine⟨⟨_,SqL.of (s8 _ _ hpa),by lia⟩,?_⟩
 rw[aG]at pu
 have hul:us.length=ps.length:=by rw[ao pu,aa]
 have eal5:=s7 _ _ eal
 simp_arith[ke,eal5,ebl]
 refine⟨rq (by lia),?_⟩
 have s9:Same H (upd H5 al (.lst (zs++us))):=iW s8 falH
 have t9:=kx (ys:=zs++us) eal5
 have pz9:=Ck (jD t9 (jD s7.tups pz)) (jD t9 pu)
 have eal9:upd H5 al (.lst (zs++us)) al=some (.lst (zs++us)):=ie
 have dal:d≠al:=iI ed hal
 have ed9:upd H5 al (.lst (zs++us)) d=some (.dK (i5 (kj ps ps.length))):=by rw[ix dal];exact s7 _ _ ed4
 generalize upd H5 al (.lst (zs++us))=H6 at s9 pz9 eal9 ed9
 clear eal5 ebl pu pz eal t9
 subst hR
 refine iz fun R' hR=>?_
 refine ky (i6 K ta) H6 (fun R3 hR3=>?_) (lD (K:=K) (a:=ta) (xs:=ys) (fun k σ Hc=>∃v5 v6 ws,σ=[some (.ref u),some (.int (xs.length:Int)),some (.int (lI ps)),some (.ref d),some (.ref al),v5,v6]/\Same H Hc/\Hc d=some (.dK (i5 (kj ps ps.length)))/\Hc al=some (.lst ws)/\ws.length<=80+2*k/\jP Hc ws (((ps.map fun p=>((0:Int),jA ps p.1,p.2))++ps.map fun p=>(jA ps p.1+(ps.length:Int),(1:Int),p.2))++Fl.lT (jA ps) ps.length (lI ps) (ts.take k))) ⟨none,none,zs++us,rfl,s9,ed9,eal9,by rw[aK];lia,by rw[List.take_zero];show jP H6 _ (_++[]);rw[bb];exact pz9⟩ (fun i σ Hc _ ⟨_,_,_,_,s,_⟩=>SqL.of (s _ _ hta)) ?_ ?_)
 ·unfold jc
  simp_arith[ke,ir,s9 _ _ hu1,iT]
  exact⟨ta,rfl,⟨_,SqL.of (s9 _ _ hta)⟩,hR3⟩
 ·rintro k x σ Hc hx ⟨v5,v6,ws,rfl,sA,edA,ealA,hwl,pw⟩
  obtain⟨t,htk,pt⟩:=jl hys hx
  obtain⟨tb,rfl,etb⟩:=pt.same sA
  have hkl:=(aq.mp htk).1
  obtain⟨m1,m2⟩:=ng wk t (aA htk)
  have hv1:=qz wk m1
  have hv2:=qz wk m2
  simp_arith[ke,etb,edA,hv1,hv2]
  refine⟨⟨al,ws,rfl,ealA⟩,fun t1 ht1=>?_⟩
  have qB:=iq ht1 (.tup [.int (jA ps t.1),.int (jA ps t.2+(xs.length:Int)),.int (lI ps)])
  have ealB:=qB _ _ ealA
  have edB:=qB _ _ edA
  simp only[ealB]
  refine⟨iM (by lia),?_⟩
  have tB:=kx (ys:=ws++[.ref t1]) ealB
  have sC:Same H (upd (upd Hc t1 (.tup [.int (jA ps t.1),.int (jA ps t.2+(xs.length:Int)),.int (lI ps)])) al (.lst (ws++[.ref t1]))):=iW (sA.trans qB) falH
  have ealC:upd (upd Hc t1 (.tup [.int (jA ps t.1),.int (jA ps t.2+(xs.length:Int)),.int (lI ps)])) al (.lst (ws++[.ref t1])) al=some (.lst (ws++[.ref t1])):=ie
  have edC:upd (upd Hc t1 (.tup [.int (jA ps t.1),.int (jA ps t.2+(xs.length:Int)),.int (lI ps)])) al (.lst (ws++[.ref t1])) d=some (.dK (i5 (kj ps ps.length))):=by rw[ix dal];exact edB
  have pC:=kg (jD tB (jD qB.tups pw)) (show Tp _ (.ref t1) (jA ps t.1,jA ps t.2 + (ps.length:Int),lI ps) from ⟨t1,rfl,by rw [<- hxl]; exact tB _ _ rfl ie⟩)
  generalize upd (upd Hc t1 (.tup [.int (jA ps t.1),.int (jA ps t.2+(xs.length:Int)),.int (lI ps)])) al (.lst (ws++[.ref t1]))=HC at sC ealC edC pC
  simp_arith[ke,edC,hv1,hv2]
  refine⟨⟨al,_,rfl,ealC⟩,fun t2 ht2=>?_⟩
  have qD:=iq ht2 (.tup [.int (jA ps t.2),.int (jA ps t.1+(xs.length:Int)),.int (lI ps)])
  have ealD:=qD _ _ ealC
  have edD:=qD _ _ edC
  simp only[ealD]
  have tD:=kx (ys:=(ws++[.ref t1])++[.ref t2]) ealD
  refine⟨iM (by rw[aK];show _+1<=_;lia),_,_,(ws++[.ref t1])++[.ref t2],rfl,iW (sC.trans qD) falH,by rw[ix dal];exact edD,ie,by rw[aK,aK];show _+1+1<=_;lia,?_⟩
  rw [je htk,Cz,<- bf,<- bf]
  exact kg (jD tD (jD qD.tups pC)) ⟨t2,rfl,by rw [<- hxl]; exact tD _ _ rfl ie⟩
 ·rintro σ Hc ⟨v5,v6,ws,rfl,sA,edA,ealA,hwl,pw⟩
  rw[hyl,aG]at pw
  have pw:jP Hc ws (jC ps ts):=pw
  subst hR
  simp_arith[ke]
  refine⟨mD (by decide) (by decide),?_⟩
  intro p dx hp hdx hne
  have hpal:al≠p:=iI ealA hp
  have hdal:al≠dx:=iI ealA hdx
  have sB:Same Hc (upd (upd Hc dx (.own p)) p (.ins C_Net dx [])):=fun b o q=>by rw[ix (iI q hp),ix (iI q hdx)];exact q
  refine⟨p,dx,2+(ps.length+ps.length),al,ws,jC ps ts,by rw[show((2+(ps.length+ps.length):Nat):Int)=2+2*(xs.length:Int) by lia],ie,sB _ _ ealA,jD sB.tups pw,by lia,by rw[tR];lia,fun a ha=>(vY wk a ha).1,fun R H' hR' b N=>?_⟩
  refine⟨rfl,h p R H' (sA.free (sB.free hR')) (fun b' o q=>b b' o (iI (sA _ _ q) hp) (sB _ _ (sA _ _ q))) N⟩
def mK(ps:List (Int×Int)):Nat:=2+(ps.length+ps.length)
structure Rst(ps ts:List (Int×Int))(r:List Int):Prop where
 run:Fl.Runs (Fl.j1 (jC ps ts)) (Fl.jr (jC ps ts)) (mK ps) 0 1 (Fl.j2 (jC ps ts)) r
 end_:Fl.lh (Fl.j1 (jC ps ts)) (Fl.jr (jC ps ts)) (mK ps) 0 1 r=none
theorem Rst.one{ps ts:List (Int×Int)}{a b:List Int}(h:Rst ps ts a)(g:Rst ps ts b):a=b:=Fl.DH h.run h.end_ g.run g.end_
def n5(ps ts:List (Int×Int))(r:List Int)(v:Int):Bool:=Fl.mB (Fl.j1 (jC ps ts)) (Fl.jr (jC ps ts)) (mK ps) r v
def jL(ps ts:List (Int×Int))(r:List Int):List (Int×Int):=mC (n5 ps ts r) ps.length ps ps.length
def jt(ps ts:List (Int×Int))(r:List Int):List (Int×Int×Int):=nB (jh false r) ps.length ts ts.length
def qr:Sp:=fun vs H Q _=>∃v ps ts,vs=[v]/\jbz H v ps ts/\WebOk ps ts/\ps.length<=30/\∀t l1 l2 zs us r H',Same H H'->H' t=some (.tup [.ref l1,.ref l2])->H' l1=some (.lst zs)->H' l2=some (.lst us)->H t=none->H l1=none->H l2=none->l1≠l2->Rst ps ts r->Prs H' zs (jL ps ts r)->jP H' us (jt ps ts r)->Q (.ref t) H'
theorem FY{ps ts:List (Int×Int)}{r:List Int}{ms:List Int}(h:ms.Perm ((Fl.jG (Fl.j1 (jC ps ts)) (Fl.jr (jC ps ts)) (mK ps) 0 r).map (·.1))):ja (jT ms)=n5 ps ts r:=by
 funext n
 rw[qw]
 unfold n5 Fl.mB
 exact decide_eq_decide.mpr h.mem_iff
theorem y3{ps ts:List (Int×Int)}(wk:WebOk ps ts):Fl.Rooms (jC ps ts).length (Fl.ma (jC ps ts)) (Fl.j2 (jC ps ts)):=Fl.DG fun a ha=>(vY wk a ha).2
theorem uN{ps ts:List (Int×Int)}(wk:WebOk ps ts):Fl.Net (Fl.j1 (jC ps ts)) (Fl.jr (jC ps ts)) (jC ps ts).length (mK ps):=Fl.yy fun a ha=>(vY wk a ha).1
theorem Rst.rooms{ps ts:List (Int×Int)}{r:List Int}(wk:WebOk ps ts)(h:Rst ps ts r):Fl.Rooms (jC ps ts).length (Fl.ma (jC ps ts)) r/\∀v,v≠0->v≠1->Fl.ex (Fl.jr (jC ps ts)) (jC ps ts).length r v=0:=by
 obtain⟨a,b⟩:=Fl.DF (uN wk) (by decide) ⟨cE _,by unfold mK;lia⟩ h.run (y3 wk)
 exact⟨a,fun v h1 h2=>(b v h1 h2).trans (Fl.Ka _ _ _ _)⟩
theorem FM{α:Type}{xs:List α}{k:Nat}(h:xs.length=2*k):(jh false xs).length=k:=by
 have h1:=oC false xs
 have hge:¬k<(jh false xs).length:=fun z=>by
  have:=h1 k
  rw[gE z,bF (show xs.length<=2*k+(if false=true then 0 else 1) by rw[aE (by decide)];lia)]at this
  cases this
 by_cases c:k=0
 ·lia
 ·have:=h1 (k-1)
  rw[gE (show 2*(k-1)+(if false=true then 0 else 1)<xs.length by rw[aE (by decide)];lia)]at this
  have:=(aq.mp this).1
  lia
theorem Jm(B:Blt mg)(D:DefAt K mg "told_paper" (ig 38) ["web"] f fd)(Dq1:DefAt K mg "doubled" (ig 35) ["web"] fq1 dq1)(Gq1:FnOk P w K mg base iu 5 fq1 dq1 ["web"] (BE C_Net))(Dzq:MthAt K C_Net "fill" "Net.fill" (jE 5 2) ["self","source","sink"] fzq dzq)(Gzq:FnOk P w K mg base iu 3 fzq dzq ["self","source","sink"] (ze C_Net))(Dzt:MthAt K C_Net "reached_from" "Net.reached_from" (jE 5 7) ["self","source"] fzt dzt)(Gzt:FnOk P w K mg base iu 2 fzt dzt ["self","source"] (Ag C_Net))(Dqb:DefAt K mg "marked" (ig 11) ["places"] fqb dqb)(Gqb:FnOk P w K mg base iu 1 fqb dqb ["places"] qE)(Dq5:DefAt K mg "halves_reached" (ig 37) ["web","reached"] fq5 dq5)(Gq5:FnOk P w K mg base iu 1 fq5 dq5 ["web","reached"] zh)(Dzr:MthAt K C_Net "flows" "Net.flows" (jE 5 6) ["self"] fzr dzr)(Gzr:FnOk P w K mg base iu 1 fzr dzr ["self"] (Aa C_Net))(Dq2:DefAt K mg "dues_flowing" (ig 36) ["web","flows"] fq2 dq2)(Gq2:FnOk P w K mg base iu 1 fq2 dq2 ["web","flows"] z8)(T:NetC K mg C_Net)(C2:Cst2 mg e1 e2 e3):FnOk P w K mg base iu 6 f fd ["web"] qr:=by
 have sc:FnScope ["web","net","halves"] ["web"] (iN (ig 38)):=by walk_at "SC"
 refine D.F.ok sc (fun vs H Q E h=>?_) (fun cdv A outer s H vs Q E hr h=>?_)
 ·obtain⟨v,ps,ts,rfl,_⟩:=h
  rfl
 obtain⟨v,ps,ts,rfl,hw,wk,h30,h⟩:=h
 have hu:=iX hr
 have hu0:_<PySem.cLine:=au hu
 refine⟨_,(ik (iH (i:=1) sc.nd rfl (Or.inl rfl) (iF Gq1 (hr.mono (by decide)) rfl Dq1.m Dq1.F.kp Dq1.b .nil iD (h8 (qv 0) ic))) (ik (jV (ni (qv 1) T.cl Dzq.m Gzq (hr.mono (by decide)) Dzq.b .nil iD (h8 (lM (v:=.int 0) rfl C2.SOURCE ⟨_,rfl⟩) (h8 (lM (v:=.int 1) rfl C2.SINK ⟨_,rfl⟩) ic)))) (ik (iH (i:=2) sc.nd rfl (Or.inl rfl) (iF Gq5 (hr.mono (by decide)) rfl Dq5.m Dq5.F.kp Dq5.b .nil iD (h8 (qv 0) (h8 (iF Gqb (hr.mono (by decide)) rfl Dqb.m Dqb.F.kp Dqb.b .nil iD (h8 (ni (qv 1) T.cl Dzt.m Gzt (hr.mono (by decide)) Dzt.b .nil iD (h8 (lM (v:=.int 0) rfl C2.SOURCE ⟨_,rfl⟩) ic)) ic)) ic)))) (iw (iG (jw (h8 (qv 2) (h8 (iF Gq2 (hr.mono (by decide)) rfl Dq2.m Dq2.F.kp Dq2.b .nil iD (h8 (qv 0) (h8 (G7 (qv 1) T.cl Dzr.m Gzr (hr.mono (by decide)) Dzr.b .nil iD) ic))) ic)))))))),?_⟩
 refine iz fun R' hR=>?_
 walk_at "D"
 refine⟨v,ps,ts,rfl,hw,wk,fun p R H1 fR s1 N=>?_⟩
 subst hR
 refine iz fun R' hR=>?_
 obtain⟨dx,W,Hd,ls,o1,_,_,_,_,_,_,pR⟩:=N.st
 simp_arith[o1,F6]
 refine⟨p,0,1,R,_,_,_,_,_,Fl.ma (jC ps ts),rfl,N,by decide,cE _,by lia,y3 wk,fun x r H2 run fin b2 eR2=>?_⟩
 have rst:Rst ps ts r:=⟨run,fin⟩
 have rm:=(rst.rooms wk).1
 have N2:=N.but b2 eR2 rm.len
 have s2:Same H H2:=fun b o q=>b2 b o (iI q fR) (s1 _ _ q)
 have o2:=b2 _ _ pR o1
 subst hR
 refine iz fun R' hR=>?_
 simp_arith[o2,IE]
 refine⟨p,0,R,_,_,_,_,r,rfl,N2,cE _,by lia,by lia,fun l ms H3 hl s3 el pm=>?_⟩
 have hmn:ms.Nodup:=pm.nodup_iff.mpr (Fl.mS (r:=r) (s:=0) N.net.from' _).nd
 have hml:ms.length<=120:=by
  rw[pm.length_eq,aa]
  have:=Fl.oa (r:=r) N.net ⟨cE 0,by lia⟩ (2+(ps.length+ps.length))
  show(Fl.ji _ _ _ _ _).length<=120
  lia
 refine⟨l,ms,rfl,el,hmn,hml,fun d H4 hd s4 ed=>?_⟩
 have s24:=s3.trans s4
 have s14:=s2.trans s24
 refine⟨v,ps,ts,d,jT ms,rfl,hw.same s14,wk,ed,fun l1 zs H5 hl1 s5 el1 pz=>?_⟩
 rw[FY pm]at pz
 have s25:=s24.trans s5
 have s15:=s14.trans s5
 subst hR
 simp_arith[s25 _ _ o2,GS]
 refine⟨p,R,_,_,_,_,r,rfl,N2.same s25,fun fl H6 hfl s6 ef=>?_⟩
 refine⟨v,ps,ts,fl,jh false r,rfl,hw.same (s15.trans s6),wk,ef,?_,fun l2 us H7 hl2 s7 el2 pu=>?_⟩
 ·rw[FM rm.len,tR];lia
 intro t ht
 have q8:=iq ht (.tup [.ref l1,.ref l2])
 have s57:=s6.trans s7
 refine h t l1 l2 zs us r _ ((s15.trans s57).trans q8) ie (q8 _ _ (s57 _ _ el1)) (q8 _ _ el2) ((s15.trans s57).free ht) (s14.free hl1) ((s15.trans s6).free hl2) (iI (s6 _ _ el1) hl2) rst (Prs.same (s57.trans q8) pz) (jD q8.tups pu)
theorem IY(B:Blt mg)(D:DefAt K mg "halves_of" (ig 39) ["web"] f fd)(Dqg:DefAt K mg "look_at_web" (ig 24) ["thing"] fqg dqg)(Gqg:FnOk P w K mg base iu 5 fqg dqg ["thing"] ud)(Dqr:DefAt K mg "told_paper" (ig 38) ["web"] fqr dqr)(Gqr:FnOk P w K mg base iu 6 fqr dqr ["web"] qr):FnOk P w K mg base iu 7 f fd ["web"] qr:=by
 have sc:FnScope ["web"] ["web"] (iN (ig 39)):=by walk_at "SC"
 refine D.F.ok sc (fun vs H Q E h=>?_) (fun cdv A outer s H vs Q E hr h=>?_)
 ·obtain⟨v,ps,ts,rfl,_⟩:=h
  rfl
 obtain⟨v,ps,ts,rfl,hw,wk,h30,h⟩:=h
 have hu:=iX hr
 have hu0:_<PySem.cLine:=au hu
 refine⟨_,(ik (jV (iF Gqg (hr.mono (by decide)) rfl Dqg.m Dqg.F.kp Dqg.b .nil iD (h8 (qv 0) ic))) (iw (iG (iF Gqr (hr.mono (by decide)) rfl Dqr.m Dqr.F.kp Dqr.b .nil iD (h8 (qv 0) ic))))),?_⟩
 walk_at "D"
 refine⟨v,ps,ts,rfl,hw,wk,fun H1 s1=>?_⟩
 walk_at "D"
 refine⟨v,ps,ts,rfl,hw.same s1,wk,h30,fun t l1 l2 zs us r H2 s2 e1 e2 e3 f1 f2 f3 ne rst pz pu=>?_⟩
 exact h t l1 l2 zs us r H2 (s1.trans s2) e1 e2 e3 (s1.free f1) (s1.free f2) (s1.free f3) ne rst pz pu
end
end My
namespace My
open PySem L2
section
variable{P:Program}{w:World}{K:PySem.W.Frag}{mg:Str->Option Value}{base:Heap}{c1 c2 c3 c4:Tok}{C_NoWeb fqk:Addr}{dI:FuncData}
theorem An{kvs:List (ij×V)}:∀{ts:List (Int×Int)} {q:Int×Int},TiOk kvs q ts->ts.Pairwise fun a b=>HT.lexLt [a.1,a.2] [b.1,b.2]=true
 |[],_,_=>.nil
 |u::r,q,h=>List.pairwise_cons.mpr ⟨fun p hp=>TiOk.lt h.2 p hp,An h.2⟩
theorem Fc{a b c d:Int}(h:HT.lexLt [a,b] [c,d]=true):lV [c,d] [a,b]=false:=by
 have h:=wg h
 rw[vk]
 by_cases e:c=a
 ·rw[aH e,vk,aE (by lia)]
  exact az (by lia)
 ·rw[aE e]
  exact az (by lia)
theorem Bm{ts:List (Int×Int)}:∀{qs:List (Int×Int×Int)} {q:Int×Int},qs.Pairwise (fun a b=>HT.lexLt [a.1,a.2.1] [b.1,b.2.1]=true)->(∀d∈qs,HT.lexLt [q.1,q.2] [d.1,d.2.1]=true)->(∀d∈qs,(d.1,d.2.1)∈ts/\1<=d.2.2)->jQ ts q (qs.map jq)=some qs
 |[],_,_,_,_=>rfl
 | d::r,q,hp,hq,hm=>by
  have hp':=List.pairwise_cons.mp hp
  have h1:=hm d (.head _)
  have hd:l9 (jq d)=some d:=by
   unfold l9
   show(if 1<=d.2.2 then some d else none)=some d
   rw[aH h1.2]
  rw[ai,jQ,hd]
  dsimp only
  rw[aH ⟨h1.1,Fc (hq d (.head _))⟩,Bm hp'.2 (fun e he=>hp'.1 e he) fun e he=>hm e (.tail _ he)]
  rfl
theorem AC{hf:Int->Int}(hb:∀n,0<=hf n/\hf n<=2):∀ps:List (Int×Int),j6 ps ((ps.map fun p=>(p.1,hf p.1)).map jd)=some (ps.map fun p=>(p.1,hf p.1))
 |[]=>rfl
 |p::r=>by
  rw[ai,ai,j6]
  show(match mG (.tup [.int p.1,.int (hf p.1)])with |some h=>if h.1=p.1/\0<=h.2/\h.2<=2 then _ else none|none=>none)=_
  rw[show mG (.tup [.int p.1,.int (hf p.1)])=some (p.1,hf p.1)from rfl]
  dsimp only
  rw[aH ⟨rfl,hb p.1⟩,AC hb r]
  rfl
theorem wW{n:Int}:∀{L:List (Int×Int×Int)},(∀d∈L,0<=d.2.2)->iZ (L.filter fun d=>decide (d.2.2>0)) n=iZ L n
 |[],_=>rfl
 | d::r,h=>by
  have ih:=wW (n:=n) (L:=r) fun e he=>h e (.tail _ he)
  unfold iZ at ih ⊢
  rw[cT]
  by_cases c:d.2.2>0
  ·rw[aH (af c),ai,List.sum_cons,ih,ai,List.sum_cons]
  ·have h0:d.2.2=0:=by have:=h d (.head _);lia
   rw[aE (by simpa using c),ih,ai,List.sum_cons,h0]
   split<;>split<;>lia
theorem Ak:∀{L:List (Int×Int×Int)},(∀d∈L,0<=d.2.2)->((L.filter fun d=>decide (d.2.2>0)).map (·.2.2)).sum=(L.map (·.2.2)).sum
 |[],_=>rfl
 | d::r,h=>by
  have ih:=Ak (L:=r) fun e he=>h e (.tail _ he)
  rw[cT]
  by_cases c:d.2.2>0
  ·rw[aH (af c),ai,List.sum_cons,ih,ai,List.sum_cons]
  ·have h0:d.2.2=0:=by have:=h d (.head _);lia
   rw[aE (by simpa using c),ih,ai,List.sum_cons,h0]
   lia
theorem zz(r:List Int)(k:Nat):Fl.at' (jh false r) k=Fl.at' r (2*k+1):=by
 unfold Fl.at'
 rw[aV,aV,oC,aE (by decide)]
def oh(ps ts:List (Int×Int))(r:List Int)(p:Int):Bool:=n5 ps ts r (jA ps p)
def og(ps ts:List (Int×Int))(r:List Int)(p:Int):Bool:=n5 ps ts r (jA ps p+ps.length)
def kU(ps ts:List (Int×Int))(r:List Int):Int->Int:=Fl.kH (oh ps ts r) (og ps ts r)
theorem nW{ps ts:List (Int×Int)}(wk:WebOk ps ts):∀p∈ps,ko ps p.1=p.2:=fun p hp=>by
 have a:=nV wk.p.nodup hp
 rw[nS wk.p.nodup (av.mpr ⟨p,hp,rfl⟩)]at a
 exact V.int.inj (aD a)
theorem nQ{ps ts:List (Int×Int)}{r:List Int}(wk:WebOk ps ts)(h:Rst ps ts r):Fl.Full (ps.map (·.1)) (ko ps) (Fl.twS (ps.map (·.1)) r ts) (Fl.mi (jA ps) r) (Fl.nu (ps.map (·.1)) (jA ps) r) (oh ps ts r) (og ps ts r):=by
 have hl:(ps.map (·.1)).length=ps.length:=aa _
 have e1:(jC ps ts).length=Fl.arcs (ps.map (·.1)) ts:=by rw[tR];unfold Fl.arcs;rw[hl]
 have e2:mK ps=Fl.kq (ps.map (·.1)):=by unfold mK Fl.kq;rw[hl]
 have D:Fl.Dbl (ps.map (·.1)) ts (jA ps) (Fl.jr (jC ps ts)):=Fl.C1 wk.p.nodup (fun i p hp=>sk wk hp) (ng wk)
 have C:Fl.Caps (ps.map (·.1)) ts (ko ps) (Fl.ma (jC ps ts)):=Fl.C5 (nW wk) fun p hp=>by
  have h0:∀q∈ps,0<=q.2:=fun q hq=>by have:=wk.p.pos q hq;lia
  have:=Fl.mW (f:=fun q:Int×Int=>q.2) h0 p hp
  unfold lI
  lia
 obtain⟨rm,bal⟩:=h.rooms wk
 have N:=uN wk
 have en:=h.end_
 rw[e1]at rm bal N
 rw[e2]at N en
 have F:=Fl.J3 D N C rm bal en
 rw[hl]at F
 unfold oh og n5
 rw[e2]
 exact F
theorem ph{ps ts:List (Int×Int)}{r:List Int}(wk:WebOk ps ts):jL ps ts r=ps.map fun p=>(p.1,kU ps ts r p.1):=by
 unfold jL mC
 apply eS
 intro i
 rw[aJ,aJ]
 by_cases c:i<ps.length
 ·have hi:ps[i]? =some ps[i]:=gE c
  have hs:=sk wk (i:=i) (p:=ps[i].1) (by rw[aJ,hi];rfl)
  rw[fo c,hi]
  show some _=some _
  dsimp only
  rw[oK hi]
  unfold kU Fl.kH Fl.one oh og
  rw[hs,show(2:Int)+(i:Int)+(ps.length:Int)=2+(ps.length:Int)+(i:Int) by lia]
  congr 2
  cases n5 ps ts r (2+(i:Int))<;>rfl
 ·rw[bF (by rw[bU];lia),bF (by lia)]
  rfl
noncomputable def lS(ps ts:List (Int×Int))(r:List Int):List (Int×Int×Int):=(Fl.twS (ps.map (·.1)) r ts).map fun z=>(z.a,z.b,z.x+z.y)
theorem o8(ps ts:List (Int×Int))(r:List Int):jt ps ts r=(lS ps ts r).filter fun d=>decide (d.2.2>0):=by
 unfold jt nB lS Fl.twS
 rw[bw]
 congr 1
 refine fm fun j _=>?_
 show _=((Fl.twAt _ _ _ j).a,(Fl.twAt _ _ _ j).b,_)
 unfold Fl.twAt
 dsimp only
 rw[zz,zz,aa,show 2*ps.length+2*j=ps.length+ps.length+2*j by lia,show ps.length+ps.length+2*j+1=ps.length+ps.length+(2*j+1) by lia]
theorem uf(ps ts:List (Int×Int))(r:List Int):(lS ps ts r).map (fun d=>(d.1,d.2.1))=ts:=by
 unfold lS Fl.twS
 rw[bw,bw]
 apply eS
 intro i
 rw[aJ]
 by_cases c:i<ts.length
 ·rw[fo c,gE c]
  show some ((ts.getD i (0,0)).1,(ts.getD i (0,0)).2)=_
  rw[oK (gE c)]
 ·rw[bF (by rw[bU];lia),bF (by lia)]
  rfl
theorem B5{ps ts:List (Int×Int)}{r:List Int}(wk:WebOk ps ts)(h:Rst ps ts r):j6 ps ((jL ps ts r).map jd)=some (jL ps ts r)/\jQ ts (-1,-1) ((jt ps ts r).map jq)=some (jt ps ts r)/\mr ts (jL ps ts r)=true/\lX ps (jt ps ts r)=true/\((jt ps ts r).map (·.2.2)).sum=nH ps (jL ps ts r):=by
 have F:=nQ wk h
 have hb:∀n,0<=kU ps ts r n/\kU ps ts r n<=2:=fun n=>Fl.CL n
 have nn:∀d∈lS ps ts r,0<=d.2.2:=fun d hd=>by
  obtain⟨z,hz,rfl⟩:=av.mp hd
  have:=F.pos z hz
  dsimp only
  lia
 have nd:((jL ps ts r).map (·.1)).Nodup:=by
  rw[ph wk,bw]
  exact wk.p.nodup
 have hat:∀n∈ps.map (·.1),ko (jL ps ts r) n=kU ps ts r n:=fun n hn=>by
  obtain⟨p,hp,rfl⟩:=av.mp hn
  have hm:(p.1,kU ps ts r p.1)∈jL ps ts r:=by rw[ph wk];exact av.mpr ⟨p,hp,rfl⟩
  have a:=nV nd hm
  rw[nS nd (av.mpr ⟨_,hm,rfl⟩)]at a
  exact V.int.inj (aD a)
 refine⟨by rw[ph wk];exact AC hb ps,?_,?_,?_,?_⟩
 ·rw[o8]
  have hpw:(lS ps ts r).Pairwise (fun a b=>HT.lexLt [a.1,a.2.1] [b.1,b.2.1]=true):=by
   have:=An wk.t
   rw [<- uf ps ts r,df] at this
   exact this
  have hin:∀d∈lS ps ts r,(d.1,d.2.1)∈ts:=fun d hd=>by
   have:=cg (f:=fun d:Int×Int×Int=>(d.1,d.2.1)) hd
   rw[uf]at this
   exact this
  refine Bm (hpw.filter _) (fun d hd=>?_) fun d hd=>?_
  ·have:=TiOk.lt wk.t _ (hin d (bG.mp hd).1)
   exact this
  ·have:=bG.mp hd
   exact⟨hin d this.1,by have:=bp this.2;lia⟩
 ·unfold mr
  rw[cV]
  intro t ht
  obtain⟨m1,m2⟩:=ng wk t ht
  rw[hat _ m1,hat _ m2]
  refine af ?_
  have hz:t∈(lS ps ts r).map (fun d=>(d.1,d.2.1)):=by rw[uf];exact ht
  obtain⟨d,hd,rfl⟩:=av.mp hz
  obtain⟨z,hz2,rfl⟩:=av.mp hd
  exact F.two z hz2
 ·unfold lX
  rw[cV]
  intro p hp
  refine af ?_
  rw[o8,wW nn]
  have:=F.paid (av.mpr ⟨p,hp,rfl⟩)
  rw[nW wk p hp]at this
  unfold iZ lS
  rw[bw]
  exact this
 ·rw[o8,Ak nn]
  have:=F.worth
  unfold nH
  rw[ph wk]
  unfold lS
  rw[bw,bw]
  rw[bw]at this
  exact this
theorem Cs{ps ts:List (Int×Int)}{r:List Int}(wk:WebOk ps ts)(h:Rst ps ts r):mw ps ts (.tup [.lst ((jL ps ts r).map jd),.lst ((jt ps ts r).map jq)])=true:=by
 obtain⟨a,b,c,d,e⟩:=B5 wk h
 rw[xf]
 show(match j6 ps _,jQ ts (-1,-1) _ with |some hs,some qs=>mr ts hs&&(lX ps qs&&decide ((qs.map (·.2.2)).sum=nH ps hs))|_,_=>false)=true
 rw[a,b]
 dsimp only
 rw[c,d,af e]
 rfl
theorem Hj{ps:List (Int×Int)}{r:List Int}(wk:WebOk ps [])(h:Rst ps [] r):jL ps [] r=ps.map (fun p=>(p.1,(0:Int)))/\jt ps [] r=[]:=by
 have F:=nQ wk h
 refine⟨?_,rfl⟩
 rw[ph wk]
 refine fm fun p hp=>?_
 have hm:p.1∈ps.map (·.1):=av.mpr ⟨p,hp,rfl⟩
 have hpr:=nW wk p hp
 have h1:=wk.p.pos p hp
 have l0:=F.left p.1 hm
 have r0:=F.right p.1 hm
 have e1:oh ps [] r p.1=true:=by
  cases c:oh ps [] r p.1 with
  |true=>rfl
  |false=>
   have:=F.satL p.1 hm c
   rw[l0]at this
   have z:Fl.kB (Fl.twS (ps.map (·.1)) r []) p.1=0:=rfl
   lia
 have e2:og ps [] r p.1=false:=by
  cases c:og ps [] r p.1 with
  |false=>rfl
  |true=>
   have:=F.satR p.1 hm c
   rw[r0]at this
   have z:Fl.inR (Fl.twS (ps.map (·.1)) r []) p.1=0:=rfl
   lia
 unfold kU Fl.kH
 rw[e1,e2]
 rfl
noncomputable def kD(ts:List (Int×Int))(ds:List (Int×Int×Int))(x:Lk):List Lk:=if x.1=some wB then((jv ts (iC x)).filter fun q=>kJ ds (iC x) q).map fun q=>(some wT,[iC x,q])else(jv ts (iC x)).map fun q=>(some wB,[iC x,q])
def jig(x:Lk):Prop:=(∃p,x=(some wL,[p]))\/(∃u v,x=(some wB,[u,v]))\/∃u v,x=(some wT,[u,v])
def Ks(A B:Int->Prop)(x:Lk):Prop:=(x.1=some wB->B (iC x))/\(x.1≠some wB->A (iC x))
structure ChI(ps ts:List (Int×Int))(ds:List (Int×Int×Int))(c:List Lk)(k:Nat):Prop where
 good:∀x∈c,jig x
 nd:(c.map iC).Nodup
 place:∀x∈c,iC x∈ps.map (·.1)
 sound:∀A B:Int->Prop,(∀n∈jB ps ds,A n)->(∀n q,q∈jv ts n->A n->B q)->(∀n q,q∈jv ts n->kJ ds n q=true->B n->A q)->∀x∈c,Ks A B x
 start:∀n∈jB ps ds,n∈c.map iC
 done:∀(i:Nat) (x:Lk),i<k->c[i]? =some x->∀y∈kD ts ds x,iC y∈c.map iC
theorem zP{ts:List (Int×Int)}{ds:List (Int×Int×Int)}{x y:Lk}(h:y∈kD ts ds x):jig y/\iC y∈jv ts (iC x)/\((x.1=some wB/\y.1=some wT/\kJ ds (iC x) (iC y)=true)\/(x.1≠some wB/\y.1=some wB)):=by
 unfold kD at h
 split at h
 ·rename_i c
  obtain⟨q,hq,rfl⟩:=av.mp h
  have:=bG.mp hq
  exact⟨.inr (.inr ⟨_,_,rfl⟩),this.1,.inl ⟨c,rfl,this.2⟩⟩
 ·rename_i c
  obtain⟨q,hq,rfl⟩:=av.mp h
  exact⟨.inr (.inl ⟨_,_,rfl⟩),hq,.inr ⟨c,rfl⟩⟩
theorem ua{ts:List (Int×Int)}{n q:Int}:q∈jv ts n->(n,q)∈ts\/(q,n)∈ts:=fun h=>by
 obtain⟨t,ht,hq⟩:=ff.mp h
 obtain⟨a,b⟩:=t
 unfold nr at hq
 dsimp only at hq
 split at hq
 ·rename_i c
  subst c
  rw[aU.mp hq]
  exact .inl ht
 ·split at hq
  ·rename_i c
   subst c
   rw[aU.mp hq]
   exact .inr ht
  ·cases hq
theorem AL{ts:List (Int×Int)}(hlt:∀t∈ts,t.1<t.2){a b:Int}(h:(a,b)∈ts):b∈jv ts a/\a∈jv ts b:=by
 have:=hlt _ h
 dsimp only at this
 refine⟨ff.mpr ⟨_,h,?_⟩,ff.mpr ⟨_,h,?_⟩⟩
 ·unfold nr
  rw[aH rfl]
  exact aU.mpr rfl
 ·unfold nr
  dsimp only
  rw[aE (by lia),aH rfl]
  exact aU.mpr rfl
section
variable{ps ts:List (Int×Int)}{ds:List (Int×Int×Int)}{c:List Lk}{k:Nat}
theorem Aj:∀{l m:List Int},l.Nodup->(∀x∈l,x∈m)->l.length<=m.length
 |[],_,_,_=>bM _
 |a::l,m,nd,h=>by
  have nd':=bO.mp nd
  have ha:=h a (aZ ..)
  have ih:=Aj (l:=l) (m:=m.erase a) nd'.2 fun x hx=>(List.mem_erase_of_ne fun e=>nd'.1 (by rw [<- e]; exact hx)).mpr (h x (aP _ hx))
  rw[List.length_erase_of_mem ha]at ih
  have:=List.length_pos_of_mem ha
  rw[List.length_cons]
  lia
theorem ChI.len(h:ChI ps ts ds c k):c.length<=ps.length:=by
 have:=Aj h.nd fun n hn=>by
  obtain⟨x,hx,rfl⟩:=av.mp hn
  exact h.place x hx
 rw[aa,aa]at this
 exact this
theorem ChI.put(h:ChI ps ts ds c k)(wk:WebOk ps ts)(hk:k<=c.length){x y:Lk}(hx:x∈c)(hy:y∈kD ts ds x)(hn:iC y∉c.map iC):ChI ps ts ds (c++[y]) k:=by
 obtain⟨gy,ny,cy⟩:=zP hy
 have hmap:(c++[y]).map iC=c.map iC++[iC y]:=by rw[ah];rfl
 refine⟨fun z hz=>?_,?_,fun z hz=>?_,fun A B a1 a2 a3 z hz=>?_,fun n hn=>?_,fun i z hi hz w hw=>?_⟩
 ·rcases bz.mp hz with hz|hz
  ·exact h.good z hz
  ·rw[aU.mp hz];exact gy
 ·rw[hmap]
  exact eQ.mpr ⟨h.nd,by simp,fun a ha b hb e=>hn (by rw [<- aU.mp hb,<- e]; exact ha)⟩
 ·rcases bz.mp hz with hz|hz
  ·exact h.place z hz
  ·rw[aU.mp hz]
   rcases ua ny with t|t
   ·exact(ng wk _ t).2
   ·exact(ng wk _ t).1
 ·rcases bz.mp hz with hz|hz
  ·exact h.sound A B a1 a2 a3 z hz
  ·rw[aU.mp hz]
   have sx:=h.sound A B a1 a2 a3 x hx
   rcases cy with⟨e1,e2,e3⟩|⟨e1,e2⟩
   ·refine⟨fun z=>?_,fun _=>a3 _ _ ny e3 (sx.1 e1)⟩
    rw[e2]at z
    exact absurd (aD z) (by rw[mJ];exact fun z=>z)
   ·exact⟨fun _=>a2 _ _ ny (sx.2 e1),fun z=>absurd e2 z⟩
 ·rw[hmap]
  exact dg _ (h.start n hn)
 ·rw[hmap]
  rw[bx (by lia)]at hz
  exact dg _ (h.done i z hi hz w hw)
theorem ChI.next(h:ChI ps ts ds c k){x:Lk}(hx:c[k]? =some x)(hd:∀y∈kD ts ds x,iC y∈c.map iC):ChI ps ts ds c (k+1):=
 ⟨h.good,h.nd,h.place,h.sound,h.start,fun i z hi hz w hw=>by
  by_cases e:i=k
  ·subst e
   rw[hx]at hz
   cases hz
   exact hd w hw
  ·exact h.done i z (by lia) hz w hw⟩
theorem ChI.zero(wk:WebOk ps ts):ChI ps ts ds ((jB ps ds).map fun n=>((some wL,[n]):Lk)) 0:=by
 have hm:((jB ps ds).map fun n=>((some wL,[n]):Lk)).map iC=jB ps ds:=by
  rw[bw]
  exact List.map_id _
 refine⟨fun x hx=>?_,?_,fun x hx=>?_,fun A B a1 a2 a3 x hx=>?_,fun n hn=>by rw[hm];exact hn,fun i _ hi=>absurd hi (Nat.not_lt_zero _)⟩
 ·obtain⟨n,_,rfl⟩:=av.mp hx
  exact .inl ⟨n,rfl⟩
 ·rw[hm]
  exact(nj ps ds).nodup wk.p.nodup
 ·obtain⟨n,hn,rfl⟩:=av.mp hx
  exact(nj ps ds).subset hn
 ·obtain⟨n,hn,rfl⟩:=av.mp hx
  exact⟨fun z=>absurd (aD z) (by rw[oX];exact fun z=>z),fun _=>a1 n hn⟩
end
theorem FI{H:Hp}{l:Addr}{xs ys:List (ij×V)}(h:H l=some (.dK xs)):TupS H (upd H l (.dK ys)):=fun b o i q=>by
 have:b≠l:=fun z=>by rw[z,h]at q;cases q;cases i
 rw[ix this]
 exact q
noncomputable def lF:List Lk->List Lk->List Lk
 |c,[]=>c
 |c,y::r=>lF (if iC y∈c.map iC then c else c++[y]) r
theorem Aw:∀(ys zs c:List Lk),lF c (ys++zs)=lF (lF c ys) zs
 |[],_,_=>rfl
 |y::r,zs,c=>by rw[List.cons_append,lF,lF,Aw r zs]
inductive ChR(ts:List (Int×Int))(ds:List (Int×Int×Int)):List Lk->Nat->List Lk->Prop
 |fin (c:List Lk):ChR ts ds c c.length c
 |go {c d:List Lk} {k:Nat} {x:Lk} (h:c[k]? =some x) (r:ChR ts ds (lF c (kD ts ds x)) (k+1) d):ChR ts ds c k d
theorem ChR.one{ts:List (Int×Int)}{ds:List (Int×Int×Int)}{c a b:List Lk}{k:Nat}(h:ChR ts ds c k a):ChR ts ds c k b->a=b:=by
 induction h with
 |fin c=>
  intro g
  cases g with
  |fin=>rfl
  |go h _=>rw[bF (aF _)]at h;cases h
 | go h r ih=>
  intro g
  cases g with
  |fin=>rw[bF (aF _)]at h;cases h
  |go h2 r2=>
   rw[h]at h2
   cases h2
   exact ih r2
def C4(ps:List (Int×Int))(ds:List (Int×Int×Int)):List Lk:=(jB ps ds).map fun n=>((some wL,[n]):Lk)
def ChT(ps ts:List (Int×Int))(ds:List (Int×Int×Int))(c:List Lk)(k:Nat):Prop:=∀d,ChR ts ds c k d->ChR ts ds (C4 ps ds) 0 d
def uG(ps ts:List (Int×Int))(ds:List (Int×Int×Int))(c:List Lk):Prop:=ChR ts ds (C4 ps ds) 0 c/\jN ps ts ds [] [] c=true
theorem AG{ps ts:List (Int×Int)}{ds:List (Int×Int×Int)}:∀(ns ins outs:List Int),(∀n∈ns,n∈jB ps ds)->jN ps ts ds ins outs (ns.map fun n=>((some wL,[n]):Lk))=true
 |[],_,_,_=>rfl
 | n::r,ins,outs,h=>by
  have hn:=h n (aZ ..)
  have hp:=(nj ps ds).subset hn
  rw[ai,jN]
  have e:jX ps ts ds ins outs (some wL,[n])=true:=by
   unfold jX kY
   simp only[af hp,af hn,cC,fh]
  rw[e,aE (show ¬((some wL,[n]):Lk).1=some wB from fun z=>absurd (aD z) (by rw[oX];exact fun z=>z)),AG r ins _ fun m hm=>h m (aP _ hm)]
  rfl
theorem F9{ps ts:List (Int×Int)}{ds:List (Int×Int×Int)}{c:List Lk}{x y:Lk}(hx:x∈c)(hp:iC x∈ps.map (·.1))(hy:y∈kD ts ds x)(hq:iC y∈ps.map (·.1)):jX ps ts ds (ka c++[]) (kn c++[]) y=true:=by
 rw[bb,bb]
 unfold kD at hy
 split at hy
 ·rename_i e
  obtain⟨q,hm,rfl⟩:=av.mp hy
  obtain⟨h1,h2⟩:=bG.mp hm
  have hi:iC x∈ka c:=av.mpr ⟨x,bG.mpr ⟨hx,af e⟩,rfl⟩
  have hq:q∈ps.map (·.1):=hq
  unfold jX kY
  simp only[af h1,af hp,af hq,af hi,h2,mJ,cC,dY,Bool.or_true,fh,if_false]
 ·rename_i e
  obtain⟨q,h1,rfl⟩:=av.mp hy
  have hi:iC x∈kn c:=av.mpr ⟨x,bG.mpr ⟨hx,by rw[az e];rfl⟩,rfl⟩
  have hq:q∈ps.map (·.1):=hq
  unfold jX kY
  simp only[af h1,af hp,af hq,af hi,cC,Bool.true_or,fh,if_true]
theorem ChT.next{ps ts:List (Int×Int)}{ds:List (Int×Int×Int)}{c:List Lk}{k:Nat}{x:Lk}(h:ChT ps ts ds c k)(hx:c[k]? =some x):ChT ps ts ds (lF c (kD ts ds x)) (k+1):=fun d r=>h d (.go hx r)
theorem Gs{c ys:List Lk}{i:Nat}{y:Lk}(h:ys[i]? =some y):lF c (ys.take (i+1))=if iC y∈(lF c (ys.take i)).map iC then lF c (ys.take i)else lF c (ys.take i)++[y]:=by
 rw[je h,Aw,lF,lF]
def Ac:Sp:=fun vs H Q _=>∃v d td ps ts ds kvs x,vs=[v,.ref d,.ref td]/\LkAt H v x/\jig x/\iC x∈ps.map (·.1)/\WebOk ps ts/\NrAt H d ps ts/\H td=some (.dT kvs)/\uR kvs ds/\∀r zs H',Same H H'->H r=none->H' r=some (.lst zs)->Lks H' zs (kD ts ds x)->Q (.ref r) H'
theorem jig.v{x:Lk}(g:jig x):∃w:Str,x.1=some w/\jb (kC x) 0=some (.str w)/\jb (kC x) (-1)=some (.int (iC x)):=by
 rcases g with⟨p,rfl⟩|⟨u,v,rfl⟩|⟨u,v,rfl⟩
 ·exact⟨wL,rfl,iJ,xN⟩
 ·exact⟨wB,rfl,iJ,pN⟩
 ·exact⟨wT,rfl,iJ,pN⟩
def A0:Sp:=fun vs H Q _=>∃v ps ts l us ds,vs=[v,.ref l]/\jbz H v ps ts/\WebOk ps ts/\H l=some (.lst us)/\jP H us ds/\ds.length<=200/\∀r zs c H',Same H H'->H r=none->H' r=some (.lst zs)->Lks H' zs c->ChI ps ts ds c c.length->uG ps ts ds c->Q (.ref r) H'
theorem Ff{ns:List Int}{n:Int}(h:n∉ns):jm (jT ns) (Sum.inl n:ij) (.bl true)=jT (ns++[n]):=by
 unfold jT
 rw[ah]
 exact L2.tL _ (by
  cases e:iK (ns.map fun n=>((Sum.inl n:ij),V.bl true)) (Sum.inl n:ij)with
  |none=>rfl
  |some x=>
   have:=qw ns n
   unfold ja jT at this
   rw[e,az h]at this
   cases this)
theorem Jk(B:Blt mg)(D:DefAt K mg "links_from" (ig 48) ["link","nears","paid_ties"] f fd):FnOk P w K mg base iu 1 f fd ["link","nears","paid_ties"] Ac:=by
 have sc:FnScope ["link","nears","paid_ties","last"] ["link","nears","paid_ties"] (iN (ig 48)):=by walk_at "SC"
 refine D.F.ok sc (fun vs H Q E h=>?_) (fun cdv A outer s H vs Q E hr h=>?_)
 ·obtain⟨v,d,td,ps,ts,ds,kvs,x,rfl,_⟩:=h
  rfl
 obtain⟨v,d,td,ps,ts,ds,kvs,x,rfl,hx,gx,hp,wk,hn,etd,td1,h⟩:=h
 obtain⟨t,rfl,et⟩:=hx
 obtain⟨w0,ew,a0,al⟩:=gx.v
 obtain⟨as,na,ed,hv,hna⟩:=hn.get wk.p.nodup hp
 have hu:=iX hr
 have hu0:_<PySem.cLine:=au hu
 refine⟨_,(ik (iH (i:=3) sc.nd rfl (Or.inr rfl) (il ip (qv 0) (kZ k6 h9) (fun _ _=>rfl))) (ik (i7 (iV kA (il ip (qv 0) h9 (fun _ _=>rfl)) kE (iL _)) (iw (iG (jU (CpScope.of (N:=["place","last","paid_ties"]) (src:=[none,some 3,some 2]) (by rfl)) rfl (jg (kF hu (qv 1) (qv 3) (fun _ _=>rfl))) (fun _ _ _ _=>(iE (i:=0) (iS (l:=["place","last","paid_ties"]) (by rfl)) rfl (Or.inl rfl))) (fun _ _ _ _=>(k8 (vp (Ec hu (jw (h8 (qv 1) (h8 (qv 0) ic))) (qv 2))))) (fun _ _ _ _=>(jw (h8 kE (h8 (qv 1) (h8 (qv 0) ic)))))))) i8) (iw (iG (jU (CpScope.of (N:=["place","last"]) (src:=[none,some 3]) (by rfl)) rfl (jg (kF hu (qv 1) (qv 3) (fun _ _=>rfl))) (fun _ _ _ _=>(iE (i:=0) (iS (l:=["place","last"]) (by rfl)) rfl (Or.inl rfl))) (fun _ _ _ _=>kf) (fun _ _ _ _=>(jw (h8 kE (h8 (qv 1) (h8 (qv 0) ic)))))))))),?_⟩
 refine iz fun R hR=>?_
 simp_arith[ir,et,al]
 subst hR
 refine iz fun R hR=>?_
 simp_arith[ir,et,a0]
 have hwl:=wk.tl
 have hnl:=wR ts (iC x)
 by_cases c:w0=wB
 ·have c1:x.1=some wB:=by rw[ew,c]
  rw[af (show w0=Str.ofString "beside" from c)]
  walk_at "D"
  refine jx (i6 K na) H (fun R2 hR2=>?_) (fun z hz0=>ju (jv ts (iC x)).length (fun j σ' Hd=>∃w1 ws,σ'=[w1,some (.int (iC x)),some (.ref td)]/\Same H Hd/\Hd z=some (.lst ws)/\Lks Hd ws ((((jv ts (iC x)).take j).filter fun q=>kJ ds (iC x) q).map fun q=>(some wT,[iC x,q]))) ⟨none,[],rfl,iq hz0 _,ie,.nil⟩ ?_ ?_)
  ·unfold jc
   simp_arith[ed,hv]
   exact⟨na,rfl,⟨_,SqL.of hna⟩,hR2⟩
  ·rintro j σ' Hd hj ⟨w1,ws,rfl,s1,ez,pw⟩
   have hj0:(jv ts (iC x))[j]? =some (jv ts (iC x))[j]:=gE hj
   generalize (jv ts (iC x))[j]=q at hj0
   have hj1:((jv ts (iC x)).map V.int)[j]? =some (.int q):=by rw[aJ,hj0];rfl
   have z1:SqL K Hd na ((jv ts (iC x)).map V.int):=SqL.of (s1 _ _ hna)
   refine⟨⟨_,_,z1,hj1⟩,?_⟩
   rintro y H' ⟨rfl,hy⟩
   have:=hy _ z1
   rw[hj1]at this
   cases this
   simp only[tB,yc]
   walk_at "D"
   intro p1 hp1
   have q9:=iq hp1 (.tup [V.int (iC x),V.int q])
   have f9:upd H' p1 (.tup [V.int (iC x),V.int q]) p1=some (.tup (([Sum.inl (iC x),Sum.inl q]:List ij).map kV)):=ie
   generalize upd H' p1 (.tup [V.int (iC x),V.int q])=H9 at q9 f9
   have s9:=s1.trans q9
   walk_at "D"
   refine⟨td,_,rfl,DGet.t (s9 _ _ etd) f9,_,rfl,?_⟩
   rw[td1 (iC x) q,je hj0,cn,ah,cT,List.filter_nil]
   have hwl2:ws.length<=j:=by
    rw[ao pw,aa]
    refine br (bS _ _) ?_
    rw[aO]
    exact gY _ _
   cases c8:kJ ds (iC x) q with
   |true=>
    walk_at "D"
    intro p2 hp2
    have q10:=iq hp2 (.tup [.str (Str.ofString "tight"),V.int (iC x),V.int q])
    have ez10:=q10 _ _ (q9 _ _ ez)
    have t6:=kx (ys:=ws++[.ref p2]) ez10
    refine⟨ws,ez10,iM (by lia),_,ws++[.ref p2],rfl,iW (s9.trans q10) hz0,ie,?_⟩
    exact kg (Lks.tups (Lks.tups pw (q9.trans q10).tups) t6) ⟨p2,rfl,t6 _ _ rfl ie⟩
   |false=>
    walk_at "D"
    refine⟨_,ws,rfl,s9,q9 _ _ ez,?_⟩
    exact Lks.tups pw q9.tups
  rintro σ' H1 ⟨w1,ws,rfl,s1,ez,pw⟩
  refine⟨⟨_,SqL.of (s1 _ _ hna),by rw[aa];exact aF _⟩,?_⟩
  rw[aG]at pw
  refine h z ws H1 s1 hz0 ez ?_
  unfold kD
  rw[aH c1]
  exact pw
 ·rw[az (show ¬w0=Str.ofString "beside" from c)]
  have c1:¬x.1=some wB:=fun z=>c (aD (ew.symm.trans z))
  subst hR
  walk_at "D"
  refine jx (i6 K na) H (fun R2 hR2=>?_) (fun z hz0=>ju (jv ts (iC x)).length (fun j σ' Hd=>∃w1 ws,σ'=[w1,some (.int (iC x))]/\Same H Hd/\Hd z=some (.lst ws)/\Lks Hd ws (((jv ts (iC x)).take j).map fun q=>(some wB,[iC x,q]))) ⟨none,[],rfl,iq hz0 _,ie,.nil⟩ ?_ ?_)
  ·unfold jc
   simp_arith[ed,hv]
   exact⟨na,rfl,⟨_,SqL.of hna⟩,hR2⟩
  ·rintro j σ' Hd hj ⟨w1,ws,rfl,s1,ez,pw⟩
   have hj0:(jv ts (iC x))[j]? =some (jv ts (iC x))[j]:=gE hj
   generalize (jv ts (iC x))[j]=q at hj0
   have hj1:((jv ts (iC x)).map V.int)[j]? =some (.int q):=by rw[aJ,hj0];rfl
   have z1:SqL K Hd na ((jv ts (iC x)).map V.int):=SqL.of (s1 _ _ hna)
   refine⟨⟨_,_,z1,hj1⟩,?_⟩
   rintro y H' ⟨rfl,hy⟩
   have:=hy _ z1
   rw[hj1]at this
   cases this
   have hwl2:ws.length<=j:=by
    rw[ao pw,aa,aO]
    exact gY _ _
   walk_at "D"
   intro p2 hp2
   have q10:=iq hp2 (.tup [.str (Str.ofString "beside"),V.int (iC x),V.int q])
   have ez10:=q10 _ _ ez
   have t6:=kx (ys:=ws++[.ref p2]) ez10
   refine⟨ws,ez10,iM (by lia),_,ws++[.ref p2],rfl,iW (s1.trans q10) hz0,ie,?_⟩
   rw[je hj0,ah]
   exact kg (Lks.tups (Lks.tups pw q10.tups) t6) ⟨p2,rfl,t6 _ _ rfl ie⟩
  rintro σ' H1 ⟨w1,ws,rfl,s1,ez,pw⟩
  refine⟨⟨_,SqL.of (s1 _ _ hna),by rw[aa];exact aF _⟩,?_⟩
  rw[aG]at pw
  refine h z ws H1 s1 hz0 ez ?_
  unfold kD
  rw[aE c1]
  exact pw
theorem IX(B:Blt mg)(D:DefAt K mg "chain_for" (ig 49) ["web","dues"] f fd)(Dqp:DefAt K mg "nears_in" (ig 27) ["web"] fqp dqp)(Gqp:FnOk P w K mg base iu 1 fqp dqp ["web"] wY)(Dqq:DefAt K mg "tied_by_dues" (ig 43) ["dues"] fqq dqq)(Gqq:FnOk P w K mg base iu 1 fqq dqq ["dues"] vz)(Dqo:DefAt K mg "loose_places" (ig 42) ["web","dues"] fqo dqo)(Gqo:FnOk P w K mg base iu 2 fqo dqo ["web","dues"] vV)(Dqb:DefAt K mg "marked" (ig 11) ["places"] fqb dqb)(Gqb:FnOk P w K mg base iu 1 fqb dqb ["places"] qE)(Dzk:DefAt K mg "links_from" (ig 48) ["link","nears","paid_ties"] fzk dzk)(Gzk:FnOk P w K mg base iu 1 fzk dzk ["link","nears","paid_ties"] Ac):FnOk P w K mg base iu 3 f fd ["web","dues"] A0:=by
 have sc:FnScope ["web","dues","nears","paid_ties","chain","named","done","here","link"] ["web","dues"] (iN (ig 49)):=by walk_at "SC"
 refine D.F.ok sc (fun vs H Q E h=>?_) (fun cdv A outer s H vs Q E hr h=>?_)
 ·obtain⟨v,ps,ts,l,us,ds,rfl,_⟩:=h
  rfl
 obtain⟨v,ps,ts,l,us,ds,rfl,hw,wk,el,pu,hl,h⟩:=h
 have hpl:=wk.pl
 have hu:=iX hr
 have hu0:_<PySem.cLine:=au hu
 refine⟨_,(ik (iH (i:=2) sc.nd rfl (Or.inl rfl) (iF Gqp (hr.mono (by decide)) rfl Dqp.m Dqp.F.kp Dqp.b .nil iD (h8 (qv 0) ic))) (ik (iH (i:=3) sc.nd rfl (Or.inl rfl) (iF Gqq (hr.mono (by decide)) rfl Dqq.m Dqq.F.kp Dqq.b .nil iD (h8 (qv 1) ic))) (ik (mh (i:=4) sc.nd rfl (Or.inl rfl) (CpScope.of (N:=["place"]) (src:=[none]) (by rfl)) rfl (jg (iF Gqo (hr.mono (by decide)) rfl Dqo.m Dqo.F.kp Dqo.b .nil iD (h8 (qv 0) (h8 (qv 1) ic)))) (fun _ _ _ _=>(iE (i:=0) (iS (l:=["place"]) (by rfl)) rfl (Or.inl rfl))) (fun _ _ _ _=>kf) (fun _ _ _ _=>(jw (h8 kE (h8 (qv 0) ic))))) (ik (iH (i:=5) sc.nd rfl (Or.inl rfl) (iF Gqb (hr.mono (by decide)) rfl Dqb.m Dqb.F.kp Dqb.b .nil iD (h8 (jU (CpScope.of (N:=["link"]) (src:=[none]) (by rfl)) rfl (jg (qv 4)) (fun _ _ _ _=>(iE (i:=0) (iS (l:=["link"]) (by rfl)) rfl (Or.inl rfl))) (fun _ _ _ _=>kf) (fun _ _ _ _=>(il ip (qv 0) (kZ k6 h9) (fun _ _=>rfl)))) ic))) (ik (iH (i:=6) sc.nd rfl (Or.inl rfl) h9) (ik (tJ ba (iV mn (qv 6) (iU kc rfl B.len bu (h8 (qv 4) ic)) (iL _)) (ik (iH (i:=7) sc.nd rfl (Or.inl rfl) (il ip (qv 4) (qv 6) (fun _ _=>rfl))) (ik (j0 ba rfl (jg (iF Gzk (hr.mono (by decide)) rfl Dzk.m Dzk.F.kp Dzk.b .nil iD (h8 (qv 7) (h8 (qv 2) (h8 (qv 3) ic))))) (iE (i:=8) sc.nd rfl (Or.inl rfl)) (iw (i7 (oz (qK hu (il ip (qv 8) (kZ k6 h9) (fun _ _=>rfl)) (qv 5))) (ik (mx hu (qv 5) (il ip (qv 8) (kZ k6 h9) (fun _ _=>rfl)) jk) (iw (jV (kN aY bh bg kS (qv 4) (h8 (qv 8) ic))))) i8))) (iw (qp (i:=6) sc.nd rfl (Or.inl rfl) h9 sj))))) (iw (iG (qv 4))))))))),?_⟩
 refine iz fun R hR=>?_
 walk_at "D"
 refine⟨v,ps,ts,rfl,hw,wk,fun dn as H1 hd1 s1 ed1 la1 nr1=>?_⟩
 have nrA:NrAt H1 dn ps ts:=⟨as,ed1,la1,nr1⟩
 clear ed1 la1 nr1
 subst hR
 refine iz fun R hR=>?_
 walk_at "D"
 refine⟨l,us,ds,rfl,s1 _ _ el,jD s1.tups pu,hl,fun dt kt H2 s2 edt tdt=>?_⟩
 have s02:=s1.trans s2
 have nrB:=nrA.same s2
 clear nrA
 have lsl:=(nj ps ds).length_le
 rw[aa]at lsl
 subst hR
 refine iz fun R hR=>?_
 walk_at "D"
 refine Cq (ι:=Addr×Hp) (fun y=>i6 K y.1) (fun y=>y.2) (fun y=>Same H2 y.2/\y.2 y.1=some (.lst ((jB ps ds).map V.int))) (fun R2 hR2=>?_) ?_
 ·unfold jc
  walk_at "D"
  refine⟨v,ps,ts,l,us,ds,rfl,hw.same s02,wk,s02 _ _ el,jD s02.tups pu,hl,fun r H3 s3 er=>?_⟩
  exact⟨r,rfl,⟨_,SqL.of er⟩,hR2 (r,H3) ⟨s3,er⟩⟩
 rintro⟨r,H3⟩ ⟨s3,er⟩ ch hch
 dsimp only at s3 er hch ⊢
 refine ju (jB ps ds).length (fun j σ' Hd=>∃w1 ws,σ'=[w1]/\Same H3 Hd/\Hd ch=some (.lst ws)/\Lks Hd ws (((jB ps ds).take j).map fun q=>(some wL,[q]))) ⟨none,[],rfl,iq hch _,ie,.nil⟩ ?_ ?_
 ·rintro j σ' Hd hj ⟨w1,ws,rfl,s4,ez,pw⟩
  have hj0:(jB ps ds)[j]? =some (jB ps ds)[j]:=gE hj
  generalize (jB ps ds)[j]=q at hj0
  have hj1:((jB ps ds).map V.int)[j]? =some (.int q):=by rw[aJ,hj0];rfl
  have z1:SqL K Hd r ((jB ps ds).map V.int):=SqL.of (s4 _ _ er)
  refine⟨⟨_,_,z1,hj1⟩,?_⟩
  rintro y H' ⟨rfl,hy⟩
  have:=hy _ z1
  rw[hj1]at this
  cases this
  have hwl2:ws.length<=j:=by
   rw[ao pw,aa,aO]
   exact gY _ _
  walk_at "D"
  intro p2 hp2
  have q10:=iq hp2 (.tup [.str (Str.ofString "loose"),V.int q])
  have ez10:=q10 _ _ ez
  have t6:=kx (ys:=ws++[.ref p2]) ez10
  refine⟨ws,ez10,iM (by lia),_,ws++[.ref p2],rfl,iW (s4.trans q10) hch,ie,?_⟩
  rw[je hj0,ah]
  exact kg (Lks.tups (Lks.tups pw q10.tups) t6) ⟨p2,rfl,t6 _ _ rfl ie⟩
 rintro σ' H4 ⟨w1,ws,rfl,s4,ez,pw⟩
 refine⟨⟨_,SqL.of (s4 _ _ er),by rw[aa];exact aF _⟩,?_⟩
 rw[aG]at pw
 have C0:=ChI.zero (ds:=ds) wk
 have T0:ChT ps ts ds ((jB ps ds).map fun n=>((some wL,[n]):Lk)) 0:=fun d r=>r
 have B0:jN ps ts ds [] [] ((jB ps ds).map fun n=>((some wL,[n]):Lk))=true:=AG _ _ _ fun n h=>h
 generalize hc0:((jB ps ds).map fun n=>((some wL,[n]):Lk))=c0 at pw C0 T0 B0
 have hc0l:=C0.len
 have hwsl:=ao pw
 have s24:=s3.trans s4
 have hchH:H ch=none:=(s02.trans s3).free hch
 subst hR
 refine iz fun R hR=>?_
 walk_at "D"
 refine jx (i6 K ch) H4 (fun R2 hR2=>?_) (fun z hz0=>ju c0.length (fun j σ' Hd=>∃w1,σ'=[w1]/\Same H4 Hd/\Hd z=some (.lst (((c0.take j).map iC).map V.int))) ⟨none,rfl,iq hz0 _,ie⟩ ?_ ?_)
 ·unfold jc
  walk_at "D"
  exact⟨ch,rfl,⟨_,SqL.of ez⟩,hR2⟩
 ·rintro j σ' Hd hj ⟨w1,rfl,s5,ez5⟩
  have x1:c0[j]? =some c0[j]:=gE hj
  obtain⟨rv,hrv,prv⟩:=l6 pw x1
  obtain⟨ra,rfl,era⟩:=prv.tups s5.tups
  have z1:SqL K Hd ch ws:=SqL.of (s5 _ _ ez)
  refine⟨⟨_,_,z1,hrv⟩,?_⟩
  rintro y H' ⟨rfl,hy⟩
  have:=hy _ z1
  rw[hrv]at this
  cases this
  obtain⟨w0,ew,a0,al⟩:=(C0.good _ (cf hj)).v
  simp_arith[ir,era,al]
  refine⟨_,ez5,?_,_,rfl,iW s5 hz0,?_⟩
  ·rw[aa,aa,aO]
   exact iM (by lia)
  ·rw[ie,je x1,ah,ah]
   rfl
 rintro σ' H5 ⟨w1,rfl,s5,ez5⟩
 refine⟨⟨_,SqL.of (s5 _ _ ez),by lia⟩,?_⟩
 rw[aG]at ez5
 walk_at "D"
 refine⟨z,c0.map iC,rfl,ez5,C0.nd,by rw[aa];lia,fun dm H6 hdm s6 edm=>?_⟩
 have s46:=s5.trans s6
 have s26:=s24.trans s46
 have s06:=s02.trans s26
 have ndc:dm≠ch:=(iI (s5 _ _ ez) hdm).symm
 have hdmH:H dm=none:=((s02.trans s24).trans s5).free hdm
 have hdm2:H2 dm=none:=(s24.trans s5).free hdm
 have hch2:H2 ch=none:=s3.free hch
 have ech6:=s46 _ _ ez
 have pw6:=Lks.tups pw s46.tups
 clear ez ez5 hz0 s5 s46 pw
 subst hR
 refine iz fun R hR=>?_
 walk_at "D"
 subst hR
 refine iz fun R hR=>?_
 refine tP (fun σ Hc=>∃(k:Nat) (v7 v8:Option V) (ws:List V) (c:List Lk),σ=[some v,some (.ref l),some (.ref dn),some (.ref dt),some (.ref ch),some (.ref dm),some (.int (k:Int)),v7,v8]/\Same H2 Hc/\Hc ch=some (.lst ws)/\Lks Hc ws c/\Hc dm=some (.dK (jT (c.map iC)))/\ChI ps ts ds c k/\ChT ps ts ds c k/\jN ps ts ds [] [] c=true/\k<=c.length) (fun σ _=>match σ with |[_,_,_,_,_,_,some (.int k),_,_]=>ps.length-k.toNat|_=>0) ⟨0,none,none,ws,c0,rfl,s26,ech6,pw6,edm,C0,T0,B0,bM _⟩ ?_ ?_
 ·rintro σ Hc ⟨k,v7,v8,ws,c,rfl,s7,ech,pw,edm7,C,T,CB,hk⟩
  have hwl:=ao pw
  have hcl:=C.len
  by_cases c1:k<c.length
  ·have hdt:decide ((k:Int)<(ws.length:Int))=true:=af (by lia)
   have xk:c[k]? =some c[k]:=gE c1
   have hxm:=cf c1
   generalize c[k]=x at xk hxm
   obtain⟨rv,hrv,prv⟩:=l6 pw xk
   have aw:jb ws (k:Int)=some rv:=k7 hrv
   simp_arith[ir,ech,hdt,aw]
   refine B2 (ι:=Addr×List V×Hp) (fun y=>i6 K y.1) (fun y=>y.2.2) (fun y=>Same Hc y.2.2/\Hc y.1=none/\y.2.2 y.1=some (.lst y.2.1)/\Lks y.2.2 y.2.1 (kD ts ds x)) (fun R2 hR2=>?_) ?_
   ·unfold jc
    walk_at "D"
    refine⟨rv,dn,dt,ps,ts,ds,kt,x,rfl,prv,C.good x hxm,C.place x hxm,wk,nrB.same s7,s7 _ _ edt,tdt,fun lr zs H8 s8 hlr elr plr=>?_⟩
    exact⟨lr,rfl,⟨_,SqL.of elr⟩,hR2 (lr,zs,H8) ⟨s8,hlr,elr,plr⟩⟩
   rintro⟨lr,zs,H8⟩ ⟨s8,hlr,elr,plr⟩
   dsimp only at s8 hlr elr plr
   have hzl:=ao plr
   obtain⟨ck,hck⟩:∃ck,ck=c:=⟨c,rfl⟩
   have T2:=T.next xk
   rw [<- hck] at T2
   have nlc:lr≠ch:=(iI ech hlr).symm
   have nld:lr≠dm:=(iI edm7 hlr).symm
   refine lD (K:=K) (a:=lr) (xs:=zs) (fun i σ H9=>∃v8 ws c,σ=[some v,some (.ref l),some (.ref dn),some (.ref dt),some (.ref ch),some (.ref dm),some (.int (k:Int)),some rv,v8]/\Same H2 H9/\TupS H8 H9/\H9 lr=some (.lst zs)/\H9 ch=some (.lst ws)/\Lks H9 ws c/\H9 dm=some (.dK (jT (c.map iC)))/\ChI ps ts ds c k/\k<c.length/\c[k]? =some x/\c=lF ck ((kD ts ds x).take i)/\jN ps ts ds [] [] c=true/\∀(j:Nat) (y:Lk),j<i->(kD ts ds x)[j]? =some y->iC y∈c.map iC) ⟨v8,ws,c,rfl,s7.trans s8,TupS.refl _,elr,s8 _ _ ech,Lks.tups pw s8.tups,s8 _ _ edm7,C,c1,xk,by rw[hck];rfl,CB,fun j y hj=>absurd hj (Nat.not_lt_zero _)⟩ (fun i σ H9 _ ⟨v8,ws,c,_,_,_,e9,_⟩=>SqL.of e9) ?_ ?_
   ·rintro i y σ H9 hy ⟨v8,ws,c,rfl,s9,t9,elr9,ech9,pw9,edm9,C9,hk9,xk9,hA,CB9,hd9⟩
    obtain⟨q,hq,pq⟩:=jl plr hy
    have hA2:=Gs (c:=ck) hq
    rw [<- hA] at hA2
    obtain⟨tq,rfl,etq⟩:=pq.tups t9
    have hqm:=aA hq
    obtain⟨w0,ew,a0,al⟩:=(zP hqm).1.v
    have hcl9:=C9.len
    have hwl9:=ao pw9
    have hm:(iK (jT (c.map iC)) (Sum.inl (iC q):ij)).isSome=decide (iC q∈c.map iC):=qw _ _
    simp_arith[ir,etq,al,edm9,hm]
    by_cases c2:iC q∈c.map iC
    ·rw[af c2]
     walk_at "D"
     refine⟨_,ws,c,rfl,s9,t9,elr9,ech9,pw9,(by first|exact edm9|rfl),C9,hk9,xk9,by rw[hA2,aH c2],CB9,fun j y hj hy2=>?_⟩
     by_cases e:j=i
     ·subst e
      rw[hq]at hy2
      cases hy2
      exact c2
     ·exact hd9 j y (by lia) hy2
    ·rw[az c2]
     have hxm9:=aA xk9
     have C10:=C9.put wk (by lia) (aA xk9) hqm c2
     simp_arith[Ff c2]
     have hmc:(c++[q]).map iC=c.map iC++[iC q]:=by rw[ah];rfl
     have ech10:upd H9 dm (.dK (jT (c.map iC++[iC q]))) ch=some (.lst ws):=by rw[ix ndc.symm];exact ech9
     have t10:=FI (ys:=jT (c.map iC++[iC q])) edm9
     have t11:=kx (ys:=ws++[.ref tq]) ech10
     have t12:=t10.trans t11
     refine⟨by unfold jT;rw[aa,aa];exact iM (by lia),⟨ch,ws,rfl,ech10⟩,?_⟩
     rw[ech10]
     dsimp only
     refine⟨iM (by lia),_,ws++[.ref tq],c++[q],rfl,iW (iW s9 hdm2) hch2,t9.trans t12,by rw[ix nlc,ix nld];exact elr9,ie,kg (Lks.tups pw9 t12) ⟨tq,rfl,t12 _ _ rfl etq⟩,by rw[ix ndc,ie,hmc],C10,by rw[aK];lia,by rw[bx hk9];exact xk9,by rw[hA2,aE c2],by rw[wK,CB9,F9 hxm9 (C9.place _ hxm9) hqm (C10.place _ (bK _ (aU.mpr rfl)))];rfl,fun j y hj hy2=>?_⟩
     rw[hmc]
     by_cases e:j=i
     ·subst e
      rw[hq]at hy2
      cases hy2
      exact bK _ (aU.mpr rfl)
     ·exact dg _ (hd9 j y (by lia) hy2)
   ·rintro σ H9 ⟨v8,ws,c,rfl,s9,t9,elr9,ech9,pw9,edm9,C9,hk9,xk9,hA,CB9,hd9⟩
    rw[show(kD ts ds x).take zs.length=kD ts ds x from cY (by lia)]at hA
    rw [<- hA] at T2
    walk_at "D"
    refine⟨⟨k+1,_,_,ws,c,by rw[show((k+1:Nat):Int)=(k:Int)+1 by lia],s9,ech9,pw9,edm9,C9.next xk9 fun y hy=>?_,T2,CB9,hk9⟩,?_⟩
    ·obtain⟨j,hj⟩:=gg.mp hy
     exact hd9 j y (by rw[hzl];exact(aq.mp hj).1) hj
    ·have:=C9.len
     lia
  ·have hdt:decide ((k:Int)<(ws.length:Int))=false:=az (by lia)
   simp_arith[ir,ech,hdt]
   subst hR
   walk_at "D"
   have e:k=c.length:=by lia
   subst e
   exact h ch ws c Hc (s02.trans s7) hchH ech pw C ⟨T _ (.fin c),CB⟩
 ·intro σ Hc Q1 Q2 hq hc
  unfold fB nE pT qi oi kh at hc ⊢
  cases e:σ[6]? with
  |none=>rw[e]at hc;exact hc.elim
  | some ov=>
   rw[e]at hc
   cases ov with
   |none=>exact hc.elim
   | some u=>
    dsimp only[qU,fI,tC]at hc ⊢
    cases e3:σ[4]? with
    |none=>rw[e3]at hc;exact hc.elim
    | some ov3=>
     rw[e3]at hc
     cases ov3 with
     |none=>exact hc.elim
     | some u3=>
      dsimp only at hc ⊢
      cases u3 with
      | ref b=>
       dsimp only at hc ⊢
       cases e2:ir Hc b with
       |none=>rw[e2]at hc;exact hc.elim
       |some us=>
        rw[e2]at hc
        dsimp only at hc ⊢
        cases u with
        |int i=>exact hq _ _ hc
        |_=>exact hc.elim
      |_=>exact hc.elim
end
end My
namespace Fl
def uD(ns:List Int)(pr:Int->Int)(zs:List Tw)(fs:Int->Int)(SL SR:Int->Bool):Prop:=
 ∀(A B:Int->Prop),(∀p∈ns,fs p<pr p->A p)->(∀z∈zs,(A z.a->B z.b)/\(A z.b->B z.a))->(∀z∈zs,(0<z.x->B z.b->A z.a)/\(0<z.y->B z.a->A z.b))->∀p∈ns,(SL p=true->A p)/\(SR p=true->B p)
section
variable{ns:List Int}{ts:List (Int×Int)}{sp:Int->Int}{hs r:List Int}{wf:Int->List Nat}{pr:Int->Int}{cap:Nat->Int}
theorem DI(D:Dbl ns ts sp hs)(N:Net wf hs (arcs ns ts) (kq ns))(C:Caps ns ts pr cap)(R:Rooms (arcs ns ts) cap r)(hr:lh wf hs (kq ns) 0 1 r=none):
  uD ns pr (twS ns r ts) (mi sp r) (fun p=>mB wf hs (kq ns) r (sp p)) (fun p=>mB wf hs (kq ns) r (sp p+ns.length)):=fun A B a1 a2 a3=>by
 have hs0:(0:Int)<=0/\(0:Int)<(kq ns:Nat):=⟨cE _,by unfold kq;lia⟩
 have h1:(1:Int)∉(jG wf hs (kq ns) 0 r).map (·.1):=xQ N (by decide) hs0 hr
 have cam:Cam hs r (arcs ns ts) 0 (jG wf hs (kq ns) 0 r):=mS N.from' _
 unfold mB
 generalize jG wf hs (kq ns) 0 r=cb at h1 cam ⊢
 have inj:∀p∈ns,∀q∈ns,sp p=sp q->p=q:=fun p hp q hq e=>by
  obtain⟨k,hk,ek⟩:=bq.mp hq
  have hk':ns[k]? =some q:=by rw[gE hk,ek]
  exact(D.spI hk' hp).mp (by rw[e];exact D.spot k q hk')
 have key:∀(i:Nat) (v:Int) (o:Option Nat),cb[i]? =some (v,o)->(∀p∈ns,sp p=v->A p)/\(∀p∈ns,sp p+ns.length=v->B p):=by
  intro i
  induction i using Nat.strongRecOn with
  | ind i ih=>
   intro v o hi
   by_cases i0:i=0
   ·subst i0
    rw[cam.first]at hi
    cases hi
    exact⟨fun p hp e=>by have:=D.spB hp;lia,fun p hp e=>by have:=D.spB hp;lia⟩
   ·obtain⟨w,rfl,hw,hrw,hv,j,u,hj,hu,hm⟩:=cam.came i v o hi (by lia)
    have hv1:v ≠ 1:=fun e=>h1 (by rw [<- e]; exact av.mpr ⟨_,aA hi,rfl⟩)
    obtain⟨⟨u',o'⟩,hu2,hu3⟩:=eP.mp hu
    dsimp only at hu3
    subst hu3
    have hu1:u' ≠ 1:=fun e=>h1 (by rw [<- e]; exact av.mpr ⟨_,aA hu2,rfl⟩)
    obtain⟨iA,iB⟩:=ih j hj u' o' hu2
    unfold arcs at hw
    by_cases c1:w<2*ns.length
    ·obtain⟨k,hk⟩:∃k,w=2*k\/w=2*k+1:=⟨w/2,by lia⟩
     have kl:k<ns.length:=by lia
     obtain⟨s1,s2⟩:=D.src k kl
     rcases hk with rfl|rfl
     ·rw[s1]at hv
      refine⟨fun p hp e=>?_,fun p hp e=>by have:=D.spB hp;lia⟩
      have hk':ns[k]? =some ns[k]:=gE kl
      have e2:=(D.spI hk' hp).mp (by lia)
      have two:=R.two k (by unfold arcs;lia)
      rw[C.src k _ hk']at two
      refine a1 p hp ?_
      unfold mi
      rw[e2,D.spot k _ hk',show(2+(k:Int)-2).toNat=k by lia]
      lia
     ·rw[s2]at hv
      exact⟨fun p hp e=>by have:=D.spB hp;lia,fun p hp e=>by have:=D.spB hp;lia⟩
    ·by_cases c2:w<2*(ns.length+ns.length)
     ·obtain⟨k,hk⟩:∃k,w=2*(ns.length+k)\/w=2*(ns.length+k)+1:=⟨w/2-ns.length,by lia⟩
      obtain⟨s1,s2⟩:=D.snk k (by lia)
      rcases hk with rfl|rfl
      ·exact absurd (hv.symm.trans s1) hv1
      ·rw[show iP (2*(ns.length+k)+1)=2*(ns.length+k) by unfold iP;rw[aE (by lia)];lia]at hm
       exact absurd (hm.symm.trans s1) hu1
     ·obtain⟨k,hk⟩:∃k,w=2*(ns.length+ns.length+2*k)\/w=2*(ns.length+ns.length+2*k)+1\/w=2*(ns.length+ns.length+(2*k+1))\/w=2*(ns.length+ns.length+(2*k+1))+1:=⟨(w/2-(ns.length+ns.length))/2,by lia⟩
      have kl:k<ts.length:=by lia
      have ht:=getD_at kl
      obtain⟨⟨t1,t2⟩,t3,t4⟩:=D.tie k _ ht
      obtain⟨m1,m2⟩:=D.ends _ (aA ht)
      have hz:twAt ns r ts k∈twS ns r ts:=av.mpr ⟨k,bI.mpr kl,rfl⟩
      have z2:=a2 _ hz
      have z3:=a3 _ hz
      unfold twAt at z2 z3
      dsimp only at z2 z3
      have b1:=D.spB m1
      have b2:=D.spB m2
      rcases hk with rfl|rfl|rfl|rfl
      ·rw[show iP (2*(ns.length+ns.length+2*k))=2*(ns.length+ns.length+2*k)+1 by unfold iP;rw[aH (by lia)]]at hm
       have q:=z2.1 (iA _ m1 (t2.symm.trans hm))
       refine⟨fun p hp e=>by have:=D.spB hp;lia,fun p hp e=>?_⟩
       rw[inj p hp _ m2 (by lia)]
       exact q
      ·rw[show iP (2*(ns.length+ns.length+2*k)+1)=2*(ns.length+ns.length+2*k) by unfold iP;rw[aE (by lia)];lia]at hm
       have q:=z3.1 hrw (iB _ m2 (t1.symm.trans hm))
       refine⟨fun p hp e=>?_,fun p hp e=>by have:=D.spB hp;lia⟩
       rw[inj p hp _ m1 (by lia)]
       exact q
      ·rw[show iP (2*(ns.length+ns.length+(2*k+1)))=2*(ns.length+ns.length+(2*k+1))+1 by unfold iP;rw[aH (by lia)]]at hm
       have q:=z2.2 (iA _ m2 (t4.symm.trans hm))
       refine⟨fun p hp e=>by have:=D.spB hp;lia,fun p hp e=>?_⟩
       rw[inj p hp _ m1 (by lia)]
       exact q
      ·rw[show iP (2*(ns.length+ns.length+(2*k+1))+1)=2*(ns.length+ns.length+(2*k+1)) by unfold iP;rw[aE (by lia)];lia]at hm
       have q:=z3.2 hrw (iB _ m1 (t3.symm.trans hm))
       refine⟨fun p hp e=>?_,fun p hp e=>by have:=D.spB hp;lia⟩
       rw[inj p hp _ m2 (by lia)]
       exact q
 intro p hp
 simp only[bE]
 refine⟨fun h=>?_,fun h=>?_⟩
 all_goals
  obtain⟨⟨v,o⟩,hm,e⟩:=av.mp h
  obtain⟨i,hi⟩:=gg.mp hm
 ·exact(key i v o hi).1 p hp e.symm
 ·exact(key i v o hi).2 p hp e.symm
end
section
variable{ns:List Int}{pr:Int->Int}{zs:List Tw}{fs ft:Int->Int}{SL SR:Int->Bool}
theorem oF{α:Type}{f:α->Int}:∀{l:List α},(∀p∈l,0<=f p)->0<=(l.map f).sum
 |[],_=>cE _
 |a::l,h=>by
  rw[ai,List.sum_cons]
  have:=h a (aZ ..)
  have:=oF (f:=f) (l:=l) fun p hp=>h p (aP _ hp)
  lia
theorem Full.gap(F:Full ns pr zs fs ft SL SR)(y:Int->Int):(ns.map fun p=>y p*(2*pr p-(fs p+ft p))).sum+(zs.map fun z=>(z.x+z.y)*(y z.a+y z.b-2)).sum=2*(ns.map fun p=>pr p*y p).sum-2*(ns.map fun p=>pr p*kH SL SR p).sum:=by
 have e1:(ns.map fun p=>y p*(2*pr p-(fs p+ft p))).sum+((ns.map fun p=>y p*kB zs p).sum+(ns.map fun p=>y p*inR zs p).sum)=(ns.map fun p=>pr p*y p).sum+(ns.map fun p=>pr p*y p).sum:=by
  rw [<- lC,<- lC,<- lC]
  refine j4 fun p hp=>?_
  rw [<- F.left p hp,<- F.right p hp,Int.mul_sub,eJ,dh (pr p),<- Int.mul_assoc,dh (y p) 2,Int.mul_assoc]
  lia
 have e2:(zs.map fun z=>(z.x+z.y)*(y z.a+y z.b-2)).sum+((zs.map fun z=>z.x+z.y).sum+(zs.map fun z=>z.x+z.y).sum)=(zs.map fun z=>y z.a*z.x+y z.b*z.y).sum+(zs.map fun z=>y z.b*z.x+y z.a*z.y).sum:=by
  rw [<- lC,<- lC,<- lC]
  refine j4 fun z _=>?_
  rw[Int.mul_sub,eJ,Int.add_mul,Int.add_mul,dh z.x,dh z.y,dh z.x,dh z.y]
  lia
 rw[tf y F.nd F.ends,vB y F.nd F.ends]at e1
 rw[F.worth]at e2
 lia
theorem Full.nnP(F:Full ns pr zs fs ft SL SR){y:Int->Int}(y0:∀p∈ns,0<=y p):∀p∈ns,0<=y p*(2*pr p-(fs p+ft p)):=fun p hp=>by
 have a:=F.capL p hp
 have b:=F.capR p hp
 exact hV (y0 p hp) (by lia)
theorem Full.nnZ(F:Full ns pr zs fs ft SL SR){y:Int->Int}(y2:∀z∈zs,2<=y z.a+y z.b):∀z∈zs,0<=(z.x+z.y)*(y z.a+y z.b-2):=fun z hz=>by
 have a:=F.pos z hz
 have b:=y2 z hz
 exact hV (by lia) (by lia)
theorem Full.least(F:Full ns pr zs fs ft SL SR){y:Int->Int}(y0:∀p∈ns,0<=y p)(y2:∀z∈zs,2<=y z.a+y z.b):(ns.map fun p=>pr p*kH SL SR p).sum<=(ns.map fun p=>pr p*y p).sum:=by
 have g:=F.gap y
 have a:=oF (F.nnP y0)
 have b:=oF (F.nnZ y2)
 lia
theorem sY{a b:Int}(h:a*b<=0)(ha:0<=a)(hb:0<b):a=0:=by
 by_cases c:a=0
 ·exact c
 ·have:=Int.mul_pos (show 0<a by lia) hb
  lia
theorem Full.agree(F:Full ns pr zs fs ft SL SR)(W:uD ns pr zs fs SL SR){y:Int->Int}(y0:∀p∈ns,0<=y p/\y p<=2)(y2:∀z∈zs,2<=y z.a+y z.b)(hc:(ns.map fun p=>pr p*y p).sum<=(ns.map fun p=>pr p*kH SL SR p).sum):∀p∈ns,(SL p=true->y p=0)/\(SR p=true->y p=2):=by
 have g:=F.gap y
 have n1:=F.nnP fun p hp=>(y0 p hp).1
 have n2:=F.nnZ y2
 have s1:=oF n1
 have s2:=oF n2
 have l1:=mW n1
 have l2:=mW n2
 refine W (fun p=>y p=0) (fun p=>y p=2) (fun p hp h=>?_) (fun z hz=>?_) (fun z hz=>?_)
 ·have a:=F.capR p hp
  have:=l1 p hp
  exact sY (b:=2*pr p-(fs p+ft p)) (by lia) (y0 p hp).1 (by lia)
 ·obtain⟨i1,i2⟩:=F.ends z hz
  have:=y0 _ i1
  have:=y0 _ i2
  have:=y2 z hz
  exact⟨fun h=>by lia,fun h=>by lia⟩
 ·have:=l2 z hz
  have hp:=F.pos z hz
  have h2:=y2 z hz
  refine⟨fun h h3=>?_,fun h h3=>?_⟩
  all_goals
   have q:=sY (a:=y z.a+y z.b-2) (b:=z.x+z.y) (by rw[dh];lia) (by lia) (by lia)
   lia
theorem Full.fixed(F:Full ns pr zs fs ft SL SR)(W:uD ns pr zs fs SL SR){y:Int->Int}(y0:∀p∈ns,0<=y p/\y p<=2)(y2:∀z∈zs,2<=y z.a+y z.b)(hc:(ns.map fun p=>pr p*y p).sum<=(ns.map fun p=>pr p*kH SL SR p).sum):∀p∈ns,kH SL SR p≠1->y p=kH SL SR p:=fun p hp h=>by
 obtain⟨a,b⟩:=F.agree W y0 y2 hc p hp
 unfold kH at h ⊢
 cases e1:SL p<;>cases e2:SR p<;>rw[e1,e2]at h
 ·exact absurd rfl h
 ·rw[b e2];rfl
 ·rw[a e1];rfl
 ·exact absurd rfl h
end
end Fl
namespace Fl
section
variable{ns:List Int}{pr:Int->Int}{zs:List Tw}{fs ft:Int->Int}{SL SR:Int->Bool}
theorem Full.paid_eq(F:Full ns pr zs fs ft SL SR){p:Int}(hp:p∈ns):(zs.map fun z=>iR z.a p (z.x+z.y)+iR z.b p (z.x+z.y)).sum=fs p+ft p:=by
 rw[F.left p hp,F.right p hp]
 unfold kB inR
 rw [<- lC]
 refine j4 fun z _=>?_
 unfold iR
 split<;>split<;>lia
theorem Full.slack(F:Full ns pr zs fs ft SL SR){y:Int->Int}(y0:∀p∈ns,0<=y p)(y2:∀z∈zs,2<=y z.a+y z.b)(hc:(ns.map fun p=>pr p*y p).sum<=(ns.map fun p=>pr p*kH SL SR p).sum):(∀p∈ns,fs p+ft p<2*pr p->y p=0)/\∀z∈zs,0<z.x+z.y->y z.a+y z.b=2:=by
 have g:=F.gap y
 have n1:=F.nnP y0
 have n2:=F.nnZ y2
 have s1:=oF n1
 have s2:=oF n2
 have l1:=mW n1
 have l2:=mW n2
 refine⟨fun p hp h=>?_,fun z hz h=>?_⟩
 ·have:=l1 p hp
  exact sY (b:=2*pr p-(fs p+ft p)) (by lia) (y0 p hp) (by lia)
 ·have:=l2 z hz
  have h2:=y2 z hz
  have q:=sY (a:=y z.a+y z.b-2) (b:=z.x+z.y) (by rw[dh];lia) (by lia) h
  lia
theorem Full.tight(F:Full ns pr zs fs ft SL SR){y:Int->Int}(h1:∀p∈ns,y p=0\/fs p+ft p=2*pr p)(h2:∀z∈zs,z.x+z.y=0\/y z.a+y z.b=2):(ns.map fun p=>pr p*y p).sum=(ns.map fun p=>pr p*kH SL SR p).sum:=by
 have g:=F.gap y
 have a:(ns.map fun p=>y p*(2*pr p-(fs p+ft p))).sum=0:=by
  rw[j4 (g:=fun _=>0) fun p hp=>?_,ml]
  rcases h1 p hp with h|h
  ·rw[h,Int.zero_mul]
  ·rw[h,Int.sub_self,fq]
 have b:(zs.map fun z=>(z.x+z.y)*(y z.a+y z.b-2)).sum=0:=by
  rw[j4 (g:=fun _=>0) fun z hz=>?_,ml]
  rcases h2 z hz with h|h
  ·rw[h,Int.zero_mul]
  ·rw[h,Int.sub_self,fq]
 lia
end
end Fl
namespace My
open PySem L2
section
variable{P:Program}{w:World}{K:PySem.W.Frag}{mg:Str->Option Value}{base:Heap}{c1 c2 c3 c4:Tok}{C_NoWeb fqk:Addr}{dI:FuncData}
theorem DJ{ps ts:List (Int×Int)}{r:List Int}(wk:WebOk ps ts)(h:Rst ps ts r):Fl.uD (ps.map (·.1)) (ko ps) (Fl.twS (ps.map (·.1)) r ts) (Fl.mi (jA ps) r) (oh ps ts r) (og ps ts r):=by
 have hl:(ps.map (·.1)).length=ps.length:=aa _
 have e1:(jC ps ts).length=Fl.arcs (ps.map (·.1)) ts:=by rw[tR];unfold Fl.arcs;rw[hl]
 have e2:mK ps=Fl.kq (ps.map (·.1)):=by unfold mK Fl.kq;rw[hl]
 have D:Fl.Dbl (ps.map (·.1)) ts (jA ps) (Fl.jr (jC ps ts)):=Fl.C1 wk.p.nodup (fun i p hp=>sk wk hp) (ng wk)
 have C:Fl.Caps (ps.map (·.1)) ts (ko ps) (Fl.ma (jC ps ts)):=Fl.C5 (nW wk) fun p hp=>by
  have h0:∀q∈ps,0<=q.2:=fun q hq=>by have:=wk.p.pos q hq;lia
  have:=Fl.mW (f:=fun q:Int×Int=>q.2) h0 p hp
  unfold lI
  lia
 obtain⟨rm,bal⟩:=h.rooms wk
 have N:=uN wk
 have en:=h.end_
 rw[e1]at rm bal N
 rw[e2]at N en
 have F:=Fl.DI D N C rm en
 rw[hl]at F
 unfold oh og n5
 rw[e2]
 exact F
theorem rW{ps ts:List (Int×Int)}{r:List Int}:∀z∈Fl.twS (ps.map (·.1)) r ts,(z.a,z.b)∈ts:=fun z hz=>by
 unfold Fl.twS at hz
 obtain⟨j,hj,rfl⟩:=av.mp hz
 exact aA (Fl.getD_at (bI.mp hj))
theorem nU{ps ts:List (Int×Int)}(wk:WebOk ps ts)(y:Int->Int):((ps.map (·.1)).map fun n=>ko ps n*y n).sum=(ps.map fun p=>p.2*y p.1).sum:=by
 rw[bw]
 exact Fl.j4 fun p hp=>by show ko ps p.1*_=_;rw[nW wk p hp]
noncomputable def nI(ps:List (Int×Int))(y:Int->Int):Int:=(ps.map fun p=>p.2*y p.1).sum
structure Cov(ps ts:List (Int×Int))(y:Int->Int):Prop where
 b:∀p∈ps,0<=y p.1/\y p.1<=2
 t:∀t∈ts,2<=y t.1+y t.2
theorem wc{ps ts:List (Int×Int)}{r:List Int}(wk:WebOk ps ts)(h:Rst ps ts r):Cov ps ts (kU ps ts r):=by
 refine⟨fun p _=>Fl.CL p.1,fun t ht=>?_⟩
 have F:=nQ wk h
 have hz:t∈(lS ps ts r).map (fun d=>(d.1,d.2.1)):=by rw[uf];exact ht
 obtain⟨d,hd,rfl⟩:=av.mp hz
 obtain⟨z,hz2,rfl⟩:=av.mp hd
 exact F.two z hz2
theorem B4{ps ts:List (Int×Int)}{r:List Int}(wk:WebOk ps ts)(h:Rst ps ts r){y:Int->Int}(c:Cov ps ts y):nI ps (kU ps ts r)<=nI ps y:=by
 have:=(nQ wk h).least (y:=y) (fun n hn=>by obtain⟨p,hp,rfl⟩:=av.mp hn;exact(c.b p hp).1) fun z hz=>c.t _ (rW z hz)
 rw[nU wk,nU wk]at this
 exact this
theorem Iu{ps ts:List (Int×Int)}{r:List Int}(wk:WebOk ps ts)(h:Rst ps ts r){y:Int->Int}(c:Cov ps ts y)(hc:nI ps y<=nI ps (kU ps ts r)):∀p∈ps,kU ps ts r p.1≠1->y p.1=kU ps ts r p.1:=fun p hp=>by
 refine(nQ wk h).fixed (DJ wk h) (fun n hn=>by obtain⟨p,hp,rfl⟩:=av.mp hn;exact c.b p hp) (fun z hz=>c.t _ (rW z hz)) ?_ p.1 (av.mpr ⟨p,hp,rfl⟩)
 rw[nU wk,nU wk]
 exact hc
structure Best(ps ts:List (Int×Int))(y:Int->Int):Prop where
 c:Cov ps ts y
 m:∀y',Cov ps ts y'->nI ps y<=nI ps y'
theorem tS{ps ts:List (Int×Int)}{r:List Int}(wk:WebOk ps ts)(h:Rst ps ts r):Best ps ts (kU ps ts r):=⟨wc wk h,fun _ c=>B4 wk h c⟩
section
variable{ps ts:List (Int×Int)}{r:List Int}
theorem wX(wk:WebOk ps ts)(h:Rst ps ts r){p:Int×Int}(hp:p∈ps):iZ (jt ps ts r) p.1=Fl.mi (jA ps) r p.1+Fl.nu (ps.map (·.1)) (jA ps) r p.1:=by
 have F:=nQ wk h
 have nn:∀d∈lS ps ts r,0<=d.2.2:=fun d hd=>by
  obtain⟨z,hz,rfl⟩:=av.mp hd
  have:=F.pos z hz
  dsimp only
  lia
 rw[o8,wW nn]
 have:=F.paid_eq (av.mpr ⟨p,hp,rfl⟩)
 unfold iZ lS
 rw[bw]
 exact this
theorem xg(wk:WebOk ps ts)(h:Rst ps ts r){y:Int->Int}(b:Best ps ts y):(∀p∈ps,iZ (jt ps ts r) p.1<2*p.2->y p.1=0)/\∀d∈jt ps ts r,y d.1+y d.2.1=2:=by
 have F:=nQ wk h
 have hc:=b.m _ (wc wk h)
 obtain⟨s1,s2⟩:=F.slack (y:=y) (fun n hn=>by obtain⟨p,hp,rfl⟩:=av.mp hn;exact(b.c.b p hp).1) (fun z hz=>b.c.t _ (rW z hz)) (by rw[nU wk,nU wk];exact hc)
 refine⟨fun p hp hl=>?_,fun d hd=>?_⟩
 ·rw[wX wk h hp]at hl
  exact s1 p.1 (av.mpr ⟨p,hp,rfl⟩) (by rw[nW wk p hp];exact hl)
 ·rw[o8]at hd
  obtain⟨h1,h2⟩:=bG.mp hd
  obtain⟨z,hz,rfl⟩:=av.mp h1
  exact s2 z hz (bp h2)
theorem A8{ds:List (Int×Int×Int)}{a b:Int}(h:kJ ds a b=true):∃d∈ds,(d.1=a/\d.2.1=b)\/(d.1=b/\d.2.1=a):=by
 obtain⟨d,hd,e⟩:=dZ.mp h
 refine⟨d,hd,?_⟩
 simpa using e
theorem Gp{ds:List (Int×Int×Int)}{d:Int×Int×Int}(h:d∈ds):kJ ds d.1 d.2.1=true/\kJ ds d.2.1 d.1=true:=⟨dZ.mpr ⟨d,h,by simp⟩,dZ.mpr ⟨d,h,by simp⟩⟩
def jO(c:List Lk):List Int:=(c.filter fun x=>decide (x.1=some wB)).map iC
def jR(c:List Lk):List Int:=(c.filter fun x=>!decide (x.1=some wB)).map iC
theorem tF{c:List Lk}{n:Int}:n∈jO c↔∃x∈c,x.1=some wB/\iC x=n:=by
 unfold jO
 rw[av]
 constructor
 ·rintro⟨x,hx,e⟩
  have:=bG.mp hx
  exact⟨x,this.1,bp this.2,e⟩
 ·rintro⟨x,hx,h1,e⟩
  exact⟨x,bG.mpr ⟨hx,af h1⟩,e⟩
theorem uc{c:List Lk}{n:Int}:n∈jR c↔∃x∈c,x.1≠some wB/\iC x=n:=by
 unfold jR
 rw[av]
 constructor
 ·rintro⟨x,hx,e⟩
  have:=bG.mp hx
  exact⟨x,this.1,by simpa using this.2,e⟩
 ·rintro⟨x,hx,h1,e⟩
  exact⟨x,bG.mpr ⟨hx,by simpa using h1⟩,e⟩
theorem wq{c:List Lk}{n:Int}(h:n∈c.map iC):n∈jO c\/n∈jR c:=by
 obtain⟨x,hx,e⟩:=av.mp h
 by_cases q:x.1=some wB
 ·exact .inl (tF.mpr ⟨x,hx,q,e⟩)
 ·exact .inr (uc.mpr ⟨x,hx,q,e⟩)
theorem Am(wk:WebOk ps ts):∀t∈ts,t.1<t.2:=fun t ht=>(TiOk.in wk.t t ht).1
theorem Fg(wk:WebOk ps ts){n q:Int}(h:q∈jv ts n):n∈ps.map (·.1)/\q∈ps.map (·.1):=by
 rcases ua h with t|t
 ·exact ng wk _ t
 ·exact(ng wk _ t).symm
variable{c:List Lk}
theorem B8(wk:WebOk ps ts)(h:Rst ps ts r)(C:ChI ps ts (jt ps ts r) c c.length){y:Int->Int}(b:Best ps ts y):(∀n∈jO c,y n=2)/\∀n∈jR c,y n=0:=by
 obtain⟨s1,s2⟩:=xg wk h b
 have bd:∀n∈ps.map (·.1),0<=y n/\y n<=2:=fun n hn=>by obtain⟨p,hp,rfl⟩:=av.mp hn;exact b.c.b p hp
 have sy:=C.sound (fun n=>y n=0) (fun n=>y n=2) (fun n hn=>?_) (fun n q hq h0=>?_) (fun n q hq ht h2=>?_)
 ·refine⟨fun n hn=>?_,fun n hn=>?_⟩
  ·obtain⟨x,hx,e,rfl⟩:=tF.mp hn
   exact(sy x hx).1 e
  ·obtain⟨x,hx,e,rfl⟩:=uc.mp hn
   exact(sy x hx).2 e
 ·obtain⟨p,hp,rfl⟩:=av.mp hn
  have:=bG.mp hp
  exact s1 p this.1 (bp this.2)
 ·have hb:=bd q (Fg wk hq).2
  rcases ua hq with t|t
  ·have:=b.c.t _ t
   dsimp only at this h0 ⊢
   lia
  ·have:=b.c.t _ t
   dsimp only at this h0 ⊢
   lia
 ·obtain⟨d,hd,e⟩:=A8 ht
  have:=s2 d hd
  rcases e with⟨e1,e2⟩|⟨e1,e2⟩
  ·rw[e1,e2]at this
   lia
  ·rw[e1,e2]at this
   lia
noncomputable def hC(c:List Lk)(n:Int):Int:=if n∈jO c then 2 else if n∈jR c then 0 else 1
theorem Hs(wk:WebOk ps ts)(h:Rst ps ts r)(C:ChI ps ts (jt ps ts r) c c.length):Best ps ts (hC c):=by
 have F:=nQ wk h
 obtain⟨i2,o0⟩:=B8 wk h C (tS wk h)
 have dis:∀n,n∈jO c->n∉jR c:=fun n h1 h2=>by
  have:=i2 n h1
  have:=o0 n h2
  lia
 have close:∀x∈c,∀y∈kD ts (jt ps ts r) x,iC y∈c.map iC:=fun x hx y hy=>by
  obtain⟨i,hi⟩:=gg.mp hx
  exact C.done i x (aq.mp hi).1 hi y hy
 have out_in:∀n q,q∈jv ts n->n∈jR c->q∈jO c:=fun n q hq hn=>by
  obtain⟨x,hx,e,rfl⟩:=uc.mp hn
  have:=close x hx (some wB,[iC x,q]) (by unfold kD;rw[aE e];exact av.mpr ⟨q,hq,rfl⟩)
  rcases wq this with z|z
  ·exact z
  ·have a1:=o0 _ hn
   have a2:=o0 _ z
   have ct:=(wc wk h).t
   change kU ps ts r q=0 at a2
   rcases ua hq with t|t
   ·have:=ct _ t
    dsimp only at this
    lia
   ·have:=ct _ t
    dsimp only at this
    lia
 have in_out:∀n q,q∈jv ts n->kJ (jt ps ts r) n q=true->n∈jO c->q∈jR c:=fun n q hq ht hn=>by
  obtain⟨x,hx,e,rfl⟩:=tF.mp hn
  have:=close x hx (some wT,[iC x,q]) (by unfold kD;rw[aH e];exact av.mpr ⟨q,bG.mpr ⟨hq,ht⟩,rfl⟩)
  rcases wq this with z|z
  ·have a1:=i2 _ hn
   have a2:=i2 _ z
   change kU ps ts r q=2 at a2
   obtain⟨d,hd,e⟩:=A8 ht
   have:=(xg wk h (tS wk h)).2 d hd
   rcases e with⟨e1,e2⟩|⟨e1,e2⟩
   ·rw[e1,e2]at this
    lia
   ·rw[e1,e2]at this
    lia
  ·exact z
 have hv:∀n,(n∈jO c/\hC c n=2)\/(n∉jO c/\n∈jR c/\hC c n=0)\/(n∉jO c/\n∉jR c/\hC c n=1):=fun n=>by
  unfold hC
  by_cases c1:n∈jO c
  ·exact .inl ⟨c1,aH c1⟩
  ·by_cases c2:n∈jR c
   ·exact .inr (.inl ⟨c1,c2,by rw[aE c1,aH c2]⟩)
   ·exact .inr (.inr ⟨c1,c2,by rw[aE c1,aE c2]⟩)
 have cv:Cov ps ts (hC c):=by
  refine⟨fun p _=>?_,fun t ht=>?_⟩
  ·rcases hv p.1 with⟨_,e⟩|⟨_,_,e⟩|⟨_,_,e⟩<;>lia
  ·obtain⟨n1,n2⟩:=AL (Am wk) (a:=t.1) (b:=t.2) ht
   rcases hv t.1 with⟨_,e⟩|⟨_,e1,e⟩|⟨_,_,e⟩<;>rcases hv t.2 with⟨f1,f⟩|⟨f1,f2,f⟩|⟨f1,f2,f⟩
   all_goals first
    |lia
    |exact absurd (out_in _ _ n1 e1) f1
    |(exfalso;rename_i g1 g2;exact g1 (out_in _ _ n2 f2))
 refine⟨cv,fun y' c'=>?_⟩
 have e:=F.tight (y:=hC c) (fun n hn=>?_) (fun z hz=>?_)
 ·rw[nU wk,nU wk]at e
  have:=B4 wk h c'
  unfold nI kU at this
  unfold nI
  lia
 ·obtain⟨p,hp,rfl⟩:=av.mp hn
  rw [<- wX wk h hp,nW wk p hp]
  by_cases q:iZ (jt ps ts r) p.1<2*p.2
  ·have hl:p.1∈jB ps (jt ps ts r):=av.mpr ⟨p,bG.mpr ⟨hp,af q⟩,rfl⟩
   have z0:=(xg wk h (tS wk h)).1 p hp q
   rcases hv p.1 with⟨e1,e⟩|⟨_,e1,e⟩|⟨e1,e2,e⟩
   ·have:=i2 _ e1
    lia
   ·exact .inl e
   ·rcases wq (C.start _ hl)with z|z
    ·exact absurd z e1
    ·exact absurd z e2
  ·right
   have:=F.paid (av.mpr ⟨p,hp,rfl⟩)
   rw [F.paid_eq (av.mpr ⟨p,hp,rfl⟩),<- wX wk h hp,nW wk p hp] at this
   lia
 ·by_cases q:z.x+z.y=0
  ·exact .inl q
  ·right
   have hp:=F.pos z hz
   have hd:(z.a,z.b,z.x+z.y)∈jt ps ts r:=by
    rw[o8]
    exact bG.mpr ⟨av.mpr ⟨z,hz,rfl⟩,af (by show z.x+z.y>0;lia)⟩
   obtain⟨t1,t2⟩:=Gp hd
   obtain⟨n1,n2⟩:=AL (Am wk) (rW z hz)
   dsimp only at t1 t2
   rcases hv z.a with⟨e1,e⟩|⟨e1,e2,e⟩|⟨e1,e2,e⟩
   ·rcases hv z.b with⟨f1,f⟩|⟨f1,f2,f⟩|⟨f1,f2,f⟩
    ·exact absurd (in_out _ _ n1 t1 e1) (dis _ f1)
    ·lia
    ·exact absurd (in_out _ _ n1 t1 e1) f2
   ·rcases hv z.b with⟨f1,f⟩|⟨f1,f2,f⟩|⟨f1,f2,f⟩
    ·lia
    ·exact absurd (out_in _ _ n1 e2) f1
    ·exact absurd (out_in _ _ n1 e2) f1
   ·rcases hv z.b with⟨f1,f⟩|⟨f1,f2,f⟩|⟨f1,f2,f⟩
    ·exact absurd (in_out _ _ n2 t2 f1) e2
    ·exact absurd (out_in _ _ n2 f2) e1
    ·lia
theorem FP(wk:WebOk ps ts)(h:Rst ps ts r)(C:ChI ps ts (jt ps ts r) c c.length){D:Int->Int}(b:Best ps ts D)(u:∀y,Best ps ts y->∀p∈ps,D p.1≠1->y p.1=D p.1):∀p∈ps,(p.1∈jO c↔D p.1=2)/\(p.1∈jR c↔D p.1=0):=fun p hp=>by
 obtain⟨i2,o0⟩:=B8 wk h C b
 have cb:=Hs wk h C
 have key:=u _ cb p hp
 unfold hC at key
 refine⟨⟨fun z=>i2 _ z,fun z=>?_⟩,⟨fun z=>o0 _ z,fun z=>?_⟩⟩
 ·have k:=key (by lia)
  by_cases c1:p.1∈jO c
  ·exact c1
  ·rw[aE c1]at k
   split at k<;>lia
 ·have k:=key (by lia)
  by_cases c1:p.1∈jO c
  ·rw[aH c1]at k
   lia
  ·rw[aE c1]at k
   by_cases c2:p.1∈jR c
   ·exact c2
   ·rw[aE c2]at k
    lia
end
end
end My
namespace My
open PySem L2
section
variable{P:Program}{w:World}{K:PySem.W.Frag}{mg:Str->Option Value}{base:Heap}{c1 c2 c3 c4 e1 e2 e3:Tok}{C_NoWeb fqk:Addr}{dI:FuncData}
theorem Bo{c:List Lk}{i:Nat}{x:Lk}(h:c[i]? =some x):jO (c.take (i+1))=jO (c.take i)++(if decide (x.1=some wB)=true then[iC x]else[]):=by
 unfold jO
 rw[je h,cn,ah]
 congr 1
 rw[cT]
 split<;>simp
theorem BV{c:List Lk}{i:Nat}{x:Lk}(h:c[i]? =some x):jR (c.take (i+1))=jR (c.take i)++(if decide (x.1=some wB)=true then[]else[iC x]):=by
 unfold jR
 rw[je h,cn,ah]
 congr 1
 rw[cT]
 by_cases q:x.1=some wB
 ·rw[af q];rfl
 ·rw[az q];rfl
theorem qG(c:List Lk)(i:Nat):(jO (c.take i)).length<=c.length:=by
 unfold jO
 rw[aa]
 refine br (bS _ _) ?_
 rw[aO]
 exact fL _ _
theorem ub(c:List Lk)(i:Nat):(jR (c.take i)).length<=c.length:=by
 unfold jR
 rw[aa]
 refine br (bS _ _) ?_
 rw[aO]
 exact fL _ _
theorem zH{c:List Lk}(h:(c.map iC).Nodup):(jO c).Nodup:=(gR _ eD).nodup h
theorem AN{c:List Lk}(h:(c.map iC).Nodup):(jR c).Nodup:=(gR _ eD).nodup h
theorem AJ(ns:List Int):(jT ns).map (·.1)=ns.map Sum.inl:=by unfold jT;rw[bw];rfl
def mE(ms ns:List Int):Prop:=ms.Perm ns/\ms.Pairwise (·<=·)
def vv:Sp:=fun vs H Q _=>∃c xs ls,vs=[.ref c]/\H c=some (.lst xs)/\Lks H xs ls/\(∀x∈ls,jig x)/\(ls.map iC).Nodup/\ls.length<=40/\∀t a b ms ns H',Same H H'->H a=none->H b=none->a≠b->H' t=some (.tup [.ref a,.ref b])->H' a=some (.lst (ms.map V.int))->H' b=some (.lst (ns.map V.int))->mE ms (jO ls)->mE ns (jR ls)->Q (.ref t) H'
def vw:Sp:=fun vs H Q _=>∃v ps ts,vs=[v]/\jbz H v ps ts/\WebOk ps ts/\ps.length<=30/\∀t l1 l2 l3 zs us ws r c H',Same H H'->H' t=some (.tup [.ref l1,.ref l2,.ref l3])->H' l1=some (.lst zs)->H' l2=some (.lst us)->H' l3=some (.lst ws)->H l1=none->H l2=none->H l3=none->l1≠l2->l1≠l3->l2≠l3->Rst ps ts r->Prs H' zs (jL ps ts r)->jP H' us (jt ps ts r)->Lks H' ws c->ChI ps ts (jt ps ts r) c c.length->uG ps ts (jt ps ts r) c->Q (.ref t) H'
def zf:Sp:=fun vs H Q _=>∃v ps ts,vs=[v]/\jbz H v ps ts/\WebOk ps ts/\ps.length<=30/\∀t a b ms ns r c H',Same H H'->H a=none->H b=none->a≠b->H' t=some (.tup [.ref a,.ref b])->H' a=some (.lst (ms.map V.int))->H' b=some (.lst (ns.map V.int))->Rst ps ts r->ChI ps ts (jt ps ts r) c c.length->uG ps ts (jt ps ts r) c->mE ms (jO c)->mE ns (jR c)->Q (.ref t) H'
theorem vL(ps ts:List (Int×Int))(r:List Int):(jt ps ts r).length<=ts.length:=by
 unfold jt nB
 refine br (bS _ _) ?_
 rw[aa,bU]
 exact aF _
theorem IF(B:Blt mg)(D:DefAt K mg "fixed_by" (ig 47) ["chain"] f fd)(Dqb:DefAt K mg "marked" (ig 11) ["places"] fqb dqb)(Gqb:FnOk P w K mg base iu 1 fqb dqb ["places"] qE):FnOk P w K mg base iu 2 f fd ["chain"] vv:=by
 have sc:FnScope ["chain","ins","outs"] ["chain"] (iN (ig 47)):=by walk_at "SC"
 refine D.F.ok sc (fun vs H Q E h=>?_) (fun cdv A outer s H vs Q E hr h=>?_)
 ·obtain⟨c,xs,ls,rfl,_⟩:=h
  rfl
 obtain⟨c,xs,ls,rfl,ec,pl,gd,nd,hl,h⟩:=h
 have hlx:=ao pl
 have hu:=iX hr
 have hu0:_<PySem.cLine:=au hu
 refine⟨_,(ik (iH (i:=1) sc.nd rfl (Or.inl rfl) (iF Gqb (hr.mono (by decide)) rfl Dqb.m Dqb.F.kp Dqb.b .nil iD (h8 (jU (CpScope.of (N:=["link"]) (src:=[none]) (by rfl)) rfl (jg (qv 0)) (fun _ _ _ _=>(iE (i:=0) (iS (l:=["link"]) (by rfl)) rfl (Or.inl rfl))) (fun _ _ _ _=>(k8 (iV kA (il ip (qv 0) h9 (fun _ _=>rfl)) kE (iL _)))) (fun _ _ _ _=>(il ip (qv 0) (kZ k6 h9) (fun _ _=>rfl)))) ic))) (ik (iH (i:=2) sc.nd rfl (Or.inl rfl) (iF Gqb (hr.mono (by decide)) rfl Dqb.m Dqb.F.kp Dqb.b .nil iD (h8 (jU (CpScope.of (N:=["link"]) (src:=[none]) (by rfl)) rfl (jg (qv 0)) (fun _ _ _ _=>(iE (i:=0) (iS (l:=["link"]) (by rfl)) rfl (Or.inl rfl))) (fun _ _ _ _=>(k8 (iV mm (il ip (qv 0) h9 (fun _ _=>rfl)) kE (iL _)))) (fun _ _ _ _=>(il ip (qv 0) (kZ k6 h9) (fun _ _=>rfl)))) ic))) (iw (iG (jw (h8 (iU (xa rfl) rfl B.sorted dj (h8 (qv 1) ic)) (h8 (iU (xa rfl) rfl B.sorted dj (h8 (qv 2) ic)) ic))))))),?_⟩
 walk_at "D"
 refine jx (i6 K c) H (fun R hR=>?_) (fun l1 hl1=>ju ls.length (fun i σ' Hc=>∃w1,σ'=[w1]/\Same H Hc/\Hc l1=some (.lst ((jO (ls.take i)).map V.int))) ⟨none,rfl,iq hl1 _,ie⟩ ?_ ?_)
 ·unfold jc
  walk_at "D"
  exact⟨c,rfl,⟨_,SqL.of ec⟩,hR⟩
 ·rintro k σ' Hc hk ⟨w1,rfl,s4,ez⟩
  have x1:ls[k]? =some ls[k]:=gE hk
  obtain⟨rv,hrv,prv⟩:=l6 pl x1
  obtain⟨ra,rfl,era⟩:=prv.tups s4.tups
  have z1:SqL K Hc c xs:=SqL.of (s4 _ _ ec)
  refine⟨⟨_,_,z1,hrv⟩,?_⟩
  rintro y H' ⟨rfl,hy⟩
  have:=hy _ z1
  rw[hrv]at this
  cases this
  obtain⟨w0,ew,a0,al⟩:=(gd _ (cf hk)).v
  have ed:decide (w0=Str.ofString "beside")=decide (ls[k].1=some wB):=by
   rw[ew]
   by_cases q:w0=wB
   ·rw[af (show w0=Str.ofString "beside" from q),af (by rw[q])]
   ·rw[az (show ¬w0=Str.ofString "beside" from q),az (fun z=>q (aD z))]
  simp_arith[ir,era,a0,al]
  rw[ed,Bo x1]
  cases cq:decide (ls[k].1=some wB)with
  | true=>
   walk_at "D"
   refine⟨_,ez,?_,_,rfl,iW s4 hl1,?_⟩
   ·rw[aa]
    have:=qG ls k
    exact iM (by lia)
   ·rw[ie,ah]
    rfl
  |false=>
   walk_at "D"
   exact⟨_,rfl,s4,ez⟩
 rintro σ' H1 ⟨w1,rfl,s1,e1⟩
 refine⟨⟨_,SqL.of (s1 _ _ ec),by lia⟩,?_⟩
 rw[aG]at e1
 have n1:=qG ls ls.length
 rw[aG]at n1
 walk_at "D"
 refine⟨l1,jO ls,rfl,e1,zH nd,by lia,fun d1 H2 hd1 s2 ed1=>?_⟩
 walk_at "D"
 have ec2:=(s1.trans s2) _ _ ec
 have pl2:=Lks.tups pl (s1.trans s2).tups
 refine jx (i6 K c) H2 (fun R hR=>?_) (fun l3 hl3=>ju ls.length (fun i σ' Hc=>∃w1,σ'=[w1]/\Same H2 Hc/\Hc l3=some (.lst ((jR (ls.take i)).map V.int))) ⟨none,rfl,iq hl3 _,ie⟩ ?_ ?_)
 ·unfold jc
  walk_at "D"
  exact⟨c,rfl,⟨_,SqL.of ec2⟩,hR⟩
 ·rintro k σ' Hc hk ⟨w1,rfl,s4,ez⟩
  have x1:ls[k]? =some ls[k]:=gE hk
  obtain⟨rv,hrv,prv⟩:=l6 pl2 x1
  obtain⟨ra,rfl,era⟩:=prv.tups s4.tups
  have z1:SqL K Hc c xs:=SqL.of (s4 _ _ ec2)
  refine⟨⟨_,_,z1,hrv⟩,?_⟩
  rintro y H' ⟨rfl,hy⟩
  have:=hy _ z1
  rw[hrv]at this
  cases this
  obtain⟨w0,ew,a0,al⟩:=(gd _ (cf hk)).v
  have ed:decide (w0=Str.ofString "beside")=decide (ls[k].1=some wB):=by
   rw[ew]
   by_cases q:w0=wB
   ·rw[af (show w0=Str.ofString "beside" from q),af (by rw[q])]
   ·rw[az (show ¬w0=Str.ofString "beside" from q),az (fun z=>q (aD z))]
  simp_arith[ir,era,a0,al]
  rw[ed,BV x1]
  cases cq:decide (ls[k].1=some wB)with
  |true=>
   walk_at "D"
   exact⟨_,rfl,s4,ez⟩
  | false=>
   walk_at "D"
   refine⟨_,ez,?_,_,rfl,iW s4 hl3,?_⟩
   ·rw[aa]
    have:=ub ls k
    exact iM (by lia)
   ·rw[ie,ah]
    rfl
 rintro σ' H3 ⟨w1,rfl,s3,e3⟩
 refine⟨⟨_,SqL.of (s3 _ _ ec2),by lia⟩,?_⟩
 rw[aG]at e3
 have n3:=ub ls ls.length
 rw[aG]at n3
 walk_at "D"
 refine⟨l3,jR ls,rfl,e3,AN nd,by lia,fun d3 H4 hd3 s4 ed3=>?_⟩
 walk_at "D"
 refine⟨d1,jT (jO ls),jO ls,rfl,(s3.trans s4) _ _ ed1,AJ _,by lia,fun a ms ha p1 q1=>?_⟩
 have s5:=iq ha (.lst (ms.map V.int))
 have ea5:upd H4 a (.lst (ms.map V.int)) a=some (.lst (ms.map V.int)):=ie
 have ed5:=s5 _ _ ed3
 generalize upd H4 a (.lst (ms.map V.int))=H5 at s5 ea5 ed5
 refine⟨d3,jT (jR ls),jR ls,rfl,ed5,AJ _,by lia,fun b ns hb p2 q2=>?_⟩
 have s6:=iq hb (.lst (ns.map V.int))
 have eb6:upd H5 b (.lst (ns.map V.int)) b=some (.lst (ns.map V.int)):=ie
 have hab:a≠b:=iI ea5 hb
 generalize upd H5 b (.lst (ns.map V.int))=H6 at s6 eb6
 walk_at "D"
 intro t ht
 have s7:=iq ht (.tup [.ref a,.ref b])
 have s04:=(s1.trans s2).trans (s3.trans s4)
 exact h t a b ms ns _ (s04.trans (s5.trans (s6.trans s7))) (s04.free ha) ((s04.trans s5).free hb) hab ie (s7 _ _ (s6 _ _ ea5)) (s7 _ _ eb6) ⟨p1,q1⟩ ⟨p2,q2⟩
theorem Jt(B:Blt mg)(D:DefAt K mg "fixed_paper" (ig 50) ["web"] f fd)(Dqg:DefAt K mg "look_at_web" (ig 24) ["thing"] fqg dqg)(Gqg:FnOk P w K mg base iu 5 fqg dqg ["thing"] ud)(Dqr:DefAt K mg "told_paper" (ig 38) ["web"] fqr dqr)(Gqr:FnOk P w K mg base iu 6 fqr dqr ["web"] qr)(Dqy:DefAt K mg "chain_for" (ig 49) ["web","dues"] fqy dqy)(Gqy:FnOk P w K mg base iu 3 fqy dqy ["web","dues"] A0):FnOk P w K mg base iu 7 f fd ["web"] vw:=by
 have sc:FnScope ["web","paper"] ["web"] (iN (ig 50)):=by walk_at "SC"
 refine D.F.ok sc (fun vs H Q E h=>?_) (fun cdv A outer s H vs Q E hr h=>?_)
 ·obtain⟨v,ps,ts,rfl,_⟩:=h
  rfl
 obtain⟨v,ps,ts,rfl,hw,wk,h30,h⟩:=h
 have hu:=iX hr
 have hu0:_<PySem.cLine:=au hu
 refine⟨_,(ik (jV (iF Gqg (hr.mono (by decide)) rfl Dqg.m Dqg.F.kp Dqg.b .nil iD (h8 (qv 0) ic))) (ik (iH (i:=1) sc.nd rfl (Or.inl rfl) (iF Gqr (hr.mono (by decide)) rfl Dqr.m Dqr.F.kp Dqr.b .nil iD (h8 (qv 0) ic))) (iw (iG (jw (h8 (il ip (qv 1) h9 (fun _ _=>rfl)) (h8 (il ip (qv 1) h9 (fun _ _=>rfl)) (h8 (iF Gqy (hr.mono (by decide)) rfl Dqy.m Dqy.F.kp Dqy.b .nil iD (h8 (qv 0) (h8 (il ip (qv 1) h9 (fun _ _=>rfl)) ic))) ic)))))))),?_⟩
 walk_at "D"
 refine⟨v,ps,ts,rfl,hw,wk,fun H1 s1=>?_⟩
 walk_at "D"
 refine⟨v,ps,ts,rfl,hw.same s1,wk,h30,fun t l1 l2 zs us r H2 s2 et e1 e2 n0 n1 n2 nn rst pz pu=>?_⟩
 simp_arith[ir,et,iJ,iT]
 have hdl:=vL ps ts r
 have htl:=wk.tl
 have s02:=s1.trans s2
 refine⟨v,ps,ts,l2,us,jt ps ts r,rfl,hw.same s02,wk,e2,pu,by lia,fun rc ws c H3 s3 hrc erc plk C CD=>?_⟩
 walk_at "D"
 intro t4 ht4
 have s4:=iq ht4 (.tup [.ref l1,.ref l2,.ref rc])
 have s24:=s3.trans s4
 exact h t4 l1 l2 rc zs us ws r c _ (s02.trans s24) ie (s24 _ _ e1) (s24 _ _ e2) (s4 _ _ erc) (s1.free n1) (s1.free n2) (s02.free hrc) nn (iI e1 hrc) (iI e2 hrc) rst (Prs.same s24 pz) (jD s24.tups pu) (Lks.tups plk s4.tups) C CD
theorem IG(B:Blt mg)(D:DefAt K mg "fixed_of" (ig 51) ["web"] f fd)(Dqi:DefAt K mg "fixed_paper" (ig 50) ["web"] fqi dqi)(Gqi:FnOk P w K mg base iu 7 fqi dqi ["web"] vw)(Dqm:DefAt K mg "fixed_by" (ig 47) ["chain"] fqm dqm)(Gqm:FnOk P w K mg base iu 2 fqm dqm ["chain"] vv):FnOk P w K mg base iu 8 f fd ["web"] zf:=by
 have sc:FnScope ["web"] ["web"] (iN (ig 51)):=by walk_at "SC"
 refine D.F.ok sc (fun vs H Q E h=>?_) (fun cdv A outer s H vs Q E hr h=>?_)
 ·obtain⟨v,ps,ts,rfl,_⟩:=h
  rfl
 obtain⟨v,ps,ts,rfl,hw,wk,h30,h⟩:=h
 have hu:=iX hr
 have hu0:_<PySem.cLine:=au hu
 refine⟨_,(iw (iG (iF Gqm (hr.mono (by decide)) rfl Dqm.m Dqm.F.kp Dqm.b .nil iD (h8 (il ip (iF Gqi (hr.mono (by decide)) rfl Dqi.m Dqi.F.kp Dqi.b .nil iD (h8 (qv 0) ic)) h9 (fun _ _=>rfl)) ic)))),?_⟩
 walk_at "D"
 refine⟨v,ps,ts,rfl,hw,wk,h30,fun t l1 l2 l3 zs us ws r c H1 s1 et e1 e2 e3 _ _ _ _ _ _ rst pz pu plk C CD=>?_⟩
 simp_arith[ir,et,ki]
 have:=C.len
 have:=wk.pl
 exact⟨l3,ws,c,rfl,e3,plk,C.good,C.nd,by lia,fun t a b ms ns H2 s2 ha hb hab et2 ea eb r1 r2=>h t a b ms ns r c H2 (s1.trans s2) (s1.free ha) (s1.free hb) hab et2 ea eb rst C CD r1 r2⟩
end
end My
namespace My
open PySem L2
section
variable{P:Program}{w:World}{K:PySem.W.Frag}{mg:Str->Option Value}{base:Heap}{c1 c2 c3 c4:Tok}
theorem Dr.pl:∀{ps:List (Int×Int)} {l s:Int},Dr l ps->l+23*ps.length<=999->s+1000000000*ps.length<=1000000000000->PlOk l s ps
 |[],_,_,_,_,_=>trivial
 |p::r,l,s,h,h1,h2=>by
  have e:((p::r).length:Int)=r.length+1:=by simp
  rw[e]at h1 h2
  obtain⟨⟨a1,a2,a3,a4⟩,h3⟩:=h
  exact⟨⟨a1,by lia,a3,by lia⟩,Dr.pl h3 (by lia) (by lia)⟩
theorem Dr.gt:∀{ps:List (Int×Int)} {l:Int},Dr l ps->∀p∈ps,l<p.1
 |[],_,_,_,h=>by cases h
 | q::r,l,h,p,hp=>by
  rcases aR.mp hp with e|hp
  ·rw[e];exact h.1.1
  ·have:=Dr.gt h.2 p hp
   have:=h.1.1
   lia
theorem Dr.rise:∀{ps:List (Int×Int)} {l:Int},Dr l ps->∀(i j:Nat) (p q:Int×Int),i<j->ps[i]? =some p->ps[j]? =some q->p.1<q.1
 |[],_,_,i,j,p,q,_,h,_=>by simp at h
 | r::rs,l,h,i,j,p,q,hij,hi,hj=>by
  cases j with
  |zero=>lia
  | succ j=>
   have hj':rs[j]? =some q:=by simpa using hj
   cases i with
   |zero=>
    have e:r=p:=by simpa using hi
    subst e
    exact Dr.gt h.2 q (aA hj')
   |succ i=>exact Dr.rise h.2 i j p q (by lia) (by simpa using hi) hj'
def nN(q:Int×Int):List (Int×Int)->Int×Int
 |[]=>q
 |p::r=>nN p r
theorem BS:∀{ts:List (Int×Int)} {q p:Int×Int},nN q (ts++[p])=p
 |[],_,_=>rfl
 |t::r,_,_=>BS (ts:=r)
theorem TiOk.snoc{kvs:List (ij×V)}:∀{ts:List (Int×Int)} {q p:Int×Int},TiOk kvs q ts->(HT.lexLt [(nN q ts).1,(nN q ts).2] [p.1,p.2]=true/\p.1<p.2/\ja kvs p.1=true/\ja kvs p.2=true)->TiOk kvs q (ts++[p])
 |[],_,_,_,h=>⟨h,trivial⟩
 |t::r,_,_,h,h2=>⟨h.1,TiOk.snoc h.2 h2⟩
theorem PlOk.rise:∀{ps:List (Int×Int)} {l s:Int},PlOk l s ps->∀(i j:Nat) (p q:Int×Int),i<j->ps[i]? =some p->ps[j]? =some q->p.1<q.1
 |[],_,_,_,i,j,p,q,_,h,_=>by simp at h
 | r::rs,l,s,h,i,j,p,q,hij,hi,hj=>by
  cases j with
  |zero=>lia
  | succ j=>
   have hj':rs[j]? =some q:=by simpa using hj
   cases i with
   |zero=>
    have e:r=p:=by simpa using hi
    subst e
    exact PlOk.gt h.2 q (aA hj')
   |succ i=>exact PlOk.rise h.2 i j p q (by lia) (by simpa using hi) hj'
theorem r8{H:Hp}{a st:Addr}{xs:List V}{ps:List (Int×Int)}{o:HO}(ha:H a=some (.lst xs))(pp:Prs H xs ps)(hs:H st=some o)(so:StO o):a≠st:=by
 intro z
 obtain⟨c,s,f,e,_⟩:=so
 rw[z,hs,e]at ha
 cases ha
 cases pp with
 |cons r _=>obtain⟨t,e,_⟩:=r;cases e
theorem jbz.but{H H':Hp}{st:Addr}{o:HO}{v:V}{ps ts:List (Int×Int)}(h:jbz H v ps ts)(hs:H st=some o)(so:StO o)(b:But st H H'):jbz H' v ps ts:=by
 obtain⟨u,pa,ta,xs,ys,e,h1,h2,h3,h4,h5⟩:=h
 have t:=b.tups hs so.imm
 exact⟨u,pa,ta,xs,ys,e,t _ _ rfl h1,b _ _ (r8 h2 h4 hs so) h2,b _ _ (r8 h3 h5 hs so) h3,Prs.tups t h4,Prs.tups t h5⟩
noncomputable def pQ(n:Nat):Nat->Nat
 |0=>0
 |k+1=>pQ n k+(n-(k+1))
theorem Dm:∀n,n<=15->∀k,k<=15->pQ n k<=105:=by decide
theorem FH:∀n,n<=15->pQ n n<=105:=by decide
def zr:Sp:=fun vs H Q _=>∃s o m,vs=[.ref s,.int m]/\H s=some o/\StO o/\0<=m/\m<=15/\
 ∀v H' o' ps ts,But s H H'->H' s=some o'->StO o'->jbz H' v ps ts->WebOk ps ts->Dr (-1) ps->(ps.length:Int)<=m->ts.length<=105->Q v H'
theorem yO{ps:List (Int×Int)}(hn:(ps.map (·.1)).Nodup){i:Nat}{p:Int×Int}(h:ps[i]? =some p):ja (i5 ps) p.1=true:=zG hn (aA h)
theorem Ij(B:Blt mg)(D:DefAt K mg "_law_web" (ig 57) ["_law_state","_law_most"] f fd)(Dqc:DefAt K mg "_law_take" (ig 55) ["_law_state","_law_many"] fqc dqc)(Gqc:FnOk P w K mg base iu 1 fqc dqc ["_law_state","_law_many"] sm)(Dzf:DefAt K mg "_law_places" (ig 56) ["_law_state","_law_count"] fzf dzf)(Gzf:FnOk P w K mg base iu 2 fzf dzf ["_law_state","_law_count"] A5):FnOk P w K mg base iu 3 f fd ["_law_state","_law_most"] zr:=by
 have sc:FnScope ["_law_state","_law_most","_law_count","_law_places_here","_law_dense","_law_ties","_law_k","_law_j"] ["_law_state","_law_most"] (iN (ig 57)):=by walk_at "SC"
 refine D.F.ok sc (fun vs H Q E h=>?_) (fun cdv A outer s H vs Q E hr h=>?_)
 ·obtain⟨s,o,m,rfl,_⟩:=h
  rfl
 obtain⟨st,o,m,rfl,es,so,m0,m1,h⟩:=h
 have hu:=iX hr
 have hu0:_<PySem.cLine:=au hu
 refine⟨_,(ik (iH (i:=2) sc.nd rfl (Or.inl rfl) (iF Gqc (hr.mono (by decide)) rfl Dqc.m Dqc.F.kp Dqc.b .nil iD (h8 (qv 0) (h8 (iQ jM (qv 1) h9) ic)))) (ik (iH (i:=3) sc.nd rfl (Or.inl rfl) (iF Gzf (hr.mono (by decide)) rfl Dzf.m Dzf.F.kp Dzf.b .nil iD (h8 (qv 0) (h8 (qv 2) ic)))) (ik (iH (i:=4) sc.nd rfl (Or.inl rfl) (iQ jM h9 (iF Gqc (hr.mono (by decide)) rfl Dqc.m Dqc.F.kp Dqc.b .nil iD (h8 (qv 0) (h8 h9 ic))))) (ik (iH (i:=5) sc.nd rfl (Or.inl rfl) (kL ic)) (ik (j0 ba rfl (oO rfl B.range (h8 (qv 2) ic)) (iE (i:=6) sc.nd rfl (Or.inl rfl)) (iw (j0 ba rfl (G8 rfl B.range (h8 (iQ jM (qv 6) h9) (h8 (qv 2) ic))) (iE (i:=7) sc.nd rfl (Or.inl rfl)) (iw (i7 (iV mn (iF Gqc (hr.mono (by decide)) rfl Dqc.m Dqc.F.kp Dqc.b .nil iD (h8 (qv 0) (h8 h9 ic))) (qv 4) (iL _)) (iw (jV (kN aY bh bg kS (qv 5) (h8 (jw (h8 (il ip (il ip (qv 3) (qv 6) (fun _ _=>rfl)) h9 (fun _ _=>rfl)) (h8 (il ip (il ip (qv 3) (qv 7) (fun _ _=>rfl)) h9 (fun _ _=>rfl)) ic))) ic)))) i8))))) (iw (iG (jw (h8 (qv 3) (h8 (qv 5) ic)))))))))),?_⟩
 walk_at "D"
 refine⟨st,o,m+1,rfl,es,so,by lia,by lia,fun n o1 n0 n1 so1=>?_⟩
 walk_at "D"
 refine⟨st,o1,n,rfl,ie,so1,n0,by lia,fun r HA oA xs ps hr0 bA eA soA er pp hlen dr=>?_⟩
 walk_at "D"
 refine⟨st,oA,4,rfl,eA,soA,by decide,by decide,fun dn oB d0 d1 soB=>?_⟩
 have nr:r≠st:=fun z=>by rw[z,ie]at hr0;cases hr0
 have hr1:H r = none:=by rw [<- hr0,ix nr]
 have bB:But st H (upd HA st oB):=((But.at st H o1).trans bA).trans (But.at st HA oB)
 have tB:TupS HA (upd HA st oB):=(But.at st HA oB).tups eA soA.imm
 have erB:upd HA st oB r=some (.lst xs):=by rw[ix nr];exact er
 have eB:upd HA st oB st=some oB:=ie
 have pB:Prs (upd HA st oB) xs ps:=Prs.tups tB pp
 generalize upd HA st oB=HB at bB erB eB pB
 clear tB pp er eA bA soA
 have hpl:ps.length<=15:=by lia
 have plok:=dr.pl (s:=0) (by lia) (by lia)
 have hnd:=plok.nodup
 have hlx:xs.length=ps.length:=ao pB
 have rise:=dr.rise
 walk_at "D"
 intro tl htl
 have ntl:tl≠st:=(iI eB htl).symm
 have nrt:r≠tl:=iI erB htl
 have htl0:H tl=none:=by
  cases q:H tl with
  |none=>rfl
  |some u=>rw[bB _ _ ntl q]at htl;cases htl
 refine ky (lO 0 ps.length) (upd HB tl (.lst [])) (fun R hR=>?_) (oN (n:=ps.length) (fun k σ H1=>∃kk jj zs ts o',σ=[some (.ref st),some (.int m),some (.int n),some (.ref r),some (.int (1+dn)),some (.ref tl),kk,jj]/\But st H H1/\H1 st=some o'/\StO o'/\H1 r=some (.lst xs)/\Prs H1 xs ps/\H1 tl=some (.lst zs)/\Prs H1 zs ts/\TiOk (i5 ps) (-1,-1) ts/\(∀(j:Nat) (p:Int×Int),k<=j->ps[j]? =some p->(nN (-1,-1) ts).1<p.1)/\ts.length<=pQ ps.length k) ?_ ?_ ?_)
 ·unfold oo
  walk_at "D"
  exact ⟨n,rfl,by lia,by lia,by rw [<- hlen]; exact hR⟩
 ·refine⟨none,none,[],[],oB,rfl,bB.trans (But.new htl),by rw[ix ntl.symm];exact eB,soB,by rw[ix nrt];exact erB,Prs.tups (tN htl) pB,ie,.nil,trivial,fun j p _ hp=>?_,by simp⟩
  have:=dr.gt p (aA hp)
  exact this
 ·rintro k σ H1 hk ⟨kk,jj,zs,ts,o',rfl,b1,e1,so',er1,pp1,etl,pz,tok,hlast,htn⟩
  obtain⟨lt0,hlt0⟩:∃n:Nat,n=ts.length:=⟨_,rfl⟩
  have htr:=Dm ps.length (by lia) k (by lia)
  rw [<- hlt0] at htn
  have xk:ps[k]? =some ps[k]:=gE hk
  generalize ps[k]=pk at xk
  walk_at "D"
  refine ky (lO (0+(k:Int)+1) (ps.length-(k+1))) H1 (fun R hR=>?_) (oN (n:=ps.length-(k+1)) (fun i σ H2=>∃jj zs ts o',σ=[some (.ref st),some (.int m),some (.int n),some (.ref r),some (.int (1+dn)),some (.ref tl),some (.int (0+(k:Int))),jj]/\But st H H2/\H2 st=some o'/\StO o'/\H2 r=some (.lst xs)/\Prs H2 xs ps/\H2 tl=some (.lst zs)/\Prs H2 zs ts/\TiOk (i5 ps) (-1,-1) ts/\((nN (-1,-1) ts).1<pk.1\/((nN (-1,-1) ts).1=pk.1/\∀(j:Nat) (p:Int×Int),k+1+i<=j->ps[j]? =some p->(nN (-1,-1) ts).2<p.1))/\ts.length<=lt0+i) ?_ ?_ ?_)
  ·unfold CK
   walk_at "D"
   refine⟨_,_,rfl,⟨by lia,by lia,by lia,by lia⟩,?_⟩
   have e:(n-(0+(k:Int)+1)).toNat=ps.length-(k+1):=by lia
   rw[e]
   exact hR
  ·exact⟨jj,zs,ts,o',rfl,b1,e1,so',er1,pp1,etl,pz,tok,.inl (hlast k pk (aF _) xk),by lia⟩
  ·rintro i σ H2 hi ⟨jj2,zs2,ts2,o2,rfl,b2,e2,so2,er2,pp2,etl2,pz2,tok2,hl2,htn2⟩
   have hj:k+1+i<ps.length:=by lia
   have xj:ps[k+1+i]? =some ps[k+1+i]:=gE hj
   generalize ps[k+1+i]=pj at xj
   have hkj:=rise k (k+1+i) pk pj (by lia) xk xj
   walk_at "D"
   refine⟨st,o2,5,rfl,e2,so2,by decide,by decide,fun d3 o3 d30 d31 so3=>?_⟩
   have b3:But st H2 (upd H2 st o3):=But.at _ _ _
   have t3:TupS H2 (upd H2 st o3):=b3.tups e2 so2.imm
   have er3:=b3 _ _ nr er2
   have etl3:=b3 _ _ ntl etl2
   have e3:upd H2 st o3 st=some o3:=ie
   generalize upd H2 st o3=H3 at b3 t3 er3 etl3 e3
   walk_at "D"
   refine mO (fun c=>?_) (fun c=>?_)
   ·obtain⟨uk,gk,hgk⟩:=l6 pp2 xk
    obtain⟨uj,gj,hgj⟩:=l6 pp2 xj
    obtain⟨tk,ek,hk3⟩:=hgk.tups t3
    obtain⟨tj,ej,hj3⟩:=hgj.tups t3
    have ak:jb xs (0 + (k:Int)) = some (.ref tk):=by rw [eT,<- ek]; exact k7 gk
    have aj:jb xs (0+(k:Int)+1+(i:Int))=some (.ref tj):=by
     rw [show 0 + (k:Int) + 1 + (i:Int) = ((k + 1 + i:Nat):Int) by lia,<- ej]
     exact k7 gj
    refine⟨⟨tl,_,rfl,etl3⟩,?_⟩
    simp_arith[ir,er3,ak,aj,hk3,hj3,iJ]
    intro t ht
    have etl4:=iq ht (.tup [.int pk.1,.int pj.1]) _ _ etl3
    simp_arith[etl4]
    have t6:=kx (ys:=zs2++[.ref t]) etl4
    have nst:st≠tl:=ntl.symm
    have hz2:zs2.length=ts2.length:=ao pz2
    refine⟨iM (by lia),_,zs2++[.ref t],ts2++[(pk.1,pj.1)],o3,rfl,fun b u nb q=>?_,?_,so3,?_,Prs.tups ((t3.trans (tN ht)).trans t6) pp2,(by first|rfl|exact ie),kg (Prs.tups ((t3.trans (tN ht)).trans t6) pz2) (Pr.tups ⟨t,rfl,ie⟩ t6),?_,?_,?_⟩
    ·have q3:=b3 _ _ nb (b2 _ _ nb q)
     rw[ix (iI q htl0),ix (iI q3 ht)]
     exact q3
    ·rw[ix nst,ix (iI e3 ht)]
     exact e3
    ·rw[ix nrt,ix (iI er3 ht)]
     exact er3
    ·refine tok2.snoc ⟨?_,hkj,(show ja _ pk.1=true from yO hnd xk),(show ja _ pj.1=true from yO hnd xj)⟩
     rcases hl2 with q|⟨q1,q2⟩
     ·exact yS q
     ·rw[q1]
      exact yR (q2 _ pj (aF _) xj)
    ·rw[BS]
     exact .inr ⟨rfl,fun j p hj2 hp=>rise _ _ pj p (by lia) xj hp⟩
    ·rw[aK]
     show _+1<=_
     lia
   ·refine⟨_,zs2,ts2,o3,rfl,b2.trans b3,e3,so3,er3,Prs.tups t3 pp2,etl3,Prs.tups t3 pz2,tok2,?_,by lia⟩
    rcases hl2 with q|⟨q1,q2⟩
    ·exact .inl q
    ·exact .inr ⟨q1,fun j p hj2 hp=>q2 j p (by lia) hp⟩
  ·rintro σ H2 ⟨jj2,zs2,ts2,o2,rfl,b2,e2,so2,er2,pp2,etl2,pz2,tok2,hl2,htn2⟩
   refine⟨_,jj2,zs2,ts2,o2,rfl,b2,e2,so2,er2,pp2,etl2,pz2,tok2,fun j p hj hp=>?_,by show _<=pQ ps.length k+(ps.length-(k+1));lia⟩
   have:=rise k j pk p (by lia) xk hp
   rcases hl2 with q|⟨q1,_⟩
   ·lia
   ·lia
 ·rintro σ H1 ⟨kk,jj,zs,ts,o',rfl,b1,e1,so',er1,pp1,etl,pz,tok,hlast,htn⟩
  have htr:=FH ps.length (by lia)
  walk_at "D"
  intro wv hwv
  have s1:=iq hwv (.tup [.ref r,.ref tl])
  exact h _ _ o' ps ts (b1.trans (But.new hwv)) (s1 _ _ e1) so' ⟨wv,r,tl,xs,zs,rfl,ie,s1 _ _ er1,s1 _ _ etl,Prs.same s1 pp1,Prs.same s1 pz⟩ ⟨by lia,plok,by lia,tok⟩ dr (by lia) (by lia)
end
end My
namespace My
open PySem L2
section
variable{P:Program}{w:World}{K:PySem.W.Frag}{mg:Str->Option Value}{base:Heap}{c1 c2 c3 c4:Tok}{C_NoWeb fqk:Addr}{dI:FuncData}
theorem EU{xs:List V}{k:Int}(h0:0<=k):kW xs none (some k)=xs.take k.toNat:=by
 unfold kW HT.iY
 simp only[fw,aE (show ¬k<0 by lia),Nat.sub_zero]
 by_cases c:k.toNat<=xs.length
 ·rw[Nat.min_eq_left c]
 ·rw[Nat.min_eq_right (by lia),aG,cY (by lia)]
def Ai:Sp:=fun vs H Q _=>∃s o v ps ts,vs=[.ref s,v]/\H s=some o/\StO o/\jbz H v ps ts/\WebOk ps ts/\Dr (-1) ps/\ps.length<=15/\∀v' H' o' qs,But s H H'->H' s=some o'->StO o'->jbz H' v' qs ts->WebOk qs ts->qs.length=ps.length->Q v' H'
theorem zQ:∀{ps qs:List (Int×Int)} {l s s':Int},PlOk l s' ps->qs.map (·.1)=ps.map (·.1)->(∀q∈qs,1<=q.2/\q.2<=20000000000)->s+20000000000*(qs.length:Int)<=1000000000000->PlOk l s qs
 |_,[],_,_,_,_,_,_,_=>trivial
 |[],q::qs,_,_,_,_,e,_,_=>by simp at e
 |p::ps,q::qs,l,s,s',h,e,hb,hl=>by
  rw[ai,ai]at e
  obtain⟨e1,e2⟩:=List.cons.inj e
  have b:=hb q (aZ ..)
  have h1:=h.1
  rw[List.length_cons]at hl
  refine⟨⟨by lia,by lia,b.1,by lia⟩,?_⟩
  rw[e1]
  exact zQ h.2 e2 (fun x hx=>hb x (aP _ hx)) (by lia)
theorem BH{k1 k2:List (ij×V)}(h:∀n:Int,ja k1 n=true->ja k2 n=true):∀{ts:List (Int×Int)} {q:Int×Int},TiOk k1 q ts->TiOk k2 q ts
 |[],_,_=>trivial
 |t::r,_,a=>⟨⟨a.1.1,a.1.2.1,h _ a.1.2.2.1,h _ a.1.2.2.2⟩,BH h a.2⟩
theorem GI{ps qs:List (Int×Int)}(nd:(ps.map (·.1)).Nodup)(e:qs.map (·.1)=ps.map (·.1)){n:Int}(h:ja (i5 ps) n=true):ja (i5 qs) n=true:=by
 have hm:=lz h
 rw [<- e] at hm nd
 obtain⟨p,hp,rfl⟩:=av.mp hm
 exact zG nd hp
theorem Dr.price:∀{ps:List (Int×Int)} {l:Int},Dr l ps->∀p∈ps,1<=p.2/\p.2<=1000000000
 |[],_,_,p,h=>by cases h
 |q::r,l,d,p,h=>by
  rcases aR.mp h with e|h
  ·rw[e];exact⟨d.1.2.2.1,d.1.2.2.2⟩
  ·exact Dr.price d.2 p h
theorem FD{ps:List (Int×Int)}{k:Nat}{p:Int×Int}(h:ps[k]? =some p)(v:Int):(ps.set k (p.1,v)).map (·.1)=ps.map (·.1):=by
 rw[List.map_set]
 apply eS
 intro i
 rw[List.getElem?_set]
 split
 ·rename_i e
  subst e
  have hk:=(aq.mp h).1
  rw[aH (by rw[aa];exact hk),aJ,h]
  rfl
 ·rfl
theorem Cw{α β:Type}{F:α->β->Prop}:∀{xs:List α} {ys:List β} (k:Nat),Paired F xs ys->Paired F (xs.take k) (ys.take k)
 |_,_,_,.nil=>by rw[List.take_nil,List.take_nil];exact .nil
 |_,_,0,.cons _ _=>.nil
 |_,_,k+1,.cons h t=>.cons h (Cw k t)
theorem Cv{α β:Type}{F:α->β->Prop}:∀{xs:List α} {ys:List β} (k:Nat),Paired F xs ys->Paired F (xs.drop k) (ys.drop k)
 |_,_,_,.nil=>by rw[List.drop_nil,List.drop_nil];exact .nil
 |_,_,0,.cons h t=>.cons h t
 |_,_,k+1,.cons _ t=>Cv k t
theorem xl{α β:Type}{F:α->β->Prop}:∀{a:List α} {b:List β} {c:List α} {d:List β},Paired F a b->Paired F c d->Paired F (a++c) (b++d)
 |_,_,_,_,.nil,h=>h
 |_,_,_,_,.cons r t,h=>.cons r (xl t h)
theorem FC(ps:List (Int×Int)){n:Nat}(h:n<ps.length)(x:Int×Int):ps.take n++[x]++ps.drop (n+1)=ps.set n x:=by
 rw[List.set_eq_take_append_cons_drop,aH h,bf]
 rfl
theorem Ji(B:Blt mg)(D:DefAt K mg "_law_turned" (ig 63) ["_law_state","_law_web_here"] f fd)(Dqc:DefAt K mg "_law_take" (ig 55) ["_law_state","_law_many"] fqc dqc)(Gqc:FnOk P w K mg base iu 1 fqc dqc ["_law_state","_law_many"] sm):FnOk P w K mg base iu 2 f fd ["_law_state","_law_web_here"] Ai:=by
 have sc:FnScope ["_law_state","_law_web_here","_law_at","_law_place","_law_tied","_law_cost","_law_changed"] ["_law_state","_law_web_here"] (iN (ig 63)):=by walk_at "SC"
 refine D.F.ok sc (fun vs H Q E h=>?_) (fun cdv A outer s H vs Q E hr h=>?_)
 ·obtain⟨s,o,v,ps,ts,rfl,_⟩:=h
  rfl
 obtain⟨st,o,v,ps,ts,rfl,es,so,hw,wk,dr,h6,h⟩:=h
 obtain⟨u,pa,ta,xs,ys,rfl,eu,epa,eta,hxs,hys⟩:=id hw
 have hxl:=ao hxs
 have htl:=wk.tl
 have hu:=iX hr
 have hu0:_<PySem.cLine:=au hu
 refine⟨_,(ik (i7 (PW.pt (jS (iV (se hr.units) (il ip (qv 1) h9 (fun _ _=>rfl)) (kL ic) (iL _)) (ku (iV kA (iF Gqc (hr.mono (by decide)) rfl Dqc.m Dqc.F.kp Dqc.b .nil iD (h8 (qv 0) (h8 h9 ic))) h9 (iL _))))) (iw (iG (qv 1))) i8) (ik (iH (i:=2) sc.nd rfl (Or.inl rfl) (iF Gqc (hr.mono (by decide)) rfl Dqc.m Dqc.F.kp Dqc.b .nil iD (h8 (qv 0) (h8 (iU kc rfl B.len bu (h8 (il ip (qv 1) h9 (fun _ _=>rfl)) ic)) ic)))) (ik (iH (i:=3) sc.nd rfl (Or.inr rfl) (il ip (il ip (il ip (qv 1) h9 (fun _ _=>rfl)) (qv 2) (fun _ _=>rfl)) h9 (fun _ _=>rfl))) (ik (iH (i:=4) sc.nd rfl (Or.inr rfl) (jU (CpScope.of (N:=["_law_one","_law_other","_law_place"]) (src:=[none,none,some 3]) (by rfl)) rfl (jg (il ip (qv 1) h9 (fun _ _=>rfl))) (fun _ _ _ _=>(jJ (n:=2) rfl (iO (iE (i:=0) (iS (l:=["_law_one","_law_other","_law_place"]) (by rfl)) rfl (Or.inl rfl)) (iO (iE (i:=1) (iS (l:=["_law_one","_law_other","_law_place"]) (by rfl)) rfl (Or.inl rfl)) jK)))) (fun _ _ _ _=>(k8 (iV kA (qv 1) (qv 2) (iL _)))) (fun _ _ _ _=>(qv 0)))) (ik (iH (i:=4) sc.nd rfl (Or.inr rfl) (iQ u7 (qv 4) (jU (CpScope.of (N:=["_law_one","_law_other","_law_place"]) (src:=[none,none,some 3]) (by rfl)) rfl (jg (il ip (qv 1) h9 (fun _ _=>rfl))) (fun _ _ _ _=>(jJ (n:=2) rfl (iO (iE (i:=0) (iS (l:=["_law_one","_law_other","_law_place"]) (by rfl)) rfl (Or.inl rfl)) (iO (iE (i:=1) (iS (l:=["_law_one","_law_other","_law_place"]) (by rfl)) rfl (Or.inl rfl)) jK)))) (fun _ _ _ _=>(k8 (iV kA (qv 0) (qv 2) (iL _)))) (fun _ _ _ _=>(qv 1))))) (ik (iH (i:=5) sc.nd rfl (Or.inl rfl) (iU (qh rfl) rfl B.sum dH (h8 (jU (CpScope.of (N:=["_law_other","_law_price","_law_tied"]) (src:=[none,none,some 4]) (by rfl)) rfl (jg (il ip (qv 1) h9 (fun _ _=>rfl))) (fun _ _ _ _=>(jJ (n:=2) rfl (iO (iE (i:=0) (iS (l:=["_law_other","_law_price","_law_tied"]) (by rfl)) rfl (Or.inl rfl)) (iO (iE (i:=1) (iS (l:=["_law_other","_law_price","_law_tied"]) (by rfl)) rfl (Or.inl rfl)) jK)))) (fun _ _ _ _=>(k8 (iV qg (qv 0) (qv 2) (by with_unfolding_all rfl)))) (fun _ _ _ _=>(qv 1))) ic))) (ik (iH (i:=6) sc.nd rfl (Or.inl rfl) (jw (h8 (qv 3) (h8 (iU (yv rfl) rfl B.max PyProof.Rows.boot_max (h8 h9 (h8 (iQ rS (iQ jM (qv 5) (iF Gqc (hr.mono (by decide)) rfl Dqc.m Dqc.F.kp Dqc.b .nil iD (h8 (qv 0) (h8 h9 ic)))) h9) ic))) ic)))) (iw (iG (jw (h8 (iQ u7 (iQ u7 (lE rR (il ip (qv 1) h9 (fun _ _=>rfl)) lA (lB (qv 2))) (kL (h8 (qv 6) ic))) (lE rR (il ip (qv 1) h9 (fun _ _=>rfl)) (lB (iQ jM (qv 2) h9)) lA)) (h8 (il ip (qv 1) h9 (fun _ _=>rfl)) ic)))))))))))),?_⟩
 refine iz fun R hR=>?_
 simp_arith[ir,eu,iJ]
 intro l0 hl0
 have q0:=iq hl0 (.lst [])
 refine⟨.lst (ps.map jd),.lst [],(by rw[Rep];exact⟨pa,xs,rfl,q0 _ _ epa,Prs.reps (Prs.same q0 hxs)⟩),(by rw[Rep];exact⟨l0,[],rfl,ie,by rw[Reps]⟩),?_,.inl ⟨_,_,rfl,rfl⟩,?_⟩
 ·rw[jF];have:=nX ps;lia
 have es1:=q0 _ _ es
 have eu1:=q0 _ _ eu
 have epa1:=q0 _ _ epa
 have eta1:=q0 _ _ eta
 have hx1:=Prs.same q0 hxs
 have hy1:=Prs.same q0 hys
 have W1:=hw.same q0
 generalize upd H l0 (.lst [])=H1 at q0 es1 eu1 epa1 eta1 hx1 hy1 W1
 have b1:But st H H1:=fun b o n q=>q0 b o q
 by_cases c:ps=[]
 ·subst c
  rw[show i4 (.lst (([]:List (Int×Int)).map jd)) (.lst [])=true from kR _]
  walk_at "D"
  exact h _ _ o [] b1 es1 so W1 wk rfl
 have ce:i4 (.lst (ps.map jd)) (.lst [])=false:=by
  cases ps with
  |nil=>exact absurd rfl c
  |cons p r=>rfl
 rw[ce]
 walk_at "D"
 refine⟨st,o,2,rfl,es1,so,by decide,by decide,fun d2 o2 _ _ so2=>?_⟩
 have b2:But st H1 (upd H1 st o2):=But.at _ _ _
 have es2:upd H1 st o2 st=some o2:=ie
 have W2:=W1.but es1 so b2
 generalize upd H1 st o2=H2 at b2 es2 W2
 walk_at "D"
 refine mO (fun c2=>?_) (fun c2=>?_)
 ·walk_at "D"
  exact h _ _ o2 ps (b1.trans b2) es2 so2 W2 wk rfl
 subst hR
 clear eu epa eta hxs hys eu1 epa1 eta1 hx1 hy1 hw W1
 obtain⟨u',pa,ta,xs,ys,eq,eu,epa,eta,hxs,hys⟩:=id W2
 cases eq
 have hxl:=ao hxs
 have hp0:0<ps.length:=by
  cases ps with
  |nil=>exact absurd rfl c
  |cons p r=>simp
 refine iz fun R hR=>?_
 simp_arith[ir,eu,iJ,epa]
 refine⟨st,o2,_,rfl,es2,so2,by lia,by lia,fun k o3 k0 k1 so3=>?_⟩
 have b3:But st H2 (upd H2 st o3):=But.at _ _ _
 have es3:upd H2 st o3 st=some o3:=ie
 have W3:=W2.but es2 so2 b3
 generalize upd H2 st o3=H3 at b3 es3 W3
 clear eu epa eta hxs hys
 obtain⟨u',pa,ta,xs,ys,eq,eu,epa,eta,hxs,hys⟩:=id W3
 cases eq
 have hxl:=ao hxs
 obtain⟨n,rfl⟩:∃n:Nat,k=(n:Int):=⟨k.toNat,by lia⟩
 have hn:n<ps.length:=by lia
 have x1:ps[n]? =some ps[n]:=gE hn
 generalize ps[n]=pn at x1
 have hyl:=ao hys
 subst hR
 refine iz fun R hR=>?_
 obtain⟨xn,gn,hgn⟩:=l6 hxs x1
 obtain⟨tn,rfl,hn4⟩:=hgn
 have an:jb xs (n:Int)=some (.ref tn):=k7 gn
 simp_arith[ir,eu,iJ,epa,an,hn4]
 have s0:Same H3 H3:=fun _ _ q=>q
 subst hR
 refine iz fun R hR=>?_
 walk_at "D"
 refine jx (i6 K ta) H3 (fun R2 hR2=>?_) (fun za hza=>ju ts.length (fun j σ' Hc=>∃w1 w2 ms,σ'=[w1,w2,some (.int pn.1)]/\Same H3 Hc/\Hc za=some (.lst (ms.map V.int))/\ms.length<=j) ⟨none,none,[],rfl,iq hza _,ie,aF _⟩ ?_ ?_)
 ·unfold jc
  simp_arith[ir,s0 _ _ eu,iT]
  exact⟨ta,rfl,⟨_,SqL.of (s0 _ _ eta)⟩,hR2⟩
 ·rintro j σ' Hc hj ⟨w1,w2,ms,rfl,sQ,ez,hml⟩
  have sR:=s0.trans sQ
  have z1:SqL K Hc ta ys:=SqL.of (sR _ _ eta)
  have x1:ys[j]? =some (ys[j]'(by lia)):=gE _
  refine⟨⟨_,_,z1,x1⟩,?_⟩
  rintro y H' ⟨rfl,hy⟩
  obtain⟨t,ht,pt⟩:=jl hys (hy _ z1)
  obtain⟨b,rfl,hb⟩:=pt.same sR
  simp_arith[hb]
  refine mO (fun c=>?_) (fun c=>?_)
  ·refine⟨_,ez,by rw[aa];exact iM (by lia),_,_,ms++[t.1],rfl,iW sQ hza,by rw[ie,ah];rfl,by rw[aK];show ms.length+1<=_;lia⟩
  ·exact⟨_,_,ms,rfl,sQ,ez,by lia⟩
 rintro σ' H4 ⟨w1,w2,ms,rfl,s4,eza,hms⟩
 refine⟨⟨_,SqL.of (s4 _ _ eta),by lia⟩,?_⟩
 subst hR
 refine iz fun R hR=>?_
 walk_at "D"
 refine jx (i6 K ta) H4 (fun R2 hR2=>?_) (fun zb hzb=>ju ts.length (fun j σ' Hc=>∃w1 w2 ms,σ'=[w1,w2,some (.int pn.1)]/\Same H4 Hc/\Hc zb=some (.lst (ms.map V.int))/\ms.length<=j) ⟨none,none,[],rfl,iq hzb _,ie,aF _⟩ ?_ ?_)
 ·unfold jc
  simp_arith[ir,s4 _ _ eu,iT]
  exact⟨ta,rfl,⟨_,SqL.of (s4 _ _ eta)⟩,hR2⟩
 ·rintro j σ' Hc hj ⟨w1,w2,ms,rfl,sQ,ez,hml⟩
  have sR:=s4.trans sQ
  have z1:SqL K Hc ta ys:=SqL.of (sR _ _ eta)
  have x1:ys[j]? =some (ys[j]'(by lia)):=gE _
  refine⟨⟨_,_,z1,x1⟩,?_⟩
  rintro y H' ⟨rfl,hy⟩
  obtain⟨t,ht,pt⟩:=jl hys (hy _ z1)
  obtain⟨b,rfl,hb⟩:=pt.same sR
  simp_arith[hb]
  refine mO (fun c=>?_) (fun c=>?_)
  ·refine⟨_,ez,by rw[aa];exact iM (by lia),_,_,ms++[t.2],rfl,iW sQ hzb,by rw[ie,ah];rfl,by rw[aK];show ms.length+1<=_;lia⟩
  ·exact⟨_,_,ms,rfl,sQ,ez,by lia⟩
 rintro σ' H5 ⟨w1,w2,ms2,rfl,s5,ezb,hms2⟩
 refine⟨⟨_,SqL.of ((s4.trans s5) _ _ eta),by lia⟩,?_⟩
 simp_arith[s5 _ _ eza,ezb]
 refine⟨rq (by rw[aa,aa];lia),fun zc hzc=>?_⟩
 have q6:=iq hzc (.lst (ms.map V.int++ms2.map V.int))
 have ezc:upd H5 zc (.lst (ms.map V.int++ms2.map V.int)) zc=some (.lst ((ms++ms2).map V.int)):=by rw[ie,ah]
 generalize upd H5 zc (.lst (ms.map V.int++ms2.map V.int))=H6 at q6 ezc
 generalize ms++ms2=ns' at ezc
 have s6:=(s4.trans s5).trans q6
 clear eza ezb s4 s5 q6
 subst hR
 refine iz fun R hR=>?_
 walk_at "D"
 refine jx (i6 K pa) H6 (fun R2 hR2=>?_) (fun z hz0=>ju ps.length (fun i σ' Hc=>∃w1 w2 cs,σ'=[w1,w2,some (.ref zc)]/\Same H6 Hc/\Hc z=some (.lst (cs.map V.int))/\cs.length<=i/\0<=cs.sum/\cs.sum<=1000000000*(i:Int)) ⟨none,none,[],rfl,iq hz0 _,ie,aF _,cE _,by simp⟩ ?_ ?_)
 ·unfold jc
  simp_arith[ir,s6 _ _ eu,iJ]
  exact⟨pa,rfl,⟨_,SqL.of (s6 _ _ epa)⟩,hR2⟩
 ·rintro i σ' Hc hi ⟨w1,w2,cs,rfl,s7,ez,hcl,hc0,hc1⟩
  have s67:=s6.trans s7
  have x1:xs[i]? =some (xs[i]'(by lia)):=gE _
  have z1:SqL K Hc pa xs:=SqL.of (s67 _ _ epa)
  refine⟨⟨_,_,z1,x1⟩,?_⟩
  rintro y H' ⟨rfl,hy⟩
  obtain⟨p,hp,px⟩:=jl hxs (hy _ z1)
  obtain⟨b,rfl,hb⟩:=px.same s67
  have pb:=dr.price p (aA hp)
  simp_arith[hb,ir,s7 _ _ ezc,tE,tY,ll]
  refine mO (fun c=>?_) (fun c=>?_)
  ·refine⟨_,ez,by rw[aa];exact iM (by lia),_,_,cs++[p.2],rfl,iW s7 hz0,by rw[ie,ah];rfl,by rw[aK];show cs.length+1<=_;lia,?_,?_⟩<;>rw[cG]<;>simp only[List.sum_cons,List.sum_nil]<;>lia
  ·exact⟨_,_,cs,rfl,s7,ez,by lia,hc0,by lia⟩
 rintro σ' H7 ⟨w1,w2,cs,rfl,s7,ez,hcl,hc0,hc1⟩
 refine⟨⟨_,SqL.of ((s6.trans s7) _ _ epa),by lia⟩,?_⟩
 refine⟨z,_,rfl,ez,?_⟩
 have s37:=s6.trans s7
 have es7:=s37 _ _ es3
 have eu7:=s37 _ _ eu
 have epa7:=s37 _ _ epa
 have eta7:=s37 _ _ eta
 have hx7:=Prs.same s37 hxs
 have hy7:=Prs.same s37 hys
 have b7:But st H H7:=fun b o nb q=>s37 _ _ (b3 _ _ nb (b2 _ _ nb (b1 _ _ nb q)))
 generalize cs.sum=S at hc0 hc1
 clear ez ezc s6 s7 s37 es3 eu epa eta hxs hys b1 b2 b3 hn4 W2 W3 hcl
 subst hR
 refine iz fun R hR=>?_
 walk_at "D"
 refine⟨st,o3,3,rfl,es7,so3,by decide,by decide,fun d6 o6 d60 d61 so6=>?_⟩
 have b6:But st H7 (upd H7 st o6):=But.at _ _ _
 have es6:upd H7 st o6 st=some o6:=ie
 have t6:=b6.tups es7 so3.imm
 have eu6:=t6 _ _ rfl eu7
 have epa6:upd H7 st o6 pa=some (.lst xs):=b6 _ _ (r8 epa7 hx7 es7 so3) epa7
 have eta6:upd H7 st o6 ta=some (.lst ys):=b6 _ _ (r8 eta7 hy7 es7 so3) eta7
 have hx6:=Prs.tups t6 hx7
 have hy6:=Prs.tups t6 hy7
 have b67:=b7.trans b6
 generalize upd H7 st o6=H8 at b67 es6 eu6 epa6 eta6 hx6 hy6
 walk_at "D"
 intro t7 ht7
 have hv:∃nv:Int,(if 1<S+d6-1 then S+d6-1 else 1)=nv/\1<=nv/\nv<=20000000000:=⟨_,rfl,by split<;>lia,by split<;>lia⟩
 obtain⟨nv,ev,nv1,nv2⟩:=hv
 rw[ev]
 have q7:=iq ht7 (.tup [.int pn.1,.int nv])
 have e7t:upd H8 t7 (.tup [.int pn.1,.int nv]) t7=some (.tup [.int pn.1,.int nv]):=ie
 generalize upd H8 t7 (.tup [.int pn.1,.int nv])=H9 at q7 e7t
 subst hR
 simp_arith[ir,q7 _ _ eu6,iJ,q7 _ _ epa6]
 intro l1 hl1
 rw[EU (by lia),show((n:Int)).toNat=n by lia]
 have q8:=iq hl1 (.lst (xs.take n))
 have el1:upd H9 l1 (.lst (xs.take n)) l1=some (.lst (xs.take n)):=ie
 generalize upd H9 l1 (.lst (xs.take n))=HA at q8 el1
 intro l2 hl2
 have q9:=iq hl2 (.lst [.ref t7])
 have el2:upd HA l2 (.lst [.ref t7]) l2=some (.lst [.ref t7]):=ie
 have el19:=q9 _ _ el1
 generalize upd HA l2 (.lst [.ref t7])=HB at q9 el2 el19
 have s79:=(q7.trans q8).trans q9
 simp_arith[el19,el2]
 refine⟨rq (by rw[aO];show _+1<=_;lia),fun l3 hl3=>?_⟩
 have qA:=iq hl3 (.lst (xs.take n++[.ref t7]))
 have el3:upd HB l3 (.lst (xs.take n++[.ref t7])) l3=some (.lst (xs.take n++[.ref t7])):=ie
 generalize upd HB l3 (.lst (xs.take n++[.ref t7]))=HC at qA el3
 have s7A:=s79.trans qA
 simp_arith[ir,s7A _ _ eu6,iJ,s7A _ _ epa6]
 intro l4 hl4
 rw[show((n:Int)+1)=((n+1:Nat):Int) by lia,Az (by lia)]
 have qB:=iq hl4 (.lst (xs.drop (n+1)))
 have el4:upd HC l4 (.lst (xs.drop (n+1))) l4=some (.lst (xs.drop (n+1))):=ie
 have el34:=qB _ _ el3
 generalize upd HC l4 (.lst (xs.drop (n+1)))=HD at qB el4 el34
 simp_arith[el34,el4]
 refine⟨rq (by rw[aK,aO,fg];show _+1+_<=_;lia),fun l5 hl5=>?_⟩
 have qC:=iq hl5 (.lst (xs.take n++[.ref t7]++xs.drop (n+1)))
 have el5:upd HD l5 (.lst (xs.take n++[.ref t7]++xs.drop (n+1))) l5=some (.lst (xs.take n++[.ref t7]++xs.drop (n+1))):=ie
 generalize upd HD l5 (.lst (xs.take n++[.ref t7]++xs.drop (n+1)))=HE at qC el5
 have s7C:=(s7A.trans qB).trans qC
 have e7C:=(((q8.trans q9).trans qA).trans (qB.trans qC)) _ _ e7t
 simp_arith[ir,s7C _ _ eu6,iT]
 intro t9 ht9
 have q9':=iq ht9 (.tup [.ref l5,.ref ta])
 have sZ:=s7C.trans q9'
 have hf:=FD x1 nv
 have hin:∀q∈ps.set n (pn.1,nv),1<=q.2/\q.2<=20000000000:=fun q hq=>by
  rcases List.mem_or_eq_of_mem_set hq with hq|rfl
  ·have:=dr.price q hq
   lia
  ·exact⟨nv1,nv2⟩
 have hlen:(ps.set n (pn.1,nv)).length=ps.length:=eG
 have pz:Prs HE (xs.take n++[.ref t7]++xs.drop (n+1)) (ps.set n (pn.1,nv)):=by
  rw [<- FC ps hn]
  exact xl (xl (Cw n (Prs.same s7C hx6)) (.cons ⟨t7,rfl,e7C⟩ .nil)) (Cv (n+1) (Prs.same s7C hx6))
 refine h _ _ o6 (ps.set n (pn.1,nv)) (fun b o nb q=>sZ _ _ (b67 _ _ nb q)) (sZ _ _ es6) so6 ⟨t9,l5,ta,_,ys,rfl,ie,q9' _ _ el5,sZ _ _ eta6,Prs.same q9' pz,Prs.same sZ hy6⟩ ⟨by rw[hlen];lia,zQ wk.p hf hin (by rw[hlen];lia),wk.tl,BH (fun m hm=>GI wk.p.nodup hf hm) wk.t⟩ hlen
theorem jig.two{x:Lk}(g:jig x)(h:x.1=some wB):jb (kC x) 2=some (.int (iC x)):=by
 rcases g with⟨p,rfl⟩|⟨u,v,rfl⟩|⟨u,v,rfl⟩
 ·exact absurd (aD h) (by rw[oX];exact fun z=>z)
 ·exact ki
 ·exact absurd (aD h) (by rw[mJ];exact fun z=>z)
def vW:Sp:=fun vs H Q _=>∃c xs ls,vs=[.ref c]/\H c=some (.lst xs)/\Lks H xs ls/\(∀x∈ls,jig x)/\ls.length<=40/\∀t a b ms ns H',Same H H'->H t=none->H a=none->H b=none->H' t=some (.tup [.ref a,.ref b])->H' a=some (.lst (ms.map V.int))->H' b=some (.lst (ns.map V.int))->mE ms (jO ls)->mE ns (jR ls)->Q (.ref t) H'
theorem I0(B:Blt mg)(D:DefAt K mg "_law_named" (ig 64) ["_law_chain"] f fd):FnOk P w K mg base iu 2 f fd ["_law_chain"] vW:=by
 have sc:FnScope ["_law_chain","_law_ins","_law_outs"] ["_law_chain"] (iN (ig 64)):=by walk_at "SC"
 refine D.F.ok sc (fun vs H Q E h=>?_) (fun cdv A outer s H vs Q E hr h=>?_)
 ·obtain⟨c,xs,ls,rfl,_⟩:=h
  rfl
 obtain⟨c,xs,ls,rfl,ec,pl,gd,hl,h⟩:=h
 have hlx:=ao pl
 have hu:=iX hr
 have hu0:_<PySem.cLine:=au hu
 refine⟨_,(ik (mh (i:=1) sc.nd rfl (Or.inl rfl) (CpScope.of (N:=["_law_one"]) (src:=[none]) (by rfl)) rfl (jg (qv 0)) (fun _ _ _ _=>(iE (i:=0) (iS (l:=["_law_one"]) (by rfl)) rfl (Or.inl rfl))) (fun _ _ _ _=>(k8 (iV kA (il ip (qv 0) h9 (fun _ _=>rfl)) kE (iL _)))) (fun _ _ _ _=>(il ip (qv 0) h9 (fun _ _=>rfl)))) (ik (mh (i:=2) sc.nd rfl (Or.inl rfl) (CpScope.of (N:=["_law_one"]) (src:=[none]) (by rfl)) rfl (jg (qv 0)) (fun _ _ _ _=>(iE (i:=0) (iS (l:=["_law_one"]) (by rfl)) rfl (Or.inl rfl))) (fun _ _ _ _=>(k8 (iV mm (il ip (qv 0) h9 (fun _ _=>rfl)) kE (iL _)))) (fun _ _ _ _=>(il ip (qv 0) (kZ k6 h9) (fun _ _=>rfl)))) (iw (iG (jw (h8 (iU BM rfl B.sorted dj (h8 (qv 1) ic)) (h8 (iU BM rfl B.sorted dj (h8 (qv 2) ic)) ic))))))),?_⟩
 refine iz fun RA hRA=>?_
 walk_at "D"
 refine jx (i6 K c) H (fun R hR=>?_) (fun l1 hl1=>ju ls.length (fun i σ' Hc=>∃w1,σ'=[w1]/\Same H Hc/\Hc l1=some (.lst ((jO (ls.take i)).map V.int))) ⟨none,rfl,iq hl1 _,ie⟩ ?_ ?_)
 ·unfold jc
  walk_at "D"
  exact⟨c,rfl,⟨_,SqL.of ec⟩,hR⟩
 ·rintro k σ' Hc hk ⟨w1,rfl,s4,ez⟩
  have x1:ls[k]? =some ls[k]:=gE hk
  obtain⟨rv,hrv,prv⟩:=l6 pl x1
  obtain⟨ra,rfl,era⟩:=prv.tups s4.tups
  have z1:SqL K Hc c xs:=SqL.of (s4 _ _ ec)
  refine⟨⟨_,_,z1,hrv⟩,?_⟩
  rintro y H' ⟨rfl,hy⟩
  have:=hy _ z1
  rw[hrv]at this
  cases this
  obtain⟨w0,ew,a0,al⟩:=(gd _ (cf hk)).v
  have ed:decide (w0=Str.ofString "beside")=decide (ls[k].1=some wB):=by
   rw[ew]
   by_cases q:w0=wB
   ·rw[af (show w0=Str.ofString "beside" from q),af (by rw[q])]
   ·rw[az (show ¬w0=Str.ofString "beside" from q),az (fun z=>q (aD z))]
  simp_arith[ir,era,a0,al]
  rw[ed,Bo x1]
  cases cq:decide (ls[k].1=some wB)with
  | true=>
   have a2:=(gd _ (cf hk)).two (bp cq)
   simp_arith[ir,era,a2]
   refine⟨_,ez,?_,_,rfl,iW s4 hl1,?_⟩
   ·rw[aa]
    have:=qG ls k
    exact iM (by lia)
   ·rw[ie,ah]
    rfl
  |false=>
   walk_at "D"
   exact⟨_,rfl,s4,ez⟩
 rintro σ' H1 ⟨w1,rfl,s1,e1⟩
 refine⟨⟨_,SqL.of (s1 _ _ ec),by lia⟩,?_⟩
 rw[aG]at e1
 have n1:=qG ls ls.length
 rw[aG]at n1
 have ec2:=s1 _ _ ec
 have pl2:=Lks.tups pl s1.tups
 subst hRA
 refine iz fun RA hRA=>?_
 walk_at "D"
 refine jx (i6 K c) H1 (fun R hR=>?_) (fun l3 hl3=>ju ls.length (fun i σ' Hc=>∃w1,σ'=[w1]/\Same H1 Hc/\Hc l3=some (.lst ((jR (ls.take i)).map V.int))) ⟨none,rfl,iq hl3 _,ie⟩ ?_ ?_)
 ·unfold jc
  walk_at "D"
  exact⟨c,rfl,⟨_,SqL.of ec2⟩,hR⟩
 ·rintro k σ' Hc hk ⟨w1,rfl,s4,ez⟩
  have x1:ls[k]? =some ls[k]:=gE hk
  obtain⟨rv,hrv,prv⟩:=l6 pl2 x1
  obtain⟨ra,rfl,era⟩:=prv.tups s4.tups
  have z1:SqL K Hc c xs:=SqL.of (s4 _ _ ec2)
  refine⟨⟨_,_,z1,hrv⟩,?_⟩
  rintro y H' ⟨rfl,hy⟩
  have:=hy _ z1
  rw[hrv]at this
  cases this
  obtain⟨w0,ew,a0,al⟩:=(gd _ (cf hk)).v
  have ed:decide (w0=Str.ofString "beside")=decide (ls[k].1=some wB):=by
   rw[ew]
   by_cases q:w0=wB
   ·rw[af (show w0=Str.ofString "beside" from q),af (by rw[q])]
   ·rw[az (show ¬w0=Str.ofString "beside" from q),az (fun z=>q (aD z))]
  simp_arith[ir,era,a0,al]
  rw[ed,BV x1]
  cases cq:decide (ls[k].1=some wB)with
  |true=>
   walk_at "D"
   exact⟨_,rfl,s4,ez⟩
  | false=>
   walk_at "D"
   refine⟨_,ez,?_,_,rfl,iW s4 hl3,?_⟩
   ·rw[aa]
    have:=ub ls k
    exact iM (by lia)
   ·rw[ie,ah]
    rfl
 rintro σ' H3 ⟨w1,rfl,s3,e3⟩
 refine⟨⟨_,SqL.of (s3 _ _ ec2),by lia⟩,?_⟩
 rw[aG]at e3
 have n3:=ub ls ls.length
 rw[aG]at n3
 subst hRA
 walk_at "D"
 refine⟨l1,jO ls,rfl,s3 _ _ e1,by lia,fun a ms ha p1 q1=>?_⟩
 have s5:=iq ha (.lst (ms.map V.int))
 have ea5:upd H3 a (.lst (ms.map V.int)) a=some (.lst (ms.map V.int)):=ie
 have ed5:=s5 _ _ e3
 generalize upd H3 a (.lst (ms.map V.int))=H5 at s5 ea5 ed5
 refine⟨l3,jR ls,rfl,ed5,by lia,fun b ns hb p2 q2=>?_⟩
 have s6:=iq hb (.lst (ns.map V.int))
 have eb6:upd H5 b (.lst (ns.map V.int)) b=some (.lst (ns.map V.int)):=ie
 generalize upd H5 b (.lst (ns.map V.int))=H6 at s6 eb6
 walk_at "D"
 intro t ht
 have s7:=iq ht (.tup [.ref a,.ref b])
 have s04:=s1.trans s3
 exact h t a b ms ns _ (s04.trans (s5.trans (s6.trans s7))) (((s04.trans s5).trans s6).free ht) (s04.free ha) ((s04.trans s5).free hb) ie (s7 _ _ (s6 _ _ ea5)) (s7 _ _ eb6) ⟨p1,q1⟩ ⟨p2,q2⟩
theorem BJ:∀(l:List (Int×Int×Int)),jo (l.map jq)<=1
 |[]=>by rw[bJ,jo];lia
 |p::r=>by
  rw[ai,jo]
  have:=BJ r
  have e:jF (jq p)=1:=rfl
  lia
theorem sV{H:Hp}{v:V}{ps ts:List (Int×Int)}(h:jbz H v ps ts):Rep H (.tup [.lst (ps.map jd),.lst (ts.map jd)]) v:=by
 obtain⟨u,pa,ta,xs,ys,rfl,h1,h2,h3,h4,h5⟩:=h
 rw[Rep]
 refine⟨u,_,rfl,h1,?_⟩
 rw[Reps]
 refine⟨_,_,rfl,by rw[Rep];exact⟨pa,xs,rfl,h2,Prs.reps h4⟩,?_⟩
 rw[Reps]
 exact⟨_,_,rfl,by rw[Rep];exact⟨ta,ys,rfl,h3,Prs.reps h5⟩,by rw[Reps]⟩
theorem Av(ps ts:List (Int×Int)):jF (.tup [.lst (ps.map jd),.lst (ts.map jd)])<=20:=by
 have h1:=nX ps
 have h2:=nX ts
 rw[jF,jo,jF,jo,jF,jo]
 lia
theorem AD(ps ts:List (Int×Int))(r:List Int):(jL ps ts r).length=ps.length:=by
 unfold jL mC
 rw[aa,bU]
theorem wJ{ps ts:List (Int×Int)}(wk:WebOk ps ts):WebOk ps []:=⟨wk.pl,wk.p,bM _,trivial⟩
theorem qe{H H':Hp}{t:Addr}{ps ts:List (Int×Int)}(h:yC H H' t ps ts):jbz H' (.ref t) ps ts:=by
 obtain⟨l1,l2,xs,ys,_,_,_,h1,h2,h3,h4,h5⟩:=h
 exact⟨t,l1,l2,xs,ys,rfl,h1,h2,h3,h4,h5⟩
def pY(ns:List Int):Dt:=.lst (ns.map Dt.int)
theorem Bq{H:Hp}{a:Addr}{ns:List Int}(e:H a=some (.lst (ns.map V.int))):Rep H (pY ns) (.ref a):=by
 rw[pY,Rep]
 exact⟨a,_,rfl,e,qO ns⟩
theorem vK:∀ns:List Int,jo (ns.map Dt.int)=0
 |[]=>rfl
 |n::r=>by
  rw[ai,jo,vK r]
  rfl
def lq(ms ns:List Int):Dt:=.tup [pY ms,pY ns]
theorem mM{H:Hp}{t a b:Addr}{ms ns:List Int}(e:H t=some (.tup [.ref a,.ref b]))(e1:H a=some (.lst (ms.map V.int)))(e2:H b=some (.lst (ns.map V.int))):Rep H (lq ms ns) (.ref t):=by
 rw[lq,Rep]
 refine⟨t,_,rfl,e,?_⟩
 rw[Reps]
 refine⟨_,_,rfl,Bq e1,?_⟩
 rw[Reps]
 exact⟨_,_,rfl,Bq e2,by rw[Reps]⟩
theorem qH(ms ns:List Int):jF (lq ms ns)<=20:=by
 unfold lq pY
 rw[jF,jo,jF,jo,jF,jo,vK,vK]
 decide
theorem oJ{ms ns ks:List Int}(h:mE ms ks)(g:mE ns ks):ms=ns:=(h.1.trans g.1.symm).eq_of_pairwise (fun _ _ _ _=>Int.le_antisymm) h.2 g.2
theorem Kh{xs:List V}{k:Int}(h0:0<=k)(h1:k<=xs.length):kW xs none (some k)=xs.take k.toNat:=by
 unfold kW HT.iY
 simp only[fw]
 congr 1
 split<;>lia
theorem Cn{α β:Type}{F:α->β->Prop}:∀(k:Nat) {a:List α} {b:List β},Paired F a b->Paired F (a.take k) (b.take k)
 |0,_,_,h=>by simp;exact .nil
 |k+1,_,_,.nil=>by simp;exact .nil
 |k+1,_,_,.cons r t=>.cons r (Cn k t)
def ly(k:Int)(hs:List (Int×Int)):List Int:=(hs.filter fun h=>decide (h.2=k)).map (·.1)
theorem BD{k:Int}{hs:List (Int×Int)}{i:Nat}{p:Int×Int}(h:hs[i]? =some p):ly k (hs.take (i+1))=ly k (hs.take i)++if decide (p.2=k)=true then[p.1]else[]:=by
 unfold ly
 rw[je h,cn,ah]
 congr 1
 rw[cT]
 split<;>rfl
theorem AR(k:Int)(hs:List (Int×Int))(i:Nat):(ly k (hs.take i)).length<=hs.length:=by
 unfold ly
 rw[aa]
 refine br (bS _ _) ?_
 rw[aO]
 exact fL _ _
theorem BY{ps ts:List (Int×Int)}(wk:WebOk ps ts):(ps.map (·.1)).Pairwise (·<·):=by
 rw[eC]
 intro i j hi hj hij
 rw[aa]at hi hj
 rw[List.getElem_map,List.getElem_map]
 exact wk.p.rise i j _ _ hij (gE hi) (gE hj)
theorem AK{ps ts:List (Int×Int)}{r:List Int}{c:List Lk}(wk:WebOk ps ts)(h:Rst ps ts r)(C:ChI ps ts (jt ps ts r) c c.length){ms ns:List Int}(r1:mE ms (jO c))(r2:mE ns (jR c)):ms=ly 2 (jL ps ts r)/\ns=ly 0 (jL ps ts r):=by
 have bt:=tS wk h
 have ci:=FP wk h C bt fun y by' p hp h1=>Iu wk h by'.c (by'.m _ bt.c) p hp h1
 have pk:∀k,ly k (jL ps ts r)=(ps.map (·.1)).filter fun n=>decide (kU ps ts r n=k):=fun k=>by
  unfold ly
  rw[ph wk,List.filter_map,bw,List.filter_map]
  rfl
 have go:∀(k:Int) (L M:List Int),L.Nodup->mE M L->(∀n∈L,n∈ps.map (·.1))->(∀p∈ps,p.1∈L↔kU ps ts r p.1=k)->M=ly k (jL ps ts r):=fun k L M nd rg sub iff=>by
  rw[pk]
  refine oJ rg ⟨?_,((BY wk).sublist eD).imp Int.le_of_lt⟩
  refine(List.perm_ext_iff_of_nodup (((BY wk).imp fun h=>Int.ne_of_lt h).sublist eD) nd).mpr fun n=>?_
  rw[bG,bE]
  constructor
  ·rintro⟨h1,h2⟩
   obtain⟨p,hp,rfl⟩:=av.mp h1
   exact(iff p hp).mpr h2
  ·intro hn
   have h1:=sub n hn
   obtain⟨p,hp,rfl⟩:=av.mp h1
   exact⟨h1,(iff p hp).mp hn⟩
 exact⟨go 2 _ _ (zH C.nd) r1 (fun n hn=>by obtain⟨z,hz,_,rfl⟩:=tF.mp hn;exact C.place z hz) fun p hp=>(ci p hp).1,go 0 _ _ (AN C.nd) r2 (fun n hn=>by obtain⟨z,hz,_,rfl⟩:=uc.mp hn;exact C.place z hz) fun p hp=>(ci p hp).2⟩
theorem FR{ps ts:List (Int×Int)}{r:List Int}(wk:WebOk ps ts)(h:Rst ps ts r):∀d∈jt ps ts r,(d.1,d.2.1)∈ts:=fun d hd=>((um (B5 wk h).2.1).2 d hd).1
def BF:Sp:=fun vs H Q _=>∃v ps ts t l1 l2 l3 zs us ws r c,vs=[v,.ref t]/\jbz H v ps ts/\WebOk ps ts/\ps.length<=30/\H t=some (.tup [.ref l1,.ref l2,.ref l3])/\H l1=some (.lst zs)/\H l2=some (.lst us)/\H l3=some (.lst ws)/\Rst ps ts r/\Prs H zs (jL ps ts r)/\jP H us (jt ps ts r)/\Lks H ws c/\ChI ps ts (jt ps ts r) c c.length/\uG ps ts (jt ps ts r) c/\∀H',Same H H'->Q (.bl true) H'
theorem Ja(B:Blt mg)(D:DefAt K mg "_law_right" (ig 65) ["_law_web_here","_law_found"] f fd)(Dzd:DefAt K mg "_law_lets" (ig 61) ["_law_web_here","_law_thing"] fzd dzd)(Gzd:FnOk P w K mg base iu 3 fzd dzd ["_law_web_here","_law_thing"] A4)(Dze:DefAt K mg "_law_next" (ig 62) ["_law_web_here","_law_dues","_law_chain"] fze dze)(Gze:FnOk P w K mg base iu 1 fze dze ["_law_web_here","_law_dues","_law_chain"] zo)(Dq4:DefAt K mg "halves_of" (ig 39) ["web"] fq4 dq4)(Gq4:FnOk P w K mg base iu 7 fq4 dq4 ["web"] qr)(Dqh:DefAt K mg "_law_own" (ig 53) ["_law_web_here"] fqh dqh)(Gqh:FnOk P w K mg base iu 1 fqh dqh ["_law_web_here"] vt)(Dqn:DefAt K mg "_law_named" (ig 64) ["_law_chain"] fqn dqn)(Gqn:FnOk P w K mg base iu 2 fqn dqn ["_law_chain"] vW):FnOk P w K mg base iu 8 f fd ["_law_web_here","_law_found"] BF:=by
 have sc:FnScope ["_law_web_here","_law_found","_law_k","_law_ones","_law_noughts"] ["_law_web_here","_law_found"] (iN (ig 65)):=by walk_at "SC"
 refine D.F.ok sc (fun vs H Q E h=>?_) (fun cdv A outer s H vs Q E hr h=>?_)
 ·obtain⟨v,ps,ts,t,l1,l2,l3,zs,us,ws,r,c,rfl,_⟩:=h
  rfl
 obtain⟨v,ps,ts,t,l1,l2,l3,zs,us,ws,r,c,rfl,hw,wk,h30,et,e1,e2,e3,rst,pz,pu,plk,C,CD,h⟩:=h
 have hu:=iX hr
 have hu0:_<PySem.cLine:=au hu
 refine⟨_,(ik (i7 (PW.pt (jS (jy (jz (iU (kP .tup) rfl B.isinstance aS (h8 (qv 1) (h8 (kQ (v:=.ty "tuple") rfl B.tuple cI rfl) ic))))) (jS (iV mm (iU kc rfl B.len bu (h8 (qv 1) ic)) h9 (iL _)) (ku (jy (jz (iF Gzd (hr.mono (by decide)) rfl Dzd.m Dzd.F.kp Dzd.b .nil iD (h8 (qv 0) (h8 (lE mq (qv 1) lA (lB h9)) ic))))))))) (iw (iG jk)) i8) (ik (i7 (jy (jz (iU (kP .lst) rfl B.isinstance aS (h8 (il ip (qv 1) h9 (fun _ _=>rfl)) (h8 (kQ (v:=.ty "list") rfl B.list bH rfl) ic))))) (iw (iG jk)) i8) (ik (j0 ba rfl (oO rfl B.range (h8 (iU kc rfl B.len bu (h8 (il ip (qv 1) h9 (fun _ _=>rfl)) ic)) ic)) (iE (i:=2) sc.nd rfl (Or.inl rfl)) (iw (i7 (iV (Bz hr.units) (il ip (il ip (qv 1) h9 (fun _ _=>rfl)) (qv 2) (fun _ _=>rfl)) (iF Gze (hr.mono (by decide)) rfl Dze.m Dze.F.kp Dze.b .nil iD (h8 (qv 0) (h8 (il ip (qv 1) h9 (fun _ _=>rfl)) (h8 (lE rR (il ip (qv 1) h9 (fun _ _=>rfl)) lA (lB (qv 2))) ic)))) (by with_unfolding_all rfl)) (iw (iG jk)) i8))) (ik (mh (i:=3) sc.nd rfl (Or.inl rfl) (CpScope.of (N:=["_law_place","_law_h"]) (src:=[none,none]) (by rfl)) rfl (jg (il ip (qv 1) h9 (fun _ _=>rfl))) (fun _ _ _ _=>(jJ (n:=2) rfl (iO (iE (i:=0) (iS (l:=["_law_place","_law_h"]) (by rfl)) rfl (Or.inl rfl)) (iO (iE (i:=1) (iS (l:=["_law_place","_law_h"]) (by rfl)) rfl (Or.inl rfl)) jK)))) (fun _ _ _ _=>(k8 (iV kA (qv 1) h9 (iL _)))) (fun _ _ _ _=>(qv 0))) (ik (mh (i:=4) sc.nd rfl (Or.inl rfl) (CpScope.of (N:=["_law_place","_law_h"]) (src:=[none,none]) (by rfl)) rfl (jg (il ip (qv 1) h9 (fun _ _=>rfl))) (fun _ _ _ _=>(jJ (n:=2) rfl (iO (iE (i:=0) (iS (l:=["_law_place","_law_h"]) (by rfl)) rfl (Or.inl rfl)) (iO (iE (i:=1) (iS (l:=["_law_place","_law_h"]) (by rfl)) rfl (Or.inl rfl)) jK)))) (fun _ _ _ _=>(k8 (iV kA (qv 1) h9 (iL _)))) (fun _ _ _ _=>(qv 0))) (iw (iG (kO (kG (se hr.units) (il ip (qv 1) h9 (fun _ _=>rfl)) (il ip (iF Gq4 (hr.mono (by decide)) rfl Dq4.m Dq4.F.kp Dq4.b .nil iD (h8 (iF Gqh (hr.mono (by decide)) rfl Dqh.m Dqh.F.kp Dqh.b .nil iD (h8 (qv 0) ic)) ic)) h9 (fun _ _=>rfl)) (iL _)) (lY (kG (se hr.units) (iF Gqn (hr.mono (by decide)) rfl Dqn.m Dqn.F.kp Dqn.b .nil iD (h8 (il ip (qv 1) h9 (fun _ _=>rfl)) ic)) (jw (h8 (qv 3) (h8 (qv 4) ic))) (iL _))))))))))),?_⟩
 have std:=Cs wk rst
 have hdl:=vL ps ts r
 have hd:=FR wk rst
 have htl:=wk.tl
 have hpl:=wk.pl
 have hcl:=C.len
 have hzl:=ao pz
 have hhl:=AD ps ts r
 have hqs:(jt ps ts r).length<=200:=by lia
 have hlx:=ao plk
 have hkd:kd H (.ref t)=some .tup:=by unfold kd;dsimp only;rw[et]
 refine iz fun R hR=>?_
 simp_arith[hkd,j5,et,ir]
 rw[aE (by first|decide|simp)]
 refine⟨nJ (.ref l1) (.ref l2) (.ref l3),fun p hp=>?_⟩
 rw[nC]
 have q2:=iq hp (.tup [.ref l1,.ref l2])
 have ep:upd H p (.tup [.ref l1,.ref l2]) p=some (.tup [.ref l1,.ref l2]):=ie
 generalize upd H p (.tup [.ref l1,.ref l2])=H2 at q2 ep
 refine⟨v,ps,ts,p,l1,l2,zs,us,jL ps ts r,jt ps ts r,rfl,hw.same q2,wk,ep,q2 _ _ e1,q2 _ _ e2,Prs.same q2 pz,jD q2.tups pu,hqs,std,fun H3 s3=>?_⟩
 have s03:=q2.trans s3
 have hw3:=hw.same s03
 have et3:=s03 _ _ et
 have e13:=s03 _ _ e1
 have e23:=s03 _ _ e2
 have e33:=s03 _ _ e3
 have pz3:=Prs.same s03 pz
 have pu3:=jD s03.tups pu
 have pl3:=Lks.tups plk s03.tups
 have hkd3:kd H3 (.ref l3)=some .lst:=by unfold kd;dsimp only;rw[e33]
 clear hw et e1 e2 e3 pz pu plk q2 s3 ep hp hkd
 walk_at "D"
 subst hR
 refine iz fun R hR=>?_
 simp_arith[ir,et3,ki,hkd3,j5]
 subst hR
 refine iz fun R hR=>?_
 refine ky (lO 0 c.length) H3 (fun R' hR'=>?_) (oN (n:=c.length) (fun i σ Hc=>∃v1,σ=[some v,some (.ref t),v1,none,none]/\Same H3 Hc/\(∀x∈c.take i,GLk x)/\jN ps ts (jt ps ts r) (ka (c.take i)) (kn (c.take i)) (c.drop i)=true) ⟨none,rfl,Same.refl _,(fun x hx=>by simp at hx),by simpa[ka,kn]using CD.2⟩ ?_ ?_)
 ·unfold oo
  simp_arith[ir,et3,ki,e33]
  refine⟨_,rfl,by lia,by lia,?_⟩
  rw[hlx,Int.toNat_natCast]
  exact hR'
 ·rintro i σ Hc hi ⟨v1,rfl,s1,gl,hch⟩
  simp only[mY,List.set_cons_zero,List.set_cons_succ]
  have hxi:c[i]? =some c[i]:=gE hi
  generalize c[i]=x at hxi
  obtain⟨y,hy,px⟩:=l6 pl3 hxi
  obtain⟨b,rfl,hb⟩:=px.tups s1.tups
  have ha:jb ws (0+(i:Int))=some (.ref b):=by rw[eT];exact k7 hy
  simp_arith[ir,s1 _ _ et3,ki,iT,s1 _ _ e33,ha]
  intro p hp
  rw[eT,Kh (by lia) (by lia),Int.toNat_natCast]
  have q2:=iq hp (.lst (ws.take i))
  have ep:upd Hc p (.lst (ws.take i)) p=some (.lst (ws.take i)):=ie
  generalize upd Hc p (.lst (ws.take i))=H2 at q2 ep
  have s2:=s1.trans q2
  refine⟨v,ps,ts,l2,us,jt ps ts r,p,ws.take i,c.take i,rfl,hw3.same s2,wk,s2 _ _ e23,jD s2.tups pu3,hqs,ep,Cn i (Lks.tups pl3 s2.tups),by rw[aO];lia,gl,fun rn ys H4 s4 hr er pr=>?_⟩
  have s14:=s2.trans s4
  refine⟨lJ x,rn,ys,(qd ps ts (jt ps ts r) (ka (c.take i)) (kn (c.take i))).map lJ,LkAt.rep ⟨b,rfl,(q2.trans s4) _ _ hb⟩,rfl,er,Lks.reps pr,br (vP _) (by decide),?_⟩
  have ok:jX ps ts (jt ps ts r) (ka (c.take i)) (kn (c.take i)) x=true:=by
   rw[nh hxi,jN,bo]at hch
   exact hch.1
  have cx:=(Fh wk hd).mpr ok
  simp only[if_true,Kn,af cx,bN,aM,if_false]
  refine⟨_,rfl,s14,fun z hz=>?_,?_⟩
  ·rw[je hxi]at hz
   rcases bz.mp hz with hz|hz
   ·exact gl z hz
   ·rw[aU.mp hz];exact Ew ok
  ·rw [<- Ht hxi ok]
   exact hch
 rintro σ H4 ⟨v1,rfl,s34,_,_⟩
 have et4:=s34 _ _ et3
 have e14:=s34 _ _ e13
 have e34:=s34 _ _ e33
 have pz4:=Prs.same s34 pz3
 refine(?_:R _ _ _)
 subst hR
 refine iz fun R hR=>?_
 walk_at "D"
 refine jx (i6 K l1) H4 (fun R2 hR2=>?_) (fun z1 hz1=>ju (jL ps ts r).length (fun i σ' Hc=>∃w1 w2,σ'=[w1,w2]/\Same H4 Hc/\Hc z1=some (.lst ((ly 2 ((jL ps ts r).take i)).map V.int))) ⟨none,none,rfl,iq hz1 _,ie⟩ ?_ ?_)
 ·unfold jc
  simp_arith[ir,et4,iJ]
  exact⟨l1,rfl,⟨_,SqL.of e14⟩,hR2⟩
 ·rintro i σ' Hc hi ⟨w1,w2,rfl,s7,ez⟩
  have x1:zs[i]? =some (zs[i]'(by lia)):=gE _
  have zq:SqL K Hc l1 zs:=SqL.of (s7 _ _ e14)
  refine⟨⟨_,_,zq,x1⟩,?_⟩
  rintro y H' ⟨rfl,hy⟩
  obtain⟨p,hp,px⟩:=jl pz4 (hy _ zq)
  obtain⟨b,rfl,hb⟩:=px.same s7
  simp_arith[hb]
  have hpl:=AR 2 (jL ps ts r) i
  rw[BD hp]
  by_cases cc:p.2=2
  ·simp only[af cc,if_true]
   refine⟨_,ez,?_,_,_,rfl,iW s7 hz1,?_⟩
   ·rw[aa]
    exact iM (by lia)
   ·rw[ie,ah]
    rfl
  ·simp only[az cc,aM,if_false,bb]
   exact⟨_,_,rfl,s7,ez⟩
 rintro σ' H5 ⟨w1,w2,rfl,s45,ez1⟩
 refine⟨⟨_,SqL.of (s45 _ _ e14),by lia⟩,?_⟩
 rw[aG]at ez1
 have et5:=s45 _ _ et4
 have e15:=s45 _ _ e14
 have pz5:=Prs.same s45 pz4
 subst hR
 refine iz fun R hR=>?_
 walk_at "D"
 refine jx (i6 K l1) H5 (fun R2 hR2=>?_) (fun z2 hz2=>ju (jL ps ts r).length (fun i σ' Hc=>∃w1 w2,σ'=[w1,w2]/\Same H5 Hc/\Hc z2=some (.lst ((ly 0 ((jL ps ts r).take i)).map V.int))) ⟨none,none,rfl,iq hz2 _,ie⟩ ?_ ?_)
 ·unfold jc
  simp_arith[ir,et5,iJ]
  exact⟨l1,rfl,⟨_,SqL.of e15⟩,hR2⟩
 ·rintro i σ' Hc hi ⟨w1,w2,rfl,s7,ez⟩
  have x1:zs[i]? =some (zs[i]'(by lia)):=gE _
  have zq:SqL K Hc l1 zs:=SqL.of (s7 _ _ e15)
  refine⟨⟨_,_,zq,x1⟩,?_⟩
  rintro y H' ⟨rfl,hy⟩
  obtain⟨p,hp,px⟩:=jl pz5 (hy _ zq)
  obtain⟨b,rfl,hb⟩:=px.same s7
  simp_arith[hb]
  have hpl:=AR 0 (jL ps ts r) i
  rw[BD hp]
  by_cases cc:p.2=0
  ·simp only[af cc,if_true]
   refine⟨_,ez,?_,_,_,rfl,iW s7 hz2,?_⟩
   ·rw[aa]
    exact iM (by lia)
   ·rw[ie,ah]
    rfl
  ·simp only[az cc,aM,if_false,bb]
   exact⟨_,_,rfl,s7,ez⟩
 rintro σ' H6 ⟨w1,w2,rfl,s56,ez2⟩
 refine⟨⟨_,SqL.of (s56 _ _ e15),by lia⟩,?_⟩
 rw[aG]at ez2
 have s46:=s45.trans s56
 have s36:=s34.trans s46
 have s06:=s03.trans s36
 subst hR
 simp_arith[ir,s46 _ _ et4,iJ]
 refine⟨v,ps,ts,rfl,hw3.same s36,fun t5 H7 s7 nw=>?_⟩
 walk_at "D"
 refine⟨.ref t5,ps,ts,rfl,qe nw,wk,h30,fun t6 f1 f2 zs' us' r' H8 s8 et6 ef1 _ _ _ _ _ rst' pz' _=>?_⟩
 simp_arith[ir,et6,iJ]
 rw[rst'.one rst]at pz'
 have s38:=(s36.trans s7).trans s8
 have s68:=s7.trans s8
 refine⟨.lst ((jL ps ts r).map jd),.lst ((jL ps ts r).map jd),(by rw[Rep];exact⟨l1,zs,rfl,s38 _ _ e13,Prs.reps (Prs.same s38 pz3)⟩),(by rw[Rep];exact⟨f1,zs',rfl,ef1,Prs.reps pz'⟩),(by rw[jF];have:=nX (jL ps ts r);lia),.inl ⟨_,_,rfl,rfl⟩,?_⟩
 rw[kR]
 simp_arith[ir,s38 _ _ et3,ki]
 refine⟨l3,ws,c,rfl,s38 _ _ e33,Lks.tups pl3 s38.tups,C.good,by lia,fun tn a b ms ns H9 s9 _ _ _ en ea eb r1 r2=>?_⟩
 walk_at "D"
 intro tt htt
 have qt:=iq htt (.tup [.ref z1,.ref z2])
 have ett:upd H9 tt (.tup [.ref z1,.ref z2]) tt=some (.tup [.ref z1,.ref z2]):=ie
 generalize upd H9 tt (.tup [.ref z1,.ref z2])=H10 at qt ett
 have s6A:=(s68.trans s9).trans qt
 obtain⟨em,en2⟩:=AK wk rst C r1 r2
 refine⟨lq ms ns,lq ms ns,mM (qt _ _ en) (qt _ _ ea) (qt _ _ eb),mM ett (by rw[em];exact s6A _ _ (s56 _ _ ez1)) (by rw[en2];exact s6A _ _ ez2),qH _ _,.inr ⟨_,_,rfl,rfl⟩,?_⟩
 rw[kR]
 walk_at "D"
 exact h _ (s06.trans s6A)
def rT(K:PySem.W.Frag):Sp:=fun vs H Q _=>∃a ns,vs=[.ref a]/\Scr K H a ns/\∀H',Q (.bl true) H'
def Kps(M:List Addr)(H H':Hp):Prop:=∀b o,b∉M->H b=some o->H' b=some o
theorem Kps.same{M:List Addr}{H H1 H2:Hp}(k:Kps M H H1)(s:Same H1 H2):Kps M H H2:=fun b o nb q=>s _ _ (k b o nb q)
theorem Kps.upd{M:List Addr}{H H1:Hp}{m:Addr}{o:HO}(k:Kps M H H1)(h:m∈M):Kps M H (upd H1 m o):=fun b u nb q=>by
 rw[ix (fun z=>nb (by rw[z];exact h))]
 exact k b u nb q
theorem Kps.new{M:List Addr}{H H0 H1:Hp}{m:Addr}{o:HO}(k0:Kps M H H0)(k:Kps M H H1)(h:H0 m=none):Kps M H (L2.upd H1 m o):=fun b u nb q=>by
 rw[ix (iI (k0 b u nb q) h)]
 exact k b u nb q
theorem yT{M:List Addr}{H:Hp}{b:Addr}{o:HO}(e:H b=some o)(n:∀m∈M,H m=none):b∉M:=fun z=>by
 have:=n b z
 rw[e]at this
 cases this
theorem o9{M:List Addr}{H:Hp}{b:Addr}(e:H b=none)(n:∀m∈M,∃l,H m=some (.lst l)):b∉M:=fun z=>by
 obtain⟨l,q⟩:=n b z
 rw[e]at q
 cases q
theorem Kps.tups{M:List Addr}{H H':Hp}(k:Kps M H H')(n:∀m∈M,∃l,H m=some (.lst l)):TupS H H':=fun b o e q=>k b o (fun z=>by
 obtain⟨l,h⟩:=n b z
 rw[q]at h
 cases h
 cases e) q
noncomputable def mQ(c:List Lk):Dt:=.lst (c.map lJ)
def n8(qs:List (Int×Int×Int)):Dt:=.lst (qs.map jq)
theorem sv{H:Hp}{a:Addr}{ws:List V}{c:List Lk}(e:H a=some (.lst ws))(p:Lks H ws c):Rep H (mQ c) (.ref a):=by
 rw[mQ,Rep]
 exact⟨a,ws,rfl,e,Lks.reps p⟩
theorem vd{H:Hp}{a:Addr}{us:List V}{qs:List (Int×Int×Int)}(e:H a=some (.lst us))(p:jP H us qs):Rep H (n8 qs) (.ref a):=by
 rw[n8,Rep]
 exact⟨a,us,rfl,e,wG p⟩
theorem vI(c:List Lk):jF (mQ c)<=2:=by
 have:=vP c
 unfold mQ
 rw[jF]
 lia
theorem yG(qs:List (Int×Int×Int)):jF (n8 qs)<=2:=by
 have:=BJ qs
 unfold n8
 rw[jF]
 lia
noncomputable def om(hs:List (Int×Int))(qs:List (Int×Int×Int))(c:List Lk):Dt:=.lst [.lst (hs.map jd),n8 qs,mQ c]
theorem yP{H:Hp}{k a1 a2 a3:Addr}{zs us ws:List V}{hs:List (Int×Int)}{qs:List (Int×Int×Int)}{c:List Lk}(e:H k=some (.lst [.ref a1,.ref a2,.ref a3]))(e1:H a1=some (.lst zs))(e2:H a2=some (.lst us))(e3:H a3=some (.lst ws))(pz:Prs H zs hs)(pu:jP H us qs)(pl:Lks H ws c):Rep H (om hs qs c) (.ref k):=by
 rw[om,Rep]
 refine⟨k,_,rfl,e,?_⟩
 rw[Reps]
 refine⟨_,_,rfl,by rw[Rep];exact⟨a1,zs,rfl,e1,Prs.reps pz⟩,?_⟩
 rw[Reps]
 refine⟨_,_,rfl,vd e2 pu,?_⟩
 rw[Reps]
 exact⟨_,_,rfl,sv e3 pl,by rw[Reps]⟩
theorem EF(hs:List (Int×Int))(qs:List (Int×Int×Int))(c:List Lk):jF (om hs qs c)<=20:=by
 have h1:=nX hs
 have h2:=yG qs
 have h3:=vI c
 unfold om
 rw[jF,jo,jF,jo,jo,jo]
 lia
theorem GF{x:Lk}(h:jig x):x.2.length<=8:=by
 rcases h with⟨p,rfl⟩|⟨u,v,rfl⟩|⟨u,v,rfl⟩<;>simp
theorem BC(ps:List (Int×Int)):ly 2 (ps.map fun p=>(p.1,(0:Int)))=[]/\ly 0 (ps.map fun p=>(p.1,(0:Int)))=ps.map (·.1):=by
 induction ps with
 |nil=>exact⟨rfl,rfl⟩
 |cons p r ih=>
  unfold ly at ih ⊢
  rw[ai,List.filter_cons_of_neg (by simp),List.filter_cons_of_pos (by simp),ai,ih.2]
  exact⟨ih.1,rfl⟩
theorem Eu(B:Blt mg)(D:DefAt K mg "law" (ig 66) ["_law_script"] f fd)(Dzc:DefAt K mg "_law_begun" (ig 54) ["_law_script","_law_k"] fzc dzc)(Gzc:FnOk P w K mg base iu 1 fzc dzc ["_law_script","_law_k"] (z5 K))(Dzi:DefAt K mg "_law_web" (ig 57) ["_law_state","_law_most"] fzi dzi)(Gzi:FnOk P w K mg base iu 3 fzi dzi ["_law_state","_law_most"] zr)(Dzh:DefAt K mg "_law_turned" (ig 63) ["_law_state","_law_web_here"] fzh dzh)(Gzh:FnOk P w K mg base iu 2 fzh dzh ["_law_state","_law_web_here"] Ai)(Dqi:DefAt K mg "fixed_paper" (ig 50) ["web"] fqi dqi)(Gqi:FnOk P w K mg base iu 7 fqi dqi ["web"] vw)(Dzg:DefAt K mg "_law_right" (ig 65) ["_law_web_here","_law_found"] fzg dzg)(Gzg:FnOk P w K mg base iu 8 fzg dzg ["_law_web_here","_law_found"] BF)(Dzj:DefAt K mg "lets_fixed" (ig 46) ["web","thing"] fzj dzj)(Gzj:FnOk P w K mg base iu 6 fzj dzj ["web","thing"] z9)(Dqh:DefAt K mg "_law_own" (ig 53) ["_law_web_here"] fqh dqh)(Gqh:FnOk P w K mg base iu 1 fqh dqh ["_law_web_here"] vt)(Dqn:DefAt K mg "_law_named" (ig 64) ["_law_chain"] fqn dqn)(Gqn:FnOk P w K mg base iu 2 fqn dqn ["_law_chain"] vW)(Dqm:DefAt K mg "fixed_by" (ig 47) ["chain"] fqm dqm)(Gqm:FnOk P w K mg base iu 2 fqm dqm ["chain"] vv)(Dqs:DefAt K mg "fixed_of" (ig 51) ["web"] fqs dqs)(Gqs:FnOk P w K mg base iu 8 fqs dqs ["web"] zf):FnOk P w K mg base iu 9 f fd ["_law_script"] (rT K):=by
 have sc:FnScope ["_law_script","_law_k","_law_state","_law_web_here","_law_handed","_law_found","_law_kept","_law_named_here"] ["_law_script"] (iN (ig 66)):=by walk_at "SC"
 refine D.F.ok sc (fun vs H Q E h=>?_) (fun cdv A outer s H vs Q E hr h=>?_)
 ·obtain⟨a,ns,rfl,_⟩:=h
  rfl
 obtain⟨a,ns,rfl,hs,h⟩:=h
 have hu:=iX hr
 have hu0:_<PySem.cLine:=au hu
 refine⟨_,(ik (j0 ba rfl (oO rfl B.range (h8 (iU (yv rfl) rfl B.max PyProof.Rows.boot_max (h8 h9 (h8 (iU (D4 rfl) rfl B.min gb (h8 (iU xo rfl B.len bu (h8 (qv 0) ic)) (h8 h9 ic))) ic))) ic)) (iE (i:=1) sc.nd rfl (Or.inl rfl)) (ik (iH (i:=2) sc.nd rfl (Or.inl rfl) (iF Gzc (hr.mono (by decide)) rfl Dzc.m Dzc.F.kp Dzc.b .nil iD (h8 (qv 0) (h8 (qv 1) ic)))) (ik (iH (i:=3) sc.nd rfl (Or.inl rfl) (iF Gzh (hr.mono (by decide)) rfl Dzh.m Dzh.F.kp Dzh.b .nil iD (h8 (qv 2) (h8 (iF Gzi (hr.mono (by decide)) rfl Dzi.m Dzi.F.kp Dzi.b .nil iD (h8 (qv 2) (h8 (il ip (kL (h8 h9 (h8 h9 ic))) (lN D6 rfl B.int gf (h8 (kG kA (qv 1) h9 (iL _)) ic)) (fun _ _=>rfl)) ic))) ic)))) (ik (iH (i:=4) sc.nd rfl (Or.inl rfl) (jw (h8 (lN pH rfl B.list bH (h8 (il ip (qv 3) h9 (fun _ _=>rfl)) ic)) (h8 (lN pH rfl B.list bH (h8 (il ip (qv 3) h9 (fun _ _=>rfl)) ic)) ic)))) (ik (iH (i:=5) sc.nd rfl (Or.inl rfl) (iF Gqi (hr.mono (by decide)) rfl Dqi.m Dqi.F.kp Dqi.b .nil iD (h8 (qv 4) ic))) (ik (i7 (PW.pt (jS (jy (jz (iF Gzg (hr.mono (by decide)) rfl Dzg.m Dzg.F.kp Dzg.b .nil iD (h8 (qv 3) (h8 (qv 5) ic))))) (ku (iV (mv hr.units) (qv 4) (qv 3) (iL _))))) (iw (iG jk)) i8) (ik (i7 (iV D3 (iF Gzj (hr.mono (by decide)) rfl Dzj.m Dzj.F.kp Dzj.b .nil iD (h8 (iF Gqh (hr.mono (by decide)) rfl Dqh.m Dqh.F.kp Dqh.b .nil iD (h8 (qv 3) ic)) (h8 (qv 5) ic))) jk (iL _)) (iw (iG jk)) i8) (ik (mh (i:=6) sc.nd rfl (Or.inl rfl) (CpScope.of (N:=["_law_some"]) (src:=[none]) (by rfl)) rfl (sh (qv 5)) (fun _ _ _ _=>(iE (i:=0) (iS (l:=["_law_some"]) (by rfl)) rfl (Or.inl rfl))) (fun _ _ _ _=>kf) (fun _ _ _ _=>(lN pH rfl B.list bH (h8 (qv 0) ic)))) (ik (iH (i:=7) sc.nd rfl (Or.inl rfl) (iF Gqn (hr.mono (by decide)) rfl Dqn.m Dqn.F.kp Dqn.b .nil iD (h8 (il ip (qv 5) h9 (fun _ _=>rfl)) ic))) (ik (i7 (PW.pt (jS (iV (mv hr.units) (iF Gqm (hr.mono (by decide)) rfl Dqm.m Dqm.F.kp Dqm.b .nil iD (h8 (il ip (qv 5) h9 (fun _ _=>rfl)) ic)) (qv 7) (iL _)) (jS (iV (mv hr.units) (iF Gqs (hr.mono (by decide)) rfl Dqs.m Dqs.F.kp Dqs.b .nil iD (h8 (qv 4) ic)) (qv 7) (iL _)) (ku (iV (mv hr.units) (qv 4) (qv 3) (iL _)))))) (iw (iG jk)) i8) (ik (jV (kN aY bh bg kS (il ip (qv 5) h9 (fun _ _=>rfl)) (h8 sf ic))) (ik (i7 (PW.pt (jS (iV (mv hr.units) (il ip (qv 5) h9 (fun _ _=>rfl)) (il ip (qv 6) h9 (fun _ _=>rfl)) (iL _)) (ku (iV (mv hr.units) (il ip (qv 5) h9 (fun _ _=>rfl)) (il ip (qv 6) h9 (fun _ _=>rfl)) (iL _))))) (iw (iG jk)) i8) (ik (jV (kN aY bh bg kS (il ip (qv 5) h9 (fun _ _=>rfl)) (h8 sf ic))) (ik (i7 (iV (mv hr.units) (il ip (qv 5) h9 (fun _ _=>rfl)) (il ip (qv 6) h9 (fun _ _=>rfl)) (iL _)) (iw (iG jk)) i8) (ik (jV (yx aY PySem.F.slot_list_clear PySem.F.type_list_clear zX (il ip (qv 5) h9 (fun _ _=>rfl)))) (ik (jV (yx aY PySem.F.slot_list_clear PySem.F.type_list_clear zX (il ip (qv 4) h9 (fun _ _=>rfl)))) (ik (i7 (iV (mv hr.units) (iF Gqs (hr.mono (by decide)) rfl Dqs.m Dqs.F.kp Dqs.b .nil iD (h8 (qv 4) ic)) (jw (h8 (kL ic) (h8 (jU (CpScope.of (N:=["_law_place","_law_price"]) (src:=[none,none]) (by rfl)) rfl (jg (il ip (qv 3) h9 (fun _ _=>rfl))) (fun _ _ _ _=>(jJ (n:=2) rfl (iO (iE (i:=0) (iS (l:=["_law_place","_law_price"]) (by rfl)) rfl (Or.inl rfl)) (iO (iE (i:=1) (iS (l:=["_law_place","_law_price"]) (by rfl)) rfl (Or.inl rfl)) jK)))) (fun _ _ _ _=>kf) (fun _ _ _ _=>(qv 0))) ic))) (iL _)) (iw (iG jk)) i8) (ik (jV (kN aY bh bg kS (il ip (iF Gqs (hr.mono (by decide)) rfl Dqs.m Dqs.F.kp Dqs.b .nil iD (h8 (iF Gqh (hr.mono (by decide)) rfl Dqh.m Dqh.F.kp Dqh.b .nil iD (h8 (qv 3) ic)) ic)) h9 (fun _ _=>rfl)) (h8 h9 ic))) (iw (i7 (PW.pt (jS (iV (mv hr.units) (lN pH rfl B.list bH (h8 (iF Gqi (hr.mono (by decide)) rfl Dqi.m Dqi.F.kp Dqi.b .nil iD (h8 (iF Gqh (hr.mono (by decide)) rfl Dqh.m Dqh.F.kp Dqh.b .nil iD (h8 (qv 3) ic)) ic)) ic)) (qv 6) (iL _)) (ku (iV (mv hr.units) (iF Gqs (hr.mono (by decide)) rfl Dqs.m Dqs.F.kp Dqs.b .nil iD (h8 (iF Gqh (hr.mono (by decide)) rfl Dqh.m Dqh.F.kp Dqh.b .nil iD (h8 (qv 3) ic)) ic)) (qv 7) (iL _))))) (iw (iG jk)) i8)))))))))))))))))))) (iw (iG jk))),?_⟩
 refine iz fun R hR=>?_
 obtain⟨N,hN,hN2⟩:∃N:Nat,N=(if(1:Int)<(if(8:Int)<(ns.length:Int)then 8 else(ns.length:Int))then(if(8:Int)<(ns.length:Int)then 8 else(ns.length:Int))else 1).toNat/\N<70:=⟨_,rfl,by split<;>split<;>lia⟩
 refine ky (lO 0 N) H (fun R' hR'=>?_) (oN (n:=N) (fun i σ H1=>∃v1 v2 v3 v4 v5 v6 v7,σ=[some (.ref a),v1,v2,v3,v4,v5,v6,v7]/\Scr K H1 a ns) ⟨none,none,none,none,none,none,none,rfl,hs⟩ ?_ ?_)
 ·unfold oo
  walk_at "D"
  refine⟨a,_,rfl,.inl hs.sq,?_⟩
  simp_arith[aa]
  refine⟨_,rfl,?_,?_,?_⟩
  ·split<;>split<;>lia
  ·split<;>split<;>lia
  ·rw [<- hN]
   exact hR'
 ·rintro i σ H1 hi ⟨v1,v2,v3,v4,v5,v6,v7,rfl,hs1⟩
  simp only[mY,List.set_cons_zero,List.set_cons_succ]
  refine iz fun R9 hR9=>?_
  walk_at "D"
  refine⟨a,0+(i:Int),ns,rfl,hs1,by lia,by lia,fun st o hst so=>?_⟩
  have s2:=iq hst o
  have e2:upd H1 st o st=some o:=ie
  have hs2:=hs1.tups s2.tups
  generalize upd H1 st o=H2 at s2 e2 hs2
  subst hR9
  refine iz fun R9 hR9=>?_
  walk_at "D"
  obtain⟨m,hm0,hm1,hm⟩:∃m:Int,0<=m/\m<=15/\jb [V.int 10,V.int 15] (if decide (0+(i:Int)=0)=true then 1 else 0)=some (.int m):=by
   split
   ·exact⟨15,by decide,by decide,iT⟩
   ·exact⟨10,by decide,by decide,iJ⟩
  intro lw hlw
  have s9:=iq hlw (.lst [.int 10,.int 15])
  have elw:upd H2 lw (.lst [.int 10,.int 15]) lw=some (.lst [.int 10,.int 15]):=ie
  have e9:=s9 _ _ e2
  have hs9:=hs2.tups s9.tups
  generalize upd H2 lw (.lst [.int 10,.int 15])=H9 at s9 elw e9 hs9
  simp_arith[ir,elw,hm]
  refine⟨st,o,m,rfl,e9,so,hm0,hm1,fun v0 H20 o20 ps0 ts b20 e20 so20 W0 wk0 dr hpl0 htl=>?_⟩
  have hs20:=hs9.tups (b20.tups e9 so.imm)
  walk_at "D"
  refine⟨st,o20,v0,ps0,ts,rfl,e20,so20,W0,wk0,dr,by lia,fun v H3 o3 ps b3 e3 so3 hw wk hl3=>?_⟩
  have hs3:=hs20.tups (b3.tups e20 so20.imm)
  have W3:=hw
  obtain⟨u,pa,ta,xs,ys,rfl,eu,epa,eta,hxs,hys⟩:=hw
  clear e2 s2 hs2 e3 so3 so hst b20 e20 so20 W0 wk0 dr s9 elw e9 hs9 hm0 hs20 b3
  subst hR9
  refine iz fun R9 hR9=>?_
  simp_arith[ir,eu,iJ,iT,epa]
  intro l1 hl1
  have s4:=iq hl1 (.lst xs)
  have e_l1o:upd H3 l1 (.lst xs) l1=some (.lst xs):=ie
  have e_eu4:=s4 _ _ eu
  have e_eta4:=s4 _ _ eta
  generalize upd H3 l1 (.lst xs)=H4 at s4 e_l1o e_eu4 e_eta4
  simp_arith[ir,e_eu4,iT,e_eta4]
  intro l2 hl2
  have s5:=s4.trans (iq hl2 (.lst ys))
  have e_l1p:=iq hl2 (.lst ys) _ _ e_l1o
  have e_l2p:upd H4 l2 (.lst ys) l2=some (.lst ys):=ie
  generalize upd H4 l2 (.lst ys)=H5 at s5 e_l1p e_l2p
  intro h0 hh0
  have s6:=s5.trans (iq hh0 (.tup [.ref l1,.ref l2]))
  have e_l1:=iq hh0 (.tup [.ref l1,.ref l2]) _ _ e_l1p
  have e_l2:=iq hh0 (.tup [.ref l1,.ref l2]) _ _ e_l2p
  have e_h0:upd H5 h0 (.tup [.ref l1,.ref l2]) h0=some (.tup [.ref l1,.ref l2]):=ie
  generalize upd H5 h0 (.tup [.ref l1,.ref l2])=H6 at s6 e_l1 e_l2 e_h0
  have hs6:=hs3.tups s6.tups
  have W6:=W3.same s6
  have V6:jbz H6 (.ref h0) ps ts:=⟨h0,l1,l2,xs,ys,rfl,e_h0,e_l1,e_l2,Prs.same s6 hxs,Prs.same s6 hys⟩
  have nl:l1≠l2:=iI e_l1o hl2
  subst hR9
  refine iz fun R9 hR9=>?_
  walk_at "D"
  refine⟨.ref h0,ps,ts,rfl,V6,wk,by lia,fun t f1 f2 f3 zs us ws r c H7 s7 et ef1 ef2 ef3 n1 n2 n3 f12 f13 f23 rst pz pu plk C CD=>?_⟩
  have s37:=s6.trans s7
  have hpl:=wk.pl
  have hcl:=C.len
  have hdl:=vL ps ts r
  have hhl:=AD ps ts r
  have fx0:qS ps ts (jL ps ts r) (jt ps ts r) c=true:=by unfold qS oj;rw[Cs wk rst,CD.2];rfl
  obtain⟨qs,hqe⟩:∃qs,qs=jL ps ts r:=⟨_,rfl⟩
  obtain⟨ds,hde⟩:∃ds,ds=jt ps ts r:=⟨_,rfl⟩
  subst hR9
  refine iz fun R9 hR9=>?_
  walk_at "D"
  refine⟨.ref u,ps,ts,t,f1,f2,f3,zs,us,ws,r,c,rfl,W3.same s37,wk,by lia,et,ef1,ef2,ef3,rst,pz,pu,plk,C,CD,fun H8 s8=>?_⟩
  walk_at "D"
  have s68:=s7.trans s8
  have s38:=s6.trans s68
  refine⟨_,_,sV (V6.same s68),sV (W3.same s38),Av ps ts,.inr ⟨_,_,rfl,rfl⟩,?_⟩
  rw[kR]
  have et8:=s8 _ _ et
  have ef18:=s8 _ _ ef1
  have ef28:=s8 _ _ ef2
  have ef38:=s8 _ _ ef3
  have pz8:=Prs.same s8 pz
  have pu8:=jD s8.tups pu
  have pl8:=Lks.tups plk s8.tups
  rw [<- hqe] at pz8 fx0 hhl
  rw [<- hde] at pu8 fx0 hdl
  clear et ef1 ef2 ef3 pz pu plk
  walk_at "D"
  subst hR9
  refine iz fun R9 hR9=>?_
  walk_at "D"
  refine⟨.ref u,ps,ts,rfl,W3.same s38,fun t9 H9 s9 nw9=>?_⟩
  walk_at "D"
  refine⟨.ref t9,ps,ts,t,f1,f2,f3,qs,ds,c,rfl,qe nw9,wk,⟨s9 _ _ et8,⟨zs,s9 _ _ ef18,Prs.same s9 pz8⟩,⟨us,s9 _ _ ef28,jD s9.tups pu8⟩,⟨ws,s9 _ _ ef38,Lks.tups pl8 s9.tups⟩⟩,by have:=wk.tl;lia,by lia,fun x hx=>GF (C.good x hx),fun HA sA=>?_⟩
  rw[fx0]
  have s8A:=s9.trans sA
  have etA:=s8A _ _ et8
  have ef1A:=s8A _ _ ef18
  have ef2A:=s8A _ _ ef28
  have ef3A:=s8A _ _ ef38
  have pzA:=Prs.same s8A pz8
  have puA:=jD s8A.tups pu8
  have plA:=Lks.tups pl8 s8A.tups
  have s3A:=s38.trans s8A
  have s6A:=s68.trans s8A
  clear et8 ef18 ef28 ef38 pz8 pu8 pl8 nw9 fx0 s9 sA s8A s38 s68 s8 s37
  walk_at "D"
  rw[aE (by decide)]
  subst hR9
  refine iz fun R9 hR9=>?_
  have srcs:Paired (fun v xs=>∃l,v=V.ref l/\HA l=some (.lst xs)) [V.ref f1,.ref f2,.ref f3] [zs,us,ws]:=.cons ⟨f1,rfl,ef1A⟩ (.cons ⟨f2,rfl,ef2A⟩ (.cons ⟨f3,rfl,ef3A⟩ .nil))
  walk_at "D"
  refine jx (pO K t) HA (fun R2 hR2=>?_) (fun z hz0=>ju 3 (fun j σ' Hc=>∃w1 ks,σ'=[w1]/\Same HA Hc/\Hc z=some (.lst (ks.map V.ref))/\ks.length=j/\Paired (fun k xs=>HA k=none/\k≠z/\Hc k=some (.lst xs)) ks ([zs,us,ws].take j)) ⟨none,[],rfl,iq hz0 _,ie,rfl,.nil⟩ ?_ ?_)
  ·unfold qR
   walk_at "D"
   exact⟨t,rfl,⟨_,SqT.of etA⟩,hR2⟩
  ·rintro j σ' Hc hj ⟨w1,ks,rfl,s7,ez,hkl,pk⟩
   have z1:SqT K Hc t [V.ref f1,.ref f2,.ref f3]:=SqT.of (s7 _ _ etA)
   have x1:[V.ref f1,.ref f2,.ref f3][j]? =some ([V.ref f1,.ref f2,.ref f3][j]'hj):=gE _
   refine⟨⟨_,_,z1,x1⟩,?_⟩
   rintro y H' ⟨rfl,hy⟩
   obtain⟨sl,hsl,l,rfl,el⟩:=jl srcs (hy _ z1)
   simp_arith[ir,s7 _ _ el]
   intro k hk
   have q5:=iq hk (.lst sl)
   have ek:upd H' k (.lst sl) k=some (.lst sl):=ie
   have ez5:=q5 _ _ ez
   have nkz:k≠z:=(iI ez hk).symm
   generalize upd H' k (.lst sl)=H5 at q5 ek ez5
   refine⟨ks.map V.ref,ez5,by rw[aa];exact iM (by lia),_,ks++[k],rfl,iW (s7.trans q5) hz0,by rw[ie,ah];rfl,by rw[aK,hkl];rfl,?_⟩
   rw[je hsl]
   refine kg (Paired.mapP pk fun a b q=>⟨q.1,q.2.1,by rw[ix q.2.1];exact q5 _ _ q.2.2⟩) ⟨s7.free hk,nkz,by rw[ix nkz];exact ek⟩
  rintro σ' HB ⟨w1,ks,rfl,sB,ekl,_,pk⟩
  refine⟨⟨_,SqT.of (sB _ _ etA),aF 3⟩,?_⟩
  obtain⟨k1,k2,k3,rfl,⟨kn1,_,ek1⟩,⟨kn2,_,ek2⟩,kn3,_,ek3⟩:∃k1 k2 k3,ks=[k1,k2,k3]/\(HA k1=none/\k1≠z/\HB k1=some (.lst zs))/\(HA k2=none/\k2≠z/\HB k2=some (.lst us))/\(HA k3=none/\k3≠z/\HB k3=some (.lst ws)):=by
   cases pk with
   | cons a p=>cases p with
    | cons b p=>cases p with
     |cons c p=>cases p with
      |nil=>exact⟨_,_,_,rfl,a,b,c⟩
  have M4:∀m∈[f1,f2,f3,l2],∃l,HA m=some (.lst l):=by
   intro m hm
   simp only[aR,fe,hJ]at hm
   rcases hm with rfl|rfl|rfl|rfl
   ·exact⟨_,ef1A⟩
   ·exact⟨_,ef2A⟩
   ·exact⟨_,ef3A⟩
   ·exact⟨_,s6A _ _ e_l2⟩
  have N3:∀m∈[f1,f2,f3,l2],H3 m=none:=by
   intro m hm
   simp only[aR,fe,hJ]at hm
   rcases hm with rfl|rfl|rfl|rfl
   ·exact s6.free n1
   ·exact s6.free n2
   ·exact s6.free n3
   ·exact s4.free hl2
  have nz:z∉[f1,f2,f3,l2]:=o9 hz0 M4
  have nk1:=o9 kn1 M4
  have nk2:=o9 kn2 M4
  have nk3:=o9 kn3 M4
  have npa:=yT epa N3
  have nta:=yT eta N3
  have nl1:l1∉[f1,f2,f3,l2]:=by
   simp only[aR,fe,hJ,not_or]
   exact⟨iI e_l1 n1,iI e_l1 n2,iI e_l1 n3,nl⟩
  have m1:l2≠f1:=iI e_l2 n1
  have m2:l2≠f2:=iI e_l2 n2
  have m3:l2≠f3:=iI e_l2 n3
  clear srcs pk hz0 kn1 kn2 kn3 n1 n2 n3 N3 nl
  have etB:=sB _ _ etA
  subst hR9
  refine iz fun R9 hR9=>?_
  simp_arith[ir,etB,ki]
  refine⟨f3,ws,c,rfl,sB _ _ ef3A,Lks.tups plA sB.tups,C.good,by lia,fun tn na nb ms ns' HC sC _ hna hnb etn ena enb r1 r2=>?_⟩
  have sAC:=sB.trans sC
  have nna:=o9 (sB.free hna) M4
  have nnb:=o9 (sB.free hnb) M4
  subst hR9
  refine iz fun R9 hR9=>?_
  simp_arith[ir,sAC _ _ etA,ki]
  refine⟨f3,ws,c,rfl,sAC _ _ ef3A,Lks.tups plA sAC.tups,C.good,C.nd,by lia,fun t8 a8 b8 ms8 ns8 HD sD _ _ _ et8 ea8 eb8 r81 r82=>?_⟩
  refine⟨lq ms8 ns8,lq ms ns',mM et8 ea8 eb8,mM (sD _ _ etn) (sD _ _ ena) (sD _ _ enb),qH _ _,.inr ⟨_,_,rfl,rfl⟩,?_⟩
  rw[oJ r81 r1,oJ r82 r2,kR]
  have sAD:=sAC.trans sD
  walk_at "D"
  refine⟨.ref h0,ps,ts,rfl,V6.same (s6A.trans sAD),wk,by lia,fun t9 a9 b9 ms9 ns9 r9 c9 HE sE _ _ _ et9 ea9 eb9 rst9 _ CD9 r91 r92=>?_⟩
  rw[rst9.one rst]at CD9
  rw[CD9.1.one CD.1]at r91 r92
  have sCE:=sD.trans sE
  refine⟨lq ms9 ns9,lq ms ns',mM et9 ea9 eb9,mM (sCE _ _ etn) (sCE _ _ ena) (sCE _ _ enb),qH _ _,.inr ⟨_,_,rfl,rfl⟩,?_⟩
  rw[oJ r91 r1,oJ r92 r2,kR]
  have sAE:=sAC.trans sCE
  walk_at "D"
  refine⟨_,_,sV (V6.same (s6A.trans sAE)),sV (W3.same (s3A.trans sAE)),Av ps ts,.inr ⟨_,_,rfl,rfl⟩,?_⟩
  rw[kR]
  walk_at "D"
  have s3E:=s3A.trans sAE
  have s6E:=s6A.trans sAE
  have sBE:=sC.trans sCE
  have ME:∀m∈[f1,f2,f3,l2],∃l,HE m=some (.lst l):=fun m hm=>let⟨l,q⟩:=M4 m hm;⟨l,sAE _ _ q⟩
  have ef1E:=sAE _ _ ef1A
  have ef2E:=sAE _ _ ef2A
  have ef3E:=sAE _ _ ef3A
  have el2E:=s6E _ _ e_l2
  have hzs:=ao pzA
  have hus:=ao puA
  have htl2:=wk.tl
  have hsE:=hs6.tups s6E.tups
  have FX:∀{Hc:Hp},Kps [f1,f2,f3,l2] HE Hc->TupS HE Hc/\Hc t=some (.tup [.ref f1,.ref f2,.ref f3])/\jbz Hc (.ref u) ps ts/\Hc h0=some (.tup [.ref l1,.ref l2])/\Hc l1=some (.lst xs)/\Prs Hc xs ps/\Hc z=some (.lst [.ref k1,.ref k2,.ref k3])/\Rep Hc (om qs ds c) (.ref z)/\Rep Hc (n8 ds) (.ref k2)/\Rep Hc (mQ c) (.ref k3)/\Rep Hc (lq ms ns') (.ref tn)/\jP Hc us ds/\Lks Hc ws c:=fun{Hc} k=>by
   have tp:=k.tups ME
   have euE:=s3E _ _ eu
   have etE:=sAE _ _ etA
   have ehE:=s6E _ _ e_h0
   have etnE:=sCE _ _ etn
   have zk:=k _ _ nz (sBE _ _ ekl)
   have q1:=k _ _ nk1 (sBE _ _ ek1)
   have q2:=k _ _ nk2 (sBE _ _ ek2)
   have q3:=k _ _ nk3 (sBE _ _ ek3)
   have pzc:=Prs.tups tp (Prs.same sAE pzA)
   have puc:=jD tp (jD sAE.tups puA)
   have plc:=Lks.tups (Lks.tups plA sAE.tups) tp
   exact⟨tp,tp _ _ rfl etE,⟨u,pa,ta,xs,ys,rfl,tp _ _ rfl euE,k _ _ npa (s3E _ _ epa),k _ _ nta (s3E _ _ eta),Prs.tups tp (Prs.same s3E hxs),Prs.tups tp (Prs.same s3E hys)⟩,tp _ _ rfl ehE,k _ _ nl1 (s6E _ _ e_l1),Prs.tups tp (Prs.same s3E hxs),zk,yP zk q1 q2 q3 pzc puc plc,vd q2 puc,sv q3 plc,mM (tp _ _ rfl etnE) (k _ _ nna (sCE _ _ ena)) (k _ _ nnb (sCE _ _ enb)),puc,plc⟩
  clear ekl ek1 ek2 ek3 etn ena enb nz nk1 nk2 nk3 npa nta nl1 nna nnb eu epa eta hxs hys hs3 hs6 M4 ME ef1A ef2A ef3A etA etB pzA puA plA e_h0 e_l1 e_l2 W3 V6 W6 sD sE sAD sCE sBE s6A s3A sAE sAC sB sC s6 s7 s4 s5 et8 ea8 eb8 et9 ea9 eb9 r81 r82 r91 r92 CD9 rst9 hna hnb e_l1p e_l1o e_l2p e_eu4 e_eta4 hl1 hl2 hh0
  have K0:Kps [f1,f2,f3,l2] HE HE:=fun _ _ _ q=>q
  obtain⟨_,et1,_,_,_,_,_,_,_,_,_,_,_⟩:=FX K0
  subst hR9
  refine iz fun R9 hR9=>?_
  simp_arith[ir,et1,iJ,ef1E]
  refine⟨⟨f1,_,rfl,ef1E⟩,iM (by lia),?_⟩
  have K1:=K0.upd (m:=f1) (o:=.lst (zs++[.non])) (by simp)
  have ef2F:upd HE f1 (.lst (zs++[.non])) f2=some (.lst us):=by rw[ix (cS f12)];exact ef2E
  have ef3F:upd HE f1 (.lst (zs++[.non])) f3=some (.lst ws):=by rw[ix (cS f13)];exact ef3E
  have el2F:upd HE f1 (.lst (zs++[.non])) l2=some (.lst ys):=by rw[ix m1];exact el2E
  generalize upd HE f1 (.lst (zs++[.non]))=HF at K1 ef2F ef3F el2F
  obtain⟨_,et1,_,_,_,_,ez1,_,rk2,rk3,_,pu1,pl1⟩:=FX K1
  subst hR9
  refine iz fun R9 hR9=>?_
  simp_arith[ir,et1,iT,ki,ez1]
  refine⟨n8 ds,n8 ds,vd ef2F pu1,rk2,br (yG _) (by decide),.inl ⟨_,_,rfl,rfl⟩,?_⟩
  rw[kR]
  simp_arith[ir,et1,iT,ki,ez1]
  refine⟨mQ c,mQ c,sv ef3F pl1,rk3,br (vI _) (by decide),.inl ⟨_,_,rfl,rfl⟩,?_⟩
  rw[kR]
  walk_at "D"
  subst hR9
  refine iz fun R9 hR9=>?_
  simp_arith[ir,et1,iT,ef2F]
  refine⟨⟨f2,_,rfl,ef2F⟩,iM (by lia),?_⟩
  have K2:=K1.upd (m:=f2) (o:=.lst (us++[.non])) (by simp)
  have ef3G:upd HF f2 (.lst (us++[.non])) f3=some (.lst ws):=by rw[ix (cS f23)];exact ef3F
  have el2G:upd HF f2 (.lst (us++[.non])) l2=some (.lst ys):=by rw[ix m2];exact el2F
  generalize upd HF f2 (.lst (us++[.non]))=HG at K2 ef3G el2G
  obtain⟨_,et1,_,_,_,_,ez1,_,_,rk3,_,pu1,pl1⟩:=FX K2
  subst hR9
  refine iz fun R9 hR9=>?_
  simp_arith[ir,et1,ki,ez1]
  refine⟨mQ c,mQ c,sv ef3G pl1,rk3,br (vI _) (by decide),.inl ⟨_,_,rfl,rfl⟩,?_⟩
  rw[kR]
  walk_at "D"
  subst hR9
  refine iz fun R9 hR9=>?_
  simp_arith[ir,et1,ki,ef3G]
  refine⟨⟨f3,_,rfl,ef3G⟩,?_⟩
  have K3:=K2.upd (m:=f3) (o:=.lst []) (by simp)
  have el2I:upd HG f3 (.lst []) l2=some (.lst ys):=by rw[ix m3];exact el2G
  generalize upd HG f3 (.lst [])=HI at K3 el2I
  obtain⟨_,_,_,eh1,_,_,_,_,_,_,_,_,_⟩:=FX K3
  subst hR9
  refine iz fun R9 hR9=>?_
  simp_arith[ir,eh1,iT,el2I]
  refine⟨⟨l2,_,rfl,el2I⟩,?_⟩
  have K4:=K3.upd (m:=l2) (o:=.lst []) (by simp)
  have el2J:upd HI l2 (.lst []) l2=some (.lst []):=ie
  generalize upd HI l2 (.lst [])=HJ at K4 el2J
  obtain⟨_,_,WJ,eh1,el1J,pxJ,_,_,_,_,_,_,_⟩:=FX K4
  have VJ:jbz HJ (.ref h0) ps []:=⟨h0,l1,l2,xs,[],rfl,eh1,el1J,el2J,pxJ,.nil⟩
  obtain⟨u',pa',ta',xs',ys',eu',euJ,epJ,_,pxJ2,_⟩:=id WJ
  cases eu'
  subst hR9
  refine iz fun R9 hR9=>?_
  walk_at "D"
  refine⟨.ref h0,ps,[],rfl,VJ,wJ wk,by lia,fun t9 a9 b9 ms9 ns9 r9 c9 HK sK _ _ _ et9 ea9 eb9 rst9 C9 _ r91 r92=>?_⟩
  obtain⟨z91,z92⟩:=AK (wJ wk) rst9 C9 r91 r92
  rw[(Hj (wJ wk) rst9).1]at z91 z92
  rw[(BC ps).1]at z91
  rw[(BC ps).2]at z92
  walk_at "D"
  intro e0 he0
  have qL:=iq he0 (.lst [])
  have eL:upd HK e0 (.lst []) e0=some (.lst []):=ie
  generalize upd HK e0 (.lst [])=HL at qL eL
  have sJL:=sK.trans qL
  walk_at "D"
  refine jx (i6 K pa') HL (fun R2 hR2=>?_) (fun zl hzl0=>ju ps.length (fun i σ' Hc=>∃w1 w2,σ'=[w1,w2]/\Same HL Hc/\Hc zl=some (.lst (((ps.take i).map (·.1)).map V.int))) ⟨none,none,rfl,iq hzl0 _,ie⟩ ?_ ?_)
  ·unfold jc
   simp_arith[ir,sJL _ _ euJ,iJ]
   exact⟨pa',rfl,⟨_,SqL.of (sJL _ _ epJ)⟩,hR2⟩
  ·rintro j σ' Hc hj ⟨w1,w2,rfl,s7,ez⟩
   have hxl:=ao pxJ2
   have sX:=sJL.trans s7
   have x1:xs'[j]? =some (xs'[j]'(by lia)):=gE _
   have zq:SqL K Hc pa' xs':=SqL.of (sX _ _ epJ)
   refine⟨⟨_,_,zq,x1⟩,?_⟩
   rintro y H' ⟨rfl,hy⟩
   obtain⟨p,hp,px⟩:=jl pxJ2 (hy _ zq)
   obtain⟨b,rfl,hb⟩:=px.same sX
   simp_arith[hb]
   refine⟨_,ez,?_,_,_,rfl,iW s7 hzl0,?_⟩
   ·rw[aa,aa,aO]
    exact iM (by lia)
   ·rw[ie,je hp,ah,ah]
    rfl
  rintro σ' HM ⟨w1,w2,rfl,sM,ezl⟩
  refine⟨⟨_,SqL.of ((sJL.trans sM) _ _ epJ),by have:=ao pxJ2;lia⟩,?_⟩
  rw[aG]at ezl
  walk_at "D"
  intro tt htt
  have qN:=iq htt (.tup [.ref e0,.ref zl])
  have eN:upd HM tt (.tup [.ref e0,.ref zl]) tt=some (.tup [.ref e0,.ref zl]):=ie
  generalize upd HM tt (.tup [.ref e0,.ref zl])=HN at qN eN
  have sKN:=(qL.trans sM).trans qN
  have sJN:=sK.trans sKN
  refine⟨lq ms9 ns9,lq [] (ps.map (·.1)),mM (sKN _ _ et9) (sKN _ _ ea9) (sKN _ _ eb9),mM eN ((sM.trans qN) _ _ eL) (qN _ _ ezl),qH _ _,.inr ⟨_,_,rfl,rfl⟩,?_⟩
  rw[z91,z92,kR]
  have K5:=K4.same sJN
  clear qL qN sM sKN eN ezl et9 ea9 eb9 euJ epJ pxJ2 VJ el2J el1J pxJ eh1 sJL
  walk_at "D"
  obtain⟨_,_,WN,_,_,_,_,_,_,_,_,_,_⟩:=FX K5
  subst hR9
  refine iz fun R9 hR9=>?_
  walk_at "D"
  refine⟨.ref u,ps,ts,rfl,WN,fun tG HO sO nwO=>?_⟩
  walk_at "D"
  refine⟨.ref tG,ps,ts,rfl,qe nwO,wk,by lia,fun tB aB bB msB nsB rB cB HQ sQ haB _ _ etB eaB _ rstB CB CDB rB1 rB2=>?_⟩
  simp_arith[ir,etB,iJ,eaB]
  have c2l:=CB.len
  refine⟨⟨aB,_,rfl,eaB⟩,by rw[aa];have:=rB1.1.length_eq;have:=qG cB cB.length;rw[aG]at this;exact iM (by lia),?_⟩
  have K6:=(K5.same sO).new ((K5.same sO).same sQ) (o:=.lst (msB.map V.int++[.int 7])) haB
  generalize upd HQ aB (.lst (msB.map V.int++[.int 7]))=HS at K6
  obtain⟨_,_,WS,_,_,_,_,_,_,_,_,_,_⟩:=FX K6
  subst hR9
  walk_at "D"
  refine⟨.ref u,ps,ts,rfl,WS,fun tT HT1 sT nwT=>?_⟩
  walk_at "D"
  refine⟨.ref tT,ps,ts,rfl,qe nwT,wk,by lia,fun tU g1 g2 g3 zU uU wU rU cU HU sU etU eg1 eg2 eg3 _ _ _ _ _ _ rstU pzU puU plU _ CDU=>?_⟩
  rw [rstU.one rst,<- hqe] at pzU
  rw [rstU.one rst,<- hde] at puU
  rw[rstU.one rst]at CDU
  rw[CDU.1.one CD.1]at plU
  simp_arith[ir,etU]
  intro kk hkk
  have qV:=iq hkk (.lst [.ref g1,.ref g2,.ref g3])
  have eV:upd HU kk (.lst [.ref g1,.ref g2,.ref g3]) kk=some (.lst [.ref g1,.ref g2,.ref g3]):=ie
  generalize upd HU kk (.lst [.ref g1,.ref g2,.ref g3])=HV at qV eV
  have sSV:=(sT.trans sU).trans qV
  have K7:=K6.same sSV
  obtain⟨_,_,WV,_,_,_,_,rkz,_,_,_,_,_⟩:=FX K7
  refine⟨om qs ds c,om qs ds c,yP eV (qV _ _ eg1) (qV _ _ eg2) (qV _ _ eg3) (Prs.same qV pzU) (jD qV.tups puU) (Lks.tups plU qV.tups),rkz,EF _ _ _,.inl ⟨_,_,rfl,rfl⟩,?_⟩
  rw[kR]
  walk_at "D"
  refine⟨.ref u,ps,ts,rfl,WV,fun tW HW sW nwW=>?_⟩
  walk_at "D"
  refine⟨.ref tW,ps,ts,rfl,qe nwW,wk,by lia,fun tX aX bX msX nsX rX cX HX sX _ _ _ etX eaX ebX rstX _ CDX rX1 rX2=>?_⟩
  rw[rstX.one rst]at CDX
  rw[CDX.1.one CD.1]at rX1 rX2
  have K8:=(K7.same sW).same sX
  obtain⟨tpX,_,_,_,_,_,_,_,_,_,rtn,_,_⟩:=FX K8
  refine⟨lq msX nsX,lq ms ns',mM etX eaX ebX,rtn,qH _ _,.inr ⟨_,_,rfl,rfl⟩,?_⟩
  rw[oJ rX1 r1,oJ rX2 r2,kR]
  walk_at "D"
  exact⟨_,_,_,_,_,_,_,rfl,hsE.tups tpX⟩
 ·rintro σ H1 ⟨v1,v2,v3,v4,v5,v6,v7,rfl,hs1⟩
  subst hR
  walk_at "D"
  exact h _
end
end My
set_option autoImplicit true
namespace My
open PySem L2
abbrev aT(K:PySem.W.Frag)(x:Str)(f:Addr):Prop:=PySem.W.nsIn K mainGlobals x=some (some (.ref f))
abbrev zT(K:PySem.W.Frag)(x:Str):Prop:=PySem.W.nsIn K mainGlobals x=some none
abbrev kT(K:PySem.W.Frag)(f:Addr):Prop:=PySem.W.keepIn K (.ref f)=true
abbrev qT(K:PySem.W.Frag)(x q:Str)(st:Stmt)(f:Addr):Prop:=∃(oc:Value) (od:Option Addr) (sl:Array (Option Value)) (kV dc pm:Value) (an:Option Addr) (cd ct:Value),K.lookup f=some ⟨oc,od,.func (PySem.W.fnOf x q (oG st) (nP st) (iN st) .none kV dc pm an cd ct),sl⟩/\PySem.W.codeIn K cd q=true/\kT K f
abbrev dT(K:PySem.W.Frag)(x:Str)(st:Stmt):Prop:=∃f,aT K x f/\qT K x x st f
theorem dI{K:PySem.W.Frag}{x:Str}{st:Stmt}{f:Addr}{oc:Value}{od:Option Addr}{sl:Array (Option Value)}{kV dc pm:Value}{an:Option Addr}{cd ct:Value}(a:aT K x f)(l:K.lookup f=some ⟨oc,od,.func (PySem.W.fnOf x x (oG st) (nP st) (iN st) .none kV dc pm an cd ct),sl⟩)(c:PySem.W.codeIn K cd x=true)(k:kT K f):dT K x st:=⟨f,a,oc,od,sl,kV,dc,pm,an,cd,ct,l,c,k⟩
abbrev bT(x q:Str)(st:Stmt)(us:List Value)(bs:List (Str×Value)):Prop:=∀(kV dc pm:Value) (an:Option Addr) (cd ct:Value),bindArgs (PySem.W.fnOf x q (oG st) (nP st) (iN st) .none kV dc pm an cd ct) ⟨us,[]⟩=pure bs
theorem jf{K:PySem.W.Frag}{h:Heap}{mg:Str->Option Value}(X:K.In h)(G:h.Ns mainGlobals mg){x:Str}{st:Stmt}(a:dT K x st)(ps:List Str)(b:∀us:List Value,us.length=ps.length->bT x x st us (ps.zip us)):∃f fd,DefAt K mg x st ps f fd/\∀s us,us.length=ps.length->BindsTo s fd ⟨us,[]⟩ (ps.zip us):=by
 obtain⟨f,a,oc,od,sl,kV,dc,pm,an,cd,ct,l,g,k⟩:=a
 exact⟨f,_,⟨yN l g k,.all fun us h=>b us h _ _ _ _ _ _,cW X G a⟩,fun s us h=>.of_eq (b us h _ _ _ _ _ _)⟩
abbrev mT(K:PySem.W.Frag)(C:Addr)(x q:Str)(st:Stmt):Prop:=∃f,PySem.W.findIn K (.ref C) x=some (some (.ref f))/\PySem.W.isFn K (.ref f)=true/\qT K x q st f
theorem mI{K:PySem.W.Frag}{C:Addr}{x q:Str}{st:Stmt}{f:Addr}{oc:Value}{od:Option Addr}{sl:Array (Option Value)}{kV dc pm:Value}{an:Option Addr}{cd ct:Value}(a:PySem.W.findIn K (.ref C) x=some (some (.ref f)))(i:PySem.W.isFn K (.ref f)=true)(l:K.lookup f=some ⟨oc,od,.func (PySem.W.fnOf x q (oG st) (nP st) (iN st) .none kV dc pm an cd ct),sl⟩)(c:PySem.W.codeIn K cd q=true)(k:kT K f):mT K C x q st:=⟨f,a,i,oc,od,sl,kV,dc,pm,an,cd,ct,l,c,k⟩
theorem nG{K:PySem.W.Frag}{C:Addr}{x q:Str}{st:Stmt}(a:mT K C x q st)(ps:List Str)(b:∀us:List Value,us.length=ps.length->bT x q st us (ps.zip us)):∃f fd,MthAt K C x q st ps f fd:=by
 obtain⟨f,a,i,oc,od,sl,kV,dc,pm,an,cd,ct,l,g,k⟩:=a
 exact⟨f,_,yN l g k,.all fun us h=>b us h _ _ _ _ _ _,a,i,k⟩
theorem b1{x q:Str}{st:Stmt}{p0:Str}(h:∀u0,bT x q st [u0] [(p0,u0)]:=by exact fun _ _ _ _ _ _ _=>rfl):∀us:List Value,us.length=1->bT x q st us ([p0].zip us)|[u0],_=>h u0
theorem b2{x q:Str}{st:Stmt}{p0 p1:Str}(h:∀u0 u1,bT x q st [u0,u1] [(p0,u0),(p1,u1)]:=by exact fun _ _ _ _ _ _ _ _=>rfl):∀us:List Value,us.length=2->bT x q st us ([p0,p1].zip us)|[u0,u1],_=>h u0 u1
theorem b3{x q:Str}{st:Stmt}{p0 p1 p2:Str}(h:∀u0 u1 u2,bT x q st [u0,u1,u2] [(p0,u0),(p1,u1),(p2,u2)]:=by exact fun _ _ _ _ _ _ _ _ _=>rfl):∀us:List Value,us.length=3->bT x q st us ([p0,p1,p2].zip us)|[u0,u1,u2],_=>h u0 u1 u2
theorem b4{x q:Str}{st:Stmt}{p0 p1 p2 p3:Str}(h:∀u0 u1 u2 u3,bT x q st [u0,u1,u2,u3] [(p0,u0),(p1,u1),(p2,u2),(p3,u3)]:=by exact fun _ _ _ _ _ _ _ _ _ _=>rfl):∀us:List Value,us.length=4->bT x q st us ([p0,p1,p2,p3].zip us)|[u0,u1,u2,u3],_=>h u0 u1 u2 u3
theorem Ko{l:PySem.W.OpenLaw}{w:World}{K:PySem.W.Frag}{h:Heap}{mg:Str->Option Value}{fa:Addr}(X:K.In h)(G:h.Ns mainGlobals mg)(hfa:mg "law"=some (.ref fa))(a0:dT K "is_whole" (ig 7))(a1:dT K "is_tuple_of" (ig 8))(a2:dT K "is_pair_of_wholes" (ig 9))(a3:dT K "is_list_up_to" (ig 10))(a4:dT K "marked" (ig 11))(a5:dT K "place_stands" (ig 20))(a6:dT K "tie_stands" (ig 21))(a7:dT K "look_at_places" (ig 22))(a8:dT K "look_at_ties" (ig 23))(a9:dT K "look_at_web" (ig 24))(a10:dT K "is_place" (ig 25))(a11:dT K "are_places" (ig 26))(a12:dT K "nears_in" (ig 27))(a13:dT K "halves_stand" (ig 29))(a14:dT K "is_due" (ig 30))(a15:dT K "due_at" (ig 31))(a16:dT K "dues_stand" (ig 32))(a17:dT K "cost_in_halves" (ig 33))(a18:dT K "paper_stands" (ig 34))(a19:dT K "doubled" (ig 35))(a20:dT K "dues_flowing" (ig 36))(a21:dT K "halves_reached" (ig 37))(a22:dT K "told_paper" (ig 38))(a23:dT K "halves_of" (ig 39))(a24:dT K "loose_places" (ig 42))(a25:dT K "tied_by_dues" (ig 43))(a26:dT K "is_link" (ig 44))(a27:dT K "chain_stands" (ig 45))(a28:dT K "lets_fixed" (ig 46))(a29:dT K "fixed_by" (ig 47))(a30:dT K "links_from" (ig 48))(a31:dT K "chain_for" (ig 49))(a32:dT K "fixed_paper" (ig 50))(a33:dT K "fixed_of" (ig 51))(a34:dT K "_law_own" (ig 53))(a35:dT K "_law_begun" (ig 54))(a36:dT K "_law_take" (ig 55))(a37:dT K "_law_places" (ig 56))(a38:dT K "_law_web" (ig 57))(a39:dT K "_law_whole" (ig 58))(a40:dT K "_law_are_halves" (ig 59))(a41:dT K "_law_are_dues" (ig 60))(a42:dT K "_law_lets" (ig 61))(a43:dT K "_law_next" (ig 62))(a44:dT K "_law_turned" (ig 63))(a45:dT K "_law_named" (ig 64))(a46:dT K "_law_right" (ig 65))(a47:dT K "law" (ig 66))(z_len:zT K "len")(z_isinstance:zT K "isinstance")(z_all:zT K "all")(z_min:zT K "min")(z_list:zT K "list")(z_dict:zT K "dict")(z_int:zT K "int")(z_bool:zT K "bool")(z_str:zT K "str")(z_tuple:zT K "tuple")(z_range:zT K "range")(z_enumerate:zT K "enumerate")(z_zip:zT K "zip")(z_max:zT K "max")(z_any:zT K "any")(z_sum:zT K "sum")(z_sorted:zT K "sorted")(z_set:zT K "set")(n_MOST_PLACES:PySem.W.nsIn K mainGlobals "MOST_PLACES"=some (some (.int 40 c1)))(n_MOST_TIES:PySem.W.nsIn K mainGlobals "MOST_TIES"=some (some (.int 120 c2)))(n_LAST_PLACE:PySem.W.nsIn K mainGlobals "LAST_PLACE"=some (some (.int 999 c3)))(n_MOST_PRICE:PySem.W.nsIn K mainGlobals "MOST_PRICE"=some (some (.int 1000000000000 c4)))(aN:aT K "Net" C_Net)(pgN:PySem.W.plainGet K C_Net Str.empty=true)(hdN:PySem.W.hasDictIn K C_Net=true)(poN:PySem.W.plainOver K C_Net=true)(saN:PySem.W.findIn K (.ref C_Net) "__setattr__"=some (some (.builtin "object.__setattr__")))(mkN:PySem.W.makesIn K C_Net=true)(kcN:kT K C_Net)(n_ways_from:PySem.W.findIn K (.ref C_Net) "ways_from"=some none)(n_heads:PySem.W.findIn K (.ref C_Net) "heads"=some none)(n_rooms:PySem.W.findIn K (.ref C_Net) "rooms"=some none)(nn_SOURCE:PySem.W.nsIn K mainGlobals "SOURCE"=some (some (.int 0 ee1)))(nn_SINK:PySem.W.nsIn K mainGlobals "SINK"=some (some (.int 1 ee2)))(nn_FIRST:PySem.W.nsIn K mainGlobals "FIRST"=some (some (.int 2 ee3)))(n_ML:PySem.W.nsIn K mainGlobals "MOST_LINKS"=some (some (.int 200 c5)))(m0:mT K C_Net "__init__" "Net.__init__" (jE 5 0))(m1:mT K C_Net "put_way" "Net.put_way" (jE 5 1))(m2:mT K C_Net "fill" "Net.fill" (jE 5 2))(m3:mT K C_Net "shortest" "Net.shortest" (jE 5 3))(m4:mT K C_Net "spread" "Net.spread" (jE 5 4))(m5:mT K C_Net "push" "Net.push" (jE 5 5))(m6:mT K C_Net "flows" "Net.flows" (jE 5 6))(m7:mT K C_Net "reached_from" "Net.reached_from" (jE 5 7))
 :∃fd:FuncData,(∀(s:Shared) (v:Value),BindsTo s fd ⟨[v],[]⟩ [("_law_script",v)])/\∀base:Heap,K.In base->base.Ns mainGlobals mg->FnOk l.prog w K mg base iu 9 fa fd ["_law_script"] (rT K):=by
 have B:Blt mg:=⟨bC X G z_len,bC X G z_isinstance,bC X G z_all,bC X G z_min,bC X G z_list,bC X G z_dict,bC X G z_int,bC X G z_bool,bC X G z_str,bC X G z_tuple,bC X G z_range,bC X G z_enumerate,bC X G z_zip,bC X G z_max,bC X G z_any,bC X G z_sum,bC X G z_sorted,bC X G z_set⟩
 have C:Cst mg c1 c2 c3 c4:=⟨cW X G n_MOST_PLACES,cW X G n_MOST_TIES,cW X G n_LAST_PLACE,cW X G n_MOST_PRICE⟩
 obtain⟨f0,d0,Dqd,_⟩:=jf X G a0 ["thing"] b1
 obtain⟨f1,d1,Dqa,_⟩:=jf X G a1 ["thing","many"] b2
 obtain⟨f2,d2,Dqf,_⟩:=jf X G a2 ["thing"] b1
 obtain⟨f3,d3,Dqe,_⟩:=jf X G a3 ["thing","most"] b2
 obtain⟨f4,d4,Dqb,_⟩:=jf X G a4 ["places"] b1
 obtain⟨f5,d5,Dzo,_⟩:=jf X G a5 ["thing","last","spent"] b3
 obtain⟨f6,d6,Dzp,_⟩:=jf X G a6 ["thing","last","prices"] b3
 obtain⟨f7,d7,Dzl,_⟩:=jf X G a7 ["places"] b1
 obtain⟨f8,d8,Dzm,_⟩:=jf X G a8 ["ties","prices"] b2
 obtain⟨f9,d9,Dqg,_⟩:=jf X G a9 ["thing"] b1
 obtain⟨f10,d10,Dq9,_⟩:=jf X G a10 ["prices","thing"] b2
 obtain⟨f11,d11,Dqx,_⟩:=jf X G a11 ["prices","things"] b2
 obtain⟨f12,d12,Dqp,_⟩:=jf X G a12 ["web"] b1
 obtain⟨f13,d13,Dq6,_⟩:=jf X G a13 ["web","thing"] b2
 obtain⟨f14,d14,Dq7,_⟩:=jf X G a14 ["thing"] b1
 obtain⟨f15,d15,Dql,_⟩:=jf X G a15 ["dues"] b1
 obtain⟨f16,d16,Dq3,_⟩:=jf X G a16 ["web","thing"] b2
 obtain⟨f17,d17,Dq0,_⟩:=jf X G a17 ["web","halves"] b2
 obtain⟨f18,d18,Dzn,_⟩:=jf X G a18 ["web","thing"] b2
 obtain⟨f19,d19,Dq1,_⟩:=jf X G a19 ["web"] b1
 obtain⟨f20,d20,Dq2,_⟩:=jf X G a20 ["web","flows"] b2
 obtain⟨f21,d21,Dq5,_⟩:=jf X G a21 ["web","reached"] b2
 obtain⟨f22,d22,Dqr,_⟩:=jf X G a22 ["web"] b1
 obtain⟨f23,d23,Dq4,_⟩:=jf X G a23 ["web"] b1
 obtain⟨f24,d24,Dqo,_⟩:=jf X G a24 ["web","dues"] b2
 obtain⟨f25,d25,Dqq,_⟩:=jf X G a25 ["dues"] b1
 obtain⟨f26,d26,Dq8,_⟩:=jf X G a26 ["nears","thing"] b2
 obtain⟨f27,d27,Dqz,_⟩:=jf X G a27 ["web","dues","chain"] b3
 obtain⟨f28,d28,Dzj,_⟩:=jf X G a28 ["web","thing"] b2
 obtain⟨f29,d29,Dqm,_⟩:=jf X G a29 ["chain"] b1
 obtain⟨f30,d30,Dzk,_⟩:=jf X G a30 ["link","nears","paid_ties"] b3
 obtain⟨f31,d31,Dqy,_⟩:=jf X G a31 ["web","dues"] b2
 obtain⟨f32,d32,Dqi,_⟩:=jf X G a32 ["web"] b1
 obtain⟨f33,d33,Dqs,_⟩:=jf X G a33 ["web"] b1
 obtain⟨f34,d34,Dqh,_⟩:=jf X G a34 ["_law_web_here"] b1
 obtain⟨f35,d35,Dzc,_⟩:=jf X G a35 ["_law_script","_law_k"] b2
 obtain⟨f36,d36,Dqc,_⟩:=jf X G a36 ["_law_state","_law_many"] b2
 obtain⟨f37,d37,Dzf,_⟩:=jf X G a37 ["_law_state","_law_count"] b2
 obtain⟨f38,d38,Dzi,_⟩:=jf X G a38 ["_law_state","_law_most"] b2
 obtain⟨f39,d39,Dqj,_⟩:=jf X G a39 ["_law_thing"] b1
 obtain⟨f40,d40,Dzb,_⟩:=jf X G a40 ["_law_web_here","_law_thing"] b2
 obtain⟨f41,d41,Dza,_⟩:=jf X G a41 ["_law_web_here","_law_thing"] b2
 obtain⟨f42,d42,Dzd,_⟩:=jf X G a42 ["_law_web_here","_law_thing"] b2
 obtain⟨f43,d43,Dze,_⟩:=jf X G a43 ["_law_web_here","_law_dues","_law_chain"] b3
 obtain⟨f44,d44,Dzh,_⟩:=jf X G a44 ["_law_state","_law_web_here"] b2
 obtain⟨f45,d45,Dqn,_⟩:=jf X G a45 ["_law_chain"] b1
 obtain⟨f46,d46,Dzg,_⟩:=jf X G a46 ["_law_web_here","_law_found"] b2
 obtain⟨f47,d47,Dzv,bl⟩:=jf X G a47 ["_law_script"] b1
 obtain⟨fm0,dm0,Dqw⟩:=nG m0 ["self","many","arcs"] b3
 obtain⟨fm1,dm1,Dqu⟩:=nG m1 ["self","tail","head","room"] b4
 obtain⟨fm2,dm2,Dzq⟩:=nG m2 ["self","source","sink"] b3
 obtain⟨fm3,dm3,Dqv⟩:=nG m3 ["self","source","sink"] b3
 obtain⟨fm4,dm4,Dqt⟩:=nG m4 ["self","source"] b2
 obtain⟨fm5,dm5,Dzs⟩:=nG m5 ["self","trail"] b2
 obtain⟨fm6,dm6,Dzr⟩:=nG m6 ["self"] b1
 obtain⟨fm7,dm7,Dzt⟩:=nG m7 ["self","source"] b2
 cases hfa.symm.trans Dzv.m
 refine⟨d47,fun s v=>bl s [v] rfl,fun base _ _=>?_⟩
 have C2:Cst2 mg ee1 ee2 ee3:=⟨cW X G nn_SOURCE,cW X G nn_SINK,cW X G nn_FIRST⟩
 have T:NetC K mg C_Net:=⟨⟨pgN,hdN,poN,saN⟩,n_ways_from,n_heads,n_rooms,cW X G aN⟩
 have MK:Mk K C_Net fm0:=⟨mkN,Dqw.m.at_,Dqw.m.fn,kcN⟩
 have Gqd:=II (P:=l.prog) (w:=w) (base:=base) B Dqd
 have Gqa:=Ju (P:=l.prog) (w:=w) (base:=base) B Dqa
 have Gqf:=JR (P:=l.prog) (w:=w) (base:=base) B Dqf Dqa Gqa Dqd Gqd
 have Gqe:=JL (P:=l.prog) (w:=w) (base:=base) B Dqe
 have Gqb:=GY (P:=l.prog) (w:=w) (base:=base) B Dqb
 have Gzo:=JH (P:=l.prog) (w:=w) (base:=base) B C Dzo Dqf Gqf
 have Gzp:=Jl (P:=l.prog) (w:=w) (base:=base) B Dzp Dqf Gqf
 have Gzl:=JQ (P:=l.prog) (w:=w) (base:=base) B C Dzl Dqe Gqe Dzo Gzo
 have Gzm:=JE (P:=l.prog) (w:=w) (base:=base) B C Dzm Dqe Gqe Dzp Gzp
 have Gqg:=Jv (P:=l.prog) (w:=w) (base:=base) B Dqg Dqa Gqa Dzl Gzl Dzm Gzm
 have Gq9:=IH (P:=l.prog) (w:=w) (base:=base) B Dq9 Dqd Gqd
 have Gqx:=Jf (P:=l.prog) (w:=w) (base:=base) B Dqx Dq9 Gq9
 have Gqp:=IM (P:=l.prog) (w:=w) (base:=base) B Dqp
 have Gql:=GW (P:=l.prog) (w:=w) (base:=base) B Dql
 have Gq0:=JN (P:=l.prog) (w:=w) (base:=base) B Dq0
 have Gq2:=JB (P:=l.prog) (w:=w) (base:=base) B Dq2
 have Gq5:=JO (P:=l.prog) (w:=w) (base:=base) B Dq5 C2
 have Gqo:=JF (P:=l.prog) (w:=w) (base:=base) B Dqo Dql Gql
 have Gqq:=JJ (P:=l.prog) (w:=w) (base:=base) B Dqq
 have Gq8:=Ih (P:=l.prog) (w:=w) (base:=base) B Dq8 Dqx Gqx
 have Gzk:=Jk (P:=l.prog) (w:=w) (base:=base) B Dzk
 have Gqh:=Ii (P:=l.prog) (w:=w) (base:=base) B Dqh
 have Gzc:=IZ (P:=l.prog) (w:=w) (base:=base) B Dzc
 have Gqc:=IL (P:=l.prog) (w:=w) (base:=base) B Dqc
 have Gzf:=Jh (P:=l.prog) (w:=w) (base:=base) B Dzf Dqc Gqc
 have Gzi:=Ij (P:=l.prog) (w:=w) (base:=base) B Dzi Dqc Gqc Dzf Gzf
 have Gqj:=Jb (P:=l.prog) (w:=w) (base:=base) B Dqj
 have Gzb:=JP (P:=l.prog) (w:=w) (base:=base) B Dzb Dqj Gqj
 have Gza:=JD (P:=l.prog) (w:=w) (base:=base) B Dza Dqj Gqj
 have Gzd:=IJ (P:=l.prog) (w:=w) (base:=base) B Dzd Dzb Gzb Dza Gza
 have Gze:=IK (P:=l.prog) (w:=w) (base:=base) B Dze
 have Gzh:=Ji (P:=l.prog) (w:=w) (base:=base) B Dzh Dqc Gqc
 have Gqn:=I0 (P:=l.prog) (w:=w) (base:=base) B Dqn
 have GD_is_tuple_of:=Jz (P:=l.prog) (w:=w) (base:=base) B Dqa
 have GD_is_pair_of_wholes:=JS (P:=l.prog) (w:=w) (base:=base) B Dqf Dqa GD_is_tuple_of Dqd Gqd
 have GI_marked:=Ie (P:=l.prog) (w:=w) (base:=base) B Dqb
 have Gqu:=Ik (P:=l.prog) (w:=w) (base:=base) B Dqu T
 have Gqt:=GZ (P:=l.prog) (w:=w) (base:=base) B Dqt T
 have Gzs:=Fn (P:=l.prog) (w:=w) (base:=base) B Dzs T
 have Gzr:=Gb (P:=l.prog) (w:=w) (base:=base) B Dzr T
 have Gzt:=JI (P:=l.prog) (w:=w) (base:=base) B Dzt Dqt Gqt T
 have Gq6:=JC (P:=l.prog) (w:=w) (base:=base) B Dq6 Dqf GD_is_pair_of_wholes
 have Gq7:=GX (P:=l.prog) (w:=w) (base:=base) B Dq7 Dqa GD_is_tuple_of Dqd Gqd
 have Gq3:=Jg (P:=l.prog) (w:=w) (base:=base) B Dq3 Dq7 Gq7 Dqb Gqb Dql Gql
 have Gzn:=JG (P:=l.prog) (w:=w) (base:=base) B Dzn Dqa GD_is_tuple_of Dq6 Gq6 Dq3 Gq3 Dq0 Gq0
 have Gqz:=JA (P:=l.prog) (w:=w) (base:=base) B Dqz Dqe Gqe Dqp Gqp Dqo Gqo Dqb GI_marked Dqq Gqq Dq8 Gq8 (cW X G n_ML)
 have Gzj:=Jj (P:=l.prog) (w:=w) (base:=base) B Dzj Dqg Gqg Dqa Gqa Dzn Gzn Dqz Gqz
 have Gqm:=IF (P:=l.prog) (w:=w) (base:=base) B Dqm Dqb GI_marked
 have Gqy:=IX (P:=l.prog) (w:=w) (base:=base) B Dqy Dqp Gqp Dqq Gqq Dqo Gqo Dqb GI_marked Dzk Gzk
 have Gqw:=Fm (P:=l.prog) (w:=w) (base:=base) B Dqw Dqu Gqu T
 have Gqv:=IP (P:=l.prog) (w:=w) (base:=base) B Dqv Dqt Gqt T
 have Gq1:=Ig (P:=l.prog) (w:=w) (base:=base) B Dq1 Dqw Gqw T C2 MK
 have Gzq:=Fk (P:=l.prog) (w:=w) (base:=base) B Dzq Dqv Gqv Dzs Gzs T
 have Gqr:=Jm (P:=l.prog) (w:=w) (base:=base) B Dqr Dq1 Gq1 Dzq Gzq Dzt Gzt Dqb GI_marked Dq5 Gq5 Dzr Gzr Dq2 Gq2 T C2
 have Gq4:=IY (P:=l.prog) (w:=w) (base:=base) B Dq4 Dqg Gqg Dqr Gqr
 have Gqi:=Jt (P:=l.prog) (w:=w) (base:=base) B Dqi Dqg Gqg Dqr Gqr Dqy Gqy
 have Gqs:=IG (P:=l.prog) (w:=w) (base:=base) B Dqs Dqi Gqi Dqm Gqm
 have Gzg:=Ja (P:=l.prog) (w:=w) (base:=base) B Dzg Dzd Gzd Dze Gze Dq4 Gq4 Dqh Gqh Dqn Gqn
 exact Eu B Dzv Dzc Gzc Dzi Gzi Dzh Gzh Dqi Gqi Dzg Gzg Dzj Gzj Dqh Gqh Dqn Gqn Dqm Gqm Dqs Gqs
theorem Di{l:PySem.W.OpenLaw}{q:Program}{loose:List Str}{XP:(Str->Option Value)->Heap->Prop}{YP:World->Heap->Prop}{d:DefRec}{K:Params->PySem.W.Frag}(hn:l.most=some 63)(hdf:d.params.defaults=[])
  (hY:∀(w:World) (h:Heap),YP w h->(K w.params).In h)
  (F:∀(w:World) (mg:Str->Option Value) (fa:Addr) (h:Heap),(K w.params).In h->h.Ns mainGlobals mg->mg d.name=some (.ref fa)->
   ∃fd:FuncData,(∀(s:Shared) (u:Value),BindsTo s fd ⟨[u],[]⟩ [("_law_script",u)])/\∀base:Heap,(K w.params).In base->base.Ns mainGlobals mg->FnOk l.prog w (K w.params) mg base iu 9 fa fd ["_law_script"] (rT (K w.params))):
  PySem.W.WalkO q loose XP YP l.row.toRowW d [] (fun f vs=>PySem.call f vs):=
 L2.Au (n:=63) (k:=9) (x:="_law_script") (CX:=fun _=>iu) (sp:=fun w=>rT (K w.params)) hn (by decide) hdf ⟨rfl,by decide,by decide,rfl⟩ hY F (fun _ _ a ns hl hO hS=>⟨a,ns,rfl,Scr.of hS hO,fun _=>rfl⟩) fun _ _ _ _ _ z=>z
end My
open PySem PySem.W PyProof.Rows
set_option maxRecDepth 100000 in
set_option maxHeartbeats 0 in
theorem PySem.Challenge.cw_touchall_k31_told_chains_holds : PySem.Challenge.rw_touchall_k31_told_chains.Holds := by
 refine MyHead ?_
 k_fill
 refine My.Di (l:=PySem.Challenge.rw_touchall_k31_told_chains) rfl rfl (fun w h Y=>PySem.W.kIn_of Y) ?F
 case F =>
  intro w mg fa h KX G hmg
  refine' My.Ko KX G hmg ?_ ?_ ?_ ?_ ?_ ?_ ?_ ?_ ?_ ?_ ?_ ?_ ?_ ?_ ?_ ?_ ?_ ?_ ?_ ?_ ?_ ?_ ?_ ?_ ?_ ?_ ?_ ?_ ?_ ?_ ?_ ?_ ?_ ?_ ?_ ?_ ?_ ?_ ?_ ?_ ?_ ?_ ?_ ?_ ?_ ?_ ?_ ?_ ?_ ?_ ?_ ?_ ?_ ?_ ?_ ?_ ?_ ?_ ?_ ?_ ?_ ?_ ?_ ?_ ?_ ?_ ?_ ?_ ?_ ?_ ?_ ?_ ?_ ?_ ?_ ?_ ?_ ?_ ?_ ?_ ?_ ?_ ?_ ?_ ?_ ?_ ?_ ?_ ?_ ?_ ?_ ?_
  any_goals first | k_is | ((first | refine' My.dI ?_ ?_ ?_ ?_ | refine' My.mI ?_ ?_ ?_ ?_ ?_) <;> first | k_is | (delta My.aT; k_is) | (delta My.kT; k_is) | skip) | (delta My.aT; k_is) | (delta My.kT; k_is) | (delta My.zT; k_is) | kernel_rfl | rfl
#print axioms PySem.Challenge.cw_touchall_k31_told_chains_holds
