import PyProof.Rows.All
import Wide.All
import OpenK.AllK
import Wide.FinOn
import Lean
import PyProof.EqAt
import PyProof.EqKinds
import PyProof.TupleCall
import PyProof.NeKinds
import PyProof.NeData
import PySem.Challenge.RW_touchall_k41_sets_go_back
import PyProof.StationsW
import PyProof.ExcInit
import PyProof.InstStoreFacts
import PyProof.NsDelKeeps
import PyProof.RulesAs
import PyProof.ExcAttrAll.ValueError
import KE.KIsAll
import PyProof.AutoSeq1
import PyProof.Rows.SetFrom
import PyProof.SetRoads
import PyProof.Rows.SortRuns
import PyProof.Rows.SortShell
import KE.KSortTup
import PyProof.Rows.SumAny
import PyProof.DictWalks
import PyProof.DictUpdate
import KE.KDictList
import PyProof.StrWalks
import PyProof.FString
import PyProof.StrBlockH
import PyProof.Rows.StrJoin2
import PyProof.Rows.StrSplitAre
import PyProof.StrCalls
import KE.KIntText
section
open PySem PySem.W PyProof.Rows
set_option Elab.async false
set_option maxRecDepth 100000
set_option maxHeartbeats 0
namespace PySem.W.Fast
theorem tw13644126135101308129:True:=⟨⟩
theorem tw3869031063745665383:True:=⟨⟩
theorem tw1842545590595054091:True:=⟨⟩
theorem tw14781562103584300300:True:=⟨⟩
theorem tw9460297890377761805:True:=⟨⟩
theorem tw5593774006236773294:True:=⟨⟩
theorem tw16599119404929089777:True:=⟨⟩
theorem tw10277216313517438195:True:=⟨⟩
theorem tw280475905095942100:True:=⟨⟩
theorem tw17883986908372840214:True:=⟨⟩
theorem tw3641689398766822358:True:=⟨⟩
theorem tw6482508660291388407:True:=⟨⟩
theorem tw6813689038348735896:True:=⟨⟩
theorem tw14444337273729473304:True:=⟨⟩
theorem tw4851398703335325437:True:=⟨⟩
theorem tw1094558673465738702:True:=⟨⟩
theorem tw11978095780642598340:True:=⟨⟩
theorem tw4993535481166183151:True:=⟨⟩
theorem tw8501767479410919513:True:=⟨⟩
theorem tw5024311612598442896:True:=⟨⟩
theorem tw5799083521025948683:True:=⟨⟩
theorem tw16621345285488354935:True:=⟨⟩
theorem tw3426724899693372452:True:=⟨⟩
theorem tw18412816545115006207:True:=⟨⟩
theorem tw11463903968044550017:True:=⟨⟩
theorem tw553920553777334922:True:=⟨⟩
theorem tw14640572693217546273:True:=⟨⟩
theorem tw1895321614831293481:True:=⟨⟩
theorem tw2305170695127674745:True:=⟨⟩
theorem tw7120315761109200815:True:=⟨⟩
theorem tw6499570430222579456:True:=⟨⟩
theorem tw7388612275661505989:True:=⟨⟩
theorem tw8268261425892872904:True:=⟨⟩
theorem tw10792147902805684486:True:=⟨⟩
theorem tw7256320092020649421:True:=⟨⟩
theorem tw14079483211463739728:True:=⟨⟩
theorem tw6360256080385430035:True:=⟨⟩
theorem tw11737177560275070378:True:=⟨⟩
theorem tw3386007157573418628:True:=⟨⟩
theorem tw8933711008320621455:True:=⟨⟩
theorem tw11024633210396038669:True:=⟨⟩
theorem tw9372817214200633996:True:=⟨⟩
theorem tw1477800894226905496:True:=⟨⟩
theorem tw7264120421309663093:True:=⟨⟩
theorem tw73319614458739980:True:=⟨⟩
theorem tw14248016213943530440:True:=⟨⟩
theorem tw5774174942400694725:True:=⟨⟩
theorem tw994784650385719441:True:=⟨⟩
theorem tw640502985788566469:True:=⟨⟩
theorem tw12575522010223430397:True:=⟨⟩
theorem tw13586414748893568851:True:=⟨⟩
theorem tw2418372970533406711:True:=⟨⟩
theorem tw990867878896235716:True:=⟨⟩
theorem tw18034349319857144288:True:=⟨⟩
theorem tw17225890555602619104:True:=⟨⟩
theorem tw11647574858823915943:True:=⟨⟩
theorem tw16065785012132939527:True:=⟨⟩
theorem tw1204304298147611602:True:=⟨⟩
theorem tw18074669270637765023:True:=⟨⟩
theorem tw11845121057717500690:True:=⟨⟩
theorem tw4263479457205056145:True:=⟨⟩
theorem tw14978731467003240592:True:=⟨⟩
theorem tw5140643216894729713:True:=⟨⟩
theorem tw760989484626043395:True:=⟨⟩
theorem tw12541494921488360586:True:=⟨⟩
theorem tw15968437053978078190:True:=⟨⟩
theorem tw7552589387619456655:True:=⟨⟩
theorem tw6080368645660506305:True:=⟨⟩
theorem tw11182244786485069041:True:=⟨⟩
theorem tw12653114381597422123:True:=⟨⟩
theorem tw16409236330492884371:True:=⟨⟩
theorem tw12832714438019067581:True:=⟨⟩
theorem tw6521518918535766600:True:=⟨⟩
theorem tw6654934050380821986:True:=⟨⟩
theorem tw5017822626531976574:True:=⟨⟩
theorem tw6093180931936661158:True:=⟨⟩
theorem tw15514634696500728796:True:=⟨⟩
theorem tw8556881319794653275:True:=⟨⟩
theorem tw142088678007582525:True:=⟨⟩
theorem tw1994892701596235563:True:=⟨⟩
theorem tw6356490350672987232:True:=⟨⟩
theorem tw17948796234568494333:True:=⟨⟩
theorem tw741491041883484307:True:=⟨⟩
theorem tw13527872405176336012:True:=⟨⟩
theorem tw8549602738571025238:True:=⟨⟩
theorem tw12274256780947587003:True:=⟨⟩
theorem tw14756317111538670632:True:=⟨⟩
theorem tw13557064101490781197:True:=⟨⟩
theorem tw2204380585850004632:True:=⟨⟩
theorem tw7761872477267044100:True:=⟨⟩
theorem tw12343798008286848705:True:=⟨⟩
theorem tw17398258567609763699:True:=⟨⟩
theorem tw16167534320156721182:True:=⟨⟩
theorem tw13990930123094078712:True:=⟨⟩
theorem tw18406394319825488089:True:=⟨⟩
theorem tw218366189445680744:True:=⟨⟩
theorem tw4871235832867041519:True:=⟨⟩
theorem tw10340114976711878602:True:=⟨⟩
theorem tw7038596651363693363:True:=⟨⟩
theorem tw8763891767021397862:True:=⟨⟩
theorem tw14797695424020646505:True:=⟨⟩
theorem tw12723252421524380382:True:=⟨⟩
theorem tw18281609995975707841:True:=⟨⟩
theorem tw15417599191782231464:True:=⟨⟩
theorem tw12427681057240079959:True:=⟨⟩
theorem tw14508702681240927338:True:=⟨⟩
theorem tw13429004783999240505:True:=⟨⟩
theorem tw9986159386596041291:True:=⟨⟩
theorem tw16568485113996511727:True:=⟨⟩
theorem tw11959568091775926953:True:=⟨⟩
theorem tw5741868628440793479:True:=⟨⟩
theorem tw7213155722094151984:True:=⟨⟩
theorem tw13149991164589372472:True:=⟨⟩
theorem tw6238900285969046887:True:=⟨⟩
theorem tw11867328985658093342:True:=⟨⟩
theorem tw5022786933995038812:True:=⟨⟩
theorem tw6145129637773361727:True:=⟨⟩
theorem tw8212859607379937844:True:=⟨⟩
theorem tw13281483970742848924:True:=⟨⟩
theorem tw4269231566189308580:True:=⟨⟩
theorem tw14295450787131531452:True:=⟨⟩
theorem tw7698447048043514017:True:=⟨⟩
theorem tw1349069014647357223:True:=⟨⟩
theorem tw7492884703717757881:True:=⟨⟩
theorem tw4943674162513202160:True:=⟨⟩
theorem tw15227233571305852144:True:=⟨⟩
theorem tw3251091792226649815:True:=⟨⟩
theorem tw2964791611958249955:True:=⟨⟩
theorem tw13651674943635200488:True:=⟨⟩
theorem tw1292984125890801270:True:=⟨⟩
theorem tw15335128613735910151:True:=⟨⟩
theorem tw14982153563136074336:True:=⟨⟩
theorem tw6542929942557814982:True:=⟨⟩
theorem tw13166968430877283740:True:=⟨⟩
theorem tw10485983645851997345:True:=⟨⟩
theorem tw4833422015602957473:True:=⟨⟩
theorem tw5101450760185418553:True:=⟨⟩
theorem tw11247763399507659385:True:=⟨⟩
theorem tw429126050991680652:True:=⟨⟩
theorem tw12021910400016799448:True:=⟨⟩
theorem tw5729796969671028974:True:=⟨⟩
theorem tw7778351183166847979:True:=⟨⟩
theorem tw6767992148904401710:True:=⟨⟩
theorem tw15118457964073289629:True:=⟨⟩
theorem tw5291671171568664792:True:=⟨⟩
theorem tw17594760211624526283:True:=⟨⟩
theorem tw380670818271529038:True:=⟨⟩
theorem tw2377688178443341648:True:=⟨⟩
theorem tw12010976375034376571:True:=⟨⟩
theorem tw11435906062788071858:True:=⟨⟩
theorem tw4421343633076843811:True:=⟨⟩
theorem tw9020510118599542987:True:=⟨⟩
theorem tw13058793742947418118:True:=⟨⟩
theorem tw12260765946192292528:True:=⟨⟩
theorem tw1730692517781170194:True:=⟨⟩
theorem tw4762995603375477503:True:=⟨⟩
theorem tw13810174693335883931:True:=⟨⟩
theorem tw13481182421452709113:True:=⟨⟩
theorem tw10510421878787067241:True:=⟨⟩
theorem tw7494416671395988296:True:=⟨⟩
theorem tw1726813977947389158:True:=⟨⟩
theorem tw598913056240112703:True:=⟨⟩
theorem tw16215111772012673247:True:=⟨⟩
theorem tw17670709185726934248:True:=⟨⟩
theorem tw18259904567720872237:True:=⟨⟩
theorem tw563053371679183329:True:=⟨⟩
theorem tw9297663727785247985:True:=⟨⟩
theorem tw420471366415179010:True:=⟨⟩
theorem tw15361482211156371885:True:=⟨⟩
theorem tw17481501184410151347:True:=⟨⟩
theorem tw18442223865690583646:True:=⟨⟩
theorem tw1495474450647618605:True:=⟨⟩
theorem tw6733287294774218101:True:=⟨⟩
theorem tw17790621613727568432:True:=⟨⟩
theorem tw5576238831551449830:True:=⟨⟩
theorem tw2724078706041113679:True:=⟨⟩
theorem tw1162147626044643054:True:=⟨⟩
theorem tw2878241603268103665:True:=⟨⟩
theorem tw11388765831873443430:True:=⟨⟩
theorem tw11033941645859556090:True:=⟨⟩
theorem tw14075567622485590124:True:=⟨⟩
theorem tw6063931015038085704:True:=⟨⟩
theorem tw4463166748007049108:True:=⟨⟩
theorem tw6245827768647603512:True:=⟨⟩
theorem tw1118109838406661019:True:=⟨⟩
theorem tw1446046372975601066:True:=⟨⟩
theorem tw18198432349956210722:True:=⟨⟩
theorem tw9562907100761335393:True:=⟨⟩
theorem tw8656658807441475152:True:=⟨⟩
theorem tw11207535551202950041:True:=⟨⟩
theorem tw17426358754788277328:True:=⟨⟩
theorem tw9482120283554068594:True:=⟨⟩
theorem tw17457086080872000736:True:=⟨⟩
theorem tw6743641750472775847:True:=⟨⟩
theorem tw5061831166103267206:True:=⟨⟩
theorem tw850951039455432525:True:=⟨⟩
theorem tw14973742723826984120:True:=⟨⟩
theorem tw5047764800839148311:True:=⟨⟩
theorem tw1718328181716237790:True:=⟨⟩
theorem tw15857502192387367969:True:=⟨⟩
theorem tw13626826527460705081:True:=⟨⟩
theorem tw7182748549700119884:True:=⟨⟩
theorem tw16546778057378974778:True:=⟨⟩
theorem tw2490168159750464933:True:=⟨⟩
theorem tw12084875070278405943:True:=⟨⟩
theorem tw6822298609184292527:True:=⟨⟩
theorem tw839797487601484142:True:=⟨⟩
theorem tw16465275920067658505:True:=⟨⟩
theorem tw6866683891151582221:True:=⟨⟩
theorem tw16042470173560958907:True:=⟨⟩
theorem tw6749682013178273063:True:=⟨⟩
theorem tw6014219777646665041:True:=⟨⟩
theorem tw5160066459553266816:True:=⟨⟩
theorem tw17478704713776998801:True:=⟨⟩
theorem tw7920918034698477316:True:=⟨⟩
theorem tw9360046480592557864:True:=⟨⟩
theorem tw14046072485561619853:True:=⟨⟩
theorem tw17998473541372339751:True:=⟨⟩
theorem tw9983246530437217887:True:=⟨⟩
theorem tw13137356214971139692:True:=⟨⟩
theorem tw4197135564957649545:True:=⟨⟩
theorem tw17214794808516251772:True:=⟨⟩
theorem tw3922656404881445298:True:=⟨⟩
theorem tw17955352225296809:True:=⟨⟩
theorem tw12102163670211082088:True:=⟨⟩
theorem tw17507916543043632276:True:=⟨⟩
theorem tw16435145116260540403:True:=⟨⟩
theorem tw9513464355261781740:True:=⟨⟩
theorem tw15606695117254604139:True:=⟨⟩
theorem tw17135590481203170121:True:=⟨⟩
theorem tw9211910785286423148:True:=⟨⟩
theorem tw1104458783644820503:True:=⟨⟩
theorem tw7776265952824830946:True:=⟨⟩
theorem tw12075499877463986154:True:=⟨⟩
theorem tw5202776660221476824:True:=⟨⟩
theorem tw16129954062642050573:True:=⟨⟩
theorem tw530684274474814442:True:=⟨⟩
theorem tw11136914164223361463:True:=⟨⟩
theorem tw5390054596428403148:True:=⟨⟩
theorem tw18053077524576164845:True:=⟨⟩
theorem tw17658068361143100475:True:=⟨⟩
theorem tw12328668147688059386:True:=⟨⟩
theorem tw9990162211652564711:True:=⟨⟩
theorem tw7514863291714595196:True:=⟨⟩
theorem tw5875658566950336651:True:=⟨⟩
theorem tw12318616130052019632:True:=⟨⟩
theorem tw1819663710973714041:True:=⟨⟩
theorem tw13227656411800433115:True:=⟨⟩
theorem tw12161247644915218626:True:=⟨⟩
theorem tw7482920708577278718:True:=⟨⟩
theorem tw4069687752174603861:True:=⟨⟩
theorem tw3421753523302657214:True:=⟨⟩
end PySem.W.Fast
open_top MyHead for PySem.Challenge.rw_touchall_k41_sets_go_back
end
-- CHANGE: your row's module here, as the last of these rows
noncomputable section
set_option Elab.async false
set_option linter.all false
set_option maxRecDepth 100000
namespace L2
open PySem PySem.Spec PyProof.Rows
theorem gE {α:Type} {l:List α} {i:Nat} (h:i<l.length):l[i]? = some l[i]:=List.getElem?_eq_getElem h
abbrev Key:=Sum Int Str
def jkz:Key->Value->Bool
 | .inl k,v=>Value.isInt k v
 | .inr x,v=>Value.isStrOf x v
def keyH (w:World):Key->Int
 | .inl k=>hashInt k
 | .inr x=>hashStr w x
theorem jbn:∀ {k:Key} {v:Value},jkz k v = true->(∃ i t,k = Sum.inl i/\v = Value.int i t) \/ (∃ x t,k = Sum.inr x/\v = Value.str x t)
 | .inl i,v,h=>by
  obtain ⟨t,e⟩:=Value.isInt_shape (k:=i) (v:=v) h
  exact .inl ⟨i,t,rfl,e⟩
 | .inr x,v,h=>by
  obtain ⟨t,e⟩:=Value.isStrOf_shape (x:=x) (v:=v) h
  exact .inr ⟨x,t,rfl,e⟩
theorem joz (i:Int) (t:Tok):jkz (.inl i) (.int i t) = true:=by simp [jkz,Value.isInt]
theorem joy (x:Str) (t:Tok):jkz (.inr x) (.str x t) = true:=by simp [jkz,Value.isStrOf]
theorem key_ll (a b:Int):decide ((Sum.inl a:Key) = Sum.inl b) = (a == b):=by
 by_cases e:a = b
 ·subst e; simp
 ·have h:¬ (Sum.inl a:Key) = Sum.inl b:=fun q=>e (Sum.inl.inj q)
  rw [decide_eq_false h]
  exact (beq_eq_false_iff_ne.mpr e).symm
theorem key_rr (a b:Str):decide ((Sum.inr a:Key) = Sum.inr b) = decide (a = b):=by
 by_cases e:a = b
 ·subst e; simp
 ·have h:¬ (Sum.inr a:Key) = Sum.inr b:=fun q=>e (Sum.inr.inj q)
  rw [decide_eq_false h,decide_eq_false e]
theorem key_lr (a:Int) (b:Str):decide ((Sum.inl a:Key) = Sum.inr b) = false:=decide_eq_false (fun q=>nomatch q)
theorem key_rl (a:Str) (b:Int):decide ((Sum.inr a:Key) = Sum.inl b) = false:=decide_eq_false (fun q=>nomatch q)
def jbs (prog:Program) (w:World):PySem.KeyKind prog w Key where
 is:=jkz
 hash:=keyH w
 inj:=fun v a b ha hb=>by
  rcases jbn ha with ⟨i,t,rfl,rfl⟩ | ⟨x,t,rfl,rfl⟩
  ·rcases jbn hb with ⟨j,u,rfl,e⟩ | ⟨y,u,rfl,e⟩
   ·injection e with e1 _; rw [e1]
   ·exact nomatch e
  ·rcases jbn hb with ⟨j,u,rfl,e⟩ | ⟨y,u,rfl,e⟩
   ·exact nomatch e
   ·injection e with e1 _; rw [e1]
 byValue:=fun k v h=>by
  rcases jbn h with ⟨i,t,rfl,rfl⟩ | ⟨x,t,rfl,rfl⟩ <;> rfl
 pyHash:=fun hv h=>by
  rcases jbn hv with ⟨i,t,rfl,rfl⟩ | ⟨x,t,rfl,rfl⟩
  ·exact wpAny_pyHash_int h
  ·exact wpAny_pyHash_str h
 eqBool:=fun hu hv h=>by
  rcases jbn hu with ⟨i,t,rfl,rfl⟩ | ⟨x,t,rfl,rfl⟩
  ·rcases jbn hv with ⟨j,u,rfl,rfl⟩ | ⟨y,u,rfl,rfl⟩
   ·rw [key_ll] at h; exact wpAny_eqBool_int h
   ·rw [key_lr] at h; exact SeqAt.EqAt.int_str i t y u _ _ _ _ h
  ·rcases jbn hv with ⟨j,u,rfl,rfl⟩ | ⟨y,u,rfl,rfl⟩
   ·rw [key_rl] at h; exact SeqAt.EqAt.str_int x t j u _ _ _ _ h
   ·rw [key_rr] at h; exact wpAny_eqBool_str h
 «strs»:=fun k x t v h=>by
  rcases jbn h with ⟨i,u,rfl,e⟩ | ⟨y,u,rfl,e⟩
  ·exact nomatch e
  ·injection e with e1 _
   subst e1
   cases v <;> rfl
theorem jku (prog:Program) (w:World) (i:Int) (t:Tok):(jbs prog w).is (.inl i) (.int i t) = true:=joz i t
theorem jkt (prog:Program) (w:World) (x:Str) (t:Tok):(jbs prog w).is (.inr x) (.str x t) = true:=joy x t
inductive V where
 | non | bl (b:Bool) | int (i:Int) | str (x:Str) | byt (b:Array UInt8) | flt (b:UInt64) | ref (a:Addr) | ty (n:String)
 deriving DecidableEq
def RelV:V->Value->Prop
 | .non,u=>u = Value.none
 | .bl b,u=>u = Value.bool b
 | .int i,u=>∃ t,u = Value.int i t
 | .str x,u=>∃ t,u = Value.str x t
 | .byt b,u=>∃ t,u = Value.bytes b t
 | .flt b,u=>∃ t,u = Value.float b t
 | .ref a,u=>u = Value.ref a
 | .ty n,u=>u = Value.type n
abbrev Vals:List V->List Value->Prop:=Paired RelV
theorem Vals.length {xs:List V} {us:List Value} (r:Vals xs us):xs.length = us.length:=Paired.length r
theorem Vals.get:∀ {xs:List V} {us:List Value} {i:Nat} {x:V},Vals xs us->xs[i]? = some x->∃ u,us[i]? = some u/\RelV x u
 | _,_,_,_,.nil,e=>by simp at e
 | _,_,0,_,.cons r _,e=>by simp at e; subst e; exact ⟨_,rfl,r⟩
 | _,_,i + 1,x,.cons _ t,e=>by
  obtain ⟨u,h1,h2⟩:=Vals.get (i:=i) (x:=x) t (by simpa using e)
  exact ⟨u,by simpa using h1,h2⟩
theorem Vals.set {x:V} {u:Value} (r:RelV x u):∀ {xs:List V} {us:List Value} (i:Nat),Vals xs us->Vals (xs.set i x) (us.set i u)
 | _,_,_,.nil=>.nil
 | _,_,0,.cons _ t=>.cons r t
 | _,_,i + 1,.cons q t=>.cons q (Vals.set r i t)
theorem Vals.append:∀ {xs ys:List V} {us ws:List Value},Vals xs us->Vals ys ws->Vals (xs ++ ys) (us ++ ws)
 | _,_,_,_,.nil,s=>s
 | _,_,_,_,.cons r t,s=>.cons r (Vals.append t s)
theorem Vals.take:∀ {xs:List V} {us:List Value} (n:Nat),Vals xs us->Vals (xs.take n) (us.take n)
 | _,_,0,_=>.nil
 | _,_,_ + 1,.nil=>.nil
 | _,_,n + 1,.cons r t=>.cons r (Vals.take n t)
theorem Vals.drop:∀ {xs:List V} {us:List Value} (n:Nat),Vals xs us->Vals (xs.drop n) (us.drop n)
 | _,_,0,r=>r
 | _,_,_ + 1,.nil=>.nil
 | _,_,n + 1,.cons _ t=>Vals.drop n t
def RelO:Option V->Option Value->Prop
 | some v,some u=>RelV v u
 | none,none=>True
 | _,_=>False
def KV {κ:Type}:List (κ × V)->List (κ × Value)->Prop:=Paired fun (p:κ × V) (q:κ × Value)=>p.1 = q.1/\RelV p.2 q.2
def kV:Key->V
 | .inl i=>.int i
 | .inr x=>.str x
inductive HO where
 | lst (xs:List V)
 | tup (xs:List V)
 | dK (kvs:List (Key × V)) | dT (kvs:List (List Key × V))
 | set (S:Int->Bool) (n:Nat)
 | ins (C dx:Addr) (fs:List (Str × V))
 | own (x:Addr)
 | xd (fs:List (Str × V))
 | met (f x:Addr)
 | rng (lo hi:Int)
 | frz (o:Obj) (u:HO)
 | tbl (ps:Array Value)
 | ext (φ:Heap->Prop)
abbrev Hp:=Addr->Option HO
def upd (H:Hp) (a:Addr) (o:HO):Hp:=fun b=>if b = a then some o else H b
theorem ja1 {H:Hp} {a:Addr} {o:HO}:upd H a o a = some o:=by unfold upd; rw [if_pos rfl]
theorem jae {H:Hp} {a b:Addr} {o:HO} (h:b ≠ a):upd H a o b = H b:=by unfold upd; rw [if_neg h]
theorem jnf {H:Hp} {a:Addr} {o u:HO}:upd (upd H a o) a u = upd H a u:=by
 funext b; unfold upd; split <;> rfl
theorem ne_of {H:Hp} {a b:Addr} {o u:HO} (h:H a = some o) (h':H b = some u) (d:o ≠ u):a ≠ b:=by
 intro e; subst e; rw [h] at h'; exact d (Option.some.inj h')
theorem jaa {H:Hp} {a b:Addr} {o:HO} (h:H a = some o) (h':H b = none):a ≠ b:=by
 intro e; subst e; rw [h] at h'; cases h'
section
variable (P:Program) (w:World)
def jca (H:Hp) (h:Heap) (a:Addr):HO->Prop
 | .lst xs=>xs.length <= sizeLine/\∃ (its:List Value) (n:Nat),Vals xs its/\h.get? a = some { cls:=.type "list",data:=.seq its.toArray n }
 | .tup xs=>xs.length <= sizeLine/\∃ its:List Value,Vals xs its/\IsTup h a its.toArray
 | .dK kvs=>kvs.length <= sizeLine/\(a == sysModules) = false/\∃ vs,KV kvs vs/\h.DictOf (jbs P w) a vs
 | .dT kvs=>kvs.length <= sizeLine/\(a == sysModules) = false/\∃ xs:List (List Key × Addr × Value),
   Paired (fun (p:List Key × V) (q:List Key × Addr × Value)=>p.1 = q.1/\H q.2.1 = some (.tup (p.1.map kV))/\RelV p.2 q.2.2) kvs xs /\
   ∃ o es ep,h.get? a = some o/\o.ExactDict/\o.data = .dict es ep/\es.toList = xs.map (entryOfKey (tupleKind (jbs P w)))/\(xs.map (·.1)).Nodup
 | .set S n=>h.SetOf (intKind P w) a S n
 | .ins C dx fs=>H dx = some (.own a)/\fs.length <= 1000/\dx ≠ a/\h.get? a = some (PySem.W.instObj C dx) /\
   ∃ mA,h.Ns1 dx mA/\(∀ f,RelO (fs.lookup f) (mA f))/\PySem.Within mA (fs.map (·.1))
 | .own _=>∃ o,h.get? a = some o
 | .xd fs=>∃ mA,h.Ns1 a mA/\∀ f,RelO (fs.lookup f) (mA f)
 | .rng lo hi=>∃ t u v,h.get? a = some { cls:=.type "range",data:=.fields #[.int lo t,.int hi u,.int 1 v] }
 | .frz o u=>h.get? a = some o/\jca H h a u
 | .tbl ps=>h.get? a = some { cls:=.none,data:=.fields ps }
 | .met f x=>h.get? a = some (PySem.W.methodObj (.ref f) (.ref x))
 | .ext φ=>φ h/\(∃ o,h.get? a = some o)/\∀ h1 h2:Heap,φ h1->(∀ o,h1.get? a = some o->h2.get? a = some o)->φ h2
def HOk (H:Hp) (h:Heap):Prop:=∀ a o,H a = some o->jca P w H h a o
end
section
variable {P:Program} {w:World} {H H':Hp} {h h':Heap} {a:Addr} {o:HO}
theorem jca.lt (x:jca P w H h a o):a < h.objs.size:=by
 cases o with
 | lst xs=>obtain ⟨_,_,_,_,e⟩:=x; exact Heap.lt_size e
 | tup xs=>obtain ⟨_,_,_,p⟩:=x; exact p.lt
 | dK kvs=>obtain ⟨_,_,_,_,o,_,_,e,_⟩:=x; exact Heap.lt_size e
 | dT kvs=>obtain ⟨_,_,_,_,o,_,_,e,_⟩:=x; exact Heap.lt_size e
 | set S n=>obtain ⟨o,_,_,_,e,_⟩:=x; exact Heap.lt_size e
 | ins C dx fs=>obtain ⟨_,_,_,e,_⟩:=x; exact Heap.lt_size e
 | own y=>obtain ⟨_,e⟩:=x; exact Heap.lt_size e
 | xd fs=>obtain ⟨_,⟨_,_,_,e,_⟩,_⟩:=x; exact Heap.lt_size e
 | rng lo hi=>obtain ⟨_,_,_,e⟩:=x; exact Heap.lt_size e
 | frz ob u=>obtain ⟨e,_⟩:=x; exact Heap.lt_size e
 | tbl ps=>exact Heap.lt_size (show h.get? a = some _ from x)
 | met f y=>exact Heap.lt_size (show h.get? a = some _ from x)
 | ext φ=>obtain ⟨_,⟨_,e⟩,_⟩:=x; exact Heap.lt_size e
theorem Paired.mapP {α β:Type} {F G:α->β->Prop}:∀ {l₁:List α} {l₂:List β},Paired F l₁ l₂->(∀ a b,F a b->G a b)->Paired G l₁ l₂
 | _,_,.nil,_=>.nil
 | _,_,.cons r t,f=>.cons (f _ _ r) (Paired.mapP t f)
theorem jca.stay (x:jca P w H h a o) (k:∀ b u,(b = a \/ H b = some (.own a))->h.get? b = some u->h'.get? b = some u)
  (ho:∀ b,H b = some (.own a)->H' b = some (.own a)) (ht:∀ b xs,H b = some (.tup xs)->H' b = some (.tup xs)):jca P w H' h' a o:=by
 induction o with
 | lst xs=>obtain ⟨z,its,n,r,e⟩:=x; exact ⟨z,its,n,r,k _ _ (.inl rfl) e⟩
 | tup xs=>obtain ⟨z,its,r,ob,e,c⟩:=x; exact ⟨z,its,r,ob,k _ _ (.inl rfl) e,c⟩
 | dK kvs=>obtain ⟨z,y,vs,r,ob,es,ep,e,c⟩:=x; exact ⟨z,y,vs,r,ob,es,ep,k _ _ (.inl rfl) e,c⟩
 | dT kvs =>
  obtain ⟨z,y,xs,r,ob,es,ep,e,c⟩:=x
  exact ⟨z,y,xs,Paired.mapP r fun p q z=>⟨z.1,ht _ _ z.2.1,z.2.2⟩,ob,es,ep,k _ _ (.inl rfl) e,c⟩
 | set S n=>obtain ⟨ob,es,ep,t,e,c⟩:=x; exact ⟨ob,es,ep,t,k _ _ (.inl rfl) e,c⟩
 | ins C dx fs =>
  obtain ⟨d,z,ne,e,mA,⟨od,es,ep,e2,c⟩,r⟩:=x
  exact ⟨ho _ d,z,ne,k _ _ (.inl rfl) e,mA,⟨od,es,ep,k _ _ (.inr d) e2,c⟩,r⟩
 | own y=>obtain ⟨ob,e⟩:=x; exact ⟨ob,k _ _ (.inl rfl) e⟩
 | xd fs=>obtain ⟨mA,⟨od,es,ep,e,c⟩,r⟩:=x; exact ⟨mA,⟨od,es,ep,k _ _ (.inl rfl) e,c⟩,r⟩
 | rng lo hi=>obtain ⟨t,u,v,e⟩:=x; exact ⟨t,u,v,k _ _ (.inl rfl) e⟩
 | frz ob u ih=>obtain ⟨e,q⟩:=x; exact ⟨k _ _ (.inl rfl) e,ih q⟩
 | tbl ps =>
  have e:h.get? a = some { cls:=.none,data:=.fields ps }:=x
  show h'.get? a = some { cls:=.none,data:=.fields ps }
  exact k a _ (.inl rfl) e
 | met f y =>
  have e:h.get? a = some (PySem.W.methodObj (.ref f) (.ref y)):=x
  show h'.get? a = some (PySem.W.methodObj (.ref f) (.ref y))
  exact k a _ (.inl rfl) e
 | ext φ=>obtain ⟨p,⟨o,e⟩,st⟩:=x; exact ⟨st _ _ p fun o q=>k _ _ (.inl rfl) q,⟨o,k _ _ (.inl rfl) e⟩,st⟩
theorem HOk.lt (x:HOk P w H h) (e:H a = some o):a < h.objs.size:=(x a o e).lt
theorem HOk.fresh (x:HOk P w H h) (e:h.objs.size <= a):H a = none:=by
 cases q:H a with
 | none=>rfl
 | some u=>exact absurd (Nat.lt_of_lt_of_le (x.lt q) e) (Nat.lt_irrefl _)
theorem HOk.kept (x:HOk P w H h) (k:∀ b u,h.get? b = some u->h'.get? b = some u):HOk P w H h':=fun a o e =>
 (x a o e).stay (fun b u _ q=>k b u q) (fun _ q=>q) fun _ _ q=>q
theorem HOk.laid (x:HOk P w H h) (k:∀ b u,h.get? b = some u->h'.get? b = some u) (hp:h.objs.size <= a) (new:jca P w (upd H a o) h' a o):HOk P w (upd H a o) h':=fun b u e=>by
 have hn:=x.fresh hp
 by_cases hb:b = a
 ·subst hb; rw [ja1] at e; cases e; exact new
 ·rw [jae hb] at e
  exact (x b u e).stay (fun c v _ q=>k c v q) (fun c q=>by rw [jae (jaa q hn)]; exact q) fun c xs q=>by rw [jae (jaa q hn)]; exact q
end
def Rd (H:Hp) (a:Addr) (u:HO):Prop:=H a = some u \/ ∃ o,H a = some (.frz o u)
theorem Rd.of {H:Hp} {a:Addr} {u:HO} (h:H a = some u):Rd H a u:=.inl h
theorem Rd.ok {P:Program} {w:World} {H:Hp} {h:Heap} {a:Addr} {u:HO} (r:Rd H a u) (x:HOk P w H h):jca P w H h a u:=by
 rcases r with r | ⟨o,r⟩
 ·exact x a u r
 ·obtain ⟨_,q⟩:=x a _ r
  exact q
def Mut:Option HO->Prop
 | some (.lst _)=>True
 | some (.dK _)=>True
 | some (.dT _)=>True
 | some (.set _ _)=>True
 | some (.ins _ _ _)=>True
 | some (.ext _)=>True
 | _=>False
section
variable {P:Program} {w:World} {H:Hp} {h h':Heap} {x e:Addr} {o':HO}
theorem HOk.write (ok:HOk P w H h) (mu:Mut (H x)) (he:e = x \/ H e = some (.own x)) (k:∀ b u,b ≠ e->h.get? b = some u->h'.get? b = some u) (heo:∃ u,h'.get? e = some u)
  (new:jca P w (upd H x o') h' x o'):HOk P w (upd H x o') h':=fun b u q=>by
 have nown:∀ c y,H c = some (.own y)->c ≠ x:=fun c y r z=>by subst z; rw [r] at mu; exact mu
 have ntup:∀ c xs,H c = some (.tup xs)->c ≠ x:=fun c xs r z=>by subst z; rw [r] at mu; exact mu
 by_cases hb:b = x
 ·subst hb; rw [ja1] at q; cases q; exact new
 ·rw [jae hb] at q
  by_cases hbe:b = e
  ·have q':H b = some (.own x):=by
    rcases he with z | z
    ·exact absurd (hbe.trans z) hb
    ·rw [hbe]; exact z
   rw [q] at q'; cases q'
   obtain ⟨v,hv⟩:=heo
   exact ⟨v,by rw [hbe]; exact hv⟩
  ·refine (ok b u q).stay (fun c v hc r=>k c v ?_ r) (fun c r=>by rw [jae (nown c b r)]; exact r) fun c xs r=>by rw [jae (ntup c xs r)]; exact r
   rcases hc with rfl | hc
   ·exact hbe
   ·rintro rfl
    rcases he with z | z
    ·exact nown c b hc z
    ·rw [hc] at z; cases z; exact hb rfl
end
structure Un (fs ex:List Addr) (H H':Hp) (h h':Heap):Prop where
 keep:∀ b o,h.get? b = some o->H b = none->b ∉ fs->b ∉ ex->h'.get? b = some o
 slot:∀ b o,h.get? b = some o->H b = none->b ∈ fs->b ∉ ex->∃ sl,h'.get? b = some { o with slots:=sl }
 free:∀ b o,h.get? b = some o->H b = none->b ∉ ex->H' b = none
 there:∀ b o,h.get? b = some o->b ∉ ex->∃ o',h'.get? b = some o'
 tups:∀ b xs,H b = some (.tup xs)->H' b = some (.tup xs)
 frzs:∀ b o u,H b = some (.frz o u)->H' b = some (.frz o u)
 tbls:∀ b ps,H b = some (.tbl ps)->∃ more,H' b = some (.tbl (ps ++ more))
section
variable {fs fs' ex ex':List Addr} {H H1 H2:Hp} {h h1 h2 h':Heap} {a x e:Addr} {o:HO}
theorem Un.any (u:Un fs ex H H1 h h1) {b:Addr} {ob:Obj} (q:h.get? b = some ob) (n:H b = none) (hx:b ∉ ex):∃ sl,h1.get? b = some { ob with slots:=sl }:=by
 by_cases hb:b ∈ fs
 ·exact u.slot b ob q n hb hx
 ·exact ⟨ob.slots,u.keep b ob q n hb hx⟩
theorem Un.trans (a:Un fs ex H H1 h h1) (b:Un fs ex H1 H2 h1 h2):Un fs ex H H2 h h2 where
 keep:=fun c ob q n hc hx=>b.keep c ob (a.keep c ob q n hc hx) (a.free c ob q n hx) hc hx
 slot:=fun c ob q n hc hx=>by
  obtain ⟨sl,e1⟩:=a.slot c ob q n hc hx
  obtain ⟨sl',e2⟩:=b.slot c _ e1 (a.free c ob q n hx) hc hx
  exact ⟨sl',e2⟩
 free:=fun c ob q n hx=>by
  obtain ⟨o',e1⟩:=a.there c ob q hx
  exact b.free c o' e1 (a.free c ob q n hx) hx
 there:=fun c ob q hx=>by
  obtain ⟨o',e1⟩:=a.there c ob q hx
  exact b.there c o' e1 hx
 tups:=fun c xs q=>b.tups c xs (a.tups c xs q)
 frzs:=fun c ob xs q=>b.frzs c ob xs (a.frzs c ob xs q)
 tbls:=fun c ps q=>by
  obtain ⟨m1,e1⟩:=a.tbls c ps q
  obtain ⟨m2,e2⟩:=b.tbls c _ e1
  exact ⟨m1 ++ m2,by rw [e2,Array.append_assoc]⟩
theorem Un.kept (k:∀ b u,h.get? b = some u->h'.get? b = some u):Un fs ex H H h h' :=
 ⟨fun b ob q _ _ _=>k b ob q,fun b ob q _ _ _=>⟨ob.slots,k b ob q⟩,fun _ _ _ n _=>n,fun b ob q _=>⟨ob,k b ob q⟩,fun _ _ q=>q,fun _ _ _ q=>q,fun _ ps q=>⟨#[],by rw [q]; simp⟩⟩
theorem Un.refl:Un fs ex H H h h:=Un.kept fun _ _ q=>q
theorem Un.laid (k:∀ b u,h.get? b = some u->h'.get? b = some u) (hp:h.objs.size <= a) (hn:H a = none):Un fs ex H (upd H a o) h h' where
 keep:=fun b u q _ _ _=>k b u q
 slot:=fun b u q _ _ _=>⟨u.slots,k b u q⟩
 free:=fun b u q n _=>by rw [jae (Nat.ne_of_lt (Nat.lt_of_lt_of_le (Heap.lt_size q) hp))]; exact n
 there:=fun b u q _=>⟨u,k b u q⟩
 tups:=fun b xs q=>by rw [jae (jaa q hn)]; exact q
 frzs:=fun b u xs q=>by rw [jae (jaa q hn)]; exact q
 tbls:=fun b ps q=>⟨#[],by rw [jae (jaa q hn),q]; simp⟩
theorem Un.write (mu:Mut (H x)) (he:e = x \/ H e = some (.own x)) (k:∀ b u,b ≠ e->h.get? b = some u->h'.get? b = some u) (heo:∃ u,h'.get? e = some u):Un fs ex H (upd H x o) h h':=by
 have hx:∀ b,H b = none->b ≠ x:=fun b n z=>by subst z; rw [n] at mu; exact mu
 have hb:∀ b,H b = none->b ≠ e:=fun b n z=>by
  subst z
  rcases he with r | r
  ·exact hx b n r
  ·rw [n] at r; cases r
 have hm:∀ b u,H b = some u->¬ Mut (some u)->b ≠ x:=fun b u q nm z=>by subst z; rw [q] at mu; exact nm mu
 refine ⟨fun b u q n _ _=>k b u (hb b n) q,fun b u q n _ _=>⟨u.slots,k b u (hb b n) q⟩,fun b u q n _=>by rw [jae (hx b n)]; exact n,fun b u q _=>?_,
  fun b xs q=>by rw [jae (hm b _ q fun z=>z)]; exact q,fun b u xs q=>by rw [jae (hm b _ q fun z=>z)]; exact q,fun b ps q=>⟨#[],by rw [jae (hm b _ q fun z=>z),q]; simp⟩⟩
 by_cases hbe:b = e
 ·subst hbe; exact heo
 ·exact ⟨u,k b u hbe q⟩
theorem Un.mono (u:Un fs ex H H1 h h1) (hs:∀ b ∈ fs,b ∈ fs') (hx:∀ b ∈ ex,b ∈ ex'):Un fs' ex' H H1 h h1 :=
 ⟨fun b ob q n hb he=>u.keep b ob q n (fun z=>hb (hs b z)) fun z=>he (hx b z),fun _ _ q n _ he=>u.any q n fun z=>he (hx _ z),fun b ob q n he=>u.free b ob q n fun z=>he (hx b z),fun b ob q he=>u.there b ob q fun z=>he (hx b z),u.tups,u.frzs,u.tbls⟩
end
def trk (h:Heap) (H:Hp):List Addr:=(List.range h.objs.size).filter fun a=>(H a).isSome
def hidT (h:Heap) (H:Hp):Heap:=PySem.W.hideAll h (trk h H)
theorem jp5 (h:Heap) (H:Hp):(hidT h H).objs.size = h.objs.size:=PySem.W.hideAll_size _ _
theorem jqj {h:Heap} {H:Hp} {b:Addr} {o:Obj} (e:h.get? b = some o) (n:H b = none):(hidT h H).get? b = some o :=
 PySem.W.hideAll_get _ e fun hm=>by
  have q:(H b).isSome = true:=(List.mem_filter.mp hm).2
  rw [n] at q; simp at q
theorem js7 {h:Heap} {H:Hp} {b:Addr} {o:Obj} (e:(hidT h H).get? b = some o):h.get? b = some o/\H b = none:=by
 have e':h.get? b = some o:=PySem.W.of_hideAll (trk h H) e
 refine ⟨e',?_⟩
 cases q:H b with
 | none=>rfl
 | some x =>
  have hm:b ∈ trk h H:=List.mem_filter.mpr ⟨List.mem_range.mpr (Heap.lt_size e'),by simp [q]⟩
  have z:(hidT h H).get? b = none:=PySem.W.hideAll_none (trk h H) hm
  rw [z] at e; cases e
structure Mod (K:PySem.W.Frag) (mg:Str->Option Value) (base:Heap):Prop where
 kin:K.In base
 glob:base.Ns mainGlobals mg
 blt:∃ mb,base.Ns builtinsNs mb/\∀ x:Str,x ≠ "__name__"->mb x = bootBuiltins x
 nolimit:base.NoLimit
structure Cx where
 prog:Program
 w:World
 K:PySem.W.Frag
 mg:Str->Option Value
 base:Heap
 A:Around
 N:List Str
 s₀:Shared
 H₀:Hp
 env:Env
 outer:List Env
 stack:List Env
 ex:List Addr
 fn:Str->Bool
 calm:Bool
 pn:List (Addr × Obj)
 xe:Value->Shared->Prop
def frs (l:List Env):List Addr:=l.filterMap (·.frame)
abbrev Cx.fs (X:Cx):List Addr:=frs X.outer
def Vis (sc:Scope) (x:Str):Prop:=sc.names.lookup x = some .local \/ sc.names.lookup x = some .cell \/ sc.names.lookup x = some .free
def Loc (sc:Scope) (x:Str):Prop:=sc.names.lookup x = some .local \/ sc.names.lookup x = some .cell
def Look (env:Env) (h:Heap) (m:Str->Option Value) (x:Str) (u:Value):Prop :=
 (env.kindOf x = some .local/\m x = some u) \/ ((env.kindOf x = some .cell \/ env.kindOf x = some .free)/\∃ c,env.cells.lookup x = some c/\h.IsCell c (some u))
structure Cx.Ok (X:Cx):Prop where
 mod:Mod X.K X.mg X.base
 kind:X.env.scope.kind = .function
 glob:X.env.globals = mainGlobals
 blt:X.env.builtins = builtinsNs
 above:X.s₀.heap.objs.size <= X.env.locals
 inj:∀ x y c,X.env.cells.lookup x = some c->X.env.cells.lookup y = some c->x = y
 has:∀ x,(X.env.kindOf x = some .cell \/ X.env.kindOf x = some .free)->∃ c,X.env.cells.lookup x = some c
 cab:∀ x c,X.fn x = true->X.env.cells.lookup x = some c->X.s₀.heap.objs.size <= c
 hd:X.calm = true->X.A.handled = none
 frames:X.A.frames = some X.stack
 stk:X.stack = X.outer \/ (X.stack = X.env :: X.outer/\X.env.frame = some X.env.locals)
 exf:∀ b ∈ X.ex,b ≠ X.env.locals/\∀ x c,X.env.cells.lookup x = some c->c ≠ b
 bs:∀ b o,X.base.get? b = some o->X.s₀.heap.get? b = some o/\X.H₀ b = none
 bsz:X.base.objs.size <= X.s₀.heap.objs.size
 noex:∀ b o,X.base.get? b = some o->b ∉ X.ex
 exfs:∀ b ∈ X.ex,b ∉ X.fs
 funs:X.s₀.heap.FunFrames X.base X.outer
 frf:∀ b ∈ X.fs,X.H₀ b = none
structure Inv (X:Cx) (pins:List (Addr × Obj)) (σ:List (Option V)) (H:Hp) (s:Shared):Prop where
 ok:X.Ok
 os:s.os = X.s₀.os
 bare:AllBare s.gens
 base:Un X.fs X.ex X.H₀ H X.s₀.heap s.heap
 loc:∃ m,s.heap.Ns X.env.locals m/\∀ (i:Nat) (x:Str) (v:V),X.N[i]? = some x->σ[i]? = some (some v)->Vis X.env.scope x->∃ u,RelV v u/\Look X.env s.heap m x u
 cell:∀ x c,X.env.cells.lookup x = some c->∃ v,s.heap.IsCell c v
 free:H X.env.locals = none
 freeC:∀ x c,X.env.cells.lookup x = some c->H c = none
 pin:∀ p ∈ X.pn ++ pins,s.heap.get? p.1 = some p.2/\H p.1 = none/\p.1 ≠ X.env.locals/\p.1 ∉ X.fs/\∀ v,p.2.data ≠ .cell v
 hok:HOk X.prog X.w H s.heap
 len:σ.length = X.N.length
section
variable {X:Cx} {pins:List (Addr × Obj)} {σ:List (Option V)} {H H':Hp} {s:Shared} {h':Heap}
theorem Cx.Ok.nofr (ok:X.Ok) {b:Addr} {o:Obj} (e:X.base.get? b = some o):b ∉ X.fs:=fun hb=>by
 have:=(ok.funs.mem hb).1
 rw [e] at this; cases this
theorem Inv.bs (I:Inv X pins σ H s):∀ b o,X.base.get? b = some o->s.heap.get? b = some o/\H b = none:=fun b o e =>
 ⟨I.base.keep b o (I.ok.bs b o e).1 (I.ok.bs b o e).2 (I.ok.nofr e) (I.ok.noex b o e),I.base.free b o (I.ok.bs b o e).1 (I.ok.bs b o e).2 (I.ok.noex b o e)⟩
theorem Inv.bk (I:Inv X pins σ H s):∀ b o,X.base.get? b = some o->s.heap.get? b = some o:=fun b o e=>(I.bs b o e).1
theorem Inv.mod (I:Inv X pins σ H s):Mod X.K X.mg X.base:=I.ok.mod
theorem Inv.kIn (I:Inv X pins σ H s):X.K.In s.heap:=I.ok.mod.kin.keeps I.bk
theorem Inv.fr (I:Inv X pins σ H s):∃ m,Fr X.base X.env.locals s.heap m :=
 let ⟨m,hn,_⟩:=I.loc
 ⟨m,hn,I.bk,Nat.le_trans I.ok.bsz I.ok.above⟩
theorem Inv.lt (I:Inv X pins σ H s):X.env.locals < s.heap.objs.size:=let ⟨_,hn,_⟩:=I.loc; hn.lt
theorem Inv.sz (I:Inv X pins σ H s):X.s₀.heap.objs.size <= s.heap.objs.size:=Nat.le_trans I.ok.above (Nat.le_of_lt I.lt)
theorem Inv.nofs (I:Inv X pins σ H s) {a:Addr} (h:s.heap.objs.size <= a):a ∉ X.fs:=fun hb=>by
 obtain ⟨_,o,ho,_⟩:=I.ok.funs.mem hb
 exact absurd (Nat.lt_of_lt_of_le (Heap.lt_size ho) (Nat.le_trans I.sz h)) (Nat.lt_irrefl _)
theorem Inv.cne (I:Inv X pins σ H s):∀ x c,X.env.cells.lookup x = some c->c ≠ X.env.locals:=fun x c e z=>by
 obtain ⟨v,o,ho,hd⟩:=I.cell x c e
 obtain ⟨m,⟨o',es,ep,ho',hd',_⟩,_⟩:=I.loc
 rw [z,ho'] at ho; cases ho; rw [hd'] at hd; cases hd
theorem Inv.funs (I:Inv X pins σ H s):s.heap.FunFrames X.base X.outer:=by
 have all:∀ (l:List Env),(∀ b ∈ frs l,b ∈ X.fs)->X.s₀.heap.FunFrames X.base l->s.heap.FunFrames X.base l:=by
  intro l
  induction l with
  | nil=>intro _ _; trivial
  | cons env r ih =>
   intro hs hl
   obtain ⟨hk,⟨L,o,hf,hn,ho,hd⟩,hr⟩:=hl
   have hL:L ∈ X.fs:=hs L (by unfold frs; rw [List.filterMap_cons,hf]; exact List.mem_cons_self)
   obtain ⟨sl,e⟩:=I.base.slot L o ho (I.ok.frf L hL) hL fun z=>I.ok.exfs L z hL
   exact ⟨hk,⟨L,_,hf,hn,e,hd⟩,ih (fun b hb=>hs b (by unfold frs; rw [List.filterMap_cons,hf]; exact List.mem_cons_of_mem _ hb)) hr⟩
 exact all X.outer (fun _ hb=>hb) I.ok.funs
theorem Inv.stack (I:Inv X pins σ H s):s.heap.FunFrames X.base X.stack:=by
 rcases I.ok.stk with e | ⟨e,hf⟩
 ·rw [e]; exact I.funs
 ·rw [e]
  obtain ⟨m,hn,_⟩:=I.loc
  refine .cons (by rw [I.ok.kind]; decide) hf hn ?_ I.funs
  exact Heap.get?_none_of_le (Nat.le_trans I.ok.bsz I.ok.above)
theorem Inv.stkSub (I:Inv X pins σ H s):∀ b ∈ frs X.stack,b ∈ X.env.locals :: X.fs:=fun b hb=>by
 rcases I.ok.stk with e | ⟨e,hf⟩
 ·rw [e] at hb; exact List.mem_cons_of_mem _ hb
 ·rw [e] at hb
  unfold frs at hb
  rw [List.filterMap_cons,hf] at hb
  exact hb
theorem Inv.stkFree (I:Inv X pins σ H s):∀ b ∈ frs X.stack,H b = none:=fun b hb=>by
 rcases List.mem_cons.mp (I.stkSub b hb) with e | hb
 ·rw [e]; exact I.free
 ·obtain ⟨_,o,ho,_⟩:=I.ok.funs.mem hb
  exact I.base.free b o ho (I.ok.frf b hb) fun z=>I.ok.exfs b z hb
theorem Inv.step {g':Array GenState} {t':Nat} {d':Drawn} {ch:List Addr} (I:Inv X pins σ H s)
  (hch:∀ b ∈ ch,(b ∈ X.ex \/ X.s₀.heap.objs.size <= b)/\b ≠ X.env.locals/\(∀ x c,X.env.cells.lookup x = some c->c ≠ b)/\∀ p ∈ X.pn ++ pins,p.1 ≠ b)
  (keep:∀ b o,b ≠ X.env.locals->b ∉ X.fs->b ∉ ch->s.heap.get? b = some o->H b = none->h'.get? b = some o)
  (slot:∀ b o,b ≠ X.env.locals->b ∈ X.fs->b ∉ ch->s.heap.get? b = some o->H b = none->∃ sl,h'.get? b = some { o with slots:=sl }) (free:∀ b o,b ∉ ch->s.heap.get? b = some o->H b = none->H' b = none)
  (there:∀ b o,b ∉ ch->s.heap.get? b = some o->∃ o',h'.get? b = some o')
  (tups:∀ b xs,H b = some (.tup xs)->H' b = some (.tup xs)) (frzs:∀ b o u,H b = some (.frz o u)->H' b = some (.frz o u)) (tbls:∀ b ps,H b = some (.tbl ps)->∃ more,H' b = some (.tbl (ps ++ more)))
  (ns:∀ m,s.heap.Ns X.env.locals m->h'.Ns X.env.locals m) (hok:HOk X.prog X.w H' h') (hg:AllBare g') :
  Inv X pins σ H' { s with heap:=h',gens:=g',drawn:=d',toks:=t' }:=by
 have neL:∀ b o,X.s₀.heap.get? b = some o->b ≠ X.env.locals:=fun b o e=>Nat.ne_of_lt (Nat.lt_of_lt_of_le (Heap.lt_size e) I.ok.above)
 have neC:∀ b o,X.s₀.heap.get? b = some o->b ∉ X.ex->b ∉ ch:=fun b o e hx hb=>by
  rcases (hch b hb).1 with z | z
  ·exact hx z
  ·exact absurd (Nat.lt_of_lt_of_le (Heap.lt_size e) z) (Nat.lt_irrefl _)
 have cellK:∀ x c,X.env.cells.lookup x = some c->∀ v,s.heap.IsCell c v->h'.IsCell c v:=fun x c e v ⟨o,ho,hd⟩=>by
  have nch:c ∉ ch:=fun z=>(hch c z).2.2.1 x c e rfl
  by_cases hc:c ∈ X.fs
  ·obtain ⟨sl,q⟩:=slot c o (I.cne x c e) hc nch ho (I.freeC x c e)
   exact ⟨_,q,hd⟩
  ·exact ⟨o,keep c o (I.cne x c e) hc nch ho (I.freeC x c e),hd⟩
 refine ⟨I.ok,I.os,hg,⟨fun b o e n hb hx=>?_,fun b o e n hb hx=>?_,fun b o e n hx=>?_,fun b o e hx=>?_,fun b xs e=>tups b xs (I.base.tups b xs e),fun b o xs e=>frzs b o xs (I.base.frzs b o xs e),fun b ps e=>?_⟩,?_,fun x c e=>?_,?_,fun x c e=>?_,fun p hp=>?_,hok,I.len⟩
 ·exact keep b o (neL b o e) hb (neC b o e hx) (I.base.keep b o e n hb hx) (I.base.free b o e n hx)
 ·obtain ⟨sl,e1⟩:=I.base.slot b o e n hb hx
  obtain ⟨sl',e2⟩:=slot b _ (neL b o e) hb (neC b o e hx) e1 (I.base.free b o e n hx)
  exact ⟨sl',e2⟩
 ·obtain ⟨o',e1⟩:=I.base.there b o e hx
  exact free b o' (neC b o e hx) e1 (I.base.free b o e n hx)
 ·obtain ⟨o',e1⟩:=I.base.there b o e hx
  exact there b o' (neC b o e hx) e1
 ·obtain ⟨m1,e1⟩:=I.base.tbls b ps e
  obtain ⟨m2,e2⟩:=tbls b _ e1
  exact ⟨m1 ++ m2,by rw [e2,Array.append_assoc]⟩
 ·obtain ⟨m,hn,hl⟩:=I.loc
  refine ⟨m,ns m hn,fun i x v e1 e2 e3=>?_⟩
  obtain ⟨u,r,l⟩:=hl i x v e1 e2 e3
  refine ⟨u,r,?_⟩
  rcases l with l | ⟨k,c,e,z⟩
  ·exact .inl l
  ·exact .inr ⟨k,c,e,cellK x c e _ z⟩
 ·obtain ⟨v,z⟩:=I.cell x c e
  exact ⟨v,cellK x c e v z⟩
 ·obtain ⟨m,⟨o,_,_,ho,_⟩,_⟩:=I.loc
  exact free _ o (fun z=>(hch _ z).2.1 rfl) ho I.free
 ·obtain ⟨v,o,ho,hd⟩:=I.cell x c e
  exact free c o (fun z=>(hch c z).2.2.1 x c e rfl) ho (I.freeC x c e)
 ·obtain ⟨e,n,ne,nf,d⟩:=I.pin p hp
  have nch:p.1 ∉ ch:=fun z=>(hch p.1 z).2.2.2 p hp rfl
  exact ⟨keep p.1 p.2 ne nf nch e n,free p.1 p.2 nch e n,ne,nf,d⟩
theorem Inv.un {t':Nat} (I:Inv X pins σ H s) (u:Un X.fs [] H H' s.heap h') (hok:HOk X.prog X.w H' h'):Inv X pins σ H' { s with heap:=h',toks:=t' }:=by
 obtain ⟨m,⟨o,es,ep,ho,r⟩,_⟩:=id I.loc
 obtain ⟨sl,hL⟩:=u.any ho I.free (by simp)
 exact I.step (g':=s.gens) (d':=s.drawn) (ch:=[]) (fun _ z=>nomatch z) (fun b o _ hb _ e n=>u.keep b o e n hb (by simp)) (fun b o _ hb _ e n=>u.slot b o e n hb (by simp)) (fun b o _ e n=>u.free b o e n (by simp)) (fun b o _ e=>u.there b o e (by simp)) u.tups u.frzs u.tbls (fun m' hm=>by
  obtain ⟨o',es',ep',ho',r'⟩:=hm
  rw [ho] at ho'; cases ho'
  exact ⟨_,es',ep',hL,r'⟩) hok I.bare
theorem Inv.call {g':Array GenState} {t':Nat} {d':Drawn} {ch:List Addr} (I:Inv X pins σ H s) (u:Un (frs X.stack) ch H H' s.heap h') (hok:HOk X.prog X.w H' h') (hg:AllBare g')
  (hch:∀ b ∈ ch,(b ∈ X.ex \/ X.s₀.heap.objs.size <= b)/\b ≠ X.env.locals/\(∀ x c,X.env.cells.lookup x = some c->c ≠ b)/\∀ p ∈ X.pn ++ pins,p.1 ≠ b) :
  Inv X pins σ H' { s with heap:=h',gens:=g',drawn:=d',toks:=t' }:=by
 obtain ⟨m,⟨o,es,ep,ho,r⟩,_⟩:=id I.loc
 obtain ⟨sl,hL⟩:=u.any ho I.free fun z=>(hch _ z).2.1 rfl
 exact I.step (ch:=ch) hch (fun b o hL hb hc e n=>u.keep b o e n (fun z=>(List.mem_cons.mp (I.stkSub b z)).elim hL hb) hc) (fun b o _ _ hc e n=>u.any e n hc) (fun b o hc e n=>u.free b o e n hc) (fun b o hc e=>u.there b o e hc) u.tups u.frzs u.tbls (fun m' hm=>by
  obtain ⟨o',es',ep',ho',r'⟩:=hm
  rw [ho] at ho'; cases ho'
  exact ⟨_,es',ep',hL,r'⟩) hok hg
theorem Inv.turned {t':Nat} {it:Addr} (I:Inv X pins σ H s) (k:∀ b o,b ≠ it->s.heap.get? b = some o->h'.get? b = some o) (hn:H it = none) (hL:it ≠ X.env.locals)
  (h1:it ∈ X.ex \/ X.s₀.heap.objs.size <= it) (h2:∀ x c,X.env.cells.lookup x = some c->c ≠ it) (h3:∀ p ∈ X.pn ++ pins,p.1 ≠ it):Inv X pins σ H { s with heap:=h',toks:=t' }:=by
 have nit:∀ b u,H b = some u->b ≠ it:=fun b u e z=>by rw [z,hn] at e; cases e
 refine I.step (g':=s.gens) (d':=s.drawn) (ch:=[it]) (fun b hb=>?_) (fun b o _ _ hc e _=>k b o (fun z=>hc (by simp [z])) e) (fun b o _ _ hc e _=>⟨o.slots,k b o (fun z=>hc (by simp [z])) e⟩) (fun _ _ _ _ n=>n)
  (fun b o hc e=>⟨o,k b o (fun z=>hc (by simp [z])) e⟩) (fun _ _ e=>e) (fun _ _ _ e=>e) (fun b ps e=>⟨#[],by rw [e]; simp⟩) (fun m hm=>?_) (fun b u e=>?_) I.bare
 ·have e:b = it:=by simpa using hb
  subst e
  exact ⟨h1,hL,h2,h3⟩
 ·obtain ⟨o,es,ep,ho,r⟩:=hm
  exact ⟨o,es,ep,k _ o (Ne.symm hL) ho,r⟩
 ·refine (I.hok b u e).stay (fun c v hc q=>k c v ?_ q) (fun _ q=>q) fun _ _ q=>q
  rcases hc with z | z
  ·rw [z]; exact nit b u e
  ·exact nit c _ z
theorem Inv.tok (I:Inv X pins σ H s) (t:Nat):Inv X pins σ H { s with toks:=t }:=I.un (h':=s.heap) (t':=t) Un.refl I.hok
theorem Inv.kept {t':Nat} (I:Inv X pins σ H s) (k:∀ b u,s.heap.get? b = some u->h'.get? b = some u):Inv X pins σ H { s with heap:=h',toks:=t' }:=I.un (Un.kept k) (I.hok.kept k)
theorem Inv.laid {a:Addr} {o:HO} {t':Nat} (I:Inv X pins σ H s) (k:∀ b u,s.heap.get? b = some u->h'.get? b = some u) (hp:s.heap.objs.size <= a) (new:jca X.prog X.w (upd H a o) h' a o) :
  Inv X pins σ (upd H a o) { s with heap:=h',toks:=t' }:=I.un (Un.laid k hp (I.hok.fresh hp)) (I.hok.laid k hp new)
theorem Inv.write {x e:Addr} {o:HO} {t':Nat} (I:Inv X pins σ H s) (mu:Mut (H x)) (he:e = x \/ H e = some (.own x)) (k:∀ b u,b ≠ e->s.heap.get? b = some u->h'.get? b = some u) (heo:∃ u,h'.get? e = some u)
  (new:jca X.prog X.w (upd H x o) h' x o):Inv X pins σ (upd H x o) { s with heap:=h',toks:=t' }:=I.un (Un.write mu he k heo) (I.hok.write mu he k heo new)
theorem Inv.pins_of {pins':List (Addr × Obj)} (I:Inv X pins σ H s) (h:∀ p ∈ pins',s.heap.get? p.1 = some p.2/\H p.1 = none/\p.1 ≠ X.env.locals/\p.1 ∉ X.fs/\∀ v,p.2.data ≠ .cell v):Inv X pins' σ H s :=
 ⟨I.ok,I.os,I.bare,I.base,I.loc,I.cell,I.free,I.freeC,fun p hp=>(List.mem_append.mp hp).elim (fun z=>I.pin p (List.mem_append_left _ z)) (h p),I.hok,I.len⟩
theorem jlr {N:List Str} (hN:N.Nodup) {i j:Nat} {x:Str} (a:N[i]? = some x) (b:N[j]? = some x):i = j:=by
 obtain ⟨h1,e1⟩:=List.getElem?_eq_some_iff.mp a
 obtain ⟨h2,e2⟩:=List.getElem?_eq_some_iff.mp b
 exact (List.getElem_inj hN).mp (e1.trans e2.symm)
theorem jip {M:Model} {A:Around} {E:Value->Shared->Prop} {i:Nat} {x:Str} {v:V} {u:Value} {Q:Unit->Shared->Prop} (I:Inv X pins σ H s) (hN:X.N.Nodup) (hi:X.N[i]? = some x) (hx:Loc X.env.scope x) (r:RelV v u)
  (h:∀ s',Inv X pins (σ.set i (some v)) H s'->(∃ a,Heap.SameBut a s.heap s'.heap/\(a = X.env.locals \/ X.env.cells.lookup x = some a))->Q () s') (hf:X.fn x = true \/ X.env.scope.names.lookup x = some .local:=by first | exact .inl rfl | exact .inr rfl | assumption):wpAny M A (storeName X.env x u) Q E s:=by
 obtain ⟨m,hn,hl⟩:=id I.loc
 have hcls:(X.env.scope.kind == .class || (X.env.scope.kind == .module && X.env.locals != X.env.globals)) = false:=by rw [I.ok.kind]; rfl
 have hiσ:i < σ.length:=by rw [I.len]; exact (List.getElem?_eq_some_iff.mp hi).1
 have cne:=I.cne
 have tracked:∀ {a:Addr} {h':Heap},(∃ o,s.heap.get? a = some o/\H a = none)->Heap.SameBut a s.heap h'->HOk X.prog X.w H h':=fun {a h'} ha hs b ob e=>by
  obtain ⟨_,_,hfree⟩:=ha
  refine (I.hok b ob e).stay (fun c w' hc q=>(hs.2 c ?_).trans q) (fun _ q=>q) fun _ _ q=>q
  rintro rfl
  rcases hc with rfl | hc
  ·rw [hfree] at e; cases e
  ·rw [hfree] at hc; cases hc
 rcases hx with hk | hk
 ·refine wpAny_storeName_local hk hn (fun h' hn' hs=>?_) hcls
  obtain ⟨oL,_,_,hoL,_⟩:=id hn
  refine h _ ⟨I.ok,I.os,I.bare,⟨fun b o e n hb hx=>?_,fun b o e n hb hx=>?_,I.base.free,fun b o e hx=>?_,I.base.tups,I.base.frzs,I.base.tbls⟩,⟨_,hn',fun j y v' e1 e2 e3=>?_⟩,fun y c e=>?_,I.free,I.freeC,fun p hp=>?_,tracked ⟨oL,hoL,I.free⟩ hs,by simpa using I.len⟩ ⟨_,hs,.inl rfl⟩
  ·exact (hs.2 b (Nat.ne_of_lt (Nat.lt_of_lt_of_le (Heap.lt_size e) I.ok.above))).trans (I.base.keep b o e n hb hx)
  ·obtain ⟨sl,e1⟩:=I.base.slot b o e n hb hx
   exact ⟨sl,(hs.2 b (Nat.ne_of_lt (Nat.lt_of_lt_of_le (Heap.lt_size e) I.ok.above))).trans e1⟩
  ·obtain ⟨o',e1⟩:=I.base.there b o e hx
   exact ⟨o',(hs.2 b (Nat.ne_of_lt (Nat.lt_of_lt_of_le (Heap.lt_size e) I.ok.above))).trans e1⟩
  ·by_cases hj:j = i
   ·subst hj
    rw [hi] at e1; cases e1
    rw [List.getElem?_set_self hiσ] at e2
    cases e2
    exact ⟨u,r,.inl ⟨hk,by simp⟩⟩
   ·rw [List.getElem?_set_ne (Ne.symm hj)] at e2
    obtain ⟨u',r',q⟩:=hl j y v' e1 e2 e3
    refine ⟨u',r',?_⟩
    rcases q with ⟨k,e⟩ | ⟨k,c,e,z⟩
    ·refine .inl ⟨k,?_⟩
     have:y ≠ x:=fun e=>hj (jlr hN e1 (e ▸ hi))
     simp [this,e]
    ·exact .inr ⟨k,c,e,z.sameBut hs (cne y c e)⟩
  ·obtain ⟨w',z⟩:=I.cell y c e
   exact ⟨w',z.sameBut hs (cne y c e)⟩
  ·obtain ⟨e,n,ne,nf,d⟩:=I.pin p hp
   exact ⟨(hs.2 p.1 ne).trans e,n,ne,nf,d⟩
 ·have hfn:X.fn x = true:=by
   rcases hf with z | z
   ·exact z
   ·rw [z] at hk; cases hk
  obtain ⟨c,hc⟩:=I.ok.has x (.inl hk)
  obtain ⟨w',z⟩:=I.cell x c hc
  refine wpAny_storeName_cell I.ok.kind hk hc z (fun h' hc' hs=>?_)
  obtain ⟨oc,hoc,hocd⟩:=id z
  refine h { s with heap:=h' } ⟨I.ok,I.os,I.bare,⟨fun b o e n hb hx=>?_,fun b o e n hb hx=>?_,I.base.free,fun b o e hx=>?_,I.base.tups,I.base.frzs,I.base.tbls⟩,⟨m,hn.sameBut hs (Ne.symm (cne x c hc)),fun j y v' e1 e2 e3=>?_⟩,fun y c' e=>?_,I.free,I.freeC,fun p hp=>?_,tracked ⟨oc,hoc,I.freeC x c hc⟩ hs,by simpa using I.len⟩ ⟨c,hs,.inr hc⟩
  ·exact (hs.2 b (Nat.ne_of_lt (Nat.lt_of_lt_of_le (Heap.lt_size e) (I.ok.cab x c hfn hc)))).trans (I.base.keep b o e n hb hx)
  ·obtain ⟨sl,e1⟩:=I.base.slot b o e n hb hx
   exact ⟨sl,(hs.2 b (Nat.ne_of_lt (Nat.lt_of_lt_of_le (Heap.lt_size e) (I.ok.cab x c hfn hc)))).trans e1⟩
  ·obtain ⟨o',e1⟩:=I.base.there b o e hx
   exact ⟨o',(hs.2 b (Nat.ne_of_lt (Nat.lt_of_lt_of_le (Heap.lt_size e) (I.ok.cab x c hfn hc)))).trans e1⟩
  ·by_cases hj:j = i
   ·subst hj
    rw [hi] at e1; cases e1
    rw [List.getElem?_set_self hiσ] at e2
    cases e2
    exact ⟨u,r,.inr ⟨.inl hk,c,hc,hc'⟩⟩
   ·rw [List.getElem?_set_ne (Ne.symm hj)] at e2
    obtain ⟨u',r',q⟩:=hl j y v' e1 e2 e3
    refine ⟨u',r',?_⟩
    rcases q with q | ⟨k,c',e,z'⟩
    ·exact .inl q
    ·refine .inr ⟨k,c',e,z'.sameBut hs ?_⟩
     rintro rfl
     exact hj (jlr hN e1 (I.ok.inj _ _ _ e hc ▸ hi))
  ·by_cases hcc:c' = c
   ·subst hcc; exact ⟨_,hc'⟩
   ·obtain ⟨w2,z2⟩:=I.cell y c' e
    exact ⟨w2,z2.sameBut hs hcc⟩
  ·obtain ⟨e,n,ne,nf,d⟩:=I.pin p hp
   refine ⟨(hs.2 p.1 ?_).trans e,n,ne,nf,d⟩
   intro q
   rw [q,hoc] at e
   have q':oc = p.2:=Option.some.inj e
   exact d w' (by rw [<- q']; exact hocd)
theorem jhc {M:Model} {A:Around} {E:Value->Shared->Prop} {i:Nat} {x:Str} {v:V} {u:Value} {Q:Unit->Shared->Prop} (I:Inv X pins σ H s) (hN:X.N.Nodup) (hi:X.N[i]? = some x) (hx:Loc X.env.scope x) (r:RelV v u)
  (h:∀ s',Inv X pins (σ.set i (some v)) H s'->Q () s') (hf:X.fn x = true \/ X.env.scope.names.lookup x = some .local:=by first | exact .inl rfl | exact .inr rfl | assumption):wpAny M A (storeName X.env x u) Q E s :=
 jip I hN hi hx r (fun s' I' _=>h s' I') hf
theorem Inv.call' {s':Shared} {ch:List Addr} (I:Inv X pins σ H s) (ho:s'.os = s.os) (u:Un (frs X.stack) ch H H' s.heap s'.heap) (hok:HOk X.prog X.w H' s'.heap) (hg:AllBare s'.gens)
  (hch:∀ b ∈ ch,(b ∈ X.ex \/ X.s₀.heap.objs.size <= b)/\b ≠ X.env.locals/\(∀ x c,X.env.cells.lookup x = some c->c ≠ b)/\∀ p ∈ X.pn ++ pins,p.1 ≠ b):Inv X pins σ H' s':=by
 obtain ⟨h',g',d',t',o'⟩:=s'
 have e:o' = s.os:=ho
 subst e
 exact I.call (g':=g') (t':=t') (d':=d') u hok hg hch
end
abbrev XK:=Value->Option Addr->Hp->Prop
abbrev St:=List (Option V)
abbrev VK:=V->Hp->Prop
abbrev TE:=St->Hp->VK->Prop
abbrev TT:=St->Hp->(Bool->Hp->Prop)->Prop
abbrev TA:=St->Hp->(List V->Hp->Prop)->Prop
structure Ends where
 nx:St->Hp->Prop
 rt:VK
 bk:St->Hp->Prop:=fun _ _=>False
 ct:St->Hp->Prop:=fun _ _=>False
abbrev TS:=Ends->St->Hp->Prop
def EP (X:Cx) (pins:List (Addr × Obj)) (σ:St) (Q:VK) (u:Value) (s':Shared):Prop:=∃ v H',Inv X pins σ H' s'/\RelV v u/\Q v H'
def TP (X:Cx) (pins:List (Addr × Obj)) (σ:St) (Q:Bool->Hp->Prop) (b:Bool) (s':Shared):Prop:=∃ H',Inv X pins σ H' s'/\Q b H'
def AP (X:Cx) (pins:List (Addr × Obj)) (σ:St) (Q:List V->Hp->Prop) (us:List Value) (s':Shared):Prop:=∃ vs H',Inv X pins σ H' s'/\Vals vs us/\Q vs H'
def SP (X:Cx) (pins:List (Addr × Obj)) (D:Ends) (f:Flow) (s':Shared):Prop :=
 match f with
 | .next=>∃ σ' H',Inv X pins σ' H' s'/\D.nx σ' H'
 | .brk=>∃ σ' H',Inv X pins σ' H' s'/\D.bk σ' H'
 | .cont=>∃ σ' H',Inv X pins σ' H' s'/\D.ct σ' H'
 | .ret u=>∃ v σ' H',Inv X pins σ' H' s'/\RelV v u/\D.rt v H'
def PE (X:Cx) (e:Expr) (t:TE):Prop :=
 ∀ (pins:List (Addr × Obj)) (s:Shared) (σ:St) (H:Hp) (Q:VK),Inv X pins σ H s->t σ H Q->wpAny (model X.prog X.w) X.A (eval e X.env) (EP X pins σ Q) X.xe s
def PT (X:Cx) (e:Expr) (t:TT):Prop :=
 ∀ (pins:List (Addr × Obj)) (s:Shared) (σ:St) (H:Hp) (Q:Bool->Hp->Prop),Inv X pins σ H s->t σ H Q->wpAny (model X.prog X.w) X.A (isTrue e X.env (eval e X.env)) (TP X pins σ Q) X.xe s
def PW (X:Cx) (e:Expr) (t:TT):Prop :=
 ∀ (whole:Sem Value) (pins:List (Addr × Obj)) (s:Shared) (σ:St) (H:Hp) (Q:Bool->Hp->Prop),Inv X pins σ H s->t σ H Q->wpAny (model X.prog X.w) X.A (isTrue e X.env whole) (TP X pins σ Q) X.xe s
theorem PW.pt {X:Cx} {e:Expr} {t:TT} (h:PW X e t):PT X e t:=h _
def PA (X:Cx) (es:List Expr) (t:TA):Prop :=
 ∀ (pos:Pos) (pins:List (Addr × Obj)) (s:Shared) (σ:St) (H:Hp) (Q:List V->Hp->Prop),Inv X pins σ H s->t σ H Q->wpAny (model X.prog X.w) X.A (spliced (backTo pos (starEach es X.env))) (AP X pins σ Q) X.xe s
def PS (X:Cx) (st:Stmt) (t:TS):Prop :=
 ∀ (pins:List (Addr × Obj)) (s:Shared) (σ:St) (H:Hp) (D:Ends),Inv X pins σ H s->t D σ H->wpAny (model X.prog X.w) X.A (exec st X.env) (SP X pins D) X.xe s
def PSs (X:Cx) (st:List Stmt) (t:TS):Prop :=
 ∀ (pins:List (Addr × Obj)) (s:Shared) (σ:St) (H:Hp) (D:Ends),Inv X pins σ H s->t D σ H->wpAny (model X.prog X.w) X.A (execs st X.env) (SP X pins D) X.xe s
theorem thn {α:Type} {t:Sem α} {Q Q':α->Shared->Prop} {M:Model} {A:Around} {E:Value->Shared->Prop} {s:Shared} (h:wpAny M A t Q E s) (hQ:∀ a s,Q a s->Q' a s):wpAny M A t Q' E s:=wpAny_mono h hQ fun _ _ x=>x
section
variable {X:Cx}
def tVar (i:Nat):TE:=fun σ H Q=>∃ v,σ[i]? = some (some v)/\Q v H
def tC (v:V):TE:=fun _ H Q=>Q v H
theorem pe_var {i:Nat} {x:Str} {pos:Pos} (hN:X.N[i]? = some x) (hv:Vis X.env.scope x) (hd:(x == ("__debug__":Str)) = false:=by decide) (hcd:(x == ("__classdict__":Str)) = false:=by decide):PE X (.Name x pos) (tVar i):=by
 intro pins s σ H Q I h
 obtain ⟨v,e,h⟩:=h
 obtain ⟨m,hn,hl⟩:=I.loc
 obtain ⟨u,r,l⟩:=hl i x v hN e hv
 have fin:EP X pins σ Q u s:=⟨v,H,I,r,h⟩
 rcases l with ⟨hk,hm⟩ | ⟨hk,c,hc,hcell⟩
 ·exact wpAny_Name (wpAny_loadName_local I.ok.kind hk hn hm fin) hd
 ·rcases hk with hk | hk
  ·exact wpAny_Name (wpAny_loadName_cell I.ok.kind hk hc hcell fin) hd
  ·exact wpAny_Name (wpAny_loadName_free I.ok.kind hk hc hcell fin hcd) hd
theorem ja5 {i j pos}:PE X (.Constant (.int i) j pos) (tC (.int i)):=fun _ _ _ H _ I h=>wpAny_Constant_int ⟨.int i,H,I.tok _,⟨_,rfl⟩,h⟩
theorem jdd {b j pos}:PE X (.Constant (.bool b) j pos) (tC (.bl b)):=fun _ _ _ H _ I h=>Constant_bool ⟨.bl b,H,I,rfl,h⟩
theorem jb7 {x j pos}:PE X (.Constant (.str x) j pos) (tC (.str x)):=fun _ _ _ H _ I h=>Calls.Constant_str ⟨.str x,H,I.tok _,⟨_,rfl⟩,h⟩
def Gl (X:Cx) (x:Str):Prop:=X.env.kindOf x = some .globalImplicit
theorem jot {E:Value->Shared->Prop} {pins:List (Addr × Obj)} {s:Shared} {σ:St} {H:Hp} {x:Str} {u:Value} {pos:Pos} {Q:Value->Shared->Prop} (I:Inv X pins σ H s) (hg:Gl X x) (hm:X.mg x = some u) (h:Q u s)
  (hd:(x == ("__debug__":Str)) = false:=by decide):wpAny (model X.prog X.w) X.A (eval (.Name x pos) X.env) Q E s :=
 Calls.Name_function_global I.ok.kind hg (Calls.loadGlobal_global (by rw [I.ok.glob]; exact I.mod.glob.keeps I.bk) hm h) hd
theorem jez {E:Value->Shared->Prop} {pins:List (Addr × Obj)} {s:Shared} {σ:St} {H:Hp} {x:Str} {u:Value} {pos:Pos} {Q:Value->Shared->Prop} (I:Inv X pins σ H s) (hg:Gl X x) (hm:X.mg x = none) (hv:bootBuiltins x = some u) (h:Q u s)
  (hn:x ≠ "__name__":=by decide) (hd:(x == ("__debug__":Str)) = false:=by decide):wpAny (model X.prog X.w) X.A (eval (.Name x pos) X.env) Q E s:=by
 obtain ⟨mb,h1,h2⟩:=I.mod.blt
 exact Calls.Name_function_global I.ok.kind hg (Calls.loadGlobal_builtin (by rw [I.ok.glob]; exact I.mod.glob.keeps I.bk) hm (by rw [I.ok.blt]; exact h1.keeps I.bk) ((h2 x hn).trans hv) h) hd
theorem jhm {x:Str} {v:V} {u:Value} {pos:Pos} (hg:Gl X x) (hm:X.mg x = some u) (r:RelV v u) (hd:(x == ("__debug__":Str)) = false:=by decide):PE X (.Name x pos) (tC v) :=
 fun _ _ _ H _ I h=>jot I hg hm ⟨v,H,I,r,h⟩ hd
theorem jdr {x:Str} {v:V} {u:Value} {pos:Pos} (hg:Gl X x) (hm:X.mg x = none) (hv:bootBuiltins x = some u) (r:RelV v u) (hn:x ≠ "__name__":=by decide) (hd:(x == ("__debug__":Str)) = false:=by decide):PE X (.Name x pos) (tC v) :=
 fun _ _ _ H _ I h=>jez I hg hm hv ⟨v,H,I,r,h⟩ hn hd
variable {a b:Expr} {ta tb:TE} {pos:Pos}
def PC (X:Cx) (op:CmpOp) (a b:Expr) (t:TE):Prop :=
 ∀ (pins:List (Addr × Obj)) (s:Shared) (σ:St) (H:Hp) (Q:VK),Inv X pins σ H s->t σ H Q ->
  wpAny (model X.prog X.w) X.A (eval a X.env) (fun v s₁=>wpAny (model X.prog X.w) X.A (eval b X.env) (fun u s₂=>wpAny (model X.prog X.w) X.A (compareOp op v u) (EP X pins σ Q) X.xe s₂) X.xe s₁) X.xe s
theorem jlt (b:Expr) {op:CmpOp} (h:op ≠ .In) (h2:op ≠ .NotIn):behindInMarks op b = false:=by
 have e1:(op == CmpOp.In) = false:=by cases op <;> first | rfl | exact absurd rfl h
 have e2:(op == CmpOp.NotIn) = false:=by cases op <;> first | rfl | exact absurd rfl h2
 cases b <;> simp [behindInMarks,e1,e2]
theorem jof {op:CmpOp} {t:TE} (h:PC X op a b t) (h1:behindInMarks op b = false:=by first | exact jlt _ (by decide) (by decide) | rfl):PE X (.Compare a [op] [b] pos) t:=fun pins s σ H Q I hw=>wpAny_Compare1 (h pins s σ H Q I hw) h1
variable {tA tB':TT} {rest:List Expr}
def tAnd (t u:TT):TT:=fun σ H Q=>t σ H fun c H1=>if c = true then u σ H1 Q else Q false H1
def tOr (t u:TT):TT:=fun σ H Q=>t σ H fun c H1=>if c = true then Q true H1 else u σ H1 Q
def tNot (t:TT):TT:=fun σ H Q=>t σ H fun c H1=>Q (!c) H1
theorem jc0 (ha:PT X a tA):PW X (.BoolOp .And [a] pos) tA:=by
 intro wh pins s σ H Q I h
 refine isTrue_and (thn (ha pins s σ H Q I h) fun c s1 e=>?_)
 cases c with
 | true=>exact isTrue_and_nil e
 | false=>exact e
theorem je1 (ha:PT X a tA):PW X (.BoolOp .Or [a] pos) tA:=by
 intro wh pins s σ H Q I h
 refine isTrue_or (thn (ha pins s σ H Q I h) fun c s1 e=>?_)
 cases c with
 | false=>exact isTrue_or_nil e
 | true=>exact e
theorem jcm (ha:PT X a tA) (hb:PW X (.BoolOp .And (b :: rest) pos) tB'):PW X (.BoolOp .And (a :: b :: rest) pos) (tAnd tA tB'):=by
 intro wh pins s σ H Q I h
 refine isTrue_and (thn (ha pins s σ H _ I h) fun c s1 ⟨H1,I1,q1⟩=>?_)
 cases c with
 | true=>exact hb wh pins s1 σ H1 Q I1 q1
 | false=>exact ⟨H1,I1,q1⟩
theorem jf4 (ha:PT X a tA) (hb:PW X (.BoolOp .Or (b :: rest) pos) tB'):PW X (.BoolOp .Or (a :: b :: rest) pos) (tOr tA tB'):=by
 intro wh pins s σ H Q I h
 refine isTrue_or (thn (ha pins s σ H _ I h) fun c s1 ⟨H1,I1,q1⟩=>?_)
 cases c with
 | true=>exact ⟨H1,I1,q1⟩
 | false=>exact hb wh pins s1 σ H1 Q I1 q1
theorem jcw (ha:PT X a tA):PT X (.UnaryOp .Not a pos) (tNot tA):=by
 intro pins s σ H Q I h
 exact isTrue_not (ha pins s σ H (fun c H1=>Q (!c) H1) I h)
theorem jcd {op} {t:TE} (h:PE X a t):PE X (.BoolOp op [a] pos) t:=fun pins s σ H Q I hw=>BoolOp_one (h pins s σ H Q I hw)
def tIf (t:TT) (ta tb:TE):TE:=fun σ H Q=>t σ H fun c H1=>if c = true then ta σ H1 Q else tb σ H1 Q
end
def SqL (K:PySem.W.Frag) (H:Hp) (a:Addr) (xs:List V):Prop :=
 Rd H a (.lst xs) \/
  ∃ (o:Obj) (its:Array Value) (n:Nat),K.lookup a = some o/\o.cls = .type "list"/\o.dict = none/\o.data = .seq its n/\its.size <= sizeLine/\Vals xs its.toList
def SqT (K:PySem.W.Frag) (H:Hp) (a:Addr) (xs:List V):Prop :=
 Rd H a (.tup xs) \/
  ∃ (o:Obj) (its:Array Value) (n:Nat),K.lookup a = some o/\o.cls = .type "tuple"/\o.data = .seq its n/\its.size <= sizeLine/\Vals xs its.toList
def absV:Value->Option V
 | .none=>some .non
 | .bool b=>some (.bl b)
 | .int i _=>some (.int i)
 | .str x _=>some (.str x)
 | .bytes b _=>some (.byt b)
 | .float b _=>some (.flt b)
 | .ref a=>some (.ref a)
 | .type n=>some (.ty n)
 | _=>none
theorem RelV.abs {x:V} {u:Value} (r:RelV x u):absV u = some x:=by
 cases x with
 | non=>cases r; rfl
 | bl _=>cases r; rfl
 | int _=>obtain ⟨t,rfl⟩:=r; rfl
 | str _=>obtain ⟨t,rfl⟩:=r; rfl
 | byt _=>obtain ⟨t,rfl⟩:=r; rfl
 | flt _=>obtain ⟨t,rfl⟩:=r; rfl
 | ref _=>cases r; rfl
 | ty _=>cases r; rfl
theorem RelV.inj {x y:V} {u:Value} (r:RelV x u) (q:RelV y u):x = y:=Option.some.inj (r.abs.symm.trans q.abs)
theorem Vals.inj:∀ {xs ys:List V} {us:List Value},Vals xs us->Vals ys us->xs = ys
 | _,_,_,.nil,.nil=>rfl
 | _,_,_,.cons r t,.cons r' t'=>by rw [r.inj r',Vals.inj t t']
section
variable {X:Cx} {pins:List (Addr × Obj)} {σ:St} {H:Hp} {s:Shared} {a:Addr} {xs ys:List V}
theorem SqL.of {K:PySem.W.Frag} (h:H a = some (.lst xs)):SqL K H a xs:=.inl (.inl h)
theorem SqT.of {K:PySem.W.Frag} (h:H a = some (.tup xs)):SqT K H a xs:=.inl (.inl h)
theorem Inv.list (I:Inv X pins σ H s) (h:SqL X.K H a xs):∃ its:List Value,Vals xs its/\PlainL s.heap a its.toArray/\xs.length <= sizeLine:=by
 rcases h with h | ⟨o,its,n,hk,hc,hd,hs,hz,r⟩
 ·obtain ⟨z,its,n,r,e⟩:=h.ok I.hok
  exact ⟨its,r,⟨_,n,e,rfl,rfl,rfl⟩,z⟩
 ·refine ⟨its.toList,r,⟨o,n,I.kIn a o hk,hc,hd,by simpa using hs⟩,?_⟩
  have e:=r.length
  simp only [Array.length_toList] at e
  omega
theorem Inv.tuple (I:Inv X pins σ H s) (h:SqT X.K H a xs):∃ its:List Value,Vals xs its/\IsTup s.heap a its.toArray/\xs.length <= sizeLine:=by
 rcases h with h | ⟨o,its,n,hk,hc,hs,hz,r⟩
 ·obtain ⟨z,its,r,p⟩:=h.ok I.hok
  exact ⟨its,r,p,z⟩
 ·refine ⟨its.toList,r,⟨o,I.kIn a o hk,hc,n,by simpa using hs⟩,?_⟩
  have e:=r.length
  simp only [Array.length_toList] at e
  omega
theorem Inv.list_inj (I:Inv X pins σ H s) (h:SqL X.K H a xs) (h':SqL X.K H a ys):xs = ys:=by
 obtain ⟨its,r,⟨o,n,e,_,_,d⟩,_⟩:=I.list h
 obtain ⟨its',r',⟨o',n',e',_,_,d'⟩,_⟩:=I.list h'
 rw [e] at e'; cases e'
 rw [d] at d'
 injection d' with d1 _
 have:its = its':=by simpa using congrArg Array.toList d1
 subst this
 exact r.inj r'
theorem Inv.tuple_inj (I:Inv X pins σ H s) (h:SqT X.K H a xs) (h':SqT X.K H a ys):xs = ys:=by
 obtain ⟨its,r,⟨o,e,_,n,d⟩,_⟩:=I.tuple h
 obtain ⟨its',r',⟨o',e',_,n',d'⟩,_⟩:=I.tuple h'
 rw [e] at e'; cases e'
 rw [d] at d'
 injection d' with d1 _
 have:its = its':=by simpa using congrArg Array.toList d1
 subst this
 exact r.inj r'
end
abbrev Cx.wish (X:Cx) (E:Value->Shared->Prop):Cx:={ X with xe:=E }
abbrev Cx.nox (X:Cx):Cx:=X.wish fun _ _=>False
theorem Cx.Ok.wish {X:Cx} (ok:X.Ok) (E:Value->Shared->Prop):(X.wish E).Ok :=
 ⟨ok.mod,ok.kind,ok.glob,ok.blt,ok.above,ok.inj,ok.has,ok.cab,ok.hd,ok.frames,ok.stk,ok.exf,ok.bs,ok.bsz,ok.noex,ok.exfs,ok.funs,ok.frf⟩
theorem Cx.Ok.unwish {X:Cx} {E:Value->Shared->Prop} (ok:(X.wish E).Ok):X.Ok :=
 ⟨ok.mod,ok.kind,ok.glob,ok.blt,ok.above,ok.inj,ok.has,ok.cab,ok.hd,ok.frames,ok.stk,ok.exf,ok.bs,ok.bsz,ok.noex,ok.exfs,ok.funs,ok.frf⟩
section
variable {X:Cx} {pins:List (Addr × Obj)} {σ:St} {H:Hp} {s:Shared} {E:Value->Shared->Prop}
theorem Inv.wish (I:Inv X pins σ H s) (E:Value->Shared->Prop):Inv (X.wish E) pins σ H s:=⟨I.ok.wish E,I.os,I.bare,I.base,I.loc,I.cell,I.free,I.freeC,I.pin,I.hok,I.len⟩
theorem Inv.unwish (I:Inv (X.wish E) pins σ H s):Inv X pins σ H s:=⟨I.ok.unwish,I.os,I.bare,I.base,I.loc,I.cell,I.free,I.freeC,I.pin,I.hok,I.len⟩
theorem SP.unwish {D:Ends} {f:Flow} {s':Shared} (h:SP (X.wish E) pins D f s'):SP X pins D f s':=by
 cases f with
 | next=>obtain ⟨σ',H',I,q⟩:=h; exact ⟨σ',H',I.unwish,q⟩
 | brk=>obtain ⟨σ',H',I,q⟩:=h; exact ⟨σ',H',I.unwish,q⟩
 | cont=>obtain ⟨σ',H',I,q⟩:=h; exact ⟨σ',H',I.unwish,q⟩
 | ret u=>obtain ⟨v,σ',H',I,r,q⟩:=h; exact ⟨v,σ',H',I.unwish,r,q⟩
theorem PSs.nox {st:List Stmt} {t:TS} (h:PSs X.nox st t):PSs X st t:=fun pins s σ H D I hw =>
 wpAny_mono (h pins s σ H D (I.wish _) hw) (fun _ _ q=>q.unwish) fun _ _ z=>False.elim z
end
section
variable {X:Cx} {st:Stmt} {rest:List Stmt} {t u:TS} {e:Expr} {te:TE} {pos:Pos}
def jme:TS:=fun D σ H=>D.nx σ H
def tSeq (t u:TS):TS:=fun D σ H=>t { D with nx:=u D } σ H
theorem jaj:PSs X [] jme:=fun _ _ σ H _ I h=>wpAny_execs_nil ⟨σ,H,I,h⟩
theorem ja4 (h1:PS X st t) (h2:PSs X rest u):PSs X (st :: rest) (tSeq t u):=by
 intro pins s σ H D I h
 refine wpAny_execs_cons (thn (h1 pins s σ H { D with nx:=u D } I h) fun f s1 q=>?_)
 cases f with
 | next =>
  obtain ⟨σ',H',I',q⟩:=q
  exact h2 pins s1 σ' H' D I' q
 | ret v=>exact q
 | brk=>exact q
 | cont=>exact q
theorem ja7 (h1:PS X st t):PSs X [st] t:=by
 intro pins s σ H D I h
 refine wpAny_execs_cons (thn (h1 pins s σ H D I h) fun f s1 q=>?_)
 cases f with
 | next=>exact wpAny_execs_nil q
 | ret v=>exact q
 | brk=>exact q
 | cont=>exact q
theorem Inv.quiet {pins:List (Addr × Obj)} {σ:St} {H:Hp} {s:Shared} (I:Inv X pins σ H s):interactive X.env = false:=by simp [interactive,I.ok.kind]
def jmf (te:TE):TS:=fun D σ H=>te σ H fun _ H1=>D.nx σ H1
theorem jc7 (he:PE X e te) (hs:swapsWith e none pos.line X.env = pure false:=by rfl):PS X (.Expr e pos) (jmf te):=by
 intro pins s σ H D I h
 exact wpAny_Expr_any (thn (he pins s σ H _ I h) fun v s1 ⟨x,H1,I1,r1,q1⟩=>⟨σ,H1,I1,q1⟩) I.quiet hs
def tRet (te:TE):TS:=fun D σ H=>te σ H D.rt
theorem jah (he:PE X e te):PS X (.Return (some e) pos) (tRet te):=by
 intro pins s σ H D I h
 exact wpAny_Return_some (thn (he pins s σ H _ I h) fun v s1 ⟨x,H1,I1,r1,q1⟩=>⟨x,σ,H1,I1,r1,q1⟩)
def jnj:TS:=fun D _ H=>D.rt .non H
def tIfS (c:TT) (t u:TS):TS:=fun D σ H=>c σ H fun b H1=>if b = true then t D σ H1 else u D σ H1
theorem jb3 {c:Expr} {a b:List Stmt} {tc:TT} (hc:PT X c tc) (ha:PSs X a t) (hb:PSs X b u):PS X (.If c a b pos) (tIfS tc t u):=by
 intro pins s σ H D I h
 refine wpAny_If (thn (hc pins s σ H _ I h) fun d s1 ⟨H1,I1,q1⟩=>?_)
 cases d with
 | true=>exact ha pins s1 σ H1 D I1 q1
 | false=>exact hb pins s1 σ H1 D I1 q1
def jr1:TS:=fun _ _ _=>False
theorem jdc:PS X st jr1:=fun _ _ _ _ _ _ h=>h.elim
theorem je9 {sts:List Stmt}:PSs X sts jr1:=fun _ _ _ _ _ _ h=>h.elim
end
abbrev TG:=V->St->Hp->(St->Hp->Prop)->Prop
abbrev TGs:=List V->St->Hp->(St->Hp->Prop)->Prop
def PG (X:Cx) (target:Expr) (t:TG):Prop :=
 ∀ (pins:List (Addr × Obj)) (s:Shared) (σ:St) (H:Hp) (v:V) (u:Value) (Q:St->Hp->Prop),Inv X pins σ H s->RelV v u->t v σ H Q ->
  wpAny (model X.prog X.w) X.A (assign target X.env u) (fun _ s'=>∃ σ' H',Inv X pins σ' H' s'/\Q σ' H') X.xe s
def PGs (X:Cx) (ts:List Expr) (t:TGs):Prop :=
 ∀ (pins:List (Addr × Obj)) (s:Shared) (σ:St) (H:Hp) (vs:List V) (us:List Value) (Q:St->Hp->Prop),Inv X pins σ H s->Vals vs us->t vs σ H Q ->
  wpAny (model X.prog X.w) X.A (assignInOrder ((assignEach ts X.env).map (·.2)) us) (fun _ s'=>∃ σ' H',Inv X pins σ' H' s'/\Q σ' H') X.xe s
abbrev TSet:=V->V->V->Hp->(Hp->Prop)->Prop
def PSet (X:Cx) (t:TSet):Prop :=
 ∀ (pins:List (Addr × Obj)) (s:Shared) (σ:St) (H:Hp) (o i v:V) (ov iv u:Value) (Q:Hp->Prop),Inv X pins σ H s->RelV o ov->RelV i iv->RelV v u->t o i v H Q ->
  wpAny (model X.prog X.w) X.A (setItem ov iv u) (fun _ s'=>∃ H',Inv X pins σ H' s'/\Q H') X.xe s
abbrev TIp:=V->V->Hp->VK->Prop
def PIp (X:Cx) (op:Operator) (t:TIp):Prop :=
 ∀ (pins:List (Addr × Obj)) (s:Shared) (σ:St) (H:Hp) (x y:V) (v u:Value) (Q:VK),Inv X pins σ H s->RelV x v->RelV y u->t x y H Q ->
  wpAny (model X.prog X.w) X.A (inplaceOp op v u) (EP X pins σ Q) X.xe s
section
variable {X:Cx} {pos:Pos}
def jeg (i:Nat):TG:=fun v σ H Q=>Q (σ.set i (some v)) H
theorem jad {i:Nat} {x:Str} (hN:X.N.Nodup) (hi:X.N[i]? = some x) (hx:Loc X.env.scope x) (hf:X.fn x = true \/ X.env.scope.names.lookup x = some .local:=by first | exact .inl rfl | exact .inr rfl | assumption):PG X (.Name x pos) (jeg i):=by
 intro pins s σ H v u Q I r h
 exact wpAny_assign_Name (jhc I hN hi hx r (fun s' I'=>⟨_,H,I',h⟩) hf)
def gNil:TGs:=fun vs σ H Q=>vs = []/\Q σ H
def gCons (t:TG) (u:TGs):TGs:=fun vs σ H Q=>∃ v r,vs = v :: r/\t v σ H fun σ' H'=>u r σ' H' Q
theorem js2:PGs X [] gNil:=by
 intro pins s σ H vs us Q I r h
 obtain ⟨e,h⟩:=h
 subst e
 cases r
 exact assignInOrder_nil ⟨σ,H,I,h⟩
theorem jqd {e:Expr} {es:List Expr} {t:TG} {u:TGs} (h1:PG X e t) (h2:PGs X es u)
  (hs:(assignEach (e :: es) X.env).map (·.2) = assign e X.env :: (assignEach es X.env).map (·.2):=by rfl):PGs X (e :: es) (gCons t u):=by
 intro pins s σ H vs us Q I r h
 obtain ⟨v,vr,e1,h⟩:=h
 subst e1
 cases r with
 | cons r rr =>
  rw [hs]
  refine assignInOrder_cons (thn (h1 pins s σ H _ _ _ I r h) fun _ s1 ⟨σ1,H1,I1,q1⟩=>?_)
  exact h2 pins s1 σ1 H1 _ _ Q I1 rr q1
def gTup (K:PySem.W.Frag) (n:Nat) (t:TGs):TG:=fun v σ H Q=>∃ a xs,v = .ref a/\SqT K H a xs/\xs.length = n/\t xs σ H Q
theorem pg_tup {es:List Expr} {k:Nat} {t:TGs} {n:Nat} (hc:X.calm = true) (h:PGs X es t)
  (hn:(assignEach es X.env).length = n:=by rfl) (hst:(assignEach es X.env).findIdx? (·.1) = none:=by rfl):PG X (.Tuple es k pos) (gTup X.K n t):=by
 intro pins s σ H v u Q I r hw
 obtain ⟨a,xs,e1,hq,hl,hw⟩:=hw
 subst e1
 cases r
 obtain ⟨its,rv,ht,hz⟩:=I.tuple hq
 refine assign_Tuple_tuple (I.ok.hd hc) ht (by simp [hn,<- hl,rv.length]) hst fun h' hx=>?_
 have I1:Inv X pins σ H { s with heap:=h' }:=I.kept (t':=s.toks) fun b o e=>hx b o (Nat.ne_of_lt (Heap.lt_size e)) e
 exact h pins _ σ H xs _ Q I1 (by simpa using rv) hw
def gSub (to ti:TE) (t:TSet):TG:=fun v σ H Q=>to σ H fun o H1=>ti σ H1 fun i H2=>t o i v H2 fun H3=>Q σ H3
theorem jgt {o i:Expr} {to ti:TE} {t:TSet} (ho:PE X o to) (hi:PE X i ti) (hs:PSet X t)
  (ha:∀ v,assign (.Subscript o i pos) X.env v = (do
   let ov <- holding [v] (eval o X.env)
   let iv <- holding [v,ov] (eval i X.env)
   standAt pos
   holding [v,ov,iv] (setItem ov iv v)
   release [v,ov,iv] []):=by intro _; rfl):PG X (.Subscript o i pos) (gSub to ti t):=by
 intro pins s σ H v u Q I r h
 rw [ha]
 refine wpAny_bind (wpAny_holding (thn (ho pins s σ H _ I h) fun ov s1 ⟨x,H1,I1,r1,q1⟩=>?_))
 refine wpAny_bind (wpAny_holding (thn (hi pins s1 σ H1 _ I1 q1) fun iv s2 ⟨y,H2,I2,r2,q2⟩=>?_))
 refine wpAny_bind (wpAny_standAt (wpAny_bind (wpAny_holding (thn (hs pins s2 σ H2 x y v ov iv u _ I2 r1 r2 r q2) fun _ s3 ⟨H3,I3,q3⟩=>?_))))
 exact wpAny_release ⟨σ,H3,I3,q3⟩
def tAsg (te:TE) (g:TG):TS:=fun D σ H=>te σ H fun x H1=>g x σ H1 D.nx
theorem jfq {tg e:Expr} {te:TE} {g:TG} (he:PE X e te) (hg:PG X tg g) (hs:swapsWithSole [tg] e pos.line X.env = pure false:=by rfl) (hw:swappedStores [tg] e X.env = pure none:=by rfl)
  (h1:(assignEach [tg] X.env).map (·.2) = [assign tg X.env]:=by rfl):PS X (.Assign [tg] e pos) (tAsg te g):=by
 intro pins s σ H D I h
 refine wpAny_Assign_stores (thn (he pins s σ H _ I h) fun v s1 ⟨x,H1,I1,r1,q1⟩=>?_) hs hw
 rw [h1]
 exact thn (hg pins s1 σ H1 x v _ I1 r1 q1) fun _ s2 q=>q
theorem jak {i:Nat} {x:Str} {e:Expr} {te:TE} {pos':Pos} (hN:X.N.Nodup) (hi:X.N[i]? = some x) (hx:Loc X.env.scope x) (he:PE X e te) (hs:swapsWith e (some (.Name x pos')) pos.line X.env = pure false:=by rfl) (hf:X.fn x = true \/ X.env.scope.names.lookup x = some .local:=by first | exact .inl rfl | exact .inr rfl | assumption) :
  PS X (.Assign [.Name x pos'] e pos) (tAsg te (jeg i)):=by
 intro pins s σ H D I h
 refine wpAny_Assign_Name (thn (he pins s σ H _ I h) fun v s1 ⟨y,H1,I1,r1,q1⟩=>?_) hs
 exact jhc I1 hN hi hx r1 (fun s2 I2=>⟨_,H1,I2,q1⟩) hf
def tAug (i:Nat) (te:TE) (ti:TIp):TS:=fun D σ H=>∃ x,σ[i]? = some (some x)/\te σ H fun y H1=>ti x y H1 fun z H2=>D.nx (σ.set i (some z)) H2
theorem ps_aug {i:Nat} {x:Str} {e:Expr} {te:TE} {op:Operator} {ti:TIp} {pos':Pos} (hN:X.N.Nodup) (hi:X.N[i]? = some x) (hx:Loc X.env.scope x) (he:PE X e te) (ho:PIp X op ti) (hf:X.fn x = true \/ X.env.scope.names.lookup x = some .local:=by first | exact .inl rfl | exact .inr rfl | assumption) :
  PS X (.AugAssign (.Name x pos') op e pos) (tAug i te ti):=by
 intro pins s σ H D I h
 obtain ⟨v,e1,h⟩:=h
 obtain ⟨m,hn,hl⟩:=I.loc
 have vis:Vis X.env.scope x:=by rcases hx with k | k; exact .inl k; exact .inr (.inl k)
 obtain ⟨u,r,l⟩:=hl i x v hi e1 vis
 refine wpAny_AugAssign_Name ?_
 have go:wpAny (model X.prog X.w) X.A (eval e X.env) (fun w s₂=>wpAny (model X.prog X.w) X.A (inplaceOp op u w) (fun r s₃=>wpAny (model X.prog X.w) X.A (storeName X.env x r) (fun _=>SP X pins D .next) X.xe s₃) X.xe s₂) X.xe s:=by
  refine thn (he pins s σ H _ I h) fun w s1 ⟨y,H1,I1,r1,q1⟩=>?_
  refine thn (ho pins s1 σ H1 v y u w _ I1 r r1 q1) fun z s2 ⟨zv,H2,I2,r2,q2⟩=>?_
  exact jhc I2 hN hi hx r2 (fun s3 I3=>⟨_,H2,I3,q2⟩) hf
 rcases l with ⟨hk,hm⟩ | ⟨hk,c,hc,hcell⟩
 ·exact wpAny_loadName_local I.ok.kind hk hn hm go
 ·rcases hk with hk | hk
  ·exact wpAny_loadName_cell I.ok.kind hk hc hcell go
  ·rcases hx with k | k
   ·have:X.env.scope.names.lookup x = some .free:=hk
    rw [k] at this; cases this
   ·have:X.env.scope.names.lookup x = some .free:=hk
    rw [k] at this; cases this
end
section
variable {X:Cx} {pos:Pos}
end
structure It where
 go:Nat->Hp->Prop
 yld:Nat->Hp->V->Hp->Prop
 stop:Nat->Hp->Prop
def FpOk (X:Cx) (pins:List (Addr × Obj)) (H:Hp) (b:Addr):Prop :=
 H b = none/\b ≠ X.env.locals/\b ∉ X.fs/\(b ∈ X.ex \/ X.s₀.heap.objs.size <= b)/\(∀ x c,X.env.cells.lookup x = some c->c ≠ b)/\∀ p ∈ X.pn ++ pins,p.1 ≠ b
theorem Inv.fpOk {X:Cx} {pins:List (Addr × Obj)} {σ:St} {H H':Hp} {s:Shared} {b:Addr} (I:Inv X pins σ H s) (hb:s.heap.objs.size <= b) (hn:H' b = none):FpOk X pins H' b:=by
 refine ⟨hn,Nat.ne_of_gt (Nat.lt_of_lt_of_le I.lt hb),I.nofs hb,.inr (Nat.le_trans I.sz hb),fun x c e z=>?_,fun p hp z=>?_⟩
 ·obtain ⟨v,q⟩:=I.cell x c e
  exact absurd (Nat.lt_of_lt_of_le q.lt (by rw [z]; exact hb)) (Nat.lt_irrefl _)
 ·exact absurd (Nat.lt_of_lt_of_le (Heap.lt_size (I.pin p hp).1) (by rw [z]; exact hb)) (Nat.lt_irrefl _)
structure Turn (P:Program) (w:World) (K:PySem.W.Frag) (tg:Expr) (J:It) (fp:List Addr) (it:Addr) (tn:Nat->Heap->Prop):Prop where
 mem:it ∈ fp
 obj:∀ i h,tn i h->∀ b ∈ fp,∃ o,h.get? b = some o/\∀ v,o.data ≠ .cell v
 keep:∀ i h h',tn i h->(∀ b ∈ fp,∀ o,h.get? b = some o->h'.get? b = some o)->tn i h'
 item:∀ (X:Cx),X.prog = P->X.w = w->X.K = K->X.calm = true->∀ (i:Nat) (pins:List (Addr × Obj)) (s:Shared) (σ:St) (H:Hp) (E:Value->Shared->Prop),Inv X pins σ H s->(∀ b ∈ fp,FpOk X pins H b)->tn i s.heap->J.go i H ->
  wpAny (model P w) X.A (pyNext (.ref it)) (fun r s1=>∃ u,r = some u /\
   wpAny (model P w) X.A (letOwnedTupleGo tg (.ref it) u) (fun _ s2=>∃ x H',Inv X pins σ H' s2/\RelV x u/\J.yld i H x H'/\tn (i + 1) s2.heap/\∀ b ∈ fp,H' b = none) E s1) E s
 done:∀ (X:Cx),X.prog = P->X.w = w->X.K = K->X.calm = true->∀ (i:Nat) (pins:List (Addr × Obj)) (s:Shared) (σ:St) (H:Hp) (E:Value->Shared->Prop),Inv X pins σ H s->(∀ b ∈ fp,FpOk X pins H b)->tn i s.heap->J.stop i H ->
  wpAny (model P w) X.A (pyNext (.ref it)) (fun r s1=>r = none/\Inv X pins σ H s1) E s
 self:∀ (A:Around) (i:Nat) (s:Shared) (Q:Value->Shared->Prop) (E:Value->Shared->Prop),tn i s.heap->Q (.ref it) s->wpAny (model P w) A (pyIter (.ref it)) Q E s
abbrev TI:=St->Hp->(It->Hp->Prop)->Prop
def PIE (X:Cx) (pins:List (Addr × Obj)) (σ:St) (tg:Expr) (R:It->Hp->Prop) (itv:Value) (s2:Shared):Prop :=
 ∃ (it:Addr) (fp:List Addr) (tn:Nat->Heap->Prop) (J:It) (H':Hp),itv = .ref it/\Inv X pins σ H' s2/\Turn X.prog X.w X.K tg J fp it tn/\tn 0 s2.heap/\(∀ b ∈ fp,FpOk X pins H' b)/\R J H'
def PI (X:Cx) (tg iter:Expr) (wi:TI):Prop :=
 ∀ (pins:List (Addr × Obj)) (s:Shared) (σ:St) (H:Hp) (R:It->Hp->Prop),Inv X pins σ H s->wi σ H R ->
  wpAny (model X.prog X.w) X.A (eval iter X.env) (fun v s1=>wpAny (model X.prog X.w) X.A (pyIter v) (PIE X pins σ tg R) X.xe s1) X.xe s
theorem jqk {M:Model} {A:Around} {E:Value->Shared->Prop} {s:Shared} {tg:Expr} {it:Addr} {u:Value} {o:Obj} {n:String} {vs:Array Value} {Q:Unit->Shared->Prop} (ho:s.heap.get? it = some o) (hc:o.cls = .type n) (hd:o.data = .fields vs)
    (hn:["enumerate","zip","dict_itemiterator","dict_reverseitemiterator","odict_iterator","itertools.zip_longest","itertools.pairwise"].contains n = false) (hQ:Q () s):wpAny M A (letOwnedTupleGo tg (.ref it) u) Q E s:=by
  unfold letOwnedTupleGo
  cases tg <;> first
    | exact wpAny_pure hQ
    | (cases u <;> first
        | exact wpAny_pure hQ
        | (refine wpAny_bind (wpAny_load ho ?_)
           rw [hc,hd]
           show wpAny M A (if (["enumerate","zip","dict_itemiterator","dict_reverseitemiterator","odict_iterator","itertools.zip_longest","itertools.pairwise"].contains n && vs[0]? == some (rawInt _)) = true then _ else _) Q E s
           rw [if_neg (by intro h; rw [hn,Bool.false_and] at h; cases h)]
           exact wpAny_pure hQ))
def Itl (K:PySem.W.Frag) (a:Addr):It :=
 ⟨fun i H=>∃ xs x,SqL K H a xs/\xs[i]? = some x,fun i H x H'=>H' = H/\∀ xs,SqL K H a xs->xs[i]? = some x,fun i H=>∃ xs,SqL K H a xs/\xs.length <= i⟩
def Itt (K:PySem.W.Frag) (a:Addr):It :=
 ⟨fun i H=>∃ xs x,SqT K H a xs/\xs[i]? = some x,fun i H x H'=>H' = H/\∀ xs,SqT K H a xs->xs[i]? = some x,fun i H=>∃ xs,SqT K H a xs/\xs.length <= i⟩
def Itr (lo:Int) (n:Nat):It:=⟨fun i _=>i < n,fun i H x H'=>H' = H/\x = .int (lo + i),fun i _=>n <= i⟩
theorem jng {P:Program} {w:World} {K:PySem.W.Frag} {tg:Expr} (a it:Addr):Turn P w K tg (Itl K a) [it] it (fun i h=>h.IsListIter it a i) where
 mem:=by simp
 obj:=fun i h st b hb=>by
  have e:b = it:=by simpa using hb
  subst e
  obtain ⟨o,e,c,d⟩:=st
  exact ⟨o,e,fun v z=>by rw [d] at z; cases z⟩
 keep:=fun i h h' st k=>st.at fun o e=>k it (by simp) o e
 item:=by
  intro X hP hw hK hc i pins s σ H E I hf st hg
  subst hP hw hK
  obtain ⟨xs,x,hq,hx⟩:=hg
  obtain ⟨its,rv,p,hz⟩:=I.list hq
  obtain ⟨u,hu,ru⟩:=rv.get hx
  obtain ⟨f0,f1,f2,f3,f4,f5⟩:=hf it (by simp)
  refine wpAny_pyNext_list_item st p.isList (x:=u) (by simpa using hu) fun h' st' sb=>?_
  have I1:Inv X pins σ H { s with heap:=h' }:=I.turned (t':=s.toks) (fun b o hb e=>(sb.2 b hb).trans e) f0 f1 f3 f4 f5
  obtain ⟨o,e,c,d⟩:=id st'
  exact ⟨u,rfl,jqk (s:={ s with heap:=h' }) e c d (by decide) ⟨x,H,I1,ru,⟨rfl,fun ys hy=>by rw [I.list_inj hy hq]; exact hx⟩,st',fun b hb=>(hf b hb).1⟩⟩
 done:=by
  intro X hP hw hK hc i pins s σ H E I hf st hg
  subst hP hw hK
  obtain ⟨xs,hq,hx⟩:=hg
  obtain ⟨its,rv,p,hz⟩:=I.list hq
  obtain ⟨f0,f1,f2,f3,f4,f5⟩:=hf it (by simp)
  have hl:=rv.length
  exact wpAny_pyNext_list_end (I.ok.hd hc) st p.isList (by simp; omega) fun h' eb=>⟨rfl,I.turned (t':=s.toks) (fun b o hb e=>eb b o hb e) f0 f1 f3 f4 f5⟩
 self:=fun _ _ _ _ _ st h=>wpAny_pyIter_listiter st h
theorem jmb {P:Program} {w:World} {K:PySem.W.Frag} {tg:Expr} (a it:Addr):Turn P w K tg (Itt K a) [it] it (fun i h=>h.IsTupleIter it a i) where
 mem:=by simp
 obj:=fun i h st b hb=>by
  have e:b = it:=by simpa using hb
  subst e
  obtain ⟨o,e,c,d⟩:=st
  exact ⟨o,e,fun v z=>by rw [d] at z; cases z⟩
 keep:=fun i h h' st k=>st.at fun o e=>k it (by simp) o e
 item:=by
  intro X hP hw hK hc i pins s σ H E I hf st hg
  subst hP hw hK
  obtain ⟨xs,x,hq,hx⟩:=hg
  obtain ⟨its,rv,p,hz⟩:=I.tuple hq
  obtain ⟨u,hu,ru⟩:=rv.get hx
  obtain ⟨f0,f1,f2,f3,f4,f5⟩:=hf it (by simp)
  refine wpAny_pyNext_tuple_item st (show s.heap.IsTuple a its.toArray from p) (x:=u) (by simpa using hu) fun h' st' sb=>?_
  have I1:Inv X pins σ H { s with heap:=h' }:=I.turned (t':=s.toks) (fun b o hb e=>(sb.2 b hb).trans e) f0 f1 f3 f4 f5
  obtain ⟨o,e,c,d⟩:=id st'
  exact ⟨u,rfl,jqk (s:={ s with heap:=h' }) e c d (by decide) ⟨x,H,I1,ru,⟨rfl,fun ys hy=>by rw [I.tuple_inj hy hq]; exact hx⟩,st',fun b hb=>(hf b hb).1⟩⟩
 done:=by
  intro X hP hw hK hc i pins s σ H E I hf st hg
  subst hP hw hK
  obtain ⟨xs,hq,hx⟩:=hg
  obtain ⟨its,rv,p,hz⟩:=I.tuple hq
  obtain ⟨f0,f1,f2,f3,f4,f5⟩:=hf it (by simp)
  have hl:=rv.length
  exact wpAny_pyNext_tuple_end (I.ok.hd hc) st (show s.heap.IsTuple a its.toArray from p) (by simp; omega) fun h' eb=>⟨rfl,I.turned (t':=s.toks) (fun b o hb e=>eb b o hb e) f0 f1 f3 f4 f5⟩
 self:=fun _ _ _ _ _ st h=>wpAny_pyIter_tupleiter st h
theorem jmc {P:Program} {w:World} {K:PySem.W.Frag} {tg:Expr} (it:Addr) (lo:Int) (n:Nat):Turn P w K tg (Itr lo n) [it] it (fun i h=>IsRangeIter h it (lo + (i:Nat) * 1) ((n:Int) - (i:Nat)) 1) where
 mem:=by simp
 obj:=fun i h st b hb=>by
  have e:b = it:=by simpa using hb
  subst e
  exact ⟨_,st,fun v z=>by
   have z':Data.fields _ = Data.cell v:=z
   cases z'⟩
 keep:=fun i h h' st k=>k it (by simp) _ st
 item:=by
  intro X hP hw hK hc i pins s σ H E I hf st hg
  subst hP hw hK
  obtain ⟨f0,f1,f2,f3,f4,f5⟩:=hf it (by simp)
  have W:=Walks.range (prog:=X.prog) (w:=X.w) (I.ok.hd hc) it lo 1 n
  refine W.item i s _ _ hg st fun v h' tk hv st' kk=>?_
  obtain ⟨t,rfl⟩:=hv
  have I1:Inv X pins σ H { s with heap:=h',toks:=tk }:=I.turned (fun b o hb e=>kk b o (by simpa using hb) e) f0 f1 f3 f4 f5
  refine ⟨_,rfl,jqk (s:={ s with heap:=h',toks:=tk }) (n:="range_iterator") st' rfl rfl (by decide) ⟨.int (lo + i),H,I1,⟨t,?_⟩,⟨rfl,rfl⟩,st',fun b hb=>(hf b hb).1⟩⟩
  rw [Int.mul_one]
 done:=by
  intro X hP hw hK hc i pins s σ H E I hf st hg
  subst hP hw hK
  obtain ⟨f0,f1,f2,f3,f4,f5⟩:=hf it (by simp)
  exact wpAny_pyNext_range_end (I.ok.hd hc) st (by have:n <= i:=hg; omega) fun h' eb=>⟨rfl,I.turned (t':=s.toks) (fun b o hb e=>eb b o hb e) f0 f1 f3 f4 f5⟩
 self:=fun _ _ _ _ _ st h=>wpAny_pyIter_rangeiter st h
section
variable {X:Cx} {tg:Expr}
def jbd (K:PySem.W.Frag) (tl:TE):TI:=fun σ H R=>tl σ H fun x H1=>∃ a,x = .ref a/\(∃ xs,SqL K H1 a xs)/\R (Itl K a) H1
def iTup (K:PySem.W.Frag) (tl:TE):TI:=fun σ H R=>tl σ H fun x H1=>∃ a,x = .ref a/\(∃ xs,SqT K H1 a xs)/\R (Itt K a) H1
theorem jau {l:Expr} {tl:TE} (hl:PE X l tl):PI X tg l (jbd X.K tl):=by
 intro pins s σ H R I h
 refine thn (hl pins s σ H _ I h) fun v s1 ⟨x,H1,I1,r1,q1⟩=>?_
 obtain ⟨a,e,⟨xs,hq⟩,q⟩:=q1
 subst e
 cases r1
 obtain ⟨its,rv,p,hz⟩:=I1.list hq
 refine wpAny_pyIter_list p.isList ?_
 refine ⟨s1.heap.objs.size,[s1.heap.objs.size],_,_,H1,rfl,I1.kept (t':=s1.toks) fun b o e=>Heap.get?_push_of_some _ e,jng a _,⟨_,Heap.get?_push_size _ rfl,rfl,rfl⟩,fun b hb=>?_,q⟩
 have e:b = s1.heap.objs.size:=by simpa using hb
 subst e
 exact I1.fpOk (Nat.le_refl _) (I1.hok.fresh (Nat.le_refl _))
theorem pi_tup {l:Expr} {tl:TE} (hl:PE X l tl):PI X tg l (iTup X.K tl):=by
 intro pins s σ H R I h
 refine thn (hl pins s σ H _ I h) fun v s1 ⟨x,H1,I1,r1,q1⟩=>?_
 obtain ⟨a,e,⟨xs,hq⟩,q⟩:=q1
 subst e
 cases r1
 obtain ⟨its,rv,p,hz⟩:=I1.tuple hq
 refine wpAny_pyIter_tuple (show s1.heap.IsTuple a its.toArray from p) ?_
 refine ⟨s1.heap.objs.size,[s1.heap.objs.size],_,_,H1,rfl,I1.kept (t':=s1.toks) fun b o e=>Heap.get?_push_of_some _ e,jmb a _,⟨_,Heap.get?_push_size _ rfl,rfl,rfl⟩,fun b hb=>?_,q⟩
 have e:b = s1.heap.objs.size:=by simpa using hb
 subst e
 exact I1.fpOk (Nat.le_refl _) (I1.hok.fresh (Nat.le_refl _))
theorem jlp {pins:List (Addr × Obj)} {σ:St} {H:Hp} {s:Shared} {R:It->Hp->Prop} {E:Value->Shared->Prop} {lo hi:Int} {t u v:Tok} {tk:Nat} (I:Inv X pins σ H s) (h1:-(2 ^ 62) <= lo) (h2:lo < 2 ^ 62) (h3:-(2 ^ 62) <= hi) (h4:hi < 2 ^ 62)
  (q:R (Itr lo (hi - lo).toNat) H):wpAny (model X.prog X.w) X.A (pyIter (.ref s.heap.objs.size)) (PIE X pins σ tg R) E { s with heap:=s.heap.push { cls:=.type "range",data:=.fields #[.int lo t,.int hi u,.int 1 v] },toks:=tk }:=by
 refine wpAny_pyIter_range (IsRange.new ..) (small_one h1 h2 h3 h4) ?_
 have I1:Inv X pins σ H { s with heap:=s.heap.push { cls:=.type "range",data:=.fields #[.int lo t,.int hi u,.int 1 v] },toks:=tk }:=I.kept fun b o e=>Heap.get?_push_of_some _ e
 refine ⟨(s.heap.push { cls:=.type "range",data:=.fields #[.int lo t,.int hi u,.int 1 v] }).objs.size,[(s.heap.push { cls:=.type "range",data:=.fields #[.int lo t,.int hi u,.int 1 v] }).objs.size],_,_,H,rfl,
  I1.kept (t':=tk) fun b o e=>Heap.get?_push_of_some _ e,jmc _ lo (hi - lo).toNat,?_,fun b hb=>?_,q⟩
 ·have e1:lo + ((0:Nat):Int) * 1 = lo:=by simp
  have e2:(((hi - lo).toNat:Nat):Int) - ((0:Nat):Int) = Builtin.Range.rangeSize lo hi 1:=by rw [rangeSize_one]; split <;> omega
  show IsRangeIter _ _ (lo + ((0:Nat):Int) * 1) ((((hi - lo).toNat:Nat):Int) - ((0:Nat):Int)) 1
  rw [e1,e2]
  exact Heap.get?_push_size _ rfl
 ·have e:b = (s.heap.push { cls:=.type "range",data:=.fields #[.int lo t,.int hi u,.int 1 v] }).objs.size:=by simpa using hb
  subst e
  exact I1.fpOk (Nat.le_refl _) (I1.hok.fresh (Nat.le_refl _))
def jqi (ta:TA):TI:=fun σ H R=>ta σ H fun vs H1=>∃ j:Int,vs = [.int j]/\-(2 ^ 62) <= j/\j < 2 ^ 62/\R (Itr 0 j.toNat) H1
def iRng2 (ta:TA):TI:=fun σ H R=>ta σ H fun vs H1=>∃ i j:Int,vs = [.int i,.int j]/\(-(2 ^ 62) <= i/\i < 2 ^ 62/\-(2 ^ 62) <= j/\j < 2 ^ 62)/\R (Itr i (j - i).toNat) H1
theorem jea {a:Expr} {ta:TA} {p pos:Pos} (hg:Gl X "range") (hm:X.mg "range" = none) (ha:PA X [a] ta) (hs:starEach [a] X.env = [(false,eval a X.env)]:=by rfl):PI X tg (.Call (.Name "range" p) [a] [] pos) (jqi ta):=by
 intro pins s σ H R I h
 refine Call_ (jez I hg hm boot_range (PyProof.Rows.callWith_type1 (thn (ha pos pins s σ H _ I h) fun us s1 ⟨vs,H1,I1,r1,q1⟩=>?_) hs rfl))
 obtain ⟨j,e,q1,q2,q⟩:=q1
 subst e
 cases r1 with
 | cons r rr =>
  cases rr
  obtain ⟨t,rfl⟩:=r
  exact call_range_1 (jlp I1 (by omega) (by omega) q1 q2 (by simpa using q))
theorem joc {a b:Expr} {ta:TA} {p pos:Pos} (hg:Gl X "range") (hm:X.mg "range" = none) (ha:PA X [a,b] ta) (hs:starEach [a,b] X.env = [(false,eval a X.env),(false,eval b X.env)]:=by rfl) (hs2:starEach [b] X.env = [(false,eval b X.env)]:=by rfl) :
  PI X tg (.Call (.Name "range" p) [a,b] [] pos) (iRng2 ta):=by
 intro pins s σ H R I h
 refine Call_ (jez I hg hm boot_range (PyProof.Rows.callWith_type1 (thn (ha pos pins s σ H _ I h) fun us s1 ⟨vs,H1,I1,r1,q1⟩=>?_) (by rw [hs,hs2]) (by rw [hs2]; rfl)))
 obtain ⟨i,j,e,⟨q1,q2,q3,q4⟩,q⟩:=q1
 subst e
 cases r1 with
 | cons r rr =>
  cases rr with
  | cons r' rr =>
   cases rr
   obtain ⟨t,rfl⟩:=r
   obtain ⟨t',rfl⟩:=r'
   exact call_range_2 (jlp I1 q1 q2 q3 q4 q)
def tFor (wi:TI) (g:TG) (tb:TS):TS:=fun D σ H=>wi σ H fun J H1=>∃ W:Nat->Nat->St->Hp->Prop,(∃ m,W 0 m σ H1)/\∀ i m σ H,W i m σ H ->
 (J.stop i H/\D.nx σ H) \/ (J.go i H/\∃ N:St->Hp->Prop,(∀ σ' H',N σ' H'->∃ m',m' < m/\W (i + 1) m' σ' H')/\∀ x H',J.yld i H x H'->g x σ H' fun σ2 H2=>tb { D with nx:=N,ct:=N,bk:=D.nx } σ2 H2)
def jiu (fp:List Addr) (h:Heap):List (Addr × Obj):=fp.filterMap fun b=>(h.get? b).map fun o=>(b,o)
theorem jdx {fp:List Addr} {h:Heap} {b:Addr} {o:Obj} (hb:b ∈ fp) (e:h.get? b = some o):(b,o) ∈ jiu fp h:=List.mem_filterMap.mpr ⟨b,hb,by rw [e]; rfl⟩
theorem jom {fp:List Addr} {h:Heap} {p:Addr × Obj} (hp:p ∈ jiu fp h):p.1 ∈ fp/\h.get? p.1 = some p.2:=by
 obtain ⟨b,hb,e⟩:=List.mem_filterMap.mp hp
 cases q:h.get? b with
 | none=>rw [q] at e; cases e
 | some o =>
  rw [q] at e
  have e':(b,o) = p:=Option.some.inj e
  subst e'
  exact ⟨hb,q⟩
theorem Inv.pinned {pins:List (Addr × Obj)} {σ:St} {H:Hp} {s:Shared} {fp:List Addr} (I:Inv X pins σ H s) (hf:∀ b ∈ fp,FpOk X pins H b) (ho:∀ b ∈ fp,∃ o,s.heap.get? b = some o/\∀ v,o.data ≠ .cell v):Inv X (pins ++ jiu fp s.heap) σ H s :=
 I.pins_of fun p hp=>(List.mem_append.mp hp).elim (fun z=>I.pin p (List.mem_append_right _ z)) fun z=>by
  obtain ⟨hb,e⟩:=jom z
  obtain ⟨f0,f1,f2,_⟩:=hf p.1 hb
  obtain ⟨o,e',d⟩:=ho p.1 hb
  rw [e] at e'; cases e'
  exact ⟨e,f0,f1,f2,d⟩
theorem Inv.unpinned {pins pl:List (Addr × Obj)} {σ:St} {H:Hp} {s:Shared} (I:Inv X (pins ++ pl) σ H s):Inv X pins σ H s:=I.pins_of fun p hp=>I.pin p (List.mem_append_right _ (List.mem_append_left _ hp))
theorem jc5 {iter:Expr} {body:List Stmt} {wi:TI} {g:TG} {tb:TS} {pos:Pos} (hp:PassesOwn (model X.prog X.w) X.A X.env X.xe) (hc:X.calm = true) (hi:PI X tg iter wi) (hg:PG X tg g) (hb:PSs X body tb)
  (hs:∀ x,foldedSetIterable iter X.env x = pure x:=by intro _; rfl):PS X (.For tg iter body [] pos) (tFor wi g tb):=by
 intro pins s σ H D I h
 refine wpAny_For (thn (hi pins s σ H _ I h) fun v s1 h1=>thn h1 fun itv s2 h2=>?_) hs
 obtain ⟨it,fp,tn,J,H2,e,I2,T,st2,f2,W,⟨m0,w0⟩,turn⟩:=h2
 subst e
  -- what stays true of the iterator's objects through the loop
 have stat:∀ {H':Hp},(∀ b ∈ fp,H' b = none)->∀ b ∈ fp,FpOk X pins H' b:=fun hn b hb=>⟨hn b hb,(f2 b hb).2⟩
 refine codeAny_forLoop_any (fun n s'=>∃ i σ' H',Inv X pins σ' H' s'/\tn i s'.heap/\(∀ b ∈ fp,H' b = none)/\W i n σ' H') ?_ m0 ⟨0,σ,H2,I2,st2,fun b hb=>(f2 b hb).1,w0⟩
 rintro n s3 ⟨i,σ3,H3,I3,st3,fr3,w3⟩
 rcases turn i n σ3 H3 w3 with ⟨stop,qn⟩ | ⟨go,N,hN,step⟩
 ·refine wpAny_passesOwn hp (thn (T.done X rfl rfl rfl hc i pins s3 σ3 H3 X.xe I3 (stat fr3) st3 stop) fun r s4 ⟨hr,I4⟩=>?_)
  subst hr
  exact wpAny_execs_nil ⟨σ3,H3,I4,qn⟩
 ·refine wpAny_passesOwn hp (thn (T.item X rfl rfl rfl hc i pins s3 σ3 H3 X.xe I3 (stat fr3) st3 go) fun r s4 ⟨u,hr,h4⟩=>?_)
  subst hr
  refine wpAny_passesOwn hp (thn h4 fun _ s5 ⟨x,H5,I5,r5,y5,st5,fr5⟩=>?_)
  have I5':=I5.pinned (stat fr5) (T.obj _ _ st5)
  refine wpAny_passesOwn hp (thn (hg _ s5 σ3 H5 x u _ I5' r5 (step x H5 y5)) fun _ s6 ⟨σ6,H6,I6,q6⟩=>?_)
  refine wpAny_passesOwn hp (thn (hb _ s6 σ6 H6 _ I6 q6) fun f s7 q7=>?_)
  have again:∀ {σ7:St} {H7:Hp},Inv X (pins ++ jiu fp s5.heap) σ7 H7 s7->N σ7 H7->∃ m,m < n/\∃ i σ' H',Inv X pins σ' H' s7/\tn i s7.heap/\(∀ b ∈ fp,H' b = none)/\W i m σ' H':=fun {σ7 H7} I7 n7=>by
   obtain ⟨m',hm,w7⟩:=hN σ7 H7 n7
   refine ⟨m',hm,i + 1,σ7,H7,I7.unpinned,T.keep _ _ _ st5 fun b hb o e=>(I7.pin (b,o) (List.mem_append_right _ (List.mem_append_right _ (jdx hb e)))).1,fun b hb=>?_,w7⟩
   obtain ⟨o,e,d⟩:=T.obj _ _ st5 b hb
   exact (I7.pin (b,o) (List.mem_append_right _ (List.mem_append_right _ (jdx hb e)))).2.1
  cases f with
  | next=>obtain ⟨σ7,H7,I7,n7⟩:=q7; exact again I7 n7
  | cont=>obtain ⟨σ7,H7,I7,n7⟩:=q7; exact again I7 n7
  | brk=>obtain ⟨σ7,H7,I7,q7⟩:=q7; exact ⟨σ7,H7,I7.unpinned,q7⟩
  | ret v=>obtain ⟨x7,σ7,H7,I7,r7,q7⟩:=q7; exact ⟨x7,σ7,H7,I7.unpinned,r7,q7⟩
end
theorem jby {K:PySem.W.Frag} {a:Addr} {xs:List V} {g:TG} {tb:TS} {D:Ends} {σ:St} {H:Hp} (Pv:Nat->St->Hp->Prop) (h0:Pv 0 σ H) (hl:∀ i σ H,i <= xs.length->Pv i σ H->SqL K H a xs)
  (hs:∀ i x σ H,xs[i]? = some x->Pv i σ H->g x σ H fun σ2 H2=>tb { D with nx:=Pv (i + 1),ct:=Pv (i + 1),bk:=D.nx } σ2 H2) (hd:∀ σ H,Pv xs.length σ H->D.nx σ H) :
  ∃ W:Nat->Nat->St->Hp->Prop,(∃ m,W 0 m σ H)/\∀ i m σ H,W i m σ H ->
   ((Itl K a).stop i H/\D.nx σ H) \/ ((Itl K a).go i H/\∃ N:St->Hp->Prop,(∀ σ' H',N σ' H'->∃ m',m' < m/\W (i + 1) m' σ' H')/\∀ x H',(Itl K a).yld i H x H'->g x σ H' fun σ2 H2=>tb { D with nx:=N,ct:=N,bk:=D.nx } σ2 H2):=by
 refine ⟨fun i m σ H=>m = xs.length - i/\i <= xs.length/\Pv i σ H,⟨xs.length,by simp,Nat.zero_le _,h0⟩,?_⟩
 rintro i m σ H ⟨rfl,hi,p⟩
 have q:=hl i σ H hi p
 by_cases hlt:i < xs.length
 ·refine .inr ⟨⟨xs,xs[i],q,by simp [hlt]⟩,Pv (i + 1),fun σ' H' p'=>⟨xs.length - (i + 1),by omega,rfl,hlt,p'⟩,fun x H' y=>?_⟩
  obtain ⟨e,y⟩:=y
  subst e
  exact hs i x σ _ (y xs q) p
 ·have e:i = xs.length:=by omega
  subst e
  exact .inl ⟨⟨xs,q,Nat.le_refl _⟩,hd σ H p⟩
theorem jdt {lo:Int} {n:Nat} {g:TG} {tb:TS} {D:Ends} {σ:St} {H:Hp} (Pv:Nat->St->Hp->Prop) (h0:Pv 0 σ H)
  (hs:∀ i σ H,i < n->Pv i σ H->g (.int (lo + i)) σ H fun σ2 H2=>tb { D with nx:=Pv (i + 1),ct:=Pv (i + 1),bk:=D.nx } σ2 H2) (hd:∀ σ H,Pv n σ H->D.nx σ H) :
  ∃ W:Nat->Nat->St->Hp->Prop,(∃ m,W 0 m σ H)/\∀ i m σ H,W i m σ H ->
   ((Itr lo n).stop i H/\D.nx σ H) \/ ((Itr lo n).go i H/\∃ N:St->Hp->Prop,(∀ σ' H',N σ' H'->∃ m',m' < m/\W (i + 1) m' σ' H')/\∀ x H',(Itr lo n).yld i H x H'->g x σ H' fun σ2 H2=>tb { D with nx:=N,ct:=N,bk:=D.nx } σ2 H2):=by
 refine ⟨fun i m σ H=>m = n - i/\i <= n/\Pv i σ H,⟨n,by simp,Nat.zero_le _,h0⟩,?_⟩
 rintro i m σ H ⟨rfl,hi,p⟩
 by_cases hlt:i < n
 ·refine .inr ⟨hlt,Pv (i + 1),fun σ' H' p'=>⟨n - (i + 1),by omega,rfl,hlt,p'⟩,fun x H' y=>?_⟩
  obtain ⟨e,y⟩:=y
  subst e y
  exact hs i σ _ hlt p
 ·have e:i = n:=by omega
  subst e
  exact .inl ⟨Nat.le_refl _,hd σ H p⟩
abbrev R2:=V->V->Hp->VK->Prop
def OpR (X:Cx) (f:Value->Value->Sem Value) (r:R2):Prop :=
 ∀ (pins:List (Addr × Obj)) (s:Shared) (σ:St) (H:Hp) (x y:V) (v u:Value) (Q:VK),Inv X pins σ H s->RelV x v->RelV y u->r x y H Q ->
  wpAny (model X.prog X.w) X.A (f v u) (EP X pins σ Q) X.xe s
def UnR (X:Cx) (f:Value->Sem Value) (r:V->Hp->VK->Prop):Prop :=
 ∀ (pins:List (Addr × Obj)) (s:Shared) (σ:St) (H:Hp) (x:V) (v:Value) (Q:VK),Inv X pins σ H s->RelV x v->r x H Q ->
  wpAny (model X.prog X.w) X.A (f v) (EP X pins σ Q) X.xe s
def jck (X:Cx) (f:Value) (r:List V->Hp->VK->Prop):Prop :=
 ∀ (pins:List (Addr × Obj)) (s:Shared) (σ:St) (H:Hp) (xs:List V) (us:List Value) (Q:VK),Inv X pins σ H s->Vals xs us->r xs H Q ->
  wpAny (model X.prog X.w) X.A (call f us) (EP X pins σ Q) X.xe s
def TruR (X:Cx) (r:V->Hp->(Bool->Hp->Prop)->Prop):Prop :=
 ∀ (pins:List (Addr × Obj)) (s:Shared) (σ:St) (H:Hp) (x:V) (v:Value) (Q:Bool->Hp->Prop),Inv X pins σ H s->RelV x v->r x H Q ->
  wpAny (model X.prog X.w) X.A (truthy v) (TP X pins σ Q) X.xe s
def tOp (r:R2) (ta tb:TE):TE:=fun σ H Q=>ta σ H fun x H1=>tb σ H1 fun y H2=>r x y H2 Q
def tUn (r:V->Hp->VK->Prop) (ta:TE):TE:=fun σ H Q=>ta σ H fun x H1=>r x H1 Q
def rI (C:Int->Int->Prop) (g:Int->Int->V):R2:=fun x y H Q=>∃ i j,x = .int i/\y = .int j/\C i j/\Q (g i j) H
def rI0 (g:Int->Int->V):R2:=fun x y H Q=>∃ i j,x = .int i/\y = .int j/\Q (g i j) H
def rU (g:Int->V):V->Hp->VK->Prop:=fun x H Q=>∃ i,x = .int i/\Q (g i) H
section
variable {X:Cx} {a b c:Expr} {ta tb tc:TE} {pos:Pos}
theorem binT (ha:PE X a ta) (hb:PE X b tb) {pins:List (Addr × Obj)} {s:Shared} {σ:St} {H:Hp} {R:V->V->Hp->Prop} (I:Inv X pins σ H s)
  (h:ta σ H fun x H1=>tb σ H1 fun y H2=>R x y H2) {Q:Value->Shared->Prop} {f:Value->Value->Sem Value}
  (hf:∀ v u s2 x y H2,Inv X pins σ H2 s2->RelV x v->RelV y u->R x y H2->wpAny (model X.prog X.w) X.A (f v u) Q X.xe s2) :
  wpAny (model X.prog X.w) X.A (eval a X.env) (fun v s₁=>wpAny (model X.prog X.w) X.A (eval b X.env) (fun u s₂=>wpAny (model X.prog X.w) X.A (f v u) Q X.xe s₂) X.xe s₁) X.xe s:=by
 refine thn (ha pins s σ H _ I h) fun v s1 ⟨x,H1,I1,r1,q1⟩=>?_
 refine thn (hb pins s1 σ H1 _ I1 q1) fun u s2 ⟨y,H2,I2,r2,q2⟩=>?_
 exact hf v u s2 x y H2 I2 r1 r2 q2
theorem jay {op:Operator} {r:R2} (ho:OpR X (binaryOp op) r) (ha:PE X a ta) (hb:PE X b tb):PE X (.BinOp a op b pos) (tOp r ta tb):=by
 intro pins s σ H Q I h
 exact wpAny_BinOp (binT ha hb I h fun v u s2 x y H2 I2 rx ry q=>ho pins s2 σ H2 x y v u Q I2 rx ry q)
theorem jfr {op:UnaryOp} {r:V->Hp->VK->Prop} (ho:UnR X (unaryOp op) r) (ha:PE X a ta):PE X (.UnaryOp op a pos) (tUn r ta):=by
 intro pins s σ H Q I h
 exact UnaryOp_ (thn (ha pins s σ H _ I h) fun v s1 ⟨x,H1,I1,r1,q1⟩=>ho pins s1 σ H1 x v Q I1 r1 q1)
theorem opI {f:Value->Value->Sem Value} {C:Int->Int->Prop} {g:Int->Int->Int}
  (rule:∀ (i j:Int) (t u:Tok) (s:Shared) (Q:Value->Shared->Prop) (E:Value->Shared->Prop),C i j->Q (.int (g i j) s.toks) { s with toks:=s.toks + 1 }->wpAny (model X.prog X.w) X.A (f (.int i t) (.int j u)) Q E s) :
  OpR X f (rI C fun i j=>.int (g i j)):=by
 intro pins s σ H x y v u Q I rx ry h
 obtain ⟨i,j,rfl,rfl,hc,q⟩:=h
 obtain ⟨t,rfl⟩:=rx
 obtain ⟨t',rfl⟩:=ry
 exact rule i j t t' s _ _ hc ⟨.int (g i j),H,I.tok _,⟨_,rfl⟩,q⟩
theorem opI0 {f:Value->Value->Sem Value} {g:Int->Int->Int}
  (rule:∀ (i j:Int) (t u:Tok) (s:Shared) (Q:Value->Shared->Prop) (E:Value->Shared->Prop),Q (.int (g i j) s.toks) { s with toks:=s.toks + 1 }->wpAny (model X.prog X.w) X.A (f (.int i t) (.int j u)) Q E s) :
  OpR X f (rI0 fun i j=>.int (g i j)):=by
 intro pins s σ H x y v u Q I rx ry h
 obtain ⟨i,j,rfl,rfl,q⟩:=h
 obtain ⟨t,rfl⟩:=rx
 obtain ⟨t',rfl⟩:=ry
 exact rule i j t t' s _ _ ⟨.int (g i j),H,I.tok _,⟨_,rfl⟩,q⟩
theorem opB0 {f:Value->Value->Sem Value} {g:Int->Int->Bool}
  (rule:∀ (i j:Int) (t u:Tok) (s:Shared) (Q:Value->Shared->Prop) (E:Value->Shared->Prop),Q (.bool (g i j)) s->wpAny (model X.prog X.w) X.A (f (.int i t) (.int j u)) Q E s) :
  OpR X f (rI0 fun i j=>.bl (g i j)):=by
 intro pins s σ H x y v u Q I rx ry h
 obtain ⟨i,j,rfl,rfl,q⟩:=h
 obtain ⟨t,rfl⟩:=rx
 obtain ⟨t',rfl⟩:=ry
 exact rule i j t t' s _ _ ⟨.bl (g i j),H,I,rfl,q⟩
def CDiv (i j:Int):Prop:=0 < j/\j < 1073741824
def CPow (i j:Int):Prop:=0 <= j/\j <= 1000000/\i.natAbs < 2 ^ 64
def CMul (i j:Int):Prop:=(-(2 ^ 64) < i/\i < 2 ^ 64) \/ (-(2 ^ 64) < j/\j < 2 ^ 64)
theorem CMul.ok {i j:Int} (h:CMul i j):IntMulOk i j:=by
 rcases h with ⟨h1,h2⟩ | ⟨h1,h2⟩
 ·exact .of_left (intBits_le_64 h1 h2)
 ·exact .of_right (intBits_le_64 h1 h2)
theorem op_add:OpR X (binaryOp .Add) (rI0 fun i j=>.int (i + j)):=opI0 fun _ _ _ _ _ _ _ q=>add_int q
theorem op_sub:OpR X (binaryOp .Sub) (rI0 fun i j=>.int (i - j)):=opI0 fun _ _ _ _ _ _ _ q=>sub_int q
theorem op_mul:OpR X (binaryOp .Mult) (rI CMul fun i j=>.int (i * j)):=opI fun _ _ _ _ _ _ _ hc q=>mul_int q hc.ok
theorem js5:OpR X (binaryOp .FloorDiv) (rI CDiv fun i j=>.int (i / j)):=opI fun i j _ _ _ _ _ hc q=>by
 have h1:(0:Int) < j:=hc.1
 have h2:j < 1073741824:=hc.2
 exact floordiv_int (by omega) (by rw [Int.fdiv_eq_ediv_of_nonneg i (by omega)]; exact q) (.inl (PyProof.noPylong_small (by omega)))
theorem op_mod:OpR X (binaryOp .Mod) (rI (fun _ j=>0 < j) fun i j=>.int (i % j)):=opI fun i j _ _ _ _ _ hc q=>by
 have h1:(0:Int) < j:=hc
 exact mod_int' (by omega) (by rw [Int.fmod_eq_emod_of_nonneg i (by omega)]; exact q)
theorem op_pow:OpR X (binaryOp .Pow) (rI CPow fun i j=>.int (i ^ j.toNat)):=opI fun _ _ _ _ _ _ _ hc q=>pow_int_small hc.1 hc.2.1 hc.2.2 q
theorem jsc:OpR X (inplaceOp .Add) (rI0 fun i j=>.int (i + j)):=opI0 fun _ _ _ _ _ _ _ q=>iadd_int q
theorem unI {f:Value->Sem Value} {g:Int->Int}
  (rule:∀ (i:Int) (t:Tok) (s:Shared) (Q:Value->Shared->Prop) (E:Value->Shared->Prop),Q (.int (g i) s.toks) { s with toks:=s.toks + 1 }->wpAny (model X.prog X.w) X.A (f (.int i t)) Q E s) :
  UnR X f (rU fun i=>.int (g i)):=by
 intro pins s σ H x v Q I rx h
 obtain ⟨i,rfl,q⟩:=h
 obtain ⟨t,rfl⟩:=rx
 exact rule i t s _ _ ⟨.int (g i),H,I.tok _,⟨_,rfl⟩,q⟩
theorem un_neg:UnR X (unaryOp .USub) (rU fun i=>.int (-i)):=unI fun _ _ _ _ _ q=>neg_int q
end
def scal:V->V->Bool
 | .non,.non=>true | .non,.int _=>true | .int _,.non=>true | .non,.bl _=>true | .bl _,.non=>true | .non,.str _=>true | .str _,.non=>true
 | .int _,.int _=>true | .bl _,.bl _=>true | .str _,.str _=>true | .byt _,.byt _=>true
 | .int _,.str _=>true | .str _,.int _=>true | .bl _,.str _=>true | .str _,.bl _=>true
 | _,_=>false
def rEq:R2:=fun x y H Q=>scal x y = true/\Q (.bl (decide (x = y))) H
def rNe:R2:=fun x y H Q=>scal x y = true/\Q (.bl (!decide (x = y))) H
theorem jpe {i j:Int}:decide (V.int i = V.int j) = (i == j):=by
 rw [Bool.eq_iff_iff]
 simp
theorem jru {i j:Bool}:decide (V.bl i = V.bl j) = (i == j):=by
 rw [Bool.eq_iff_iff]
 simp
theorem jpd {i j:Str}:decide (V.str i = V.str j) = (i == j):=by
 rw [Bool.eq_iff_iff]
 simp
theorem jpf {i j:Array UInt8}:decide (V.byt i = V.byt j) = (i.toList == j.toList):=by
 rw [Bool.eq_iff_iff]
 cases i
 cases j
 simp
section
variable {X:Cx} {a b c:Expr} {ta tb tc:TE} {pos:Pos}
theorem jbi {pins:List (Addr × Obj)} {σ:St} {H:Hp} {s:Shared} {Q:VK} {k k':Bool} (I:Inv X pins σ H s) (q:Q (.bl k) H) (e:k = k'):EP X pins σ Q (.bool k') s:=by
 subst e
 exact ⟨.bl k,H,I,rfl,q⟩
theorem op_eq:OpR X (compareOp .Eq) rEq:=by
 intro pins s σ H x y v u Q I rx ry h
 obtain ⟨hs,q⟩:=h
 cases x with
 | non =>
  cases rx
  cases y with
  | non=>cases ry; exact PySem.EqNone.eq_none_none (jbi I q (by simp))
  | bl j=>cases ry; exact PySem.EqNone.eq_none_bool (jbi I q (by simp))
  | int j=>obtain ⟨t',rfl⟩:=ry; exact PySem.EqNone.eq_none_int (jbi I q (by simp))
  | str j=>obtain ⟨t',rfl⟩:=ry; exact PySem.EqNone.eq_none_str (jbi I q (by simp))
  | _=>exact absurd (show false = true from hs) Bool.false_ne_true
 | bl i =>
  cases rx
  cases y with
  | non=>cases ry; exact PySem.EqNone.eq_bool_none (jbi I q (by simp))
  | bl j=>cases ry; exact eq_bool (jbi I q jru)
  | str j=>obtain ⟨t',rfl⟩:=ry; exact PySem.EqMixed.eq_bool_str (jbi I q (by simp))
  | _=>exact absurd (show false = true from hs) Bool.false_ne_true
 | int i =>
  obtain ⟨t,rfl⟩:=rx
  cases y with
  | non=>cases ry; exact PySem.EqNone.eq_int_none (jbi I q (by simp))
  | int j=>obtain ⟨t',rfl⟩:=ry; exact eq_int (jbi I q jpe)
  | str j=>obtain ⟨t',rfl⟩:=ry; exact PySem.EqMixed.eq_int_str (jbi I q (by simp))
  | _=>exact absurd (show false = true from hs) Bool.false_ne_true
 | str i =>
  obtain ⟨t,rfl⟩:=rx
  cases y with
  | non=>cases ry; exact PySem.EqNone.eq_str_none (jbi I q (by simp))
  | bl j=>cases ry; exact PySem.EqMixed.eq_str_bool (jbi I q (by simp))
  | int j=>obtain ⟨t',rfl⟩:=ry; exact PySem.EqMixed.eq_str_int (jbi I q (by simp))
  | str j=>obtain ⟨t',rfl⟩:=ry; exact eq_str (jbi I q jpd)
  | _=>exact absurd (show false = true from hs) Bool.false_ne_true
 | byt i =>
  obtain ⟨t,rfl⟩:=rx
  cases y with
  | byt j=>obtain ⟨t',rfl⟩:=ry; exact PySem.W.eq_bytes (jbi I q jpf)
  | _=>exact absurd (show false = true from hs) Bool.false_ne_true
 | _=>cases y <;> exact absurd (show false = true from hs) Bool.false_ne_true
theorem op_ne:OpR X (compareOp .NotEq) rNe:=by
 intro pins s σ H x y v u Q I rx ry h
 obtain ⟨hs,q⟩:=h
 cases x with
 | non =>
  cases rx
  cases y with
  | non=>cases ry; exact PySem.EqNone.ne_none_none (jbi I q (by simp))
  | bl j=>cases ry; exact PySem.EqNone.ne_none_bool (jbi I q (by simp))
  | int j=>obtain ⟨t',rfl⟩:=ry; exact PySem.EqNone.ne_none_int (jbi I q (by simp))
  | str j=>obtain ⟨t',rfl⟩:=ry; exact PySem.EqNone.ne_none_str (jbi I q (by simp))
  | _=>exact absurd (show false = true from hs) Bool.false_ne_true
 | bl i =>
  cases rx
  cases y with
  | non=>cases ry; exact PySem.EqNone.ne_bool_none (jbi I q (by simp))
  | bl j=>cases ry; exact ne_bool (jbi I q (congrArg not jru))
  | str j=>obtain ⟨t',rfl⟩:=ry; exact PySem.EqMixed.ne_bool_str (jbi I q (by simp))
  | _=>exact absurd (show false = true from hs) Bool.false_ne_true
 | int i =>
  obtain ⟨t,rfl⟩:=rx
  cases y with
  | non=>cases ry; exact PySem.EqNone.ne_int_none (jbi I q (by simp))
  | int j=>obtain ⟨t',rfl⟩:=ry; exact ne_int (jbi I q (congrArg not jpe))
  | str j=>obtain ⟨t',rfl⟩:=ry; exact PySem.EqMixed.ne_int_str (jbi I q (by simp))
  | _=>exact absurd (show false = true from hs) Bool.false_ne_true
 | str i =>
  obtain ⟨t,rfl⟩:=rx
  cases y with
  | non=>cases ry; exact PySem.EqNone.ne_str_none (jbi I q (by simp))
  | bl j=>cases ry; exact PySem.EqMixed.ne_str_bool (jbi I q (by simp))
  | int j=>obtain ⟨t',rfl⟩:=ry; exact PySem.EqMixed.ne_str_int (jbi I q (by simp))
  | str j=>obtain ⟨t',rfl⟩:=ry; exact ne_str (jbi I q (congrArg not jpd))
  | _=>exact absurd (show false = true from hs) Bool.false_ne_true
 | byt i =>
  obtain ⟨t,rfl⟩:=rx
  cases y with
  | byt j=>obtain ⟨t',rfl⟩:=ry; exact PySem.W.ne_bytes (jbi I q (congrArg not jpf))
  | _=>exact absurd (show false = true from hs) Bool.false_ne_true
 | _=>cases y <;> exact absurd (show false = true from hs) Bool.false_ne_true
theorem op_lt:OpR X (compareOp .Lt) (rI0 fun i j=>.bl (decide (i < j))):=opB0 fun _ _ _ _ _ _ _ q=>lt_int q
theorem op_le:OpR X (compareOp .LtE) (rI0 fun i j=>.bl (decide (i <= j))):=opB0 fun _ _ _ _ _ _ _ q=>le_int q
theorem op_gt:OpR X (compareOp .Gt) (rI0 fun i j=>.bl (decide (j < i))):=opB0 fun _ _ _ _ _ _ _ q=>gt_int q
theorem op_ge:OpR X (compareOp .GtE) (rI0 fun i j=>.bl (decide (j <= i))):=opB0 fun _ _ _ _ _ _ _ q=>ge_int q
theorem jag (b:Expr) {op:CmpOp} (h:op ≠ .In:=by decide) (h2:op ≠ .NotIn:=by decide):behindInMarks op b = false:=by
 have e1:(op == CmpOp.In) = false:=by cases op <;> first | rfl | exact absurd rfl h
 have e2:(op == CmpOp.NotIn) = false:=by cases op <;> first | rfl | exact absurd rfl h2
 cases b <;> simp [behindInMarks,e1,e2]
theorem jb0 {op:CmpOp} {r:R2} (ho:OpR X (compareOp op) r) (ha:PE X a ta) (hb:PE X b tb) (hm:behindInMarks op b = false):PE X (.Compare a [op] [b] pos) (tOp r ta tb):=by
 intro pins s σ H Q I h
 exact wpAny_Compare1 (binT ha hb I h fun v u s2 x y H2 I2 rx ry q=>ho pins s2 σ H2 x y v u Q I2 rx ry q) hm
def TruV (K:PySem.W.Frag) (x:V) (H:Hp) (k:Bool):Prop :=
 match x with
 | .non=>k = false
 | .bl b=>k = b
 | .int i=>k = (i != 0)
 | .str y=>y.length <= sizeLine/\k = ((y.length:Int) != 0)
 | .byt y=>y.size <= sizeLine/\k = ((y.size:Int) != 0)
 | .ref p=>(∃ xs,SqL K H p xs/\k = !xs.isEmpty) \/ (∃ xs,SqT K H p xs/\k = !xs.isEmpty) \/ ∃ kvs,H p = some (.dK kvs)/\k = !kvs.isEmpty
 | _=>False
theorem jmz {κ:Type} {kvs:List (κ × V)} {vs:List (κ × Value)} (r:KV kvs vs):(!vs.isEmpty) = !kvs.isEmpty:=by
 cases r <;> rfl
theorem jh1 {xs:List V} {its:List Value} (r:Vals xs its):(!its.toArray.isEmpty) = !xs.isEmpty:=by
 cases r <;> simp
theorem jgy:(sizeLine:Nat) < 2 ^ 63:=by rw [sizeLine_eq]; decide
theorem jr0:TruR X (fun x H Q=>∃ k,TruV X.K x H k/\Q k H):=by
 intro pins s σ H x v Q I rx h
 obtain ⟨k,e,q⟩:=h
 have hl:=jgy
 have hs:sizeLine = 16777216:=sizeLine_eq
 cases x with
 | non =>
  cases rx
  have e':k = false:=e
  subst e'
  exact truthy_none ⟨H,I,q⟩
 | bl b =>
  cases rx
  have e':k = b:=e
  subst e'
  exact wpAny_truthy_bool ⟨H,I,q⟩
 | int i =>
  obtain ⟨t,rfl⟩:=rx
  have e':k = (i != 0):=e
  subst e'
  exact PySem.P.truthy_int ⟨H,I,q⟩
 | str y =>
  obtain ⟨t,rfl⟩:=rx
  obtain ⟨hy,e'⟩:y.length <= sizeLine/\k = ((y.length:Int) != 0):=e
  subst e'
  exact PySem.P.truthy_str (by omega) ⟨H,I.tok _,q⟩
 | byt y =>
  obtain ⟨t,rfl⟩:=rx
  obtain ⟨hy,e'⟩:y.size <= sizeLine/\k = ((y.size:Int) != 0):=e
  subst e'
  exact PySem.W.truthy_bytes (by omega) ⟨H,I.tok _,q⟩
 | ref p =>
  cases rx
  have e':(∃ xs,SqL X.K H p xs/\k = !xs.isEmpty) \/ (∃ xs,SqT X.K H p xs/\k = !xs.isEmpty) \/ ∃ kvs,H p = some (.dK kvs)/\k = !kvs.isEmpty:=e
  rcases e' with ⟨xs,hx,e'⟩ | ⟨xs,hx,e'⟩ | ⟨kvs,hx,e'⟩
  ·subst e'
   obtain ⟨its,r,pl,hz⟩:=I.list hx
   have hlen:=r.length
   exact wpAny_truthy_list pl.isList (by simp only [List.size_toArray]; omega) ⟨H,I.tok _,by rw [jh1 r]; exact q⟩
  ·subst e'
   obtain ⟨its,r,pl,hz⟩:=I.tuple hx
   have hlen:=r.length
   exact truthy_tuple pl (by simp only [List.size_toArray]; omega) ⟨H,I.tok _,by rw [jh1 r]; exact q⟩
  ·subst e'
   obtain ⟨hz,hS,vs,r,m⟩:kvs.length <= sizeLine/\(p == sysModules) = false/\∃ vs,KV kvs vs/\s.heap.DictOf (jbs X.prog X.w) p vs:=I.hok p _ hx
   have hlen:kvs.length = vs.length:=Paired.length r
   exact wpAny_truthy_dict hS m (by omega) ⟨H,I.tok _,by rw [jmz r]; exact q⟩
 | _=>exact (show False from e).elim
theorem jic {x:V} {us:List Value} (r:Vals [x] us):∃ u,us = [u]/\RelV x u:=by
 cases r with
 | cons r1 r2=>cases r2; exact ⟨_,rfl,r1⟩
theorem vals2 {x y:V} {us:List Value} (r:Vals [x,y] us):∃ u w',us = [u,w']/\RelV x u/\RelV y w':=by
 cases r with
 | cons r1 r2 =>
  cases r2 with
  | cons r3 r4=>cases r4; exact ⟨_,_,rfl,r1,r3⟩
theorem jpl (hc:X.calm = true):jck X (.builtin "max") (fun xs H Q=>∃ i j,xs = [.int i,.int j]/\Q (.int (if j > i then j else i)) H):=by
 intro pins s σ H xs us Q I r h
 obtain ⟨i,j,rfl,q⟩:=h
 obtain ⟨u,w',rfl,⟨t,rfl⟩,⟨t',rfl⟩⟩:=vals2 r
 refine max_two_ints (I.ok.hd hc) fun h' tk k=>⟨_,H,I.kept k,?_,q⟩
 by_cases hj:j > i
 ·rw [if_pos hj,if_pos hj]; exact ⟨_,rfl⟩
 ·rw [if_neg hj,if_neg hj]; exact ⟨_,rfl⟩
theorem jpk (hc:X.calm = true):jck X (.builtin "min") (fun xs H Q=>∃ i j,xs = [.int i,.int j]/\Q (.int (if j < i then j else i)) H):=by
 intro pins s σ H xs us Q I r h
 obtain ⟨i,j,rfl,q⟩:=h
 obtain ⟨u,w',rfl,⟨t,rfl⟩,⟨t',rfl⟩⟩:=vals2 r
 refine min_two_ints (I.ok.hd hc) fun h' tk k=>⟨_,H,I.kept k,?_,q⟩
 by_cases hj:j < i
 ·rw [if_pos hj,if_pos hj]; exact ⟨_,rfl⟩
 ·rw [if_neg hj,if_neg hj]; exact ⟨_,rfl⟩
theorem jpm:jck X (.type "int") (fun xs H Q=>(∃ i,xs = [.int i]/\Q (.int i) H) \/ ∃ k,xs = [.bl k]/\Q (.int (if k then 1 else 0)) H):=by
 intro pins s σ H xs us Q I r h
 rcases h with ⟨i,rfl,q⟩ | ⟨k,rfl,q⟩
 ·obtain ⟨u,rfl,t,rfl⟩:=jic r
  exact call_int_int ⟨.int i,H,I,⟨_,rfl⟩,q⟩
 ·obtain ⟨u,rfl,r1⟩:=jic r
  cases r1
  exact call_int_bool ⟨.int (if k then 1 else 0),H,I.tok _,⟨_,rfl⟩,q⟩
end
structure ObjM (h:Heap) (x dx C:Addr) (mA:Str->Option Value):Prop where
 obj:h.get? x = some (PySem.W.instObj C dx)
 ns:h.Ns1 dx mA
 ne:dx ≠ x
theorem jor {h:Heap} {dx:Addr} {mA:Str->Option Value} (n:h.Ns1 dx mA):∃ od,h.get? dx = some od/\∀ name,PySem.W.lookIn name od = some (mA name):=by
 obtain ⟨o,es,ep,ho,hd,hk,_,hm⟩:=n
 refine ⟨o,ho,fun name=>?_⟩
 have e:=hm name
 unfold nsFind findBy at e
 rw [<- Array.find?_toList] at e
 unfold PySem.W.lookIn
 rw [hd]
 dsimp only
 split
 ·rename_i y q
  rw [q] at e
  exact congrArg some e
 ·rename_i q
  rw [q] at e
  have a:es.toList.any (·.refKey) = false:=by
   rw [List.any_eq_false]
   intro y hy
   obtain ⟨z,t,hkey⟩:=hk y (Array.mem_toList_iff.mp hy)
   simp [DictEntry.refKey,hkey]
  have a':¬ es.toList.any (·.refKey) = true:=by rw [a]; exact Bool.false_ne_true
  rw [if_neg a']
  exact congrArg some e
theorem ObjM.look {h:Heap} {x dx C:Addr} {mA:Str->Option Value} (I:ObjM h x dx C mA):∃ od,PySem.W.InstAt h x (PySem.W.instObj C dx) C (some od)/\∀ name,PySem.W.lookIn name od = some (mA name) :=
 let ⟨od,ho,hl⟩:=jor I.ns
 ⟨od,⟨I.obj,rfl,rfl,ho⟩,hl⟩
section
variable {prog:Program} {w:World} {A:Around} {E:Value->Shared->Prop} {s:Shared} {K:PySem.W.Frag} {x dx C f:Addr} {mA:Str->Option Value} {name:Str} {v:Value}
end
theorem RelO.some_of {v:V} {o:Option Value} (r:RelO (some v) o):∃ u,o = some u/\RelV v u:=by
 cases o with
 | none=>exact (show False from r).elim
 | some u=>exact ⟨u,rfl,r⟩
section
variable {P:Program} {w:World} {H H':Hp} {h h':Heap} {a C dx:Addr} {fs fs':List (Str × V)}
theorem jse (hok:HOk P w H h) (e:H a = some (.ins C dx fs)):∃ mA,ObjM h a dx C mA/\(∀ f,RelO (fs.lookup f) (mA f))/\PySem.Within mA (fs.map (·.1))/\fs.length <= 1000/\H dx = some (.own a):=by
 obtain ⟨d,z,ne,ob,mA,n,r,q⟩:=(show jca P w H h a (.ins C dx fs) from hok a _ e)
 exact ⟨mA,⟨ob,n,ne⟩,r,q,z,d⟩
end
structure Cls (K:PySem.W.Frag) (C:Addr):Prop where
 pg:PySem.W.plainGet K C Str.empty = true
 hd:PySem.W.hasDictIn K C = true
 po:PySem.W.plainOver K C = true
 sa:PySem.W.findIn K (.ref C) "__setattr__" = some (some (.builtin "object.__setattr__"))
theorem Cls.get {K:PySem.W.Frag} {C:Addr} (c:Cls K C) (f:Str):PySem.W.plainGet K C f = true:=c.pg
section
variable {X:Cx} {pins:List (Addr × Obj)} {σ:St} {H:Hp} {s:Shared} {a C dx:Addr} {fs:List (Str × V)} {f:Str} {v:V} {A:Around} {E:Value->Shared->Prop}
end
section
variable {X:Cx} {o e value:Expr} {f:Str} {pos pos' tpos:Pos} {ta tv:TE}
end
section
variable {X:Cx} {pins:List (Addr × Obj)} {σ:St} {H:Hp} {s:Shared} {A:Around} {E:Value->Shared->Prop} {Q:Value->Shared->Prop} {c:Value} {b:Bool}
inductive TyOf (K:PySem.W.Frag) (H:Hp):V->Value->Prop where
 | non:TyOf K H .non (.type "NoneType")
 | bl (x:Bool):TyOf K H (.bl x) (.type "bool")
 | int (i:Int):TyOf K H (.int i) (.type "int")
 | str (x:Str):TyOf K H (.str x) (.type "str")
 | flt (x:UInt64):TyOf K H (.flt x) (.type "float")
 | lst {a:Addr} {xs:List V} (e:H a = some (.lst xs)):TyOf K H (.ref a) (.type "list")
 | frz {a:Addr} {o:Obj} {xs:List V} (e:H a = some (.frz o (.lst xs))):TyOf K H (.ref a) (.type "list")
 | tup {a:Addr} {xs:List V} (e:H a = some (.tup xs)):TyOf K H (.ref a) (.type "tuple")
 | dK {a:Addr} {kvs:List (Key × V)} (e:H a = some (.dK kvs)):TyOf K H (.ref a) (.type "dict")
 | dT {a:Addr} {kvs:List (List Key × V)} (e:H a = some (.dT kvs)):TyOf K H (.ref a) (.type "dict")
 | ins {a C dx:Addr} {fs:List (Str × V)} (e:H a = some (.ins C dx fs)) (cl:Cls K C) (ha:PySem.W.findIn K (.ref C) "__class__" = some (some (.builtin "object.__class__")))
   (hn:PySem.W.specialIn K (.builtin "object.__class__") "__get__" = some (some (.builtin "getset_descriptor.__get__"))) (htk:PySem.W.takesIn K (.builtin "object.__class__") = some true)
   (hm:PySem.W.mroIn K C (.type "object") = some true):TyOf K H (.ref a) (.ref C)
theorem jp3 {x:V} {u t:Value} (I:Inv X pins σ H s) (rx:RelV x u) (ty:TyOf X.K H x t) (e:PySem.W.kitOne X.K t c = some b) (h:∀ tk,Q (.bool b) { s with toks:=tk }) :
  wpAny (model X.prog X.w) A (call (.builtin "isinstance") [u,c]) Q E s:=by
 cases ty with
 | non=>cases (show u = Value.none from rx); exact PySem.W.kia_one PySem.W.kitx_none I.kIn True.intro e (fun z=>nomatch z) h
 | bl y=>cases (show u = Value.bool y from rx); exact PySem.W.kia_one PySem.W.kitx_bool I.kIn True.intro e (fun z=>nomatch z) h
 | int i=>obtain ⟨t,q⟩:=(show ∃ t,u = Value.int i t from rx); cases q; exact PySem.W.kia_one PySem.W.kitx_int I.kIn True.intro e (fun z=>nomatch z) h
 | str y=>obtain ⟨t,q⟩:=(show ∃ t,u = Value.str y t from rx); cases q; exact PySem.W.kia_one PySem.W.kitx_str I.kIn True.intro e (fun z=>nomatch z) h
 | flt y=>obtain ⟨t,q⟩:=(show ∃ t,u = Value.float y t from rx); cases q; exact PySem.W.kia_one PySem.W.kitx_float I.kIn True.intro e (fun z=>nomatch z) h
 | @lst a xs ea =>
  cases (show u = Value.ref a from rx)
  obtain ⟨_,_,n,_,h1⟩:=(show jca X.prog X.w H s.heap a (.lst xs) from I.hok a _ ea)
  exact PySem.W.kia_one PySem.W.kitx_list I.kIn ⟨_,h1,rfl⟩ e (fun z=>nomatch z) h
 | @frz a ob xs ea =>
  cases (show u = Value.ref a from rx)
  obtain ⟨_,_,_,n,_,h1⟩:=(show jca X.prog X.w H s.heap a (.frz ob (.lst xs)) from I.hok a _ ea)
  exact PySem.W.kia_one PySem.W.kitx_list I.kIn ⟨_,h1,rfl⟩ e (fun z=>nomatch z) h
 | @tup a xs ea =>
  cases (show u = Value.ref a from rx)
  obtain ⟨_,_,_,p⟩:=(show jca X.prog X.w H s.heap a (.tup xs) from I.hok a _ ea)
  obtain ⟨o,h1,h2,_⟩:=p
  exact PySem.W.kia_one PySem.W.kitx_tuple I.kIn ⟨o,h1,h2⟩ e (fun z=>nomatch z) h
 | @dK a kvs ea =>
  cases (show u = Value.ref a from rx)
  obtain ⟨_,_,vs,_,p⟩:=(show jca X.prog X.w H s.heap a (.dK kvs) from I.hok a _ ea)
  obtain ⟨o,es,ep,h1,h2,_⟩:=p
  exact PySem.W.kia_one PySem.W.kitx_dict I.kIn ⟨o,h1,h2.1⟩ e (fun z=>nomatch z) h
 | @dT a kvs ea =>
  cases (show u = Value.ref a from rx)
  obtain ⟨_,_,xs,_,o,es,ep,h1,h2,_⟩:=(show jca X.prog X.w H s.heap a (.dT kvs) from I.hok a _ ea)
  exact PySem.W.kia_one PySem.W.kitx_dict I.kIn ⟨o,h1,h2.1⟩ e (fun z=>nomatch z) h
 | @ins a C dx fs ea cl ha hn htk hm =>
  cases (show u = Value.ref a from rx)
  obtain ⟨mA,O,_⟩:=jse I.hok ea
  obtain ⟨od,J,_⟩:=O.look
  exact PySem.W.kia_one (PySem.W.kitx_own (cl.get _) cl.hd ha hn htk hm) I.kIn J e (fun z=>nomatch z) h
end
structure Room (k:Nat) (A:Around):Prop where
 hd:A.handled = none
 dp:A.depth + 3 * k + 5 < recursionLimit
 un:A.units + 16 * k + 200 < cLine
 gd:A.guards = some []
theorem Room.mono {j k:Nat} {A:Around} (r:Room k A) (h:j <= k):Room j A:=⟨r.hd,by have:=r.dp; omega,by have:=r.un; omega,by first | exact r.gd | (simp only [Around.deeper,Around.in1,Around.under]; exact r.gd)⟩
theorem Room.deeper {k:Nat} {A:Around} (r:Room (k + 1) A) (env:Env):Room k (A.deeper env) :=
 ⟨r.hd,by have:=r.dp; show A.depth + 1 + 3 * k + 5 < _; omega,by have:=r.un; show A.units + 3 + 16 * k + 200 < _; omega,by first | exact r.gd | (simp only [Around.deeper,Around.in1,Around.under]; exact r.gd)⟩
theorem Room.depth {k:Nat} {A:Around} (r:Room k A):A.depth < recursionLimit:=by have:=r.dp; omega
theorem Room.units {k:Nat} {A:Around} (r:Room k A):A.units + 64 < cLine:=by have:=r.un; omega
def tNil:TA:=fun _ H Q=>Q [] H
def jf1 (ta:TE) (tr:TA):TA:=fun σ H Q=>ta σ H fun x H1=>tr σ H1 fun xs H2=>Q (x :: xs) H2
section
variable {X:Cx} {e:Expr} {es:List Expr} {te:TE} {t:TA} {pos:Pos}
theorem ja3:PA X [] tNil:=fun _ _ _ _ H Q I h=>Calls.spliced_nil ⟨[],H,I,.nil,h⟩
theorem ja0 (ha:PE X e te) (hr:PA X es t) (hs:starEach (e :: es) X.env = (false,eval e X.env) :: starEach es X.env:=by rfl):PA X (e :: es) (jf1 te t):=by
 intro pos pins s σ H Q I h
 rw [hs]
 show wpAny _ _ (spliced ((false,eval e X.env) :: backTo pos (starEach es X.env))) _ _ s
 refine Calls.spliced_cons (thn (ha pins s σ H _ I h) fun u s1 ⟨x,H1,I1,r1,q1⟩=>?_)
 exact thn (hr pos pins s1 σ H1 _ I1 q1) fun us s2 ⟨xs,H2,I2,r2,q2⟩=>⟨x :: xs,H2,I2,.cons r1 r2,q2⟩
def tTup (t:TA):TE:=fun σ H Q=>t σ H fun xs H1=>xs.length <= sizeLine/\∀ p,H1 p = none->Q (.ref p) (upd H1 p (.tup xs))
def tLst (t:TA):TE:=fun σ H Q=>t σ H fun xs H1=>xs.length <= sizeLine/\∀ p,H1 p = none->Q (.ref p) (upd H1 p (.lst xs))
theorem jb4 {x1} (h:PA X es t):PE X (.Tuple es x1 pos) (tTup t):=by
 intro pins s σ H Q I hq
 refine wpAny_Tuple_spliced (thn (h pos pins s σ H _ I hq) fun us s1 ⟨xs,H1,I1,r,z,q⟩=>⟨by rw [<- r.length]; exact z,?_⟩)
 have hf:H1 s1.heap.objs.size = none:=I1.hok.fresh (Nat.le_refl _)
 refine ⟨.ref s1.heap.objs.size,upd H1 s1.heap.objs.size (.tup xs),I1.laid (t':=s1.toks) (fun b u e=>Heap.get?_push_of_some _ e) (Nat.le_refl _) ?_,rfl,q _ hf⟩
 exact ⟨z,us,r,⟨_,Heap.get?_push_size _ rfl,rfl,_,rfl⟩⟩
theorem jb6 (h:PA X es t):PE X (.List es pos) (tLst t):=by
 intro pins s σ H Q I hq
 refine wpAny_List_spliced (thn (h pos pins s σ H _ I hq) fun us s1 ⟨xs,H1,I1,r,z,q⟩=>⟨by rw [<- r.length]; exact z,?_⟩)
 have hf:H1 s1.heap.objs.size = none:=I1.hok.fresh (Nat.le_refl _)
 refine ⟨.ref s1.heap.objs.size,upd H1 s1.heap.objs.size (.lst xs),I1.laid (t':=s1.toks) (fun b u e=>Heap.get?_push_of_some _ e) (Nat.le_refl _) ?_,rfl,q _ hf⟩
 exact ⟨z,us,0,r,Heap.get?_push_size _ rfl⟩
end
abbrev Sp:=List V->Hp->VK->XK->Prop
abbrev CXT:=List Env->Hp->Shared->XK->Value->Shared->Prop
structure Env0 (P:Program) (w:World) (K:PySem.W.Frag) (mg:Str->Option Value) (base:Heap) (A:Around) (outer:List Env) (s:Shared) (H:Hp):Prop where
 frames:A.frames = some outer
 mod:Mod K mg base
 bs:∀ b o,base.get? b = some o->s.heap.get? b = some o/\H b = none
 bsz:base.objs.size <= s.heap.objs.size
 funs:s.heap.FunFrames base outer
 frf:∀ b ∈ frs outer,H b = none
 hok:HOk P w H s.heap
 bare:AllBare s.gens
def CE (outer:List Env) (P:Program) (w:World) (H:Hp) (s:Shared) (Q:VK) (u:Value) (s':Shared):Prop :=
 ∃ v H',s'.os = s.os/\AllBare s'.gens/\Un (frs outer) [] H H' s.heap s'.heap/\HOk P w H' s'.heap/\RelV v u/\Q v H'
def CR (CX:CXT) (outer:List Env) (P:Program) (w:World) (H:Hp) (s:Shared) (Q:VK) (E:XK) (r:Result) (s':Shared):Prop :=
 match r with
 | .ok (.ret u)=>CE outer P w H s Q u s'
 | .ok _=>False
 | .error e=>CX outer H s E e s'
structure FnOk (P:Program) (w:World) (K:PySem.W.Frag) (mg:Str->Option Value) (base:Heap) (CX:CXT) (k:Nat) (f:Addr) (fd:FuncData) (ps:List Str) (sp:Sp):Prop where
 len:∀ vs H Q E,sp vs H Q E->vs.length = ps.length
 run:∀ (A:Around) (outer:List Env) (s:Shared) (H:Hp) (args:Args) (us:List Value) (vs:List V) (Q:VK) (E:XK),Room k A->Env0 P w K mg base A outer s H->BindsTo s fd args (ps.zip us)->Vals vs us->sp vs H Q E ->
  codeAny (model P w) A (.call (.ref f) args) (CR CX outer P w H s Q E) s
theorem FnOk.mono {P:Program} {w:World} {K:PySem.W.Frag} {mg:Str->Option Value} {base:Heap} {CX:CXT} {j k:Nat} {f:Addr} {fd:FuncData} {ps:List Str} {sp:Sp} (F:FnOk P w K mg base CX j f fd ps sp) (h:j <= k) :
  FnOk P w K mg base CX k f fd ps sp:=⟨F.len,fun A outer s H args us vs Q E hr=>F.run A outer s H args us vs Q E (hr.mono h)⟩
section
variable {X:Cx} {pins:List (Addr × Obj)} {σ:St} {H:Hp} {s s':Shared}
theorem Inv.env0 (I:Inv X pins σ H s):Env0 X.prog X.w X.K X.mg X.base X.A X.stack s H :=
 ⟨I.ok.frames,I.ok.mod,I.bs,Nat.le_trans I.ok.bsz I.sz,I.stack,I.stkFree,I.hok,I.bare⟩
theorem Inv.after {Q:VK} {u:Value} (I:Inv X pins σ H s) (h:CE X.stack X.prog X.w H s Q u s'):EP X pins σ Q u s':=by
 obtain ⟨v,H',os,bare,un,hok,r,q⟩:=h
 obtain ⟨hh,g,d,t,os'⟩:=s'
 obtain rfl:os' = s.os:=os
 exact ⟨v,H',I.call (h':=hh) (g':=g) (d':=d) (t':=t) (ch:=[]) un hok bare (fun b z=>absurd z (by simp)),r,q⟩
end
def jmg (sp:Sp) (dvs:List V) (E:XK) (t:TA):TE:=fun σ H Q=>t σ H fun vs H1=>sp (vs ++ dvs) H1 Q E
def jld (K:PySem.W.Frag) (fd:FuncData) (ps:List Str) (ds:List Value):Prop :=
 ∀ (s:Shared) (us:List Value),K.In s.heap->(us ++ ds).length = ps.length->BindsTo s fd ⟨us,[]⟩ (ps.zip (us ++ ds))
theorem jld.all {K:PySem.W.Frag} {fd:FuncData} {ps:List Str} (h:∀ us:List Value,us.length = ps.length->bindArgs fd ⟨us,[]⟩ = pure (ps.zip us)):jld K fd ps []:=fun s us _ hl=>by
 rw [List.append_nil] at hl ⊢
 exact .of_eq (h us hl)
def jps (CX:CXT) (X:Cx) (E:XK):Prop:=∀ (pins:List (Addr × Obj)) (σ:St) (H:Hp) (s:Shared) (e:Value) (s':Shared),Inv X pins σ H s->CX X.stack H s E e s'->X.xe e s'
section
variable {X:Cx} {CX:CXT} {k:Nat} {f C:Addr} {fd:FuncData} {ps:List Str} {sp:Sp} {dvs:List V} {ds:List Value} {E:XK} {x m:Str} {p pos apos:Pos} {e o:Expr} {es:List Expr} {ta:TE} {t:TA}
theorem run_fn {pins:List (Addr × Obj)} {σ:St} {H:Hp} {s:Shared} {Q:VK} {us:List Value} {vs:List V} (F:FnOk X.prog X.w X.K X.mg X.base CX k f fd ps sp) (hr:Room k X.A) (hb:jld X.K fd ps ds) (hd:Vals dvs ds) (hx:jps CX X E)
  (I:Inv X pins σ H s) (r:Vals vs us) (h:sp (vs ++ dvs) H Q E):wpAny (model X.prog X.w) X.A (call (.ref f) us) (EP X pins σ Q) X.xe s:=by
 have r2:Vals (vs ++ dvs) (us ++ ds):=r.append hd
 have hl:(us ++ ds).length = ps.length:=by rw [<- r2.length]; exact F.len _ _ _ _ h
 refine wpAny_call (codeAny_mono (F.run X.A X.stack s H ⟨us,[]⟩ (us ++ ds) (vs ++ dvs) Q E hr I.env0 (hb s us I.kIn hl) r2 h) fun r s' hq=>?_)
 cases r with
 | error e=>exact hx pins σ H s e s' I hq
 | ok fl =>
  cases fl with
  | ret u=>exact I.after hq
  | next=>exact False.elim hq
  | brk=>exact False.elim hq
  | cont=>exact False.elim hq
theorem ja8 (F:FnOk X.prog X.w X.K X.mg X.base CX k f fd ps sp) (hr:Room k X.A) (hg:Gl X x) (hm:X.mg x = some (.ref f)) (hk:PySem.W.keepIn X.K (.ref f) = true) (hb:jld X.K fd ps ds) (hd:Vals dvs ds) (hx:jps CX X E)
  (ha:PA X (e :: es) t) (hdb:(x == ("__debug__":Str)) = false:=by decide) (he:starEach (e :: es) X.env = (false,eval e X.env) :: starEach es X.env:=by rfl) (hpl:(backTo pos (starEach es X.env)).any (·.1) = false:=by rfl) :
  PE X (.Call (.Name x p) (e :: es) [] pos) (jmg sp dvs E t):=by
 intro pins s σ H Q I h
 refine wpAny_Call_Name_kw (jot I hg hm ?_ hdb)
 refine PySem.W.callWith_K (h₀:=X.base) I.ok.mod.kin hk (thn (ha pos pins s σ H _ I h) fun us s1 ⟨vs,H1,I1,r,q⟩=>⟨I1.kIn,?_⟩) he hpl
 exact run_fn F hr hb hd hx I1 r q
end
section
variable {X:Cx} {CX:CXT} {k:Nat} {f C:Addr} {fd:FuncData} {ps ks:List Str} {sp:Sp} {E:XK} {x m:Str} {p pos apos kpos:Pos} {e o:Expr} {es:List Expr} {kws:List Keyword} {te ta:TE} {t tk:TA} {nm:Option Str}
variable {g:List Value->List Value->List Value} {gV:List V->List V->List V}
end
structure FnScope (N P:List Str) (sc:Scope):Prop where
 kind:sc.kind = .function
 co:sc.isCoroutine = false
 gen:sc.isGenerator = false
 nd:N.Nodup
 pre:N.take P.length = P
 par:∀ x ∈ P,sc.names.lookup x = some .local \/ sc.names.lookup x = some .cell
 nofree:∀ y ∈ sc.names,y.2 ≠ .free
theorem jjx {kindOf:Str->Option NameKind} {x:Str}:∀ {binds:List (Str × Value)} {m:Str->Option Value},(∀ v,(x,v) ∉ binds)->bindL kindOf binds m x = m x
 | [],_,_=>rfl
 | (n,v) :: r,m,h=>by
  unfold bindL
  rw [jjx fun w hw=>h w (List.mem_cons_of_mem _ hw)]
  split
  ·have:x ≠ n:=by rintro rfl; exact h v List.mem_cons_self
   simp [this]
  ·rfl
theorem jjz {kindOf:Str->Option NameKind} {x:Str}:∀ {binds:List (Str × Value)} {m:Str->Option Value},(∀ v,(x,v) ∉ binds)->bindC kindOf binds m x = m x
 | [],_,_=>rfl
 | (n,v) :: r,m,h=>by
  unfold bindC
  rw [jjz fun w hw=>h w (List.mem_cons_of_mem _ hw)]
  split
  ·rfl
  ·have:x ≠ n:=by rintro rfl; exact h v List.mem_cons_self
   simp [this]
theorem jjy {kindOf:Str->Option NameKind} {x:Str} {v:Value}:∀ {P:List Str} {vs:List Value} {i:Nat} {m:Str->Option Value},P.Nodup->P[i]? = some x->vs[i]? = some v->kindOf x = some .local ->
  bindL kindOf (P.zip vs) m x = some v
 | [],_,_,_,_,h,_,_=>by simp at h
 | _ :: _,[],_,_,_,_,h,_=>by simp at h
 | p :: P,w :: vs,0,m,nd,h1,h2,hk=>by
  simp at h1 h2; subst h1; subst h2
  show bindL kindOf ((p,w) :: P.zip vs) m p = _
  unfold bindL
  rw [jjx fun v hv=>(List.nodup_cons.mp nd).1 (List.of_mem_zip hv).1,if_pos hk]
  simp
 | p :: P,w :: vs,i + 1,m,nd,h1,h2,hk=>by
  show bindL kindOf ((p,w) :: P.zip vs) m x = _
  unfold bindL
  exact jjy (i:=i) (List.nodup_cons.mp nd).2 (by simpa using h1) (by simpa using h2) hk
theorem jk0 {kindOf:Str->Option NameKind} {x:Str} {v:Value}:∀ {P:List Str} {vs:List Value} {i:Nat} {m:Str->Option Value},P.Nodup->P[i]? = some x->vs[i]? = some v->kindOf x ≠ some .local ->
  bindC kindOf (P.zip vs) m x = some v
 | [],_,_,_,_,h,_,_=>by simp at h
 | _ :: _,[],_,_,_,_,h,_=>by simp at h
 | p :: P,w :: vs,0,m,nd,h1,h2,hk=>by
  simp at h1 h2; subst h1; subst h2
  show bindC kindOf ((p,w) :: P.zip vs) m p = _
  unfold bindC
  rw [jjz fun v hv=>(List.nodup_cons.mp nd).1 (List.of_mem_zip hv).1,if_neg hk]
  simp
 | p :: P,w :: vs,i + 1,m,nd,h1,h2,hk=>by
  show bindC kindOf ((p,w) :: P.zip vs) m x = _
  unfold bindC
  exact jk0 (i:=i) (List.nodup_cons.mp nd).2 (by simpa using h1) (by simpa using h2) hk
def jer (N:List Str) (vs:List V):St:=vs.map some ++ List.replicate (N.length - vs.length) none
def cxOf (CX:CXT) (P:Program) (w:World) (K:PySem.W.Frag) (mg:Str->Option Value) (base:Heap) (N:List Str) (qual:Str) (scope:Scope) (f:Addr) (cd:Value) (A:Around) (outer:List Env) (s:Shared) (H:Hp) (E:XK):Cx where
 prog:=P
 w:=w
 K:=K
 mg:=mg
 base:=base
 A:=A.deeper (envOfC qual scope s.heap.objs.size f cd)
 N:=N
 s₀:=s
 H₀:=H
 env:=envOfC qual scope s.heap.objs.size f cd
 outer:=outer
 stack:=envOfC qual scope s.heap.objs.size f cd :: outer
 ex:=[]
 calm:=true
 fn:=fun _=>true
 pn:=[]
 xe:=fun e s'=>wpAny (model P w) (A.deeper (envOfC qual scope s.heap.objs.size f cd)) (leaving (envOfC qual scope s.heap.objs.size f cd) e) (fun _ s''=>CX outer H s E e s'') (fun e' s''=>CX outer H s E e' s'') s'
theorem jm9 {sc:Scope} {n:Nat} {x:Str} (h:sc.names.lookup x = some .cell):∃ c,(cellsFrom n sc.names []).lookup x = some c:=by
 have q:=PySem.W.cellsFrom_some sc.names n [] (.inl h)
 exact Option.isSome_iff_exists.mp q
theorem jp4 {CX:CXT} {P:Program} {w:World} {K:PySem.W.Frag} {mg:Str->Option Value} {base:Heap} {N ps:List Str} {qual:Str} {scope:Scope} {f:Addr} {cd:Value} {A:Around} {outer:List Env} {s s1:Shared} {H:Hp} {E:XK} {us:List Value} {vs:List V}
  (S:FnScope N ps scope) (hd:A.handled = none) (e0:Env0 P w K mg base A outer s H) (hl:vs.length = ps.length) (r:Vals vs us)
  (x:InCallC s s.heap.objs.size (bindL (envOfC qual scope s.heap.objs.size f cd).kindOf (ps.zip us) fun _=>none) (cellsFrom (s.heap.objs.size + 1) scope.names []) (bindC (envOfC qual scope s.heap.objs.size f cd).kindOf (ps.zip us) fun _=>none) s1) :
  Inv (cxOf CX P w K mg base N qual scope f cd A outer s H E) [] (jer N vs) H s1:=by
 have hpl:ps.length <= N.length:=by have:=congrArg List.length S.pre; rw [List.length_take] at this; omega
 obtain ⟨h1,tk,rfl,hk⟩:=x.done
 have noA:∀ b:Addr,b ∉ (cxOf CX P w K mg base N qual scope f cd A outer s H E).ex:=fun b z=>absurd (show b ∈ ([]:List Addr) from z) (by simp)
 refine ⟨⟨e0.mod,S.kind,rfl,rfl,Nat.le_refl _,fun y z c h1 h2=>?_,fun y hy=>?_,fun y c _ h=>?_,fun _=>hd,Around.frames_deeper e0.frames,.inr ⟨rfl,rfl⟩,fun b z=>absurd z (noA b),e0.bs,e0.bsz,fun b _ _=>noA b,fun b z=>absurd z (noA b),e0.funs,e0.frf⟩,
  rfl,e0.bare,Un.kept hk,⟨_,x.toInCall.ns,fun i y v h1 h2 h3=>?_⟩,fun y c h=>⟨_,x.cell y c h⟩,e0.hok.fresh (Nat.le_refl _),fun y c h=>?_,fun p hp=>absurd (show p ∈ ([]:List (Addr × Obj)) from hp) (by simp),e0.hok.kept hk,?_⟩
 ·exact name_of_addr x.apart (PySem.mem_of_lookup h1) (PySem.mem_of_lookup h2)
 ·have hy:scope.names.lookup y = some .cell \/ scope.names.lookup y = some .free:=hy
  rcases hy with hy | hy
  ·exact jm9 hy
  ·exact absurd rfl (S.nofree _ (PySem.mem_of_lookup hy))
 ·exact Nat.le_of_lt (x.above y c (PySem.mem_of_lookup h))
 ·have hi:i < vs.length:=by
   unfold jer at h2
   by_cases hi:i < vs.length
   ·exact hi
   ·rw [List.getElem?_append_right (by simpa using hi)] at h2
    rw [List.getElem?_replicate] at h2
    split at h2 <;> cases h2
  have ha:vs[i]? = some v:=by
   unfold jer at h2
   rw [List.getElem?_append_left (by simpa using hi),List.getElem?_map] at h2
   cases e:vs[i]? with
   | none=>rw [e] at h2; cases h2
   | some a=>rw [e] at h2; cases h2; rfl
  obtain ⟨u,hu,rv⟩:=r.get ha
  have hp:ps[i]? = some y:=by
   rw [<- S.pre,List.getElem?_take_of_lt (by omega)]; exact h1
  have ndP:ps.Nodup:=by rw [<- S.pre]; exact S.nd.sublist (List.take_sublist _ _)
  refine ⟨u,rv,?_⟩
  rcases S.par y (List.mem_of_getElem? hp) with k | k
  ·exact .inl ⟨k,jjy ndP hp hu k⟩
  ·obtain ⟨c,e⟩:=jm9 (n:=s.heap.objs.size + 1) k
   refine .inr ⟨.inl k,c,e,?_⟩
   have q:=x.cell y c e
   rw [jk0 ndP hp hu (by show scope.names.lookup y ≠ _; rw [k]; decide)] at q
   exact q
 ·exact e0.hok.fresh (Nat.le_of_lt (x.above y c (PySem.mem_of_lookup h)))
 ·unfold jer
  show _ = N.length
  rw [List.length_append,List.length_map,List.length_replicate]
  omega
theorem fn_of {CX:CXT} {P:Program} {w:World} {K:PySem.W.Frag} {mg:Str->Option Value} {base:Heap} {k:Nat} {f:Addr} {name qual:Str} {params:Arguments} {body:List Stmt} {scope:Scope} {dV kV doc pm cdv ct oc:Value} {an od:Option Addr}
  {osl:Array (Option Value)} {N ps:List Str} {sp:Sp} (lk:K.lookup f = some ⟨oc,od,.func (PySem.W.fnOf name qual params body scope dV kV doc pm an cdv ct),osl⟩) (hcd:PySem.W.codeIn K cdv qual = true) (S:FnScope N ps scope)
  (len:∀ vs H Q E,sp vs H Q E->vs.length = ps.length)
  (hbody:∀ (A:Around) (outer:List Env) (s:Shared) (H:Hp) (vs:List V) (Q:VK) (E:XK),Room k (A.deeper (envOfC qual scope s.heap.objs.size f cdv))->sp vs H Q E ->
   ∃ t,PSs (cxOf CX P w K mg base N qual scope f cdv A outer s H E) body t/\t { nx:=fun _ H'=>Q .non H',rt:=Q } (jer N vs) H) :
  FnOk P w K mg base CX (k + 1) f (PySem.W.fnOf name qual params body scope dV kV doc pm an cdv ct) ps sp:=by
 refine ⟨len,fun A outer s H args us vs Q E hr e0 hb r hsp=>?_⟩
 have hl:=len _ _ _ _ hsp
 have KX:K.In s.heap:=e0.mod.kin.keeps fun b o e=>(e0.bs b o e).1
 have lim:s.heap.NoLimit:=e0.mod.nolimit.keeps fun b o e=>(e0.bs b o e).1
 have hkind:∀ y ∈ ps.zip us,scope.names.lookup y.1 = some .local \/ (scope.names.lookup y.1 = some .cell/\((cellsFrom (s.heap.objs.size + 1) scope.names []).lookup y.1).isSome = true):=fun ⟨n,v⟩ hy=>by
  rcases S.par n (List.of_mem_zip hy).1 with q | q
  ·exact .inl q
  ·exact .inr ⟨q,PySem.W.cellsFrom_some _ _ _ (.inl q)⟩
 refine codeAny_call_function hr.depth (KX _ _ lk) rfl S.co S.gen rfl (PySem.W.codeRec_of KX hcd) (hb _ _ _ _ ?_)
 refine wpAny_newFunctionEnv_cells S.kind hkind fun env he s1 x=>?_
 subst he
 refine ⟨lim.keeps x.toInCall.keep,codeAny_func ?_⟩
 obtain ⟨t,ht,hq⟩:=hbody A outer s H vs Q E (hr.deeper _) hsp
 have I:Inv (cxOf CX P w K mg base N qual scope f cdv A outer s H E) [] (jer N vs) H s1:=jp4 S hr.hd e0 hl r x
 refine wpAny_mono (ht [] s1 (jer N vs) H _ I hq) (fun fl s' hs=>?_) fun e s' hs=>hs
 have fin:∀ {σ':St} {H':Hp} {v:V} {u:Value},Inv (cxOf CX P w K mg base N qual scope f cdv A outer s H E) [] σ' H' s'->RelV v u->Q v H'->CE outer P w H s Q u s' :=
  fun {σ' H' v u} J rv q=>⟨v,H',J.os,J.bare,J.base,J.hok,rv,q⟩
 cases fl with
 | ret u =>
  obtain ⟨v,σ',H',J,rv,q⟩:=hs
  exact fin J rv q
 | next =>
  obtain ⟨σ',H',J,q⟩:=hs
  exact fin (v:=V.non) (u:=Value.none) J rfl q
 | brk =>
  obtain ⟨_,_,_,q⟩:=hs
  exact False.elim q
 | cont =>
  obtain ⟨_,_,_,q⟩:=hs
  exact False.elim q
section
variable {X:Cx} {x:Str} {p pos:Pos} {e:Expr} {es:List Expr} {t:TA} {id T:String} {r:List V->Hp->VK->Prop}
def tCB (r:List V->Hp->VK->Prop) (t:TA):TE:=fun σ H Q=>t σ H fun vs H1=>r vs H1 Q
theorem jaf (hc:jck X (.builtin id) r) (hg:Gl X x) (hm:X.mg x = none) (hv:bootBuiltins x = some (.builtin id)) (ha:PA X (e :: es) t) (hn:x ≠ "__name__":=by decide) (hdb:(x == ("__debug__":Str)) = false:=by decide)
  (he:starEach (e :: es) X.env = (false,eval e X.env) :: starEach es X.env:=by rfl) (hpl:(backTo pos (starEach es X.env)).any (·.1) = false:=by rfl):PE X (.Call (.Name x p) (e :: es) [] pos) (tCB r t):=by
 intro pins s σ H Q I h
 refine wpAny_Call_Name_kw (jez I hg hm hv ?_ hn hdb)
 exact PyProof.Rows.callWith_builtin1 (thn (ha pos pins s σ H _ I h) fun us s1 ⟨vs,H1,I1,r1,q1⟩=>hc pins s1 σ H1 vs us Q I1 r1 q1) he hpl
theorem jbf (hc:jck X (.type T) r) (hg:Gl X x) (hm:X.mg x = none) (hv:bootBuiltins x = some (.type T)) (ha:PA X (e :: es) t) (hn:x ≠ "__name__":=by decide) (hdb:(x == ("__debug__":Str)) = false:=by decide)
  (he:starEach (e :: es) X.env = (false,eval e X.env) :: starEach es X.env:=by rfl) (hpl:(backTo pos (starEach es X.env)).any (·.1) = false:=by rfl):PE X (.Call (.Name x p) (e :: es) [] pos) (tCB r t):=by
 intro pins s σ H Q I h
 refine wpAny_Call_Name_kw (jez I hg hm hv ?_ hn hdb)
 exact PyProof.Rows.callWith_type1 (thn (ha pos pins s σ H _ I h) fun us s1 ⟨vs,H1,I1,r1,q1⟩=>hc pins s1 σ H1 vs us Q I1 r1 q1) he hpl
end
end L2
namespace HT
open PySem PyProof.Rows
def lexLt:List Int->List Int->Bool
 | [],[]=>false
 | [],_ :: _=>true
 | _ :: _,[]=>false
 | x :: xs,y :: ys=>if x = y then lexLt xs ys else decide (x < y)
theorem lexLt_cons (x y:Int) (xs ys:List Int):lexLt (x :: xs) (y :: ys) = if x = y then lexLt xs ys else decide (x < y):=rfl
theorem jhw:lexLt [] [] = false:=rfl
theorem jgj (y:Int) (ys:List Int):lexLt [] (y :: ys) = true:=rfl
theorem jgk (x:Int) (xs:List Int):lexLt (x :: xs) [] = false:=rfl
theorem jqn (A:Around) (s:Shared) (a:Int) (t:Tok) (c:Int) (u:Tok):∃ e,SeqAt.EqAt A s (.int a t) (.int c u) e/\(e = true ↔ a = c) :=
 ⟨(a == c),SeqAt.EqAt.int_int a t c u,by simp⟩
theorem jq8 (A:Around) (s:Shared) (a:Int) (t:Tok) (c:Int) (u:Tok) (prog:Program) (w:World) (E:Value->Shared->Prop) (Q:Value->Shared->Prop) (h:Q (.bool (decide (a < c))) s) :
  wpAny (model prog w) A (richCompare .Lt (.int a t) (.int c u)) Q E s :=
 (PyProof.Rows.lt_int h:wpAny (model prog w) A (compareOp .Lt (.int a t) (.int c u)) Q E s)
section
open PySem.SeqAt
open PySem.AutoSeq1 (wpAny_loadPart')
open PySem.MeetsSeq PySem.MeetsSeq2 PySem.MeetsSeq3
theorem jh9 (l b:Addr) (items items2:Array Value) (n n2:Nat) (dd dd2:Option Addr) (sl sl2:Array (Option Value)) (ns ms:List Int) (hi:IntsAre items.toList ns) (hj:IntsAre items2.toList ms) :
  Meets (Builtin.«tuple.__lt__» ⟨[.ref l,.ref b],[]⟩)
   (fun _ R s=>s.heap.get? l = some { cls:=.type "tuple",dict:=dd,data:=.seq items n,slots:=sl }/\s.heap.get? b = some { cls:=.type "tuple",dict:=dd2,data:=.seq items2 n2,slots:=sl2 } /\
    R (.ok (.ret (.bool (lexLt ns ms)))) s) :=
 .of_wp fun prog w A R s h=>by
  obtain ⟨hp,g,d,tk,os⟩:=s; obtain ⟨hl,hb,h⟩:=h
  have f2:=AutoSeq1.sub_tuple_tuple
  have z1:items.size = ns.length:=by rw [<- hi.length]; simp
  have z2:items2.size = ms.length:=by rw [<- hj.length]; simp
  wp_walk using wpAny_loadPart' hl,wpAny_loadPart' hb,wpAny_forIn_list _ (fun rest b s'=>b.1 = none/\s' = ⟨hp,g,d,tk,os⟩/\∃ (vs ws:List Value) (ns' ms':List Int),rest = vs.zip ws /\
   IntsAre vs ns'/\IntsAre ws ms'/\ns'.length + items2.size = ms'.length + items.size/\R (.ok (.ret (.bool (lexLt ns' ms')))) ⟨hp,g,d,tk,os⟩) _
  case turn =>
   rintro ⟨y,x⟩ rest b s' ⟨hb',rfl,vs,ws,ns',ms',hz,hvi,hwi,hlen,hR⟩
   cases hvi with
   | nil=>rw [List.zip_nil_left] at hz; cases hz
   | cons a t hvi' =>
    cases hwi with
    | nil=>rw [List.zip_nil_right] at hz; cases hz
    | cons c u hwi' =>
     rw [List.zip_cons_cons] at hz
     injection hz with hyx hrest
     injection hyx with hy hx
     subst hy hx
     rw [lexLt_cons] at hR
     simp only [List.length_cons] at hlen
     obtain ⟨e,he,hiff⟩:=jqn A.in1 ⟨hp,g,d,tk,os⟩ a t c u
     refine wpAny_bind (he prog w _ _ ?_)
     cases e with
     | true =>
      rw [if_pos (hiff.mp rfl)] at hR
      wp_walk
      exact ⟨rfl,rfl,_,_,_,_,hrest,hvi',hwi',by omega,hR⟩
     | false =>
      rw [if_neg (fun q=>absurd (hiff.mpr q) Bool.false_ne_true)] at hR
      have hri:=jq8 A.in1 ⟨hp,g,d,tk,os⟩ a t c u prog w
      wp_walk using hri
      exact ⟨_,rfl,by simpa using hR⟩
  case fin =>
   rintro ⟨b1,b2⟩ s' ⟨hb',rfl,vs,ws,ns',ms',hz,hvi,hwi,hlen,hR⟩
   simp only at hb'
   subst hb'
   have hv:lexLt ns' ms' = decide (items.size < items2.size):=by
    cases hvi with
    | nil =>
     cases hwi with
     | nil =>
      simp only [List.length_nil] at hlen
      rw [jhw]
      exact (decide_eq_false (by omega)).symm
     | cons c u hw =>
      simp only [List.length_nil,List.length_cons] at hlen
      rw [jgj]
      exact (decide_eq_true (by omega)).symm
    | cons a t hv =>
     cases hwi with
     | nil =>
      simp only [List.length_nil,List.length_cons] at hlen
      rw [jgk]
      exact (decide_eq_false (by omega)).symm
     | cons c u hw =>
      rw [List.zip_cons_cons] at hz
      cases hz
   rw [hv] at hR
   wp_walk
   exact ⟨_,rfl,by simpa [Builtin.Tuple.tupleCompareSizes] using hR⟩
  case h =>
   exact ⟨rfl,rfl,items.toList,items2.toList,ns,ms,rfl,hi,hj,by omega,h⟩
end
section
variable {prog:Program} {w:World} {A:Around} {E:Value->Shared->Prop} {s:Shared}
theorem lt_tupInts {l b:Addr} {items items2:Array Value} {ns ms:List Int} {Q:Value->Shared->Prop} (hl:IsTup s.heap l items) (hb:IsTup s.heap b items2) (hi:IntsAre items.toList ns) (hj:IntsAre items2.toList ms)
  (hu:A.units < cLine) (h:Q (.bool (lexLt ns ms)) s):wpAny (model prog w) A (compareOp .Lt (.ref l) (.ref b)) Q E s:=by
 obtain ⟨⟨cls,dd,data,sl⟩,ho,hc,n,hd⟩:=id hl
 obtain ⟨⟨cls2,dd2,data2,sl2⟩,ho2,hc2,n2,hd2⟩:=id hb
 simp only at hc hd hc2 hd2
 subst hc hd hc2 hd2
 exact richCompare_meets_room (op:=.Lt) ⟨_,ho,rfl⟩ ⟨_,ho2,rfl⟩ PySem.F.slot_tuple_lt PySem.F.entry_tuple_lt (PySem.F.args_tuple_lt_2 _ _) (jh9 l b items items2 n n2 dd dd2 sl sl2 ns ms hi hj)
  ⟨ho,ho2,show Value.bool (lexLt ns ms) ≠ Value.notImplemented/\Q (.bool (lexLt ns ms)) s from ⟨(fun x=>nomatch x),h⟩⟩ hu
def sIx (n d:Nat):Option Int->Nat
 | none=>d
 | some v=>if v < 0 then (v + (n:Int)).toNat else min v.toNat n
theorem sIx_le (n d:Nat) (hd:d <= n) (o:Option Int):sIx n d o <= n:=by
 cases o with
 | none=>exact hd
 | some v =>
  show (if v < 0 then (v + (n:Int)).toNat else min v.toNat n) <= n
  by_cases hv:v < 0
  ·rw [if_pos hv]; omega
  ·rw [if_neg hv]; exact Nat.min_le_right _ _
theorem jpi (v:Int) (n d:Nat):(if v < 0 then max (v + (n:Int)) 0 else min v (n:Int)) = ((sIx n d (some v):Nat):Int):=by
 show (if v < 0 then max (v + (n:Int)) 0 else min v (n:Int)) = (((if v < 0 then (v + (n:Int)).toNat else min v.toNat n):Nat):Int)
 by_cases hv:v < 0
 ·simp only [if_pos hv]; omega
 ·simp only [if_neg hv]; omega
theorem jn7 (lo hi:Option Int) (n:Nat):Builtin.Slice.sliceAdjust lo hi 1 (n:Int) = (((sIx n 0 lo:Nat):Int),((sIx n n hi:Nat):Int)):=by
 have h1:¬ ((1:Int) < 0):=by omega
 unfold Builtin.Slice.sliceAdjust
 simp only [h1,if_false]
 refine Prod.ext ?_ ?_
 ·cases lo with
  | none=>rfl
  | some v=>exact jpi v n 0
 ·cases hi with
  | none=>rfl
  | some v=>exact jpi v n n
theorem jmn (i j:Nat):Builtin.Slice.slicePlaces (i:Int) (j:Int) 1 = j - i:=by
 unfold Builtin.Slice.slicePlaces
 have h1:(1:Int) > 0:=by omega
 simp only [h1,if_true,Int.ediv_one]
 split <;> omega
theorem jgq {v:Value} {o:Option Int} {Q:Option Int->Shared->Prop} (p:IsPart v o) (h:Q o s):wpAny (model prog w) A (Builtin.Slice.slicePartIndex v) Q E s:=by
 cases p with
 | none=>exact slicePart_none h
 | int i t=>exact slicePart_int h
theorem jf2 {sl:Addr} {vl vu:Value} {lo hi:Option Int} {n:Nat} {Q:Int × Int × Nat->Shared->Prop} (hs:s.heap.IsSliceOf sl vl vu .none) (pl:IsPart vl lo) (pu:IsPart vu hi)
  (h:Q (((sIx n 0 lo:Nat):Int),1,sIx n n hi - sIx n 0 lo) s):wpAny (model prog w) A (Builtin.Slice.sliceApplied (.ref sl) (pure (n:Int))) Q E s:=by
 obtain ⟨os,hos,hcs,hds⟩:=id hs
 unfold Builtin.Slice.sliceApplied Builtin.Slice.sliceFields
 refine wpAny_bind (wpAny_bind (wpAny_field hos hds (x:=vl) rfl (wpAny_bind (wpAny_field hos hds (x:=vu) rfl (wpAny_bind (wpAny_field hos hds (x:=.none) rfl (wpAny_pure ?_)))))))
 refine wpAny_bind (slicePart_none ?_)
 show wpAny _ _ (if ((1:Int) == 0) = true then _ else _) _ _ s
 rw [if_neg (by decide)]
 refine wpAny_bind (jgq pl (wpAny_bind (jgq pu (wpAny_bind (wpAny_pure ?_)))))
 show wpAny _ _ (match Builtin.Slice.sliceAdjust lo hi 1 (n:Int) with | (lo,hi)=>pure (lo,(1:Int),Builtin.Slice.slicePlaces lo hi 1)) _ _ s
 rw [jn7 lo hi n]
 show wpAny _ _ (pure (((sIx n 0 lo:Nat):Int),(1:Int),Builtin.Slice.slicePlaces ((sIx n 0 lo:Nat):Int) ((sIx n n hi:Nat):Int) 1)) _ _ s
 rw [jmn]
 exact wpAny_pure h
theorem jqc (xs:Array Value) (i k:Nat):((List.range k).filterMap fun (m:Nat)=>xs[((i:Int) + (m:Int) * 1).toNat]?).toArray = ((xs.toList.drop i).take k).toArray:=by
 have e:(fun (m:Nat)=>xs[((i:Int) + (m:Int) * 1).toNat]?) = fun m=>xs[i + m]?:=by
  funext m
  have:((i:Int) + (m:Int) * 1).toNat = i + m:=by omega
  rw [this]
 rw [e]
 have:=pick_run xs i k
 rw [List.filterMap_map] at this
 have e2:((fun x=>xs[x]?) ∘ fun x=>i + x) = fun m=>xs[i + m]?:=rfl
 rw [e2] at this
 rw [this]
theorem getItem_tuple_cut {t sl:Addr} {items:Array Value} {vl vu:Value} {lo hi:Option Int} {Q:Value->Shared->Prop} (ht:IsTup s.heap t items) (hs:s.heap.IsSliceOf sl vl vu .none) (pl:IsPart vl lo) (pu:IsPart vu hi)
  (hw:¬ (sIx items.size 0 lo = 0/\sIx items.size items.size hi = items.size))
  (h:Q (.ref s.heap.objs.size) { s with heap:=s.heap.push { cls:=.type "tuple",data:=.seq ((items.toList.drop (sIx items.size 0 lo)).take (sIx items.size items.size hi - sIx items.size 0 lo)).toArray } })
  (hsz:items.size <= sizeLine):wpAny (model prog w) A (getItem (.ref t) (.ref sl)) Q E s:=by
 have htake:sizeOk (.seq ((items.toList.drop (sIx items.size 0 lo)).take (sIx items.size items.size hi - sIx items.size 0 lo)).toArray):=by
  show ((items.toList.drop (sIx items.size 0 lo)).take (sIx items.size items.size hi - sIx items.size 0 lo)).toArray.size <= sizeLine
  rw [List.size_toArray,List.length_take,List.length_drop,Array.length_toList]
  omega
 have hj:sIx items.size items.size hi <= items.size:=sIx_le _ _ (Nat.le_refl _) hi
 obtain ⟨os,hos,hcs,hds⟩:=id hs
 have hTs:s.TypeIs (.ref sl) "slice":=⟨os,hos,hcs⟩
 unfold getItem
 try with_reducible refine wpAny_holding ?_
 first | refine wpAny_bind (wpAny_pure ?_) | skip
 refine wpAny_bind (wpAny_sequenceKey ht.typeIs (by decide) ?_)
 refine wpAny_bind (wpAny_callSpecial?_slot (name:=Str.ofString "__getitem__") ht.typeIs PyProof.Rows.slot_tuple_getitem
  (wpAny_call_entry PyProof.Rows.slot_tuple_getitem ht.typeIs entry_tuple_getitem ?_ (args_tuple_getitem _ _)))
 show wpAny _ _ (Builtin.Tuple.tupleItemsOf (.ref t) >>= _) _ _ s
 refine wpAny_bind (tupleItemsOf_ ht ?_)
 refine wpAny_bind (wpAny_typeOf hTs ?_)
 rw [if_pos (by decide)]
 refine wpAny_bind (jf2 hs pl pu ?_)
 have hno:¬ ((((sIx items.size 0 lo:Nat):Int) == 0 && (1:Int) == 1 && (sIx items.size items.size hi - sIx items.size 0 lo) == items.size) = true):=by
  intro q
  rw [Bool.and_eq_true,Bool.and_eq_true] at q
  have q1:((sIx items.size 0 lo:Nat):Int) = 0:=eq_of_beq q.1.1
  have q2:sIx items.size items.size hi - sIx items.size 0 lo = items.size:=eq_of_beq q.2
  exact hw ⟨by omega,by omega⟩
 show wpAny _ _ (if (((sIx items.size 0 lo:Nat):Int) == 0 && (1:Int) == 1 && (sIx items.size items.size hi - sIx items.size 0 lo) == items.size) = true then _ else _) _ _ s
 rw [if_neg hno,jqc]
 first
  | exact wpAny_bind (m:=Builtin.Tuple.tupleExact _) (wpAny_newObj_type (wpAny_pure ⟨_,rfl,wpAny_pure h⟩) htake)
  | exact wpAny_bind (m:=Builtin.Tuple.tupleExact _) (wpAny_newObj_type (wpAny_bind (wpAny_pure (wpAny_pure ⟨_,rfl,wpAny_pure h⟩))) htake)
  | exact wpAny_bind (wpAny_bind (m:=Builtin.Tuple.tupleExact _) (wpAny_newObj_type (wpAny_pure (wpAny_pure ⟨_,rfl,wpAny_pure h⟩)) htake))
  | exact wpAny_bind (wpAny_bind (m:=Builtin.Tuple.tupleExact _) (wpAny_newObj_type (wpAny_pure ⟨_,rfl,wpAny_pure h⟩) htake))
end
end HT
namespace L2
open PySem PySem.Spec PyProof.Rows
abbrev TO:=St->Hp->(Option Int->Hp->Prop)->Prop
def PO (X:Cx) (e:Option Expr) (t:TO):Prop :=
 ∀ (pins:List (Addr × Obj)) (s:Shared) (σ:St) (H:Hp) (Q:Option Int->Hp->Prop),Inv X pins σ H s->t σ H Q ->
  wpAny (model X.prog X.w) X.A (evalPart e X.env) (fun u s'=>∃ o H',Inv X pins σ H' s'/\IsPart u o/\Q o H') X.xe s
def jeo:TO:=fun _ H Q=>Q none H
theorem jd7 {ns:List Int}:∀ {us:List Value},Vals (ns.map V.int) us->IntsAre us ns:=by
 induction ns with
 | nil=>intro us r; rw [List.map_nil] at r; cases r; exact .nil
 | cons n ns ih =>
  intro us r
  rw [List.map_cons] at r
  cases r with
  | cons r1 r2 =>
   obtain ⟨t,e⟩:=r1
   subst e
   exact .cons n t (ih r2)
section
variable {X:Cx} {e:Expr} {te:TE} {lo hi:Option Expr} {tl th:TO} {pos p2:Pos}
theorem jd2:PO X none jeo:=by
 intro pins s σ H Q I h
 rw [evalPart_none]
 exact wpAny_pure ⟨none,H,I,.none,h⟩
def SlR (X:Cx) (r:V->Option Int->Option Int->Hp->VK->Prop):Prop :=
 ∀ (pins:List (Addr × Obj)) (s:Shared) (σ:St) (H:Hp) (x:V) (v vl vu:Value) (lo hi:Option Int) (sl:Addr) (Q:VK),Inv X pins σ H s->RelV x v->s.heap.IsSliceOf sl vl vu .none->IsPart vl lo->IsPart vu hi->r x lo hi H Q ->
  ∃ T id,typeLookup (.type T) "__getitem__" = pure (some (.builtin id))/\s.TypeIs v T/\wpAny (model X.prog X.w) X.A (getItem v (.ref sl)) (EP X pins σ Q) X.xe s
def tSl (r:V->Option Int->Option Int->Hp->VK->Prop) (te:TE) (tl th:TO):TE:=fun σ H Q=>te σ H fun x H1=>tl σ H1 fun l H2=>th σ H2 fun u H3=>r x l u H3 Q
theorem jc3 {r:V->Option Int->Option Int->Hp->VK->Prop} (hr:SlR X r) (he:PE X e te) (hl:PO X lo tl) (hu:PO X hi th):PE X (.Subscript e (.Slice lo hi none p2) pos) (tSl r te tl th):=by
 intro pins s σ H Q I h
 refine Subscript_ (thn (he pins s σ H _ I h) fun v s1 ⟨x,H1,I1,r1,q1⟩=>?_)
 refine wpAny_Slice (thn (hl pins s1 σ H1 _ I1 q1) fun vl s2 ⟨l,H2,I2,pl,q2⟩=>thn (hu pins s2 σ H2 _ I2 q2) fun vu s3 ⟨u,H3,I3,pu,q3⟩=>?_)
 rw [evalPart_none]
 refine wpAny_pure ?_
 have I4:Inv X pins σ H3 { s3 with heap:=s3.heap.push { cls:=.type "slice",data:=.fields #[vl,vu,.none] } }:=I3.kept (t':=s3.toks) fun b ob q=>Heap.get?_push_of_some _ q
 obtain ⟨T,id,hT,ht,hg⟩:=hr pins { s3 with heap:=s3.heap.push { cls:=.type "slice",data:=.fields #[vl,vu,.none] } } σ H3 x v vl vu l u s3.heap.objs.size Q I4 r1 (Heap.IsSliceOf.new ..) pl pu q3
 show wpAny (model X.prog X.w) X.A (subscriptTail e (.Slice lo hi none p2) v (.ref s3.heap.objs.size)) (EP X pins σ Q) X.xe { s3 with heap:=s3.heap.push { cls:=.type "slice",data:=.fields #[vl,vu,.none] } }
 exact tail_any (ops:=[.ref s3.heap.objs.size,v]) ht hT hg (by with_unfolding_all rfl)
def cutV (xs:List V) (lo hi:Option Int):List V:=(xs.drop (HT.sIx xs.length 0 lo)).take (HT.sIx xs.length xs.length hi - HT.sIx xs.length 0 lo)
theorem jg6 (xs:List V) (lo hi:Option Int):(cutV xs lo hi).length <= xs.length:=by
 unfold cutV
 rw [List.length_take,List.length_drop]
 omega
def rSlT (K:PySem.W.Frag):V->Option Int->Option Int->Hp->VK->Prop:=fun x lo hi H Q=>∃ a xs,x = .ref a/\SqT K H a xs /\
 ¬ (HT.sIx xs.length 0 lo = 0/\HT.sIx xs.length xs.length hi = xs.length)/\∀ p,H p = none->Q (.ref p) (upd H p (.tup (cutV xs lo hi)))
theorem sl_tup:SlR X (rSlT X.K):=by
 intro pins s σ H x v vl vu lo hi sl Q I rx hs pl pu h
 obtain ⟨a,xs,rfl,hx,hw,q⟩:=h
 cases rx
 obtain ⟨its,r,ht,hz⟩:=I.tuple hx
 have hlen:its.toArray.size = xs.length:=by rw [List.size_toArray]; exact r.length.symm
 refine ⟨"tuple",_,PyProof.Rows.slot_tuple_getitem.lookup,ht.typeIs,?_⟩
 refine HT.getItem_tuple_cut ht hs pl pu (by rw [hlen]; exact hw) ?_ (by rw [hlen]; exact hz)
 rw [hlen]
 refine ⟨.ref s.heap.objs.size,_,I.laid (t':=s.toks) (o:=.tup (cutV xs lo hi)) (fun b ob q=>Heap.get?_push_of_some _ q) (Nat.le_refl _) ?_,rfl,q _ (I.hok.fresh (Nat.le_refl _))⟩
 exact ⟨Nat.le_trans (jg6 xs lo hi) hz,_,(r.drop (HT.sIx xs.length 0 lo)).take (HT.sIx xs.length xs.length hi - HT.sIx xs.length 0 lo),IsTup.new _ _⟩
def rLtT (K:PySem.W.Frag):R2:=fun x y H Q=>∃ a b ns ms,x = .ref a/\y = .ref b/\SqT K H a (ns.map V.int)/\SqT K H b (ms.map V.int)/\Q (.bl (HT.lexLt ns ms)) H
theorem op_ltT (hu:X.A.units < cLine):OpR X (compareOp .Lt) (rLtT X.K):=by
 intro pins s σ H x y v u Q I rx ry h
 obtain ⟨a,b,ns,ms,rfl,rfl,ha,hb,q⟩:=h
 cases rx
 cases ry
 obtain ⟨its,r1,p1,_⟩:=I.tuple ha
 obtain ⟨its2,r2,p2,_⟩:=I.tuple hb
 have i1:IntsAre its.toArray.toList ns:=jd7 r1
 have i2:IntsAre its2.toArray.toList ms:=jd7 r2
 exact HT.lt_tupInts p1 p2 i1 i2 hu ⟨.bl (HT.lexLt ns ms),H,I,rfl,q⟩
end
def ixN (n:Nat) (i:Int):Option Nat:=if 0 <= i then (if i < n then some i.toNat else none) else if -(n:Int) <= i then some (i + n).toNat else none
def atI {α:Type} (xs:List α) (i:Int):Option α:=(ixN xs.length i).bind fun j=>xs[j]?
theorem jp2 {n:Nat} {i:Int} {j:Nat} (h:ixN n i = some j):seqIndex? i n = some j/\j < n/\-(n:Int) <= i/\i < n:=by
 unfold ixN at h
 by_cases h0:0 <= i
 ·rw [if_pos h0] at h
  by_cases h1:i < n
  ·rw [if_pos h1] at h
   have e:i.toNat = j:=Option.some.inj h
   exact ⟨by rw [seqIndex_of h0 h1,e],by omega,by omega,h1⟩
  ·rw [if_neg h1] at h; cases h
 ·rw [if_neg h0] at h
  by_cases h1:-(n:Int) <= i
  ·rw [if_pos h1] at h
   have e:(i + n).toNat = j:=Option.some.inj h
   exact ⟨by rw [seqIndex_neg (by omega) h1,e],by omega,h1,by omega⟩
  ·rw [if_neg h1] at h; cases h
theorem jpo {α:Type} {xs:List α} {i:Int} {v:α} (h:atI xs i = some v):∃ j,seqIndex? i xs.length = some j/\xs[j]? = some v/\j < xs.length/\-(xs.length:Int) <= i/\i < xs.length:=by
 unfold atI at h
 cases e:ixN xs.length i with
 | none=>rw [e] at h; cases h
 | some j =>
  rw [e] at h
  obtain ⟨h1,h2,h3,h4⟩:=jp2 e
  exact ⟨j,h1,h,h2,h3,h4⟩
theorem jcp {α:Type} {xs:List α} {j:Nat} {v:α} (h:xs[j]? = some v):atI xs (j:Int) = some v:=by
 have hj:j < xs.length:=(List.getElem?_eq_some_iff.mp h).1
 have e:ixN xs.length (j:Int) = some j:=by
  unfold ixN
  rw [if_pos (by omega),if_pos (by omega)]; simp
 unfold atI; rw [e]; exact h
def jso (b:Expr):Prop:=∀ o i,subscripted b false o i = operate [o,i] (getItem o i)
def IxR (X:Cx) (r:R2):Prop :=
 ∀ (value slice:Expr) (pins:List (Addr × Obj)) (s:Shared) (σ:St) (H:Hp) (x y:V) (v u:Value) (Q:VK),Inv X pins σ H s->RelV x v->RelV y u->r x y H Q ->
  subscripted slice false v u = operate [v,u] (getItem v u)->wpAny (model X.prog X.w) X.A (subscriptTail value slice v u) (EP X pins σ Q) X.xe s
def MtR (X:Cx) (id:String) (r:V->List V->Hp->VK->Prop):Prop :=
 ∀ (pins:List (Addr × Obj)) (s:Shared) (σ:St) (H:Hp) (x:V) (xs:List V) (v:Value) (us:List Value) (Q:VK),Inv X pins σ H s->RelV x v->Vals xs us->r x xs H Q ->
  wpAny (model X.prog X.w) X.A (call (.builtin id) (v :: us)) (EP X pins σ Q) X.xe s
section
variable {X:Cx} {a b:Expr} {ta tb:TE} {pos:Pos}
theorem IxR.or {r r':R2} (h:IxR X r) (h':IxR X r'):IxR X (fun x y H Q=>r x y H Q \/ r' x y H Q):=by
 intro value slice pins s σ H x y v u Q I rx ry q hs
 rcases q with q | q
 ·exact h value slice pins s σ H x y v u Q I rx ry q hs
 ·exact h' value slice pins s σ H x y v u Q I rx ry q hs
theorem jam {r:R2} (hr:IxR X r) (ha:PE X a ta) (hb:PE X b tb) (hs:jso b):PE X (.Subscript a b pos) (tOp r ta tb):=by
 intro pins s σ H Q I h
 exact Subscript_ (binT ha hb I h fun v u s2 x y H2 I2 rx ry q=>hr a b pins s2 σ H2 x y v u Q I2 rx ry q (hs _ _))
def rIxL (K:PySem.W.Frag):R2:=fun x y H Q=>∃ p xs i v,x = .ref p/\y = .int i/\SqL K H p xs/\atI xs i = some v/\Q v H
def rIxT (K:PySem.W.Frag):R2:=fun x y H Q=>∃ p xs i v,x = .ref p/\y = .int i/\SqT K H p xs/\atI xs i = some v/\Q v H
theorem jp1:IxR X (rIxL X.K):=by
 intro value slice pins s σ H x y v u Q I rx ry h hs
 obtain ⟨p,xs,i,z,rfl,rfl,hq,he,q⟩:=h
 cases rx
 obtain ⟨t,rfl⟩:=ry
 obtain ⟨its,r,pl,hz⟩:=I.list hq
 obtain ⟨j,h1,h2,h3,h4,h5⟩:=jpo he
 obtain ⟨w,ew,rw'⟩:=r.get h2
 have hl:=r.length
 have hn:=jgy
 have fin:EP X pins σ Q w s:=⟨z,H,I,rw',q⟩
 by_cases h0:0 <= i
 ·have hj:i.toNat = j:=by
   rw [seqIndex_of h0 h5] at h1
   exact Option.some.inj h1
  exact item_listR pl.isList h0 (by omega) (by rw [hj]; simpa using ew) fin hs
 ·have hj:(i + (its.toArray.size:Int)).toNat = j:=by
   rw [seqIndex_neg (by omega) h4] at h1
   rw [List.size_toArray,<- hl]
   exact Option.some.inj h1
  exact subscriptTail_builtinR (x:=w) pl.isList.typeIs slot_list_getitem.lookup
   (wpAny_getItem_list_neg (Q:=fun r s'=>r = w/\EP X pins σ Q r s') pl.isList (by omega) (by rw [List.size_toArray] <;> omega) (by omega) (by rw [hj]; simpa using ew) ⟨rfl,fin⟩) hs
theorem ix_tup:IxR X (rIxT X.K):=by
 intro value slice pins s σ H x y v u Q I rx ry h hs
 obtain ⟨p,xs,i,z,rfl,rfl,hq,he,q⟩:=h
 cases rx
 obtain ⟨t,rfl⟩:=ry
 obtain ⟨its,r,pl,hz⟩:=I.tuple hq
 obtain ⟨j,h1,h2,h3,h4,h5⟩:=jpo he
 obtain ⟨w,ew,rw'⟩:=r.get h2
 have hl:=r.length
 have hn:=jgy
 have fin:EP X pins σ Q w s:=⟨z,H,I,rw',q⟩
 exact subscriptTail_builtinR (x:=w) pl.typeIs slot_tuple_getitem.lookup
  (getItem_tuple (j:=j) (Q:=fun r s'=>r = w/\EP X pins σ Q r s') pl (by omega) (by omega) (by rw [List.size_toArray,<- hl]; exact h1) (by simpa using ew) ⟨rfl,fin⟩) hs
theorem jmx (its:List Value) (n j:Nat) (u:Value):Obj.mapSeq (·.setIfInBounds j u) { cls:=.type "list",data:=.seq its.toArray n } = { cls:=.type "list",data:=.seq (its.set j u).toArray n }:=by
 simp [Obj.mapSeq]
theorem Inv.lst {pins:List (Addr × Obj)} {σ:St} {H:Hp} {s:Shared} {p:Addr} {xs:List V} (I:Inv X pins σ H s) (h:H p = some (.lst xs)) :
  ∃ (its:List Value) (n:Nat),Vals xs its/\s.heap.get? p = some { cls:=.type "list",data:=.seq its.toArray n }/\xs.length <= sizeLine:=by
 obtain ⟨z,its,n,r,e⟩:=I.hok p _ h
 exact ⟨its,n,r,e,z⟩
theorem Inv.lstUpd {pins:List (Addr × Obj)} {σ:St} {H:Hp} {s:Shared} {p:Addr} {xs ys:List V} {its its':List Value} {n n':Nat} {f:Obj->Obj} (I:Inv X pins σ H s) (h:H p = some (.lst xs))
  (ho:s.heap.get? p = some { cls:=.type "list",data:=.seq its.toArray n }) (hf:f { cls:=.type "list",data:=.seq its.toArray n } = { cls:=.type "list",data:=.seq its'.toArray n' }) (r:Vals ys its') (hz:ys.length <= sizeLine) (t:Nat) :
  Inv X pins σ (upd H p (.lst ys)) { s with heap:=s.heap.update p f,toks:=t }:=by
 have e:(s.heap.update p f).get? p = some { cls:=.type "list",data:=.seq its'.toArray n' }:=by
  rw [Heap.get?_update_self f ho (by rw [hf] <;> rfl),hf]
 refine I.write (x:=p) (e:=p) (by rw [h]; trivial) (.inl rfl) (fun b u hb q=>(Heap.get?_update_other _ _ (Ne.symm hb)).trans q) ⟨_,e⟩ ?_
 exact ⟨hz,its',n',r,e⟩
def rSetL:V->V->V->Hp->(Hp->Prop)->Prop:=fun o i v H Q=>∃ p xs k j,o = .ref p/\i = .int k/\H p = some (.lst xs)/\ixN xs.length k = some j/\Q (upd H p (.lst (xs.set j v)))
theorem jq4:PSet X rSetL:=by
 intro pins s σ H o i v ov iv u Q I ro ri rv h
 obtain ⟨p,xs,k,j,rfl,rfl,hp,hj,q⟩:=h
 cases ro
 obtain ⟨t,rfl⟩:=ri
 obtain ⟨its,n,r,ho,hz⟩:=I.lst hp
 obtain ⟨h1,h2,h3,h4⟩:=jp2 hj
 have hl:=r.length
 have hn:=jgy
 have I':Inv X pins σ (upd H p (.lst (xs.set j v))) { s with heap:=s.heap.update p (Obj.mapSeq (·.setIfInBounds j u)) } :=
  I.lstUpd hp ho (jmx its n j u) (r.set rv j) (by rw [List.length_set]; exact hz) s.toks
 by_cases h0:0 <= k
 ·have hk:k.toNat = j:=by
   rw [seqIndex_of h0 h4] at h1
   exact Option.some.inj h1
  exact PySem.W.ki_setAt ho h0 (by omega) (by rw [List.size_toArray,<- hl]; exact h4) (by rw [hk]; exact ⟨_,I',q⟩)
 ·have hk:(k + (its.toArray.size:Int)).toNat = j:=by
   rw [seqIndex_neg (by omega) h3] at h1
   rw [List.size_toArray,<- hl]
   exact Option.some.inj h1
  exact PySem.W.ki_setBack ho (by omega) (by rw [List.size_toArray,<- hl]; exact h3) (by omega) (by rw [hk]; exact ⟨_,I',q⟩)
theorem jis (lo hi:Option Int) (n:Nat):(sliceBounds lo hi none n).1 = ((HT.sIx n 0 lo:Nat):Int)/\(sliceBounds lo hi none n).2.1 = ((HT.sIx n n hi:Nat):Int)/\(sliceBounds lo hi none n).2.2 = 1:=by
 refine ⟨?_,?_,rfl⟩
 ·cases lo with
  | none=>simp [sliceBounds,HT.sIx]
  | some i =>
   simp only [sliceBounds,HT.sIx,Option.getD_none,show (1:Int) > 0 by decide,if_true]
   by_cases h:i < 0
   ·simp only [h,if_true] <;> omega
   ·simp only [h,if_false] <;> omega
 ·cases hi with
  | none=>simp [sliceBounds,HT.sIx]
  | some i =>
   simp only [sliceBounds,HT.sIx,Option.getD_none,show (1:Int) > 0 by decide,if_true]
   by_cases h:i < 0
   ·simp only [h,if_true] <;> omega
   ·simp only [h,if_false] <;> omega
theorem jhf (its:List Value) (lo hi:Option Int):slicePick its.toArray lo hi none = ((its.drop (HT.sIx its.length 0 lo)).take (HT.sIx its.length its.length hi - HT.sIx its.length 0 lo)).toArray:=by
 obtain ⟨h1,h2,h3⟩:=jis lo hi its.toArray.size
 unfold slicePick
 rw [h1,h2,h3]
 simp only [sliceRange_one,pick_run,List.size_toArray] <;> rfl
def rSlL (K:PySem.W.Frag):V->Option Int->Option Int->Hp->VK->Prop:=fun x lo hi H Q=>∃ a xs,x = .ref a/\SqL K H a xs/\∀ p,H p = none->Q (.ref p) (upd H p (.lst (cutV xs lo hi)))
theorem jrz:SlR X (rSlL X.K):=by
 intro pins s σ H x v vl vu lo hi sl Q I rx hs pl pu h
 obtain ⟨a,xs,rfl,hx,q⟩:=h
 cases rx
 obtain ⟨its,r,ht,hz⟩:=I.list hx
 have hlen:=r.length
 refine ⟨"list",_,slot_list_getitem.lookup,ht.isList.typeIs,?_⟩
 refine wpAny_getItem_list_slice ht.isList hs pl pu .none (by simp) ?_ (by rw [List.size_toArray] <;> omega)
 rw [jhf,<- hlen]
 refine ⟨.ref s.heap.objs.size,_,I.laid (t':=s.toks) (o:=.lst (cutV xs lo hi)) (fun b ob q=>Heap.get?_push_of_some _ q) (Nat.le_refl _) ?_,rfl,q _ (I.hok.fresh (Nat.le_refl _))⟩
 exact ⟨Nat.le_trans (jg6 xs lo hi) hz,_,0,(r.drop (HT.sIx xs.length 0 lo)).take (HT.sIx xs.length xs.length hi - HT.sIx xs.length 0 lo),Heap.get?_push_size _ rfl⟩
def jcg:V->Bool
 | .non=>true
 | .bl _=>true
 | .int _=>true
 | .str _=>true
 | _=>false
def eqV:V->V->Bool
 | .non,.non=>true
 | .bl a,.bl b=>a == b
 | .bl a,.int b=>(if a then 1 else 0) == b
 | .int a,.bl b=>a == (if b then 1 else 0)
 | .int a,.int b=>a == b
 | .str a,.str b=>a == b
 | _,_=>false
theorem jrs {A:Around} {s:Shared} {y x:V} {u v:Value} (ry:RelV y u) (rx:RelV x v) (fy:jcg y = true) (fx:jcg x = true):SeqAt.EqAt A s u v (eqV y x):=by
 cases y with
 | non =>
  cases ry
  cases x with
  | non=>cases rx; exact SeqAt.EqAt.same _
  | bl b=>cases rx; exact SeqAt.EqAt.none_bool b
  | int b=>obtain ⟨t,rfl⟩:=rx; exact SeqAt.EqAt.none_int b t
  | str b=>obtain ⟨t,rfl⟩:=rx; exact SeqAt.EqAt.none_str b t
  | _=>exact absurd (show false = true from fx) Bool.false_ne_true
 | bl a =>
  cases ry
  cases x with
  | non=>cases rx; exact SeqAt.EqAt.bool_none a
  | bl b=>cases rx; exact SeqAt.EqAt.bool_bool a b
  | int b=>obtain ⟨t,rfl⟩:=rx; exact SeqAt.EqAt.bool_int a b t
  | str b=>obtain ⟨t,rfl⟩:=rx; exact SeqAt.EqAt.bool_str a b t
  | _=>exact absurd (show false = true from fx) Bool.false_ne_true
 | int a =>
  obtain ⟨t',rfl⟩:=ry
  cases x with
  | non=>cases rx; exact SeqAt.EqAt.int_none a t'
  | bl b=>cases rx; exact SeqAt.EqAt.int_bool a t' b
  | int b=>obtain ⟨t,rfl⟩:=rx; exact SeqAt.EqAt.int_int a t' b t
  | str b=>obtain ⟨t,rfl⟩:=rx; exact SeqAt.EqAt.int_str a t' b t
  | _=>exact absurd (show false = true from fx) Bool.false_ne_true
 | str a =>
  obtain ⟨t',rfl⟩:=ry
  cases x with
  | non=>cases rx; exact SeqAt.EqAt.str_none a t'
  | bl b=>cases rx; exact SeqAt.EqAt.str_bool a t' b
  | int b=>obtain ⟨t,rfl⟩:=rx; exact SeqAt.EqAt.str_int a t' b t
  | str b=>obtain ⟨t,rfl⟩:=rx; exact SeqAt.EqAt.str_str a t' b t
  | _=>exact absurd (show false = true from fx) Bool.false_ne_true
 | _=>exact absurd (show false = true from fy) Bool.false_ne_true
def eqU (x:V) (u:Value):Bool:=match u with
 | .none=>eqV .non x
 | .bool b=>eqV (.bl b) x
 | .int i _=>eqV (.int i) x
 | .str z _=>eqV (.str z) x
 | _=>false
theorem jrr {x y:V} {u:Value} (r:RelV y u) (f:jcg y = true):eqU x u = eqV y x:=by
 cases y with
 | non=>cases r; rfl
 | bl b=>cases r; rfl
 | int i=>obtain ⟨t,rfl⟩:=r; rfl
 | str z=>obtain ⟨t,rfl⟩:=r; rfl
 | _=>exact absurd (show false = true from f) Bool.false_ne_true
theorem jg9 {x:V}:∀ {xs:List V} {us:List Value},Vals xs us->xs.all jcg = true->us.any (eqU x) = xs.any fun y=>eqV y x
 | _,_,.nil,_=>rfl
 | y :: xs,u :: us,.cons r t,f=>by
  rw [List.all_cons,Bool.and_eq_true] at f
  rw [List.any_cons,List.any_cons,jrr r f.1,jg9 t f.2]
theorem jed {A:Around} {s:Shared} {x:V} {v:Value} (rx:RelV x v) (fx:jcg x = true):∀ {xs:List V} {us:List Value},Vals xs us->xs.all jcg = true->∀ u ∈ us,SeqAt.EqAt A s u v (eqU x u)
 | _,_,.nil,_=>fun u hu=>by cases hu
 | y :: xs,u :: us,.cons r t,f=>fun u' hu=>by
  rw [List.all_cons,Bool.and_eq_true] at f
  rcases List.mem_cons.mp hu with rfl | hu
  ·rw [jrr r f.1]; exact jrs r rx f.1 fx
  ·exact jed rx fx t f.2 u' hu
def inV (x:V) (xs:List V):Bool:=xs.any fun y=>eqV y x
def rIn (K:PySem.W.Frag) (neg:Bool):R2:=fun x y H Q=>∃ p xs,y = .ref p/\(SqL K H p xs \/ SqT K H p xs)/\jcg x = true/\xs.all jcg = true/\Q (.bl (if neg then !inV x xs else inV x xs)) H
theorem joh:OpR X (compareOp .In) (rIn X.K false):=by
 intro pins s σ H x y v u Q I rx ry h
 obtain ⟨p,xs,rfl,hq,fx,fs,q⟩:=h
 cases ry
 rcases hq with hq | hq
 ·obtain ⟨its,r,pl,hz⟩:=I.list hq
  refine SeqAt.in_listAt (eqU x) pl.isList (fun w hw=>jed rx fx r fs w (by simpa using hw)) ⟨.bl _,H,I,rfl,?_⟩
  rw [show its.toArray.any (eqU x) = its.any (eqU x) by simp,jg9 r fs]
  exact q
 ·obtain ⟨its,r,pl,hz⟩:=I.tuple hq
  refine SeqAt.in_tupleAt (eqU x) pl (fun w hw=>jed rx fx r fs w (by simpa using hw)) ⟨.bl _,H,I,rfl,?_⟩
  rw [show its.toArray.any (eqU x) = its.any (eqU x) by simp,jg9 r fs]
  exact q
theorem jiw:OpR X (compareOp .NotIn) (rIn X.K true):=by
 intro pins s σ H x y v u Q I rx ry h
 obtain ⟨p,xs,rfl,hq,fx,fs,q⟩:=h
 cases ry
 rcases hq with hq | hq
 ·obtain ⟨its,r,pl,hz⟩:=I.list hq
  refine SeqAt.notIn_listAt (eqU x) pl.isList (fun w hw=>jed rx fx r fs w (by simpa using hw)) ⟨.bl _,H,I,rfl,?_⟩
  rw [show its.toArray.any (eqU x) = its.any (eqU x) by simp,jg9 r fs]
  exact q
 ·obtain ⟨its,r,pl,hz⟩:=I.tuple hq
  refine SeqAt.notIn_tupleAt (eqU x) pl (fun w hw=>jed rx fx r fs w (by simpa using hw)) ⟨.bl _,H,I,rfl,?_⟩
  rw [show its.toArray.any (eqU x) = its.any (eqU x) by simp,jg9 r fs]
  exact q
theorem jdv:jck X (.builtin "len") (fun xs H Q=>∃ p ys,xs = [.ref p]/\(SqL X.K H p ys \/ SqT X.K H p ys)/\Q (.int ys.length) H):=by
 intro pins s σ H xs us Q I r h
 obtain ⟨p,ys,rfl,hq,q⟩:=h
 obtain ⟨u,rfl,rx⟩:=jic r
 cases rx
 have hn:=jgy
 rcases hq with hq | hq
 ·obtain ⟨its,r',pl,hz⟩:=I.list hq
  have hlen:=r'.length
  exact Calls.call_len_list pl.isList (by simp only [List.size_toArray] <;> omega) ⟨.int ys.length,H,I.tok _,⟨s.toks + 1,by rw [List.size_toArray,hlen]⟩,q⟩
 ·obtain ⟨its,r',pl,hz⟩:=I.tuple hq
  have hlen:=r'.length
  exact len_tuple pl (by simp only [List.size_toArray] <;> omega) ⟨.int ys.length,H,I.tok _,⟨s.toks + 1,by rw [List.size_toArray,hlen]⟩,q⟩
theorem jjw:jck X (.type "list") (fun xs H Q=>∃ p ys,xs = [.ref p]/\(SqL X.K H p ys \/ SqT X.K H p ys)/\∀ l,H l = none->Q (.ref l) (upd H l (.lst ys))):=by
 intro pins s σ H xs us Q I r h
 obtain ⟨p,ys,rfl,hq,q⟩:=h
 obtain ⟨u,rfl,rx⟩:=jic r
 cases rx
 have fin:∀ (its:List Value),Vals ys its->ys.length <= sizeLine->∀ (h':Heap) (c':Nat),(∀ b o',s.heap.get? b = some o'->h'.get? b = some o') ->
   h'.get? s.heap.objs.size = some { cls:=.type "list",dict:=none,data:=.seq its.toArray c',slots:=#[] }->EP X pins σ Q (.ref s.heap.objs.size) { s with heap:=h' }:=fun its r' hz h' c' kp e =>
  ⟨.ref s.heap.objs.size,_,I.laid (t':=s.toks) kp (Nat.le_refl _) (show jca X.prog X.w _ h' _ (.lst ys) from ⟨hz,its,c',r',e⟩),rfl,q _ (I.hok.fresh (Nat.le_refl _))⟩
 rcases hq with hq | hq
 ·obtain ⟨its,r',pl,hz⟩:=I.list hq
  have hlen:=r'.length
  obtain ⟨o,ho,hc,n,hd⟩:=pl.isList
  exact call_list_seq p (.inl rfl) ho hc hd (fun h' c' kp e=>fin its r' hz h' c' kp e) (by simp only [List.size_toArray] <;> omega)
 ·obtain ⟨its,r',pl,hz⟩:=I.tuple hq
  have hlen:=r'.length
  obtain ⟨o,ho,hc,n,hd⟩:=pl
  exact call_list_seq p (.inr rfl) ho hc hd (fun h' c' kp e=>fin its r' hz h' c' kp e) (by simp only [List.size_toArray] <;> omega)
def tyV (K:PySem.W.Frag) (T:String) (x:V) (H:Hp):Prop:=match x with
 | .str _=>T = "str"
 | .int _=>T = "int"
 | .ref p=>(T = "list"/\∃ xs,SqL K H p xs) \/ (T = "tuple"/\∃ o,K.lookup p = some o/\o.cls = .type "tuple"/\o.dict = none) \/
   (T = "dict"/\((∃ kvs,H p = some (.dK kvs)) \/ ∃ kvs,H p = some (.dT kvs))) \/ (T = "set"/\∃ S n,H p = some (.set S n))
 | _=>False
theorem tyV_is {pins:List (Addr × Obj)} {σ:St} {H:Hp} {s:Shared} {T:String} {x:V} {v:Value} (I:Inv X pins σ H s) (r:RelV x v) (ty:tyV X.K T x H) :
  s.TypeIs v T/\∀ a,v = .ref a->∃ ob,s.heap.get? a = some ob/\ob.dict = none:=by
 cases x with
 | str z =>
  obtain ⟨t,rfl⟩:=r
  cases (show T = "str" from ty)
  exact ⟨typeIs_str s z t,fun _ e=>nomatch e⟩
 | int i =>
  obtain ⟨t,rfl⟩:=r
  cases (show T = "int" from ty)
  exact ⟨typeIs_int s i t,fun _ e=>nomatch e⟩
 | ref p =>
  cases r
  rcases ty with ⟨rfl,xs,hq⟩ | ⟨rfl,o,hk,hc,hd⟩ | ⟨rfl,hk⟩ | ⟨rfl,S,n,hk⟩
  ·obtain ⟨its,_,pl,_⟩:=I.list hq
   refine ⟨pl.isList.typeIs,fun a e=>?_⟩
   cases e
   obtain ⟨o,n,e,c,hd,_⟩:=pl
   exact ⟨o,e,hd⟩
  ·refine ⟨⟨o,I.kIn p o hk,hc⟩,fun a e=>?_⟩
   cases e
   exact ⟨o,I.kIn _ o hk,hd⟩
  ·have z:∃ o,s.heap.get? p = some o/\o.ExactDict:=by
    rcases hk with ⟨kvs,hk⟩ | ⟨kvs,hk⟩
    ·obtain ⟨_,_,_,_,o,_,_,e,ex,_⟩:=I.hok p _ hk
     exact ⟨o,e,ex⟩
    ·obtain ⟨_,_,_,_,o,_,_,e,ex,_⟩:=I.hok p _ hk
     exact ⟨o,e,ex⟩
   obtain ⟨o,e,ex⟩:=z
   refine ⟨⟨o,e,ex.1⟩,fun a e2=>?_⟩
   cases e2
   exact ⟨o,e,ex.2.1⟩
  ·obtain ⟨o,_,_,_,e,ex,_⟩:=I.hok p _ hk
   refine ⟨⟨o,e,ex.1⟩,fun a e2=>?_⟩
   cases e2
   exact ⟨o,e,ex.2.1⟩
 | _=>exact False.elim ty
variable {o e:Expr} {es:List Expr} {to:TE} {t:TA} {name:Str} {apos cpos:Pos} {T id:String} {r:V->List V->Hp->VK->Prop}
/- xs.append(e),list.index on a module's tuple .. are MtR facts of 06m -/
end
def MtM (X:Cx) (id:String) (r:V->List V->Hp->VK->Prop):Prop :=
 ∀ (pins:List (Addr × Obj)) (s:Shared) (σ:St) (H:Hp) (x:V) (xs:List V) (v:Value) (us:List Value) (Q:VK),Inv X pins σ H s->RelV x v->Vals xs us->r x xs H Q ->
  wpAny (model X.prog X.w) X.A (call (.builtin id) (v :: us)) (EP X pins σ Q) X.xe s
theorem Vals.one:∀ {x:V} {us:List Value},Vals [x] us->∃ u,us = [u]/\RelV x u
 | _,_,.cons r .nil=>⟨_,rfl,r⟩
theorem Vals.two:∀ {x y:V} {us:List Value},Vals [x,y] us->∃ u v,us = [u,v]/\RelV x u/\RelV y v
 | _,_,_,.cons r (.cons q .nil)=>⟨_,_,rfl,r,q⟩
section
variable {X:Cx} {pins:List (Addr × Obj)} {σ:St} {H:Hp} {s:Shared} {l b:Addr} {xs ys zs:List V}
theorem Inv.lset {its its':List Value} {n:Nat} {f:Array Value->Array Value} {t':Nat} (I:Inv X pins σ H s) (hH:H l = some (.lst xs))
  (e:s.heap.get? l = some { cls:=.type "list",data:=.seq its.toArray n }) (hf:f its.toArray = its'.toArray) (hv:Vals ys its') (hz:ys.length <= sizeLine) :
  Inv X pins σ (upd H l (.lst ys)) { s with heap:=s.heap.update l (Obj.mapSeq f),toks:=t' }:=by
 have q:=PySem.IsL.update e f
 rw [hf] at q
 refine I.write (x:=l) (e:=l) (by rw [hH]; exact trivial) (.inl rfl) (fun b' u hb hu=>(Heap.get?_update_other s.heap (Obj.mapSeq f) (Ne.symm hb)).trans hu) ⟨_,q⟩ ?_
 exact ⟨hz,its',_,hv,q⟩
theorem Inv.lnew {its:List Value} {t':Nat} (I:Inv X pins σ H s) (hv:Vals ys its) (hz:ys.length <= sizeLine) :
  Inv X pins σ (upd H s.heap.objs.size (.lst ys)) { s with heap:=s.heap.push { cls:=.type "list",data:=.seq its.toArray },toks:=t' } :=
 I.laid (fun _ _ q=>Heap.get?_push_of_some _ q) (Nat.le_refl _) ⟨hz,its,0,hv,Heap.get?_push_size _ rfl⟩
theorem Inv.fresh (I:Inv X pins σ H s):H s.heap.objs.size = none:=I.hok.fresh (Nat.le_refl _)
theorem Inv.lstM (I:Inv X pins σ H s) (hH:H l = some (.lst xs)):xs.length <= sizeLine/\∃ (its:List Value) (n:Nat),Vals xs its/\xs.length = its.length/\s.heap.get? l = some { cls:=.type "list",data:=.seq its.toArray n }:=by
 obtain ⟨z,its,n,r,e⟩:=I.hok l _ hH
 exact ⟨z,its,n,r,r.length,e⟩
end
section
variable {X:Cx}
def jo7:V->List V->Hp->VK->Prop:=fun x vs H Q=>∃ l xs y,x = .ref l/\vs = [y]/\H l = some (.lst xs)/\xs.length < sizeLine/\Q .non (upd H l (.lst (xs ++ [y])))
theorem jjg:MtM X "list.append" jo7:=by
 intro pins s σ H x vs v us Q I rx rv h
 obtain ⟨l,xs,y,rfl,rfl,hH,hz,q⟩:=h
 cases rx
 obtain ⟨u,rfl,ru⟩:=rv.one
 obtain ⟨z,its,n,r,hl,e⟩:=I.lstM hH
 refine call_meets F.slot_list_append ⟨_,e,rfl⟩ F.entry_list_append (F.args_list_append_2 _ _) (PySem.list_append l its.toArray n u (by rw [List.size_toArray]; omega)) ⟨e,?_⟩
 refine ⟨.non,_,I.lset (its':=its ++ [u]) hH e (by simp) (r.append (.cons ru .nil)) ?_,rfl,q⟩
 rw [List.length_append,List.length_singleton]
 omega
def rCat:R2:=fun x y H Q=>∃ l b xs zs,x = .ref l/\y = .ref b/\H l = some (.lst xs)/\H b = some (.lst zs)/\xs.length + zs.length <= sizeLine/\∀ p,H p = none->Q (.ref p) (upd H p (.lst (xs ++ zs)))
theorem op_cat:OpR X (binaryOp .Add) rCat:=by
 intro pins s σ H x y v u Q I rx ry h
 obtain ⟨l,b,xs,zs,rfl,rfl,hH,hB,hz,q⟩:=h
 cases rx
 cases ry
 obtain ⟨z,its,n,r,hl,e⟩:=I.lstM hH
 obtain ⟨z2,its2,n2,r2,hl2,e2⟩:=I.lstM hB
 refine PySem.P.add_list e e2 ?_ (by rw [List.size_toArray,List.size_toArray]; omega)
 have ea:its.toArray ++ its2.toArray = (its ++ its2).toArray:=by simp
 rw [ea]
 exact ⟨.ref _,_,I.lnew (t':=s.toks) (r.append r2) (by rw [List.length_append]; omega),rfl,q _ I.fresh⟩
end
section
variable {prog:Program} {w:World} {A:Around} {E:Value->Shared->Prop} {s:Shared}
end
section
variable {X:Cx}
end
end L2
namespace Att
open PySem PySem.W PySem.Calls PyProof.Rows
theorem jg1 {P:Params} {h:Heap}:∀ (ns:List Int) (vs:List Value),WellAll P h vs (ns.map WData.int)->IntsAre vs ns:=by
 intro ns
 induction ns with
 | nil =>
  intro vs w
  rw [List.map_nil] at w
  cases w
  exact .nil
 | cons n ns ih =>
  intro vs w
  rw [List.map_cons] at w
  cases w with
  | cons a b =>
   cases a
   exact .cons _ _ (ih _ b)
theorem jo2 {l:OpenLaw} {n:Nat} (hn:l.most = some n) {P:Params} {h:Heap} {args:List WData} {vals:List Value}
  (hpre:l.row.toRowW.claim.pre args = true) (hwl:WellAll P h vals args) :
  ∃ a vs ns,vals = [Value.ref a]/\args = [WData.list (ns.map WData.int)]/\h.get? a = some { cls:=.type "list",data:=.seq vs.toArray }/\IntsAre vs ns/\ns.length <= n:=by
 have hsh:WShape.hasAll [] args [.list .int] = true:=(pre_splitW hpre).1
 have hc:l.pre.holds [] { args:=args } = true:=(pre_splitW hpre).2
 obtain ⟨d,r,rfl,h1,h2⟩:=hasAllW_cons hsh
 obtain rfl:=hasAllW_nil h2
 obtain ⟨xs,rfl,h3⟩:=hasW_list h1
 obtain ⟨ns,rfl⟩:=items_int h3
 have hlen:ns.length <= n:=by
  unfold OpenLaw.pre at hc
  have h4:(WTm.not (.lt (.lit (.int (n:Int))) (.len (.arg 0)))).holds [] { args:=[.list (ns.map .int)] } = true:=by
   have h4:=(holds_andW hc).1
   rw [hn] at h4
   exact h4
  have h5:=condW_of h4 (w_not (w_lt w_lit (w_len_list (w_arg rfl))))
  rw [List.length_map] at h5
  refine Nat.le_of_not_lt fun q=>?_
  have q':(n:Int) < ((ns.length:Nat):Int):=by omega
  first
   | (rw [decide_eq_true q'] at h5; exact absurd h5 (by decide))
   | (simp at h5; omega)
 cases hwl with
 | cons w1 w2 =>
  cases w2
  cases w1 with
  | list ho hall=>exact ⟨_,_,ns,rfl,rfl,ho,jg1 ns _ hall,hlen⟩
theorem job (l:OpenLaw) (args:List WData):l.row.toRowW.claim.post args (.bool true) args = true :=
 postW_of (r:=l.row.toRowW) (X:=(true == true))
  (show WShape.has [] (.bool true) .bool = true by first | rfl | decide | simp [WShape.has,WShape.arms,WShape.armsAll])
  (show (WTm.eq .res (.lit (.bool true))).value [] { args:=args,res:=some (.bool true),after:=args } = some (.bool (true == true)) from w_eq_bool (w_res rfl) w_lit) rfl
theorem attach_call {l:OpenLaw} {n:Nat} {q:Program} {loose:List Str} {XP:(Str->Option Value)->Heap->Prop} {YP:World->Heap->Prop} {d:DefRec}
  (hn:l.most = some n) (hdf:d.params.defaults = [])
  (call:∀ (w:World) (s₀ s₁:Shared) (mg mb:Str->Option Value) (fa:Addr) (o:Obj) (pm cd doc:Value) (a:Addr) (vs:List Value) (ns:List Int),
   Ground q loose [] XP w s₀ mg mb s₁.heap->YP w s₁.heap ->
   s₁.heap.get? fa = some o->o.data = .func (docDef d.name d.params d.body d.scope pm cd doc)->s₁.heap.CodeRec cd d.name->mg d.name = some (.ref fa) ->
   s₁.heap.get? a = some { cls:=.type "list",data:=.seq vs.toArray }->IntsAre vs ns->ns.length <= n->s₁.gens = #[] ->
   codeAny (model l.prog w) callerA (.call (.ref fa) ⟨[.ref a],[]⟩) (fun r s'=>r = .ok (.ret (.bool true))/\OldK s₁.heap s'.heap/\s'.os = s₁.os/\AllBare s'.gens) s₁) :
  WalkO q loose XP YP l.row.toRowW d [] (fun f vs=>PySem.call f vs):=by
 intro w s₀ s₁ mg mb G Y fa o pm cd doc dV kV ho hd hcd hD hmg hg args vals as hpre hlay hrd hwl hlo
 obtain rfl:dV = .none:=Dflts.none hD hdf
 obtain rfl:kV = .none:=Dflts.noKw hD
 obtain ⟨a,vs,ns,rfl,rfl,hobj,hints,hlen⟩:=jo2 hn hpre hwl
 refine enter_call (codeAny_mono (call w s₀ s₁ mg mb fa o pm cd doc a vs ns G Y ho (fd_plain hd) hcd hmg hobj hints hlen hg) fun r s' hq=>?_)
 obtain ⟨rfl,h2,h3,h4⟩:=hq
 exact ⟨.inl ⟨.bool true,.bool true,[],rfl,fun _=>rfl,.bool true,job l _,fun _=>⟨List.Pairwise.nil,fun _ hm=>(nomatch hm)⟩⟩,h2,h3,h4⟩
section
variable {prog:Program} {w:World} {A:Around} {E:Value->Shared->Prop} {s:Shared} {K:Frag}
end
end Att
namespace L2
open PySem PySem.Spec PyProof.Rows
theorem jff:∀ {vs:List Value} {ns:List Int},IntsAre vs ns->Vals (ns.map V.int) vs
 | _,_,.nil=>.nil
 | _,_,.cons n t h=>.cons ⟨t,rfl⟩ (jff h)
def Only (H:Hp):Prop:=∀ b,H b = none \/ ∃ o xs,H b = some (.frz o (.lst xs))
theorem jqh {P:Program} {w:World} {K:PySem.W.Frag} {mg mb:Str->Option Value} {CX:CXT} {k:Nat} {fa a:Addr} {fd:FuncData} {x:Str} {sp:Sp} {s₁:Shared} {vs:List Value} {ns:List Int}
  (KX:K.In s₁.heap) (hns:s₁.heap.Ns mainGlobals mg) (hb:s₁.heap.Ns builtinsNs mb) (hbb:∀ x:Str,x ≠ "__name__"->mb x = bootBuiltins x) (hlim:s₁.heap.NoLimit) (hg:s₁.gens = #[])
  (ha:s₁.heap.get? a = some { cls:=.type "list",data:=.seq vs.toArray }) (hi:IntsAre vs ns) (hl:ns.length <= sizeLine) (hr:Room k callerA)
  (F:∀ base:Heap,K.In base->base.Ns mainGlobals mg->FnOk P w K mg base CX k fa fd [x] sp) (hbind:∀ (s:Shared) (u:Value),BindsTo s fd ⟨[u],[]⟩ [(x,u)])
  (hsp:∀ H:Hp,Only H->SqL K H a (ns.map V.int)->sp [.ref a] H (fun v _=>v = .bl true) fun _ _ _=>False)
  (hCX:∀ H e s',CX [] H s₁ (fun _ _ _=>False) e s'->False) :
  codeAny (model P w) callerA (.call (.ref fa) ⟨[.ref a],[]⟩) (fun r s'=>r = .ok (.ret (.bool true))/\OldK s₁.heap s'.heap/\s'.os = s₁.os/\AllBare s'.gens) s₁:=by
 have rv:=jff hi
 have lenV:=hi.length
  -- from an abstract heap in which nothing but the script may be tracked
 have core:∀ H:Hp,Only H->SqL K H a (ns.map V.int)->HOk P w H s₁.heap->(∀ b,H b ≠ none->b = a)->(H a ≠ none->K.lookup a = none) ->
   codeAny (model P w) callerA (.call (.ref fa) ⟨[.ref a],[]⟩) (fun r s'=>r = .ok (.ret (.bool true))/\OldK s₁.heap s'.heap/\s'.os = s₁.os/\AllBare s'.gens) s₁:=by
  intro H hO hS hok hA hK
  have base_of:∀ {b:Addr} {o:Obj},s₁.heap.get? b = some o->H b = none->(hidT s₁.heap H).get? b = some o:=fun e n=>jqj e n
  have noA:∀ {b:Addr} {o:Obj} {es:Array DictEntry} {ep:Nat},s₁.heap.get? b = some o->o.data = .dict es ep->H b = none:=fun {b o es ep} e d=>by
   cases q:H b with
   | none=>rfl
   | some u =>
    have e':b = a:=hA b (by rw [q]; simp)
    subst e'
    rw [ha] at e; cases e
    have d':Data.seq vs.toArray _ = Data.dict es ep:=d
    cases d'
  have nsK:∀ {b:Addr} {m:Str->Option Value},s₁.heap.Ns b m->(hidT s₁.heap H).Ns b m:=fun {b m} ⟨o,es,ep,e,d,r⟩=>⟨o,es,ep,base_of e (noA e d),d,r⟩
  have hKb:K.In (hidT s₁.heap H):=fun b o e=>base_of (KX b o e) (by
   cases q:H b with
   | none=>rfl
   | some u =>
    have e':b = a:=hA b (by rw [q]; simp)
    subst e'
    rw [hK (by rw [q]; simp)] at e; cases e)
  have hM:Mod K mg (hidT s₁.heap H):=⟨hKb,nsK hns,⟨mb,nsK hb,hbb⟩,let ⟨mc,h1,h2⟩:=hlim; ⟨mc,nsK h1,h2⟩⟩
  have e0:Env0 P w K mg (hidT s₁.heap H) callerA [] s₁ H:=⟨rfl,hM,fun b o e=>js7 e,Nat.le_of_eq (jp5 _ _),trivial,fun b hb=>absurd (show b ∈ ([]:List Addr) from hb) (by simp),hok,.of_eq hg⟩
  refine codeAny_mono ((F _ hKb (nsK hns)).run callerA [] s₁ H ⟨[.ref a],[]⟩ [.ref a] [.ref a] _ _ hr e0 (hbind s₁ (.ref a)) (.cons rfl .nil) (hsp H hO hS)) fun r s' h=>?_
  cases r with
  | error e=>exact (hCX H e s' h).elim
  | ok fl =>
   cases fl with
   | next=>exact False.elim h
   | brk=>exact False.elim h
   | cont=>exact False.elim h
   | ret u =>
    obtain ⟨v,H',os,bare,un,hok',r',q⟩:=h
    have q':v = .bl true:=q
    subst q'
    obtain rfl:u = Value.bool true:=r'
    refine ⟨rfl,OldK.of_keep fun b o e=>?_,os,bare⟩
    cases q:H b with
    | none=>exact un.keep b o e q (by intro z; exact absurd (show b ∈ ([]:List Addr) from z) (by simp)) (by simp)
    | some u =>
     rcases hO b with z | ⟨ob,xs,z⟩
     ·rw [q] at z; cases z
     ·have z2:=un.frzs b ob _ z
      obtain ⟨e1,_⟩:=hok b _ z
      obtain ⟨e2,_⟩:=hok' b _ z2
      rw [e] at e1; cases e1
      exact e2
 cases hk:K.lookup a with
 | some o =>
    -- the script is one of the module's own objects
  have e:=KX a o hk
  rw [ha] at e
  cases e
  refine core (fun _=>none) (fun _=>.inl rfl) (.inr ⟨_,vs.toArray,_,hk,rfl,rfl,rfl,by rw [List.size_toArray,lenV]; exact hl,by simpa using rv⟩) (fun b u z=>by have z':(none:Option HO) = some u:=z; cases z') (fun b z=>absurd rfl z) fun z=>absurd rfl z
 | none =>
  refine core (fun b=>if b = a then some (.frz { cls:=.type "list",data:=.seq vs.toArray } (.lst (ns.map V.int))) else none) (fun b=>?_) (.inl (.inr ⟨{ cls:=.type "list",data:=.seq vs.toArray },if_pos rfl⟩)) (fun b u z=>?_) (fun b z=>?_) fun _=>hk
  ·by_cases hb:b = a
   ·exact .inr ⟨_,_,if_pos hb⟩
   ·exact .inl (if_neg hb)
  ·by_cases hb:b = a
   ·have z':=(if_pos hb).symm.trans z
    cases z'
    subst hb
    exact ⟨ha,by rw [List.length_map]; exact hl,vs,_,rv,ha⟩
   ·have z':=(if_neg hb).symm.trans z
    cases z'
  ·by_cases hb:b = a
   ·exact hb
   ·exact absurd (if_neg hb) z
abbrev KOf {K:PySem.W.Frag} {h:Heap} (_:K.In h):PySem.W.Frag:=K
theorem jnb {l:PySem.W.OpenLaw} {n k:Nat} {q:Program} {loose:List Str} {XP:(Str->Option Value)->Heap->Prop} {YP:World->Heap->Prop} {d:DefRec} {K:Params->PySem.W.Frag} {CX:World->CXT} {sp:World->Sp} {x:Str}
    (hn:l.most = some n) (hn2:n <= sizeLine) (hdf:d.params.defaults = []) (hr:Room k callerA)
    (hY:∀ (w:World) (h:Heap),YP w h->(K w.params).In h)
    (F:∀ (w:World) (mg:Str->Option Value) (fa:Addr) (h:Heap),(K w.params).In h->h.Ns mainGlobals mg->mg d.name = some (.ref fa) ->
      ∃ fd:FuncData,(∀ (s:Shared) (u:Value),BindsTo s fd ⟨[u],[]⟩ [(x,u)]) /\
        ∀ base:Heap,(K w.params).In base->base.Ns mainGlobals mg->FnOk l.prog w (K w.params) mg base (CX w) k fa fd [x] (sp w))
    (hsp:∀ (w:World) (H:Hp) (a:Addr) (ns:List Int),ns.length <= n->Only H->SqL (K w.params) H a (ns.map V.int)->sp w [.ref a] H (fun v _=>v = .bl true) fun _ _ _=>False)
    (hCX:∀ (w:World) (H:Hp) (s:Shared) (e:Value) (s':Shared),CX w [] H s (fun _ _ _=>False) e s'->False) :
    PySem.W.WalkO q loose XP YP l.row.toRowW d [] (fun f vs=>PySem.call f vs):=by
  refine Att.attach_call hn hdf fun w s₀ s₁ mg mb fa o pm cd doc a vs ns G Y ho hd hcd hmg hobj hints hlen hg=>?_
  have KX:=hY w _ Y
  obtain ⟨fd,hb,hF⟩:=F w mg fa _ KX G.T.g hmg
  exact jqh KX G.T.g G.T.b G.T.builtins G.T.nolimit hg hobj hints (Nat.le_trans hlen hn2) hr hF hb (fun H hO hS=>hsp w H a ns hlen hO hS) fun H e s'=>hCX w H s₁ e s'
end L2
/- THE LAST THEOREM (shape; LID,My.* are yours):
   My.Adr: a structure of the addresses that your layer names (classes,functions); My.Txt K t: a structure (Prop) of the equations over K;
   My.txt_mk:{K} {implicit addresses ..} (e1:nsIn K mainGlobals "law" = some (some (.ref f))) (e2:K.lookup f = some ⟨oc,od,.func (fnOf "law" "law" params body scope dV kV doc pm an cdv ct),sl⟩) (e3:codeIn K cdv "law" = true) ..:∃ t,My.Txt K t
set_option maxRecDepth 100000 in
set_option maxHeartbeats 0 in
theorem PySem.Challenge.cw_LID_holds : PySem.Challenge.rw_LID.Holds := by
 w_on; o_law; k_head; (case hw=>w_witness2)
 k_fill
 refine L2.jnb (l:=PySem.Challenge.rw_LID) (n:=63) (k:=40) (x:="script") (CX:=fun w=>..) (sp:=fun _=>My.sp_law) rfl (by decide) rfl ⟨rfl,by decide,by decide⟩ (fun w h Y=>PySem.W.kIn_of Y) ?F ?S ?C
 case F =>
  intro w mg fa h KX G hmg
  have T:∃ t,My.Txt (L2.KOf KX) t:=by
   dsimp only [L2.KOf]                          -- K must stand as «<heap const> w.params» for k_is
   refine' My.txt_mk ?e1 ?e2 ?e3 ..
   (case e1=>PySem.W.k_is)                    -- in the order: a name -> its address -> its object -> its parts
   (case e2=>PySem.W.k_is)
   ..
  obtain ⟨t,T⟩:=T
  have e0:=hmg.symm.trans (PySem.W.mg_of KX G T.law)
  cases e0                                       -- fa is the law's own address
  exact ⟨_,fun s u=>.of_eq rfl,fun base kb nb=>My.law_fn T kb nb⟩     -- if «.of_eq rfl» comes too early: refine' ⟨_,?b,fun base kb nb=>My.law_fn T kb nb⟩; exact fun s u=>.of_eq rfl
 case S=>exact fun w H a ns hl hO hS=>..
 case C=>exact ..
(the tactic k_is has no namespace: write k_is) -/
namespace L2
open PySem PySem.Spec PyProof.Rows
def jdu (s:Stmt):Arguments:=match s with
 | .FunctionDef _ a _ _ _ _ _ _ _ _=>a
 | _=>{ posonlyargs:=[],args:=[],vararg:=none,kwonlyargs:=[],kw_defaults:=[],kwarg:=none,defaults:=[] }
def jdk (s:Stmt):List Stmt:=match s with
 | .FunctionDef _ _ b _ _ _ _ _ _ _=>b
 | _=>[]
def jab (s:Stmt):Scope:=match s with
 | .FunctionDef _ _ _ _ _ _ sc _ _ _=>sc
 | _=>{ kind:=.function,names:=[],isGenerator:=false,isCoroutine:=false }
abbrev CX0:CXT:=fun _ _ _ _ _ _=>False
abbrev E0:XK:=fun _ _ _=>False
theorem jan {X:Cx}:jps CX0 X E0:=fun _ _ _ _ _ _ _ h=>h.elim
structure Fun (K:PySem.W.Frag) (x qual:Str) (st:Stmt) (f:Addr) (fd:FuncData):Prop where
 ex:∃ (oc:Value) (od:Option Addr) (kV doc pm:Value) (an:Option Addr) (cdv ct:Value) (osl:Array (Option Value)),
  fd = PySem.W.fnOf x qual (jdu st) (jdk st) (jab st) .none kV doc pm an cdv ct/\K.lookup f = some ⟨oc,od,.func fd,osl⟩/\PySem.W.codeIn K cdv qual = true
 kp:PySem.W.keepIn K (.ref f) = true
section
variable {P:Program} {w:World} {K:PySem.W.Frag} {mg:Str->Option Value} {base:Heap}
theorem Fun.ok {x qual:Str} {st:Stmt} {f:Addr} {fd:FuncData} {N ps:List Str} {k:Nat} {sp:Sp} (F:Fun K x qual st f fd) (S:FnScope N ps (jab st)) (len:∀ vs H Q E,sp vs H Q E->vs.length = ps.length)
  (hbody:∀ (cdv:Value) (A:Around) (outer:List Env) (s:Shared) (H:Hp) (vs:List V) (Q:VK) (E:XK),Room k (A.deeper (envOfC qual (jab st) s.heap.objs.size f cdv))->sp vs H Q E ->
   ∃ t,PSs (cxOf CX0 P w K mg base N qual (jab st) f cdv A outer s H E).nox (jdk st) t/\t { nx:=fun _ H'=>Q .non H',rt:=Q } (jer N vs) H):FnOk P w K mg base CX0 (k + 1) f fd ps sp:=by
 obtain ⟨oc,od,kV,doc,pm,an,cdv,ct,osl,rfl,lk,hcd⟩:=F.ex
 refine fn_of lk hcd S len fun A outer s H vs Q E hr hsp=>?_
 obtain ⟨t,h,q⟩:=hbody cdv A outer s H vs Q E hr hsp
 exact ⟨t,h.nox,q⟩
theorem Fun.binds {x qual:Str} {st:Stmt} {f:Addr} {fd:FuncData} {ps:List Str} (F:Fun K x qual st f fd)
  (h:∀ (kV doc pm:Value) (an:Option Addr) (cdv ct:Value) (us:List Value),us.length = ps.length->bindArgs (PySem.W.fnOf x qual (jdu st) (jdk st) (jab st) .none kV doc pm an cdv ct) ⟨us,[]⟩ = pure (ps.zip us)):jld K fd ps []:=by
 obtain ⟨oc,od,kV,doc,pm,an,cdv,ct,osl,rfl,lk,hcd⟩:=F.ex
 exact .all (h kV doc pm an cdv ct)
theorem jax {x qual:Str} {st:Stmt} {f:Addr} {oc:Value} {od an:Option Addr} {osl:Array (Option Value)} {kV doc pm cdv ct:Value} (l:K.lookup f = some ⟨oc,od,.func (PySem.W.fnOf x qual (jdu st) (jdk st) (jab st) .none kV doc pm an cdv ct),osl⟩)
  (c:PySem.W.codeIn K cdv qual = true) (k:PySem.W.keepIn K (.ref f) = true):Fun K x qual st f (PySem.W.fnOf x qual (jdu st) (jdk st) (jab st) .none kV doc pm an cdv ct):=⟨⟨oc,od,kV,doc,pm,an,cdv,ct,osl,rfl,l,c⟩,k⟩
end
theorem jb8 {A:Around} {k:Nat} (hr:Room k A):A.units + 1 < cLine:=Nat.lt_of_le_of_lt (Nat.add_le_add_left (by decide:1 <= 64) _) hr.units
section
variable {X:Cx}
end
theorem ite2 {c A B:Prop} [Decidable c] (h1:c->A) (h2:¬ c->B):if c then A else B:=by
 by_cases h:c
 ·rw [if_pos h]
  exact h1 h
 ·rw [if_neg h]
  exact h2 h
def Same (H H':Hp):Prop:=∀ b o,H b = some o->H' b = some o
theorem Same.refl (H:Hp):Same H H:=fun _ _ h=>h
theorem Same.trans {H H1 H2:Hp} (a:Same H H1) (b:Same H1 H2):Same H H2:=fun c o h=>b c o (a c o h)
theorem Same.free {H H':Hp} (e:Same H H') {l:Addr} (h:H' l = Option.none):H l = Option.none:=by
 cases q:H l with
 | none=>rfl
 | some o =>
  rw [e l o q] at h
  cases h
end L2
set_option maxHeartbeats 8000000
namespace L2
open PySem PySem.Spec PyProof.Rows
section
variable {κ:Type} [DecidableEq κ]
def valV (kvs:List (κ × V)) (k:κ):Option V:=(kvs.find? fun kv=>decide (kv.1 = k)).map (·.2)
def putK (kvs:List (κ × V)) (k:κ) (v:V):List (κ × V) :=
 if (kvs.any fun kv=>decide (kv.1 = k)) = true then kvs.map (fun kv=>if kv.1 = k then (kv.1,v) else kv) else kvs ++ [(k,v)]
theorem jh5 {p:κ × V} {r:List (κ × V)} {k:κ} (e:p.1 = k):valV (p :: r) k = some p.2:=by simp [valV,List.find?_cons,e]
theorem jh7 {p:κ × V} {r:List (κ × V)} {k:κ} (e:¬ p.1 = k):valV (p :: r) k = valV r k:=by simp [valV,List.find?_cons,e]
theorem jh8 (k:κ):∀ kvs:List (κ × V),(kvs.any fun kv=>decide (kv.1 = k)) = (valV kvs k).isSome
 | []=>rfl
 | p :: r=>by
  rw [List.any_cons]
  by_cases e:p.1 = k
  ·simp only [jh5 e,decide_eq_true e,Bool.true_or,Option.isSome_some]
  ·rw [jh7 e,decide_eq_false e,Bool.false_or]; exact jh8 k r
theorem je5 (kvs:List (κ × V)) (k:κ) (v:V):(putK kvs k v).length <= kvs.length + 1:=by
 unfold putK
 split
 ·rw [List.length_map]; omega
 ·rw [List.length_append,List.length_cons,List.length_nil]; omega
theorem putK_new {kvs:List (κ × V)} {k:κ} (v:V) (h:valV kvs k = none):putK kvs k v = kvs ++ [(k,v)]:=by
 unfold putK
 rw [jh8,h]
 exact if_neg (by decide)
theorem RelO.isSome_eq {o:Option V} {u:Option Value} (r:RelO o u):o.isSome = u.isSome:=by
 cases o with
 | none=>cases u with
  | none=>rfl
  | some _=>exact (show False from r).elim
 | some _=>cases u with
  | none=>exact (show False from r).elim
  | some _=>rfl
theorem KV.val {kvs:List (κ × V)} {vs:List (κ × Value)} (r:KV kvs vs) (k:κ):RelO (valV kvs k) (valueAt vs k):=by
 unfold KV at r
 induction r with
 | nil=>exact True.intro
 | @cons p q ps qs h t ih =>
  obtain ⟨h1,h2⟩:=h
  by_cases e:p.1 = k
  ·have e':q.1 = k:=h1.symm.trans e
   have b:valueAt (q :: qs) k = some q.2:=by simp [valueAt,List.find?_cons,e']
   rw [jh5 e,b]; exact h2
  ·have e':¬ q.1 = k:=fun z=>e (h1.trans z)
   have b:valueAt (q :: qs) k = valueAt qs k:=by simp [valueAt,List.find?_cons,e']
   rw [jh7 e,b]; exact ih
theorem KV.any {kvs:List (κ × V)} {vs:List (κ × Value)} (r:KV kvs vs) (k:κ):(kvs.any fun kv=>decide (kv.1 = k)) = vs.any fun kv=>decide (kv.1 = k):=by
 unfold KV at r
 induction r with
 | nil=>rfl
 | cons h t ih=>rw [List.any_cons,List.any_cons,ih,h.1]
theorem KV.repl {kvs:List (κ × V)} {vs:List (κ × Value)} (r:KV kvs vs) (k:κ) {y:V} {u:Value} (ry:RelV y u) :
  KV (kvs.map fun kv=>if kv.1 = k then (kv.1,y) else kv) (vs.map fun kv=>if kv.1 = k then (kv.1,u) else kv):=by
 unfold KV at r ⊢
 induction r with
 | nil=>exact .nil
 | @cons p q ps qs h t ih =>
  rw [List.map_cons,List.map_cons]
  refine .cons ?_ ih
  obtain ⟨h1,h2⟩:=h
  by_cases e:p.1 = k
  ·rw [if_pos e,if_pos (h1.symm.trans e)]; exact ⟨h1,ry⟩
  ·rw [if_neg e,if_neg (fun z=>e (h1.trans z))]; exact ⟨h1,h2⟩
theorem KV.put {kvs:List (κ × V)} {vs:List (κ × Value)} (r:KV kvs vs) (k:κ) {y:V} {u:Value} (ry:RelV y u):KV (putK kvs k y) (stored vs k u):=by
 unfold putK stored
 rw [r.any k]
 by_cases e:(vs.any fun kv=>decide (kv.1 = k)) = true
 ·rw [if_pos e,if_pos e]; exact r.repl k ry
 ·rw [if_neg e,if_neg e]; exact Paired.snoc r ⟨rfl,ry⟩
theorem KV.keys {kvs:List (κ × V)} {vs:List (κ × Value)} (r:KV kvs vs):kvs.map (·.1) = vs.map (·.1):=by
 unfold KV at r
 induction r with
 | nil=>rfl
 | cons h t ih=>rw [List.map_cons,List.map_cons,ih,h.1]
theorem KV.length {kvs:List (κ × V)} {vs:List (κ × Value)} (r:KV kvs vs):kvs.length = vs.length:=Paired.length r
end
theorem jl0 {P:Program} {w:World} {k:Key} {u:Value} (r:RelV (kV k) u):(jbs P w).is k u = true:=by
 cases k with
 | inl i=>obtain ⟨t,e⟩:=(show ∃ t,u = Value.int i t from r); subst e; exact jku P w i t
 | inr x=>obtain ⟨t,e⟩:=(show ∃ t,u = Value.str x t from r); subst e; exact jkt P w x t
theorem jjo {P:Program} {w:World}:∀ {ks:List Key} {us:List Value},Vals (ks.map kV) us->ItemsAre (jbs P w) ks us
 | [],_,r=>by rw [List.map_nil] at r; cases r; exact .nil
 | k :: ks,_,r=>by
  rw [List.map_cons] at r
  cases r with
  | cons h t=>exact .cons (jl0 h) (jjo t)
abbrev KT (H:Hp):List (List Key × V)->List (List Key × Addr × Value)->Prop:=Paired fun p q=>p.1 = q.1/\H q.2.1 = some (.tup (p.1.map kV))/\RelV p.2 q.2.2
theorem KT.val {H:Hp} {kvs:List (List Key × V)} {xs:List (List Key × Addr × Value)} (r:KT H kvs xs) (k:List Key):RelO (valV kvs k) ((atKey xs k).map (·.2)):=by
 induction r with
 | nil=>exact True.intro
 | @cons p q ps qs h t ih =>
  obtain ⟨h1,_,h2⟩:=h
  by_cases e:p.1 = k
  ·have e':q.1 = k:=h1.symm.trans e
   have b:atKey (q :: qs) k = some q.2:=by simp [atKey,List.find?_cons,e']
   rw [jh5 e,b]; exact h2
  ·have e':¬ q.1 = k:=fun z=>e (h1.trans z)
   have b:atKey (q :: qs) k = atKey qs k:=by simp [atKey,List.find?_cons,e']
   rw [jh7 e,b]; exact ih
theorem KT.repl {H:Hp} {kvs:List (List Key × V)} {xs:List (List Key × Addr × Value)} (r:KT H kvs xs) (k:List Key) {y:V} {u:Value} (ry:RelV y u) :
  KT H (kvs.map fun kv=>if kv.1 = k then (kv.1,y) else kv) (xs.map (putAt k u)):=by
 induction r with
 | nil=>exact .nil
 | @cons p q ps qs h t ih =>
  rw [List.map_cons,List.map_cons]
  refine .cons ?_ ih
  obtain ⟨h1,h2,h3⟩:=h
  unfold putAt
  by_cases e:p.1 = k
  ·rw [if_pos e,if_pos (h1.symm.trans e)]; exact ⟨h1,h2,ry⟩
  ·rw [if_neg e,if_neg (fun z=>e (h1.trans z))]; exact ⟨h1,h2,h3⟩
theorem KT.put {H:Hp} {kvs:List (List Key × V)} {xs:List (List Key × Addr × Value)} (r:KT H kvs xs) (k:List Key) {b:Addr} {y:V} {u:Value} (hb:H b = some (.tup (k.map kV))) (ry:RelV y u) :
  KT H (putK kvs k y) (storedH xs k b u):=by
 have e:(kvs.any fun kv=>decide (kv.1 = k)) = (atKey xs k).isSome:=by
  rw [jh8,(r.val k).isSome_eq,Option.isSome_map]
 unfold putK storedH
 rw [e]
 by_cases q:(atKey xs k).isSome = true
 ·rw [if_pos q,if_pos q]; exact r.repl k ry
 ·rw [if_neg q,if_neg q]; exact Paired.snoc r ⟨rfl,hb,ry⟩
theorem KT.keeps {H H':Hp} {kvs:List (List Key × V)} {xs:List (List Key × Addr × Value)} (r:KT H kvs xs) (ht:∀ b ys,H b = some (.tup ys)->H' b = some (.tup ys)):KT H' kvs xs :=
 Paired.mapP r fun _ _ z=>⟨z.1,ht _ _ z.2.1,z.2.2⟩
section
variable {P:Program} {w:World} {H:Hp} {h:Heap} {a:Addr}
theorem rd_of {u:HO} (ok:HOk P w H h) (e:Rd H a u):jca P w H h a u:=e.ok ok
theorem jn3 {kvs:List (Key × V)} (ok:HOk P w H h) (e:Rd H a (.dK kvs)):kvs.length <= sizeLine/\(a == sysModules) = false/\∃ vs,KV kvs vs/\h.DictOf (jbs P w) a vs :=
 show jca P w H h a (.dK kvs) from rd_of ok e
theorem jpa {kvs:List (Key × V)} (ok:HOk P w H h) (e:H a = some (.dK kvs)):kvs.length <= sizeLine/\(a == sysModules) = false/\∃ vs,KV kvs vs/\h.DictOf (jbs P w) a vs:=jn3 ok (.inl e)
theorem jjn {ks:List Key} (ok:HOk P w H h) (e:H a = some (.tup (ks.map kV))):(tupleKind (jbs P w)).is h ks a:=by
 obtain ⟨_,its,r,o,h1,h2,n,h3⟩:=(show jca P w H h a (.tup (ks.map kV)) from ok a _ e)
 exact ⟨o,its.toArray,n,h1,h2,h3,by simpa using jjo r⟩
theorem jn2 {kvs:List (List Key × V)} (ok:HOk P w H h) (e:Rd H a (.dT kvs)):kvs.length <= sizeLine/\(a == sysModules) = false /\
  ∃ xs,KT H kvs xs/\h.DictOfH (tupleKind (jbs P w)) a xs:=by
 obtain ⟨z,y,xs,r,o,es,ep,h1,h2,h3,h4,h5⟩:=(show jca P w H h a (.dT kvs) from rd_of ok e)
 refine ⟨z,y,xs,r,o,es,ep,h1,h2,h3,h4,fun x hx=>?_,h5⟩
 have all:∀ {l:List (List Key × V)} {m:List (List Key × Addr × Value)},KT H l m->∀ x ∈ m,(tupleKind (jbs P w)).is h x.1 x.2.1:=by
  intro l m q
  induction q with
  | nil=>intro x hx; exact nomatch hx
  | @cons p q ps qs hq t ih =>
   intro x hx
   rcases List.mem_cons.mp hx with e | hx
   ·subst e
    exact jjn ok (by rw [<- hq.1]; exact hq.2.1)
   ·exact ih x hx
 exact all r x hx
theorem dt_of {kvs:List (List Key × V)} (ok:HOk P w H h) (e:H a = some (.dT kvs)):kvs.length <= sizeLine/\(a == sysModules) = false /\
  ∃ xs,KT H kvs xs/\h.DictOfH (tupleKind (jbs P w)) a xs:=jn2 ok (.inl e)
end
def DGet (H:Hp) (a:Addr) (y:V) (r:Option V):Prop :=
 (∃ kvs k,Rd H a (.dK kvs)/\y = kV k/\r = valV kvs k) \/ ∃ kvs k b,Rd H a (.dT kvs)/\y = .ref b/\H b = some (.tup (k.map kV))/\r = valV kvs k
def DPut (H:Hp) (a:Addr) (y v:V) (H':Hp):Prop :=
 (∃ kvs k,H a = some (.dK kvs)/\y = kV k/\kvs.length < sizeLine/\H' = upd H a (.dK (putK kvs k v))) \/
 ∃ kvs k b,H a = some (.dT kvs)/\y = .ref b/\H b = some (.tup (k.map kV))/\kvs.length < sizeLine/\H' = upd H a (.dT (putK kvs k v))
theorem DGet.k {H:Hp} {a:Addr} {kvs:List (Key × V)} {k:Key} (e:H a = some (.dK kvs)):DGet H a (kV k) (valV kvs k):=.inl ⟨kvs,k,.inl e,rfl,rfl⟩
theorem DGet.t {H:Hp} {a b:Addr} {kvs:List (List Key × V)} {k:List Key} (e:H a = some (.dT kvs)) (eb:H b = some (.tup (k.map kV))):DGet H a (.ref b) (valV kvs k):=.inr ⟨kvs,k,b,.inl e,rfl,eb,rfl⟩
theorem DPut.k {H:Hp} {a:Addr} {kvs:List (Key × V)} {k:Key} {v:V} (e:H a = some (.dK kvs)) (hl:kvs.length < sizeLine):DPut H a (kV k) v (upd H a (.dK (putK kvs k v))):=.inl ⟨kvs,k,e,rfl,hl,rfl⟩
theorem DPut.t {H:Hp} {a b:Addr} {kvs:List (List Key × V)} {k:List Key} {v:V} (e:H a = some (.dT kvs)) (eb:H b = some (.tup (k.map kV))) (hl:kvs.length < sizeLine) :
  DPut H a (.ref b) v (upd H a (.dT (putK kvs k v))):=.inr ⟨kvs,k,b,e,rfl,eb,hl,rfl⟩
section
variable {X:Cx} {pins:List (Addr × Obj)} {σ:St} {H:Hp} {s:Shared} {a:Addr} {y v:V} {u r:Value} {o:Option V} {A:Around} {E:Value->Shared->Prop}
theorem Inv.big (I:Inv X pins σ H s):sysModules < s.heap.objs.size:=by
 have h:mainGlobals < s.heap.objs.size:=(I.mod.glob.keeps I.bk).lt
 exact Nat.lt_trans (by decide) h
theorem jju {Q:Value->Shared->Prop} (hu:A.units + 1 < cLine) (I:Inv X pins σ H s) (g:DGet H a y (some v)) (ry:RelV y u) (h:∀ w' s',Inv X pins σ H s'->RelV v w'->Q w' s') :
  wpAny (model X.prog X.w) A (getItem (.ref a) u) Q E s:=by
 rcases g with ⟨kvs,k,e,ey,l⟩ | ⟨kvs,k,b,e,ey,eb,l⟩
 ·subst ey
  obtain ⟨z,hd,vs,rel,dd⟩:=jn3 I.hok e
  obtain ⟨w',hw,rw'⟩:=RelO.some_of (v:=v) (o:=valueAt vs k) (by rw [l]; exact rel.val k)
  exact wpAny_getItem_of (jl0 ry) dd.mapOf hw (h w' _ (I.tok _) rw')
 ·subst ey
  cases (show u = Value.ref b from ry)
  obtain ⟨z,hd,xs,rel,dd⟩:=jn2 I.hok e
  obtain ⟨w',hw,rw'⟩:=RelO.some_of (v:=v) (o:=(atKey xs k).map (·.2)) (by rw [l]; exact rel.val k)
  obtain ⟨p,hp,hp2⟩:=Option.map_eq_some_iff.mp hw
  refine wpAny_getItem_heap (tupleKind_room_in1 hu) (jjn I.hok eb) dd hp ?_
  rw [hp2]
  exact h w' _ (I.tok _) rw'
theorem dz0 {Q:Value->Shared->Prop} (hu:A.units + 1 < cLine) (I:Inv X pins σ H s) (g:DGet H a y o) (ry:RelV y u) (h:∀ s',Inv X pins σ H s'->Q (.bool o.isSome) s') :
  wpAny (model X.prog X.w) A (compareOp .In u (.ref a)) Q E s:=by
 rcases g with ⟨kvs,k,e,ey,l⟩ | ⟨kvs,k,b,e,ey,eb,l⟩
 ·subst ey
  obtain ⟨z,hd,vs,rel,dd⟩:=jn3 I.hok e
  refine wpAny_in_of (jl0 ry) hd dd.mapOf ?_
  rw [<- (rel.val k).isSome_eq,<- l]
  exact h _ (I.tok _)
 ·subst ey
  cases (show u = Value.ref b from ry)
  obtain ⟨z,hd,xs,rel,dd⟩:=jn2 I.hok e
  refine wpAny_in_heap (tupleKind_room_in1 hu) (jjn I.hok eb) hd dd ?_
  have q:=(rel.val k).isSome_eq
  rw [Option.isSome_map] at q
  rw [<- q,<- l]
  exact h _ (I.tok _)
theorem jsk {Q:Value->Shared->Prop} (hu:A.units + 1 < cLine) (I:Inv X pins σ H s) (g:DGet H a y o) (ry:RelV y u) (h:∀ s',Inv X pins σ H s'->Q (.bool (!o.isSome)) s') :
  wpAny (model X.prog X.w) A (compareOp .NotIn u (.ref a)) Q E s:=by
 rcases g with ⟨kvs,k,e,ey,l⟩ | ⟨kvs,k,b,e,ey,eb,l⟩
 ·subst ey
  obtain ⟨z,hd,vs,rel,dd⟩:=jn3 I.hok e
  refine wpAny_notIn_of (jl0 ry) hd dd.mapOf ?_
  rw [<- (rel.val k).isSome_eq,<- l]
  exact h _ (I.tok _)
 ·subst ey
  cases (show u = Value.ref b from ry)
  obtain ⟨z,hd,xs,rel,dd⟩:=jn2 I.hok e
  refine wpAny_notIn_heap (tupleKind_room_in1 hu) (jjn I.hok eb) hd dd ?_
  have q:=(rel.val k).isSome_eq
  rw [Option.isSome_map] at q
  rw [<- q,<- l]
  exact h _ (I.tok _)
theorem ji1 {h':Heap} {t':Nat} {ob:HO} (I:Inv X pins σ H s) (mu:Mut (H a)) (hs:Heap.SameBut a s.heap h') (he:∃ q,h'.get? a = some q) (new:jca X.prog X.w (upd H a ob) h' a ob) :
  Inv X pins σ (upd H a ob) { s with heap:=h',toks:=t' } :=
 I.write (x:=a) (e:=a) mu (.inl rfl) (fun b q hb z=>(hs.2 b hb).trans z) he new
theorem jm5 {P:Program} {w:World} {H':Hp} {h':Heap} {kvs:List (Key × V)} {vs:List (Key × Value)} (z:kvs.length <= sizeLine) (hd:(a == sysModules) = false) (rel:KV kvs vs) (dd:h'.DictOf (jbs P w) a vs) :
  jca P w H' h' a (.dK kvs):=⟨z,hd,vs,rel,dd⟩
theorem jpg {H':Hp} {Q:Unit->Shared->Prop} (hu:A.units + 1 < cLine) (I:Inv X pins σ H s) (g:DPut H a y v H') (ry:RelV y u) (rv:RelV v r) (h:∀ s',Inv X pins σ H' s'->Q () s') :
  wpAny (model X.prog X.w) A (setItem (.ref a) u r) Q E s:=by
 rcases g with ⟨kvs,k,e,ey,l,eH⟩ | ⟨kvs,k,b,e,ey,eb,l,eH⟩
 ·subst ey eH
  obtain ⟨z,hd,vs,rel,dd⟩:=jpa I.hok e
  have hz:vs.length <= sizeLine:=by rw [<- rel.length]; exact z
  have hl:(putK kvs k v).length <= sizeLine:=by have:=je5 kvs k v; omega
  refine wpAny_setItem_pairs (hsz:=hz) (jl0 ry) dd fun h' dd' hs=>h _ ?_
  have he:∃ q,h'.get? a = some q:=let ⟨q,_,_,hq,_⟩:=dd'; ⟨q,hq⟩
  exact ji1 I (by rw [e]; exact True.intro) hs he (jm5 hl hd (rel.put k rv) dd')
 ·subst ey eH
  cases (show u = Value.ref b from ry)
  obtain ⟨z,hd,xs,rel,dd⟩:=dt_of I.hok e
  have hz:xs.length <= sizeLine:=by rw [<- Paired.length rel]; exact z
  have hl:(putK kvs k v).length <= sizeLine:=by have:=je5 kvs k v; omega
  refine wpAny_setItem_heap (hsz:=hz) (tupleKind_room_in1 hu) (jjn I.hok eb) dd fun h' dd' hs=>h _ ?_
  obtain ⟨q,es,ep,hq,h2,h3,h4,_,h5⟩:=dd'
  refine ji1 I (by rw [e]; exact True.intro) hs ⟨q,hq⟩ ⟨hl,hd,_,(rel.put k eb rv).keeps fun c ys ec=>?_,q,es,ep,hq,h2,h3,h4,h5⟩
  rw [jae (ne_of ec e (fun z=>nomatch z))]
  exact ec
end
section
variable {X:Cx} {pins:List (Addr × Obj)} {σ:St} {H:Hp} {s:Shared} {a:Addr} {kvs:List (Key × V)} {k:Key} {u:Value} {A:Around} {E:Value->Shared->Prop}
end
def NoSl (i:Expr):Prop:=∀ ov iv,subscripted i false ov iv = operate [ov,iv] (getItem ov iv)
theorem jnk {prog:Program} {w:World} {A:Around} {E:Value->Shared->Prop} {s:Shared} {env:Env} {value slice:Expr} {pos:Pos} {T id:String} {Q:Value->Shared->Prop}
  (hl:typeLookup (.type T) "__getitem__" = pure (some (.builtin id))) (hs:NoSl slice)
  (h:wpAny (model prog w) A (eval value env) (fun o s₁=>wpAny (model prog w) A (eval slice env) (fun i s₂=>s₂.TypeIs o T/\wpAny (model prog w) A (getItem o i) Q E s₂) E s₁) E s) :
  wpAny (model prog w) A (eval (.Subscript value slice pos) env) Q E s:=by
 refine Subscript_ (wpAny_mono h (fun o s₁ h₁=>wpAny_mono h₁ (fun i s₂ h₂=>?_) fun _ _ x=>x) fun _ _ x=>x)
 obtain ⟨hT,h₂⟩:=h₂
 unfold subscriptTail
 refine wpAny_bind ?_
 rw [getitemInPython_of_ne hT.not_modules]
 refine wpAny_bind (wpAny_specialOf hT hl ?_)
 have fin:wpAny (model prog w) A (subscripted slice false o i) (fun r s₃=>wpAny (model prog w) A (letTemporaryGo value o r >>= fun _=>pure r) Q E s₃) E s₂:=by
  rw [hs o i]
  exact wpAny_operating (wpAny_mono h₂ (fun r s₃ h₃=>wpAny_bind (wpAny_letTemporaryGo (wpAny_pure h₃))) fun _ _ x=>x)
 first
  | exact wpAny_pure (wpAny_bind fin)
  | exact wpAny_bind (wpAny_pure (wpAny_bind fin))
  | exact wpAny_bind fin
theorem jg5 {X:Cx} {pins:List (Addr × Obj)} {σ:St} {H:Hp} {s:Shared} {a:Addr} {y:V} {o:Option V} (I:Inv X pins σ H s) (g:DGet H a y o):s.TypeIs (.ref a) "dict":=by
 rcases g with ⟨kvs,k,e,_,_⟩ | ⟨kvs,k,b,e,_,_,_⟩
 ·obtain ⟨_,_,vs,_,dd⟩:=jn3 I.hok e
  exact dd.typeIs
 ·obtain ⟨_,_,xs,_,dd⟩:=jn2 I.hok e
  exact dd.typeIs
def tDGet (td ty:TE):TE:=fun σ H Q=>td σ H fun x H1=>ty σ H1 fun y H2=>∃ a v,x = .ref a/\DGet H2 a y (some v)/\Q v H2
section
variable {X:Cx} {o i e value:Expr} {pos pos' tpos:Pos} {td ty tv:TE}
theorem js4 (hu:X.A.units + 1 < cLine) (ho:PE X o td) (hi:PE X i ty) (hs:NoSl i):PE X (.Subscript o i pos) (tDGet td ty):=by
 intro pins s σ H Q I h
 refine jnk PySem.F.slot_dict_getitem.lookup hs (thn (ho pins s σ H _ I h) fun u s1 ⟨x,H1,I1,rx,q1⟩=>thn (hi pins s1 σ H1 _ I1 q1) fun iv s2 ⟨y,H2,I2,ry,a,v,ex,g,q2⟩=>?_)
 subst ex
 obtain rfl:u = Value.ref a:=rx
 exact ⟨jg5 I2 g,jju hu I2 g ry fun w' s3 I3 rw'=>⟨v,H2,I3,rw',q2⟩⟩
end
theorem jm6 {P:Program} {w:World} {H:Hp} (h:Heap) (hb:sysModules < h.objs.size):jca P w H (h.push { cls:=.type "dict",data:=.dict #[] }) h.objs.size (.dK []) :=
 ⟨Nat.zero_le _,beq_eq_false_iff_ne.mpr (Ne.symm (Nat.ne_of_lt hb)),[],.nil,Heap.DictOf.new h⟩
def jgo:TE:=fun _ H Q=>∀ p,H p = none->Q (.ref p) (upd H p (.dK []))
section
variable {X:Cx} {pos:Pos}
theorem jeb:PE X (.Dict [] [] pos) jgo:=fun pins s σ H Q I h =>
 wpAny_Dict_empty ⟨.ref s.heap.objs.size,_,I.laid (a:=s.heap.objs.size) (o:=.dK []) (t':=s.toks) (fun _ _ q=>Heap.get?_push_of_some _ q) (Nat.le_refl _) (jm6 s.heap I.big),rfl,h _ (I.hok.fresh (Nat.le_refl _))⟩
end
def jgn:List (TE × TE)->St->Hp->(List (V × V)->Hp->Prop)->Prop
 | [],_,H,Q=>Q [] H
 | (tk,tv) :: r,σ,H,Q=>tk σ H fun x H1=>tv σ H1 fun y H2=>jgn r σ H2 fun ps H3=>Q ((x,y) :: ps) H3
abbrev VV:List (V × V)->List (Value × Value)->Prop:=Paired fun p q=>RelV p.1 q.1/\RelV p.2 q.2
def PPs (X:Cx) (pos:Pos) (keys:List (Option Expr)) (values:List Expr) (trs:List (TE × TE)):Prop :=
 ∀ (pins:List (Addr × Obj)) (s:Shared) (σ:St) (H:Hp) (Q:List (V × V)->Hp->Prop),Inv X pins σ H s->jgn trs σ H Q ->
  wpAny (model X.prog X.w) X.A (evalPairs (pairTrees keys values X.env pos)) (fun vs s'=>∃ ps H',Inv X pins σ H' s'/\VV ps vs/\Q ps H') X.xe s
theorem jke {X:Cx} {pos:Pos}:PPs X pos [] [] []:=fun pins s σ H Q I h=>pairTrees_nil_walk ⟨[],H,I,.nil,h⟩
theorem jhl {X:Cx} {pos:Pos} {k v:Expr} {ks:List (Option Expr)} {vs:List Expr} {tk tv:TE} {trs:List (TE × TE)} (hk:PE X k tk) (hv:PE X v tv) (hr:PPs X pos ks vs trs) :
  PPs X pos (some k :: ks) (v :: vs) ((tk,tv) :: trs):=fun pins s σ H Q I h =>
 pairTrees_cons_walk (thn (hk pins s σ H _ I h) fun u s1 ⟨x,H1,I1,rx,q1⟩=>thn (hv pins s1 σ H1 _ I1 q1) fun w2 s2 ⟨y,H2,I2,ry,q2⟩ =>
  thn (hr pins s2 σ H2 _ I2 q2) fun ws s3 ⟨ps,H3,I3,rel,q3⟩=>⟨(x,y) :: ps,H3,I3,.cons ⟨rx,ry⟩ rel,q3⟩)
def jcf (kvs more:List (Key × V)):List (Key × V):=more.foldl (fun acc kv=>putK acc kv.1 kv.2) kvs
theorem KV.merge:∀ {more:List (Key × V)} {rs:List (Key × Value)} {kvs:List (Key × V)} {vs:List (Key × Value)},KV more rs->KV kvs vs->KV (jcf kvs more) (merged vs rs):=by
 intro more rs kvs vs r
 unfold KV at r
 induction r generalizing kvs vs with
 | nil=>intro q; exact q
 | @cons p q ps qs h t ih =>
  intro r0
  have e:KV (putK kvs p.1 p.2) (stored vs q.1 q.2):=by
   have:=r0.put p.1 h.2
   rw [<- h.1]; exact this
  exact ih e
theorem jdg:∀ (more kvs:List (Key × V)),(jcf kvs more).length <= kvs.length + more.length
 | [],kvs=>by show kvs.length <= kvs.length + 0; omega
 | p :: r,kvs=>by
  have h1:=jdg r (putK kvs p.1 p.2)
  have h2:=je5 kvs p.1 p.2
  show (jcf (putK kvs p.1 p.2) r).length <= _
  rw [List.length_cons]; omega
theorem jh4 {P:Program} {w:World}:∀ {kvs:List (Key × V)} {ws:List (Value × Value)},VV (kvs.map fun kv=>(kV kv.1,kv.2)) ws->∃ rs,Carries (jbs P w) ws rs/\KV kvs rs
 | [],_,r=>by rw [List.map_nil] at r; cases r; exact ⟨[],True.intro,.nil⟩
 | p :: kvs,_,r=>by
  rw [List.map_cons] at r
  cases r with
  | @cons a b as bs h t =>
   obtain ⟨rs,c,q⟩:=jh4 (P:=P) (w:=w) t
   obtain ⟨b1,b2⟩:=b
   exact ⟨(p.1,b2) :: rs,⟨jl0 h.1,rfl,c⟩,.cons ⟨rfl,h.2⟩ q⟩
def jpx (trs:List (TE × TE)):TE:=fun σ H Q=>∀ p,H p = none->jgn trs σ (upd H p (.dK [])) fun ps H2=>H2 p = some (.dK [])/\∃ kvs:List (Key × V),ps = kvs.map (fun kv=>(kV kv.1,kv.2))/\kvs.length <= 15/\Q (.ref p) (upd H2 p (.dK (jcf [] kvs)))
theorem jkf {X:Cx} {pos:Pos} {keys:List (Option Expr)} {values:List Expr} {trs:List (TE × TE)} (h:PPs X pos keys values trs) (hall:keys.all (·.isSome) = true) (hl:keys.length = values.length) (h0:keys ≠ [])
  (h15:keys.length <= 15):PE X (.Dict keys values pos) (jpx trs):=by
 intro pins s σ H Q I q
 have hn:=I.hok.fresh (Nat.le_refl s.heap.objs.size)
 have I1:=I.laid (a:=s.heap.objs.size) (o:=.dK []) (h':=s.heap.push { cls:=.type "dict",data:=.dict #[] }) (t':=s.toks) (fun _ _ q=>Heap.get?_push_of_some _ q) (Nat.le_refl _) (jm6 s.heap I.big)
 refine wpAny_Dict_walk (knd:=jbs X.prog X.w) hall hl h0 h15 (thn (h pins _ σ _ _ I1 (q _ hn)) fun ws s2 ⟨ps,H2,I2,rel,e,kvs,ep,lk,q2⟩=>?_)
 subst ep
 obtain ⟨rs,c,rk⟩:=jh4 (P:=X.prog) (w:=X.w) rel
 obtain ⟨z,hd,vs0,r0,dd⟩:=jpa I2.hok e
 cases r0
 refine ⟨rs,c,dd,fun h' dd' hs=>⟨.ref s.heap.objs.size,_,?_,rfl,q2⟩⟩
 have hz:(jcf [] kvs).length <= sizeLine:=by
  have h1:=jdg kvs []
  rw [List.length_nil] at h1
  rw [sizeLine_eq]; omega
 have he:∃ q,h'.get? s.heap.objs.size = some q:=let ⟨q,_,_,hq,_⟩:=dd'; ⟨q,hq⟩
 exact ji1 I2 (by rw [e]; exact True.intro) hs he (jm5 hz hd (rk.merge .nil) dd')
structure M1 (X:Cx) (o:Expr) (m:Str) (apos:Pos) (e:Expr) (cpos:Pos):Prop where
 base:attributeBase o m X.env (eval o X.env) = eval o X.env
 few:((backTo cpos (starEach [e] X.env)).all (fun x=>!x.1) && (backToKw cpos (keywordEach [] X.env)).all (fun x=>x.1.isSome)
  && decide (([e]:List Expr).length + ([]:List Keyword).length + (if ([]:List Keyword).isEmpty then 0 else 1) < 30)) = true
 line:(apos.endLine == cpos.line) = true
 trees:backTo cpos (starEach [e] X.env) = [(false,eval e X.env)]
structure M2 (X:Cx) (o:Expr) (m:Str) (apos:Pos) (e f:Expr) (cpos:Pos):Prop where
 base:attributeBase o m X.env (eval o X.env) = eval o X.env
 few:((backTo cpos (starEach [e,f] X.env)).all (fun x=>!x.1) && (backToKw cpos (keywordEach [] X.env)).all (fun x=>x.1.isSome)
  && decide (([e,f]:List Expr).length + ([]:List Keyword).length + (if ([]:List Keyword).isEmpty then 0 else 1) < 30)) = true
 line:(apos.endLine == cpos.line) = true
 trees:backTo cpos (starEach [e,f] X.env) = [(false,eval e X.env),(false,eval f X.env)]
def IsD (H:Hp) (a:Addr):Prop:=(∃ kvs,Rd H a (.dK kvs)) \/ ∃ kvs,Rd H a (.dT kvs)
theorem isD_at {X:Cx} {pins:List (Addr × Obj)} {σ:St} {H:Hp} {s:Shared} {a:Addr} (I:Inv X pins σ H s) (d:IsD H a) :
  s.TypeIs (.ref a) "dict"/\(∀ b,Value.ref a = .ref b->∃ ob,s.heap.get? b = some ob/\ob.dict = none)/\(a == sysModules) = false:=by
 rcases d with ⟨kvs,e⟩ | ⟨kvs,e⟩
 ·obtain ⟨_,hd,vs,_,dd⟩:=jn3 I.hok e
  refine ⟨dd.typeIs,fun b q=>?_,hd⟩
  cases q
  obtain ⟨ob,_,_,h1,h2,_⟩:=dd
  exact ⟨ob,h1,h2.2.1⟩
 ·obtain ⟨_,hd,xs,_,dd⟩:=jn2 I.hok e
  refine ⟨dd.typeIs,fun b q=>?_,hd⟩
  cases q
  obtain ⟨ob,_,_,h1,h2,_⟩:=dd
  exact ⟨ob,h1,h2.2.1⟩
section
variable {X:Cx} {pins:List (Addr × Obj)} {σ:St} {H:Hp} {s:Shared} {a:Addr} {y d:V} {u r:Value} {o:Option V} {A:Around} {E:Value->Shared->Prop}
end
section
variable {X:Cx} {o e f:Expr} {apos cpos:Pos} {td ty tx:TE}
end
section
variable {X:Cx} {pins:List (Addr × Obj)} {σ:St} {H:Hp} {s:Shared} {a:Addr} {kvs:List (Key × V)} {A:Around} {E:Value->Shared->Prop}
end
section
variable {X:Cx} {pins:List (Addr × Obj)} {σ:St} {H:Hp} {s:Shared} {a:Addr} {y:V} {u:Value} {A:Around} {E:Value->Shared->Prop}
end
section
variable {κ:Type} [DecidableEq κ]
end
def jci (env:Env):List (Str × NameKind)->List (Str × Addr)->List (Str × Addr)
 | [],acc=>acc
 | (n,k) :: r,acc=>jci env r (if k == .free then (n,(env.cells.lookup n).getD 0) :: acc else acc)
theorem jd8 {scope:Scope} {env:Env} (h:∀ y ∈ scope.names,y.2 = .free->∃ c,env.cells.lookup y.1 = some c) :
    closureFor scope env = pure (jci env scope.names []):=by
  have key:∀ (l:List (Str × NameKind)) (acc:List (Str × Addr)),(∀ y ∈ l,y.2 = .free->∃ c,env.cells.lookup y.1 = some c) ->
      (forIn l acc fun (x:Str × NameKind) (r:List (Str × Addr)) =>
        (if x.2 == NameKind.free then do
          let c <- cellOf env x.1
          pure (ForInStep.yield ((x.1,c) :: r))
        else pure (ForInStep.yield r):Sem (ForInStep (List (Str × Addr))))) = pure (jci env l acc):=by
    intro l
    induction l with
    | nil=>intro acc _; rfl
    | cons y r ih =>
      intro acc hy
      obtain ⟨n,k⟩:=y
      rw [List.forIn_cons]
      by_cases hk:k = .free
      · subst hk
        obtain ⟨c,hc⟩:=hy (n,.free) List.mem_cons_self rfl
        have e1:cellOf env n = pure c:=by unfold cellOf; rw [hc]
        simp only [beq_self_eq_true,if_true]
        rw [e1]
        show (pure c >>= fun c=>pure (ForInStep.yield ((n,c) :: acc))) >>= _ = _
        have e2:jci env ((n,NameKind.free) :: r) acc = jci env r ((n,c) :: acc):=by
          have hc':env.cells.lookup n = some c:=hc
          show jci env r (if (NameKind.free == NameKind.free) = true then (n,(env.cells.lookup n).getD 0) :: acc else acc) = _
          rw [hc']
          rfl
        rw [e2]
        exact ih _ fun z hz=>hy z (List.mem_cons_of_mem _ hz)
      · have hb:(k == NameKind.free) = false:=by simpa using hk
        simp only [hb,Bool.false_eq_true,if_false]
        have e2:jci env ((n,k) :: r) acc = jci env r acc:=by
          show jci env r (if (k == NameKind.free) = true then _ else acc) = _
          rw [hb]; rfl
        rw [e2]
        exact ih _ fun z hz=>hy z (List.mem_cons_of_mem _ hz)
  unfold closureFor
  have e:=key scope.names [] h
  have e3:∀ (f:Str × NameKind->List (Str × Addr)->Sem (ForInStep (List (Str × Addr)))),(f = fun x r=>(if x.2 == NameKind.free then do
          let c <- cellOf env x.1
          pure (ForInStep.yield ((x.1,c) :: r))
        else pure (ForInStep.yield r)))->(forIn scope.names [] f >>= fun r=>pure r) = (pure (jci env scope.names []):Sem (List (Str × Addr))):=by
    intro f hf
    rw [hf,e]
    rfl
  exact e3 _ rfl
theorem jek {env:Env} {x:Str}:∀ (l:List (Str × NameKind)) (acc:List (Str × Addr)) (c:Addr),(jci env l acc).lookup x = some c ->
  ((∃ y ∈ l,y.1 = x/\y.2 = .free)/\(env.cells.lookup x).getD 0 = c) \/ acc.lookup x = some c
 | [],acc,c,h=>.inr h
 | (n,k) :: r,acc,c,h=>by
  rcases jek r _ c h with ⟨⟨y,hy,e⟩,q⟩ | q
  ·exact .inl ⟨⟨y,List.mem_cons_of_mem _ hy,e⟩,q⟩
  ·by_cases hk:k = .free
   ·subst hk
    have q':List.lookup x ((n,(env.cells.lookup n).getD 0) :: acc) = some c:=q
    rw [List.lookup_cons] at q'
    cases hx:x == n with
    | true =>
     rw [hx] at q'
     have hx':x = n:=by simpa using hx
     subst hx'
     exact .inl ⟨⟨_,List.mem_cons_self,rfl,rfl⟩,Option.some.inj q'⟩
    | false=>rw [hx] at q'; exact .inr q'
   ·have hb:(k == NameKind.free) = false:=by simpa using hk
    rw [hb] at q
    exact .inr q
theorem jew {env:Env} {x:Str}:∀ (l:List (Str × NameKind)) (acc:List (Str × Addr)),((∃ y ∈ l,y.1 = x/\y.2 = .free) \/ (acc.lookup x).isSome)->((jci env l acc).lookup x).isSome
 | [],acc,h=>by
  rcases h with ⟨y,hy,_⟩ | h
  ·cases hy
  ·exact h
 | (n,k) :: r,acc,h=>by
  show ((jci env r (if (k == NameKind.free) = true then _ else acc)).lookup x).isSome
  refine jew r _ ?_
  rcases h with ⟨y,hy,e1,e2⟩ | h
  ·rcases List.mem_cons.mp hy with rfl | hy
   ·have e2':k = .free:=e2
    have e1':n = x:=e1
    subst e2' e1'
    refine .inr ?_
    simp [List.lookup_cons]
   ·exact .inl ⟨y,hy,e1,e2⟩
  ·refine .inr ?_
   split
   ·rw [List.lookup_cons]
    split
    ·rfl
    ·exact h
   ·exact h
structure CpScope (X:Cx) (scope:Scope) (N:List Str) (src:List (Option Nat)):Prop where
 kind:scope.kind = .function
 nocell:∀ y ∈ scope.names,y.2 ≠ .cell
 locs:∀ y ∈ scope.names,y.2 = .local->scope.names.lookup y.1 = some .local
 frees:∀ y ∈ scope.names,y.2 = .free->scope.names.lookup y.1 = some .free/\X.env.scope.names.lookup y.1 = some .cell
 nd:N.Nodup
 len:src.length = N.length
 cap:∀ (i j:Nat),src[i]? = some (some j)->X.N[j]? = N[i]?/\(N[i]?).elim False (fun x=>scope.names.lookup x = some .free)
def cst (src:List (Option Nat)) (σ:St):St:=src.map fun o=>o.bind fun j=>(σ[j]?).join
theorem jcx {env:Env} (hk:env.scope.kind = .function):∀ {names:List (Str × NameKind)} {x:Str},names.lookup x = some .free->env.kindOf x = some .cell ->
  (names.map fun (n,k)=>if (k == NameKind.free && env.scope.kind == .function && env.kindOf n == some .cell) then (n,NameKind.cell) else (n,k)).lookup x = some .cell
 | [],_,h,_=>by simp at h
 | (n,k) :: r,x,h,hc=>by
  have ih:=@jcx env hk r x
  show List.lookup x ((if (k == NameKind.free && env.scope.kind == .function && env.kindOf n == some .cell) = true then (n,NameKind.cell) else (n,k)) :: _) = _
  cases hx:x == n with
  | true =>
   simp only [List.lookup_cons,hx] at h
   cases h
   have hx':x = n:=by simpa using hx
   subst hx'
   rw [if_pos (by rw [hk,hc]; rfl)]
   simp [List.lookup_cons]
  | false =>
   simp only [List.lookup_cons,hx] at h
   by_cases hq:(k == NameKind.free && env.scope.kind == .function && env.kindOf n == some .cell) = true
   ·rw [if_pos hq]; simp only [List.lookup_cons,hx]; exact ih h hc
   ·rw [if_neg hq]; simp only [List.lookup_cons,hx]; exact ih h hc
theorem jcb {env:Env}:∀ {names:List (Str × NameKind)} {x:Str} {k':NameKind},
  (names.map fun (n,k)=>if (k == NameKind.free && env.scope.kind == .function && env.kindOf n == some .cell) then (n,NameKind.cell) else (n,k)).lookup x = some k' ->
   names.lookup x = some k' \/ (names.lookup x = some .free/\k' = .cell)
 | [],_,_,h=>by simp at h
 | (n,k) :: r,x,k',h=>by
  have ih:=@jcb env r x k'
  have h:List.lookup x ((if (k == NameKind.free && env.scope.kind == .function && env.kindOf n == some .cell) = true then (n,NameKind.cell) else (n,k)) :: _) = _:=h
  cases hx:x == n with
  | true =>
   by_cases hq:(k == NameKind.free && env.scope.kind == .function && env.kindOf n == some .cell) = true
   ·rw [if_pos hq] at h
    have h1:=h
    simp only [List.lookup_cons,hx]
    have:k = .free:=by
     have:=(Bool.and_eq_true _ _ ▸ (Bool.and_eq_true _ _ ▸ hq).1).1
     simpa using this
    subst this
    refine .inr ⟨rfl,?_⟩
    have h2:List.lookup x ((n,NameKind.cell) :: (r.map fun (n,k)=>if (k == NameKind.free && env.scope.kind == .function && env.kindOf n == some .cell) then (n,NameKind.cell) else (n,k))) = some k':=h1
    simp only [List.lookup_cons,hx] at h2
    exact (Option.some.inj h2).symm
   ·rw [if_neg hq] at h
    simp only [List.lookup_cons,hx] at h ⊢
    exact .inl h
  | false =>
   have h':List.lookup x (r.map fun (n,k)=>if (k == NameKind.free && env.scope.kind == .function && env.kindOf n == some .cell) then (n,NameKind.cell) else (n,k)) = some k':=by
    by_cases hq:(k == NameKind.free && env.scope.kind == .function && env.kindOf n == some .cell) = true
    ·rw [if_pos hq] at h
     simpa only [List.lookup_cons,hx] using h
    ·rw [if_neg hq] at h
     simpa only [List.lookup_cons,hx] using h
   simp only [List.lookup_cons,hx]
   exact ih h'
def Cx.block (X:Cx) (scope:Scope) (N:List Str) (fp:List Addr) (s₀:Shared) (H₀:Hp) (C:Addr):Cx where
 prog:=X.prog
 w:=X.w
 K:=X.K
 mg:=X.mg
 base:=X.base
 A:=X.A
 N:=N
 s₀:=s₀
 H₀:=H₀
 env:=compEnvC scope (jci X.env scope.names []) C X.env
 outer:=X.stack
 stack:=X.stack
 ex:=fp
 calm:=X.calm
 fn:=fun _=>false
 pn:=[]
 xe:=fun _ _=>False
theorem jp0 {o:Option (Option V)} {v:V} (h:o.join = some v):o = some (some v):=by
 cases o with
 | none=>cases h
 | some z=>cases z with
  | none=>cases h
  | some z=>rw [show z = v from Option.some.inj h]
theorem Inv.enter {X:Cx} {scope:Scope} {N:List Str} {src:List (Option Nat)} {pins:List (Addr × Obj)} {σ:St} {H:Hp} {s s4:Shared} {fp:List Addr} (S:CpScope X scope N src) (I:Inv X pins σ H s)
  (f2:∀ b ∈ fp,FpOk X pins H b) (lt:∀ b ∈ fp,b < s.heap.objs.size) (hns:s4.heap.Ns s.heap.objs.size fun _=>none) (hk:∀ b o,s.heap.get? b = some o->s4.heap.get? b = some o) (hos:s4.os = s.os) (hg:s4.gens = s.gens) :
  Inv (X.block scope N fp s H s.heap.objs.size) [] (cst src σ) H s4:=by
 have cells:∀ x c,(jci X.env scope.names []).lookup x = some c->X.env.cells.lookup x = some c:=fun x c e=>by
  rcases jek _ _ _ e with ⟨⟨y,hy,e1,e2⟩,q⟩ | q
  ·obtain ⟨c',hc'⟩:=I.ok.has y.1 (.inl (S.frees y hy e2).2)
   rw [e1] at hc'
   rw [hc'] at q ⊢
   exact congrArg some q
  ·cases q
 refine ⟨⟨I.mod,S.kind,I.ok.glob,I.ok.blt,Nat.le_refl _,fun x y c h1 h2=>I.ok.inj x y c (cells x c h1) (cells y c h2),fun x hx=>?_,fun x c h=>absurd (show false = true from h) Bool.false_ne_true,I.ok.hd,I.ok.frames,.inl rfl,fun b hb=>?_,I.bs,
   Nat.le_trans I.ok.bsz I.sz,fun b o e hb=>?_,fun b hb z=>?_,I.stack,I.stkFree⟩,hos,?_,Un.kept hk,⟨fun _=>none,hns,fun i x v h1 h2 h3=>?_⟩,fun x c e=>?_,I.fresh,fun x c e=>I.freeC x c (cells x c e),fun p hp=>?_,I.hok.kept hk,?_⟩
 ·have hx':(scope.names.map fun (n,k)=>if (k == NameKind.free && X.env.scope.kind == .function && X.env.kindOf n == some .cell) then (n,NameKind.cell) else (n,k)).lookup x = some .cell \/ (scope.names.map fun (n,k)=>if (k == NameKind.free && X.env.scope.kind == .function && X.env.kindOf n == some .cell) then (n,NameKind.cell) else (n,k)).lookup x = some .free:=hx
  have hf:scope.names.lookup x = some .free:=by
   rcases hx' with h | h
   ·rcases jcb h with h | h
    ·exact absurd rfl (S.nocell _ (PySem.mem_of_lookup h))
    ·exact h.1
   ·rcases jcb h with h | h
    ·exact h
    ·cases h.2
  have hsome:=jew (env:=X.env) (x:=x) scope.names [] (.inl ⟨_,PySem.mem_of_lookup hf,rfl,rfl⟩)
  exact Option.isSome_iff_exists.mp hsome
 ·exact ⟨Nat.ne_of_lt (lt b hb),fun x c e=>(f2 b hb).2.2.2.2.1 x c (cells x c e)⟩
 ·have hb':b ∈ fp:=hb
  rcases (f2 b hb').2.2.2.1 with z | z
  ·exact I.ok.noex b o e z
  ·exact absurd (Nat.lt_of_lt_of_le (Heap.lt_size e) (Nat.le_trans I.ok.bsz z)) (Nat.lt_irrefl _)
 ·have hb':b ∈ fp:=hb
  have z':b ∈ frs X.stack:=z
  rcases List.mem_cons.mp (I.stkSub b z') with e | e
  ·exact (f2 b hb').2.1 e
  ·exact (f2 b hb').2.2.1 e
 ·rw [hg]; exact I.bare
 ·have h2':(src.map fun o=>o.bind fun j=>(σ[j]?).join)[i]? = some (some v):=h2
  rw [List.getElem?_map] at h2'
  cases e:src[i]? with
  | none=>rw [e] at h2'; cases h2'
  | some o =>
   rw [e] at h2'
   cases o with
   | none=>cases h2'
   | some j =>
    have h4:(σ[j]?).join = some v:=Option.some.inj h2'
    have h5:=jp0 h4
    obtain ⟨c1,c2⟩:=S.cap i j e
    have h1':N[i]? = some x:=h1
    rw [h1'] at c1 c2
    have c2':scope.names.lookup x = some .free:=c2
    have c3:=(S.frees _ (PySem.mem_of_lookup c2') rfl).2
    obtain ⟨m,hn,hl⟩:=I.loc
    obtain ⟨u,r,l⟩:=hl j x v c1 h5 (.inr (.inl c3))
    refine ⟨u,r,?_⟩
    have c3':X.env.kindOf x = some .cell:=c3
    rcases l with ⟨k,_⟩ | ⟨_,c,e1,z⟩
    ·rw [c3'] at k; cases k
    ·refine .inr ⟨.inl (jcx I.ok.kind c2' c3'),c,?_,?_⟩
     ·have hs:=jew (env:=X.env) (x:=x) scope.names [] (.inl ⟨_,PySem.mem_of_lookup c2',rfl,rfl⟩)
      obtain ⟨c',hc'⟩:=Option.isSome_iff_exists.mp hs
      have:=cells x c' hc'
      rw [e1] at this
      cases this
      exact hc'
     ·obtain ⟨o,ho,hd⟩:=z
      exact ⟨o,hk c o ho,hd⟩
 ·obtain ⟨v,o,ho,hd⟩:=I.cell x c (cells x c e)
  exact ⟨v,o,hk c o ho,hd⟩
 ·exact absurd (show p ∈ ([]:List (Addr × Obj)) from hp) (by simp)
 ·show (src.map _).length = N.length
  rw [List.length_map]
  exact S.len
def PIf (X:Cx) (ifs:List Expr) (t:TT):Prop :=
 ∀ (pins:List (Addr × Obj)) (s:Shared) (σ:St) (H:Hp) (Q:Bool->Hp->Prop),Inv X pins σ H s->t σ H Q ->
  wpAny (model X.prog X.w) X.A (forIn ifs true fun c r=>if r = true then do let ok <- isTrue c X.env (eval c X.env); pure (ForInStep.yield ok) else pure (ForInStep.yield r)) (TP X pins σ Q) X.xe s
def jmd:TT:=fun _ H Q=>Q true H
theorem jbj {X:Cx}:PIf X [] jmd:=fun pins s σ H Q I h=>wpAny_tests_nil ⟨H,I,h⟩
theorem jc1 {X:Cx} {c:Expr} {t:TT} (h:PT X c t):PIf X [c] t:=fun pins s σ H Q I hq=>wpAny_tests_one (h pins s σ H Q I hq)
def jpt (J:It) (src:List (Option Nat)) (g:TG) (tc:TT) (te:TE) (Q:VK) (σ:St) (H:Hp) (l:Addr):Prop :=
 ∃ W:Nat->Nat->St->Hp->Prop,(∃ m,W 0 m (cst src σ) (upd H l (.lst [])))/\∀ i m σ' H,W i m σ' H ->
  (J.stop i H/\Q (.ref l) H) \/ (J.go i H/\∃ N:St->Hp->Prop,(∀ σ' H',N σ' H'->∃ m',m' < m/\W (i + 1) m' σ' H')/\∀ x H',J.yld i H x H'->g x σ' H' fun σ2 H2=>tc σ2 H2 fun b H3 =>
   if b = true then te σ2 H3 fun v H4=>∃ xs,H4 l = some (.lst xs)/\xs.length < sizeLine/\N σ2 (upd H4 l (.lst (xs ++ [v]))) else N σ2 H3)
theorem jaw {J:It} {src:List (Option Nat)} {g:TG} {tc:TT} {te:TE} {Q:VK} {σ:St} {H:Hp} {l:Addr} (n:Nat) (Iv:Nat->St->Hp->Prop) (h0:Iv 0 (cst src σ) (upd H l (.lst [])))
  (hs:∀ i σ' Hc,i < n->Iv i σ' Hc->J.go i Hc/\∀ x H',J.yld i Hc x H'->g x σ' H' fun σ2 H2=>tc σ2 H2 fun b H3 =>
   if b = true then te σ2 H3 fun v H4=>∃ xs,H4 l = some (.lst xs)/\xs.length < sizeLine/\Iv (i + 1) σ2 (upd H4 l (.lst (xs ++ [v]))) else Iv (i + 1) σ2 H3)
  (hd:∀ σ' Hc,Iv n σ' Hc->J.stop n Hc/\Q (.ref l) Hc):jpt J src g tc te Q σ H l:=by
 refine ⟨fun i m σ' Hc=>m = n - i/\i <= n/\Iv i σ' Hc,⟨n,by simp,Nat.zero_le _,h0⟩,?_⟩
 rintro i m σ' Hc ⟨rfl,hi,p⟩
 by_cases hlt:i < n
 ·obtain ⟨go,step⟩:=hs i σ' Hc hlt p
  exact .inr ⟨go,Iv (i + 1),fun σ2 H2 p'=>⟨n - (i + 1),by omega,rfl,hlt,p'⟩,step⟩
 ·have e:i = n:=by omega
  subst e
  exact .inl (hd σ' Hc p)
theorem jjv {X:Cx} {elt tg iter:Expr} {ifs:List Expr} {scope:Scope} {pos:Pos} {N:List Str} {src:List (Option Nat)} {g:TG} {tc:TT} {te:TE} {pins:List (Addr × Obj)} {σ:St} {H2:Hp} {s2:Shared}
  {fp:List Addr} {it:Addr} {tn:Nat->Heap->Prop} {J:It} {Q:VK} {E:Value->Shared->Prop} {RR:Value->Addr->Result->Shared->Prop} (S:CpScope X scope N src) (hc:X.calm = true)
  (hg:∀ fp s₀ H₀ C,PG (X.block scope N fp s₀ H₀ C) tg g) (ht:∀ fp s₀ H₀ C,PIf (X.block scope N fp s₀ H₀ C) ifs tc) (he:∀ fp s₀ H₀ C,PE (X.block scope N fp s₀ H₀ C) elt te)
  (I2:Inv X pins σ H2 s2) (T:Turn X.prog X.w X.K tg J fp it tn) (st2:tn 0 s2.heap) (f2:∀ b ∈ fp,FpOk X pins H2 b) (hw:∀ l,H2 l = none->jpt J src g tc te Q σ H2 l)
  (hRR:∀ l C H' s',Inv X pins σ H' s'->(∃ m,s'.heap.Ns C m)->FpOk X pins H' C->Q (.ref l) H'->RR (.ref l) C (.ok .next) s') :
  wpAny (model X.prog X.w) X.A (newList []) (fun acc s₃=>wpAny (model X.prog X.w) X.A (newFunctionEnv scope X.env.globals (jci X.env scope.names []) [] X.env.qual none .none (some X.env)) (fun cenv s₄ =>
   codeAny (model X.prog X.w) X.A (.compStart (.ListComp elt [⟨tg,iter,ifs,0⟩] scope pos) 0 (.ref it) acc { cenv with scope:=relabel scope X.env }) (RR acc cenv.locals) s₄) E s₃) E s2:=by
 have hl0:H2 s2.heap.objs.size = none:=I2.fresh
 have I3:Inv X pins σ (upd H2 s2.heap.objs.size (.lst [])) { s2 with heap:=s2.heap.push { cls:=.type "list",data:=.seq ([]:List Value).toArray } }:=I2.lnew (ys:=[]) (its:=[]) (t':=s2.toks) .nil (Nat.zero_le _)
 have ltf:∀ b ∈ fp,b < s2.heap.objs.size:=fun b hb=>by
  obtain ⟨o,e,_⟩:=T.obj _ _ st2 b hb
  exact Heap.lt_size e
 have f3:∀ b ∈ fp,FpOk X pins (upd H2 s2.heap.objs.size (.lst [])) b:=fun b hb=>⟨by rw [jae (Nat.ne_of_lt (ltf b hb))]; exact (f2 b hb).1,(f2 b hb).2⟩
 obtain ⟨W,⟨m0,w0⟩,turn⟩:=hw _ hl0
 refine wpAny_newObj_type (wpAny_newFunctionEnv S.nocell (by intro y hy; simp at hy) (fun h₁ hns₁ hsb₁=>?_) S.kind)
 dsimp only at hns₁ hsb₁ ⊢
 revert I3 f3
 intro I3 f3
 have st1:tn 0 (s2.heap.push { cls:=.type "list",data:=.seq ([]:List Value).toArray }):=T.keep _ _ _ st2 fun b hb o e=>Heap.get?_push_of_some _ e
 have lt3:∀ b ∈ fp,b < (s2.heap.push { cls:=.type "list",data:=.seq ([]:List Value).toArray }).objs.size:=fun b hb=>by rw [Heap.size_push]; exact Nat.lt_succ_of_lt (ltf b hb)
 generalize hH:s2.heap.push { cls:=.type "list",data:=.seq ([]:List Value).toArray } = h3 at I3 st1 lt3 hns₁ hsb₁ ⊢
 have hk:∀ b o,h3.get? b = some o->h₁.get? b = some o:=fun b o e=>hsb₁.extBut b o (Nat.ne_of_lt (Heap.lt_size e)) (Heap.get?_push_of_some _ e)
 have Ib:Inv (X.block scope N fp { s2 with heap:=h3 } (upd H2 s2.heap.objs.size (.lst [])) h3.objs.size) [] (cst src σ) (upd H2 s2.heap.objs.size (.lst [])) { s2 with heap:=h₁,toks:=s2.toks + ([]:List (Str × Value)).length } :=
  Inv.enter (s:={ s2 with heap:=h3 }) S I3 f3 lt3 hns₁ hk rfl rfl
 have fpB:∀ {H':Hp},(∀ b ∈ fp,H' b = none)->∀ b ∈ fp,FpOk (X.block scope N fp { s2 with heap:=h3 } (upd H2 s2.heap.objs.size (.lst [])) h3.objs.size) [] H' b:=fun hn b hb =>
  ⟨hn b hb,(Ib.ok.exf b hb).1,Ib.ok.exfs b hb,.inl hb,(Ib.ok.exf b hb).2,fun p hp=>absurd (show p ∈ ([]:List (Addr × Obj)) from hp) (by simp)⟩
 have tn1:tn 0 h₁:=T.keep _ _ _ st1 fun b _ o e=>hk b o e
 have loop:∀ s₃:Shared,s₃ = { s2 with heap:=h₁,toks:=s2.toks + ([]:List (Str × Value)).length } ->
   codeAny (model X.prog X.w) X.A (.compLoop (.ListComp elt [⟨tg,iter,ifs,0⟩] scope pos) 0 (.ref it) (.ref s2.heap.objs.size) (compEnvC scope (jci X.env scope.names []) h3.objs.size X.env))
    (RR (.ref s2.heap.objs.size) h3.objs.size) s₃:=by
  rintro s₃ rfl
  refine codeAny_loop rfl (fun n s'=>∃ i σ' H',Inv (X.block scope N fp { s2 with heap:=h3 } (upd H2 s2.heap.objs.size (.lst [])) h3.objs.size) [] σ' H' s'/\tn i s'.heap/\(∀ b ∈ fp,H' b = none)/\W i n σ' H') ?_ m0
   ⟨0,_,_,Ib,tn1,fun b hb=>(f3 b hb).1,w0⟩
  rintro n s5 ⟨i,σ5,H5,I5,st5,fr5,w5⟩
  show wpAny _ X.A ((compTurn (.ListComp elt [⟨tg,iter,ifs,0⟩] scope pos) 0 (.ref it) (.ref s2.heap.objs.size) (compEnvC scope (jci X.env scope.names []) h3.objs.size X.env)).onRaise (fun x=>do noteFrame x (compEnvC scope (jci X.env scope.names []) h3.objs.size X.env); theTreesLotGoes x)) _ _ s5
  refine wpAny_noted ?_
  rw [compTurn_list]
  refine wpAny_bind (wpAny_standAt (wpAny_bind ?_))
  rcases turn i n σ5 H5 w5 with ⟨stop,qn⟩ | ⟨go,N',hN',step⟩
  ·refine thn (T.done (X.block scope N fp { s2 with heap:=h3 } (upd H2 s2.heap.objs.size (.lst [])) h3.objs.size) rfl rfl rfl hc i [] s5 σ5 H5 _ I5 (fpB fr5) st5 stop) fun r s6 ⟨hr,I6⟩=>?_
   subst hr
   refine wpAny_pure ?_
   have u6:Un (frs X.stack) fp (upd H2 s2.heap.objs.size (.lst [])) H5 h3 s6.heap:=I6.base
   have hf6:H5 h3.objs.size = none:=I6.free
   have I7:Inv X pins σ H5 s6:=I3.call' (ch:=fp) I6.os u6 I6.hok I6.bare fun b hb=>⟨(f3 b hb).2.2.2.1,(f3 b hb).2.1,(f3 b hb).2.2.2.2.1,(f3 b hb).2.2.2.2.2⟩
   obtain ⟨m,hm,_⟩:=I6.loc
   exact hRR _ _ H5 s6 I7 ⟨m,hm⟩ (I3.fpOk (Nat.le_refl _) hf6) qn
  ·refine thn (T.item (X.block scope N fp { s2 with heap:=h3 } (upd H2 s2.heap.objs.size (.lst [])) h3.objs.size) rfl rfl rfl hc i [] s5 σ5 H5 _ I5 (fpB fr5) st5 go) fun r s6 ⟨u,hr,h6⟩=>?_
   subst hr
   refine wpAny_bind (thn h6 fun _ s7 ⟨x,H7,I7,r7,y7,st7,fr7⟩=>?_)
   have I7':=I7.pinned (fpB fr7) (T.obj _ _ st7)
   have fin:∀ {σ9:St} {H9:Hp} {s9:Shared},Inv (X.block scope N fp { s2 with heap:=h3 } (upd H2 s2.heap.objs.size (.lst [])) h3.objs.size) ([] ++ jiu fp s7.heap) σ9 H9 s9->N' σ9 H9 ->
     ∃ m,m < n/\∃ i σ' H',Inv (X.block scope N fp { s2 with heap:=h3 } (upd H2 s2.heap.objs.size (.lst [])) h3.objs.size) [] σ' H' s9/\tn i s9.heap/\(∀ b ∈ fp,H' b = none)/\W i m σ' H':=fun {σ9 H9 s9} I9 n9=>by
    obtain ⟨m',hm,w9⟩:=hN' σ9 H9 n9
    refine ⟨m',hm,i + 1,σ9,H9,I9.unpinned,T.keep _ _ _ st7 fun b hb o e=>(I9.pin (b,o) (List.mem_append_right _ (List.mem_append_right _ (jdx hb e)))).1,fun b hb=>?_,w9⟩
    obtain ⟨o,e,d⟩:=T.obj _ _ st7 b hb
    exact (I9.pin (b,o) (List.mem_append_right _ (List.mem_append_right _ (jdx hb e)))).2.1
   refine wpAny_bind (wpAny_mono (hg fp _ _ _ _ s7 σ5 H7 x u _ I7' r7 (step x H7 y7)) (fun _ s8 ⟨σ8,H8,I8,q8⟩=>?_) fun _ _ z=>False.elim z)
   refine wpAny_bind (wpAny_mono (ht fp _ _ _ _ s8 σ8 H8 _ I8 q8) (fun ok s9 ⟨H9,I9,q9⟩=>?_) fun _ _ z=>False.elim z)
   cases ok with
   | false=>exact wpAny_pure ⟨rfl,fin I9 q9⟩
   | true =>
    refine wpAny_bind (wpAny_bind (wpAny_mono (he fp _ _ _ _ s9 σ8 H9 _ I9 q9) (fun v s10 ⟨y,H10,I10,r10,xs,hx,hz,q10⟩=>?_) fun _ _ z=>False.elim z))
    refine wpAny_bind (wpAny_mono (jjg (X:=X.block scope N fp { s2 with heap:=h3 } (upd H2 s2.heap.objs.size (.lst [])) h3.objs.size) _ s10 σ8 H10 (.ref s2.heap.objs.size) [y] _ [v] (fun _ H11=>N' σ8 H11) I10 rfl (.cons r10 .nil) ⟨_,xs,y,rfl,rfl,hx,hz,q10⟩)
     (fun _ s11 ⟨_,H11,I11,_,q11⟩=>wpAny_pure (wpAny_pure ⟨rfl,fin I11 q11⟩)) fun _ _ z=>False.elim z)
 exact codeAny_compStart_list (loop _ rfl) (T.self _ 0 _ _ _ tn1 (loop _ rfl))
def jpy (src:List (Option Nat)) (wi:TI) (g:TG) (tc:TT) (te:TE):TE:=fun σ H Q=>wi σ H fun J H1=>∀ l,H1 l = none->jpt J src g tc te Q σ H1 l
theorem jbb {X:Cx} {elt tg iter:Expr} {ifs:List Expr} {scope:Scope} {pos:Pos} {N:List Str} {src:List (Option Nat)} {wi:TI} {g:TG} {tc:TT} {te:TE} (S:CpScope X scope N src) (hc:X.calm = true)
  (hi:PI X tg iter wi) (hg:∀ fp s₀ H₀ C,PG (X.block scope N fp s₀ H₀ C) tg g) (ht:∀ fp s₀ H₀ C,PIf (X.block scope N fp s₀ H₀ C) ifs tc) (he:∀ fp s₀ H₀ C,PE (X.block scope N fp s₀ H₀ C) elt te)
  (hs:∀ x,foldedSetIterable iter X.env x = pure x:=by intro _; rfl):PE X (.ListComp elt [⟨tg,iter,ifs,0⟩] scope pos) (jpy src wi g tc te):=by
 intro pins s σ H Q I h
 rw [eval_ListComp]
 refine wpAny_comprehension_free (use:=none) rfl hs (jd8 fun y hy e=>I.ok.has y.1 (.inl (S.frees y hy e).2)) S.kind S.locs ?_
 refine thn (hi pins s σ H _ I h) fun v s1 h1=>thn h1 fun itv s2 h2=>?_
 obtain ⟨it,fp,tn,J,H2,e,I2,T,st2,f2,hw⟩:=h2
 subst e
 refine jjv (RR:=fun acc C=>compPost (model X.prog X.w) X.A X.xe none (EP X pins σ Q) acc C) S hc hg ht he I2 T st2 f2 hw ?_
 intro l C H' s' I' hm fC q
 obtain ⟨m,hm⟩:=hm
 refine ⟨m,hm,fun h' hs'=>?_⟩
 exact ⟨.ref l,H',I'.turned (t':=s'.toks) (fun b o hb e=>hs'.extBut b o hb e) fC.1 fC.2.1 fC.2.2.2.1 fC.2.2.2.2.1 fC.2.2.2.2.2,rfl,q⟩
theorem jco {X:Cx} {i:Nat} {x:Str} {pos' spos:Pos} {elt tg iter:Expr} {ifs:List Expr} {scope:Scope} {pos:Pos} {N:List Str} {src:List (Option Nat)} {wi:TI} {g:TG} {tc:TT} {te:TE} (hN:X.N.Nodup) (hix:X.N[i]? = some x) (hx:Loc X.env.scope x)
  (S:CpScope X scope N src) (hc:X.calm = true)
  (hi:PI X tg iter wi) (hg:∀ fp s₀ H₀ C,PG (X.block scope N fp s₀ H₀ C) tg g) (ht:∀ fp s₀ H₀ C,PIf (X.block scope N fp s₀ H₀ C) ifs tc) (he:∀ fp s₀ H₀ C,PE (X.block scope N fp s₀ H₀ C) elt te)
  (hsw:swapsWith (.ListComp elt [⟨tg,iter,ifs,0⟩] scope pos) (some (.Name x pos')) spos.line X.env = pure true:=by rfl)
  (hs:∀ x,foldedSetIterable iter X.env x = pure x:=by intro _; rfl) (hf:X.fn x = true \/ X.env.scope.names.lookup x = some .local:=by first | exact .inl rfl | exact .inr rfl | assumption) :
  PS X (.Assign [.Name x pos'] (.ListComp elt [⟨tg,iter,ifs,0⟩] scope pos) spos) (tAsg (jpy src wi g tc te) (jeg i)):=by
 intro pins s σ H D I h
 rw [exec_Assign_Name_used _ _ _ _ hsw]
 refine wpAny_bind (wpAny_standAt (wpAny_bind ?_))
 show wpAny _ X.A (do let _ <- comprehension (.ListComp elt [⟨tg,iter,ifs,0⟩] scope pos) scope X.env _ (newList []) false (eval iter X.env) (some (assign (.Name x pos') X.env))) _ _ s
 refine wpAny_bind (wpAny_mono (wpAny_comprehension_free (use:=some (assign (.Name x pos') X.env)) (Q:=fun _ s'=>SP X pins D .next s') rfl hs (jd8 fun y hy e=>I.ok.has y.1 (.inl (S.frees y hy e).2)) S.kind S.locs
  (thn (hi pins s σ H _ I h) fun v s1 h1=>thn h1 fun itv s2 h2=>?_)) (fun _ s' hq=>wpAny_pure (wpAny_pure hq)) fun _ _ e=>e)
 obtain ⟨it,fp,tn,J,H2,e,I2,T,st2,f2,hw⟩:=h2
 subst e
 refine jjv (Q:=fun v H'=>D.nx (σ.set i (some v)) H') (RR:=fun acc C=>compPost (model X.prog X.w) X.A X.xe (some (assign (.Name x pos') X.env)) (fun _ s'=>SP X pins D .next s') acc C) S hc hg ht he I2 T st2 f2 hw ?_
 intro l C H' s' I' hm fC q
 obtain ⟨m,hm⟩:=hm
 show wpAny _ X.A (assign (.Name x pos') X.env (.ref l)) _ _ _
 refine wpAny_assign_Name (jip I' hN hix hx (v:=.ref l) rfl (fun s'' I'' ⟨a,sb,ha⟩=>?_) hf)
 have hCa:C ≠ a:=by
  rcases ha with rfl | ha
  ·exact fC.2.1
  ·exact fun z=>fC.2.2.2.2.1 x a ha z.symm
 refine ⟨m,hm.sameBut sb hCa,fun h' hs'=>?_⟩
 exact ⟨_,H',I''.turned (t':=s''.toks) (fun b o hb e=>hs'.extBut b o hb e) fC.1 fC.2.1 fC.2.2.2.1 fC.2.2.2.2.1 fC.2.2.2.2.2,q⟩
theorem Inv.turnedNew {X:Cx} {pins:List (Addr × Obj)} {σ:St} {H:Hp} {s:Shared} {h':Heap} {ch:List Addr} {t:Addr} {o:HO} {t':Nat} (I:Inv X pins σ H s) (hsz:s.heap.objs.size <= t)
  (k:∀ b ob,b ∉ ch->s.heap.get? b = some ob->h'.get? b = some ob) (hch:∀ b ∈ ch,FpOk X pins H b) (new:jca X.prog X.w (upd H t o) h' t o) :
  Inv X pins σ (upd H t o) { s with heap:=h',toks:=t' }:=by
 have hn:H t = none:=I.hok.fresh hsz
 have nt:∀ {b ob},s.heap.get? b = some ob->b ≠ t:=fun q=>Nat.ne_of_lt (Nat.lt_of_lt_of_le (Heap.lt_size q) hsz)
 have u:Un (frs X.stack) ch H (upd H t o) s.heap h' :=
  ⟨fun b ob q _ _ hx=>k b ob hx q,fun b ob q _ _ hx=>⟨ob.slots,k b ob hx q⟩,fun b ob q n _=>by rw [jae (nt q)]; exact n,fun b ob q hx=>⟨ob,k b ob hx q⟩,
   fun b xs q=>by rw [jae (jaa q hn)]; exact q,fun b ob xs q=>by rw [jae (jaa q hn)]; exact q,fun b ps q=>⟨#[],by rw [jae (jaa q hn),q]; simp⟩⟩
 refine I.call (g':=s.gens) (t':=t') (d':=s.drawn) u (fun b ob e=>?_) I.bare fun b hb=>⟨(hch b hb).2.2.2.1,(hch b hb).2.1,(hch b hb).2.2.2.2.1,(hch b hb).2.2.2.2.2⟩
 by_cases hb:b = t
 ·subst hb; rw [ja1] at e; cases e; exact new
 ·rw [jae hb] at e
  have ntr:∀ {c u},H c = some u->c ∉ ch:=fun q z=>by rw [(hch _ z).1] at q; cases q
  refine (I.hok b ob e).stay (fun c v hc q=>k c v ?_ q) (fun c q=>by rw [jae (jaa q hn)]; exact q) fun c xs q=>by rw [jae (jaa q hn)]; exact q
  rcases hc with z | z
  ·rw [z]; exact ntr e
  ·exact ntr z
theorem Inv.turnedAll {X:Cx} {pins:List (Addr × Obj)} {σ:St} {H:Hp} {s:Shared} {h':Heap} {ch:List Addr} {t':Nat} (I:Inv X pins σ H s)
  (k:∀ b ob,b ∉ ch->s.heap.get? b = some ob->h'.get? b = some ob) (hch:∀ b ∈ ch,FpOk X pins H b):Inv X pins σ H { s with heap:=h',toks:=t' }:=by
 have u:Un (frs X.stack) ch H H s.heap h' :=
  ⟨fun b ob q _ _ hx=>k b ob hx q,fun b ob q _ _ hx=>⟨ob.slots,k b ob hx q⟩,fun b ob q n _=>n,fun b ob q hx=>⟨ob,k b ob hx q⟩,fun b xs q=>q,fun b ob xs q=>q,fun b ps q=>⟨#[],by rw [q]; simp⟩⟩
 refine I.call (g':=s.gens) (t':=t') (d':=s.drawn) u (fun b ob e=>?_) I.bare fun b hb=>⟨(hch b hb).2.2.2.1,(hch b hb).2.1,(hch b hb).2.2.2.2.1,(hch b hb).2.2.2.2.2⟩
 have ntr:∀ {c u},H c = some u->c ∉ ch:=fun q z=>by rw [(hch _ z).1] at q; cases q
 refine (I.hok b ob e).stay (fun c v hc q=>k c v ?_ q) (fun c q=>q) fun c xs q=>q
 rcases hc with z | z
 ·rw [z]; exact ntr e
 ·exact ntr z
def Ite (K:PySem.W.Frag) (a:Addr):It :=
 ⟨fun i H=>∃ xs x,SqL K H a xs/\xs[i]? = some x,fun i H x H'=>∃ t y,H t = none/\x = .ref t/\H' = upd H t (.tup [.int i,y])/\∀ xs,SqL K H a xs->xs[i]? = some y,fun i H=>∃ xs,SqL K H a xs/\xs.length <= i⟩
theorem jnh {P:Program} {w:World} {K:PySem.W.Frag} {elts:List Expr} {x1:Nat} {pos:Pos} (a e it:Addr) (hne:e ≠ it) :
  Turn P w K (.Tuple elts x1 pos) (Ite K a) [e,it] e (fun i h=>(∃ old,IsEnum h e it i old)/\h.IsListIter it a i) where
 mem:=by simp
 obj:=fun i h st b hb=>by
  obtain ⟨⟨old,he⟩,hit⟩:=st
  have q:b = e \/ b = it:=by simpa using hb
  rcases q with rfl | rfl
  ·exact ⟨_,he,fun v z=>by
    have z':Data.fields _ = Data.cell v:=z
    cases z'⟩
  ·obtain ⟨o,e1,c,d⟩:=hit
   exact ⟨o,e1,fun v z=>by rw [d] at z; cases z⟩
 keep:=fun i h h' st k=>by
  obtain ⟨⟨old,he⟩,hit⟩:=st
  exact ⟨⟨old,k e (by simp) _ he⟩,hit.at fun o z=>k it (by simp) o z⟩
 item:=by
  intro X hP hw hK hc i pins s σ H E I hf st hg
  subst hP hw hK
  obtain ⟨⟨old,he⟩,hit⟩:=st
  obtain ⟨xs,x,hq,hx⟩:=hg
  obtain ⟨its,rv,p,hz⟩:=I.list hq
  obtain ⟨u,hu,ru⟩:=rv.get hx
  have elt:e < s.heap.objs.size:=Heap.lt_size he
  have ilt:it < s.heap.objs.size:=by obtain ⟨_,z,_⟩:=hit; exact Heap.lt_size z
  refine wpAny_pyNext_enum_item he hit p.isList (x:=u) (by simpa using hu) hne fun h1 ho hit1 hT hsz1 hk1=>?_
  refine ⟨_,rfl,wpAny_letOwnedTupleGo_enum ho fun h2 he2 hs2=>?_⟩
  replace hs2:Heap.SameBut e h1 h2:=hs2
  have kk:∀ b ob,b ∉ [e,it]->s.heap.get? b = some ob->h2.get? b = some ob:=fun b ob hb q=>by
   have hb':b ≠ e/\b ≠ it:=by simpa using hb
   exact hs2.extBut b ob hb'.1 (hk1 b ob hb'.1 hb'.2 q)
  have hT2:h2.get? s.heap.objs.size = some { cls:=.type "tuple",data:=.seq #[.int i s.toks,u] }:=(hs2.2 _ (Nat.ne_of_gt elt)).trans hT
  refine ⟨.ref s.heap.objs.size,upd H s.heap.objs.size (.tup [.int i,x]),I.turnedNew (ch:=[e,it]) (Nat.le_refl _) kk hf ?_,rfl,⟨_,x,I.fresh,rfl,rfl,fun ys hy=>by rw [I.list_inj hy hq]; exact hx⟩,⟨⟨u,by simpa using he2⟩,hit1.at fun o z=>(hs2.2 it hne.symm).trans z⟩,fun b hb=>?_⟩
  ·exact ⟨by show 2 <= sizeLine; decide,[.int i s.toks,u],.cons ⟨_,rfl⟩ (.cons ru .nil),⟨_,hT2,rfl,_,rfl⟩⟩
  ·have hb':b = e \/ b = it:=by simpa using hb
   have:b ≠ s.heap.objs.size:=by
    rcases hb' with rfl | rfl
    ·exact Nat.ne_of_lt elt
    ·exact Nat.ne_of_lt ilt
   rw [jae this]
   exact (hf b hb).1
 done:=by
  intro X hP hw hK hc i pins s σ H E I hf st hg
  subst hP hw hK
  obtain ⟨⟨old,he⟩,hit⟩:=st
  obtain ⟨xs,hq,hx⟩:=hg
  obtain ⟨its,rv,p,hz⟩:=I.list hq
  have hl:=rv.length
  refine wpAny_pyNext_enum_end (I.ok.hd hc) he hit p.isList (by simp; omega) fun h' eb=>⟨rfl,I.turnedAll (ch:=[e,it]) (t':=s.toks) (fun b o hb q=>eb b o (fun z=>hb (by simp [z])) q) hf⟩
 self:=fun _ _ _ _ _ st h=>by
  obtain ⟨⟨old,he⟩,_⟩:=st
  exact wpAny_pyIter_enum he h
def iEnum (K:PySem.W.Frag) (ta:TA):TI:=fun σ H R=>ta σ H fun vs H1=>∃ a,vs = [.ref a]/\(∃ xs,SqL K H1 a xs)/\R (Ite K a) H1
theorem jod {X:Cx} {elts:List Expr} {x1:Nat} {tpos:Pos} {a:Expr} {ta:TA} {p pos:Pos} (hg:Gl X "enumerate") (hm:X.mg "enumerate" = none) (ha:PA X [a] ta) (hs:starEach [a] X.env = [(false,eval a X.env)]:=by rfl) :
  PI X (.Tuple elts x1 tpos) (.Call (.Name "enumerate" p) [a] [] pos) (iEnum X.K ta):=by
 intro pins s σ H R I h
 refine Call_ (jez I hg hm boot_enumerate (PyProof.Rows.callWith_type1 (thn (ha pos pins s σ H _ I h) fun us s1 ⟨vs,H1,I1,r1,q1⟩=>?_) hs rfl))
 obtain ⟨a,e,⟨xs,hq⟩,q⟩:=q1
 subst e
 cases r1 with
 | cons r rr =>
  cases rr
  cases r
  obtain ⟨its,rv,pl,hz⟩:=I1.list hq
  refine call_enumerate_list pl.isList fun h' he hit hsz hk=>?_
  refine wpAny_pyIter_enum he ?_
  have I2:Inv X pins σ H1 { s1 with heap:=h' }:=I1.kept (t':=s1.toks) fun b o q=>hk b o q
  refine ⟨_,[s1.heap.objs.size + 1,s1.heap.objs.size],_,_,H1,rfl,I2,jnh a _ _ (Nat.succ_ne_self _),⟨⟨_,he⟩,hit⟩,fun b hb=>?_,q⟩
  have hb':b = s1.heap.objs.size + 1 \/ b = s1.heap.objs.size:=by simpa using hb
  rcases hb' with rfl | rfl
  ·exact I1.fpOk (Nat.le_succ _) (I1.hok.fresh (Nat.le_succ _))
  ·exact I1.fpOk (Nat.le_refl _) (I1.hok.fresh (Nat.le_refl _))
section
variable {prog:Program} {w:World} {A:Around} {E:Value->Shared->Prop} {s:Shared}
theorem jmu {j t:Addr} {k:Nat} {ar:Array Value} {x:Value} {Q:Value->Shared->Prop} (hj:s.heap.IsTupleIter j t k) (ht:s.heap.IsTuple t ar) (hx:ar[k]? = some x)
  (hQ:∀ h',h'.IsTupleIter j t (k + 1)->Heap.SameBut j s.heap h'->Q x { s with heap:=h' }):wpAny (model prog w) A (Builtin.SmallTypes.nextOf (.ref j)) Q E s:=by
 obtain ⟨ob,e0,hcl,hdt⟩:=id hj
 obtain ⟨ot,e1,_,nt,hdl⟩:=ht
 unfold Builtin.SmallTypes.nextOf
 refine wpAny_bind (wpAny_callSpecial?_slot (name:=Str.ofString "__next__") hj.typeIs F.slot_tuple_iterator_next (wpAny_call_entry F.slot_tuple_iterator_next hj.typeIs F.entry_tuple_iterator_next ?_ (F.args_tuple_iterator_next_1 _)))
 show wpAny _ _ (field (.ref j) 0 >>= _) _ _ s
 refine wpAny_bind (wpAny_field e0 hdt (x:=.ref t) rfl ?_)
 show wpAny _ _ (if (Value.ref t == Value.none) = true then _ else _) _ _ s
 rw [if_neg (show ¬ ((Value.ref t == Value.none) = true) from Bool.false_ne_true)]
 show wpAny _ _ (field (.ref j) 1 >>= _) _ _ s
 refine wpAny_bind (wpAny_field e0 hdt (x:=.int k 0) rfl ?_)
 show wpAny _ _ (seqItems? (.ref t) >>= _) _ _ s
 refine wpAny_bind (wpAny_seqItems e1 hdl ?_)
 simp only [Int.toNat_natCast,hx]
 refine wpAny_bind (wpAny_setField e0 hdt (by simp) (wpAny_pure ⟨x,rfl,wpAny_pure (hQ _ ?_ (Heap.SameBut.update ..))⟩))
 exact ⟨_,Heap.get?_update_self _ e0 (Obj.isFreed_of_fields (Obj.data_mapFields hdt _)),(Obj.cls_mapFields ..).trans hcl,by rw [Obj.data_mapFields hdt]; simp [rawInt]⟩
theorem jgi {j t:Addr} {k:Nat} {ar:Array Value} {Q:Value->Shared->Prop} (hh:A.handled = none) (hj:s.heap.IsTupleIter j t k) (ht:s.heap.IsTuple t ar) (hx:ar[k]? = none)
  (hE:∀ h' e,Heap.ExtBut j s.heap h'->(∃ o,h'.get? e = some o/\o.cls = .type "StopIteration")->E (.ref e) { s with heap:=h' }):wpAny (model prog w) A (Builtin.SmallTypes.nextOf (.ref j)) Q E s:=by
 obtain ⟨ob,e0,hcl,hdt⟩:=id hj
 obtain ⟨ot,e1,_,nt,hdl⟩:=ht
 unfold Builtin.SmallTypes.nextOf
 refine wpAny_bind (wpAny_callSpecial?_slot (name:=Str.ofString "__next__") hj.typeIs F.slot_tuple_iterator_next (wpAny_call_entry F.slot_tuple_iterator_next hj.typeIs F.entry_tuple_iterator_next ?_ (F.args_tuple_iterator_next_1 _)))
 show wpAny _ _ (field (.ref j) 0 >>= _) _ _ s
 refine wpAny_bind (wpAny_field e0 hdt (x:=.ref t) rfl ?_)
 show wpAny _ _ (if (Value.ref t == Value.none) = true then _ else _) _ _ s
 rw [if_neg (show ¬ ((Value.ref t == Value.none) = true) from Bool.false_ne_true)]
 show wpAny _ _ (field (.ref j) 1 >>= _) _ _ s
 refine wpAny_bind (wpAny_field e0 hdt (x:=.int k 0) rfl ?_)
 show wpAny _ _ (seqItems? (.ref t) >>= _) _ _ s
 refine wpAny_bind (wpAny_seqItems e1 hdl ?_)
 simp only [Int.toNat_natCast,hx]
 refine wpAny_bind (wpAny_rule (wpAny_bind (wpAny_setField e0 hdt (by simp) ?_)))
 show wpAny _ _ (newExc (.type "StopIteration") [] >>= _) _ _ _
 refine wpAny_bind ?_
 simp only [newExc,newTuple]
 refine wpAny_bind (wpAny_newObj_type ?_ (by size_fits))
 refine wpAny_bind (m:=firstArgMember _ _) (wpAny_of_eq (a:=Value.none) (by first | rfl | (simp only [firstArgMember]; rfl)) ?_)
 refine wpAny_newObj_type ?_ (by size_fits)
 simp only [raiseNew]
 refine wpAny_bind (wpAny_handled ?_)
 first | rw [show A.in1.handled = none from hh] | rw [hh]
 refine wpAny_bind (wpAny_pure (wpAny_throw ?_))
 exact hE _ _ (((Heap.SameBut.update ..).extBut.push _).push _) ⟨_,Heap.get?_push_size _ rfl,rfl⟩
def IsSq (b:Bool) (h:Heap) (l:Addr) (ar:Array Value):Prop:=if b = true then h.IsList l ar else h.IsTuple l ar
def jbz (b:Bool) (h:Heap) (j l:Addr) (k:Nat):Prop:=if b = true then h.IsListIter j l k else h.IsTupleIter j l k
theorem IsSq.at' {b:Bool} {h h':Heap} {l:Addr} {ar:Array Value} (x:IsSq b h l ar) (k:∀ o,h.get? l = some o->h'.get? l = some o):IsSq b h' l ar:=by
 cases b with
 | true=>obtain ⟨o,e,r⟩:=(show h.IsList l ar from x); exact (show h'.IsList l ar from ⟨o,k o e,r⟩)
 | false=>obtain ⟨o,e,r⟩:=(show h.IsTuple l ar from x); exact (show h'.IsTuple l ar from ⟨o,k o e,r⟩)
theorem jbz.at' {b:Bool} {h h':Heap} {j l:Addr} {i:Nat} (x:jbz b h j l i) (k:∀ o,h.get? j = some o->h'.get? j = some o):jbz b h' j l i:=by
 cases b with
 | true=>obtain ⟨o,e,r⟩:=(show h.IsListIter j l i from x); exact (show h'.IsListIter j l i from ⟨o,k o e,r⟩)
 | false=>obtain ⟨o,e,r⟩:=(show h.IsTupleIter j l i from x); exact (show h'.IsTupleIter j l i from ⟨o,k o e,r⟩)
theorem jbz.obj {b:Bool} {h:Heap} {j l:Addr} {i:Nat} (x:jbz b h j l i):∃ o,h.get? j = some o/\∀ v,o.data ≠ .cell v:=by
 cases b with
 | true=>obtain ⟨o,e,_,d⟩:=(show h.IsListIter j l i from x); exact ⟨o,e,fun v z=>by rw [d] at z; cases z⟩
 | false=>obtain ⟨o,e,_,d⟩:=(show h.IsTupleIter j l i from x); exact ⟨o,e,fun v z=>by rw [d] at z; cases z⟩
theorem jd6 {b:Bool} {j l:Addr} {k:Nat} {ar:Array Value} {x:Value} {Q:Value->Shared->Prop} (hj:jbz b s.heap j l k) (hl:IsSq b s.heap l ar) (hx:ar[k]? = some x)
  (hQ:∀ h',jbz b h' j l (k + 1)->Heap.SameBut j s.heap h'->Q x { s with heap:=h' }):wpAny (model prog w) A (Builtin.SmallTypes.nextOf (.ref j)) Q E s:=by
 cases b with
 | true=>exact wpAny_nextOf_list_item (show s.heap.IsListIter j l k from hj) (show s.heap.IsList l ar from hl) hx fun h' a b=>hQ h' a b
 | false=>exact jmu (show s.heap.IsTupleIter j l k from hj) (show s.heap.IsTuple l ar from hl) hx fun h' a b=>hQ h' a b
theorem jcr {b:Bool} {j l:Addr} {k:Nat} {ar:Array Value} {Q:Value->Shared->Prop} (hh:A.handled = none) (hj:jbz b s.heap j l k) (hl:IsSq b s.heap l ar) (hx:ar[k]? = none)
  (hE:∀ h' e,Heap.ExtBut j s.heap h'->(∃ o,h'.get? e = some o/\o.cls = .type "StopIteration")->E (.ref e) { s with heap:=h' }):wpAny (model prog w) A (Builtin.SmallTypes.nextOf (.ref j)) Q E s:=by
 cases b with
 | true=>exact wpAny_nextOf_list_end hh (show s.heap.IsListIter j l k from hj) (show s.heap.IsList l ar from hl) hx hE
 | false=>exact jgi hh (show s.heap.IsTupleIter j l k from hj) (show s.heap.IsTuple l ar from hl) hx hE
end
abbrev zpIt (b:Bool) (l:Addr):Obj:={ cls:=.type (if b = true then "list_iterator" else "tuple_iterator"),data:=.fields #[.ref l,.int 0 0] }
abbrev zp2 (b:Bool) (h:Heap) (l1 l2:Addr):Heap:=(h.push (zpIt b l1)).push (zpIt b l2)
abbrev zp3 (b:Bool) (h:Heap) (l1 l2:Addr):Heap:=(zp2 b h l1 l2).push { cls:=.type "tuple",data:=.seq #[.ref h.objs.size,.ref (h.push (zpIt b l1)).objs.size] }
abbrev zp4 (b:Bool) (h:Heap) (l1 l2:Addr):Heap:=(zp3 b h l1 l2).push { cls:=.type "tuple",data:=.seq #[.none,.none] }
abbrev zp5 (b:Bool) (h:Heap) (l1 l2:Addr):Heap:=(zp4 b h l1 l2).push { cls:=.type "zip",data:=.fields #[.none,.bool false,.bool false,.ref (zp2 b h l1 l2).objs.size,.ref (zp3 b h l1 l2).objs.size] }
theorem jn9 (l1 l2:Addr) (xs ys:Array Value) :
  Meets (Builtin.«zip.__new__» ⟨[.type "zip",.ref l1,.ref l2],[]⟩) (fun _ R s=>s.heap.IsTuple l1 xs/\s.heap.IsTuple l2 ys/\R (.ok (.ret (.ref (zp4 false s.heap l1 l2).objs.size))) { s with heap:=zp5 false s.heap l1 l2 }) :=
 .of_wp fun prog w A R s h=>by
  obtain ⟨hp,g,d,tk,os⟩:=s; obtain ⟨hl1,hl2,h⟩:=h
  have hsub:=sub_zip
  have hL1:Heap.IsTuple (Shared.heap ⟨hp,g,d,tk,os⟩) l1 xs:=hl1
  have hL2:Heap.IsTuple (Shared.heap ⟨hp.push { cls:=.type "tuple_iterator",data:=.fields #[.ref l1,.int 0 0] },g,d,tk,os⟩) l2 ys:=Heap.IsTuple.push hl2 _
  wp_walk using wpAny_pyIter_tuple hL1,wpAny_pyIter_tuple hL2
  exact ⟨_,rfl,h⟩
section
variable {prog:Program} {w:World} {A:Around} {E:Value->Shared->Prop} {s:Shared}
theorem jsm {b:Bool} {l1 l2:Addr} {xs ys:Array Value} {Q:Value->Shared->Prop} (hl1:IsSq b s.heap l1 xs) (hl2:IsSq b s.heap l2 ys)
  (h:∀ h',IsZip h' (s.heap.objs.size + 4) (s.heap.objs.size + 2) (s.heap.objs.size + 3) .none->IsPair h' (s.heap.objs.size + 2) (.ref s.heap.objs.size) (.ref (s.heap.objs.size + 1)) ->
   IsPair h' (s.heap.objs.size + 3) .none .none->jbz b h' s.heap.objs.size l1 0->jbz b h' (s.heap.objs.size + 1) l2 0->(∀ c o,s.heap.get? c = some o->h'.get? c = some o)->Q (.ref (s.heap.objs.size + 4)) { s with heap:=h' }) :
  wpAny (model prog w) A (call (.type "zip") [.ref l1,.ref l2]) Q E s:=by
 cases b with
 | true=>exact call_zip_2 (show s.heap.IsList l1 xs from hl1) (show s.heap.IsList l2 ys from hl2) fun h' a1 a2 a3 a4 a5 _ a7=>h h' a1 a2 a3 a4 a5 a7
 | false =>
  refine callType_new F.called_zip (by decide) (F.typeCall_zip_2 _ _) (F.newCall_zip_2 _ _) (fun obj=>F.args_object_init_3 obj _ _) F.entry_zip_new (jn9 l1 l2 xs ys) ⟨hl1,hl2,?_⟩
  have q1:(s.heap.push (zpIt false l1)).objs.size = s.heap.objs.size + 1:=Heap.size_push ..
  have q2:(zp2 false s.heap l1 l2).objs.size = s.heap.objs.size + 2:=by rw [Heap.size_push,q1]
  have q3:(zp3 false s.heap l1 l2).objs.size = s.heap.objs.size + 3:=by rw [Heap.size_push,q2]
  have q4:(zp4 false s.heap l1 l2).objs.size = s.heap.objs.size + 4:=by rw [Heap.size_push,q3]
  have p5:(zp5 false s.heap l1 l2).get? (zp4 false s.heap l1 l2).objs.size = some _:=Heap.get?_push_size _ rfl
  have p4:(zp5 false s.heap l1 l2).get? (zp3 false s.heap l1 l2).objs.size = some _:=Heap.get?_push_of_some _ (Heap.get?_push_size _ rfl)
  have p3:(zp5 false s.heap l1 l2).get? (zp2 false s.heap l1 l2).objs.size = some _:=Heap.get?_push_of_some _ (Heap.get?_push_of_some _ (Heap.get?_push_size _ rfl))
  have p2:(zp5 false s.heap l1 l2).get? (s.heap.push (zpIt false l1)).objs.size = some _:=Heap.get?_push_of_some _ (Heap.get?_push_of_some _ (Heap.get?_push_of_some _ (Heap.get?_push_size _ rfl)))
  have p1:(zp5 false s.heap l1 l2).get? s.heap.objs.size = some _:=Heap.get?_push_of_some _ (Heap.get?_push_of_some _ (Heap.get?_push_of_some _ (Heap.get?_push_of_some _ (Heap.get?_push_size _ rfl))))
  show _/\_
  rw [q2,q3,q4] at p5
  rw [q1,q2] at p3
  rw [q3] at p4
  rw [q1] at p2
  rw [q4]
  exact ⟨⟨_,p5,rfl⟩,h _ p5 p3 p4 (show Heap.IsTupleIter _ _ _ _ from ⟨_,p1,rfl,rfl⟩) (show Heap.IsTupleIter _ _ _ _ from ⟨_,p2,rfl,rfl⟩) fun c o x =>
   Heap.get?_push_of_some _ (Heap.get?_push_of_some _ (Heap.get?_push_of_some _ (Heap.get?_push_of_some _ (Heap.get?_push_of_some _ x))))⟩
end
theorem jjj:typeLookup (.type "list") "keys" = pure none:=by rw [typeLookup_type,builtinLookup_eq_fast]; kernel_rfl
theorem jg0:typeLookup (.type "list") "__getattr__" = pure none:=by rw [typeLookup_type,builtinLookup_eq_fast]; kernel_rfl
theorem jhb:isSubtype (.type "AttributeError") (.type "AttributeError") = pure true:=by rw [isSubtype_type]; kernel_rfl
section
variable {prog:Program} {w:World} {A:Around} {E:Value->Shared->Prop} {h:Heap} {g:Array GenState} {d:Drawn} {t:Nat} {os:OsState} {a:Addr} {o:Obj}
theorem jmj {α:Type} {Q:α->Shared->Prop} {u:Value} {x msg:Str} (hh:A.handled = none) (hm:msg.length <= sizeLine)
  (hE:∀ h' e tk,(∀ b o,h.get? b = some o->h'.get? b = some o)->(∃ o,h'.get? e = some o/\o.cls = .type "AttributeError")->E (.ref e) ⟨h',g,d,tk,os⟩) :
  wpAny (model prog w) A (raiseAttrError u x msg:Sem α) Q E ⟨h,g,d,t,os⟩:=by
 unfold raiseAttrError
 refine wpAny_bind (wpAny_mkStr ?_ hm)
 simp only [newExc,newTuple]
 refine wpAny_bind (wpAny_bind (wpAny_newObj_type ?_ (by size_fits)))
 refine wpAny_bind (m:=firstArgMember _ _) (wpAny_of_eq (a:=Value.none) (by first | rfl | (simp only [firstArgMember]; rfl)) ?_)
 refine wpAny_newObj_type ?_ (by size_fits)
 refine wpAny_bind (wpAny_mkText ?_)
 dsimp only
 refine wpAny_bind ?_
 unfold noteAttr
 generalize hh1:h.push { cls:=.type "tuple",data:=.seq #[.str msg t] } = h1
 have k1:∀ b o,h.get? b = some o->h1.get? b = some o:=fun b o q=>by rw [<- hh1]; exact Heap.get?_push_of_some _ q
 have hg:(h1.push { cls:=.type "AttributeError",data:=.fields #[.ref h.objs.size,.none,.none,.none,.bool false,.none,unsetMember,unsetMember] }).get? h1.objs.size = some _:=Heap.get?_push_size _ rfl
 have k2:∀ b o,h.get? b = some o->(h1.push { cls:=.type "AttributeError",data:=.fields #[.ref h.objs.size,.none,.none,.none,.bool false,.none,unsetMember,unsetMember] }).get? b = some o:=fun b o q=>Heap.get?_push_of_some _ (k1 b o q)
 have nb:∀ b o,h.get? b = some o->b ≠ h1.objs.size:=fun b o q=>Nat.ne_of_lt (Heap.lt_size (k1 b o q))
 show wpAny _ _ (lacksNameAndObj (.ref h1.objs.size) >>= _) _ _ ⟨h1.push { cls:=.type "AttributeError",data:=.fields #[.ref h.objs.size,.none,.none,.none,.bool false,.none,unsetMember,unsetMember] },g,d,t + 1 + 1,os⟩
 generalize hh2:h1.push { cls:=.type "AttributeError",data:=.fields #[.ref h.objs.size,.none,.none,.none,.bool false,.none,unsetMember,unsetMember] } = h2 at hg k2
 generalize h1.objs.size = e at hg nb
 clear hh2 k1 hh1
 have hT:(⟨h2,g,d,t + 1 + 1,os⟩:Shared).TypeIs (.ref e) "AttributeError":=⟨_,hg,rfl⟩
 refine wpAny_bind ?_
 unfold lacksNameAndObj
 refine wpAny_bind (wpAny_isInstance hT jhb ?_)
 simp only [Bool.not_true,Bool.false_eq_true,if_false]
 refine wpAny_bind (wpAny_load hg ?_)
 show wpAny _ _ (pure true) _ _ _
 refine wpAny_pure ?_
 simp only [if_true]
 refine wpAny_bind (wpAny_rule (wpAny_bind (wpAny_typeOf hT ?_)))
 show wpAny _ _ (layMembers e 6 #[_,u]) _ _ _
 unfold layMembers
 refine wpAny_bind (wpAny_load hg ?_)
 show wpAny _ _ (update e _) _ _ _
 refine wpAny_update hg ?_
 refine wpAny_raiseNew_none hh (hE _ _ _ (fun b o q=>?_) ⟨_,Heap.get?_update_self _ hg rfl,rfl⟩)
 exact (Heap.get?_update_other _ _ (nb b o q).symm).trans (k2 b o q)
theorem jjd {tk:Tok} {Q:PySem.Fin->Shared->Prop} {its:Array Value} {n:Nat} (hx:h.get? a = some { cls:=.type "list",dict:=none,data:=.seq its n,slots:=#[] }) (hh:A.handled = none)
  (hE:∀ h' e tk,(∀ b o,h.get? b = some o->h'.get? b = some o)->(∃ o,h'.get? e = some o/\o.cls = .type "AttributeError")->E (.ref e) ⟨h',g,d,tk,os⟩) :
  wpAny (model prog w) A (Builtin.«object.__getattribute__» ⟨[.ref a,.str "keys" tk],[]⟩) Q E ⟨h,g,d,t,os⟩:=by
 have hT:(⟨h,g,d,t,os⟩:Shared).TypeIs (.ref a) "list":=⟨_,hx,rfl⟩
 have f4:=jjj
 repeat (any_goals (first | assumption | wp_step))
 refine jmj hh (by decide +kernel) hE
theorem jon {tk:Tok} {Q:Value->Shared->Prop} {its:Array Value} {n:Nat} (hx:h.get? a = some { cls:=.type "list",dict:=none,data:=.seq its n,slots:=#[] }) (hh:A.handled = none)
  (hE:∀ h' e tk,(∀ b o,h.get? b = some o->h'.get? b = some o)->(∃ o,h'.get? e = some o/\o.cls = .type "AttributeError")->E (.ref e) ⟨h',g,d,tk,os⟩) :
  wpAny (model prog w) A (getAttrBy (.ref a) (.str "keys" tk) false) Q E ⟨h,g,d,t,os⟩:=by
 have hT:(⟨h,g,d,t,os⟩:Shared).TypeIs (.ref a) "list":=⟨_,hx,rfl⟩
 have f2:=F.slot_list_getattribute.lookup
 have f3:=F.slot_list_getattribute.bind (.ref a)
 repeat (any_goals (first | assumption | wp_step))
 refine codeAny_call_builtin F.slot_list_getattribute.plain F.entry_list_ga (F.slot_list_getattribute.check _ _ _ _ _ _ _ _ (show (⟨h,g,d,t,os⟩:Shared).TypeIs (.ref a) "list" from ⟨_,hx,rfl⟩) (F.args_list_getattribute_2 _ _) (jjd hx ?_ ?_))
 ·exact hh
 ·intro h' e tk k q
  obtain ⟨oe,he,hc⟩:=q
  have hT2:(⟨h',g,d,tk,os⟩:Shared).TypeIs (.ref e) "AttributeError":=⟨_,he,hc⟩
  have f5:=jhb
  have f6:=jg0
  show wpAny _ A (getattributeRaised (Value.ref a) _ (Value.type "list") (.ref e) none false false) _ _ _
  have done:=hE h' e tk k ⟨oe,he,hc⟩
  unfold getattributeRaised
  repeat (any_goals (first | assumption | wp_step))
theorem nokeys {Q:Option Value->Shared->Prop} {its:Array Value} {n:Nat} (hx:h.get? a = some { cls:=.type "list",dict:=none,data:=.seq its n,slots:=#[] }) (hh:A.handled = none)
  (hq:∀ h' tk,(∀ b o,h.get? b = some o->h'.get? b = some o)->Q none ⟨h',g,d,tk,os⟩):wpAny (model prog w) A (getAttr? (.ref a) "keys") Q E ⟨h,g,d,t,os⟩:=by
 unfold getAttr? getAttrBy?
 refine wpAny_bind (wpAny_mkText (wpAny_bind (wpAny_attempt (jon hx hh fun h' e tk k q=>?_))))
 obtain ⟨oe,he,hc⟩:=q
 refine wpAny_bind (wpAny_isInstance (T:="AttributeError") (b:=true) ⟨_,he,hc⟩ jhb ?_)
 exact wpAny_pure (hq h' tk k)
end
theorem jcj:entryFor table "dict.update.loop" = some Builtin.«dict.update.loop»:=entryFor_of_fast (by kernel_rfl)
theorem jbh:plainId "dict.update.loop" = true:=by decide +kernel
theorem jmh {K:Type} [DecidableEq K] (kvs:List (K × Value)) (k:K) (v:Value):(stored kvs k v).length <= kvs.length + 1:=by
 unfold stored
 split
 ·rw [List.length_map]; omega
 ·rw [List.length_append]; exact Nat.le_refl _
section
variable {prog:Program} {w:World} {A:Around} {E:Value->Shared->Prop} {K:Type} [DecidableEq K] {knd:KeyKind prog w K} {R:Result->Shared->Prop}
theorem jpb {d it l:Addr} {its:Array Value} {more:List (K × Value)} (hh:A.handled = none) (hlen:more.length = its.size) (hsz:its.size <= 1000) (hdl:l ≠ d) (hdi:it ≠ d) (hil:l ≠ it) :
  ∀ (k i:Nat) (tk0:Tok) (s:Shared) (kvs:List (K × Value)),its.size - i = k->i <= its.size->kvs.length <= i->s.heap.IsListIter it l i->s.heap.IsList l its->s.heap.DictOf knd d kvs ->
   (∀ (j:Nat) (q:K × Value),more[j]? = some q->∃ t kv,its[j]? = some (.ref t)/\s.heap.IsTuple t #[kv,q.2]/\knd.is q.1 kv = true) ->
   (∀ h' tk,h'.DictOf knd d (merged kvs (more.drop i))->(∀ b o,b ≠ d->b ≠ it->s.heap.get? b = some o->h'.get? b = some o)->R (.ok (.ret .none)) { s with heap:=h',toks:=tk }) ->
   codeAny (model prog w) A (.builtin "dict.update.loop" ⟨[.ref d,.ref it,.int i tk0,.none],[]⟩) R s:=by
 intro k
 induction k with
 | zero =>
  intro i tk0 s kvs hk hi hkl hit hl hd hp hR
  have e:i = its.size:=by omega
  subst e
  refine codeAny_builtin jcj ?_
  rw [Around.under_plainId jbh _]
  show wpAny _ A.in1 (pyNext (.ref it) >>= _) _ _ s
  refine wpAny_bind (wpAny_pyNext_list_end hh hit hl (by simp) fun h' eb=>?_)
  show wpAny _ A.in1 (Builtin.Dict.addKeywords d [] >>= _) _ _ _
  refine wpAny_bind (wpAny_pure (wpAny_pure ?_))
  refine hR h' s.toks ?_ fun b o _ hb q=>eb b o hb q
  rw [List.drop_eq_nil_of_le (by omega)]
  exact hd.extBut eb hdi.symm
 | succ k ih =>
  intro i tk0 s kvs hk hi hkl hit hl hd hp hR
  have hlt:i < its.size:=by omega
  have hlm:i < more.length:=by omega
  obtain ⟨t,kv,hu,ht,hkey⟩:=hp i more[i] (by simp [hlm])
  refine codeAny_builtin jcj ?_
  rw [Around.under_plainId jbh _]
  show wpAny _ A.in1 (pyNext (.ref it) >>= _) _ _ s
  refine wpAny_bind (wpAny_pyNext_list_item hit hl hu fun h1 hit1 sb1=>?_)
  have nti:t ≠ it:=fun z=>by
   subst z
   obtain ⟨o,e1,c1,_⟩:=ht
   obtain ⟨o',e2,c2,_⟩:=hit
   rw [e1] at e2; cases e2; rw [c1] at c2; exact absurd c2 (by decide)
  have ntd:t ≠ d:=fun z=>by
   subst z
   obtain ⟨o,e1,c1,_⟩:=ht
   obtain ⟨o',_,_,e2,c2,_⟩:=hd
   rw [e1] at e2; cases e2; rw [c2.1] at c1; exact absurd c1 (by decide)
  have ht1:h1.IsTuple t #[kv,more[i].2]:=ht.extBut sb1.extBut nti
  have hd1:h1.DictOf knd d kvs:=hd.extBut sb1.extBut hdi.symm
  show wpAny _ A.in1 (holding [.ref t] _ >>= _) _ _ _
  refine wpAny_bind (wpAny_holding ?_)
  refine wpAny_bind (m:=(Builtin.Dict.pairItems (.ref t)).tryCatch _) ?_
  refine wpAny_tryCatch ?_
  unfold Builtin.Dict.pairItems
  refine wpAny_bind (wpAny_typeOf ht1.typeIs ?_)
  obtain ⟨ot,e1,c1,n1,d1⟩:=id ht1
  rw [if_pos (by decide)]
  refine wpAny_bind (wpAny_seqItems e1 d1 ?_)
  refine wpAny_pure ?_
  show wpAny _ A.in1 (holding [kv,more[i].2] (dictSet d kv more[i].2)) _ _ _
  refine wpAny_holding (wpAny_dictSet_pairs hkey hd1 (fun h2 hd2 sb2=>?_) (by have:=(by decide:1000 <= sizeLine); omega))
  replace sb2:Heap.SameBut d h1 h2:=sb2
  have kk:∀ b o,b ≠ d->b ≠ it->s.heap.get? b = some o->h2.get? b = some o:=fun b o b1 b2 q=>sb2.extBut b o b1 (sb1.extBut b o b2 q)
  refine wpAny_pure ⟨plainId_quiet jbh _,?_⟩
  have hik:((i:Int) + 1) = ((i + 1:Nat):Int):=by omega
  show codeAny _ _ (.builtin "dict.update.loop" ⟨[.ref d,.ref it,rawInt ((i:Int) + 1),.none],[]⟩) _ _
  rw [hik]
  refine ih (i + 1) 0 _ (stored kvs more[i].1 more[i].2) (by omega) (by omega) ?_ (hit1.extBut sb2.extBut hdi) ((hl.extBut sb1.extBut hil).extBut sb2.extBut hdl) hd2 ?_ ?_
  ·have:=jmh kvs more[i].1 more[i].2
   omega
  ·intro j q hq
   obtain ⟨t',kv',a1,a2,a3⟩:=hp j q hq
   have n1:t' ≠ it:=fun z=>by
    subst z
    obtain ⟨o,e1,c1,_⟩:=a2
    obtain ⟨o',e2,c2,_⟩:=hit
    rw [e1] at e2; cases e2; rw [c1] at c2; exact absurd c2 (by decide)
   have n2:t' ≠ d:=fun z=>by
    subst z
    obtain ⟨o,e1,c1,_⟩:=a2
    obtain ⟨o',_,_,e2,c2,_⟩:=hd
    rw [e1] at e2; cases e2; rw [c2.1] at c1; exact absurd c1 (by decide)
   exact ⟨t',kv',a1,(a2.extBut sb1.extBut n1).extBut sb2.extBut n2,a3⟩
  ·intro h' tk hd' k'
   refine hR h' tk ?_ fun b o b1 b2 q=>k' b o b1 b2 (kk b o b1 b2 q)
   rw [List.drop_eq_getElem_cons hlm]
   exact hd'
theorem jgl {l:Addr} {its:Array Value} {c:Nat} {more:List (K × Value)} {s:Shared} {Q:Value->Shared->Prop} (hh:A.handled = none) (hl:s.heap.get? l = some { cls:=.type "list",dict:=none,data:=.seq its c,slots:=#[] }) (hlen:more.length = its.size) (hsz:its.size <= 1000)
  (hp:∀ (j:Nat) (q:K × Value),more[j]? = some q->∃ t kv,its[j]? = some (.ref t)/\s.heap.IsTuple t #[kv,q.2]/\knd.is q.1 kv = true)
  (h:∀ h' tk,h'.DictOf knd s.heap.objs.size (merged [] more)->(∀ b o,s.heap.get? b = some o->h'.get? b = some o)->Q (.ref s.heap.objs.size) { s with heap:=h',toks:=tk }) :
  wpAny (model prog w) A (call (.type "dict") [.ref l]) Q E s:=by
 refine callType_codes (Q₁:=fun obj s₁=>obj = .ref s.heap.objs.size/\s₁ = { s with heap:=s.heap.push { cls:=.type "dict",data:=.dict #[] } }) F.kt_called_dict (F.kt_typeCall_dict_1 _) F.entry_dict_init (kt_code_dict_new _ ⟨rfl,rfl⟩) ?_
 rintro obj s₁ ⟨rfl,rfl⟩
 have hnew:(s.heap.push { cls:=.type "dict",data:=.dict #[] }).DictOf knd s.heap.objs.size []:=Heap.DictOf.new s.heap
 have hl1:(s.heap.push { cls:=.type "dict",data:=.dict #[] }).get? l = some { cls:=.type "list",dict:=none,data:=.seq its c,slots:=#[] }:=Heap.get?_push_of_some _ hl
 have k1:∀ b o,s.heap.get? b = some o->(s.heap.push { cls:=.type "dict",data:=.dict #[] }).get? b = some o:=fun b o q=>Heap.get?_push_of_some _ q
 have llt:l < s.heap.objs.size:=Heap.lt_size hl
 generalize s.heap.push { cls:=.type "dict",data:=.dict #[] } = h1 at hnew hl1 k1
 refine ⟨hnew.typeIs,F.args_dict_init_2 _ _,?_⟩
 unfold Builtin.«dict.__init__»
 refine wpAny_bind ?_
 unfold Builtin.Dict.selfAndRest
 refine wpAny_bind (wpAny_notOrdered_dict hnew.typeIs ?_)
 show wpAny _ _ (pure (s.heap.objs.size,[Value.ref l])) _ _ _
 refine wpAny_pure ?_
 show wpAny _ _ (Builtin.Dict.updateFrom "dict.__init__" s.heap.objs.size (.ref l) [] .none) _ _ _
 unfold Builtin.Dict.updateFrom
 refine wpAny_bind (wpAny_typeOf (T:="list") ⟨_,hl1,rfl⟩ ?_)
 rw [if_pos (by decide)]
 refine wpAny_bind (nokeys hl1 hh fun h2 tk2 k2=>?_)
 have hl2:=k2 _ _ hl1
 have hd2:h2.DictOf knd s.heap.objs.size []:=let ⟨o,es,ep,ho,r⟩:=hnew; ⟨o,es,ep,k2 _ _ ho,r⟩
 have dlt:s.heap.objs.size < h2.objs.size:=by obtain ⟨_,_,_,ho,_⟩:=hd2; exact Heap.lt_size ho
 simp only [Option.isNone_none,if_true]
 refine wpAny_bind (wpAny_rule ?_)
 have hL:Heap.IsList h2 l its:=⟨_,hl2,rfl,_,rfl⟩
 refine wpAny_bind (wpAny_pyIter_list (s:={ s with heap:=h2,toks:=tk2 }) hL ?_)
 refine wpAny_pure ⟨plainId_quiet jbh _,?_⟩
 have hit:(h2.push { cls:=.type "list_iterator",data:=.fields #[.ref l,.int 0 0] }).IsListIter h2.objs.size l 0:=⟨_,Heap.get?_push_size _ rfl,rfl,rfl⟩
 refine jpb (A:=A.in1) (knd:=knd) (more:=more) hh hlen hsz (Nat.ne_of_lt llt) (Nat.ne_of_gt dlt) (Nat.ne_of_lt (Nat.lt_trans llt dlt)) its.size 0 0 { s with heap:=h2.push { cls:=.type "list_iterator",data:=.fields #[.ref l,.int 0 0] },toks:=tk2 } [] rfl (Nat.zero_le _) (Nat.le_refl _) hit (hL.push _) (hd2.push _) ?_ ?_
 ·intro j q hq
  obtain ⟨t,kv,a1,a2,a3⟩:=hp j q hq
  obtain ⟨o,e,r⟩:=a2
  exact ⟨t,kv,a1,⟨o,Heap.get?_push_of_some _ (k2 _ _ (k1 _ _ e)),r⟩,a3⟩
 ·intro h' tk hd' k'
  rw [List.drop_zero] at hd'
  refine ⟨rfl,h h' tk hd' fun b o q=>k' b o (Nat.ne_of_lt (Heap.lt_size q)) (Nat.ne_of_lt (Heap.lt_size (k2 _ _ (k1 _ _ q)))) (Heap.get?_push_of_some _ (k2 _ _ (k1 _ _ q)))⟩
end
def PairAt (H:Hp) (v:V) (p:Key × V):Prop:=∃ t,v = .ref t/\H t = some (.tup [kV p.1,p.2])
def rDictL (K:PySem.W.Frag):List V->Hp->VK->Prop:=fun vs H Q=>∃ l xs kvs,vs = [.ref l]/\H l = some (.lst xs)/\Paired (PairAt H) xs kvs/\xs.length <= 1000/\(kvs.map (·.1)).Nodup/\∀ d,H d = none->Q (.ref d) (upd H d (.dK kvs))
theorem jgu {X:Cx} {pins:List (Addr × Obj)} {σ:St} {H:Hp} {s:Shared} (I:Inv X pins σ H s):∀ {xs:List V} {kvs:List (Key × V)} {its:List Value},Paired (PairAt H) xs kvs->Vals xs its ->
  ∃ more:List (Key × Value),KV kvs more/\∀ (j:Nat) (q:Key × Value),more[j]? = some q->∃ t kv,its[j]? = some (.ref t)/\s.heap.IsTuple t #[kv,q.2]/\(jbs X.prog X.w).is q.1 kv = true
 | _,_,_,.nil,.nil=>⟨[],.nil,fun j q h=>by simp at h⟩
 | _,_,_,.cons hp tp,.cons rv tr=>by
  obtain ⟨more,hk,hm⟩:=jgu I tp tr
  obtain ⟨t,rfl,ht⟩:=hp
  cases rv
  obtain ⟨_,its',rt,hi⟩:=I.hok t _ ht
  obtain ⟨u1,u2,rfl,r1,r2⟩:=rt.two
  refine ⟨(_,u2) :: more,.cons ⟨rfl,r2⟩ hk,fun j q h=>?_⟩
  cases j with
  | zero =>
   simp at h
   subst h
   exact ⟨t,u1,rfl,hi,jl0 r1⟩
  | succ j =>
   obtain ⟨t',kv,a1,a2,a3⟩:=hm j q (by simpa using h)
   exact ⟨t',kv,by simpa using a1,a2,a3⟩
theorem jn5 {X:Cx} (hc:X.calm = true):jck X (.type "dict") (rDictL X.K):=by
 intro pins s σ H vs us Q I rv h
 obtain ⟨l,xs,kvs,rfl,hl,hp,hz,hn,q⟩:=h
 obtain ⟨u,rfl,ru⟩:=rv.one
 cases ru
 obtain ⟨z,its,n,r,hlen,e⟩:=I.lstM hl
 obtain ⟨more,hkv,hm⟩:=jgu I hp r
 have hlm:kvs.length = more.length:=Paired.length hkv
 have hlx:xs.length = kvs.length:=Paired.length hp
 refine jgl (knd:=jbs X.prog X.w) (more:=more) (I.ok.hd hc) e (by rw [List.size_toArray]; omega) (by rw [List.size_toArray]; omega) (fun j q hj=>?_) fun h' tk dd k=>?_
 ·obtain ⟨t,kv,a1,a2,a3⟩:=hm j q hj
  exact ⟨t,kv,by simpa using a1,a2,a3⟩
 ·refine ⟨.ref s.heap.objs.size,upd H s.heap.objs.size (.dK kvs),I.laid k (Nat.le_refl _) ?_,rfl,q _ I.fresh⟩
  rw [merged_nil_of_nodup more (by rw [<- hkv.keys]; exact hn)] at dd
  exact jm5 (by have:=(by decide:1000 <= sizeLine); omega) (by have:=I.big; exact beq_false_of_ne (Nat.ne_of_gt this)) hkv dd
def jo6 (f:List Bool->Bool):List V->Hp->VK->Prop:=fun vs H Q=>∃ l bs,vs = [.ref l]/\H l = some (.lst (bs.map V.bl))/\Q (.bl (f bs)) H
theorem jpq {bs:List Bool} {tr:Nat->Bool} (h:∀ i b,bs[i]? = some b->tr i = b):(List.range bs.length).all tr = bs.all id:=by
 rw [Bool.eq_iff_iff,List.all_eq_true,List.all_eq_true]
 constructor
 ·intro q b hb
  obtain ⟨i,hi,e⟩:=List.mem_iff_getElem.mp hb
  have:=q i (List.mem_range.mpr hi)
  rw [h i b (by rw [gE hi,e])] at this
  exact this
 ·intro q i hi
  have hi':=List.mem_range.mp hi
  rw [h i bs[i] (gE hi')]
  exact q _ (List.getElem_mem hi')
theorem jpp {bs:List Bool} {tr:Nat->Bool} (h:∀ i b,bs[i]? = some b->tr i = b):(List.range bs.length).any tr = bs.any id:=by
 rw [Bool.eq_iff_iff,List.any_eq_true,List.any_eq_true]
 constructor
 ·rintro ⟨i,hi,q⟩
  have hi':=List.mem_range.mp hi
  rw [h i bs[i] (gE hi')] at q
  exact ⟨_,List.getElem_mem hi',q⟩
 ·rintro ⟨b,hb,q⟩
  obtain ⟨i,hi,e⟩:=List.mem_iff_getElem.mp hb
  exact ⟨i,List.mem_range.mpr hi,by rw [h i b (by rw [gE hi,e])]; exact q⟩
theorem jk8:∀ {bs:List Bool} {us:List Value},Vals (bs.map V.bl) us->us = bs.map Value.bool
 | [],_,.nil=>rfl
 | b :: r,_,.cons q t=>by
  cases (show _ = Value.bool b from q)
  rw [jk8 t]
  rfl
theorem jqv {X:Cx} (hc:X.calm = true):jck X (.builtin "all") (jo6 fun bs=>bs.all id):=by
 intro pins s σ H vs us Q I rv h
 obtain ⟨l,bs,rfl,hl,q⟩:=h
 obtain ⟨u,rfl,ru⟩:=rv.one
 cases ru
 obtain ⟨z,its,n,r,hlen,e⟩:=I.lstM hl
 have e2:=jk8 r
 subst e2
 have llt:l < s.heap.objs.size:=Heap.lt_size e
 have hL:s.heap.IsList l (bs.map Value.bool).toArray:=⟨_,e,rfl,_,rfl⟩
 refine call_all_walk (wpAny_pyIter_list hL ⟨s.heap.objs.size,[s.heap.objs.size,l],[s.heap.objs.size],_,_,_,fun i=>bs[i]?.getD true,rfl,Walks.list (A:=X.A.in1) (show X.A.in1.handled = none from I.ok.hd hc) s.heap.objs.size l (Nat.ne_of_lt llt) (bs.map Value.bool).toArray,
  (show Heap.IsListIter _ _ _ _/\Heap.IsList _ _ _ from ⟨⟨_,Heap.get?_push_size _ rfl,rfl,rfl⟩,hL.push _⟩),fun i v s' Q' E' hv hq=>?_,fun h' tk k=>?_⟩)
 ·have hv':(bs.map Value.bool)[i]? = some v:=by simpa using hv
  rw [List.getElem?_map] at hv'
  cases eb:bs[i]? with
  | none=>rw [eb] at hv'; cases hv'
  | some b =>
   rw [eb] at hv'
   cases hv'
   have hq':Q' b s':=by dsimp only at hq; rw [eb] at hq; exact hq
   exact wpAny_pure hq'
 ·have ez:((bs.map Value.bool).toArray).size = bs.length:=by simp
  rw [ez,jpq (bs:=bs) (tr:=fun i=>bs[i]?.getD true) (fun i b hb=>by rw [hb]; rfl)]
  refine ⟨.bl _,H,I.kept fun b o qq=>k b o ?_ (Heap.get?_push_of_some _ qq),rfl,q⟩
  intro hb
  have:b = s.heap.objs.size:=by simpa using hb
  subst this
  exact absurd (Heap.lt_size qq) (Nat.lt_irrefl _)
theorem jqu {X:Cx} (hc:X.calm = true):jck X (.builtin "any") (jo6 fun bs=>bs.any id):=by
 intro pins s σ H vs us Q I rv h
 obtain ⟨l,bs,rfl,hl,q⟩:=h
 obtain ⟨u,rfl,ru⟩:=rv.one
 cases ru
 obtain ⟨z,its,n,r,hlen,e⟩:=I.lstM hl
 have e2:=jk8 r
 subst e2
 have llt:l < s.heap.objs.size:=Heap.lt_size e
 have hL:s.heap.IsList l (bs.map Value.bool).toArray:=⟨_,e,rfl,_,rfl⟩
 refine call_any_walk (wpAny_pyIter_list hL ⟨s.heap.objs.size,[s.heap.objs.size,l],[s.heap.objs.size],_,_,_,fun i=>bs[i]?.getD true,rfl,Walks.list (A:=X.A.in1) (show X.A.in1.handled = none from I.ok.hd hc) s.heap.objs.size l (Nat.ne_of_lt llt) (bs.map Value.bool).toArray,
  (show Heap.IsListIter _ _ _ _/\Heap.IsList _ _ _ from ⟨⟨_,Heap.get?_push_size _ rfl,rfl,rfl⟩,hL.push _⟩),fun i v s' Q' E' hv hq=>?_,fun h' tk k=>?_⟩)
 ·have hv':(bs.map Value.bool)[i]? = some v:=by simpa using hv
  rw [List.getElem?_map] at hv'
  cases eb:bs[i]? with
  | none=>rw [eb] at hv'; cases hv'
  | some b =>
   rw [eb] at hv'
   cases hv'
   have hq':Q' b s':=by dsimp only at hq; rw [eb] at hq; exact hq
   exact wpAny_pure hq'
 ·have ez:((bs.map Value.bool).toArray).size = bs.length:=by simp
  rw [ez,jpp (bs:=bs) (tr:=fun i=>bs[i]?.getD true) (fun i b hb=>by rw [hb]; rfl)]
  refine ⟨.bl _,H,I.kept fun b o qq=>k b o ?_ (Heap.get?_push_of_some _ qq),rfl,q⟩
  intro hb
  have:b = s.heap.objs.size:=by simpa using hb
  subst this
  exact absurd (Heap.lt_size qq) (Nat.lt_irrefl _)
inductive Knd (H:Hp):V->String->Prop where
 | non:Knd H .non "NoneType"
 | bl {x:Bool}:Knd H (.bl x) "bool"
 | int {i:Int}:Knd H (.int i) "int"
 | str {x:Str}:Knd H (.str x) "str"
 | lst {a:Addr} {xs:List V} (e:H a = some (.lst xs)):Knd H (.ref a) "list"
 | tup {a:Addr} {xs:List V} (e:H a = some (.tup xs)):Knd H (.ref a) "tuple"
 | dK {a:Addr} {kvs:List (Key × V)} (e:H a = some (.dK kvs)):Knd H (.ref a) "dict"
theorem Knd.ty {K:PySem.W.Frag} {H:Hp} {v:V} {n:String} (h:Knd H v n):TyOf K H v (.type n):=by
 cases h with
 | non=>exact .non
 | bl=>exact .bl _
 | int=>exact .int _
 | str=>exact .str _
 | lst e=>exact .lst e
 | tup e=>exact .tup e
 | dK e=>exact .dK e
def isiK (a b:String):Bool:=a == b || (a == "bool" && b == "int")
def jhx:List String:=["NoneType","bool","int","str","list","tuple","dict"]
theorem jsa {K:PySem.W.Frag}:∀ a ∈ jhx,∀ b ∈ jhx,PySem.W.kitOne K (.type a) (.type b) = some (isiK a b):=by
 intro a ha b hb
 have ha':a = "NoneType" \/ a = "bool" \/ a = "int" \/ a = "str" \/ a = "list" \/ a = "tuple" \/ a = "dict":=by simpa [jhx] using ha
 have hb':b = "NoneType" \/ b = "bool" \/ b = "int" \/ b = "str" \/ b = "list" \/ b = "tuple" \/ b = "dict":=by simpa [jhx] using hb
 rcases ha' with rfl | rfl | rfl | rfl | rfl | rfl | rfl <;> rcases hb' with rfl | rfl | rfl | rfl | rfl | rfl | rfl <;> rfl
def rIsi:List V->Hp->VK->Prop:=fun vs H Q=>∃ x n T,vs = [x,.ty T]/\Knd H x n/\T ∈ jhx/\Q (.bl (isiK n T)) H
theorem Knd.mem {H:Hp} {v:V} {n:String} (h:Knd H v n):n ∈ jhx:=by cases h <;> simp [jhx]
theorem jqt {X:Cx}:jck X (.builtin "isinstance") rIsi:=by
 intro pins s σ H vs us Q I rv h
 obtain ⟨x,n,T,rfl,hk,hT,q⟩:=h
 obtain ⟨u1,u2,rfl,r1,r2⟩:=rv.two
 cases (show u2 = Value.type T from r2)
 exact jp3 I r1 hk.ty (jsa n hk.mem T hT) fun tk=>⟨.bl _,H,I.tok tk,rfl,q⟩
section
variable {X:Cx} {e a b c o i:Expr} {es:List Expr} {t t' ta tb tc td te:TE} {pos p p2:Pos}
theorem PE.imp (h:PE X e t) (hi:∀ σ H Q,t' σ H Q->t σ H Q):PE X e t':=fun pins s σ H Q I q=>h pins s σ H Q I (hi σ H Q q)
theorem PG.imp {t t':TG} (h:PG X e t) (hi:∀ v σ H Q,t' v σ H Q->t v σ H Q):PG X e t':=fun pins s σ H v u Q I r q=>h pins s σ H v u Q I r (hi v σ H Q q)
theorem PGs.imp {t t':TGs} (h:PGs X es t) (hi:∀ v σ H Q,t' v σ H Q->t v σ H Q):PGs X es t':=fun pins s σ H v u Q I r q=>h pins s σ H v u Q I r (hi v σ H Q q)
theorem OpR.imp {f:Value->Value->Sem Value} {r r':R2} (h:OpR X f r) (hi:∀ x y H Q,r' x y H Q->r x y H Q):OpR X f r':=fun pins s σ H x y v u Q I rx ry q=>h pins s σ H x y v u Q I rx ry (hi x y H Q q)
theorem jck.imp {f:Value} {r r':List V->Hp->VK->Prop} (h:jck X f r) (hi:∀ vs H Q,r' vs H Q->r vs H Q):jck X f r':=fun pins s σ H xs us Q I rv q=>h pins s σ H xs us Q I rv (hi xs H Q q)
theorem IxR.imp {r r':R2} (h:IxR X r) (hi:∀ x y H Q,r' x y H Q->r x y H Q):IxR X r':=fun value slice pins s σ H x y v u Q I rx ry q hs=>h value slice pins s σ H x y v u Q I rx ry (hi x y H Q q) hs
theorem MtR.imp {id:String} {r r':V->List V->Hp->VK->Prop} (h:MtR X id r) (hi:∀ x vs H Q,r' x vs H Q->r x vs H Q):MtR X id r':=fun pins s σ H x xs v us Q I rx rv q=>h pins s σ H x xs v us Q I rx rv (hi x xs H Q q)
theorem PSet.imp {t t':TSet} (h:PSet X t) (hi:∀ o i v H Q,t' o i v H Q->t o i v H Q):PSet X t':=fun pins s σ H o i v ov iv u Q I r1 r2 r3 q=>h pins s σ H o i v ov iv u Q I r1 r2 r3 (hi o i v H Q q)
theorem SlR.imp {r r':V->Option Int->Option Int->Hp->VK->Prop} (h:SlR X r) (hi:∀ x l u H Q,r' x l u H Q->r x l u H Q):SlR X r':=fun pins s σ H x v vl vu lo hi' sl Q I rx hs pl pu q=>h pins s σ H x v vl vu lo hi' sl Q I rx hs pl pu (hi x lo hi' H Q q)
def fVar (i:Nat):TE:=fun σ H Q=>match σ[i]? with
 | some (some v)=>Q v H
 | _=>False
theorem qv (i:Nat) {x:Str} {pos:Pos} (hN:X.N[i]? = some x:=by rfl) (hv:Vis X.env.scope x:=by first | exact Or.inl rfl | exact Or.inr (Or.inl rfl) | exact Or.inr (Or.inr rfl)) (hd:(x == ("__debug__":Str)) = false:=by decide)
  (hcd:(x == ("__classdict__":Str)) = false:=by decide):PE X (.Name x pos) (fVar i):=(pe_var hN hv hd hcd).imp fun σ H Q q=>by
 unfold fVar at q
 split at q
 ·rename_i v e; exact ⟨v,e,q⟩
 ·exact q.elim
def fI (g:Int->Int->V):R2:=fun x y H Q=>match x,y with
 | .int i,.int j=>Q (g i j) H
 | _,_=>False
def fIC (C:Int->Int->Prop) (g:Int->Int->V):R2:=fun x y H Q=>match x,y with
 | .int i,.int j=>C i j/\Q (g i j) H
 | _,_=>False
theorem fI.r {g:Int->Int->V} {x y:V} {H:Hp} {Q:VK} (h:fI g x y H Q):rI0 g x y H Q:=by
 unfold fI at h
 split at h
 ·exact ⟨_,_,rfl,rfl,h⟩
 ·exact h.elim
theorem fIC.r {C:Int->Int->Prop} {g:Int->Int->V} {x y:V} {H:Hp} {Q:VK} (h:fIC C g x y H Q):rI C g x y H Q:=by
 unfold fIC at h
 split at h
 ·exact ⟨_,_,rfl,rfl,h.1,h.2⟩
 ·exact h.elim
theorem jcc:OpR X (binaryOp .Add) (fI fun i j=>.int (i + j)):=op_add.imp fun _ _ _ _=>fI.r
theorem jdp:OpR X (binaryOp .Sub) (fI fun i j=>.int (i - j)):=op_sub.imp fun _ _ _ _=>fI.r
theorem jkb:OpR X (binaryOp .Mult) (fIC CMul fun i j=>.int (i * j)):=op_mul.imp fun _ _ _ _=>fIC.r
theorem jkc:OpR X (binaryOp .Mod) (fIC (fun _ j=>0 < j) fun i j=>.int (i % j)):=op_mod.imp fun _ _ _ _=>fIC.r
theorem jo9:OpR X (binaryOp .FloorDiv) (fIC CDiv fun i j=>.int (i / j)):=js5.imp fun _ _ _ _=>fIC.r
theorem jq9:OpR X (binaryOp .Pow) (fIC CPow fun i j=>.int (i ^ j.toNat)):=op_pow.imp fun _ _ _ _=>fIC.r
theorem q_lt:OpR X (compareOp .Lt) (fI fun i j=>.bl (decide (i < j))):=op_lt.imp fun _ _ _ _=>fI.r
theorem q_le:OpR X (compareOp .LtE) (fI fun i j=>.bl (decide (i <= j))):=op_le.imp fun _ _ _ _=>fI.r
theorem q_gt:OpR X (compareOp .Gt) (fI fun i j=>.bl (decide (i > j))):=op_gt.imp fun _ _ _ _=>fI.r
theorem q_ge:OpR X (compareOp .GtE) (fI fun i j=>.bl (decide (i ≥ j))):=op_ge.imp fun _ _ _ _=>fI.r
theorem q_iadd:PIp X .Add (fI fun i j=>.int (i + j)):=fun pins s σ H x y v u Q I rx ry q=>jsc pins s σ H x y v u Q I rx ry q.r
def fNeg:V->Hp->VK->Prop:=fun x H Q=>match x with
 | .int i=>Q (.int (-i)) H
 | _=>False
theorem jfp:UnR X (unaryOp .USub) fNeg:=fun pins s σ H x v Q I rx q=>by
 cases x <;> first
  | exact False.elim q
  | exact un_neg pins s σ H _ v Q I rx ⟨_,rfl,q⟩
def fEq:R2:=fun x y H Q=>match x,y with
 | .int i,.int j=>Q (.bl (decide (i = j))) H
 | .bl i,.bl j=>Q (.bl (decide (i = j))) H
 | .str i,.str j=>Q (.bl (decide (i = j))) H
 | _,_=>False
def fNe:R2:=fun x y H Q=>match x,y with
 | .int i,.int j=>Q (.bl (!decide (i = j))) H
 | .bl i,.bl j=>Q (.bl (!decide (i = j))) H
 | .str i,.str j=>Q (.bl (!decide (i = j))) H
 | _,_=>False
theorem dI (i j:Int):decide (V.int i = V.int j) = decide (i = j):=by simp
theorem dB (i j:Bool):decide (V.bl i = V.bl j) = decide (i = j):=by simp
theorem dS (i j:Str):decide (V.str i = V.str j) = decide (i = j):=by simp
theorem q_eq:OpR X (compareOp .Eq) fEq:=op_eq.imp fun x y H Q h=>by
 unfold fEq at h
 split at h
 ·exact ⟨rfl,by rw [dI]; exact h⟩
 ·exact ⟨rfl,by rw [dB]; exact h⟩
 ·exact ⟨rfl,by rw [dS]; exact h⟩
 ·exact h.elim
theorem q_ne:OpR X (compareOp .NotEq) fNe:=op_ne.imp fun x y H Q h=>by
 unfold fNe at h
 split at h
 ·exact ⟨rfl,by rw [dI]; exact h⟩
 ·exact ⟨rfl,by rw [dB]; exact h⟩
 ·exact ⟨rfl,by rw [dS]; exact h⟩
 ·exact h.elim
def jmy:V->Bool
 | .non=>true
 | _=>false
def fIsN (f:Bool->Bool):R2:=fun x y H Q=>match y with
 | .non=>Q (.bl (f (jmy x))) H
 | _=>False
def fAnd (ta tb:TE):TE:=fun σ H Q=>ta σ H fun x H1=>match x with
 | .bl c=>if c = true then tb σ H1 Q else Q (.bl false) H1
 | _=>False
def fOr (ta tb:TE):TE:=fun σ H Q=>ta σ H fun x H1=>match x with
 | .bl c=>if c = true then Q (.bl true) H1 else tb σ H1 Q
 | _=>False
def fNot (ta:TE):TE:=fun σ H Q=>ta σ H fun x H1=>match x with
 | .bl c=>Q (.bl (!c)) H1
 | _=>False
def fB (t:TE):TT:=fun σ H Q=>t σ H fun x H1=>match x with
 | .bl c=>Q c H1
 | _=>False
variable {rest:List Expr}
theorem jcq (ha:PE X a ta) (hb:PE X (.BoolOp .And (b :: rest) pos) tb):PE X (.BoolOp .And (a :: b :: rest) pos) (fAnd ta tb):=by
  intro pins s σ H Q I h
  refine BoolOp_and (thn (ha pins s σ H _ I h) fun v s1 ⟨x,H1,I1,r1,q1⟩=>?_)
  cases x <;> first
    | exact False.elim q1
    | (rename_i c
       cases r1
       refine wpAny_truthy_bool ?_
       cases c with
       | true=>exact hb pins s1 σ H1 Q I1 q1
       | false=>exact ⟨.bl false,H1,I1,rfl,q1⟩)
theorem q_or (ha:PE X a ta) (hb:PE X (.BoolOp .Or (b :: rest) pos) tb):PE X (.BoolOp .Or (a :: b :: rest) pos) (fOr ta tb):=by
  intro pins s σ H Q I h
  refine BoolOp_or (thn (ha pins s σ H _ I h) fun v s1 ⟨x,H1,I1,r1,q1⟩=>?_)
  cases x <;> first
    | exact False.elim q1
    | (rename_i c
       cases r1
       refine wpAny_truthy_bool ?_
       cases c with
       | false=>exact hb pins s1 σ H1 Q I1 q1
       | true=>exact ⟨.bl true,H1,I1,rfl,q1⟩)
theorem q_not (ha:PE X a ta):PE X (.UnaryOp .Not a pos) (fNot ta):=by
  intro pins s σ H Q I h
  refine UnaryOp_ (thn (ha pins s σ H _ I h) fun v s1 ⟨x,H1,I1,r1,q1⟩=>?_)
  cases x <;> first
    | exact False.elim q1
    | (rename_i c
       cases r1
       exact not_of (wpAny_truthy_bool ⟨.bl (!c),H1,I1,rfl,q1⟩))
theorem jc8 {t:TE} (h:PE X e t) (he:∀ whole,isTrue e X.env whole = (do let v <- whole; standAt e.pos; holding [v] (truthy v)):=by intro _; rfl):PT X e (fB t):=by
  intro pins s σ H Q I hw
  refine isTrue_plain (thn (h pins s σ H _ I hw) fun v s1 ⟨x,H1,I1,r1,q1⟩=>?_) (he _)
  cases x <;> first
    | exact False.elim q1
    | (cases r1
       exact wpAny_truthy_bool ⟨H1,I1,q1⟩)
theorem jal {op:CmpOp} {r:R2} (ho:OpR X (compareOp op) r) (ha:PE X a ta) (hb:PE X b tb) (hm:behindInMarks op b = false):PT X (.Compare a [op] [b] pos) (fB (tOp r ta tb)):=by
  intro pins s σ H Q I h
  refine wpAny_isTrue_Compare1 (thn (ha pins s σ H _ I h) fun v s1 ⟨x,H1,I1,r1,q1⟩=>thn (hb pins s1 σ H1 _ I1 q1) fun u s2 ⟨y,H2,I2,r2,q2⟩ =>
    thn (ho pins s2 σ H2 x y v u _ I2 r1 r2 q2) fun c s3 ⟨z,H3,I3,r3,q3⟩=>?_) hm
  cases z <;> first
    | exact False.elim q3
    | (cases r3
       exact wpAny_truthy_bool ⟨H3,I3,q3⟩)
theorem jmk {op:CmpOp} {t:TE} (h:PC X op a b t) (h1:behindInMarks op b = false:=by first | exact jlt _ (by decide) (by decide) | rfl):PT X (.Compare a [op] [b] pos) (fB t):=by
  intro pins s σ H Q I hw
  refine wpAny_isTrue_Compare1 (thn (h pins s σ H _ I hw) fun v s1 h1=>thn h1 fun u s2 h2=>thn h2 fun c s3 ⟨x,H1,I1,r1,q1⟩=>?_) h1
  cases x <;> first
    | exact False.elim q1
    | (cases r1
       exact wpAny_truthy_bool ⟨H1,I1,q1⟩)
def jh2 (r r':R2) (ta tb tc:TE):TE:=fun σ H Q=>ta σ H fun x H1=>tb σ H1 fun y H2=>r x y H2 fun z H3=>match z with
 | .bl k=>(if k = true then tc σ H3 fun w' H4=>r' y w' H4 Q else Q (.bl false) H3)
 | _=>False
theorem jkd {op op':CmpOp} {g:Int->Int->Bool} {r':R2} (ho:OpR X (compareOp op) (fI fun i j=>.bl (g i j))) (ho':OpR X (compareOp op') r') (ha:PE X a ta) (hb:PE X b tb) (hc:PE X c tc)
  (hm:lastMarks [op,op'] [b,c] = false:=by with_unfolding_all rfl):PE X (.Compare a [op,op'] [b,c] pos) (jh2 (fI fun i j=>.bl (g i j)) r' ta tb tc):=by
 intro pins s σ H Q I h
 refine Compare_chain (thn (ha pins s σ H _ I h) fun v s1 ⟨x,H1,I1,r1,q1⟩=>chain_link (thn (hb pins s1 σ H1 _ I1 q1) fun u s2 ⟨y,H2,I2,r2,q2⟩ =>
  thn (ho pins s2 σ H2 x y v u (fun z H3=>∃ k,z = .bl k/\(if k = true then tc σ H3 fun w' H4=>r' y w' H4 Q else Q (.bl false) H3)) I2 r1 r2 ?_) fun d s3 ⟨z,H3,I3,r3,k,e,q3⟩=>?_)) hm
 ·dsimp only at q2
  unfold fI at q2 ⊢
  cases x <;> cases y <;> first
   | exact q2.elim
   | exact ⟨_,rfl,q2⟩
 ·subst e
  cases r3
  refine wpAny_truthy_bool ?_
  cases k with
  | false=>exact ite_ff ⟨.bl false,H3,I3,rfl,q3⟩
  | true=>exact ite_tt (chain_last (thn (hc pins s3 σ H3 _ I3 q3) fun w' s4 ⟨z',H4,I4,r4,q4⟩=>ho' pins s4 σ H4 y z' u w' Q I4 r2 r4 q4))
def jai (H:Hp) (p:Addr):Option (List V):=match H p with
 | some (.lst xs)=>some xs
 | some (.tup xs)=>some xs
 | some (.frz _ (.lst xs))=>some xs
 | _=>none
theorem jfa {K:PySem.W.Frag} {H:Hp} {p:Addr} {xs:List V} (h:jai H p = some xs):SqL K H p xs \/ SqT K H p xs:=by
 unfold jai at h
 split at h
 ·rename_i ys e; cases h; exact .inl (.inl (.inl e))
 ·rename_i ys e; cases h; exact .inr (SqT.of e)
 ·rename_i o ys e; cases h; exact .inl (.inl (.inr ⟨_,e⟩))
 ·cases h
def fIx:R2:=fun x y H Q=>match x,y with
 | .ref p,.int i=>match jai H p with
  | some xs=>match atI xs i with
   | some v=>Q v H
   | none=>False
  | none=>False
 | _,_=>False
theorem q_ix:IxR X fIx:=(jp1.or ix_tup).imp fun x y H Q h=>by
 unfold fIx at h
 split at h
 ·split at h
  ·rename_i xs e
   split at h
   ·rename_i v ev
    rcases jfa (K:=X.K) e with z | z
    ·exact .inl ⟨_,_,_,_,rfl,rfl,z,ev,h⟩
    ·exact .inr ⟨_,_,_,_,rfl,rfl,z,ev,h⟩
   ·exact h.elim
  ·exact h.elim
 ·exact h.elim
def fLen:List V->Hp->VK->Prop:=fun vs H Q=>match vs with
 | [.ref p]=>match jai H p with
  | some xs=>Q (.int xs.length) H
  | none=>False
 | _=>False
theorem jdl:jck X (.builtin "len") fLen:=jdv.imp fun vs H Q h=>by
 unfold fLen at h
 split at h
 ·split at h
  ·rename_i xs e; exact ⟨_,xs,rfl,jfa e,h⟩
  ·exact h.elim
 ·exact h.elim
def je6:List V->Hp->VK->Prop:=fun vs H Q=>match vs with
 | [.ref p]=>match jai H p with
  | some xs=>∀ l,H l = none->Q (.ref l) (upd H l (.lst xs))
  | none=>False
 | _=>False
theorem jfb:jck X (.type "list") je6:=jjw.imp fun vs H Q h=>by
 unfold je6 at h
 split at h
 ·split at h
  ·rename_i xs e; exact ⟨_,xs,rfl,jfa e,h⟩
  ·exact h.elim
 ·exact h.elim
def fMin:List V->Hp->VK->Prop:=fun vs H Q=>match vs with
 | [.int i,.int j]=>Q (.int (if j < i then j else i)) H
 | _=>False
theorem jqa (hc:X.calm = true):jck X (.builtin "min") fMin:=(jpk hc).imp fun vs H Q h=>by
 unfold fMin at h
 split at h
 ·exact ⟨_,_,rfl,h⟩
 ·exact h.elim
def fSlL:V->Option Int->Option Int->Hp->VK->Prop:=fun x lo hi H Q=>match x with
 | .ref a=>match H a with
  | some (.lst xs)=>∀ p,H p = none->Q (.ref p) (upd H p (.lst (cutV xs lo hi)))
  | _=>False
 | _=>False
theorem jf3:SlR X fSlL:=jrz.imp fun x l u H Q h=>by
 unfold fSlL at h
 split at h
 ·split at h
  ·rename_i xs e; exact ⟨_,xs,rfl,SqL.of e,h⟩
  ·exact h.elim
 ·exact h.elim
def je7:V->List V->Hp->VK->Prop:=fun x vs H Q=>match x,vs with
 | .ref l,[y]=>match H l with
  | some (.lst xs)=>xs.length < sizeLine/\Q .non (upd H l (.lst (xs ++ [y])))
  | _=>False
 | _,_=>False
theorem jdb:MtR X "list.append" je7:=MtR.imp (r:=jo7) (fun pins s σ H x xs v us Q I rx rv q=>jjg pins s σ H x xs v us Q I rx rv q) fun x vs H Q h=>by
 unfold je7 at h
 split at h
 ·split at h
  ·rename_i xs e; exact ⟨_,xs,_,rfl,rfl,e,h.1,h.2⟩
  ·exact h.elim
 ·exact h.elim
def fBM (r:V->List V->Hp->VK->Prop) (to:TE) (t:TA):TE:=fun σ H Q=>to σ H fun x H1=>(∃ a xs,x = .ref a/\H1 a = some (.lst xs))/\t σ H1 fun xs H2=>r x xs H2 Q
def jl2:TSet:=fun o i v H Q=>match o,i with
 | .ref p,.int k=>match H p with
  | some (.lst xs)=>match ixN xs.length k with
   | some j=>Q (upd H p (.lst (xs.set j v)))
   | none=>False
  | _=>False
 | _,_=>False
theorem jgs:PSet X jl2:=jq4.imp fun o i v H Q h=>by
 unfold jl2 at h
 split at h
 ·split at h
  ·rename_i xs e
   split at h
   ·rename_i j ej; exact ⟨_,xs,_,j,rfl,rfl,e,ej,h⟩
   ·exact h.elim
  ·exact h.elim
 ·exact h.elim
def jl5:TGs:=fun vs σ H Q=>match vs with
 | []=>Q σ H
 | _=>False
def jg2 (t:TG) (u:TGs):TGs:=fun vs σ H Q=>match vs with
 | v :: r=>t v σ H fun σ' H'=>u r σ' H' Q
 | []=>False
theorem jbr:PGs X [] jl5:=js2.imp fun v σ H Q h=>by
 unfold jl5 at h
 split at h
 ·exact ⟨rfl,h⟩
 ·exact h.elim
theorem jat {t:TG} {u:TGs} (h1:PG X e t) (h2:PGs X es u) (hs:(assignEach (e :: es) X.env).map (·.2) = assign e X.env :: (assignEach es X.env).map (·.2):=by rfl):PGs X (e :: es) (jg2 t u):=(jqd h1 h2 hs).imp fun v σ H Q h=>by
 unfold jg2 at h
 split at h
 ·exact ⟨_,_,rfl,h⟩
 ·exact h.elim
def jl4 (n:Nat) (t:TGs):TG:=fun v σ H Q=>match v with
 | .ref a=>match H a with
  | some (.tup xs)=>xs.length = n/\t xs σ H Q
  | _=>False
 | _=>False
theorem jc9 {k:Nat} {t:TGs} {n:Nat} (hc:X.calm = true) (h:PGs X es t) (hn:(assignEach es X.env).length = n:=by rfl) (hst:(assignEach es X.env).findIdx? (·.1) = none:=by rfl):PG X (.Tuple es k pos) (jl4 n t) :=
 (pg_tup hc h hn hst).imp fun v σ H Q q=>by
  unfold jl4 at q
  split at q
  ·split at q
   ·rename_i xs e; exact ⟨_,xs,rfl,SqT.of e,q.1,q.2⟩
   ·exact q.elim
  ·exact q.elim
def fDIn (f:Bool->Bool) (ty td:TE):TE:=fun σ H Q=>ty σ H fun y H1=>td σ H1 fun x H2=>match y,x with
 | .int n,.ref a=>match H2 a with
  | some (.dK kvs)=>Q (.bl (f (valV kvs (Sum.inl n:Key)).isSome)) H2
  | _=>False
 | _,_=>False
def jn1 (td ty:TE):TE:=fun σ H Q=>td σ H fun x H1=>ty σ H1 fun y H2=>match x,y with
 | .ref a,.int n=>match H2 a with
  | some (.dK kvs)=>match valV kvs (Sum.inl n:Key) with
   | some v=>Q v H2
   | none=>False
  | _=>False
 | _,_=>False
end
section
variable {X:Cx} {o i:Expr} {td ty:TE} {pos:Pos}
theorem jrp {f:Bool->Bool} {H2:Hp} {Q:VK} {y x:V} (h:(match y,x with
  | .int n,.ref a=>match H2 a with
    | some (.dK kvs)=>Q (.bl (f (valV kvs (Sum.inl n:Key)).isSome)) H2
    | _=>False
  | _,_=>False)):∃ a ov,x = .ref a/\DGet H2 a y ov/\Q (.bl (f ov.isSome)) H2:=by
  cases y <;> cases x <;> first
    | exact h.elim
    | (rename_i n a
       dsimp only at h
       split at h
       · rename_i kvs e; exact ⟨a,_,rfl,DGet.k (k:=Sum.inl n) e,h⟩
       · exact h.elim)
theorem jmm (hu:X.A.units + 1 < cLine) (hi:PE X i ty) (ho:PE X o td):PC X .In i o (fDIn id ty td):=by
 intro pins s σ H Q I h
 refine thn (hi pins s σ H _ I h) fun iv s1 ⟨y,H1,I1,ry,q1⟩=>thn (ho pins s1 σ H1 _ I1 q1) fun u s2 ⟨x,H2,I2,rx,q2⟩=>?_
 obtain ⟨a,ov,ex,g,q3⟩:=jrp q2
 subst ex
 obtain rfl:u = Value.ref a:=rx
 exact dz0 hu I2 g ry fun s' I3=>⟨.bl ov.isSome,H2,I3,rfl,q3⟩
theorem jhj (hu:X.A.units + 1 < cLine) (hi:PE X i ty) (ho:PE X o td):PC X .NotIn i o (fDIn not ty td):=by
 intro pins s σ H Q I h
 refine thn (hi pins s σ H _ I h) fun iv s1 ⟨y,H1,I1,ry,q1⟩=>thn (ho pins s1 σ H1 _ I1 q1) fun u s2 ⟨x,H2,I2,rx,q2⟩=>?_
 obtain ⟨a,ov,ex,g,q3⟩:=jrp q2
 subst ex
 obtain rfl:u = Value.ref a:=rx
 exact jsk hu I2 g ry fun s' I3=>⟨.bl (!ov.isSome),H2,I3,rfl,q3⟩
theorem jaz (hu:X.A.units + 1 < cLine) (ho:PE X o td) (hi:PE X i ty) (hs:NoSl i):PE X (.Subscript o i pos) (jn1 td ty):=by
  intro pins s σ H Q I h
  refine jnk PySem.F.slot_dict_getitem.lookup hs (thn (ho pins s σ H _ I h) fun u s1 ⟨x,H1,I1,rx,q1⟩=>thn (hi pins s1 σ H1 _ I1 q1) fun iv s2 ⟨y,H2,I2,ry,q2⟩=>?_)
  cases x <;> cases y <;> first
    | exact False.elim q2
    | (dsimp only at q2
       split at q2
       · rename_i kvs e
         split at q2
         · rename_i v ev
           cases rx
           have g:∀ {a:Addr} {n:Int},H2 a = some (.dK kvs)->valV kvs (Sum.inl n:Key) = some v->DGet H2 a (.int n) (some v):=fun e1 e2=>e2 ▸ DGet.k (k:=Sum.inl _) e1
           have g:=g e ev
           exact ⟨jg5 I2 g,jju hu I2 g ry fun w' s3 I3 rw'=>⟨v,H2,I3,rw',q2⟩⟩
         · exact q2.elim
       · exact q2.elim)
theorem q_bm {e:Expr} {es:List Expr} {to:TE} {t:TA} {name:Str} {apos cpos:Pos} {id:String} {r:V->List V->Hp->VK->Prop} (pa:PlainAttrs "list") (slot:Slot "list" name id) (hty:typeOf (.builtin id) = pure (.type "method_descriptor")) (hm:MtR X id r) (ho:PE X o to) (ha:PA X (e :: es) t)
  (hbase:attributeBase o name X.env (eval o X.env) = eval o X.env:=by rfl)
  (hfew:((backTo cpos (starEach (e :: es) X.env)).all (fun x=>!x.1) && (backToKw cpos (keywordEach [] X.env)).all (fun x=>x.1.isSome)
   && decide ((e :: es).length + ([]:List Keyword).length + (if ([]:List Keyword).isEmpty then 0 else 1) < 30)) = true:=by rfl)
  (hline:(apos.endLine == cpos.line) = true:=by rfl) (hs:starEach (e :: es) X.env = (false,eval e X.env) :: starEach es X.env:=by rfl) (hplain:(backTo cpos (starEach es X.env)).any (·.1) = false:=by rfl) :
  PE X (.Call (.Attribute o name apos) (e :: es) [] cpos) (fBM r to t):=by
 intro pins s σ H Q I h
 refine wpAny_Call_method_late hbase hfew hline rfl (thn (ho pins s σ H _ I h) fun v s1 ⟨x,H1,I1,r1,⟨a,xs,ex,ea⟩,q1⟩=>?_)
 subst ex
 obtain ⟨h1,h2⟩:=tyV_is (T:="list") I1 r1 (.inl ⟨rfl,_,SqL.of ea⟩)
 refine ⟨"list",id,pa,slot,hty,h1,h2,?_⟩
 have hA:=ha cpos pins s1 σ H1 _ I1 q1
 rw [hs] at hA ⊢
 refine Calls.callWith_builtin (by show (false || (backTo cpos (starEach es X.env)).any (·.1)) = false; rw [hplain] <;> rfl) (Calls.evalArgs_plain ?_)
 exact thn hA fun us s2 ⟨vs,H2,I2,r2,q2⟩=>hm pins s2 σ H2 _ vs v us Q I2 r1 r2 q2
end
inductive Kd where
 | non | bl | int | str | lst | tup | dct
 deriving DecidableEq
def Kd.nm:Kd->String
 | .non=>"NoneType"
 | .bl=>"bool"
 | .int=>"int"
 | .str=>"str"
 | .lst=>"list"
 | .tup=>"tuple"
 | .dct=>"dict"
def kd (H:Hp) (v:V):Option Kd:=match v with
 | .non=>some .non
 | .bl _=>some .bl
 | .int _=>some .int
 | .str _=>some .str
 | .ref a=>match H a with
  | some (.lst _)=>some .lst
  | some (.tup _)=>some .tup
  | some (.dK _)=>some .dct
  | _=>none
 | _=>none
def isi (a b:Kd):Bool:=match a,b with
 | .bl,.int=>true
 | .non,.non=>true
 | .bl,.bl=>true
 | .int,.int=>true
 | .str,.str=>true
 | .lst,.lst=>true
 | .tup,.tup=>true
 | .dct,.dct=>true
 | _,_=>false
theorem kd_knd {H:Hp} {v:V} {k:Kd} (h:kd H v = some k):Knd H v k.nm:=by
 unfold kd at h
 split at h
 ·cases h; exact .non
 ·cases h; exact .bl
 ·cases h; exact .int
 ·cases h; exact .str
 ·split at h
  ·rename_i e; cases h; exact .lst e
  ·rename_i e; cases h; exact .tup e
  ·rename_i e; cases h; exact .dK e
  ·cases h
 ·cases h
theorem isi_K (a b:Kd):isiK a.nm b.nm = isi a b:=by cases a <;> cases b <;> rfl
theorem Kd.mem (b:Kd):b.nm ∈ jhx:=by cases b <;> simp [jhx,Kd.nm]
def fIsi (T:Kd):List V->Hp->VK->Prop:=fun vs H Q=>match vs with
 | [x,y]=>y = .ty T.nm/\match kd H x with
  | some k=>Q (.bl (isi k T)) H
  | none=>False
 | _=>False
theorem jit {X:Cx} (T:Kd):jck X (.builtin "isinstance") (fIsi T):=jqt.imp fun vs H Q h=>by
 unfold fIsi at h
 split at h
 ·obtain ⟨rfl,h⟩:=h
  split at h
  ·rename_i k e
   exact ⟨_,_,_,rfl,kd_knd e,Kd.mem T,by rw [isi_K]; exact h⟩
  ·exact h.elim
 ·exact h.elim
def fAug (i:Nat) (te:TE) (ti:TIp):TS:=fun D σ H=>match σ[i]? with
 | some (some x)=>te σ H fun y H1=>ti x y H1 fun z H2=>D.nx (σ.set i (some z)) H2
 | _=>False
theorem qs_aug {X:Cx} {pos:Pos} {i:Nat} {x:Str} {e:Expr} {te:TE} {op:Operator} {ti:TIp} {pos':Pos} (hN:X.N.Nodup) (hi:X.N[i]? = some x) (hx:Loc X.env.scope x) (he:PE X e te) (ho:PIp X op ti) (hf:X.fn x = true \/ X.env.scope.names.lookup x = some .local:=by first | exact .inl rfl | exact .inr rfl | assumption) :
  PS X (.AugAssign (.Name x pos') op e pos) (fAug i te ti):=fun pins s σ H D I h=>ps_aug hN hi hx he ho hf pins s σ H D I (by
 unfold fAug at h
 split at h
 ·rename_i x e; exact ⟨x,e,h⟩
 ·exact h.elim)
def jn0 (t:TE):TO:=fun σ H Q=>t σ H fun x H1=>match x with
 | .int i=>Q (some i) H1
 | _=>False
theorem jc4 {X:Cx} {e:Expr} {te:TE} (h:PE X e te):PO X (some e) (jn0 te):=by
  intro pins s σ H Q I hw
  rw [evalPart_some]
  refine thn (h pins s σ H _ I hw) fun u s1 ⟨x,H1,I1,r1,q1⟩=>?_
  cases x <;> first
    | exact False.elim q1
    | (obtain ⟨t,rfl⟩:=r1
       exact ⟨some _,H1,I1,.int _ t,q1⟩)
def jei (f:List Bool->Bool):List V->Hp->VK->Prop:=fun vs H Q=>match vs with
 | [.ref l]=>match H l with
  | some (.lst xs)=>∃ bs:List Bool,xs = bs.map V.bl/\Q (.bl (f bs)) H
  | _=>False
 | _=>False
theorem jm2 {f:List Bool->Bool} {vs:List V} {H:Hp} {Q:VK} (h:jei f vs H Q):jo6 f vs H Q:=by
 unfold jei at h
 split at h
 ·split at h
  ·rename_i xs e
   obtain ⟨bs,rfl,h⟩:=h
   exact ⟨_,bs,rfl,e,h⟩
  ·exact h.elim
 ·exact h.elim
theorem q_all {X:Cx} (hc:X.calm = true):jck X (.builtin "all") (jei fun bs=>bs.all id):=(jqv hc).imp fun _ _ _=>jm2
theorem q_any {X:Cx} (hc:X.calm = true):jck X (.builtin "any") (jei fun bs=>bs.any id):=(jqu hc).imp fun _ _ _=>jm2
def jg3:List V->Hp->VK->Prop:=fun vs H Q=>match vs with
 | [.ref l]=>match H l with
  | some (.lst xs)=>∃ kvs:List (Key × V),Paired (PairAt H) xs kvs/\xs.length <= 1000/\(kvs.map (·.1)).Nodup/\∀ d,H d = none->Q (.ref d) (upd H d (.dK kvs))
  | _=>False
 | _=>False
theorem jdq {X:Cx} (hc:X.calm = true):jck X (.type "dict") jg3:=(jn5 hc).imp fun vs H Q h=>by
 unfold jg3 at h
 split at h
 ·split at h
  ·rename_i xs e
   obtain ⟨kvs,h1,h2,h3,h4⟩:=h
   exact ⟨_,xs,kvs,rfl,e,h1,h2,h3,h4⟩
  ·exact h.elim
 ·exact h.elim
def fLtT:R2:=fun x y H Q=>match x,y with
 | .ref a,.ref b=>match H a,H b with
  | some (.tup [.int i,.int j]),some (.tup [.int k,.int l])=>Q (.bl (HT.lexLt [i,j] [k,l])) H
  | _,_=>False
 | _,_=>False
theorem q_ltT {X:Cx} (hu:X.A.units < cLine):OpR X (compareOp .Lt) fLtT:=(op_ltT hu).imp fun x y H Q h=>by
 unfold fLtT at h
 split at h
 ·split at h
  ·rename_i a b _ _ i j k l e1 e2
   exact ⟨a,b,[i,j],[k,l],rfl,rfl,SqT.of e1,SqT.of e2,h⟩
  ·exact h.elim
 ·exact h.elim
def capB (XN:List Str) (names:List (Str × NameKind)):List Str->List (Option Nat)->Bool
 | [],[]=>true
 | x :: N,none :: r=>capB XN names N r
 | x :: N,some j :: r=>(XN[j]? == some x) && (names.lookup x == some .free) && capB XN names N r
 | _,_=>false
theorem jl7 {XN:List Str} {names:List (Str × NameKind)}:∀ {N:List Str} {src:List (Option Nat)},capB XN names N src = true->src.length = N.length/\∀ (i j:Nat),src[i]? = some (some j)->XN[j]? = N[i]?/\(N[i]?).elim False (fun x=>names.lookup x = some .free)
 | [],[],_=>⟨rfl,fun i j e=>by simp at e⟩
 | x :: N,none :: r,h=>by
  obtain ⟨h1,h2⟩:=jl7 (N:=N) (src:=r) h
  refine ⟨by simp [h1],fun i j e=>?_⟩
  cases i with
  | zero=>simp at e
  | succ i=>exact h2 i j (by simpa using e)
 | x :: N,some k :: r,h=>by
  have h':((XN[k]? == some x) && (names.lookup x == some .free) && capB XN names N r) = true:=h
  rw [Bool.and_eq_true,Bool.and_eq_true] at h'
  obtain ⟨h1,h2⟩:=jl7 (N:=N) (src:=r) h'.2
  refine ⟨by simp [h1],fun i j e=>?_⟩
  cases i with
  | zero =>
   have e':k = j:=by simpa using e
   subst e'
   exact ⟨by simpa using h'.1.1,by simpa using h'.1.2⟩
  | succ i=>exact h2 i j (by simpa using e)
def jls:List Str->Bool
 | []=>true
 | x :: r=>!(r.contains x) && jls r
theorem jac:∀ {l:List Str},jls l = true->l.Nodup
 | [],_=>List.nodup_nil
 | x :: r,h=>by
  have h':(!(r.contains x) && jls r) = true:=h
  rw [Bool.and_eq_true] at h'
  exact List.nodup_cons.mpr ⟨by simpa using h'.1,jac h'.2⟩
def cpB (XN:List Str) (outer:List (Str × NameKind)) (scope:Scope) (N:List Str) (src:List (Option Nat)):Bool :=
 (scope.kind == .function) && scope.names.all (fun y=>y.2 != .cell) && scope.names.all (fun y=>y.2 != .local || scope.names.lookup y.1 == some .local) &&
  scope.names.all (fun y=>y.2 != .free || (scope.names.lookup y.1 == some .free && outer.lookup y.1 == some .cell)) && jls N && capB XN scope.names N src
theorem CpScope.of {X:Cx} {scope:Scope} {N:List Str} {src:List (Option Nat)} (h:cpB X.N X.env.scope.names scope N src = true):CpScope X scope N src:=by
 unfold cpB at h
 simp only [Bool.and_eq_true] at h
 obtain ⟨⟨⟨⟨⟨h1,h2⟩,h3⟩,h4⟩,h5⟩,h6⟩:=h
 rw [List.all_eq_true] at h2 h3 h4
 obtain ⟨l,c⟩:=jl7 h6
 refine ⟨by simpa using h1,fun y hy=>by simpa using h2 y hy,fun y hy e=>?_,fun y hy e=>?_,jac h5,l,c⟩
 ·have:=h3 y hy
  rw [e] at this
  simpa using this
 ·have:=h4 y hy
  rw [e] at this
  simpa using this
theorem jlx {K:PySem.W.Frag} {a:Addr} {xs:List V} {g:TG} {tb:TS} {D:Ends} {σ:St} {H:Hp} (Pv:Nat->St->Hp->Prop) (h0:Pv 0 σ H) (hl:∀ i σ H,i <= xs.length->Pv i σ H->SqL K H a xs)
  (hs:∀ i x σ H t,xs[i]? = some x->Pv i σ H->H t = none->g (.ref t) σ (upd H t (.tup [.int i,x])) fun σ2 H2=>tb { D with nx:=Pv (i + 1),ct:=Pv (i + 1),bk:=D.nx } σ2 H2) (hd:∀ σ H,Pv xs.length σ H->D.nx σ H) :
  ∃ W:Nat->Nat->St->Hp->Prop,(∃ m,W 0 m σ H)/\∀ i m σ H,W i m σ H ->
   ((Ite K a).stop i H/\D.nx σ H) \/ ((Ite K a).go i H/\∃ N:St->Hp->Prop,(∀ σ' H',N σ' H'->∃ m',m' < m/\W (i + 1) m' σ' H')/\∀ x H',(Ite K a).yld i H x H'->g x σ H' fun σ2 H2=>tb { D with nx:=N,ct:=N,bk:=D.nx } σ2 H2):=by
 refine ⟨fun i m σ H=>m = xs.length - i/\i <= xs.length/\Pv i σ H,⟨xs.length,by simp,Nat.zero_le _,h0⟩,?_⟩
 rintro i m σ H ⟨rfl,hi,p⟩
 have q:=hl i σ H hi p
 by_cases hlt:i < xs.length
 ·refine .inr ⟨⟨xs,xs[i],q,by simp [hlt]⟩,Pv (i + 1),fun σ' H' p'=>⟨xs.length - (i + 1),by omega,rfl,hlt,p'⟩,fun x H' y=>?_⟩
  obtain ⟨t,z,ht,e1,e2,y⟩:=y
  subst e1 e2
  exact hs i z σ _ t (y xs q) p ht
 ·have e:i = xs.length:=by omega
  subst e
  exact .inl ⟨⟨xs,q,Nat.le_refl _⟩,hd σ H p⟩
theorem jbq {wi:TI} {g:TG} {tb:TS} {D:Ends} {σ:St} {H:Hp} (J:It) (H1:Hp) (h1:∀ R:It->Hp->Prop,R J H1->wi σ H R)
  (h2:∃ W:Nat->Nat->St->Hp->Prop,(∃ m,W 0 m σ H1)/\∀ i m σ H,W i m σ H->(J.stop i H/\D.nx σ H) \/ (J.go i H/\∃ N:St->Hp->Prop,(∀ σ' H',N σ' H'->∃ m',m' < m/\W (i + 1) m' σ' H')/\∀ x H',J.yld i H x H'->g x σ H' fun σ2 H2=>tb { D with nx:=N,ct:=N,bk:=D.nx } σ2 H2)) :
  tFor wi g tb D σ H:=h1 _ h2
theorem jap {src:List (Option Nat)} {wi:TI} {g:TG} {tc:TT} {te:TE} {Q:VK} {σ:St} {H:Hp} (J:It) (H1:Hp) (h1:∀ R:It->Hp->Prop,R J H1->wi σ H R) (h2:∀ l,H1 l = none->jpt J src g tc te Q σ H1 l):jpy src wi g tc te σ H Q:=h1 _ h2
theorem ja2 {H:Hp} {p:Addr} (h:H p = none) (o:HO):Same H (upd H p o):=fun b u q=>by rw [jae (jaa q h)]; exact q
theorem jao {H H':Hp} {p:Addr} {o:HO} (s:Same H H') (h:H p = none):Same H (upd H' p o):=fun b u q=>by rw [jae (jaa q h)]; exact s b u q
def Pr (H:Hp) (v:V) (p:Int × Int):Prop:=∃ t,v = .ref t/\H t = some (.tup [.int p.1,.int p.2])
theorem Pr.same {H H':Hp} {v:V} {p:Int × Int} (h:Pr H v p) (s:Same H H'):Pr H' v p:=let ⟨t,e,q⟩:=h; ⟨t,e,s _ _ q⟩
def jsb:HO->Bool
 | .tup _=>true
 | .frz _ _=>true
 | _=>false
def TupS (H H':Hp):Prop:=∀ b o,jsb o = true->H b = some o->H' b = some o
theorem Same.tups {H H':Hp} (s:Same H H'):TupS H H':=fun b o _ q=>s b _ q
theorem TupS.trans {H H1 H2:Hp} (a:TupS H H1) (b:TupS H1 H2):TupS H H2:=fun c o i q=>b c o i (a c o i q)
theorem jba {H:Hp} {l:Addr} {xs ys:List V} (h:H l = some (.lst xs)):TupS H (upd H l (.lst ys)):=fun b o i q=>by
 have:b ≠ l:=fun z=>by rw [z,h] at q; cases q; cases i
 rw [jae this]
 exact q
theorem jcz {H:Hp} {l:Addr} {o:HO} (h:H l = none):TupS H (upd H l o):=(ja2 h o).tups
theorem Pr.tups {H H':Hp} {v:V} {p:Int × Int} (h:Pr H v p) (s:TupS H H'):Pr H' v p:=let ⟨t,e,q⟩:=h; ⟨t,e,s _ _ rfl q⟩
def Scr (K:PySem.W.Frag) (H:Hp) (a:Addr) (ns:List Int):Prop :=
 (∃ o,H a = some (.frz o (.lst (ns.map V.int)))) \/ ∃ (o:Obj) (its:Array Value) (n:Nat),K.lookup a = some o/\o.cls = .type "list"/\o.dict = none/\o.data = .seq its n/\its.size <= sizeLine/\Vals (ns.map V.int) its.toList
theorem Scr.sq {K:PySem.W.Frag} {H:Hp} {a:Addr} {ns:List Int} (h:Scr K H a ns):SqL K H a (ns.map V.int):=h.elim (fun ⟨o,q⟩=>.inl (.inr ⟨o,q⟩)) .inr
theorem Scr.of {K:PySem.W.Frag} {H:Hp} {a:Addr} {ns:List Int} (h:SqL K H a (ns.map V.int)) (o:Only H):Scr K H a ns:=by
 rcases h with (h | ⟨ob,h⟩) | h
 ·rcases o a with z | ⟨ob,xs,z⟩
  ·rw [h] at z; cases z
  ·rw [h] at z; cases z
 ·exact .inl ⟨ob,h⟩
 ·exact .inr h
theorem Scr.tups {K:PySem.W.Frag} {H H':Hp} {a:Addr} {ns:List Int} (h:Scr K H a ns) (s:TupS H H'):Scr K H' a ns:=h.elim (fun ⟨o,q⟩=>.inl ⟨o,s _ _ rfl q⟩) .inr
abbrev Prs (H:Hp):List V->List (Int × Int)->Prop:=Paired (Pr H)
theorem Prs.tups {H H':Hp} (s:TupS H H') {xs:List V} {ps:List (Int × Int)} (h:Prs H xs ps):Prs H' xs ps:=Paired.mapP h fun _ _ q=>q.tups s
theorem Prs.same {H H':Hp} (s:Same H H') {xs:List V} {ps:List (Int × Int)} (h:Prs H xs ps):Prs H' xs ps:=Prs.tups s.tups h
theorem jas {α β:Type} {F:α->β->Prop}:∀ {xs:List α} {ys:List β} {i:Nat} {x:α},Paired F xs ys->xs[i]? = some x->∃ y,ys[i]? = some y/\F x y
 | _,_,_,_,.nil,e=>by simp at e
 | _,_,0,_,.cons r _,e=>by simp at e; subst e; exact ⟨_,rfl,r⟩
 | _,_,i + 1,y,.cons _ t,e=>by
  obtain ⟨u,h1,h2⟩:=jas (i:=i) t (by simpa using e)
  exact ⟨u,by simpa using h1,h2⟩
theorem jc2 {α β:Type} {F:α->β->Prop}:∀ {xs:List α} {ys:List β} {i:Nat} {y:β},Paired F xs ys->ys[i]? = some y->∃ x,xs[i]? = some x/\F x y
 | _,_,_,_,.nil,e=>by simp at e
 | _,_,0,_,.cons r _,e=>by simp at e; subst e; exact ⟨_,rfl,r⟩
 | _,_,i + 1,y,.cons _ t,e=>by
  obtain ⟨u,h1,h2⟩:=jc2 (i:=i) t (by simpa using e)
  exact ⟨u,by simpa using h1,h2⟩
theorem jar {α β:Type} {F:α->β->Prop} {a:α} {b:β} {l₁:List α} {l₂:List β} (h:Paired F l₁ l₂) (r:F a b):Paired F (l₁ ++ [a]) (l₂ ++ [b]):=Paired.snoc h r
theorem jhz {α:Type} {l:List α} {i:Nat} {x:α} (h:l[i]? = some x):l.drop i = x :: l.drop (i + 1):=by
 obtain ⟨h1,h2⟩:=List.getElem?_eq_some_iff.mp h
 rw [List.drop_eq_getElem_cons h1,h2]
theorem jaq {α:Type} {l:List α} {i:Nat} {x:α} (h:l[i]? = some x):l.take (i + 1) = l.take i ++ [x]:=by
 obtain ⟨h1,h2⟩:=List.getElem?_eq_some_iff.mp h
 rw [List.take_succ,h]
 rfl
inductive Dt where
 | non
 | bl (b:Bool)
 | int (i:Int)
 | str (x:Str)
 | tup (ds:List Dt)
 | lst (ds:List Dt)
mutual
def Rep (H:Hp):Dt->V->Prop
 | .non,v=>v = .non
 | .bl b,v=>v = .bl b
 | .int i,v=>v = .int i
 | .str x,v=>v = .str x
 | .tup ds,v=>∃ a vs,v = .ref a/\H a = some (.tup vs)/\Reps H ds vs
 | .lst ds,v=>∃ a vs,v = .ref a/\H a = some (.lst vs)/\Reps H ds vs
def Reps (H:Hp):List Dt->List V->Prop
 | [],vs=>vs = []
 | d :: ds,vs=>∃ v r,vs = v :: r/\Rep H d v/\Reps H ds r
end
mutual
theorem Rep.same {H H':Hp} (s:Same H H'):∀ (d:Dt) {v:V},Rep H d v->Rep H' d v
 | .non,_,h=>by rw [Rep] at *; exact h
 | .bl _,_,h=>by rw [Rep] at *; exact h
 | .int _,_,h=>by rw [Rep] at *; exact h
 | .str _,_,h=>by rw [Rep] at *; exact h
 | .tup ds,_,h=>by
  rw [Rep] at *
  obtain ⟨a,vs,e,q,r⟩:=h
  exact ⟨a,vs,e,s _ _ q,Reps.same s ds r⟩
 | .lst ds,_,h=>by
  rw [Rep] at *
  obtain ⟨a,vs,e,q,r⟩:=h
  exact ⟨a,vs,e,s _ _ q,Reps.same s ds r⟩
theorem Reps.same {H H':Hp} (s:Same H H'):∀ (ds:List Dt) {vs:List V},Reps H ds vs->Reps H' ds vs
 | [],_,h=>by rw [Reps] at *; exact h
 | d :: ds,_,h=>by
  rw [Reps] at *
  obtain ⟨v,r,e,h1,h2⟩:=h
  exact ⟨v,r,e,Rep.same s d h1,Reps.same s ds h2⟩
end
theorem Reps.len {H:Hp}:∀ {ds:List Dt} {vs:List V},Reps H ds vs->vs.length = ds.length
 | [],_,h=>by rw [Reps] at h; subst h; rfl
 | d :: ds,_,h=>by
  rw [Reps] at h
  obtain ⟨v,r,e,h1,h2⟩:=h
  rw [e,List.length_cons,List.length_cons,Reps.len h2]
theorem Reps.at {H:Hp}:∀ {ds:List Dt} {vs:List V} {i:Nat} {v:V},Reps H ds vs->vs[i]? = some v->∃ d,ds[i]? = some d/\Rep H d v
 | [],_,i,v,h,e=>by rw [Reps] at h; rw [h] at e; simp at e
 | d :: ds,_,i,v,h,e=>by
  rw [Reps] at h
  obtain ⟨w,r,e1,h1,h2⟩:=h
  subst e1
  cases i with
  | zero=>simp at e; subst e; exact ⟨d,rfl,h1⟩
  | succ i =>
   obtain ⟨d',q1,q2⟩:=Reps.at h2 (i:=i) (by simpa using e)
   exact ⟨d',by simpa using q1,q2⟩
def jd3 (p:Int × Int):Dt:=.tup [.int p.1,.int p.2]
theorem Pr.rep {H:Hp} {v:V} {p:Int × Int} (h:Pr H v p):Rep H (jd3 p) v:=by
 obtain ⟨t,e,q⟩:=h
 rw [jd3,Rep]
 refine ⟨t,_,e,q,?_⟩
 rw [Reps]
 refine ⟨_,_,rfl,(by rw [Rep]),?_⟩
 rw [Reps]
 exact ⟨_,_,rfl,(by rw [Rep]),(by rw [Reps])⟩
theorem Prs.reps {H:Hp}:∀ {xs:List V} {ps:List (Int × Int)},Prs H xs ps->Reps H (ps.map jd3) xs
 | _,_,.nil=>by rw [List.map_nil,Reps]
 | _,_,.cons r t=>by rw [List.map_cons,Reps]; exact ⟨_,_,rfl,r.rep,Prs.reps t⟩
def fMax:List V->Hp->VK->Prop:=fun vs H Q=>match vs with
 | [.int i,.int j]=>Q (.int (if i < j then j else i)) H
 | _=>False
theorem jml {X:Cx} (hc:X.calm = true):jck X (.builtin "max") fMax:=(jpl hc).imp fun vs H Q h=>by
 unfold fMax at h
 split at h
 ·refine ⟨_,_,rfl,?_⟩
  first | exact h | (rename_i i j; by_cases c:i < j <;> simp_all)
 ·exact h.elim
def fInL (neg:Bool):R2:=fun x y H Q=>match y with
 | .ref p=>match jai H p with
  | some xs=>jcg x = true/\xs.all jcg = true/\Q (.bl (if neg = true then !inV x xs else inV x xs)) H
  | none=>False
 | _=>False
theorem jro {K:PySem.W.Frag} {neg:Bool} {x y:V} {H:Hp} {Q:VK} (h:fInL neg x y H Q):rIn K neg x y H Q:=by
 unfold fInL at h
 split at h
 ·split at h
  ·rename_i xs e
   obtain ⟨h1,h2,h3⟩:=h
   exact ⟨_,xs,rfl,jfa e,h1,h2,h3⟩
  ·exact h.elim
 ·exact h.elim
theorem jhi {X:Cx}:OpR X (compareOp .In) (fInL false):=joh.imp fun _ _ _ _=>jro
theorem jcl {X:Cx}:OpR X (compareOp .NotIn) (fInL true):=jiw.imp fun _ _ _ _=>jro
theorem flat_ints (ns:List Int):(ns.map V.int).all jcg = true:=by
 rw [List.all_eq_true]
 intro v hv
 obtain ⟨n,_,e⟩:=List.mem_map.mp hv
 rw [<- e]
 rfl
theorem jbp (n:Int) (ns:List Int):inV (.int n) (ns.map V.int) = decide (n ∈ ns):=by
 rw [Bool.eq_iff_iff,inV,List.any_eq_true,decide_eq_true_iff]
 constructor
 ·rintro ⟨v,hv,e⟩
  obtain ⟨m,hm,e2⟩:=List.mem_map.mp hv
  subst e2
  have:m = n:=by simpa [eqV] using e
  rw [<- this]
  exact hm
 ·intro h
  exact ⟨.int n,List.mem_map_of_mem h,by simp [eqV]⟩
def rSortL:List V->Hp->VK->Prop:=fun vs H Q=>∃ (p:Addr) (ns:List Int),vs = [.ref p]/\H p = some (.lst (ns.map V.int))/\ns.length < 64 /\
 ∀ (l:Addr) (ms:List Int),H l = none->ms.Perm ns->ms.Pairwise (· <= ·)->Q (.ref l) (upd H l (.lst (ms.map V.int)))
theorem jda {X:Cx}:jck X (.builtin "sorted") rSortL:=by
 intro pins s σ H xs us Q I r h
 obtain ⟨p,ns,rfl,e,h64,q⟩:=h
 obtain ⟨u,rfl,rx⟩:=jic r
 cases rx
 obtain ⟨its,r',pl,hz⟩:=I.list (SqL.of e)
 have hI:=jd7 r'
 have hlen:=r'.length
 rw [List.length_map] at hlen
 refine sorted_ints pl.isList hI (by omega) fun out ms a1 a2 a3=>?_
 obtain ⟨c,hc⟩:=sortedAll_at s.heap its out
 have hml:=a2.length_eq
 have hz2:=jgy
 refine ⟨.ref (s.heap.objs.size + 1),_,I.laid (t':=s.toks) (fun _ _=>sortedAll_old) (Nat.le_succ _) (show jca X.prog X.w _ _ _ (.lst (ms.map V.int)) from ⟨?_,out.toList,c,jff a1,?_⟩),rfl,q _ ms (I.hok.fresh (Nat.le_succ _)) a2 a3⟩
 ·rw [List.length_map,hml]; exact Nat.le_trans (Nat.le_of_lt h64) (by decide)
 ·rw [hc]
mutual
def eqP:Dt->Dt->Bool
 | .non,.non=>true
 | .bl a,.bl b=>a == b
 | .bl a,.int b=>(if a then 1 else 0) == b
 | .int a,.bl b=>a == (if b then 1 else 0)
 | .int a,.int b=>a == b
 | .str a,.str b=>a == b
 | .tup a,.tup b=>eqPs a b
 | .lst a,.lst b=>eqPs a b
 | _,_=>false
def eqPs:List Dt->List Dt->Bool
 | [],[]=>true
 | a :: r,b :: t=>eqP a b && eqPs r t
 | _,_=>false
end
mutual
def depP:Dt->Nat
 | .tup a=>jcn a + 1
 | .lst a=>jcn a + 1
 | _=>0
def jcn:List Dt->Nat
 | []=>0
 | a :: r=>max (depP a) (jcn r)
end
def jev (a b:List Dt) (j:Nat):Bool:=match a[j]?,b[j]? with
 | some x,some y=>eqP x y
 | _,_=>false
theorem jdz:∀ {a b:List Dt},a.length ≠ b.length->eqPs a b = false
 | [],[],h=>absurd rfl h
 | [],_ :: _,_=>by simp [eqPs]
 | _ :: _,[],_=>by simp [eqPs]
 | x :: a,y :: b,h=>by
  rw [eqPs,jdz (by simpa using h),Bool.and_false]
theorem jo4:∀ (n:Nat) (f:Nat->Bool),(List.range (n + 1)).all f = (f 0 && (List.range n).all fun j=>f (j + 1)):=fun n f=>by
 rw [List.range_succ_eq_map,List.all_cons,List.all_map]
 rfl
theorem jct:∀ {a b:List Dt},a.length = b.length->eqPs a b = (List.range a.length).all (jev a b)
 | [],[],_=>by rw [eqPs]; rfl
 | [],_ :: _,h=>by simp at h
 | _ :: _,[],h=>by simp at h
 | x :: a,y :: b,h=>by
  rw [eqPs,jct (a:=a) (b:=b) (by simpa using h),List.length_cons,jo4]
  rfl
theorem jfe:∀ {a:List Dt} {j:Nat} {d:Dt},a[j]? = some d->depP d <= jcn a
 | [],_,_,h=>by simp at h
 | x :: a,0,d,h=>by
  simp at h; subst h
  rw [jcn]; omega
 | x :: a,j + 1,d,h=>by
  have:=jfe (a:=a) (j:=j) (by simpa using h)
  rw [jcn]; omega
def jcy:Dt->Option V
 | .non=>some .non
 | .bl b=>some (.bl b)
 | .int i=>some (.int i)
 | .str x=>some (.str x)
 | _=>none
theorem jqm {d e:Dt} {x y:V} (hd:jcy d = some x) (he:jcy e = some y):eqP d e = eqV x y:=by
 cases d <;> cases e <;> simp only [jcy,Option.some.injEq,reduceCtorEq] at hd he <;> subst hd <;> subst he <;> simp [eqP,eqV]
theorem jhg {H:Hp} {d:Dt} {x v:V} (hd:jcy d = some x) (h:Rep H d v):v = x/\jcg x = true:=by
 cases d <;> simp only [jcy,Option.some.injEq,reduceCtorEq] at hd <;> subst hd <;> rw [Rep] at h <;> exact ⟨h,rfl⟩
section
variable {X:Cx} {pins:List (Addr × Obj)} {σ:St} {H:Hp} {s:Shared}
theorem Inv.tupE (I:Inv X pins σ H s) {a:Addr} {vs:List V} (e:H a = some (.tup vs)):∃ its:List Value,Vals vs its/\s.heap.IsTuple a its.toArray:=by
 obtain ⟨its,r,p,_⟩:=I.tuple (SqT.of e)
 exact ⟨its,r,p⟩
theorem Inv.lstE (I:Inv X pins σ H s) {a:Addr} {vs:List V} (e:H a = some (.lst vs)):∃ its:List Value,Vals vs its/\s.heap.IsList a its.toArray:=by
 obtain ⟨its,r,p,_⟩:=I.list (SqL.of e)
 exact ⟨its,r,p.isList⟩
mutual
theorem jdi:∀ d:Dt,eqP d d = true
 | .non=>by simp [eqP]
 | .bl _=>by simp [eqP]
 | .int _=>by simp [eqP]
 | .str _=>by simp [eqP]
 | .tup a=>by rw [eqP]; exact jg4 a
 | .lst a=>by rw [eqP]; exact jg4 a
theorem jg4:∀ a:List Dt,eqPs a a = true
 | []=>by rw [eqPs]
 | d :: r=>by rw [eqPs,jdi d,jg4 r]; rfl
end
mutual
theorem Rep.inj {H:Hp}:∀ {d e:Dt} {v:V},Rep H d v->Rep H e v->d = e
 | .non,e,v,h1,h2=>by rw [Rep] at h1; subst h1; cases e <;> simp [Rep] at h2 ⊢
 | .bl _,e,v,h1,h2=>by rw [Rep] at h1; subst h1; cases e <;> simp [Rep] at h2 ⊢; exact h2
 | .int _,e,v,h1,h2=>by rw [Rep] at h1; subst h1; cases e <;> simp [Rep] at h2 ⊢; exact h2
 | .str _,e,v,h1,h2=>by rw [Rep] at h1; subst h1; cases e <;> simp [Rep] at h2 ⊢; exact h2
 | .tup ds,e,v,h1,h2=>by
  rw [Rep] at h1
  obtain ⟨a,vs,rfl,q,r⟩:=h1
  cases e with
  | tup es =>
   rw [Rep] at h2
   obtain ⟨a',vs',e',q',r'⟩:=h2
   cases e'
   rw [q] at q'; cases q'
   rw [Reps.inj r r']
  | lst es =>
   rw [Rep] at h2
   obtain ⟨a',vs',e',q',r'⟩:=h2
   cases e'
   rw [q] at q'; cases q'
  | non=>rw [Rep] at h2; cases h2
  | bl _=>rw [Rep] at h2; cases h2
  | int _=>rw [Rep] at h2; cases h2
  | str _=>rw [Rep] at h2; cases h2
 | .lst ds,e,v,h1,h2=>by
  rw [Rep] at h1
  obtain ⟨a,vs,rfl,q,r⟩:=h1
  cases e with
  | lst es =>
   rw [Rep] at h2
   obtain ⟨a',vs',e',q',r'⟩:=h2
   cases e'
   rw [q] at q'; cases q'
   rw [Reps.inj r r']
  | tup es =>
   rw [Rep] at h2
   obtain ⟨a',vs',e',q',r'⟩:=h2
   cases e'
   rw [q] at q'; cases q'
  | non=>rw [Rep] at h2; cases h2
  | bl _=>rw [Rep] at h2; cases h2
  | int _=>rw [Rep] at h2; cases h2
  | str _=>rw [Rep] at h2; cases h2
theorem Reps.inj {H:Hp}:∀ {ds es:List Dt} {vs:List V},Reps H ds vs->Reps H es vs->ds = es
 | [],es,vs,h1,h2=>by
  rw [Reps] at h1; subst h1
  cases es with
  | nil=>rfl
  | cons e es=>rw [Reps] at h2; obtain ⟨_,_,z,_⟩:=h2; cases z
 | d :: ds,es,vs,h1,h2=>by
  rw [Reps] at h1
  obtain ⟨v,r,rfl,q1,q2⟩:=h1
  cases es with
  | nil=>rw [Reps] at h2; cases h2
  | cons e es =>
   rw [Reps] at h2
   obtain ⟨v',r',z,p1,p2⟩:=h2
   cases z
   rw [Rep.inj q1 p1,Reps.inj q2 p2]
end
theorem jf0 {d e:Dt} (hd:jcy d = none) {y:V} (he:jcy e = some y):eqP d e = false/\eqP e d = false:=by
 cases d <;> cases e <;> simp only [jcy,Option.some.injEq,reduceCtorEq] at hd he <;> simp [eqP]
theorem jrt:∀ (n:Nat) {A:Around} (I:Inv X pins σ H s) {d e:Dt} {x y:V} {u v:Value},depP d <= n->A.units + n < cLine->Rep H d x->Rep H e y->RelV x u->RelV y v->SeqAt.EqAt A s u v (eqP d e):=by
 intro n
 induction n with
 | zero =>
  intro A I d e x y u v hn hu rd re rx ry
  have hf:∃ z,jcy d = some z:=by
   cases d <;> simp only [depP,jcy] at hn ⊢ <;> first | exact ⟨_,rfl⟩ | omega
  obtain ⟨z,hz⟩:=hf
  obtain ⟨rfl,fz⟩:=jhg hz rd
  cases he:jcy e with
  | some y' =>
   obtain ⟨rfl,fy⟩:=jhg he re
   rw [jqm hz he]
   exact jrs rx ry fz fy
  | none =>
   rw [(jf0 he hz).2]
   have hu0:A.units < cLine:=by omega
   cases e <;> simp only [jcy,reduceCtorEq] at he
   ·rw [Rep] at re
    obtain ⟨a,vs,rfl,q,_⟩:=re
    cases ry
    obtain ⟨its,_,p⟩:=I.tupE q
    cases d <;> simp only [jcy,Option.some.injEq,reduceCtorEq] at hz <;> subst hz
    ·cases rx; exact SeqAt.EqAt.none_tuple p hu0
    ·cases rx; exact SeqAt.EqAt.bool_tuple _ p hu0
    ·obtain ⟨t,rfl⟩:=rx; exact SeqAt.EqAt.int_tuple _ _ p hu0
    ·obtain ⟨t,rfl⟩:=rx; exact SeqAt.EqAt.str_tuple _ _ p hu0
   ·rw [Rep] at re
    obtain ⟨a,vs,rfl,q,_⟩:=re
    cases ry
    obtain ⟨its,_,p⟩:=I.lstE q
    cases d <;> simp only [jcy,Option.some.injEq,reduceCtorEq] at hz <;> subst hz
    ·cases rx; exact SeqAt.EqAt.none_list p hu0
    ·cases rx; exact SeqAt.EqAt.bool_list _ p hu0
    ·obtain ⟨t,rfl⟩:=rx; exact SeqAt.EqAt.int_list _ _ p hu0
    ·obtain ⟨t,rfl⟩:=rx; exact SeqAt.EqAt.str_list _ _ p hu0
 | succ n ih =>
  intro A I d e x y u v hn hu rd re rx ry
  have hu0:A.units < cLine:=by omega
  have items:∀ {ds es:List Dt} {vs ws:List V} {its its2:List Value},jcn ds <= n->Reps H ds vs->Reps H es ws->Vals vs its->Vals ws its2 ->
    ∀ j (h1:j < its.toArray.size) (h2:j < its2.toArray.size),SeqAt.EqAt A.in1 s its.toArray[j] its2.toArray[j] (jev ds es j):=by
   intro ds es vs ws its its2 hdp r1 r2 w1 w2 j h1 h2
   rw [List.size_toArray] at h1 h2
   have l1:=w1.length
   have l2:=w2.length
   obtain ⟨u',e1,q1⟩:=w1.get (i:=j) (x:=vs[j]'(by omega)) (gE _)
   obtain ⟨v',e2,q2⟩:=w2.get (i:=j) (x:=ws[j]'(by omega)) (gE _)
   obtain ⟨d',f1,g1⟩:=r1.at (i:=j) (gE (by omega))
   obtain ⟨e',f2,g2⟩:=r2.at (i:=j) (gE (by omega))
   rw [gE h1] at e1
   rw [gE h2] at e2
   cases e1; cases e2
   have hj:jev ds es j = eqP d' e':=by unfold jev; rw [f1,f2]
   rw [hj]
   have:=jfe f1
   exact ih (A:=A.in1) I (by omega) (by show A.units + 1 + n < cLine; omega) g1 g2 q1 q2
  cases hf:jcy d with
  | some z =>
   refine ih I ?_ (by omega) rd re rx ry
   cases d <;> simp only [jcy,reduceCtorEq] at hf <;> simp [depP]
  | none =>
   cases he:jcy e with
   | some y' =>
    rw [(jf0 hf he).1]
    obtain ⟨rfl,fy⟩:=jhg he re
    cases d <;> simp only [jcy,reduceCtorEq] at hf
    ·rw [Rep] at rd
     obtain ⟨a,vs,rfl,q,_⟩:=rd
     cases rx
     obtain ⟨its,_,p⟩:=I.tupE q
     cases e <;> simp only [jcy,Option.some.injEq,reduceCtorEq] at he <;> subst he
     ·cases ry; exact SeqAt.EqAt.tuple_none p hu0
     ·cases ry; exact SeqAt.EqAt.tuple_bool _ p hu0
     ·obtain ⟨t,rfl⟩:=ry; exact SeqAt.EqAt.tuple_int _ _ p hu0
     ·obtain ⟨t,rfl⟩:=ry; exact SeqAt.EqAt.tuple_str _ _ p hu0
    ·rw [Rep] at rd
     obtain ⟨a,vs,rfl,q,_⟩:=rd
     cases rx
     obtain ⟨its,_,p⟩:=I.lstE q
     cases e <;> simp only [jcy,Option.some.injEq,reduceCtorEq] at he <;> subst he
     ·cases ry; exact SeqAt.EqAt.list_none p hu0
     ·cases ry; exact SeqAt.EqAt.list_bool _ p hu0
     ·obtain ⟨t,rfl⟩:=ry; exact SeqAt.EqAt.list_int _ _ p hu0
     ·obtain ⟨t,rfl⟩:=ry; exact SeqAt.EqAt.list_str _ _ p hu0
   | none =>
    cases d <;> simp only [jcy,reduceCtorEq] at hf <;> cases e <;> simp only [jcy,reduceCtorEq] at he
    ·rename_i ds es
     have hn':jcn ds <= n:=by rw [depP] at hn; omega
     have rd0:=rd
     have re0:=re
     rw [Rep] at rd
     rw [Rep] at re
     obtain ⟨a,vs,rfl,q,r1⟩:=rd
     obtain ⟨b,ws,rfl,q2,r2⟩:=re
     cases rx; cases ry
     by_cases hab:a = b
     ·subst hab
      rw [Rep.inj rd0 re0,jdi]
      exact SeqAt.EqAt.same _
     ·obtain ⟨its,w1,p1⟩:=I.tupE q
      obtain ⟨its2,w2,p2⟩:=I.tupE q2
      have k:=SeqAt.RcAt.tuples p1 p2 hu0 (items hn' r1 r2 w1 w2)
      have e0:((List.range (min its.toArray.size its2.toArray.size)).all (jev ds es) && its.toArray.size == its2.toArray.size) = eqP (.tup ds) (.tup es):=by
       have l1:=w1.length
       have l2:=w2.length
       have l3:=r1.len
       have l4:=r2.len
       rw [eqP,List.size_toArray,List.size_toArray]
       by_cases hl:ds.length = es.length
       ·rw [jct hl,<- l1,<- l2,l3,l4,hl,Nat.min_self]
        simp
       ·rw [jdz hl]
        have:(its.length == its2.length) = false:=by
         rw [beq_eq_false_iff_ne]; omega
        rw [this,Bool.and_false]
      rw [e0] at k
      exact .of_refs hab k
    ·rename_i ds es
     rw [Rep] at rd
     rw [Rep] at re
     obtain ⟨a,vs,rfl,q,r1⟩:=rd
     obtain ⟨b,ws,rfl,q2,r2⟩:=re
     cases rx; cases ry
     obtain ⟨its,w1,p1⟩:=I.tupE q
     obtain ⟨its2,w2,p2⟩:=I.lstE q2
     have:eqP (.tup ds) (.lst es) = false:=by simp [eqP]
     rw [this]
     exact SeqAt.EqAt.tuple_list p1 p2 hu0
    ·rename_i ds es
     rw [Rep] at rd
     rw [Rep] at re
     obtain ⟨a,vs,rfl,q,r1⟩:=rd
     obtain ⟨b,ws,rfl,q2,r2⟩:=re
     cases rx; cases ry
     obtain ⟨its,w1,p1⟩:=I.lstE q
     obtain ⟨its2,w2,p2⟩:=I.tupE q2
     have:eqP (.lst ds) (.tup es) = false:=by simp [eqP]
     rw [this]
     exact SeqAt.EqAt.list_tuple p1 p2 hu0
    ·rename_i ds es
     have hn':jcn ds <= n:=by rw [depP] at hn; omega
     have rd0:=rd
     have re0:=re
     rw [Rep] at rd
     rw [Rep] at re
     obtain ⟨a,vs,rfl,q,r1⟩:=rd
     obtain ⟨b,ws,rfl,q2,r2⟩:=re
     cases rx; cases ry
     by_cases hab:a = b
     ·subst hab
      rw [Rep.inj rd0 re0,jdi]
      exact SeqAt.EqAt.same _
     ·obtain ⟨its,w1,p1⟩:=I.lstE q
      obtain ⟨its2,w2,p2⟩:=I.lstE q2
      have l1:=w1.length
      have l2:=w2.length
      have l3:=r1.len
      have l4:=r2.len
      refine .of_refs hab ?_
      rw [eqP]
      by_cases hl:ds.length = es.length
      ·rw [jct hl]
       have k:=SeqAt.RcAt.lists p1 p2 (by rw [List.size_toArray,List.size_toArray]; omega) hu0 (items hn' r1 r2 w1 w2)
       rw [List.size_toArray,<- l1,l3] at k
       exact k
      ·rw [jdz hl]
       exact SeqAt.RcAt.lists_lengths p1 p2 (by rw [List.size_toArray,List.size_toArray]; simp; omega) hu0
end
section
variable {prog:Program} {w:World} {A:Around} {R:Result->Shared->Prop} {I:Addr} {fp wr:List Addr} {n:Nat} {P:Nat->Value->Prop} {St:Nat->Heap->Prop}
def Best (val:Nat->Int) (n:Nat) (m:Int):Prop:=(∃ i,i < n/\m = val i)/\∀ i,i < n->val i <= m
theorem Best.keep {val:Nat->Int} {j:Nat} {m:Int} (h:Best val j m) (hb:¬ val j > m):Best val (j + 1) m :=
 ⟨let ⟨i,hi,e⟩:=h.1; ⟨i,Nat.lt_succ_of_lt hi,e⟩,fun i hi=>by
  rcases Nat.lt_succ_iff_lt_or_eq.mp hi with z | z
  ·exact h.2 i z
  ·rw [z]; omega⟩
end
section
variable {X:Cx}
def tCBK (r:List V->List V->Hp->VK->Prop) (t tk:TA):TE:=fun σ H Q=>t σ H fun vs H1=>tk σ H1 fun zs H2=>r vs zs H2 Q
end
section
variable {X:Cx} {pins:List (Addr × Obj)} {σ:St} {H:Hp} {s:Shared}
theorem jhy (n:Nat) {A:Around} (I:Inv X pins σ H s) {ds es:List Dt} {vs ws:List V} {its its2:List Value} (hdp:jcn ds <= n) (hu:A.units + n < cLine) (r1:Reps H ds vs) (r2:Reps H es ws) (w1:Vals vs its) (w2:Vals ws its2) :
  ∀ j (h1:j < its.toArray.size) (h2:j < its2.toArray.size),SeqAt.EqAt A s its.toArray[j] its2.toArray[j] (jev ds es j):=by
 intro j h1 h2
 rw [List.size_toArray] at h1 h2
 have l1:=w1.length
 have l2:=w2.length
 obtain ⟨u',e1,q1⟩:=w1.get (i:=j) (x:=vs[j]'(by omega)) (gE _)
 obtain ⟨v',e2,q2⟩:=w2.get (i:=j) (x:=ws[j]'(by omega)) (gE _)
 obtain ⟨d',f1,g1⟩:=r1.at (i:=j) (gE (by omega))
 obtain ⟨e',f2,g2⟩:=r2.at (i:=j) (gE (by omega))
 rw [gE h1] at e1
 rw [gE h2] at e2
 cases e1; cases e2
 have hj:jev ds es j = eqP d' e':=by unfold jev; rw [f1,f2]
 rw [hj]
 have:=jfe f1
 exact jrt n I (by omega) hu g1 g2 q1 q2
theorem jgm {ds es:List Dt} {vs ws:List V} {its its2:List Value} (r1:Reps H ds vs) (r2:Reps H es ws) (w1:Vals vs its) (w2:Vals ws its2) :
  ((List.range (min its.toArray.size its2.toArray.size)).all (jev ds es) && its.toArray.size == its2.toArray.size) = eqPs ds es:=by
 have l1:=w1.length
 have l2:=w2.length
 have l3:=r1.len
 have l4:=r2.len
 rw [List.size_toArray,List.size_toArray]
 by_cases hl:ds.length = es.length
 ·rw [jct hl,<- l1,<- l2,l3,l4,hl,Nat.min_self]
  simp
 ·rw [jdz hl]
  have:(its.length == its2.length) = false:=by
   rw [beq_eq_false_iff_ne]; omega
  rw [this,Bool.and_false]
def rEqD (neg:Bool):R2:=fun x y H Q=>∃ d e,Rep H d x/\Rep H e y/\depP d <= 20/\((∃ ds es,d = .lst ds/\e = .lst es) \/ ∃ ds es,d = .tup ds/\e = .tup es)/\Q (.bl (if neg = true then !eqP d e else eqP d e)) H
theorem jfs (hu:X.A.units + 64 < cLine):OpR X (compareOp .Eq) (rEqD false):=by
 intro pins s σ H x y v u Q I rx ry h
 obtain ⟨d,e,rd,re,hd,hk,q⟩:=h
 have hu0:X.A.units < cLine:=by omega
 rcases hk with ⟨ds,es,rfl,rfl⟩ | ⟨ds,es,rfl,rfl⟩
 ·have hn':jcn ds <= 20:=by rw [depP] at hd; omega
  rw [Rep] at rd re
  obtain ⟨a,vs,rfl,q1,r1⟩:=rd
  obtain ⟨b,ws,rfl,q2,r2⟩:=re
  cases rx; cases ry
  obtain ⟨its,w1,p1⟩:=I.lstE q1
  obtain ⟨its2,w2,p2⟩:=I.lstE q2
  have l1:=w1.length
  have l2:=w2.length
  have l3:=r1.len
  have l4:=r2.len
  by_cases hl:ds.length = es.length
  ·refine SeqAt.RcAt.lists (e:=jev ds es) p1 p2 (by rw [List.size_toArray,List.size_toArray]; omega) hu0 (jhy 20 I hn' (by show X.A.units + 1 + 20 < cLine; omega) r1 r2 w1 w2) _ _ _ _ ⟨.bl _,H,I,rfl,?_⟩
   rw [List.size_toArray,<- l1,l3,<- jct hl]
   rw [eqP] at q
   exact q
  ·refine SeqAt.RcAt.lists_lengths p1 p2 (by rw [List.size_toArray,List.size_toArray]; simp; omega) hu0 _ _ _ _ ⟨.bl _,H,I,rfl,?_⟩
   rw [eqP,jdz hl] at q
   exact q
 ·have hn':jcn ds <= 20:=by rw [depP] at hd; omega
  rw [Rep] at rd re
  obtain ⟨a,vs,rfl,q1,r1⟩:=rd
  obtain ⟨b,ws,rfl,q2,r2⟩:=re
  cases rx; cases ry
  obtain ⟨its,w1,p1⟩:=I.tupE q1
  obtain ⟨its2,w2,p2⟩:=I.tupE q2
  refine SeqAt.RcAt.tuples (e:=jev ds es) p1 p2 hu0 (jhy 20 I hn' (by show X.A.units + 1 + 20 < cLine; omega) r1 r2 w1 w2) _ _ _ _ ⟨.bl _,H,I,rfl,?_⟩
  rw [jgm r1 r2 w1 w2]
  rw [eqP] at q
  exact q
theorem jec (hu:X.A.units + 64 < cLine):OpR X (compareOp .NotEq) (rEqD true):=by
 intro pins s σ H x y v u Q I rx ry h
 obtain ⟨d,e,rd,re,hd,hk,q⟩:=h
 have hu0:X.A.units < cLine:=by omega
 rcases hk with ⟨ds,es,rfl,rfl⟩ | ⟨ds,es,rfl,rfl⟩
 ·have hn':jcn ds <= 20:=by rw [depP] at hd; omega
  rw [Rep] at rd re
  obtain ⟨a,vs,rfl,q1,r1⟩:=rd
  obtain ⟨b,ws,rfl,q2,r2⟩:=re
  cases rx; cases ry
  obtain ⟨its,w1,p1⟩:=I.lstE q1
  obtain ⟨its2,w2,p2⟩:=I.lstE q2
  have l1:=w1.length
  have l2:=w2.length
  have l3:=r1.len
  have l4:=r2.len
  by_cases hl:ds.length = es.length
  ·refine SeqAt.RcNeAt.lists (e:=jev ds es) p1 p2 (by rw [List.size_toArray,List.size_toArray]; omega) hu0 (jhy 20 I hn' (by show X.A.units + 1 + 20 < cLine; omega) r1 r2 w1 w2) _ _ _ _ ⟨.bl _,H,I,rfl,?_⟩
   rw [List.size_toArray,<- l1,l3,<- jct hl]
   rw [eqP] at q
   exact q
  ·refine SeqAt.RcNeAt.lists_lengths p1 p2 (by rw [List.size_toArray,List.size_toArray]; simp; omega) hu0 _ _ _ _ ⟨.bl _,H,I,rfl,?_⟩
   rw [eqP,jdz hl] at q
   exact q
 ·have hn':jcn ds <= 20:=by rw [depP] at hd; omega
  rw [Rep] at rd re
  obtain ⟨a,vs,rfl,q1,r1⟩:=rd
  obtain ⟨b,ws,rfl,q2,r2⟩:=re
  cases rx; cases ry
  obtain ⟨its,w1,p1⟩:=I.tupE q1
  obtain ⟨its2,w2,p2⟩:=I.tupE q2
  refine SeqAt.RcNeAt.tuples (e:=jev ds es) p1 p2 hu0 (jhy 20 I hn' (by show X.A.units + 1 + 20 < cLine; omega) r1 r2 w1 w2) _ _ _ _ ⟨.bl _,H,I,rfl,?_⟩
  rw [jgm r1 r2 w1 w2]
  rw [eqP] at q
  exact q
theorem RelV.inj' {x y:V} {u:Value} (h1:RelV x u) (h2:RelV y u):x = y:=Option.some.inj (h1.abs.symm.trans h2.abs)
open Classical in
def eqW (H:Hp) (d:Dt) (u:Value):Bool:=if h:∃ c,∃ x,RelV x u/\Rep H c x then eqP h.choose d else false
theorem jrq {H:Hp} {d c:Dt} {x:V} {u:Value} (r:RelV x u) (p:Rep H c x):eqW H d u = eqP c d:=by
 unfold eqW
 have h:∃ c,∃ x,RelV x u/\Rep H c x:=⟨c,x,r,p⟩
 rw [dif_pos h]
 obtain ⟨y,r2,p2⟩:=h.choose_spec
 have:=RelV.inj' r r2
 subst this
 rw [Rep.inj p2 p]
theorem jlb {H:Hp} {d:Dt}:∀ {cs:List Dt} {xs:List V} {us:List Value},Reps H cs xs->Vals xs us->us.any (eqW H d) = cs.any fun c=>eqP c d
 | [],_,_,h,r=>by
  rw [Reps] at h; subst h
  cases r
  rfl
 | c :: cs,_,_,h,r=>by
  rw [Reps] at h
  obtain ⟨v,t,rfl,h1,h2⟩:=h
  cases r with
  | cons r1 r2=>rw [List.any_cons,List.any_cons,jrq r1 h1,jlb h2 r2]
def rInD (neg:Bool):R2:=fun x y H Q=>∃ (d:Dt) (p:Addr) (xs:List V) (cs:List Dt),Rep H d x/\y = .ref p/\H p = some (.lst xs)/\Reps H cs xs/\jcn cs <= 20/\Q (.bl (if neg = true then !cs.any (fun c=>eqP c d) else cs.any fun c=>eqP c d)) H
theorem jlw (hu:X.A.units + 64 < cLine) (I:Inv X pins σ H s) {d:Dt} {x:V} {v:Value} {cs:List Dt} {xs:List V} {its:List Value} (rd:Rep H d x) (rx:RelV x v) (rc:Reps H cs xs) (r:Vals xs its) (hd:jcn cs <= 20) :
  ∀ y,y ∈ its.toArray->SeqAt.EqAt X.A.in1 s y v (eqW H d y):=by
 intro y hy
 have hy':y ∈ its:=by simpa using hy
 obtain ⟨j,hj,e⟩:=List.mem_iff_getElem.mp hy'
 have l1:=r.length
 obtain ⟨u',e1,q1⟩:=r.get (i:=j) (x:=xs[j]'(by omega)) (gE _)
 obtain ⟨c,f1,g1⟩:=rc.at (i:=j) (gE (by omega))
 rw [gE hj] at e1
 cases e1
 rw [<- e,jrq q1 g1]
 have:=jfe f1
 exact jrt 20 I (by omega) (by show X.A.units + 1 + 20 < cLine; omega) g1 rd q1 rx
theorem jlq (hu:X.A.units + 64 < cLine):OpR X (compareOp .In) (rInD false):=by
 intro pins s σ H x y v u Q I rx ry h
 obtain ⟨d,p,xs,cs,rd,rfl,e,rc,hd,q⟩:=h
 cases ry
 obtain ⟨its,r,pl⟩:=I.lstE e
 refine SeqAt.in_listAt (eqW H d) pl (jlw hu I rd rx rc r hd) ⟨.bl _,H,I,rfl,?_⟩
 rw [show its.toArray.any (eqW H d) = its.any (eqW H d) by simp,jlb rc r]
 exact q
theorem jog (hu:X.A.units + 64 < cLine):OpR X (compareOp .NotIn) (rInD true):=by
 intro pins s σ H x y v u Q I rx ry h
 obtain ⟨d,p,xs,cs,rd,rfl,e,rc,hd,q⟩:=h
 cases ry
 obtain ⟨its,r,pl⟩:=I.lstE e
 refine SeqAt.notIn_listAt (eqW H d) pl (jlw hu I rd rx rc r hd) ⟨.bl _,H,I,rfl,?_⟩
 rw [show its.toArray.any (eqW H d) = its.any (eqW H d) by simp,jlb rc r]
 exact q
end
section
variable {X:Cx} {o i e f value:Expr} {td ty tv tx:TE} {pos pos' apos cpos:Pos}
def jgr (td ty tv:TE):TS:=fun D σ H=>tv σ H fun v H1=>td σ H1 fun x H2=>ty σ H2 fun y H3=>match x,y with
 | .ref a,.int n=>match H3 a with
  | some (.dK kvs)=>kvs.length < sizeLine/\D.nx σ (upd H3 a (.dK (putK kvs (Sum.inl n:Key) v)))
  | _=>False
 | _,_=>False
theorem dput_r {x y:V} {H3:Hp} {R:List (Key × V)->Addr->Int->Prop} (h:match x,y with
 | .ref a,.int n=>match H3 a with
  | some (.dK kvs)=>R kvs a n
  | _=>False
 | _,_=>False):∃ a n kvs,x = .ref a/\y = .int n/\H3 a = some (.dK kvs)/\R kvs a n:=by
 split at h
 ·split at h
  ·rename_i e; exact ⟨_,_,_,rfl,rfl,e,h⟩
  ·exact h.elim
 ·exact h.elim
theorem jri (hu:X.A.units + 1 < cLine) (ho:PE X o td) (hi:PE X i ty) (hv:PE X value tv) (hs:swapsWith value (some (.Subscript o i pos')) pos.line X.env = pure false:=by rfl) :
  PS X (.Assign [.Subscript o i pos'] value pos) (jgr td ty tv):=by
 intro pins s σ H D I h
 refine wpAny_Assign_Subscript (thn (hv pins s σ H _ I h) fun r s1 ⟨v,H1,I1,rv,q1⟩=>thn (ho pins s1 σ H1 _ I1 q1) fun u s2 ⟨x,H2,I2,rx,q2⟩=>thn (hi pins s2 σ H2 _ I2 q2) fun iv s3 ⟨y,H3,I3,ry,q3⟩=>?_) hs
 obtain ⟨a,n,kvs,rfl,rfl,ea,q4,q5⟩:=dput_r (R:=fun kvs a n=>kvs.length < sizeLine/\D.nx σ (upd H3 a (.dK (putK kvs (Sum.inl n:Key) v)))) q3
 obtain rfl:u = Value.ref a:=rx
 exact jpg hu I3 (DPut.k (k:=Sum.inl n) ea q4) ry rv fun s4 I4=>⟨σ,_,I4,q5⟩
def jjr (td ty tx:TE):TE:=fun σ H Q=>td σ H fun x H1=>match x with
 | .ref a=>(∃ kvs,H1 a = some (.dK kvs))/\ty σ H1 fun y H2=>tx σ H2 fun z H3=>match y with
  | .int n=>match H3 a with
   | some (.dK kvs)=>Q ((valV kvs (Sum.inl n:Key)).getD z) H3
   | _=>False
  | _=>False
 | _=>False
def fCat:R2:=fun x y H Q=>match x,y with
 | .ref l,.ref b=>match H l,H b with
  | some (.lst xs),some (.lst zs)=>xs.length + zs.length <= sizeLine/\∀ p,H p = none->Q (.ref p) (upd H p (.lst (xs ++ zs)))
  | _,_=>False
 | _,_=>False
theorem jcv:OpR X (binaryOp .Add) fCat:=op_cat.imp fun x y H Q h=>by
 unfold fCat at h
 split at h
 ·split at h
  ·rename_i e1 e2; exact ⟨_,_,_,_,rfl,rfl,e1,e2,h.1,h.2⟩
  ·exact h.elim
 ·exact h.elim
def jjs:V->List V->Hp->VK->Prop:=fun x vs H Q=>match x,vs with
 | .ref l,[]=>match H l with
  | some (.lst _)=>Q .non (upd H l (.lst []))
  | _=>False
 | _,_=>False
def fBM0 (r:V->List V->Hp->VK->Prop) (to:TE):TE:=fun σ H Q=>to σ H fun x H1=>(∃ a xs,x = .ref a/\H1 a = some (.lst xs))/\r x [] H1 Q
def fSlT:V->Option Int->Option Int->Hp->VK->Prop:=fun x lo hi H Q=>match x with
 | .ref a=>match H a with
  | some (.tup xs)=>¬ (HT.sIx xs.length 0 lo = 0/\HT.sIx xs.length xs.length hi = xs.length)/\∀ p,H p = none->Q (.ref p) (upd H p (.tup (cutV xs lo hi)))
  | _=>False
 | _=>False
theorem q_slT:SlR X fSlT:=sl_tup.imp fun x l u H Q h=>by
 unfold fSlT at h
 split at h
 ·split at h
  ·rename_i xs e; exact ⟨_,xs,rfl,SqT.of e,h.1,h.2⟩
  ·exact h.elim
 ·exact h.elim
def jl3:List V->Hp->VK->Prop:=fun vs H Q=>match vs with
 | [.bl k]=>Q (.int (if k = true then 1 else 0)) H
 | [.int i]=>Q (.int i) H
 | _=>False
theorem jo8:jck X (.type "int") jl3:=jpm.imp fun vs H Q h=>by
 unfold jl3 at h
 split at h
 ·exact .inr ⟨_,rfl,h⟩
 ·exact .inl ⟨_,rfl,h⟩
 ·exact h.elim
end
section
variable {prog:Program} {w:World} {A:Around} {E:Value->Shared->Prop}
end
section
variable {X:Cx} {es:List Expr} {pos:Pos}
def jp8 (n:Nat) (t:TGs):TG:=fun v σ H Q=>match v with
 | .ref a=>match H a with
  | some (.lst xs)=>xs.length = n/\t xs σ H Q
  | _=>False
 | _=>False
end
def TrD (h B:Heap) (x:Addr) (cl:Value) (dd:Option Addr) (fl:Value):Prop :=
 ∃ ox ws T oT ts,h.get? x = some ox/\ox.cls = cl/\ox.dict = dd/\ox.data = .fields ws/\ws[1]? = some (.ref T)/\B.get? T = none/\T ≠ x/\h.get? T = some oT/\oT.data = .fields ts/\ts[3]? = some fl/\(dd ≠ none->ws[2]? = some .none)
structure FlyD (B:Heap) (l:List Env) (x:Addr) (cl:Value) (dd:Option Addr) (fl:Value) (h:Heap):Prop where
 stays:B.StaysIn h
 new:B.get? x = none
 funs:h.FunFrames B l
 tr:TrD h B x cl dd fl
theorem FlyD.there {B:Heap} {l:List Env} {x:Addr} {cl:Value} {dd:Option Addr} {fl:Value} {h:Heap} (f:FlyD B l x cl dd fl h):∃ ox ws,h.get? x = some ox/\ox.cls = cl/\ox.dict = dd/\ox.data = .fields ws:=by
 obtain ⟨ox,ws,_,_,_,h1,h2,h3,h4,_⟩:=f.tr
 exact ⟨ox,ws,h1,h2,h3,h4⟩
section
variable {M:Model} {A:Around} {E:Value->Shared->Prop} {s:Shared} {B:Heap} {env:Env} {l:List Env} {L x:Addr} {cl:Value} {dd:Option Addr} {Q:Unit->Shared->Prop}
end
structure Df (X:Cx):Prop where
 stk:X.stack = X.env :: X.outer
 fr:X.env.frame = some X.env.locals
 ex:X.ex = []
 fn:∀ x,X.fn x = true
structure Cov (X:Cx) (B:Heap) (H:Hp) (h:Heap):Prop where
 tr:∀ b o,H b = some o->∃ q,h.get? b = some q/\B.get? b = some q
 old:∀ b o,X.s₀.heap.get? b = some o->b ∉ frs X.stack->∃ q,h.get? b = some q/\B.get? b = some q
 pin:∀ p ∈ X.pn,B.get? p.1 = some p.2
 cel:∀ x c,X.env.cells.lookup x = some c->∃ q,h.get? c = some q/\B.get? c = some q
section
variable {X:Cx} {σ:St} {H:Hp} {s:Shared} {B h':Heap}
end
inductive Md (B:Heap) (l:List Env) (L x:Addr) (cl:Value) (dd:Option Addr) (h:Heap):Prop where
 | new {ox:Obj} {ws:Array Value}:h.get? x = some ox->ox.cls = cl->ox.dict = dd->ox.data = .fields ws->ws[1]? = some .none->(dd ≠ none->ws[2]? = some .none)->B.StaysIn h->B.get? x = none->h.FunFrames B l->Md B l L x cl dd h
 | fly:FlyD B l x cl dd .none h->Md B l L x cl dd h
 | held:FlyD B l x cl dd (rawInt L) h->Md B l L x cl dd h
theorem Md.stays {B:Heap} {l:List Env} {L x:Addr} {cl:Value} {dd:Option Addr} {h:Heap} (m:Md B l L x cl dd h):B.StaysIn h:=by
 cases m with
 | new _ _ _ _ _ _ s _ _=>exact s
 | fly f=>exact f.stays
 | held f=>exact f.stays
def XT (X:Cx) (EX:St->XK):Value->Shared->Prop:=fun e s'=>∃ (x:Addr) (cl:Value) (dd:Option Addr) (σ:St) (H:Hp) (B:Heap),e = .ref x/\Inv X [] σ H s'/\H x = none/\X.s₀.heap.objs.size <= x/\Cov X B H s'.heap/\EX σ cl dd H/\Md B X.stack X.env.locals x cl dd s'.heap
def Cx.tr (X:Cx) (pins:List (Addr × Obj)) (EX:St->XK):Cx:={ X with pn:=X.pn ++ pins,xe:=XT { X with pn:=X.pn ++ pins } EX }
theorem Cx.Ok.pn {X:Cx} (ok:X.Ok) (pn:List (Addr × Obj)) (E:Value->Shared->Prop):({ X with pn:=pn,xe:=E }:Cx).Ok :=
 ⟨ok.mod,ok.kind,ok.glob,ok.blt,ok.above,ok.inj,ok.has,ok.cab,ok.hd,ok.frames,ok.stk,ok.exf,ok.bs,ok.bsz,ok.noex,ok.exfs,ok.funs,ok.frf⟩
theorem Inv.tr {X:Cx} {pins:List (Addr × Obj)} {σ:St} {H:Hp} {s:Shared} (I:Inv X pins σ H s) (EX:St->XK):Inv (X.tr pins EX) [] σ H s :=
 ⟨I.ok.pn _ _,I.os,I.bare,I.base,I.loc,I.cell,I.free,I.freeC,fun p hp=>I.pin p (by
  have:p ∈ (X.pn ++ pins) ++ []:=hp
  simpa using this),I.hok,I.len⟩
theorem Df.tr {X:Cx} (d:Df X) (pins:List (Addr × Obj)) (EX:St->XK):Df (X.tr pins EX):=⟨d.stk,d.fr,d.ex,d.fn⟩
section
variable {X:Cx} {CX:CXT} {k:Nat} {f:Addr} {fd:FuncData} {ps:List Str} {sp:Sp} {EX:St->XK} {x:Str} {p pos:Pos} {e:Expr} {es:List Expr} {t:TA} {ds:List Value} {dvs:List V}
end
section
variable {P:Program} {w:World} {K:PySem.W.Frag} {mg:Str->Option Value} {base:Heap}
end
section
variable {prog:Program} {w:World} {A:Around} {E:Value->Shared->Prop} {h:Heap} {g:Array GenState} {d:Drawn} {t:Nat} {os:OsState}
variable {nm q:Str} {C N:Addr} {bs bm bmB:List Value} {hdct:Bool} {sn:List Str} {sub:List Value} {ab:Bool} {col:Option Bool} {dd:Option Addr} {k0 k1 k2 k3 k5:Option Value} {B newId initId:String}
end
end L2
namespace L2
open PySem PySem.Spec PyProof.Rows Builtin Builtin.ObjectAttr
section
variable {prog:Program} {w:World} {A:Around} {E:Value->Shared->Prop} {h:Heap} {g:Array GenState} {d:Drawn} {t:Nat} {os:OsState} {C:Addr} {bmB:List Value} {B newId initId:String}
end
def jrm:Value->Bool
 | .ref _=>true
 | _=>false
theorem jrm.ex {v:Value} (h:jrm v = true):∃ a,v = .ref a:=by
 cases v <;> first | exact ⟨_,rfl⟩ | cases h
section
variable {prog:Program} {w:World} {A:Around} {E:Value->Shared->Prop} {s:Shared} {K:PySem.W.Frag} {x C t0:Addr} {dz:Option Addr} {name:Str} {v:Value} {Q:Unit->Shared->Prop}
end
section
variable {P:Program} {w:World} {H:Hp} {h:Heap} {a C:Addr} {dd:Option Addr} {fs:List (Str × V)}
end
section
variable {X:Cx} {pins:List (Addr × Obj)} {σ:St} {H:Hp} {s:Shared} {h':Heap} {x dx:Addr} {φ:Heap->Prop} {o1 o2:HO} {t':Nat}
end
section
variable {X:Cx} {o value e:Expr} {es:List Expr} {f x:Str} {p pos pos' apos:Pos} {ta tv:TE} {t:TA} {C T:Addr} {bmB:List Value} {B newId initId:String} {fI:Addr}
end
section
variable {X:Cx} {EX:St->XK} {k:Nat} {fI C:Addr} {fd:FuncData} {ps:List Str} {sp:Sp} {x:Str} {p cpos pos:Pos} {e:Expr} {es:List Expr} {t:TA} {bmB:List Value} {B newId initId:String}
end
section
variable {X:Cx} {pins:List (Addr × Obj)} {σ:St} {H:Hp} {s:Shared} {x:Addr} {o:HO}
end
section
variable {X:Cx} {x n:Str} {np hpos pos:Pos} {body suite:List Stmt} {b0:Stmt} {C:Addr} {mt:Value->Prop} {i:Nat} {tb:(St->XK)->TS} {th:TS}
end
section
variable {X:Cx} {C dx a:Addr} {fs:List (Str × V)} {H:Hp} {s:Shared}
end
end L2
namespace L2
open PySem PySem.Spec PyProof.Rows Builtin Builtin.ObjectAttr
structure XG (K:PySem.W.Frag) (C:Addr):Prop where
 ga:PySem.W.findIn K (.ref C) "__getattribute__" = some (some (.builtin "BaseException.__getattribute__"))
 gt:PySem.W.findIn K (.ref C) "__getattr__" = some none
 sub:PySem.W.mroIn K C (.type "BaseException") = some true
section
variable {prog:Program} {w:World} {A:Around} {E:Value->Shared->Prop} {s:Shared} {K:PySem.W.Frag} {x C:Addr} {ox:Obj} {od:Option Obj} {name:Str} {v:Value}
end
structure XY (K:PySem.W.Frag) (C:Addr):Prop where
 g:XG K C
 hd:PySem.W.hasDictIn K C = true
 ha:PySem.W.findIn K (.ref C) "__class__" = some (some (.builtin "object.__class__"))
 hn:PySem.W.specialIn K (.builtin "object.__class__") "__get__" = some (some (.builtin "getset_descriptor.__get__"))
 ht:PySem.W.takesIn K (.builtin "object.__class__") = some true
 hm:PySem.W.mroIn K C (.type "object") = some true
theorem XY.cls {K:PySem.W.Frag} {C:Addr} (y:XY K C):∃ c d cd sl,K.lookup C = some ⟨c,d,.cls cd,sl⟩:=by
 obtain ⟨cd,hc,_⟩:=PySem.W.any_some y.hd
 unfold PySem.W.clsIn at hc
 split at hc
 ·rename_i ho
  exact ⟨_,_,_,_,ho⟩
 ·cases hc
section
variable {X:Cx} {C dx a:Addr} {fs:List (Str × V)} {H:Hp} {s:Shared}
end
section
variable {X:Cx}
end
structure RoomH (k:Nat) (A:Around):Prop where
 dp:A.depth + 3 * k + 5 < recursionLimit
 un:A.units + 16 * k + 200 < cLine
theorem Room.h {j k:Nat} {A:Around} (r:Room k A) (h:j <= k):RoomH j A:=⟨(r.mono h).dp,(r.mono h).un⟩
theorem Room.hm {j k:Nat} {A:Around} {o:Option Value} (r:Room k A) (h:j <= k):RoomH j (A.mark o):=⟨(r.mono h).dp,(r.mono h).un⟩
theorem RoomH.mono {j k:Nat} {A:Around} (r:RoomH k A) (h:j <= k):RoomH j A:=⟨by have:=r.dp; omega,by have:=r.un; omega⟩
section
variable {P:Program} {w:World} {K:PySem.W.Frag} {mg:Str->Option Value} {base:Heap}
end
section
variable {X:Cx} {k:Nat} {f:Addr} {fd:FuncData} {ps:List Str} {sp:Sp} {x:Str} {p pos:Pos} {e:Expr} {es:List Expr} {t:TA}
end
section
variable {X:Cx} {C:Addr}
end
section
variable {X:Cx} {x n:Str} {np hpos pos:Pos} {body suite:List Stmt} {b0:Stmt} {C:Addr} {mt:Value->Prop} {tb:(St->XK)->TS} {th:TS}
end
section
variable {prog:Program} {w:World} {A:Around} {E:Value->Shared->Prop} {s:Shared} {C a:Addr} {bmB:List Value} {newId:String}
end
section
variable {prog:Program} {w:World} {A:Around} {E:Value->Shared->Prop} {h:Heap} {g:Array GenState} {d:Drawn} {t:Nat} {os:OsState}
variable {C:Addr} {bmB:List Value} {B newId initId:String}
end
section
variable {X:Cx} {x y:Str} {np hpos pos p cpos rpos cp:Pos} {kk:Nat} {body:List Stmt} {C D':Addr} {mt:Value->Prop} {tb:(St->XK)->TS} {EX:St->XK} {e:Expr} {es:List Expr} {t:TA} {bmB:List Value} {B newId initId:String}
end
open PySem.Builtin.ObjectAttr
section
variable {X:Cx} {C a:Addr} {H:Hp} {s:Shared}
end
def CDivB (i j:Int):Prop:=0 < j/\j < 1000000000000000000
section
variable {X:Cx}
theorem js1:OpR X (binaryOp .FloorDiv) (fIC CDivB fun i j=>.int (i / j)):=by
 intro pins s σ H x y v u Q I rx ry h
 unfold fIC at h
 split at h
 ·rename_i i j
  obtain ⟨⟨h1,h2⟩,q⟩:=h
  obtain ⟨t,rfl⟩:=rx
  obtain ⟨t',rfl⟩:=ry
  refine floordiv_int (by omega) ?_ (.inl (PyProof.noPylong_of_log2 ?_))
  ·rw [Int.fdiv_eq_ediv_of_nonneg i (by omega)]
   exact ⟨.int (i / j),H,I.tok _,⟨_,rfl⟩,q⟩
  ·by_cases h0:j.natAbs = 0
   ·rw [h0]; decide
   ·exact Nat.lt_of_lt_of_le ((Nat.log2_lt h0).mpr (show j.natAbs < 2 ^ 60 by omega)) (by decide)
 ·exact h.elim
end
theorem ja6 {a b:TS} {D:Ends} {σ:St} {H:Hp} (h:∀ R,R = b->tSeq a R D σ H):tSeq a b D σ H:=h b rfl
theorem jd4 {ι:Type} {wi:TI} {g:TG} {tb:TS} {D:Ends} {σ:St} {H:Hp} (J:ι->It) (H1:ι->Hp) (ok:ι->Prop) (h1:∀ R:It->Hp->Prop,(∀ i,ok i->R (J i) (H1 i))->wi σ H R)
  (h2:∀ i0,ok i0->∃ W:Nat->Nat->St->Hp->Prop,(∃ m,W 0 m σ (H1 i0))/\∀ i m σ H,W i m σ H->((J i0).stop i H/\D.nx σ H) \/ ((J i0).go i H/\∃ N:St->Hp->Prop,(∀ σ' H',N σ' H'->∃ m',m' < m/\W (i + 1) m' σ' H')/\∀ x H',(J i0).yld i H x H'->g x σ H' fun σ2 H2=>tb { D with nx:=N,ct:=N,bk:=D.nx } σ2 H2)) :
  tFor wi g tb D σ H:=h1 _ h2
section
variable {X:Cx}
end
end L2
namespace So
open PySem PyProof.Rows
def kv (R:Keyed->Int) (xs:Array Keyed) (i:Nat):Int:=(xs[i]?.map R).getD 0
theorem jox {R:Keyed->Int} {xs ys:Array Keyed} {i j:Nat} (h:xs[i]? = ys[j]?):kv R xs i = kv R ys j:=by unfold kv; rw [h]
theorem kv_at {R:Keyed->Int} {xs:Array Keyed} {i:Nat} {x:Keyed} (h:xs[i]? = some x):kv R xs i = R x:=by unfold kv; rw [h]; rfl
def Up (R:Keyed->Int) (xs:Array Keyed) (a b:Nat):Prop:=∀ i j,a <= i->i <= j->j < b->kv R xs i <= kv R xs j
def Dn (R:Keyed->Int) (xs:Array Keyed) (a b:Nat):Prop:=∀ i j,a <= i->i <= j->j < b->kv R xs j <= kv R xs i
def Fore (lo:Nat) (xs ys:Array Keyed):Prop:=∀ i,i < lo->ys[i]? = xs[i]?
theorem Fore.rfl' {lo:Nat} {xs:Array Keyed}:Fore lo xs xs:=fun _ _=>rfl
theorem Fore.tr {lo:Nat} {xs ys zs:Array Keyed} (a:Fore lo xs ys) (b:Fore lo ys zs):Fore lo xs zs:=fun i h=>(b i h).trans (a i h)
theorem Up.one {R:Keyed->Int} {xs:Array Keyed} {a b:Nat} (h:b <= a + 1):Up R xs a b:=fun i j h1 h2 h3=>by
 have e:i = j:=by omega
 rw [e]; exact Int.le_refl _
theorem Up.grow {R:Keyed->Int} {xs:Array Keyed} {a b:Nat} (h:Up R xs a b) (h2:a < b) (hl:kv R xs (b - 1) <= kv R xs b):Up R xs a (b + 1):=fun i j h3 h4 h5=>by
 by_cases hj:j < b
 ·exact h i j h3 h4 hj
 ·have e:j = b:=by omega
  rw [e] at h4 ⊢
  by_cases hi:i = b
  ·rw [hi]; exact Int.le_refl _
  ·exact Int.le_trans (h i (b - 1) h3 (by omega) (by omega)) hl
theorem Dn.grow {R:Keyed->Int} {xs:Array Keyed} {a b:Nat} (h:Dn R xs a b) (h2:a < b) (hl:kv R xs b <= kv R xs (b - 1)):Dn R xs a (b + 1):=fun i j h3 h4 h5=>by
 by_cases hj:j < b
 ·exact h i j h3 h4 hj
 ·have e:j = b:=by omega
  rw [e] at h4 ⊢
  by_cases hi:i = b
  ·rw [hi]; exact Int.le_refl _
  ·exact Int.le_trans hl (h i (b - 1) h3 (by omega) (by omega))
theorem Dn.like {R:Keyed->Int} {xs ys:Array Keyed} {a b:Nat} (h:Dn R xs a b) (e:∀ k,kv R ys k = kv R xs k):Dn R ys a b:=fun i j h1 h2 h3=>by rw [e,e]; exact h i j h1 h2 h3
theorem jky {R:Keyed->Int} {xs:Array Keyed} {i j:Nat} (hj:j <= xs.size) (k:Nat) :
  kv R (mirror xs i j ((j - i) / 2)) k = if i <= k/\k < j then kv R xs (i + j - 1 - k) else kv R xs k:=by
 have e:=getElem?_mirror_all (i:=i) hj k
 by_cases c:i <= k/\k < j
 ·rw [if_pos c] at e ⊢; exact jox e
 ·rw [if_neg c] at e ⊢; exact jox e
theorem jds {R:Keyed->Int} {xs:Array Keyed} {i j:Nat} (hj:j <= xs.size) (q:∀ k,i <= k->k < j->kv R xs k = kv R xs (j - 1)) (k:Nat) :
  kv R (mirror xs i j ((j - i) / 2)) k = kv R xs k:=by
 rw [jky hj]
 split
 ·rename_i c; rw [q _ (by omega) (by omega),q k c.1 c.2]
 ·rfl
theorem jeh {lo:Nat} {xs:Array Keyed} {i j:Nat} (hj:j <= xs.size) (hi:lo <= i):Fore lo xs (mirror xs i j ((j - i) / 2)):=fun k hk=>by
 rw [getElem?_mirror_all hj,if_neg (by omega)]
theorem jow {R:Keyed->Int} {xs:Array Keyed} {src d:Nat} (hs:src < xs.size) (hd:d <= src) (k:Nat) :
  kv R (bubble xs src d) k = if k = src - d then kv R xs src else if src - d < k/\k <= src then kv R xs (k - 1) else kv R xs k:=by
 have e:=getElem?_bubble hs d hd k
 by_cases c:k = src - d
 ·rw [if_pos c] at e ⊢; exact jox e
 ·rw [if_neg c] at e ⊢
  by_cases c2:src - d < k/\k <= src
  ·rw [if_pos c2] at e ⊢; exact jox e
  ·rw [if_neg c2] at e ⊢; exact jox e
theorem jp7 {lo:Nat} {xs:Array Keyed} {src d:Nat} (hs:src < xs.size) (hd:lo + d <= src):Fore lo xs (bubble xs src d):=fun k hk=>by
 rw [getElem?_bubble hs d (by omega),if_neg (by omega),if_neg (by omega)]
structure Bs (κ:SortKind) (a₀:Array Keyed) (pd:Array (Nat × Nat × Nat)) (st:SortSt):Prop where
 perm:(arrOf st).Perm a₀
 kind:kindOf st = κ
 ok:failedOf st = none
 pend:pendingOf st = pd
section
variable {prog:Program} {w:World} {A:Around} {E:Value->Shared->Prop} {s:Shared} {R:Keyed->Int} {κ:SortKind} {a₀:Array Keyed} {pd:Array (Nat × Nat × Nat)}
theorem Bs.size {st:SortSt} (b:Bs κ a₀ pd st):(arrOf st).size = a₀.size:=b.perm.size_eq
theorem Bs.put {st:SortSt} (b:Bs κ a₀ pd st) {xs:Array Keyed} (p:xs.Perm (arrOf st)):Bs κ a₀ pd (setArr st xs):=⟨p.trans b.perm,b.kind,b.ok,b.pend⟩
theorem Bs.get {st:SortSt} (b:Bs κ a₀ pd st) {i:Nat} (hi:i < a₀.size):∃ x,(arrOf st)[i]? = some x/\x ∈ a₀.toList:=by
 have h1:i < (arrOf st).size:=by rw [b.size]; exact hi
 exact ⟨(arrOf st)[i],getElem?_pos _ i h1,(Array.perm_iff_toList_perm.mp b.perm).mem_iff.mp (by simp)⟩
def Cm (prog:Program) (w:World) (A:Around) (s:Shared) (R:Keyed->Int) (κ:SortKind) (a₀:Array Keyed):Prop :=
 ∀ x y,x ∈ a₀.toList->y ∈ a₀.toList->∀ (Q:Bool->Shared->Prop) (E:Value->Shared->Prop),Q (decide (R x < R y)) s->wpAny (model prog w) A (keyLt' κ x.1 y.1) Q E s
theorem w_lt (C:Cm prog w A s R κ a₀) {st:SortSt} {x y:Keyed} (hk:kindOf st = κ) (hx:x ∈ a₀.toList) (hy:y ∈ a₀.toList) {Q:Option Bool->SortSt->Prop} (h:Q (some (decide (R x < R y))) st) :
  wpS (model prog w) A E s (lt' x y) Q st:=by
 rw [lt'_eq]
 refine wpS_bind (wpS_get ?_)
 rw [hk]
 refine wpS_bind (wpS_lift (wpAny_attempt (C x y hx hy _ _ ⟨rfl,?_⟩)))
 exact wpS_pure h
theorem jqz {st:SortSt} {xs:Array Keyed} {i:Nat} {x:Keyed} (e:xs[i]? = some x) {Q:Keyed->SortSt->Prop} (h:Q x st):wpS (model prog w) A E s (elem' xs i) Q st:=by
 rw [elem'_eq,e]; exact wpS_pure h
theorem jib (C:Cm prog w A s R κ a₀) {st:SortSt} (b:Bs κ a₀ pd st) {i j:Nat} (hi:i < a₀.size) (hj:j < a₀.size) {Q:Option Bool->SortSt->Prop}
  (h:Q (some (decide (kv R (arrOf st) i < kv R (arrOf st) j))) st):wpS (model prog w) A E s (ltAt' i j) Q st:=by
 obtain ⟨x,e1,m1⟩:=b.get hi
 obtain ⟨y,e2,m2⟩:=b.get hj
 rw [ltAt'_eq]
 refine wpS_bind (wpS_get (wpS_bind (jqz e1 (wpS_bind (jqz e2 (w_lt C b.kind m1 m2 ?_))))))
 rw [kv_at e1,kv_at e2] at h
 exact h
abbrev UpSt:=Option (Option Nat) × Nat
abbrev DnSt:=Option (Option Nat) × Nat × Nat
def goUp (lo a nrem:Nat):StateT SortSt Sem UpSt :=
 forIn [a:nrem] ((none,a):UpSt) fun _ c=>do
  let z <- ltAt' (lo + c.snd) (lo + c.snd - 1)
  match z with
  | some less=>if less = true then pure (.done (none,c.snd)) else pure (.yield (none,c.snd + 1))
  | _=>pure (.done (some none,c.snd))
def jjl (lo n nrem:Nat):StateT SortSt Sem (Option Nat):=do
 reverseSlice' lo (lo + n)
 let c <- goUp lo n nrem
 match c.fst with
 | some r=>pure r
 | none=>pure (some c.snd)
def goDn (lo n nrem:Nat):StateT SortSt Sem DnSt :=
 forIn [n:nrem] ((none,n,0):DnSt) fun _ c=>do
  let z <- ltAt' (lo + c.snd.fst) (lo + c.snd.fst - 1)
  match z with
  | some less =>
   if less = true then
    if c.snd.snd > 0 then do
     reverseSlice' (lo + c.snd.fst - (c.snd.snd + 1)) (lo + c.snd.fst)
     pure (.yield (none,c.snd.fst + 1,0))
    else pure (.yield (none,c.snd.fst + 1,0))
   else do
    let y <- ltAt' (lo + c.snd.fst - 1) (lo + c.snd.fst)
    match y with
    | some more=>if more = true then pure (.done (none,c.snd.fst,c.snd.snd)) else pure (.yield (none,c.snd.fst + 1,c.snd.snd + 1))
    | _=>pure (.done (some none,c.snd.fst,c.snd.snd))
  | _=>pure (.done (some none,c.snd.fst,c.snd.snd))
def jpr (lo n nrem:Nat):StateT SortSt Sem (Option Nat):=do
 liftM (rule "list.sort.descending-run")
 let c <- goDn lo (n + 1) nrem
 match c.fst with
 | some r=>pure r
 | none =>
  if c.snd.snd > 0 then do
   reverseSlice' (lo + c.snd.fst - (c.snd.snd + 1)) (lo + c.snd.fst)
   jjl lo c.snd.fst nrem
  else jjl lo c.snd.fst nrem
theorem jqp (lo nrem:Nat):countRun' lo nrem = (do
    let c <- goUp lo 1 nrem
    match c.fst with
    | some r=>pure r
    | none =>
      if (c.snd == nrem) = true then pure (some c.snd)
      else if c.snd > 1 then do
        let z <- ltAt' lo (lo + c.snd - 1)
        match z with
        | some rose=>if rose = true then pure (some c.snd) else do
            reverseSlice' lo (lo + c.snd)
            jpr lo c.snd nrem
        | _=>pure none
      else jpr lo c.snd nrem):=by
  rw [countRun'_eq]
  unfold jpr jjl goDn goUp
  dsimp only
  congr 1
  funext c
  obtain ⟨r,n⟩:=c
  cases r with
  | some r=>rfl
  | none =>
    dsimp only
    split
    · rfl
    · split
      · congr 1
        funext z
        cases z with
        | none=>rfl
        | some rose =>
          dsimp only
          split
          · rfl
          · congr 1
            funext _r
            (congr 1; funext _u; congr 1; congr 1; funext c2; obtain ⟨r2,n2,q2⟩:=c2; cases r2 with
            | some r2=>rfl
            | none =>
              dsimp only
              split
              · congr 1; funext _t; congr 1; funext _v; congr 1; funext c3; obtain ⟨r3,n3⟩:=c3; cases r3 <;> rfl
              · congr 1; funext _v; congr 1; funext c3; obtain ⟨r3,n3⟩:=c3; cases r3 <;> rfl)
      · (congr 1; funext _u; congr 1; congr 1; funext c2; obtain ⟨r2,n2,q2⟩:=c2; cases r2 with
            | some r2=>rfl
            | none =>
              dsimp only
              split
              · congr 1; funext _t; congr 1; funext _v; congr 1; funext c3; obtain ⟨r3,n3⟩:=c3; cases r3 <;> rfl
              · congr 1; funext _v; congr 1; funext c3; obtain ⟨r3,n3⟩:=c3; cases r3 <;> rfl)
theorem jli {st:SortSt} {i j:Nat} {Q:Unit->SortSt->Prop} (h:Q () (setArr st (mirror (arrOf st) i j ((j - i) / 2)))) :
  wpS (model prog w) A E s (reverseSlice' i j) Q st:=by
 rw [reverseSlice'_eq]; exact wpS_modify h
theorem jqy (C:Cm prog w A s R κ a₀) {st:SortSt} {lo a nrem:Nat} {Q:UpSt->SortSt->Prop} (hn:lo + nrem <= a₀.size) (ha:1 <= a) (han:a <= nrem) (b:Bs κ a₀ pd st) (u:Up R (arrOf st) lo (lo + a))
  (h:∀ n,a <= n->n <= nrem->Up R (arrOf st) lo (lo + n)->(n = nrem \/ kv R (arrOf st) (lo + n) < kv R (arrOf st) (lo + n - 1))->Q (none,n) st) :
  wpS (model prog w) A E s (goUp lo a nrem) Q st:=by
 unfold goUp
 refine wpS_forRange (I:=fun x c st'=>st' = st/\c = (none,x)/\Up R (arrOf st) lo (lo + x)) ?step ?fin ⟨rfl,rfl,u⟩
 case fin =>
  rintro c st' ⟨rfl,rfl,u'⟩
  rw [show max a nrem = nrem by omega] at u' ⊢
  exact h nrem han (Nat.le_refl _) u' (.inl rfl)
 case step =>
  rintro x c st' hax hxn ⟨rfl,rfl,u'⟩
  dsimp only
  refine wpS_bind (jib C b (by omega) (by omega) ?_)
  by_cases c:kv R (arrOf st') (lo + x) < kv R (arrOf st') (lo + x - 1)
  ·simp only [c,decide_true,if_true]
   exact wpS_pure (h x hax (by omega) u' (.inr c))
  ·simp only [c,decide_false,Bool.false_eq_true,if_false]
   exact wpS_pure ⟨rfl,rfl,u'.grow (by omega) (by omega)⟩
theorem jlj (C:Cm prog w A s R κ a₀) {st:SortSt} {lo n nrem:Nat} {Q:Option Nat->SortSt->Prop} (hn:lo + nrem <= a₀.size) (h1:1 <= n) (hnn:n <= nrem) (b:Bs κ a₀ pd st) (d:Dn R (arrOf st) lo (lo + n))
  (h:∀ m st',Bs κ a₀ pd st'->Fore lo (arrOf st) (arrOf st')->1 <= m->m <= nrem->Up R (arrOf st') lo (lo + m)->Q (some m) st') :
  wpS (model prog w) A E s (jjl lo n nrem) Q st:=by
 unfold jjl
 have hsz:lo + n <= (arrOf st).size:=by rw [b.size]; omega
 refine wpS_bind (jli ?_)
 have b':=b.put (mirror_perm (arrOf st) lo (lo + n) ((lo + n - lo) / 2))
 refine wpS_bind (jqy C hn h1 hnn b' ?_ fun m hm1 hm2 u _=>wpS_pure (h m _ b' (jeh hsz (Nat.le_refl _)) (by omega) hm2 u))
 intro i j h3 h4 h5
 show kv R (mirror (arrOf st) lo (lo + n) _) i <= kv R (mirror (arrOf st) lo (lo + n) _) j
 rw [jky hsz,jky hsz,if_pos (by omega),if_pos (by omega)]
 exact d _ _ (by omega) (by omega) (by omega)
theorem w_goDn (C:Cm prog w A s R κ a₀) {st:SortSt} {lo n nrem:Nat} {Q:DnSt->SortSt->Prop} (hn:lo + nrem <= a₀.size) (h1:1 <= n) (hnn:n <= nrem) (b:Bs κ a₀ pd st) (d:Dn R (arrOf st) lo (lo + n))
  (h:∀ m q st',Bs κ a₀ pd st'->Fore lo (arrOf st) (arrOf st')->n <= m->m <= nrem->Dn R (arrOf st') lo (lo + m)->q + 1 <= m->(∀ i,lo + m - (q + 1) <= i->i < lo + m->kv R (arrOf st') i = kv R (arrOf st') (lo + m - 1))->Q (none,m,q) st') :
  wpS (model prog w) A E s (goDn lo n nrem) Q st:=by
 unfold goDn
 refine wpS_forRange (I:=fun x c st'=>∃ q,c = (none,x,q)/\Bs κ a₀ pd st'/\Fore lo (arrOf st) (arrOf st')/\Dn R (arrOf st') lo (lo + x)/\q + 1 <= x /\
   (∀ i,lo + x - (q + 1) <= i->i < lo + x->kv R (arrOf st') i = kv R (arrOf st') (lo + x - 1))) ?step ?fin ⟨0,rfl,b,Fore.rfl',d,by omega,fun i h1 h2=>by congr 1; omega⟩
 case fin =>
  rintro c st' ⟨q,rfl,b',f,d',hq,he⟩
  rw [show max n nrem = nrem by omega] at d' hq he ⊢
  exact h nrem q st' b' f hnn (Nat.le_refl _) d' hq he
 case step =>
  rintro x c st' hax hxn ⟨q,rfl,b',f,d',hq,he⟩
  dsimp only
  have hsz:lo + x <= (arrOf st').size:=by rw [b'.size]; omega
  refine wpS_bind (jib C b' (by omega) (by omega) ?_)
  by_cases c:kv R (arrOf st') (lo + x) < kv R (arrOf st') (lo + x - 1)
  ·simp only [c,decide_true,if_true]
   have g:=d'.grow (by omega) (Int.le_of_lt c)
   by_cases hq0:q > 0
   ·rw [if_pos hq0]
    exact wpS_bind (jli (wpS_pure ⟨0,rfl,b'.put (mirror_perm _ _ _ _),f.tr (jeh hsz (by omega)),g.like (jds hsz he),by omega,fun i h1 h2=>by congr 1; omega⟩))
   ·rw [if_neg hq0]
    exact wpS_pure ⟨0,rfl,b',f,g,by omega,fun i h1 h2=>by congr 1; omega⟩
  ·simp only [c,decide_false,Bool.false_eq_true,if_false]
   refine wpS_bind (jib C b' (by omega) (by omega) ?_)
   by_cases c2:kv R (arrOf st') (lo + x - 1) < kv R (arrOf st') (lo + x)
   ·simp only [c2,decide_true,if_true]
    exact wpS_pure (h x q st' b' f hax (by omega) d' hq he)
   ·simp only [c2,decide_false,Bool.false_eq_true,if_false]
    have e2:kv R (arrOf st') (lo + x) = kv R (arrOf st') (lo + x - 1):=by omega
    refine wpS_pure ⟨q + 1,rfl,b',f,d'.grow (by omega) (by omega),by omega,fun i h1 h2=>?_⟩
    rw [show lo + (x + 1) - 1 = lo + x by omega]
    by_cases hix:i = lo + x
    ·rw [hix]
    ·rw [e2]; exact he i (by omega) (by omega)
theorem jnd (C:Cm prog w A s R κ a₀) {st:SortSt} {lo n nrem:Nat} {Q:Option Nat->SortSt->Prop} (hn:lo + nrem <= a₀.size) (hnn:n + 1 <= nrem) (b:Bs κ a₀ pd st) (d:Dn R (arrOf st) lo (lo + (n + 1)))
  (h:∀ m st',Bs κ a₀ pd st'->Fore lo (arrOf st) (arrOf st')->1 <= m->m <= nrem->Up R (arrOf st') lo (lo + m)->Q (some m) st') :
  wpS (model prog w) A E s (jpr lo n nrem) Q st:=by
 unfold jpr
 refine wpS_bind (wpS_lift (wpAny_rule ⟨rfl,?_⟩))
 refine wpS_bind (w_goDn C hn (by omega) hnn b d fun m q st' b' f hm1 hm2 d' hq he=>?_)
 dsimp only
 have hsz:lo + m <= (arrOf st').size:=by rw [b'.size]; omega
 by_cases hq0:q > 0
 ·rw [if_pos hq0]
  exact wpS_bind (jli (jlj C hn (by omega) hm2 (b'.put (mirror_perm _ _ _ _)) (d'.like (jds hsz he)) fun m2 st2 a1 a2=>h m2 st2 a1 ((f.tr (jeh hsz (by omega))).tr a2)))
 ·rw [if_neg hq0]
  exact jlj C hn (by omega) hm2 b' d' fun m2 st2 a1 a2=>h m2 st2 a1 (f.tr a2)
theorem jrw (C:Cm prog w A s R κ a₀) {st:SortSt} {lo nrem:Nat} {Q:Option Nat->SortSt->Prop} (hn:lo + nrem <= a₀.size) (h1:1 <= nrem) (b:Bs κ a₀ pd st)
  (h:∀ m st',Bs κ a₀ pd st'->Fore lo (arrOf st) (arrOf st')->1 <= m->m <= nrem->Up R (arrOf st') lo (lo + m)->Q (some m) st') :
  wpS (model prog w) A E s (countRun' lo nrem) Q st:=by
 rw [jqp]
 refine wpS_bind (jqy C hn (Nat.le_refl 1) h1 b (Up.one (Nat.le_refl _)) fun n hn1 hn2 u hor=>?_)
 dsimp only
 by_cases c:n = nrem
 ·rw [if_pos (by simpa using c)]
  exact wpS_pure (h n st b Fore.rfl' hn1 hn2 u)
 ·rw [if_neg (by simpa using c)]
  have hlt:=hor.resolve_left c
  by_cases hgt:n > 1
  ·rw [if_pos hgt]
   refine wpS_bind (jib C b (by omega) (by omega) ?_)
   by_cases c2:kv R (arrOf st) lo < kv R (arrOf st) (lo + n - 1)
   ·simp only [c2,decide_true,if_true]
    exact wpS_pure (h n st b Fore.rfl' hn1 hn2 u)
   ·simp only [c2,decide_false,Bool.false_eq_true,if_false]
    have hsz:lo + n <= (arrOf st).size:=by rw [b.size]; omega
    have hall:∀ k,lo <= k->k < lo + n->kv R (arrOf st) k = kv R (arrOf st) (lo + n - 1):=by
     intro k h2 h3
     have a1:=u lo k (Nat.le_refl _) h2 h3
     have a2:=u k (lo + n - 1) h2 (by omega) (by omega)
     omega
    have d:Dn R (arrOf st) lo (lo + n):=fun i j h3 h4 h5=>by rw [hall i h3 (by omega),hall j (by omega) h5]; exact Int.le_refl _
    have g:Dn R (arrOf st) lo (lo + (n + 1)):=d.grow (by omega) (Int.le_of_lt hlt)
    exact wpS_bind (jli (jnd C hn (by omega) (b.put (mirror_perm _ _ _ _)) (g.like (jds hsz hall)) fun m st' a1 a2=>h m st' a1 ((jeh hsz (Nat.le_refl _)).tr a2)))
  ·rw [if_neg hgt]
   have e:n = 1:=by omega
   subst e
   have d:Dn R (arrOf st) lo (lo + 1):=fun i j h3 h4 h5=>by
    have e:i = j:=by omega
    rw [e]; exact Int.le_refl _
   exact jnd C hn (by omega) b (d.grow (by omega) (Int.le_of_lt hlt)) h
theorem w_ins (C:Cm prog w A s R κ a₀) {st:SortSt} {lo n ok:Nat} {Q:Bool->SortSt->Prop} (hn:lo + n <= a₀.size) (hok:ok <= n) (b:Bs κ a₀ pd st) (u:Up R (arrOf st) lo (lo + ok))
  (h:∀ st',Bs κ a₀ pd st'->Fore lo (arrOf st) (arrOf st')->Up R (arrOf st') lo (lo + n)->Q true st'):wpS (model prog w) A E s (binarySort' lo n ok) Q st:=by
 rw [binarySort'_eq]
 refine wpS_bind (wpS_mono (wpS_forRange (I:=fun k c st'=>c = (none,())/\Bs κ a₀ pd st'/\Fore lo (arrOf st) (arrOf st')/\Up R (arrOf st') lo (lo + min k n))
  (Q:=fun c st'=>c = (none,())/\Bs κ a₀ pd st'/\Fore lo (arrOf st) (arrOf st')/\Up R (arrOf st') lo (lo + n)) ?step ?fin ?init) ?post)
 case post =>
  rintro c st' ⟨rfl,b',f,u'⟩
  exact wpS_pure (h st' b' f u')
 case init =>
  refine ⟨rfl,b,Fore.rfl',fun i j h1 h2 h3=>?_⟩
  by_cases c:ok = 0
  ·have e:i = j:=by omega
   rw [e]; exact Int.le_refl _
  ·exact u i j h1 h2 (by omega)
 case fin =>
  rintro c st' ⟨hc,b',f,u'⟩
  rw [show min (max (max ok 1) n) n = n by omega] at u'
  exact ⟨hc,b',f,u'⟩
 case step =>
  rintro k c st' hak hkn ⟨rfl,b',f,u'⟩
  rw [show min k n = k by omega] at u'
  refine wpS_bind (wpS_mono (wpS_forRange (I:=fun x c st2=>st2 = st'/\∃ l r,c = (none,l,r)/\l <= r/\r <= k/\r - l <= k - x /\
    (∀ i,i < l->kv R (arrOf st') (lo + i) <= kv R (arrOf st') (lo + k))/\(∀ i,r <= i->i < k->kv R (arrOf st') (lo + k) < kv R (arrOf st') (lo + i)))
   (Q:=fun c st2=>st2 = st'/\∃ l r,c = (none,l,r)/\l <= k /\
    (∀ i,i < l->kv R (arrOf st') (lo + i) <= kv R (arrOf st') (lo + k))/\(∀ i,l <= i->i < k->kv R (arrOf st') (lo + k) < kv R (arrOf st') (lo + i))) ?istep ?ifin ?iinit) ?ipost)
  case iinit=>exact ⟨rfl,0,k,rfl,by omega,by omega,by omega,fun i hi=>by omega,fun i h1 h2=>by omega⟩
  case ifin =>
   rintro c st2 ⟨rfl,l,r,rfl,hlr,hrk,hm,hlo,hhi⟩
   have e:l = r:=by omega
   subst e
   exact ⟨rfl,l,l,rfl,hrk,hlo,hhi⟩
  case istep =>
   rintro x c st2 _ hxk ⟨rfl,l,r,rfl,hlr,hrk,hm,hlo,hhi⟩
   dsimp only
   by_cases hge:l ≥ r
   ·rw [if_pos hge]
    have e:l = r:=by omega
    subst e
    exact wpS_pure ⟨rfl,l,l,rfl,hrk,hlo,hhi⟩
   ·rw [if_neg hge]
    refine wpS_bind (jib C b' (by omega) (by omega) ?_)
    by_cases c:kv R (arrOf st2) (lo + k) < kv R (arrOf st2) (lo + (l + r) / 2)
    ·simp only [c,decide_true,if_true]
     exact wpS_pure ⟨rfl,l,(l + r) / 2,rfl,by omega,by omega,by omega,hlo,fun i h1 h2=>Int.lt_of_lt_of_le c (u' _ _ (by omega) (by omega) (by omega))⟩
    ·simp only [c,decide_false,Bool.false_eq_true,if_false]
     exact wpS_pure ⟨rfl,(l + r) / 2 + 1,r,rfl,by omega,by omega,by omega,fun i h1=>Int.le_trans (u' (lo + i) (lo + (l + r) / 2) (by omega) (by omega) (by omega)) (Int.not_lt.mp c),hhi⟩
  case ipost =>
   rintro c st2 ⟨rfl,l,r,rfl,hlk,hlo,hhi⟩
   show wpS _ _ _ _ (do moveDown' (lo + k) (lo + l); pure (ForInStep.yield (none,()))) _ _
   rw [moveDown'_eq]
   have hks:lo + k < (arrOf st2).size:=by rw [b'.size]; omega
   refine wpS_bind (wpS_modify (wpS_pure ⟨rfl,b'.put (bubble_perm _ _ _),f.tr (jp7 hks (by omega)),?_⟩))
   rw [show min (k + 1) n = k + 1 by omega]
   intro i j h1 h2 h3
   show kv R (bubble (arrOf st2) (lo + k) (lo + k - (lo + l))) i <= kv R (bubble (arrOf st2) (lo + k) (lo + k - (lo + l))) j
   rw [jow hks (by omega),jow hks (by omega),show lo + k - (lo + k - (lo + l)) = lo + l by omega]
   have lowof:∀ i,lo <= i->i < lo + l->kv R (arrOf st2) i <= kv R (arrOf st2) (lo + k):=fun i a1 a2=>by
    have z:=hlo (i - lo) (by omega)
    rwa [show lo + (i - lo) = i by omega] at z
   have highof:∀ i,lo + l <= i->i < lo + k->kv R (arrOf st2) (lo + k) < kv R (arrOf st2) i:=fun i a1 a2=>by
    have z:=hhi (i - lo) (by omega) (by omega)
    rwa [show lo + (i - lo) = i by omega] at z
   repeat' split
   all_goals first
    | (exfalso; omega)
    | exact Int.le_refl _
    | exact lowof _ (by omega) (by omega)
    | exact Int.le_of_lt (highof _ (by omega) (by omega))
    | exact u' _ _ (by omega) (by omega) (by omega)
end
end So
namespace So
open PySem PyProof.Rows
section
variable {prog:Program} {w:World} {A:Around} {E:Value->Shared->Prop} {s:Shared} {R:Keyed->Int} {κ:SortKind} {a₀:Array Keyed} {pd:Array (Nat × Nat × Nat)}
end
end So
namespace So
open PySem PyProof.Rows
def Le (R:Keyed->Int):Keyed->Keyed->Prop:=fun x y=>R x <= R y
def MS (R:Keyed->Int) (o la lb tot:List Keyed):Prop:=(o ++ la).Pairwise (Le R)/\(o ++ lb).Pairwise (Le R)/\(o ++ (la ++ lb)).Perm tot
def Fi (R:Keyed->Int) (l tot:List Keyed):Prop:=l.Pairwise (Le R)/\l.Perm tot
section
variable {R:Keyed->Int} {o la lb tot xs:List Keyed}
theorem MS.a (h:MS R o (xs ++ la) lb tot) (hx:∀ x ∈ xs,∀ y ∈ lb,R x <= R y):MS R (o ++ xs) la lb tot:=by
 obtain ⟨h1,h2,h3⟩:=h
 refine ⟨by rw [List.append_assoc]; exact h1,?_,by rw [List.append_assoc,<- List.append_assoc xs]; exact h3⟩
 rw [List.append_assoc,List.pairwise_append]
 rw [List.pairwise_append] at h1 h2
 obtain ⟨o1,o2,o3⟩:=h1
 obtain ⟨p1,p2,p3⟩:=h2
 rw [List.pairwise_append] at o2
 refine ⟨o1,List.pairwise_append.mpr ⟨o2.1,p2,hx⟩,fun x m y n=>?_⟩
 rcases List.mem_append.mp n with n | n
 ·exact o3 x m y (List.mem_append_left _ n)
 ·exact p3 x m y n
theorem MS.b (h:MS R o la (xs ++ lb) tot) (hx:∀ x ∈ xs,∀ y ∈ la,R x <= R y):MS R (o ++ xs) la lb tot:=by
 have z:MS R o (xs ++ lb) la tot:=⟨h.2.1,h.1,(List.Perm.append_left _ List.perm_append_comm).trans h.2.2⟩
 have q:=z.a hx
 exact ⟨q.2.1,q.1,(List.Perm.append_left _ List.perm_append_comm).trans q.2.2⟩
end
section
variable {a:Array Keyed} {R:Keyed->Int} {i k:Nat}
theorem Up.le (u:Up R a 0 a.size) {j:Nat} {x y:Keyed} (hx:a[i]? = some x) (hy:a[j]? = some y) (h:i <= j):R x <= R y:=by
 have z:=u i j (Nat.zero_le _) h (Array.getElem?_eq_some_iff.mp hy).1
 rwa [kv_at hx,kv_at hy] at z
end
section
variable {M:Model} {A:Around} {E:Value->Shared->Prop} {s:Shared} {σ α:Type}
theorem jnc {c:Prop} [Decidable c] {m n:StateT σ Sem α} {Q:α->σ->Prop} {st:σ} (h1:c->wpS M A E s m Q st) (h2:¬ c->wpS M A E s n Q st):wpS M A E s (if c then m else n) Q st:=by
 by_cases h:c
 ·rw [if_pos h]; exact h1 h
 ·rw [if_neg h]; exact h2 h
end
section
variable {R:Keyed->Int} {a b out:Array Keyed} {ia ib k:Nat} {tot:List Keyed}
end
section
variable {prog:Program} {w:World} {A:Around} {E:Value->Shared->Prop} {s:Shared} {R:Keyed->Int} {κ:SortKind} {a₀:Array Keyed} {pd:Array (Nat × Nat × Nat)}
end
end So
namespace So
open PySem PyProof.Rows
def MH (R:Keyed->Int) (la lb o tot:List Keyed):Prop:=(la ++ o).Pairwise (Le R)/\(lb ++ o).Pairwise (Le R)/\(la ++ (lb ++ o)).Perm tot
section
variable {R:Keyed->Int} {o la lb tot xs:List Keyed}
theorem MH.a (h:MH R (la ++ xs) lb o tot) (hx:∀ x ∈ xs,∀ y ∈ lb,R y <= R x):MH R la lb (xs ++ o) tot:=by
 obtain ⟨h1,h2,h3⟩:=h
 refine ⟨by rw [<- List.append_assoc]; exact h1,?_,?_⟩
 ·rw [List.append_assoc,List.pairwise_append] at h1
  rw [List.pairwise_append] at h2 ⊢
  refine ⟨h2.1,h1.2.1,fun y hy x hx2=>?_⟩
  rcases List.mem_append.mp hx2 with n | n
  ·exact hx x n y hy
  ·exact h2.2.2 y hy x n
 ·refine List.Perm.trans ?_ h3
  rw [List.append_assoc]
  refine List.Perm.append_left _ ?_
  rw [<- List.append_assoc,<- List.append_assoc]
  exact List.Perm.append_right _ List.perm_append_comm
theorem MH.swap (h:MH R la lb o tot):MH R lb la o tot:=by
 refine ⟨h.2.1,h.1,List.Perm.trans ?_ h.2.2⟩
 rw [<- List.append_assoc,<- List.append_assoc]
 exact List.Perm.append_right _ List.perm_append_comm
theorem MH.b (h:MH R la (lb ++ xs) o tot) (hx:∀ x ∈ xs,∀ y ∈ la,R y <= R x):MH R la lb (xs ++ o) tot:=(h.swap.a hx).swap
theorem MH.first (h:MH R la lb o tot) (hx:∀ y ∈ lb,∀ x ∈ la,R y <= R x):Fi R (lb ++ la ++ o) tot:=by
 obtain ⟨h1,h2,h3⟩:=h.swap
 refine ⟨?_,by rw [List.append_assoc]; exact h3⟩
 rw [List.append_assoc]
 rw [List.pairwise_append] at h1 h2 ⊢
 refine ⟨h1.1,List.pairwise_append.mpr h2,fun y hy x hx2=>?_⟩
 rcases List.mem_append.mp hx2 with n | n
 ·exact hx y hy x n
 ·exact h1.2.2 y hy x n
end
section
variable {a:Array Keyed} {R:Keyed->Int} {i k n:Nat}
end
section
variable {R:Keyed->Int} {a b out:Array Keyed} {na nb k:Nat} {tot:List Keyed}
end
section
variable {prog:Program} {w:World} {A:Around} {E:Value->Shared->Prop} {s:Shared} {R:Keyed->Int} {κ:SortKind} {a₀:Array Keyed} {pd:Array (Nat × Nat × Nat)}
end
end So
namespace So
open PySem PyProof.Rows
section
variable {prog:Program} {w:World} {A:Around} {E:Value->Shared->Prop} {s:Shared} {R:Keyed->Int} {κ:SortKind} {a₀:Array Keyed} {pd:Array (Nat × Nat × Nat)}
end
end So
namespace So
open PySem PyProof.Rows
def two (pd:Array (Nat × Nat × Nat)):List (Nat × Nat):=pd.toList.map fun t=>(t.1,t.2.1)
section
variable {R:Keyed->Int} {xs ys:Array Keyed}
end
section
variable {prog:Program} {w:World} {A:Around} {E:Value->Shared->Prop} {s:Shared} {R:Keyed->Int} {κ:SortKind} {a₀:Array Keyed} {pd:Array (Nat × Nat × Nat)}
end
end So
namespace So
open PySem PyProof.Rows
section
variable {prog:Program} {w:World} {A:Around} {E:Value->Shared->Prop} {s:Shared}
theorem jle (vs:List Value):vs.zip vs = vs.map fun v=>(v,v):=by
 induction vs with
 | nil=>rfl
 | cons v vs ih=>rw [List.zip_cons_cons,ih,List.map_cons]
theorem Up.all {R:Keyed->Int} {xs:Array Keyed} (u:Up R xs 0 xs.size):xs.toList.Pairwise (Le R):=by
 rw [List.pairwise_iff_getElem]
 intro i j hi hj hij
 rw [Array.length_toList] at hi hj
 exact u.le (getElem?_pos xs i hi) (getElem?_pos xs j hj) (Nat.le_of_lt hij)
theorem out_of {R:Keyed->Int} {vs:List Value} {xs:Array Keyed} (p:xs.Perm (pairsOf vs)) (u:Up R xs 0 xs.size):(xs.map (·.2)).toList.Perm vs/\(xs.map (·.2)).toList.Pairwise fun a b=>R (a,a) <= R (b,b):=by
 have hp:xs.toList.Perm (vs.map fun v=>(v,v)):=by rw [<- jle,<- pairsOf_toList]; exact Array.perm_iff_toList_perm.mp p
 rw [Array.toList_map]
 refine ⟨?_,?_⟩
 ·have z:=hp.map (·.2)
  rw [List.map_map] at z
  have e:vs.map ((fun x:Keyed=>x.2) ∘ fun v=>(v,v)) = vs:=by
   rw [show ((fun x:Keyed=>x.2) ∘ fun v=>(v,v)) = id from rfl,List.map_id]
  rwa [e] at z
 ·rw [List.pairwise_map]
  refine List.Pairwise.imp_of_mem ?_ u.all
  intro a b ha hb hab
  obtain ⟨v,_,rfl⟩:=List.mem_map.mp (hp.mem_iff.mp ha)
  obtain ⟨u',_,rfl⟩:=List.mem_map.mp (hp.mem_iff.mp hb)
  exact hab
def Asks (prog:Program) (w:World) (s:Shared) (vs:List Value) (R:Keyed->Int) (κ:SortKind):Prop :=
 ∀ (A:Around) (h':Heap),(∀ b o,s.heap.get? b = some o->h'.get? b = some o) ->
  (∀ (Q:SortKind->Shared->Prop) (E:Value->Shared->Prop),Q κ { s with heap:=h' }->wpAny (model prog w) A (keyKind' vs.toArray) Q E { s with heap:=h' })/\Cm prog w A { s with heap:=h' } R κ (pairsOf vs)
def PairAt (h:Heap) (v:Value) (x y:Int):Prop:=∃ a o t u n,v = .ref a/\h.get? a = some o/\o.cls = .type "tuple"/\o.data = .seq #[.int x t,.int y u] n
theorem jjq {h:Heap}:∀ {vs:List Value},(∀ v ∈ vs,∃ x y,PairAt h v x y)->∃ fs,PySem.W.KatTups h vs fs/\fs.length = vs.length/\∀ f ∈ fs,∃ i t,f = .int i t
 | [],_=>⟨[],trivial,rfl,fun _ q=>by cases q⟩
 | v :: vs,hv=>by
  obtain ⟨fs,h1,h2,h3⟩:=jjq (vs:=vs) fun v m=>hv v (.tail _ m)
  obtain ⟨x,y,a,o,t,u,n,rfl,e1,e2,e3⟩:=hv v (.head _)
  refine ⟨.int x t :: fs,.cons e1 e2 e3 rfl h1,by rw [List.length_cons,List.length_cons,h2],fun f m=>?_⟩
  rcases List.mem_cons.mp m with rfl | m
  ·exact ⟨x,t,rfl⟩
  ·exact h3 f m
theorem jos {B x y x' y':Int} (h1:0 <= y) (h2:y < B) (h3:0 <= y') (h4:y' < B):x * B + y < x' * B + y' ↔ x < x' \/ (x = x'/\y < y'):=by
 constructor
 ·intro h
  rcases Int.lt_trichotomy x x' with c | c | c
  ·exact .inl c
  ·subst c; exact .inr ⟨rfl,by omega⟩
  ·exfalso
   have q:(x' + 1) * B <= x * B:=Int.mul_le_mul_of_nonneg_right (by omega) (by omega)
   rw [Int.add_mul,Int.one_mul] at q
   omega
 ·rintro (c | ⟨rfl,c⟩)
  ·have q:(x + 1) * B <= x' * B:=Int.mul_le_mul_of_nonneg_right (by omega) (by omega)
   rw [Int.add_mul,Int.one_mul] at q
   omega
  ·omega
theorem jn6 {vs:List Value} {R:Keyed->Int} {B:Int} (hv:∀ v ∈ vs,∃ x y,PairAt s.heap v x y/\R (v,v) = x * B + y/\0 <= y/\y < B) (h2:2 <= vs.length):Asks prog w s vs R (tuples' true):=by
 intro A h' keep
 refine ⟨fun Q E q=>?_,fun x y hx hy Q E q=>?_⟩
 ·obtain ⟨fs,k1,k2,k3⟩:=jjq (h:=h') (vs:=vs) fun v m=>by
   obtain ⟨x,y,⟨a,o,t,u,n,e0,e1,e2⟩,_⟩:=hv v m
   exact ⟨x,y,a,o,t,u,n,e0,keep _ _ e1,e2⟩
  refine PySem.W.kat_kind (T:=.type "int") k1 (by omega) (fun f m=>?_) rfl q
  obtain ⟨i,t,rfl⟩:=k3 f m
  exact PySem.W.Looks.of_pure rfl
 ·rw [pairsOf_toList,jle] at hx hy
  obtain ⟨v,mv,rfl⟩:=List.mem_map.mp hx
  obtain ⟨u,mu,rfl⟩:=List.mem_map.mp hy
  obtain ⟨x1,y1,⟨a,o,t1,t2,n,rfl,e1,e2,e3⟩,r1,r2,r3⟩:=hv v mv
  obtain ⟨x2,y2,⟨b,p,t3,t4,m,rfl,e4,e5,e6⟩,r4,r5,r6⟩:=hv u mu
  rw [r1,r4] at q
  have lx:=jos (x:=x1) (x':=x2) r2 r3 r5 r6
  refine PySem.W.kat_lt (b:=true) (s:={ s with heap:=h' }) (keep _ _ e1) e3 (keep _ _ e4) e6 ?_
  refine PySem.W.kat_cons (wpAny_eqBool_int ?_)
  by_cases c:x1 = x2
  ·rw [show (x1 == x2) = true by rw [c]; exact beq_self_eq_true _]
   refine PySem.W.kat_yes (PySem.W.kat_cons (wpAny_eqBool_int ?_))
   by_cases c2:y1 = y2
   ·rw [show (y1 == y2) = true by rw [c2]; exact beq_self_eq_true _]
    refine PySem.W.kat_yes (PySem.W.kat_nil ?_)
    rw [show decide (x1 * B + y1 < x2 * B + y2) = false by rw [decide_eq_false_iff_not,lx]; omega] at q
    exact q
   ·rw [show (y1 == y2) = false by rw [beq_eq_false_iff_ne]; exact c2]
    refine PySem.W.kat_no (PySem.W.kat_one _ _ (lt_int ?_))
    rw [show decide (x1 * B + y1 < x2 * B + y2) = decide (y1 < y2) by rw [decide_eq_decide,lx]; omega] at q
    exact q
  ·rw [show (x1 == x2) = false by rw [beq_eq_false_iff_ne]; exact c]
   refine PySem.W.kat_no (oneLt_int ?_)
   rw [show decide (x1 * B + y1 < x2 * B + y2) = decide (x1 < x2) by rw [decide_eq_decide,lx]; omega] at q
   exact q
end
end So
namespace L2
open PySem PySem.Spec PyProof.Rows
def jee (a b:Int × Int):Prop:=a.1 < b.1 \/ (a.1 = b.1/\a.2 <= b.2)
def pvOf (H:Hp):Value->Int × Int
 | .ref a=>match H a with
  | some (.tup [.int x,.int y])=>(x,y)
  | _=>(0,0)
 | _=>(0,0)
def tvOf:Value->V
 | .ref a=>.ref a
 | _=>.non
theorem jne {H:Hp}:∀ {xs:List V} {its:List Value} {ps:List (Int × Int)},Vals xs its->Prs H xs ps->its.map (pvOf H) = ps/\∀ v ∈ its,RelV (tvOf v) v/\Pr H (tvOf v) (pvOf H v)
 | _,_,_,.nil,.nil=>⟨rfl,fun _ m=>by cases m⟩
 | _,_,_,.cons r t,.cons q u=>by
  obtain ⟨e1,e2⟩:=jne t u
  obtain ⟨a,rfl,ea⟩:=q
  cases r
  rename_i b _
  have e:pvOf H (.ref a) = b:=by unfold pvOf; dsimp only; rw [ea]
  refine ⟨?_,fun v m=>?_⟩
  ·rw [List.map_cons,e1,e]
  ·rcases List.mem_cons.mp m with rfl | m
   ·rw [e]; exact ⟨rfl,a,rfl,ea⟩
   ·exact e2 v m
theorem jpn {H:Hp}:∀ {us:List Value},(∀ v ∈ us,RelV (tvOf v) v/\Pr H (tvOf v) (pvOf H v))->Vals (us.map tvOf) us/\Prs H (us.map tvOf) (us.map (pvOf H))
 | [],_=>⟨.nil,.nil⟩
 | v :: us,h=>by
  obtain ⟨a,b⟩:=jpn (us:=us) fun v m=>h v (.tail _ m)
  obtain ⟨c,d⟩:=h v (.head _)
  exact ⟨.cons c a,.cons d b⟩
def rSum:List V->Hp->VK->Prop:=fun vs H Q=>∃ (p:Addr) (ns:List Int),vs = [.ref p]/\H p = some (.lst (ns.map V.int))/\Q (.int ns.sum) H
theorem jhh {X:Cx} (hc:X.calm = true):jck X (.builtin "sum") rSum:=by
 intro pins s σ H xs us Q I r h
 obtain ⟨p,ns,rfl,e,q⟩:=h
 obtain ⟨u,rfl,rx⟩:=jic r
 cases rx
 obtain ⟨its,r',pl,_⟩:=I.list (SqL.of e)
 have hI:=jd7 r'
 obtain ⟨zs,hz⟩:=hI.allInts.items
 have hn:=hI.numsOf
 have hl:=pl.isList
 rw [hz] at hl
 refine sum_intListG (I.ok.hd hc) hl fun h' tk t' hk=>?_
 have e2:preSum (numAt zs) zs.size = ns.sum:=by
  rw [preSum_eq,List.take_of_length_le (by simp),<- hn,<- nums_intItems,<- hz]
 rw [e2]
 exact ⟨.int ns.sum,H,I.kept hk,⟨t',rfl⟩,q⟩
def fIsB (f:Bool->Bool):R2:=fun x y H Q=>match x,y with
 | .bl a,.bl b=>Q (.bl (f (a == b))) H
 | _,_=>False
def Itd (d:Addr) (o:Obj) (kvs:List (Key × V)):It :=
 ⟨fun i H=>H d = some (.frz o (.dK kvs))/\i < kvs.length,fun i H x H'=>H' = H/\∃ kv,kvs[i]? = some kv/\x = kV kv.1,fun i H=>H d = some (.frz o (.dK kvs))/\kvs.length <= i⟩
theorem jq7 {k:Key} {v:Value} (h:jkz k v = true):RelV (kV k) v:=by
 rcases jbn h with ⟨i,t,rfl,rfl⟩ | ⟨x,t,rfl,rfl⟩
 ·exact ⟨t,rfl⟩
 ·exact ⟨t,rfl⟩
theorem kv_at {kvs:List (Key × V)} {vs:List (Key × Value)} (r:KV kvs vs) {i:Nat} {k:Key} {x:Value} (e:vs[i]? = some (k,x)):∃ kv,kvs[i]? = some kv/\kv.1 = k:=by
 obtain ⟨kv,e1,e2⟩:=jc2 r e
 exact ⟨kv,e1,e2.1⟩
theorem jni {P:Program} {w:World} {K:PySem.W.Frag} {tg:Expr} (d it:Addr) (o:Obj) (kvs:List (Key × V)) (vs:List (Key × Value)) (ep:Nat) (hne:d ≠ it) (rk:KV kvs vs)
  (hD:∀ h:Heap,h.get? d = some o->h.DictAt (jbs P w) d vs ep):Turn P w K tg (Itd d o kvs) [it] it (fun i h=>h.IsKeyIter it d i vs.length ep) where
 mem:=by simp
 obj:=fun i h st b hb=>by
  have e:b = it:=by simpa using hb
  subst e
  obtain ⟨o,e,c,d⟩:=st
  exact ⟨o,e,fun v z=>by rw [d] at z; cases z⟩
 keep:=fun i h h' st k=>st.at fun o e=>k it (by simp) o e
 item:=by
  intro X hP hw hK hc i pins s σ H E I hf st hg
  subst hP hw hK
  obtain ⟨hq,hx⟩:=hg
  obtain ⟨eo,_⟩:=(show s.heap.get? d = some o/\_ from I.hok _ _ hq)
  have hl:=rk.length
  obtain ⟨⟨k,x⟩,hx'⟩:∃ p,vs[i]? = some p:=⟨vs[i]'(by omega),gE _⟩
  obtain ⟨f0,f1,f2,f3,f4,f5⟩:=hf it (by simp)
  refine wpAny_pyNext_dict_item st (hD _ eo) hx' fun key h' hkey st' sb=>?_
  have I1:Inv X pins σ H { s with heap:=h' }:=I.turned (t':=s.toks) (fun b o hb e=>(sb.2 b hb).trans e) f0 f1 f3 f4 f5
  obtain ⟨kv,e1,e2⟩:=kv_at rk hx'
  obtain ⟨o',e,c,dd⟩:=id st'
  exact ⟨key,rfl,jqk (s:={ s with heap:=h' }) e c dd (by decide) ⟨kV k,H,I1,jq7 hkey,⟨rfl,kv,e1,by rw [e2]⟩,st',fun b hb=>(hf b hb).1⟩⟩
 done:=by
  intro X hP hw hK hc i pins s σ H E I hf st hg
  subst hP hw hK
  obtain ⟨hq,hx⟩:=hg
  obtain ⟨eo,_⟩:=(show s.heap.get? d = some o/\_ from I.hok _ _ hq)
  have hl:=rk.length
  obtain ⟨f0,f1,f2,f3,f4,f5⟩:=hf it (by simp)
  exact wpAny_pyNext_dict_end (I.ok.hd hc) st (hD _ eo) (List.getElem?_eq_none_iff.mpr (by omega)) fun h' eb=>⟨rfl,I.turned (t':=s.toks) (fun b o hb e=>eb b o hb e) f0 f1 f3 f4 f5⟩
 self:=fun _ _ _ _ _ st h=>wpAny_pyIter_keyiter st h
def iDct (tl:TE):TI:=fun σ H R=>tl σ H fun v H1=>∃ d kvs,v = .ref d/\H1 d = some (.dK kvs)/\∀ o,R (Itd d o kvs) (upd H1 d (.frz o (.dK kvs)))
theorem joe {X:Cx} {tg l:Expr} {tl:TE} (hl:PE X l tl):PI X tg l (iDct tl):=by
 intro pins s σ H R I h
 refine thn (hl pins s σ H _ I h) fun v s1 ⟨x,H1,I1,r1,q1⟩=>?_
 obtain ⟨d,kvs,e,hd,q⟩:=q1
 subst e
 cases r1
 obtain ⟨z,lo,vs,rel,dd⟩:=jpa I1.hok hd
 obtain ⟨ep,hat⟩:=dd.dictAt
 obtain ⟨o,es,eo,rest⟩:=id hat
 have I2:Inv X pins σ (upd H1 d (.frz o (.dK kvs))) { s1 with heap:=s1.heap,toks:=s1.toks } :=
  I1.write (x:=d) (e:=d) (by rw [hd]; exact True.intro) (.inl rfl) (fun b u _ q=>q) ⟨o,eo⟩ (show jca X.prog X.w _ s1.heap d (.frz o (.dK kvs)) from ⟨eo,z,lo,vs,rel,dd⟩)
 have I2:Inv X pins σ (upd H1 d (.frz o (.dK kvs))) s1:=I2
 have hdl:d < s1.heap.objs.size:=Heap.lt_size eo
 refine wpAny_pyIter_dict lo hat ?_
 refine ⟨s1.heap.objs.size,[s1.heap.objs.size],_,_,_,rfl,I2.kept (t':=s1.toks) fun b o e=>Heap.get?_push_of_some _ e,jni d _ o kvs vs ep (Nat.ne_of_lt hdl) rel fun h e=>⟨o,es,e,rest⟩,⟨_,Heap.get?_push_size _ rfl,rfl,rfl⟩,fun b hb=>?_,q o⟩
 have e:b = s1.heap.objs.size:=by simpa using hb
 subst e
 exact I2.fpOk (Nat.le_refl _) (I2.hok.fresh (Nat.le_refl _))
def tDUpd (td ty:TE):TE:=fun σ H Q=>td σ H fun x H1=>∃ a,x = .ref a/\IsD H1 a/\ty σ H1 fun y H2=>∃ b kvs more,y = .ref b/\a ≠ b/\H2 a = some (.dK kvs)/\H2 b = some (.dK more)/\kvs.length + more.length <= 1000/\Q .non (upd H2 a (.dK (jcf kvs more)))
theorem js3 {X:Cx} {o e:Expr} {apos cpos:Pos} {td ty:TE} (ho:PE X o td) (he:PE X e ty) (m:M1 X o "update" apos e cpos:=by exact ⟨rfl,rfl,rfl,rfl⟩):PE X (.Call (.Attribute o "update" apos) [e] [] cpos) (tDUpd td ty):=by
 intro pins s σ H Q I h
 refine wpAny_Call_method m.base m.few m.line PySem.F.plainAttrs_dict PySem.F.slot_dict_update PySem.F.type_dict_update (thn (ho pins s σ H _ I h) fun u s1 ⟨x,H1,I1,rx,a,ex,d,q1⟩=>?_)
 subst ex
 obtain rfl:u = Value.ref a:=rx
 obtain ⟨t1,t2,_⟩:=isD_at I1 d
 refine ⟨t1,t2,?_⟩
 rw [m.trees]
 refine Calls.callWith_builtin rfl (Calls.evalArgs_plain (Calls.spliced_cons (thn (he pins s1 σ H1 _ I1 q1) fun iv s2 ⟨y,H2,I2,ry,b,kvs,more,ey,hab,ea,eb,hl,q2⟩=>Calls.spliced_nil ?_)))
 subst ey
 obtain rfl:iv = Value.ref b:=ry
 obtain ⟨z1,lo1,vs1,rel1,dd1⟩:=jpa I2.hok ea
 obtain ⟨z2,lo2,vs2,rel2,dd2⟩:=jpa I2.hok eb
 have h1000:(1000:Nat) <= sizeLine:=by decide
 refine call_meetsIn PySem.F.slot_dict_update dd1.typeIs PySem.F.entry_dict_update (PySem.F.args_dict_update_2 _ _) (meets_dict_update (jbs X.prog X.w) a b hab lo2)
  ⟨vs1,vs2,dd1,dd2,by rw [<- rel1.length,<- rel2.length]; omega,fun h' dd' _ hs=>?_⟩
 have hm:=jdg more kvs
 have he:∃ q,h'.get? a = some q:=let ⟨q,_,_,hq,_⟩:=dd'; ⟨q,hq⟩
 exact ⟨.non,_,ji1 I2 (by rw [ea]; exact True.intro) hs he (jm5 (by omega) lo1 (rel2.merge rel1) dd'),rfl,q2⟩
end L2
namespace So
open PySem PyProof.Rows
section
variable {prog:Program} {w:World} {A:Around} {E:Value->Shared->Prop} {s:Shared}
section
variable {prog:Program} {w:World} {A:Around} {E:Value->Shared->Prop} {s:Shared} {R:Keyed->Int} {κ:SortKind} {a₀:Array Keyed} {pd:Array (Nat × Nat × Nat)}
theorem jjh {n:Nat} (h:n < 64):minRun' n n 0 = n:=by
 show (sortPriv% PySem.Builtin.minRun) n n 0 = n
 cases n with
 | zero=>rfl
 | succ k=>exact if_pos h
theorem jrv (C:Cm prog w A s R κ a₀) {st:SortSt} (b:Bs κ a₀ #[] st) (h1:1 <= a₀.size) (h63:a₀.size < 64) {Q:Unit->SortSt->Prop}
  (h:∀ st',(arrOf st').Perm a₀->failedOf st' = none->Up R (arrOf st') 0 a₀.size->Q () st'):wpS (model prog w) A E s sortRuns' Q st:=by
 have pn:∀ {st:SortSt} {pd:Array (Nat × Nat × Nat)},Bs κ a₀ pd st->(sortPriv% PySem.Builtin.SortState.pending) st = pd:=fun b=>b.pend
 have sz:(sortPriv% PySem.Builtin.SortState.a) st = arrOf st:=rfl
 have mr:=jjh h63
 unfold sortRuns'
 refine wpS_bind (wpS_get ?_)
 rw [sz,b.size]
 refine wpS_bind (wpS_mono (wpS_forRange (I:=fun x (c:Option Unit × Nat) st'=>∃ lo pd,c = (none,lo)/\Bs κ a₀ pd st'/\((x = 0/\lo = 0/\pd = #[]) \/ (lo = a₀.size/\pd.size <= 1/\Up R (arrOf st') 0 a₀.size)))
  (Q:=fun (c:Option Unit × Nat) st'=>∃ pd,c = (none,a₀.size)/\Bs κ a₀ pd st'/\pd.size <= 1/\Up R (arrOf st') 0 a₀.size) ?step ?fin ⟨0,#[],rfl,b,.inl ⟨rfl,rfl,rfl⟩⟩) ?post)
 case fin =>
  rintro c st' ⟨lo,pd,rfl,b',q⟩
  rcases q with ⟨q,_⟩ | ⟨rfl,q1,q2⟩
  ·omega
  ·exact ⟨pd,rfl,b',q1,q2⟩
 case post =>
  rintro c st' ⟨pd,rfl,b',p1,u⟩
  refine wpS_bind (wpS_mono (wpS_forRange (I:=fun x (c:Option Unit × Unit) st'=>∃ pd,c = (none,())/\Bs κ a₀ pd st'/\pd.size <= 1/\Up R (arrOf st') 0 a₀.size)
   (Q:=fun (c:Option Unit × Unit) st'=>∃ pd,c = (none,())/\Bs κ a₀ pd st'/\pd.size <= 1/\Up R (arrOf st') 0 a₀.size) ?s2 (fun _ _ z=>z) ⟨pd,rfl,b',p1,u⟩) ?p2)
  case p2 =>
   rintro c st2 ⟨pd,rfl,b2,q,u2⟩
   exact wpS_pure (h st2 b2.perm b2.ok u2)
  case s2 =>
   rintro x c st2 _ hx ⟨pd,rfl,b2,q,u2⟩
   refine wpS_bind (wpS_get ?_)
   rw [pn b2]
   exact jnc (fun c=>wpS_pure ⟨pd,rfl,b2,q,u2⟩) fun c=>absurd q c
 case step =>
  rintro x c st' _ hx ⟨lo,pd,rfl,b',q⟩
  rcases q with ⟨rfl,rfl,rfl⟩ | ⟨rfl,q1,q2⟩
  ·refine jnc (fun c=>absurd (show 0 ≥ a₀.size from c) (by omega)) fun c=>?_
   refine wpS_bind (jrw (lo:=0) (nrem:=a₀.size - 0) C (by omega) (by omega) b' fun m st2 b2 f2 m1 m2 u2=>?_)
   have push:∀ (n:Nat) (st4:SortSt),Bs κ a₀ #[] st4->Up R (arrOf st4) 0 (0 + n)->n = a₀.size ->
     ∃ lo' pd',((none,0 + n):Option Unit × Nat) = (none,lo')/\Bs κ a₀ pd' (SortSt.mk' (kindOf st4) (arrOf st4) ((pendingOf st4).push (0,n,0)) (gallopOf st4) (failedOf st4))/\((0 + 1 = 0/\lo' = 0/\pd' = #[]) \/ (lo' = a₀.size/\pd'.size <= 1/\Up R (arrOf st4) 0 a₀.size)):=by
    intro n st4 b4 u4 hn
    subst hn
    refine ⟨_,#[].push (0,a₀.size,0),rfl,⟨b4.perm,b4.kind,b4.ok,?_⟩,.inr ⟨by omega,by simp,?_⟩⟩
    ·show (pendingOf st4).push (0,a₀.size,0) = _
     rw [b4.pend]
    ·rwa [Nat.zero_add] at u4
   refine jnc (fun cm=>?_) fun cm=>?_
   case' refine_1 =>
    refine wpS_bind (wpS_lift (wpAny_rule ⟨rfl,?_⟩))
    refine wpS_bind (w_ins (lo:=0) (n:=min (a₀.size - 0) (minRun' a₀.size a₀.size 0)) (ok:=m) C (by omega) (by rw [mr]; omega) b2 u2 fun st3 b3 f3 u3=>?_)
    refine jnc (fun c=>by cases c) fun _=>?_
    have hn:min (a₀.size - 0) (minRun' a₀.size a₀.size 0) = a₀.size:=by rw [mr]; omega
   case' refine_2 =>
    have b3:=b2
    have u3:=u2
    have hn:m = a₀.size:=by
     have cm':¬ m < minRun' a₀.size a₀.size 0:=cm
     rw [mr] at cm'
     omega
   all_goals
    refine wpS_bind (wpS_get ?_)
    rw [pn b3]
    exact wpS_bind (wpS_modify (wpS_pure (push _ _ b3 u3 hn)))
  ·refine jnc (fun c=>wpS_pure ⟨pd,rfl,b',q1,q2⟩) fun c=>absurd (Nat.le_refl _) c
end
section
variable {prog:Program} {w:World} {A:Around} {E:Value->Shared->Prop} {s:Shared}
theorem jq3 {a:Addr} {vs:List Value} {n:Nat} {P:PySem.Fin->Shared->Prop} {R:Keyed->Int} {κ:SortKind} {h₁:Heap} (ho:s.heap.get? a = some (seqObj "list" vs.toArray n)) (h63:vs.length < 64) (hz:vs.length <= sizeLine)
  (hold:∀ b o,h₁.get? b = some o->b ≠ a/\s.heap.get? b = some o) (hk:2 <= vs.length->Asks prog w { s with heap:=h₁ } vs R κ)
  (h:∀ out:Array Value,out.toList.Perm vs->out.toList.Pairwise (fun a b=>R (a,a) <= R (b,b))->P (.done (.ret .none)) { s with heap:=sortedHeap s.heap a vs out }) :
  wpAny (model prog w) A (Builtin.«list.sort» ⟨[.ref a],[]⟩) P E s:=by
 rw [list_sort_plain]
 have ha:a < s.heap.objs.size:=Heap.lt_size ho
 have hz1:vs.toArray.size <= sizeLine:=by rw [List.size_toArray]; exact hz
 refine wpAny_bind (listItems_at ho rfl (wpAny_bind (listUpdate_at ho rfl ?_ hz1 (Nat.zero_le _))))
 obtain ⟨e1,ho1⟩:∃ e1,(s.heap.update a (Obj.mapSeq fun _=>(#[]:Array Value))).get? a = some (seqObj "list" #[] e1):=⟨_,get?_update_seq ho fun _=>#[]⟩
 refine wpAny_bind (seqEpoch_at ho1 rfl (wpAny_bind (wpAny_newTuple (wpAny_bind (wpAny_newList (wpAny_holding ?_) (Nat.zero_le _))) hz)))
 have keep:∀ b o,b ≠ a->s.heap.get? b = some o->(((s.heap.update a (Obj.mapSeq fun _=>(#[]:Array Value))).push (seqObj "tuple" vs.toArray 0)).push (seqObj "list" #[] 0)).get? b = some o:=fun b o hne q =>
  Heap.get?_push_of_some _ (Heap.get?_push_of_some _ (by rw [Heap.get?_update_ne _ _ _ _ hne]; exact q))
 have ho6:(((s.heap.update a (Obj.mapSeq fun _=>(#[]:Array Value))).push (seqObj "tuple" vs.toArray 0)).push (seqObj "list" #[] 0)).get? a = some (seqObj "list" #[] e1):=Heap.get?_push_of_some _ (Heap.get?_push_of_some _ ho1)
 show wpAny (model prog w) A _ P E { s with heap:=((s.heap.update a (Obj.mapSeq fun _=>(#[]:Array Value))).push (seqObj "tuple" vs.toArray 0)).push (seqObj "list" #[] 0) }
 dsimp only
 have fin:∀ st':SortSt,(arrOf st').Perm (pairsOf vs)->Up R (arrOf st') 0 (arrOf st').size->P (.done (.ret .none)) { s with heap:=sortedHeap s.heap a vs ((arrOf st').map (·.2)) }:=fun st' p u=>by
  obtain ⟨z1,z2⟩:=out_of p u
  exact h _ z1 z2
 by_cases c2:vs.toArray.size < 2
 ·rw [if_pos c2,if_pos c2]
  refine wpAny_bind (wpAny_pure ?_)
  rw [StateT.run_pure]
  refine wpAny_bind (wpAny_pure (wpAny_bind (seqEpoch_at ho6 rfl (wpAny_bind (listUpdate_at ho6 rfl ?_ (Nat.zero_le _) (by rw [Array.size_map]; show (pairsOf vs).size <= _; rw [pairsOf_size]; exact Nat.le_succ_of_le hz))))))
  simp only [bne_self_eq_false,Bool.false_eq_true,if_false]
  refine wpAny_pure (fin (SortSt.mk' general' (vs.toArray.zip vs.toArray) #[] 7 none) (Array.Perm.refl _) (Up.one ?_))
  show (pairsOf vs).size <= 1
  rw [pairsOf_size]
  rw [List.size_toArray] at c2
  omega
 ·rw [if_neg c2,if_neg c2]
  rw [List.size_toArray] at c2
  obtain ⟨k1,k2⟩:=hk (by omega) A _ fun b o q=>keep b o (hold b o q).1 (hold b o q).2
  refine wpAny_bind (k1 _ _ ?_)
  have k3:=jrv (E:=E) (st:=SortSt.mk' κ (pairsOf vs) #[] 7 none) (Q:=fun _ st'=>(arrOf st').Perm (pairsOf vs)/\failedOf st' = none/\Up R (arrOf st') 0 (pairsOf vs).size) k2 ⟨Array.Perm.refl _,rfl,rfl,rfl⟩ (by rw [pairsOf_size]; omega) (by rw [pairsOf_size]; exact h63) fun st' a1 a2 a3=>⟨a1,a2,a3⟩
  refine wpAny_bind (wpAny_mono k3 ?_ fun _ _ e=>e)
  rintro ⟨⟨⟩,st'⟩ s' ⟨rfl,hp,hf,hs⟩
  dsimp only
  refine wpAny_bind (seqEpoch_at ho6 rfl (wpAny_bind (listUpdate_at ho6 rfl ?_ (Nat.zero_le _) (by refine Nat.le_trans (Nat.le_of_eq ((Array.size_map ..).trans (hp.size_eq.trans (pairsOf_size _)))) (Nat.le_succ_of_le hz)))))
  rw [hf]
  simp only [bne_self_eq_false,Bool.false_eq_true,if_false]
  rw [<- hp.size_eq] at hs
  exact wpAny_pure (fin st' hp hs)
theorem jmi {l:Addr} {vs:List Value} {Q:Value->Shared->Prop} {R:Keyed->Int} {κ:SortKind} (hl:s.heap.IsList l vs.toArray) (h63:vs.length < 64) (hz:vs.length <= sizeLine) (hk:2 <= vs.length->Asks prog w s vs R κ)
  (h:∀ out:Array Value,out.toList.Perm vs->out.toList.Pairwise (fun a b=>R (a,a) <= R (b,b))->Q (.ref (s.heap.objs.size + 1)) { s with heap:=sortedAll s.heap vs out }) :
  wpAny (model prog w) A (call (.builtin "sorted") [.ref l]) Q E s:=by
 refine Calls.call_function_entry kind_sorted plain_sorted entry_sorted (args_sorted1 _) ?_
 unfold Builtin.«sorted»
 refine wpAny_bind (m:=checkCount "sorted" 1 1 _) (wpAny_pure (wpAny_bind (collect_list hl (wpAny_bind (wpAny_newList ?_ hz)) hz)))
 have hsz:((s.heap.push (seqObj "list" #[] 0)).update s.heap.objs.size (Obj.mapSeq (· ++ vs.toArray))).objs.size = s.heap.objs.size + 1:=by rw [Heap.size_update,size_push']
 generalize hh:((s.heap.push (seqObj "list" #[] 0)).update s.heap.objs.size (Obj.mapSeq (· ++ vs.toArray))).push (seqObj "list" vs.toArray 0) = h2
 have hoL:h2.get? (s.heap.objs.size + 1) = some (seqObj "list" vs.toArray 0):=by rw [<- hh,<- hsz]; exact Heap.get?_push_size _ rfl
 have keep:∀ b o,s.heap.get? b = some o->b ≠ s.heap.objs.size + 1/\h2.get? b = some o:=fun b o q=>by
  have hlt:b < s.heap.objs.size:=Heap.lt_size q
  refine ⟨Nat.ne_of_lt (Nat.lt_succ_of_lt hlt),?_⟩
  rw [<- hh]
  exact Heap.get?_push_of_some _ (by rw [Heap.get?_update_ne _ _ _ _ (Nat.ne_of_lt hlt)]; exact Heap.get?_push_of_some _ q)
 show wpAny _ _ _ _ _ { s with heap:=h2 }
 rw [hsz]
 refine wpAny_bind (wpAny_holding (wpAny_call_entry slot_list_sort ⟨_,hoL,rfl⟩ entry_list_sort (jq3 (s:={ s with heap:=h2 }) (h₁:=s.heap) hoL h63 hz keep hk fun out p1 p2=>⟨_,rfl,?_⟩) (args_list_sort _)))
 refine wpAny_pure ⟨_,rfl,?_⟩
 have z:=h out p1 p2
 unfold sortedAll at z
 rw [hh] at z
 exact z
end
end
end So
namespace L2
open PySem PySem.Spec PyProof.Rows
def jo5:List V->Hp->VK->Prop:=fun vs H Q=>∃ (p:Addr) (xs:List V) (ps:List (Int × Int)) (B:Int),vs = [.ref p]/\H p = some (.lst xs)/\Prs H xs ps/\xs.length < 64/\(∀ q ∈ ps,0 <= q.2/\q.2 < B) /\
 ∀ (l:Addr) (ys:List V) (qs:List (Int × Int)),H l = none->Prs H ys qs->qs.Perm ps->qs.Pairwise jee->Q (.ref l) (upd H l (.lst ys))
theorem jd9 {X:Cx}:jck X (.builtin "sorted") jo5:=by
 intro pins s σ H xs us Q I r h
 obtain ⟨p,xs,ps,B,rfl,e,pp,hz,hB,q⟩:=h
 obtain ⟨u,rfl,rx⟩:=jic r
 cases rx
 obtain ⟨its,r',pl,_⟩:=I.list (SqL.of e)
 have hlen:=r'.length
 obtain ⟨m1,m2⟩:=jne r' pp
 have hz2:(64:Nat) <= sizeLine:=by decide
 have hpv:∀ v ∈ its,pvOf H v ∈ ps:=fun v m=>by rw [<- m1]; exact List.mem_map_of_mem m
 refine So.jmi (R:=fun k=>(pvOf H k.1).1 * B + (pvOf H k.1).2) pl.isList (by omega) (by omega) (fun h2=>So.jn6 (B:=B) (fun v m=>?_) h2) fun out o1 o2=>?_
 ·obtain ⟨a,ea,eh⟩:=(m2 v m).2
  have ev:v = .ref a:=by
   have z:=(m2 v m).1
   rw [ea] at z
   exact z
  obtain ⟨_,is2,rv,ob,eo,ec,n,en⟩:=I.hok _ _ eh
  match is2,rv with
  | _,.cons ⟨t1,e1⟩ (.cons ⟨t2,e2⟩ .nil) =>
   subst e1 e2
   exact ⟨(pvOf H v).1,(pvOf H v).2,⟨a,ob,t1,t2,n,ev,eo,ec,en⟩,rfl,hB _ (hpv v m)⟩
 ·obtain ⟨c,hc⟩:=sortedAll_at s.heap its out
  obtain ⟨b1,b2⟩:=jpn (H:=H) (us:=out.toList) fun v m=>m2 v (o1.mem_iff.mp m)
  have hol:=o1.length_eq
  refine ⟨.ref (s.heap.objs.size + 1),_,I.laid (t':=s.toks) (fun _ _=>sortedAll_old) (Nat.le_succ _) (show jca X.prog X.w _ _ _ (.lst (out.toList.map tvOf)) from ⟨?_,out.toList,c,b1,?_⟩),rfl,q _ _ (out.toList.map (pvOf H)) (I.hok.fresh (Nat.le_succ _)) b2 ?_ ?_⟩
  ·rw [List.length_map]; omega
  ·rw [hc]
  ·have z:=o1.map (pvOf H)
   rwa [m1] at z
  ·rw [List.pairwise_map]
   refine List.Pairwise.imp_of_mem ?_ o2
   intro u v mu mv huv
   have g1:=hB _ (hpv u (o1.mem_iff.mp mu))
   have g2:=hB _ (hpv v (o1.mem_iff.mp mv))
   have z:=So.jos (x:=(pvOf H v).1) (x':=(pvOf H u).1) g2.1 g2.2 g1.1 g1.2
   have z2:¬ ((pvOf H v).1 < (pvOf H u).1 \/ ((pvOf H v).1 = (pvOf H u).1/\(pvOf H v).2 < (pvOf H u).2)):=fun w=>by
    have:=z.mpr w
    dsimp only at huv
    omega
   unfold jee
   omega
end L2
namespace My
open PySem L2
theorem sl0:(0 <= sizeLine) = True:=eq_true (by decide)
theorem sl1:(1 <= sizeLine) = True:=eq_true (by decide)
theorem sl2:(2 <= sizeLine) = True:=eq_true (by decide)
theorem sl3:(3 <= sizeLine) = True:=eq_true (by decide)
theorem sl4:(4 <= sizeLine) = True:=eq_true (by decide)
end My
local macro_rules | `(tactic| walk_at "SC") => `(tactic| exact ⟨rfl,rfl,rfl,by decide +kernel,rfl,by decide +kernel,by decide +kernel⟩)
local macro_rules | `(tactic| walk_at "RD") => `(tactic| try simp only [L2.fIsB, L2.tSeq, L2.jme, L2.jmf, L2.tRet, L2.jnj, L2.tIfS, L2.tAsg, L2.jeg, L2.fAug, L2.tOp, L2.tUn, L2.tC, L2.fVar, L2.fI, L2.fIC, L2.fNeg, L2.fEq, L2.fNe, L2.fIsN, L2.jmy, L2.fAnd, L2.fOr, L2.fNot, L2.fB, L2.tNot, L2.tAnd, L2.tOr, L2.jh2, L2.fIx, L2.fLen, L2.je6, L2.fMin, L2.fMax, L2.fInL, L2.fSlL, L2.tSl, L2.jn0, L2.jeo, L2.je7, L2.fBM, L2.jl2, L2.gSub, L2.jl5, L2.jg2, L2.jl4, L2.jp8, L2.jjr, L2.jgr, L2.jgo, L2.fCat, L2.jjs, L2.fBM0, L2.fSlT, L2.jl3, L2.tCBK, L2.fDIn, L2.jn1, L2.fIsi, L2.jei, L2.jg3, L2.fLtT, L2.jmg, L2.tCB, L2.jf1, L2.tNil, L2.tTup, L2.tLst, L2.tIf, L2.jmd, L2.Kd.nm, L2.jer, List.map_cons, List.map_nil, List.length_cons, List.length_nil, Nat.reduceAdd, Nat.reduceSub, List.replicate_succ, List.replicate_zero, List.getElem?_cons_zero, List.getElem?_cons_succ, List.set_cons_zero, List.set_cons_succ, List.append_nil, List.nil_append, List.cons_append, eq_self, true_and, and_true, if_true, Bool.false_eq_true, if_false, Bool.not_true, Bool.not_false, id_eq, My.sl0, My.sl1, My.sl2, My.sl3, My.sl4])
local macro_rules | `(tactic| simp_arith [$args,*]) => `(tactic| try simp only [L2.fIsB, L2.tSeq, L2.jme, L2.jmf, L2.tRet, L2.jnj, L2.tIfS, L2.tAsg, L2.jeg, L2.fAug, L2.tOp, L2.tUn, L2.tC, L2.fVar, L2.fI, L2.fIC, L2.fNeg, L2.fEq, L2.fNe, L2.fIsN, L2.jmy, L2.fAnd, L2.fOr, L2.fNot, L2.fB, L2.tNot, L2.tAnd, L2.tOr, L2.jh2, L2.fIx, L2.fLen, L2.je6, L2.fMin, L2.fMax, L2.fInL, L2.fSlL, L2.tSl, L2.jn0, L2.jeo, L2.je7, L2.fBM, L2.jl2, L2.gSub, L2.jl5, L2.jg2, L2.jl4, L2.jp8, L2.jjr, L2.jgr, L2.jgo, L2.fCat, L2.jjs, L2.fBM0, L2.fSlT, L2.jl3, L2.tCBK, L2.fDIn, L2.jn1, L2.fIsi, L2.jei, L2.jg3, L2.fLtT, L2.jmg, L2.tCB, L2.jf1, L2.tNil, L2.tTup, L2.tLst, L2.tIf, L2.jmd, L2.Kd.nm, L2.jer, List.map_cons, List.map_nil, List.length_cons, List.length_nil, Nat.reduceAdd, Nat.reduceSub, List.replicate_succ, List.replicate_zero, List.getElem?_cons_zero, List.getElem?_cons_succ, List.set_cons_zero, List.set_cons_succ, List.append_nil, List.nil_append, List.cons_append, eq_self, true_and, and_true, if_true, Bool.false_eq_true, if_false, Bool.not_true, Bool.not_false, id_eq, My.sl0, My.sl1, My.sl2, My.sl3, My.sl4, $args,*])
namespace My
open PySem L2
theorem szl {n:Nat} (h:n <= 1000):n <= sizeLine:=Nat.le_trans h (by decide)
theorem szl' {n:Nat} (h:n <= 1000):n < sizeLine:=Nat.lt_of_le_of_lt h (by decide)
def top (i:Nat):Stmt:=PySem.Challenge.pw_touchall_k41_sets_go_back.main.body.getD i (.Pass ⟨0,0,0,0⟩)
structure DefAt (K:PySem.W.Frag) (mg:Str->Option Value) (x:Str) (st:Stmt) (ps:List Str) (f:Addr) (fd:FuncData):Prop where
 F:Fun K x x st f fd
 b:jld K fd ps []
 m:mg x = some (.ref f)
structure Blt (mg:Str->Option Value):Prop where
 len:mg "len" = none
 isinstance:mg "isinstance" = none
 all:mg "all" = none
 min:mg "min" = none
 list:mg "list" = none
 dict:mg "dict" = none
 int:mg "int" = none
 bool:mg "bool" = none
 str:mg "str" = none
 tuple:mg "tuple" = none
 range:mg "range" = none
 enumerate:mg "enumerate" = none
 zip:mg "zip" = none
 max:mg "max" = none
 any:mg "any" = none
 sum:mg "sum" = none
 sorted:mg "sorted" = none
 set:mg "set" = none
structure Cst (mg:Str->Option Value) (t1 t2 t3 t4:Tok):Prop where
 MOST_PLACES:mg "MOST_PLACES" = some (.int 40 t1)
 MOST_TIES:mg "MOST_TIES" = some (.int 120 t2)
 LAST_PLACE:mg "LAST_PLACE" = some (.int 999 t3)
 MOST_PRICE:mg "MOST_PRICE" = some (.int 1000000000000 t4)
section
variable {P:Program} {w:World} {K:PySem.W.Frag} {mg:Str->Option Value} {base:Heap} {c1 c2 c3 c4:Tok}
theorem at0 {α:Type} {x:α} {r:List α}:atI (x :: r) 0 = some x:=by
 have e:atI (x :: r) ((0:Nat):Int) = some x:=jcp rfl
 exact e
theorem at1 {α:Type} {x y:α} {r:List α}:atI (x :: y :: r) 1 = some y:=by
 have e:atI (x :: y :: r) ((1:Nat):Int) = some y:=jcp rfl
 exact e
theorem at2 {α:Type} {x y z:α} {r:List α}:atI (x :: y :: z :: r) 2 = some z:=by
 have e:atI (x :: y :: z :: r) ((2:Nat):Int) = some z:=jcp rfl
 exact e
def jlg:Kd->Bool
 | .int=>true
 | _=>false
def jk9:Sp:=fun vs H Q _=>∃ x k,vs = [x]/\kd H x = some k/\Q (.bl (jlg k)) H
def jfj:Sp:=fun vs H Q _=>∃ a xs m,vs = [.ref a,.int m]/\H a = some (.tup xs)/\Q (.bl (decide ((xs.length:Int) = m))) H
def jes:Sp:=fun vs H Q _=>∃ a xs m,vs = [.ref a,.int m]/\H a = some (.lst xs)/\Q (.bl (decide ((xs.length:Int) <= m))) H
def jno:Sp:=fun vs H Q _=>∃ x p,vs = [x]/\Pr H x p/\Q (.bl true) H
def je8:Sp:=fun vs H Q _=>∃ x p l s,vs = [x,.int l,.int s]/\Pr H x p/\(l < p.1/\p.1 <= 999/\1 <= p.2/\p.2 <= 1000000000000 - s)/\Q (.bl true) H
def hasK (kvs:List (Key × V)) (n:Int):Bool:=(valV kvs (Sum.inl n:Key)).isSome
def jfk:Sp:=fun vs H Q _=>∃ x p y q d kvs,vs = [x,y,.ref d]/\Pr H x p/\Pr H y q/\H d = some (.dK kvs)/\(HT.lexLt [q.1,q.2] [p.1,p.2] = true/\p.1 < p.2/\hasK kvs p.1 = true/\hasK kvs p.2 = true)/\Q (.bl true) H
theorem jkp (B:Blt mg) (D:DefAt K mg "is_whole" (top 15) ["thing"] f fd):FnOk P w K mg base CX0 1 f fd ["thing"] jk9:=by
 have sc:FnScope ["thing"] ["thing"] (jab (top 15)):=by walk_at "SC"
 refine D.F.ok sc (fun vs H Q E h=>?_) (fun cdv A outer s H vs Q E hr h=>?_)
 ·obtain ⟨x,k,rfl,_⟩:=h
  rfl
 obtain ⟨x,k,rfl,ek,h⟩:=h
 have hu:=jb8 hr
 have hu0:_ < PySem.cLine:=Nat.lt_of_succ_lt hu
 refine ⟨_,(ja7 (jah (jcq (jaf (jit .int) rfl B.isinstance PyProof.Rows.boot_isinstance (ja0 (qv 0) (ja0 (jdr (v:=.ty "int") rfl B.int PyProof.Rows.boot_int rfl) ja3))) (jcd (q_not (jaf (jit .bl) rfl B.isinstance PyProof.Rows.boot_isinstance (ja0 (qv 0) (ja0 (jdr (v:=.ty "bool") rfl B.bool PyProof.Rows.boot_bool rfl) ja3)))))))),?_⟩
 simp_arith [ek]
 cases k <;> simpa only [isi,jlg,if_true,if_false,Bool.false_eq_true,Bool.not_true,Bool.not_false] using h
theorem jgf (B:Blt mg) (D:DefAt K mg "is_tuple_of" (top 16) ["thing","many"] f fd):FnOk P w K mg base CX0 1 f fd ["thing","many"] jfj:=by
 have sc:FnScope ["thing","many"] ["thing","many"] (jab (top 16)):=by walk_at "SC"
 refine D.F.ok sc (fun vs H Q E h=>?_) (fun cdv A outer s H vs Q E hr h=>?_)
 ·obtain ⟨a,xs,m,rfl,_⟩:=h
  rfl
 obtain ⟨a,xs,m,rfl,ea,h⟩:=h
 have hu:=jb8 hr
 have hu0:_ < PySem.cLine:=Nat.lt_of_succ_lt hu
 refine ⟨_,(ja7 (jah (jcq (jaf (jit .tup) rfl B.isinstance PyProof.Rows.boot_isinstance (ja0 (qv 0) (ja0 (jdr (v:=.ty "tuple") rfl B.tuple PyProof.Rows.boot_tuple rfl) ja3))) (jcd (jb0 q_eq (jaf jdl rfl B.len PySem.boot_len (ja0 (qv 0) ja3)) (qv 1) (jag _)))))),?_⟩
 simp_arith [kd,ea,jai,isi]
 exact h
theorem jf5 (B:Blt mg) (D:DefAt K mg "is_list_up_to" (top 18) ["thing","most"] f fd):FnOk P w K mg base CX0 1 f fd ["thing","most"] jes:=by
 have sc:FnScope ["thing","most"] ["thing","most"] (jab (top 18)):=by walk_at "SC"
 refine D.F.ok sc (fun vs H Q E h=>?_) (fun cdv A outer s H vs Q E hr h=>?_)
 ·obtain ⟨a,xs,m,rfl,_⟩:=h
  rfl
 obtain ⟨a,xs,m,rfl,ea,h⟩:=h
 have hu:=jb8 hr
 have hu0:_ < PySem.cLine:=Nat.lt_of_succ_lt hu
 refine ⟨_,(ja7 (jah (jcq (jaf (jit .lst) rfl B.isinstance PyProof.Rows.boot_isinstance (ja0 (qv 0) (ja0 (jdr (v:=.ty "list") rfl B.list PyProof.Rows.boot_list rfl) ja3))) (jcd (jb0 q_le (jaf jdl rfl B.len PySem.boot_len (ja0 (qv 0) ja3)) (qv 1) (jag _)))))),?_⟩
 simp_arith [kd,ea,jai,isi]
 exact h
theorem je0 (B:Blt mg) (D:DefAt K mg "is_pair_of_wholes" (top 17) ["thing"] f fd) (Dqk:DefAt K mg "is_tuple_of" (top 16) ["thing","many"] fqk dqk) (Gqk:FnOk P w K mg base CX0 1 fqk dqk ["thing","many"] jfj) (Dqf:DefAt K mg "is_whole" (top 15) ["thing"] fqf dqf) (Gqf:FnOk P w K mg base CX0 1 fqf dqf ["thing"] jk9):FnOk P w K mg base CX0 2 f fd ["thing"] jno:=by
 have sc:FnScope ["thing"] ["thing"] (jab (top 17)):=by walk_at "SC"
 refine D.F.ok sc (fun vs H Q E h=>?_) (fun cdv A outer s H vs Q E hr h=>?_)
 ·obtain ⟨x,p,rfl,_⟩:=h
  rfl
 obtain ⟨x,p,rfl,⟨a,rfl,ea⟩,h⟩:=h
 have hu:=jb8 hr
 have hu0:_ < PySem.cLine:=Nat.lt_of_succ_lt hu
 refine ⟨_,(ja7 (jah (jcq (ja8 Gqk (hr.mono (by decide)) rfl Dqk.m Dqk.F.kp Dqk.b .nil jan (ja0 (qv 0) (ja0 ja5 ja3))) (jcq (ja8 Gqf (hr.mono (by decide)) rfl Dqf.m Dqf.F.kp Dqf.b .nil jan (ja0 (jam q_ix (qv 0) ja5 (fun _ _=>rfl)) ja3)) (jcd (ja8 Gqf (hr.mono (by decide)) rfl Dqf.m Dqf.F.kp Dqf.b .nil jan (ja0 (jam q_ix (qv 0) ja5 (fun _ _=>rfl)) ja3))))))),?_⟩
 simp_arith [jai,ea,at0,at1]
 refine ⟨a,_,2,rfl,ea,?_⟩
 simp_arith [jai,ea,at0,at1,Int.cast_ofNat_Int,decide_true]
 refine ⟨_,.int,rfl,rfl,?_⟩
 simp_arith [jlg,jai,ea,at0,at1]
 exact ⟨_,.int,rfl,rfl,h⟩
theorem jft (B:Blt mg) (C:Cst mg c1 c2 c3 c4) (D:DefAt K mg "place_stands" (top 25) ["thing","last","spent"] f fd) (Dqi:DefAt K mg "is_pair_of_wholes" (top 17) ["thing"] fqi dqi) (Gqi:FnOk P w K mg base CX0 2 fqi dqi ["thing"] jno):FnOk P w K mg base CX0 3 f fd ["thing","last","spent"] je8:=by
 have sc:FnScope ["thing","last","spent"] ["thing","last","spent"] (jab (top 25)):=by walk_at "SC"
 refine D.F.ok sc (fun vs H Q E h=>?_) (fun cdv A outer s H vs Q E hr h=>?_)
 ·obtain ⟨x,p,l,s,rfl,_⟩:=h
  rfl
 obtain ⟨x,p,l,sp,rfl,hp,⟨b1,b2,b3,b4⟩,h⟩:=h
 obtain ⟨a,rfl,ea⟩:=id hp
 have hu:=jb8 hr
 have hu0:_ < PySem.cLine:=Nat.lt_of_succ_lt hu
 refine ⟨_,(ja4 (jb3 (jcw (jc8 (ja8 Gqi (hr.mono (by decide)) rfl Dqi.m Dqi.F.kp Dqi.b .nil jan (ja0 (qv 0) ja3)))) (ja7 (jah jdd)) jaj) (ja7 (jah (jcq (jkd q_lt q_le (qv 1) (jam q_ix (qv 0) ja5 (fun _ _=>rfl)) (jhm (v:=.int 999) rfl C.LAST_PLACE ⟨_,rfl⟩)) (jcd (jkd q_le q_le ja5 (jam q_ix (qv 0) ja5 (fun _ _=>rfl)) (jay jdp (jhm (v:=.int 1000000000000) rfl C.MOST_PRICE ⟨_,rfl⟩) (qv 2)))))))),?_⟩
 walk_at "RD"
 refine ⟨_,p,rfl,hp,?_⟩
 simp_arith [jai,ea,at0,at1,decide_eq_true b1,decide_eq_true b2,decide_eq_true b3,decide_eq_true b4]
 exact h
theorem jho (B:Blt mg) (D:DefAt K mg "tie_stands" (top 26) ["thing","last","prices"] f fd) (Dqi:DefAt K mg "is_pair_of_wholes" (top 17) ["thing"] fqi dqi) (Gqi:FnOk P w K mg base CX0 2 fqi dqi ["thing"] jno):FnOk P w K mg base CX0 3 f fd ["thing","last","prices"] jfk:=by
 have sc:FnScope ["thing","last","prices"] ["thing","last","prices"] (jab (top 26)):=by walk_at "SC"
 refine D.F.ok sc (fun vs H Q E h=>?_) (fun cdv A outer s H vs Q E hr h=>?_)
 ·obtain ⟨x,p,y,q,d,kvs,rfl,_⟩:=h
  rfl
 obtain ⟨x,p,y,q,d,kvs,rfl,hp,hq,hd,⟨b1,b2,b3,b4⟩,h⟩:=h
 obtain ⟨a,rfl,ea⟩:=id hp
 obtain ⟨b,rfl,eb⟩:=id hq
 unfold hasK at b3 b4
 have hu:=jb8 hr
 have hu0:_ < PySem.cLine:=Nat.lt_of_succ_lt hu
 refine ⟨_,(ja4 (jb3 (jcw (jc8 (ja8 Gqi (hr.mono (by decide)) rfl Dqi.m Dqi.F.kp Dqi.b .nil jan (ja0 (qv 0) ja3)))) (ja7 (jah jdd)) jaj) (ja7 (jah (jcq (jb0 (q_ltT hu0) (qv 1) (qv 0) (jag _)) (jcq (jb0 q_lt (jam q_ix (qv 0) ja5 (fun _ _=>rfl)) (jam q_ix (qv 0) ja5 (fun _ _=>rfl)) (jag _)) (jcq (jof (jmm hu (jam q_ix (qv 0) ja5 (fun _ _=>rfl)) (qv 2))) (jcd (jof (jmm hu (jam q_ix (qv 0) ja5 (fun _ _=>rfl)) (qv 2)))))))))),?_⟩
 walk_at "RD"
 refine ⟨_,p,rfl,hp,?_⟩
 simp_arith [jai,ea,eb,hd,at0,at1,b1,decide_eq_true b2,b3,b4]
 exact h
def PlOk:Int->Int->List (Int × Int)->Prop
 | _,_,[]=>True
 | l,s,p :: r=>(l < p.1/\p.1 <= 999/\1 <= p.2/\p.2 <= 1000000000000 - s)/\PlOk p.1 (s + p.2) r
def jav (ps:List (Int × Int)):List (Key × V):=ps.map fun p=>(Sum.inl p.1,V.int p.2)
def TiOk (kvs:List (Key × V)):Int × Int->List (Int × Int)->Prop
 | _,[]=>True
 | q,p :: r=>(HT.lexLt [q.1,q.2] [p.1,p.2] = true/\p.1 < p.2/\hasK kvs p.1 = true/\hasK kvs p.2 = true)/\TiOk kvs p r
structure WebOk (ps ts:List (Int × Int)):Prop where
 pl:ps.length <= 40
 p:PlOk (-1) 0 ps
 tl:ts.length <= 120
 t:TiOk (jav ps) (-1,-1) ts
def jbg (H:Hp) (v:V) (ps ts:List (Int × Int)):Prop :=
 ∃ u pa ta xs ys,v = .ref u/\H u = some (.tup [.ref pa,.ref ta])/\H pa = some (.lst xs)/\H ta = some (.lst ys)/\Prs H xs ps/\Prs H ys ts
theorem jbg.same {H H':Hp} {v:V} {ps ts:List (Int × Int)} (h:jbg H v ps ts) (s:Same H H'):jbg H' v ps ts:=by
 obtain ⟨u,pa,ta,xs,ys,e,h1,h2,h3,h4,h5⟩:=h
 exact ⟨u,pa,ta,xs,ys,e,s _ _ h1,s _ _ h2,s _ _ h3,Prs.same s h4,Prs.same s h5⟩
theorem PlOk.gt:∀ {ps:List (Int × Int)} {l s:Int},PlOk l s ps->∀ p ∈ ps,l < p.1
 | [],_,_,_,_,h=>by cases h
 | q :: r,l,s,h,p,hp=>by
  rcases List.mem_cons.mp hp with e | hp
  ·rw [e]; exact h.1.1
  ·have:=PlOk.gt h.2 p hp
   have:=h.1.1
   omega
theorem PlOk.nodup:∀ {ps:List (Int × Int)} {l s:Int},PlOk l s ps->(ps.map (·.1)).Nodup
 | [],_,_,_=>List.nodup_nil
 | q :: r,l,s,h=>by
  rw [List.map_cons]
  refine List.nodup_cons.mpr ⟨fun hm=>?_,PlOk.nodup h.2⟩
  obtain ⟨p,hp,e⟩:=List.mem_map.mp hm
  have:=PlOk.gt h.2 p hp
  omega
theorem jcs {ps:List (Int × Int)} (h:(ps.map (·.1)).Nodup):((jav ps).map (·.1)).Nodup:=by
 unfold jav
 rw [List.map_map]
 have e:((fun (x:Key × V)=>x.1) ∘ fun (p:Int × Int)=>((Sum.inl p.1:Key),V.int p.2)) = (fun (n:Int)=>(Sum.inl n:Key)) ∘ fun (p:Int × Int)=>p.1:=rfl
 rw [e,<- List.map_map]
 unfold List.Nodup at h ⊢
 rw [List.pairwise_map]
 exact h.imp fun q z=>q (Sum.inl.inj z)
theorem jde {H:Hp}:∀ {xs:List V} {ps:List (Int × Int)},Prs H xs ps->Paired (PairAt H) xs (jav ps)
 | _,_,.nil=>.nil
 | _,_,.cons r t=>by
  obtain ⟨a,e,q⟩:=r
  exact .cons ⟨a,e,q⟩ (jde t)
theorem jh6:∀ {ps:List (Int × Int)} {p:Int × Int},(ps.map (·.1)).Nodup->p ∈ ps->valV (jav ps) (Sum.inl p.1:Key) = some (.int p.2)
 | [],_,_,h=>by cases h
 | q :: r,p,hn,h=>by
  rw [List.map_cons] at hn
  unfold jav valV
  rw [List.map_cons,List.find?_cons]
  rcases List.mem_cons.mp h with e | h
  ·rw [e]
   simp
  ·have hne:q.1 ≠ p.1:=fun z=>(List.nodup_cons.mp hn).1 (by rw [z]; exact List.mem_map_of_mem h)
   have hd:decide ((Sum.inl q.1:Key) = Sum.inl p.1) = false:=decide_eq_false fun z=>hne (Sum.inl.inj z)
   dsimp only
   rw [hd]
   exact jh6 (List.nodup_cons.mp hn).2 h
theorem jsg {ps:List (Int × Int)} {p:Int × Int} (hn:(ps.map (·.1)).Nodup) (h:p ∈ ps):hasK (jav ps) p.1 = true:=by
 unfold hasK
 rw [jh6 hn h]
 rfl
def jex:Sp:=fun vs H Q _=>∃ a xs ps,vs = [.ref a]/\H a = some (.lst xs)/\Prs H xs ps/\ps.length <= 40/\PlOk (-1) 0 ps/\∀ H',Same H H'->Q .non H'
def jgp:Sp:=fun vs H Q _=>∃ a d xs ts kvs,vs = [.ref a,.ref d]/\H a = some (.lst xs)/\H d = some (.dK kvs)/\Prs H xs ts/\ts.length <= 120/\TiOk kvs (-1,-1) ts/\∀ H',Same H H'->Q .non H'
def jfl:Sp:=fun vs H Q _=>∃ v ps ts,vs = [v]/\jbg H v ps ts/\WebOk ps ts/\∀ H',Same H H'->Q .non H'
theorem jet (B:Blt mg) (C:Cst mg c1 c2 c3 c4) (D:DefAt K mg "look_at_places" (top 27) ["places"] f fd) (Dqh:DefAt K mg "is_list_up_to" (top 18) ["thing","most"] fqh dqh) (Gqh:FnOk P w K mg base CX0 1 fqh dqh ["thing","most"] jes) (Dzs:DefAt K mg "place_stands" (top 25) ["thing","last","spent"] fzs dzs) (Gzs:FnOk P w K mg base CX0 3 fzs dzs ["thing","last","spent"] je8):FnOk P w K mg base CX0 4 f fd ["places"] jex:=by
 have sc:FnScope ["places","last","spent","number","thing"] ["places"] (jab (top 27)):=by walk_at "SC"
 refine D.F.ok sc (fun vs H Q E h=>?_) (fun cdv A outer s H vs Q E hr h=>?_)
 ·obtain ⟨a,xs,ps,rfl,_⟩:=h
  rfl
 obtain ⟨a,xs,ps,rfl,ea,hp,hl,ok,h⟩:=h
 have hlx:xs.length = ps.length:=Paired.length hp
 have hu:=jb8 hr
 have hu0:_ < PySem.cLine:=Nat.lt_of_succ_lt hu
 refine ⟨_,(ja4 (jb3 (jcw (jc8 (ja8 Gqh (hr.mono (by decide)) rfl Dqh.m Dqh.F.kp Dqh.b .nil jan (ja0 (qv 0) (ja0 (jhm (v:=.int 40) rfl C.MOST_PLACES ⟨_,rfl⟩) ja3))))) (ja7 jdc) jaj) (ja4 (jak (i:=1) sc.nd rfl (Or.inl rfl) (jfr jfp ja5)) (ja4 (jak (i:=2) sc.nd rfl (Or.inl rfl) ja5) (ja7 (jc5 PassesOwn.never rfl (jod rfl B.enumerate (ja0 (qv 0) ja3)) (jc9 (n:=2) rfl (jat (jad (i:=3) sc.nd rfl (Or.inl rfl)) (jat (jad (i:=4) sc.nd rfl (Or.inl rfl)) jbr))) (ja4 (jb3 (jcw (jc8 (ja8 Gzs (hr.mono (by decide)) rfl Dzs.m Dzs.F.kp Dzs.b .nil jan (ja0 (qv 4) (ja0 (qv 1) (ja0 (qv 2) ja3)))))) (ja7 jdc) jaj) (ja4 (jak (i:=1) sc.nd rfl (Or.inl rfl) (jam q_ix (qv 4) ja5 (fun _ _=>rfl))) (ja7 (qs_aug (i:=2) sc.nd rfl (Or.inl rfl) (jam q_ix (qv 4) ja5 (fun _ _=>rfl)) q_iadd))))))))),?_⟩
 walk_at "RD"
 refine ⟨a,xs,40,rfl,ea,?_⟩
 rw [decide_eq_true (show (xs.length:Int) <= 40 by omega)]
 walk_at "RD"
 refine ⟨a,rfl,⟨xs,SqL.of ea⟩,jlx (K:=K) (a:=a) (xs:=xs) (fun i σ H1=>∃ l sp nb th,σ = [some (.ref a),some (.int l),some (.int sp),nb,th]/\Same H H1/\PlOk l sp (ps.drop i)) ⟨-1,0,none,none,rfl,Same.refl _,ok⟩ (fun i σ H1 _ ⟨_,_,_,_,_,s1,_⟩=>SqL.of (s1 _ _ ea)) ?_ ?_⟩
 ·rintro i x σ H1 t hi ⟨l,sp,nb,th,rfl,s1,ok1⟩ ht
  obtain ⟨p,hpi,px⟩:=jas hp hi
  rw [jhz hpi] at ok1
  have s2:Same H (upd H1 t (.tup [.int i,x])):=s1.trans (ja2 ht _)
  have px2:=px.same s2
  obtain ⟨u,rfl,eu⟩:=id px2
  simp_arith [ja1]
  refine ⟨_,p,l,sp,rfl,px2,ok1.1,?_⟩
  simp_arith [jai,eu,at0,at1]
  exact ⟨_,_,_,_,rfl,s2,ok1.2⟩
 ·rintro σ H1 ⟨l,sp,nb,th,rfl,s1,_⟩
  exact h H1 s1
theorem jfu (B:Blt mg) (C:Cst mg c1 c2 c3 c4) (D:DefAt K mg "look_at_ties" (top 28) ["ties","prices"] f fd) (Dqh:DefAt K mg "is_list_up_to" (top 18) ["thing","most"] fqh dqh) (Gqh:FnOk P w K mg base CX0 1 fqh dqh ["thing","most"] jes) (Dzx:DefAt K mg "tie_stands" (top 26) ["thing","last","prices"] fzx dzx) (Gzx:FnOk P w K mg base CX0 3 fzx dzx ["thing","last","prices"] jfk):FnOk P w K mg base CX0 4 f fd ["ties","prices"] jgp:=by
 have sc:FnScope ["ties","prices","last","number","thing"] ["ties","prices"] (jab (top 28)):=by walk_at "SC"
 refine D.F.ok sc (fun vs H Q E h=>?_) (fun cdv A outer s H vs Q E hr h=>?_)
 ·obtain ⟨a,d,xs,ts,kvs,rfl,_⟩:=h
  rfl
 obtain ⟨a,d,xs,ts,kvs,rfl,ea,ed,hp,hl,ok,h⟩:=h
 have hlx:xs.length = ts.length:=Paired.length hp
 have hu:=jb8 hr
 have hu0:_ < PySem.cLine:=Nat.lt_of_succ_lt hu
 refine ⟨_,(ja4 (jb3 (jcw (jc8 (ja8 Gqh (hr.mono (by decide)) rfl Dqh.m Dqh.F.kp Dqh.b .nil jan (ja0 (qv 0) (ja0 (jhm (v:=.int 120) rfl C.MOST_TIES ⟨_,rfl⟩) ja3))))) (ja7 jdc) jaj) (ja4 (jak (i:=2) sc.nd rfl (Or.inl rfl) (jb4 (ja0 (jfr jfp ja5) (ja0 (jfr jfp ja5) ja3)))) (ja7 (jc5 PassesOwn.never rfl (jod rfl B.enumerate (ja0 (qv 0) ja3)) (jc9 (n:=2) rfl (jat (jad (i:=3) sc.nd rfl (Or.inl rfl)) (jat (jad (i:=4) sc.nd rfl (Or.inl rfl)) jbr))) (ja4 (jb3 (jcw (jc8 (ja8 Gzx (hr.mono (by decide)) rfl Dzx.m Dzx.F.kp Dzx.b .nil jan (ja0 (qv 4) (ja0 (qv 2) (ja0 (qv 1) ja3)))))) (ja7 jdc) jaj) (ja7 (jak (i:=2) sc.nd rfl (Or.inl rfl) (qv 4)))))))),?_⟩
 walk_at "RD"
 refine ⟨a,xs,120,rfl,ea,?_⟩
 rw [decide_eq_true (show (xs.length:Int) <= 120 by omega)]
 walk_at "RD"
 intro t0 ht0
 refine ⟨a,rfl,⟨xs,SqL.of (ja2 ht0 _ _ _ ea)⟩,jlx (K:=K) (a:=a) (xs:=xs) (fun i σ H1=>∃ lv q nb th,σ = [some (.ref a),some (.ref d),some lv,nb,th]/\Same H H1/\Pr H1 lv q/\TiOk kvs q (ts.drop i)) ⟨_,(-1,-1),none,none,rfl,ja2 ht0 _,⟨t0,rfl,ja1⟩,ok⟩ (fun i σ H1 _ ⟨_,_,_,_,_,s1,_⟩=>SqL.of (s1 _ _ ea)) ?_ ?_⟩
 ·rintro i x σ H1 t hi ⟨lv,q,nb,th,rfl,s1,pq,ok1⟩ ht
  obtain ⟨p,hpi,px⟩:=jas hp hi
  rw [jhz hpi] at ok1
  have s2:Same H (upd H1 t (.tup [.int i,x])):=s1.trans (ja2 ht _)
  have px2:=px.same s2
  simp_arith [ja1]
  refine ⟨_,p,_,q,d,kvs,rfl,px2,pq.same (ja2 ht _),s2 _ _ ed,ok1.1,?_⟩
  walk_at "RD"
  exact ⟨_,_,_,_,rfl,s2,px2,ok1.2⟩
 ·rintro σ H1 ⟨lv,q,nb,th,rfl,s1,_⟩
  exact h H1 s1
theorem jgc (B:Blt mg) (D:DefAt K mg "look_at_web" (top 29) ["thing"] f fd) (Dqk:DefAt K mg "is_tuple_of" (top 16) ["thing","many"] fqk dqk) (Gqk:FnOk P w K mg base CX0 1 fqk dqk ["thing","many"] jfj) (Dzl:DefAt K mg "look_at_places" (top 27) ["places"] fzl dzl) (Gzl:FnOk P w K mg base CX0 4 fzl dzl ["places"] jex) (Dzo:DefAt K mg "look_at_ties" (top 28) ["ties","prices"] fzo dzo) (Gzo:FnOk P w K mg base CX0 4 fzo dzo ["ties","prices"] jgp):FnOk P w K mg base CX0 5 f fd ["thing"] jfl:=by
 have sc:FnScope ["thing"] ["thing"] (jab (top 29)):=by walk_at "SC"
 refine D.F.ok sc (fun vs H Q E h=>?_) (fun cdv A outer s H vs Q E hr h=>?_)
 ·obtain ⟨v,ps,ts,rfl,_⟩:=h
  rfl
 obtain ⟨v,ps,ts,rfl,hw,ok,h⟩:=h
 obtain ⟨u,pa,ta,xs,ys,rfl,eu,ep,et,pp,pt⟩:=hw
 have hlx:xs.length = ps.length:=Paired.length pp
 have okl:=ok.pl
 have hu:=jb8 hr
 have hu0:_ < PySem.cLine:=Nat.lt_of_succ_lt hu
 refine ⟨_,(ja4 (jb3 (jcw (jc8 (ja8 Gqk (hr.mono (by decide)) rfl Dqk.m Dqk.F.kp Dqk.b .nil jan (ja0 (qv 0) (ja0 ja5 ja3))))) (ja7 jdc) jaj) (ja4 (jc7 (ja8 Gzl (hr.mono (by decide)) rfl Dzl.m Dzl.F.kp Dzl.b .nil jan (ja0 (jam q_ix (qv 0) ja5 (fun _ _=>rfl)) ja3))) (ja7 (jc7 (ja8 Gzo (hr.mono (by decide)) rfl Dzo.m Dzo.F.kp Dzo.b .nil jan (ja0 (jam q_ix (qv 0) ja5 (fun _ _=>rfl)) (ja0 (jbf (jdq rfl) rfl B.dict PyProof.Rows.boot_dict (ja0 (jam q_ix (qv 0) ja5 (fun _ _=>rfl)) ja3)) ja3))))))),?_⟩
 walk_at "RD"
 refine ⟨u,_,2,rfl,eu,?_⟩
 simp_arith [jai,eu,at0,at1,Int.cast_ofNat_Int,decide_true]
 refine ⟨pa,xs,ps,rfl,ep,pp,ok.pl,ok.p,fun H1 s1=>?_⟩
 simp_arith [jai,s1 _ _ eu,s1 _ _ ep,at0,at1]
 refine ⟨jav ps,jde (Prs.same s1 pp),by omega,jcs ok.p.nodup,fun d hd=>?_⟩
 have s2:Same H (upd H1 d (.dK (jav ps))):=s1.trans (ja2 hd _)
 exact ⟨ta,d,ys,ts,_,rfl,s2 _ _ et,ja1,Prs.same s2 pt,ok.tl,ok.t,fun H3 s3=>h H3 (s2.trans s3)⟩
theorem ix30:ixN 3 0 = some 0:=rfl
theorem ix31:ixN 3 1 = some 1:=rfl
theorem ix32:ixN 3 2 = some 2:=rfl
def StO (o:HO):Prop:=∃ c st fl,o = .lst [.int c,.int st,.bl fl]/\0 <= st/\st < 4294967296
theorem StO.imm {o:HO} (h:StO o):jsb o = false:=by obtain ⟨_,_,_,rfl,_⟩:=h; rfl
def jnx (K:PySem.W.Frag):Sp:=fun vs H Q _=>∃ a k ns,vs = [.ref a,.int k]/\Scr K H a ns/\0 <= k/\k <= 1000/\∀ s o,H s = none->StO o->Q (.ref s) (upd H s o)
def jdm:Sp:=fun vs H Q _=>∃ s o m,vs = [.ref s,.int m]/\H s = some o/\StO o/\1 <= m/\m < 1000000000000000000/\∀ d o,0 <= d->d < m->StO o->Q (.int d) (upd H s o)
theorem cmR {i j:Int} (h1:-(2 ^ 64) < j) (h2:j < 2 ^ 64):CMul i j:=.inr ⟨h1,h2⟩
theorem cmL {i j:Int} (h1:-(2 ^ 64) < i) (h2:i < 2 ^ 64):CMul i j:=.inl ⟨h1,h2⟩
def Dr:Int->List (Int × Int)->Prop
 | _,[]=>True
 | l,p :: r=>(l < p.1/\p.1 <= l + 23/\1 <= p.2/\p.2 <= 1000000000)/\Dr p.1 r
def jou (l:Int):List (Int × Int)->Int
 | []=>l
 | p :: r=>jou p.1 r
theorem Dr.snoc:∀ {ps:List (Int × Int)} {l:Int} {p:Int × Int},Dr l ps->(jou l ps < p.1/\p.1 <= jou l ps + 23/\1 <= p.2/\p.2 <= 1000000000)->Dr l (ps ++ [p])
 | [],_,_,_,h=>⟨h,trivial⟩
 | q :: r,_,_,h,h2=>⟨h.1,Dr.snoc h.2 h2⟩
theorem jh0:∀ {ps:List (Int × Int)} {l:Int} {p:Int × Int},jou l (ps ++ [p]) = p.1
 | [],_,_=>rfl
 | q :: r,_,_=>jh0 (ps:=r)
def But (s:Addr) (H H':Hp):Prop:=∀ b o,b ≠ s->H b = some o->H' b = some o
theorem But.refl (s:Addr) (H:Hp):But s H H:=fun _ _ _ q=>q
theorem But.trans {s:Addr} {H H1 H2:Hp} (a:But s H H1) (b:But s H1 H2):But s H H2:=fun c o n q=>b c o n (a c o n q)
theorem But.at (s:Addr) (H:Hp) (o:HO):But s H (upd H s o):=fun b u n q=>by rw [jae n]; exact q
theorem But.new {s t:Addr} {H:Hp} {o:HO} (h:H t = none):But s H (upd H t o):=fun b u n q=>by rw [jae (jaa q h)]; exact q
theorem But.tups {s:Addr} {H H':Hp} (h:But s H H') {o:HO} (e:H s = some o) (i:jsb o = false):TupS H H':=fun b u z q=>h b u (fun x=>by rw [x,e] at q; cases q; rw [i] at z; cases z) q
theorem at3 {α:Type} {x y z u:α} {r:List α}:atI (x :: y :: z :: u :: r) 3 = some u:=by
 have e:atI (x :: y :: z :: u :: r) ((3:Nat):Int) = some u:=jcp rfl
 exact e
theorem menu4 {a b c e d:Int} (h0:0 <= d) (h1:d < 4):∃ v,atI [V.int a,.int b,.int c,.int e] d = some (.int v)/\(v = a \/ v = b \/ v = c \/ v = e):=by
 have hd:d = 0 \/ d = 1 \/ d = 2 \/ d = 3:=by omega
 rcases hd with rfl | rfl | rfl | rfl
 ·exact ⟨a,at0,.inl rfl⟩
 ·exact ⟨b,at1,.inr (.inl rfl)⟩
 ·exact ⟨c,at2,.inr (.inr (.inl rfl))⟩
 ·exact ⟨e,at3,.inr (.inr (.inr rfl))⟩
theorem p9:(10:Int) ^ Int.toNat 9 = 1000000000:=by decide
def jhd:Sp:=fun vs H Q _=>∃ s o n,vs = [.ref s,.int n]/\H s = some o/\StO o/\0 <= n/\n <= 100 /\
 ∀ r H' o' xs ps,H r = none->But s H H'->H' s = some o'->StO o'->H' r = some (.lst xs)->Prs H' xs ps->(ps.length:Int) = n->Dr (-1) ps->Q (.ref r) H'
theorem jkh (B:Blt mg) (D:DefAt K mg "_law_take" (top 67) ["_law_state","_law_many"] f fd):FnOk P w K mg base CX0 1 f fd ["_law_state","_law_many"] jdm:=by
 have sc:FnScope ["_law_state","_law_many","_law_digit","_law_number"] ["_law_state","_law_many"] (jab (top 67)):=by walk_at "SC"
 refine D.F.ok sc (fun vs H Q E h=>?_) (fun cdv A outer s H vs Q E hr h=>?_)
 ·obtain ⟨s,o,m,rfl,_⟩:=h
  rfl
 obtain ⟨st,o,m,rfl,es,⟨c,x,fl,rfl,x0,x1⟩,m0,m1,h⟩:=h
 have hu:=jb8 hr
 have hu0:_ < PySem.cLine:=Nat.lt_of_succ_lt hu
 refine ⟨_,(ja4 (jb3 (jc8 (jam q_ix (qv 0) ja5 (fun _ _=>rfl))) (ja4 (jak (i:=2) sc.nd rfl (Or.inl rfl) (jay jkc (jam q_ix (qv 0) ja5 (fun _ _=>rfl)) (qv 1))) (ja4 (jfq (jay js1 (jam q_ix (qv 0) ja5 (fun _ _=>rfl)) (qv 1)) (jgt (qv 0) ja5 jgs)) (ja4 (jfq (jb0 q_gt (jam q_ix (qv 0) ja5 (fun _ _=>rfl)) ja5 (jag _)) (jgt (qv 0) ja5 jgs)) (ja7 (jah (qv 2)))))) jaj) (ja4 (jfq (jay jkc (jay jcc (jay jkb (jam q_ix (qv 0) ja5 (fun _ _=>rfl)) ja5) ja5) ja5) (jgt (qv 0) ja5 jgs)) (ja4 (jak (i:=3) sc.nd rfl (Or.inl rfl) (jay jo9 (jay jkc (jay jkb (jam q_ix (qv 0) ja5 (fun _ _=>rfl)) (jam q_ix (qv 0) ja5 (fun _ _=>rfl))) ja5) ja5)) (ja4 (jb3 (jal q_gt (qv 1) (jay jq9 ja5 ja5) (jag _)) (ja4 (jfq (jay jkc (jay jcc (jay jkb (jam q_ix (qv 0) ja5 (fun _ _=>rfl)) ja5) ja5) ja5) (jgt (qv 0) ja5 jgs)) (ja7 (jak (i:=3) sc.nd rfl (Or.inl rfl) (jay jcc (jay jkb (qv 3) ja5) (jam q_ix (qv 0) ja5 (fun _ _=>rfl)))))) jaj) (ja7 (jah (jay jkc (qv 3) (qv 1)))))))),?_⟩
 simp_arith [jai,es,at0,at1,at2,ix30,ix31,ix32,ja1,jnf]
 have lo:∀ n:Int,0 <= n % m:=fun n=>Int.emod_nonneg _ (by omega)
 have hi:∀ n:Int,n % m < m:=fun n=>Int.emod_lt_of_pos _ (by omega)
 have y0:0 <= (x * 48271 + 39373) % 2147483647:=Int.emod_nonneg _ (by decide)
 have y1:(x * 48271 + 39373) % 2147483647 < 2147483647:=Int.emod_lt_of_pos _ (by decide)
 generalize (x * 48271 + 39373) % 2147483647 = y at y0 y1
 have z0:0 <= (y * 48271 + 39373) % 2147483647:=Int.emod_nonneg _ (by decide)
 have z1:(y * 48271 + 39373) % 2147483647 < 2147483647:=Int.emod_lt_of_pos _ (by decide)
 generalize (y * 48271 + 39373) % 2147483647 = z at z0 z1
 have cd:CDivB c m:=⟨by omega,by omega⟩
 have cd2:∀ n:Int,CDiv n 16:=fun n=>⟨by decide,by decide⟩
 have cp:CPow 10 6:=⟨by decide,by decide,by decide⟩
 refine ite2 (fun _=>⟨by omega,cd,h _ _ (lo _) (hi _) ⟨_,_,_,rfl,x0,x1⟩⟩) (fun _=>⟨cmR (by decide) (by decide),by decide,cmL (by omega) (by omega),by decide,cd2 _,cp,?_⟩)
 refine ite2 (fun _=>⟨cmR (by decide) (by decide),by decide,cmR (by decide) (by decide),by omega,h _ _ (lo _) (hi _) ⟨_,_,_,rfl,z0,by omega⟩⟩) (fun _=>⟨by omega,h _ _ (lo _) (hi _) ⟨_,_,_,rfl,y0,by omega⟩⟩)
theorem jj6 (B:Blt mg) (D:DefAt K mg "_law_begun" (top 66) ["_law_script","_law_k"] f fd):FnOk P w K mg base CX0 1 f fd ["_law_script","_law_k"] (jnx K):=by
 have sc:FnScope ["_law_script","_law_k","_law_cell"] ["_law_script","_law_k"] (jab (top 66)):=by walk_at "SC"
 refine D.F.ok sc (fun vs H Q E h=>?_) (fun cdv A outer s H vs Q E hr h=>?_)
 ·obtain ⟨a,k,ns,rfl,_⟩:=h
  rfl
 obtain ⟨a,k,ns,rfl,hs,k0,k1,h⟩:=h
 have hu:=jb8 hr
 have hu0:_ < PySem.cLine:=Nat.lt_of_succ_lt hu
 refine ⟨_,(ja4 (jak (i:=2) sc.nd rfl (Or.inl rfl) ja5) (ja4 (jb3 (jal q_lt (qv 1) (jaf jdv rfl B.len PySem.boot_len (ja0 (qv 0) ja3)) (jag _)) (ja7 (jak (i:=2) sc.nd rfl (Or.inl rfl) (jam jp1 (qv 0) (qv 1) (fun _ _=>rfl)))) jaj) (ja7 (jah (jb6 (ja0 (qv 2) (ja0 (jay jkc (jay jcc (jay jcc (jay jkc (qv 2) ja5) (jay jkb ja5 (qv 1))) (jay jkb ja5 (jay jo9 (qv 1) ja5))) ja5) (ja0 (jb0 q_ge (qv 2) (jay jq9 ja5 ja5) (jag _)) ja3)))))))),?_⟩
 walk_at "RD"
 refine ⟨a,_,rfl,.inl hs.sq,?_⟩
 simp_arith [List.length_map,rIxL]
 have q0:∀ n:Int,0 <= n % 2147483629:=fun n=>Int.emod_nonneg _ (by decide)
 have q1:∀ n:Int,n % 2147483629 < 2147483629:=fun n=>Int.emod_lt_of_pos _ (by decide)
 have cp:CPow 10 18:=⟨by decide,by decide,by decide⟩
 have cd:CDiv k 7:=⟨by decide,by decide⟩
 refine ite2 (fun c=>?_) (fun c=>?_)
 ·have c':k < (ns.length:Int):=of_decide_eq_true c
  have hk:k.toNat < ns.length:=by omega
  have e1:atI (ns.map V.int) ((k.toNat:Nat):Int) = some (.int ns[k.toNat]):=jcp (by rw [List.getElem?_map,gE hk]; rfl)
  rw [show ((k.toNat:Nat):Int) = k by omega] at e1
  refine ⟨a,_,k,_,rfl,rfl,hs.sq,e1,?_⟩
  walk_at "RD"
  exact ⟨by decide,cmL (by decide) (by decide),cd,cmL (by decide) (by decide),by decide,cp,fun p hp=>h p _ hp ⟨_,_,_,rfl,q0 _,by have:=q1 (ns[k.toNat] % 2147483629 + 104729 * k + 7919 * (k / 7)); omega⟩⟩
 ·exact ⟨by decide,cmL (by decide) (by decide),cd,cmL (by decide) (by decide),by decide,cp,fun p hp=>h p _ hp ⟨_,_,_,rfl,q0 _,by have:=q1 (0 % 2147483629 + 104729 * k + 7919 * (k / 7)); omega⟩⟩
theorem jhr (B:Blt mg) (D:DefAt K mg "_law_places" (top 68) ["_law_state","_law_count"] f fd) (Dqa:DefAt K mg "_law_take" (top 67) ["_law_state","_law_many"] fqa dqa) (Gqa:FnOk P w K mg base CX0 1 fqa dqa ["_law_state","_law_many"] jdm):FnOk P w K mg base CX0 2 f fd ["_law_state","_law_count"] jhd:=by
 have sc:FnScope ["_law_state","_law_count","_law_kind","_law_places_here","_law_number","_law_k"] ["_law_state","_law_count"] (jab (top 68)):=by walk_at "SC"
 refine D.F.ok sc (fun vs H Q E h=>?_) (fun cdv A outer s H vs Q E hr h=>?_)
 ·obtain ⟨s,o,n,rfl,_⟩:=h
  rfl
 obtain ⟨st,o,n,rfl,es,so,n0,n1,h⟩:=h
 have hu:=jb8 hr
 have hu0:_ < PySem.cLine:=Nat.lt_of_succ_lt hu
 refine ⟨_,(ja4 (jak (i:=2) sc.nd rfl (Or.inl rfl) (ja8 Gqa (hr.mono (by decide)) rfl Dqa.m Dqa.F.kp Dqa.b .nil jan (ja0 (qv 0) (ja0 ja5 ja3)))) (ja4 (jak (i:=3) sc.nd rfl (Or.inl rfl) (jb6 ja3)) (ja4 (jak (i:=4) sc.nd rfl (Or.inl rfl) (jfr jfp ja5)) (ja4 (jc5 PassesOwn.never rfl (jea rfl B.range (ja0 (qv 1) ja3)) (jad (i:=5) sc.nd rfl (Or.inl rfl)) (ja4 (jak (i:=4) sc.nd rfl (Or.inl rfl) (jay jcc (jay jcc (qv 4) ja5) (ja8 Gqa (hr.mono (by decide)) rfl Dqa.m Dqa.F.kp Dqa.b .nil jan (ja0 (qv 0) (ja0 (jam q_ix (jb6 (ja0 ja5 (ja0 ja5 (ja0 ja5 (ja0 ja5 ja3))))) (ja8 Gqa (hr.mono (by decide)) rfl Dqa.m Dqa.F.kp Dqa.b .nil jan (ja0 (qv 0) (ja0 ja5 ja3))) (fun _ _=>rfl)) ja3))))) (ja7 (jc7 (q_bm PySem.F.plainAttrs_list PySem.F.slot_list_append PySem.F.type_list_append jdb (qv 3) (ja0 (jb4 (ja0 (qv 4) (ja0 (jay jcc ja5 (ja8 Gqa (hr.mono (by decide)) rfl Dqa.m Dqa.F.kp Dqa.b .nil jan (ja0 (qv 0) (ja0 (jam q_ix (jb6 (ja0 ja5 (ja0 ja5 (ja0 ja5 (ja0 (jay jq9 ja5 ja5) ja3))))) (qv 2) (fun _ _=>rfl)) ja3)))) ja3))) ja3)))))) (ja7 (jah (qv 3))))))),?_⟩
 walk_at "RD"
 refine ⟨st,o,4,rfl,es,so,by decide,by decide,fun kind o1 k0 k1 so1=>?_⟩
 walk_at "RD"
 intro r hr1
 have nr:r ≠ st:=fun z=>by rw [z,ja1] at hr1; cases hr1
 have hr0:H r = none:=by rw [<- hr1,jae nr]
 refine ⟨n,rfl,by omega,by omega,jdt (n:=n.toNat) (fun i σ H1=>∃ l kk ps xs o',σ = [some (.ref st),some (.int n),some (.int kind),some (.ref r),some (.int l),kk]/\But st H H1/\H1 st = some o'/\StO o'/\H1 r = some (.lst xs)/\Prs H1 xs ps/\ps.length = i/\Dr (-1) ps/\l = jou (-1) ps) ?_ ?_ ?_⟩
 ·refine ⟨-1,none,[],[],o1,rfl,fun b u nb q=>?_,by rw [jae nr.symm,ja1],so1,ja1,.nil,rfl,trivial,rfl⟩
  rw [jae (jaa q hr0),jae nb]
  exact q
 ·rintro i σ H1 hi ⟨l,kk,ps,xs,o',rfl,b1,e1,so',er,pp,hlen,dr,el⟩
  have hlx:xs.length = ps.length:=Paired.length pp
  walk_at "RD"
  intro p1 hp1
  have np:p1 ≠ st:=(jaa e1 hp1).symm
  have nr1:r ≠ p1:=jaa er hp1
  refine ⟨st,o',4,rfl,(by rw [jae np.symm]; exact e1),so',by decide,by decide,fun d1 o2 d10 d11 so2=>?_⟩
  obtain ⟨v,ev,v0,v1⟩:∃ v,atI [V.int 1,.int 2,.int 6,.int 23] d1 = some (.int v)/\1 <= v/\v <= 23:=by
   obtain ⟨v,ev,hv⟩:=menu4 (a:=1) (b:=2) (c:=6) (e:=23) d10 d11
   exact ⟨v,ev,by omega,by omega⟩
  simp_arith [jai,jae np,ja1,ev]
  refine ⟨st,o2,v,rfl,ja1,so2,by omega,by omega,fun d2 o3 d20 d21 so3=>?_⟩
  simp_arith [jnf]
  have b3:But st H1 (upd (upd H1 p1 (.lst [.int 1,.int 2,.int 6,.int 23])) st o3):=(But.new hp1).trans (But.at _ _ _)
  have e3:(upd (upd H1 p1 (.lst [.int 1,.int 2,.int 6,.int 23])) st o3) st = some o3:=ja1
  generalize upd (upd H1 p1 (.lst [.int 1,.int 2,.int 6,.int 23])) st o3 = H3 at b3 e3
  have t3:TupS H1 H3:=b3.tups e1 so'.imm
  have er3:=b3 _ _ nr er
  refine ⟨⟨r,xs,rfl,er3⟩,⟨by decide,by decide,by decide⟩,?_⟩
  intro p2 hp2
  have np2:p2 ≠ st:=(jaa e3 hp2).symm
  have nr2:r ≠ p2:=jaa er3 hp2
  obtain ⟨v2,ev2,v20,v21⟩:∃ v,atI [V.int 1,.int 3,.int 9,.int (10 ^ Int.toNat 9)] kind = some (.int v)/\1 <= v/\v <= 1000000000:=by
   obtain ⟨v,ev,hv⟩:=menu4 (a:=1) (b:=3) (c:=9) (e:=10 ^ Int.toNat 9) k0 k1
   rw [p9] at hv
   exact ⟨v,ev,by omega,by omega⟩
  simp_arith [jai,ja1,ev2]
  refine ⟨st,o3,v2,rfl,(by rw [jae np2.symm]; exact e3),so3,by omega,by omega,fun d3 o4 d30 d31 so4=>?_⟩
  walk_at "RD"
  have b4:But st H3 (upd (upd H3 p2 (.lst [.int 1,.int 3,.int 9,.int (10 ^ Int.toNat 9)])) st o4):=(But.new hp2).trans (But.at _ _ _)
  have e4:(upd (upd H3 p2 (.lst [.int 1,.int 3,.int 9,.int (10 ^ Int.toNat 9)])) st o4) st = some o4:=ja1
  generalize upd (upd H3 p2 (.lst [.int 1,.int 3,.int 9,.int (10 ^ Int.toNat 9)])) st o4 = H4 at b4 e4
  have t4:TupS H3 H4:=b4.tups e3 so3.imm
  have er4:=b4 _ _ nr er3
  intro t ht
  have nt:t ≠ st:=(jaa e4 ht).symm
  have er5:upd H4 t (.tup [.int (l + 1 + d2),.int (1 + d3)]) r = some (.lst xs):=by rw [jae (jaa er4 ht)]; exact er4
  simp_arith [er5]
  have t5:TupS H4 (upd H4 t (.tup [.int (l + 1 + d2),.int (1 + d3)])):=jcz ht
  have t6:=jba (ys:=xs ++ [.ref t]) er5
  refine ⟨szl' (by omega),l + 1 + d2,_,ps ++ [(l + 1 + d2,1 + d3)],_,o4,rfl,fun b u nb q=>?_,?_,so4,(by first | rfl | exact ja1),?_,?_,?_,?_⟩
  ·have q1:=b4 _ _ nb (b3 _ _ nb (b1 _ _ nb q))
   rw [jae (jaa q hr0),jae (jaa q1 ht)]
   exact q1
  ·rw [jae nr.symm,jae nt.symm]
   exact e4
  ·exact jar (Prs.tups (((t3.trans t4).trans t5).trans t6) pp) (Pr.tups ⟨t,rfl,ja1⟩ t6)
  ·rw [List.length_append,hlen]
   rfl
  ·exact dr.snoc ⟨by show _ < l + 1 + d2; omega,by show l + 1 + d2 <= _; omega,by show 1 <= 1 + d3; omega,by show 1 + d3 <= _; omega⟩
  ·rw [jh0]
 ·rintro σ H1 ⟨l,kk,ps,xs,o',rfl,b1,e1,so',er,pp,hlen,dr,el⟩
  walk_at "RD"
  exact h r H1 o' xs ps hr0 b1 e1 so' er pp (by omega) dr
theorem Dr.pl:∀ {ps:List (Int × Int)} {l s:Int},Dr l ps->l + 23 * ps.length <= 999->s + 1000000000 * ps.length <= 1000000000000->PlOk l s ps
 | [],_,_,_,_,_=>trivial
 | p :: r,l,s,h,h1,h2=>by
  have e:((p :: r).length:Int) = r.length + 1:=by simp
  rw [e] at h1 h2
  obtain ⟨⟨a1,a2,a3,a4⟩,h3⟩:=h
  exact ⟨⟨a1,by omega,a3,by omega⟩,Dr.pl h3 (by omega) (by omega)⟩
theorem Dr.gt:∀ {ps:List (Int × Int)} {l:Int},Dr l ps->∀ p ∈ ps,l < p.1
 | [],_,_,_,h=>by cases h
 | q :: r,l,h,p,hp=>by
  rcases List.mem_cons.mp hp with e | hp
  ·rw [e]; exact h.1.1
  ·have:=Dr.gt h.2 p hp
   have:=h.1.1
   omega
theorem Dr.rise:∀ {ps:List (Int × Int)} {l:Int},Dr l ps->∀ (i j:Nat) (p q:Int × Int),i < j->ps[i]? = some p->ps[j]? = some q->p.1 < q.1
 | [],_,_,i,j,p,q,_,h,_=>by simp at h
 | r :: rs,l,h,i,j,p,q,hij,hi,hj=>by
  cases j with
  | zero=>omega
  | succ j =>
   have hj':rs[j]? = some q:=by simpa using hj
   cases i with
   | zero =>
    have e:r = p:=by simpa using hi
    subst e
    exact Dr.gt h.2 q (List.mem_of_getElem? hj')
   | succ i=>exact Dr.rise h.2 i j p q (by omega) (by simpa using hi) hj'
theorem jrj {a b c d:Int} (h:a < c):HT.lexLt [a,b] [c,d] = true:=by
 rw [HT.lexLt_cons,if_neg (by omega)]
 exact decide_eq_true h
theorem jrk {a b d:Int} (h:b < d):HT.lexLt [a,b] [a,d] = true:=by
 rw [HT.lexLt_cons,if_pos rfl,HT.lexLt_cons,if_neg (by omega)]
 exact decide_eq_true h
def jjm (q:Int × Int):List (Int × Int)->Int × Int
 | []=>q
 | p :: r=>jjm p r
theorem jgz:∀ {ts:List (Int × Int)} {q p:Int × Int},jjm q (ts ++ [p]) = p
 | [],_,_=>rfl
 | t :: r,_,_=>jgz (ts:=r)
theorem TiOk.snoc {kvs:List (Key × V)}:∀ {ts:List (Int × Int)} {q p:Int × Int},TiOk kvs q ts->(HT.lexLt [(jjm q ts).1,(jjm q ts).2] [p.1,p.2] = true/\p.1 < p.2/\hasK kvs p.1 = true/\hasK kvs p.2 = true)->TiOk kvs q (ts ++ [p])
 | [],_,_,_,h=>⟨h,trivial⟩
 | t :: r,_,_,h,h2=>⟨h.1,TiOk.snoc h.2 h2⟩
theorem PlOk.rise:∀ {ps:List (Int × Int)} {l s:Int},PlOk l s ps->∀ (i j:Nat) (p q:Int × Int),i < j->ps[i]? = some p->ps[j]? = some q->p.1 < q.1
 | [],_,_,_,i,j,p,q,_,h,_=>by simp at h
 | r :: rs,l,s,h,i,j,p,q,hij,hi,hj=>by
  cases j with
  | zero=>omega
  | succ j =>
   have hj':rs[j]? = some q:=by simpa using hj
   cases i with
   | zero =>
    have e:r = p:=by simpa using hi
    subst e
    exact PlOk.gt h.2 q (List.mem_of_getElem? hj')
   | succ i=>exact PlOk.rise h.2 i j p q (by omega) (by simpa using hi) hj'
theorem jmw {H:Hp} {a st:Addr} {xs:List V} {ps:List (Int × Int)} {o:HO} (ha:H a = some (.lst xs)) (pp:Prs H xs ps) (hs:H st = some o) (so:StO o):a ≠ st:=by
 intro z
 obtain ⟨c,s,f,e,_⟩:=so
 rw [z,hs,e] at ha
 cases ha
 cases pp with
 | cons r _=>obtain ⟨t,e,_⟩:=r; cases e
theorem jbg.but {H H':Hp} {st:Addr} {o:HO} {v:V} {ps ts:List (Int × Int)} (h:jbg H v ps ts) (hs:H st = some o) (so:StO o) (b:But st H H'):jbg H' v ps ts:=by
 obtain ⟨u,pa,ta,xs,ys,e,h1,h2,h3,h4,h5⟩:=h
 have t:=b.tups hs so.imm
 exact ⟨u,pa,ta,xs,ys,e,t _ _ rfl h1,b _ _ (jmw h2 h4 hs so) h2,b _ _ (jmw h3 h5 hs so) h3,Prs.tups t h4,Prs.tups t h5⟩
def jr2:Sp:=fun vs H Q _=>∃ s o m,vs = [.ref s,.int m]/\H s = some o/\StO o/\0 <= m/\m <= 6 /\
 ∀ v H' o' ps ts,But s H H'->H' s = some o'->StO o'->jbg H' v ps ts->WebOk ps ts->Dr (-1) ps->(ps.length:Int) <= m->ts.length <= 36->Q v H'
theorem jrn {ps:List (Int × Int)} (hn:(ps.map (·.1)).Nodup) {i:Nat} {p:Int × Int} (h:ps[i]? = some p):hasK (jav ps) p.1 = true:=jsg hn (List.mem_of_getElem? h)
theorem jmq (B:Blt mg) (D:DefAt K mg "_law_web" (top 69) ["_law_state","_law_most"] f fd) (Dqa:DefAt K mg "_law_take" (top 67) ["_law_state","_law_many"] fqa dqa) (Gqa:FnOk P w K mg base CX0 1 fqa dqa ["_law_state","_law_many"] jdm) (Dql:DefAt K mg "_law_places" (top 68) ["_law_state","_law_count"] fql dql) (Gql:FnOk P w K mg base CX0 2 fql dql ["_law_state","_law_count"] jhd):FnOk P w K mg base CX0 3 f fd ["_law_state","_law_most"] jr2:=by
 have sc:FnScope ["_law_state","_law_most","_law_count","_law_places_here","_law_dense","_law_ties","_law_k","_law_j"] ["_law_state","_law_most"] (jab (top 69)):=by walk_at "SC"
 refine D.F.ok sc (fun vs H Q E h=>?_) (fun cdv A outer s H vs Q E hr h=>?_)
 ·obtain ⟨s,o,m,rfl,_⟩:=h
  rfl
 obtain ⟨st,o,m,rfl,es,so,m0,m1,h⟩:=h
 have hu:=jb8 hr
 have hu0:_ < PySem.cLine:=Nat.lt_of_succ_lt hu
 refine ⟨_,(ja4 (jak (i:=2) sc.nd rfl (Or.inl rfl) (ja8 Gqa (hr.mono (by decide)) rfl Dqa.m Dqa.F.kp Dqa.b .nil jan (ja0 (qv 0) (ja0 (jay jcc (qv 1) ja5) ja3)))) (ja4 (jak (i:=3) sc.nd rfl (Or.inl rfl) (ja8 Gql (hr.mono (by decide)) rfl Dql.m Dql.F.kp Dql.b .nil jan (ja0 (qv 0) (ja0 (qv 2) ja3)))) (ja4 (jak (i:=4) sc.nd rfl (Or.inl rfl) (jay jcc ja5 (ja8 Gqa (hr.mono (by decide)) rfl Dqa.m Dqa.F.kp Dqa.b .nil jan (ja0 (qv 0) (ja0 ja5 ja3))))) (ja4 (jak (i:=5) sc.nd rfl (Or.inl rfl) (jb6 ja3)) (ja4 (jc5 PassesOwn.never rfl (jea rfl B.range (ja0 (qv 2) ja3)) (jad (i:=6) sc.nd rfl (Or.inl rfl)) (ja7 (jc5 PassesOwn.never rfl (joc rfl B.range (ja0 (jay jcc (qv 6) ja5) (ja0 (qv 2) ja3))) (jad (i:=7) sc.nd rfl (Or.inl rfl)) (ja7 (jb3 (jal q_lt (ja8 Gqa (hr.mono (by decide)) rfl Dqa.m Dqa.F.kp Dqa.b .nil jan (ja0 (qv 0) (ja0 ja5 ja3))) (qv 4) (jag _)) (ja7 (jc7 (q_bm PySem.F.plainAttrs_list PySem.F.slot_list_append PySem.F.type_list_append jdb (qv 5) (ja0 (jb4 (ja0 (jam q_ix (jam q_ix (qv 3) (qv 6) (fun _ _=>rfl)) ja5 (fun _ _=>rfl)) (ja0 (jam q_ix (jam q_ix (qv 3) (qv 7) (fun _ _=>rfl)) ja5 (fun _ _=>rfl)) ja3))) ja3)))) jaj))))) (ja7 (jah (jb4 (ja0 (qv 3) (ja0 (qv 5) ja3)))))))))),?_⟩
 walk_at "RD"
 refine ⟨st,o,m + 1,rfl,es,so,by omega,by omega,fun n o1 n0 n1 so1=>?_⟩
 walk_at "RD"
 refine ⟨st,o1,n,rfl,ja1,so1,n0,by omega,fun r HA oA xs ps hr0 bA eA soA er pp hlen dr=>?_⟩
 walk_at "RD"
 refine ⟨st,oA,4,rfl,eA,soA,by decide,by decide,fun dn oB d0 d1 soB=>?_⟩
 have nr:r ≠ st:=fun z=>by rw [z,ja1] at hr0; cases hr0
 have hr1:H r = none:=by rw [<- hr0,jae nr]
 have bB:But st H (upd HA st oB):=((But.at st H o1).trans bA).trans (But.at st HA oB)
 have tB:TupS HA (upd HA st oB):=(But.at st HA oB).tups eA soA.imm
 have erB:upd HA st oB r = some (.lst xs):=by rw [jae nr]; exact er
 have eB:upd HA st oB st = some oB:=ja1
 have pB:Prs (upd HA st oB) xs ps:=Prs.tups tB pp
 generalize upd HA st oB = HB at bB erB eB pB
 clear tB pp er eA bA soA
 have hpl:ps.length <= 12:=by omega
 have plok:=dr.pl (s:=0) (by omega) (by omega)
 have hnd:=plok.nodup
 have hlx:xs.length = ps.length:=Paired.length pB
 have rise:=dr.rise
 walk_at "RD"
 intro tl htl
 have ntl:tl ≠ st:=(jaa eB htl).symm
 have nrt:r ≠ tl:=jaa erB htl
 have htl0:H tl = none:=by
  cases q:H tl with
  | none=>rfl
  | some u=>rw [bB _ _ ntl q] at htl; cases htl
 refine jbq (Itr 0 ps.length) (upd HB tl (.lst [])) (fun R hR=>?_) (jdt (n:=ps.length) (fun k σ H1=>∃ kk jj zs ts o',σ = [some (.ref st),some (.int m),some (.int n),some (.ref r),some (.int (1 + dn)),some (.ref tl),kk,jj]/\But st H H1/\H1 st = some o'/\StO o'/\H1 r = some (.lst xs)/\Prs H1 xs ps/\H1 tl = some (.lst zs)/\Prs H1 zs ts/\TiOk (jav ps) (-1,-1) ts/\(∀ (j:Nat) (p:Int × Int),k <= j->ps[j]? = some p->(jjm (-1,-1) ts).1 < p.1)/\(ts.length <= 6 * k/\ts.length <= 111)) ?_ ?_ ?_)
 ·unfold jqi
  walk_at "RD"
  exact ⟨n,rfl,by omega,by omega,by rw [<- hlen]; exact hR⟩
 ·refine ⟨none,none,[],[],oB,rfl,bB.trans (But.new htl),by rw [jae ntl.symm]; exact eB,soB,by rw [jae nrt]; exact erB,Prs.tups (jcz htl) pB,ja1,.nil,trivial,fun j p _ hp=>?_,by simp⟩
  have:=dr.gt p (List.mem_of_getElem? hp)
  exact this
 ·rintro k σ H1 hk ⟨kk,jj,zs,ts,o',rfl,b1,e1,so',er1,pp1,etl,pz,tok,hlast,htn⟩
  obtain ⟨lt0,hlt0⟩:∃ n:Nat,n = ts.length:=⟨_,rfl⟩
  have xk:ps[k]? = some ps[k]:=gE hk
  generalize ps[k] = pk at xk
  walk_at "RD"
  refine jbq (Itr (0 + (k:Int) + 1) (ps.length - (k + 1))) H1 (fun R hR=>?_) (jdt (n:=ps.length - (k + 1)) (fun i σ H2=>∃ jj zs ts o',σ = [some (.ref st),some (.int m),some (.int n),some (.ref r),some (.int (1 + dn)),some (.ref tl),some (.int (0 + (k:Int))),jj]/\But st H H2/\H2 st = some o'/\StO o'/\H2 r = some (.lst xs)/\Prs H2 xs ps/\H2 tl = some (.lst zs)/\Prs H2 zs ts/\TiOk (jav ps) (-1,-1) ts/\((jjm (-1,-1) ts).1 < pk.1 \/ ((jjm (-1,-1) ts).1 = pk.1/\∀ (j:Nat) (p:Int × Int),k + 1 + i <= j->ps[j]? = some p->(jjm (-1,-1) ts).2 < p.1))/\ts.length <= lt0 + i) ?_ ?_ ?_)
  ·unfold iRng2
   walk_at "RD"
   refine ⟨_,_,rfl,⟨by omega,by omega,by omega,by omega⟩,?_⟩
   have e:(n - (0 + (k:Int) + 1)).toNat = ps.length - (k + 1):=by omega
   rw [e]
   exact hR
  ·exact ⟨jj,zs,ts,o',rfl,b1,e1,so',er1,pp1,etl,pz,tok,.inl (hlast k pk (Nat.le_refl _) xk),by omega⟩
  ·rintro i σ H2 hi ⟨jj2,zs2,ts2,o2,rfl,b2,e2,so2,er2,pp2,etl2,pz2,tok2,hl2,htn2⟩
   have hj:k + 1 + i < ps.length:=by omega
   have xj:ps[k + 1 + i]? = some ps[k + 1 + i]:=gE hj
   generalize ps[k + 1 + i] = pj at xj
   have hkj:=rise k (k + 1 + i) pk pj (by omega) xk xj
   walk_at "RD"
   refine ⟨st,o2,5,rfl,e2,so2,by decide,by decide,fun d3 o3 d30 d31 so3=>?_⟩
   have b3:But st H2 (upd H2 st o3):=But.at _ _ _
   have t3:TupS H2 (upd H2 st o3):=b3.tups e2 so2.imm
   have er3:=b3 _ _ nr er2
   have etl3:=b3 _ _ ntl etl2
   have e3:upd H2 st o3 st = some o3:=ja1
   generalize upd H2 st o3 = H3 at b3 t3 er3 etl3 e3
   walk_at "RD"
   refine ite2 (fun c=>?_) (fun c=>?_)
   ·obtain ⟨uk,gk,hgk⟩:=jc2 pp2 xk
    obtain ⟨uj,gj,hgj⟩:=jc2 pp2 xj
    obtain ⟨tk,ek,hk3⟩:=hgk.tups t3
    obtain ⟨tj,ej,hj3⟩:=hgj.tups t3
    have ak:atI xs (0 + (k:Int)) = some (.ref tk):=by rw [Int.zero_add,<- ek]; exact jcp gk
    have aj:atI xs (0 + (k:Int) + 1 + (i:Int)) = some (.ref tj):=by
     rw [show 0 + (k:Int) + 1 + (i:Int) = ((k + 1 + i:Nat):Int) by omega,<- ej]
     exact jcp gj
    refine ⟨⟨tl,_,rfl,etl3⟩,?_⟩
    simp_arith [jai,er3,ak,aj,hk3,hj3,at0]
    intro t ht
    have etl4:=ja2 ht (.tup [.int pk.1,.int pj.1]) _ _ etl3
    simp_arith [etl4]
    have t6:=jba (ys:=zs2 ++ [.ref t]) etl4
    have nst:st ≠ tl:=ntl.symm
    have hz2:zs2.length = ts2.length:=Paired.length pz2
    refine ⟨szl' (by omega),_,zs2 ++ [.ref t],ts2 ++ [(pk.1,pj.1)],o3,rfl,fun b u nb q=>?_,?_,so3,?_,Prs.tups ((t3.trans (jcz ht)).trans t6) pp2,(by first | rfl | exact ja1),jar (Prs.tups ((t3.trans (jcz ht)).trans t6) pz2) (Pr.tups ⟨t,rfl,ja1⟩ t6),?_,?_,?_⟩
    ·have q3:=b3 _ _ nb (b2 _ _ nb q)
     rw [jae (jaa q htl0),jae (jaa q3 ht)]
     exact q3
    ·rw [jae nst,jae (jaa e3 ht)]
     exact e3
    ·rw [jae nrt,jae (jaa er3 ht)]
     exact er3
    ·refine tok2.snoc ⟨?_,hkj,(show hasK _ pk.1 = true from jrn hnd xk),(show hasK _ pj.1 = true from jrn hnd xj)⟩
     rcases hl2 with q | ⟨q1,q2⟩
     ·exact jrj q
     ·rw [q1]
      exact jrk (q2 _ pj (Nat.le_refl _) xj)
    ·rw [jgz]
     exact .inr ⟨rfl,fun j p hj2 hp=>rise _ _ pj p (by omega) xj hp⟩
    ·rw [List.length_append]
     show _ + 1 <= _
     omega
   ·refine ⟨_,zs2,ts2,o3,rfl,b2.trans b3,e3,so3,er3,Prs.tups t3 pp2,etl3,Prs.tups t3 pz2,tok2,?_,by omega⟩
    rcases hl2 with q | ⟨q1,q2⟩
    ·exact .inl q
    ·exact .inr ⟨q1,fun j p hj2 hp=>q2 j p (by omega) hp⟩
  ·rintro σ H2 ⟨jj2,zs2,ts2,o2,rfl,b2,e2,so2,er2,pp2,etl2,pz2,tok2,hl2,htn2⟩
   refine ⟨_,jj2,zs2,ts2,o2,rfl,b2,e2,so2,er2,pp2,etl2,pz2,tok2,fun j p hj hp=>?_,by omega⟩
   have:=rise k j pk p (by omega) xk hp
   rcases hl2 with q | ⟨q1,_⟩
   ·omega
   ·omega
 ·rintro σ H1 ⟨kk,jj,zs,ts,o',rfl,b1,e1,so',er1,pp1,etl,pz,tok,hlast,htn⟩
  walk_at "RD"
  intro wv hwv
  have s1:=ja2 hwv (.tup [.ref r,.ref tl])
  exact h _ _ o' ps ts (b1.trans (But.new hwv)) (s1 _ _ e1) so' ⟨wv,r,tl,xs,zs,rfl,ja1,s1 _ _ er1,s1 _ _ etl,Prs.same s1 pp1,Prs.same s1 pz⟩ ⟨by omega,plok,by omega,tok⟩ dr (by omega) (by omega)
end
end My
namespace My
open PySem L2
section
variable {P:Program} {w:World} {K:PySem.W.Frag} {mg:Str->Option Value} {base:Heap} {c1 c2 c3 c4:Tok} {C_NoWeb fqq:Addr} {dI:FuncData}
def nr (n:Int) (t:Int × Int):List Int:=if t.1 = n then [t.2] else if t.2 = n then [t.1] else []
def ja9 (ts:List (Int × Int)) (n:Int):List Int:=ts.flatMap (nr n)
theorem jmv {ts:List (Int × Int)} {j:Nat} {t:Int × Int} (h:ts[j]? = some t) (n:Int):ja9 (ts.take (j + 1)) n = ja9 (ts.take j) n ++ nr n t:=by
 unfold ja9
 rw [jaq h,List.flatMap_append]
 simp
theorem jfz:∀ (ts:List (Int × Int)) (n:Int),(ja9 ts n).length <= ts.length
 | [],n=>by simp [ja9]
 | t :: r,n=>by
  have ih:=jfz r n
  have e:ja9 (t :: r) n = nr n t ++ ja9 r n:=by simp [ja9]
  have e2:(nr n t).length <= 1:=by
   unfold nr
   split
   ·simp
   ·split <;> simp
  rw [e,List.length_append,List.length_cons]
  omega
def kz:List (Int × Int)->List Addr->List (Key × V)
 | p :: r,a :: s=>(Sum.inl p.1,V.ref a) :: kz r s
 | _,_=>[]
theorem jov:∀ {ps:List (Int × Int)} {as:List Addr} {p:Int × Int} {a:Addr},ps.length = as.length->kz (ps ++ [p]) (as ++ [a]) = kz ps as ++ [(Sum.inl p.1,V.ref a)]
 | [],[],_,_,_=>rfl
 | [],_ :: _,_,_,h=>by simp at h
 | _ :: _,[],_,_,h=>by simp at h
 | q :: r,b :: s,p,a,h=>by
  have ih:=jov (ps:=r) (as:=s) (p:=p) (a:=a) (by simpa using h)
  show (Sum.inl q.1,V.ref b) :: kz (r ++ [p]) (s ++ [a]) = _
  rw [ih]
  rfl
theorem jkx:∀ {ps:List (Int × Int)} {as:List Addr},ps.length = as.length->(kz ps as).map (·.1) = ps.map fun p=>(Sum.inl p.1:Key)
 | [],[],_=>rfl
 | [],_ :: _,h=>by simp at h
 | _ :: _,[],h=>by simp at h
 | q :: r,b :: s,h=>by
  show (Sum.inl q.1:Key) :: (kz r s).map (·.1) = _
  rw [jkx (by simpa using h)]
  rfl
theorem jlv:∀ {ps:List (Int × Int)} {as:List Addr} {i:Nat} {p:Int × Int} {a:Addr},(ps.map (·.1)).Nodup->ps[i]? = some p->as[i]? = some a->valV (kz ps as) (Sum.inl p.1:Key) = some (.ref a)
 | [],_,i,_,_,_,h,_=>by simp at h
 | _ :: _,[],i,_,_,_,_,h=>by simp at h
 | q :: r,b :: s,i,p,a,hn,h1,h2=>by
  rw [List.map_cons] at hn
  unfold valV
  show Option.map _ (List.find? _ ((Sum.inl q.1,V.ref b) :: kz r s)) = _
  rw [List.find?_cons]
  cases i with
  | zero =>
   simp at h1 h2
   subst h1 h2
   simp
  | succ i =>
   have hp:p ∈ r:=List.mem_of_getElem? (by simpa using h1)
   have hne:q.1 ≠ p.1:=fun z=>(List.nodup_cons.mp hn).1 (by rw [z]; exact List.mem_map_of_mem hp)
   have hd:decide ((Sum.inl q.1:Key) = Sum.inl p.1) = false:=decide_eq_false fun z=>hne (Sum.inl.inj z)
   dsimp only
   rw [hd]
   exact jlv (List.nodup_cons.mp hn).2 (i:=i) (by simpa using h1) (by simpa using h2)
theorem jef {ps:List (Int × Int)} {n:Int} (h:hasK (jav ps) n = true):∃ (i:Nat) (p:Int × Int),ps[i]? = some p/\p.1 = n:=by
 unfold hasK valV jav at h
 rw [Option.isSome_map,List.find?_isSome] at h
 obtain ⟨kv,hm,he⟩:=h
 obtain ⟨p,hp,e⟩:=List.mem_map.mp hm
 subst e
 obtain ⟨i,hi,e2⟩:=List.mem_iff_getElem.mp hp
 refine ⟨i,p,by rw [gE hi,e2],?_⟩
 exact Sum.inl.inj (of_decide_eq_true he)
theorem TiOk.ats {kvs:List (Key × V)}:∀ {ts:List (Int × Int)} {q:Int × Int},TiOk kvs q ts->∀ t ∈ ts,t.1 < t.2/\hasK kvs t.1 = true/\hasK kvs t.2 = true
 | [],_,_,_,h=>by cases h
 | p :: r,q,h,t,ht=>by
  rcases List.mem_cons.mp ht with e | ht
  ·rw [e]; exact ⟨h.1.2.1,h.1.2.2.1,h.1.2.2.2⟩
  ·exact TiOk.ats h.2 t ht
def jsp (H:Hp) (ps ts:List (Int × Int)) (as:List Addr):Prop:=∀ (i:Nat) (p:Int × Int) (a:Addr),ps[i]? = some p->as[i]? = some a->H a = some (.lst ((ja9 ts p.1).map V.int))
def jdn:Sp:=fun vs H Q _=>∃ v ps ts,vs = [v]/\jbg H v ps ts/\WebOk ps ts/\∀ d as H',H d = none->Same H H'->H' d = some (.dK (kz ps as))->as.length = ps.length->jsp H' ps ts as->Q (.ref d) H'
theorem jdw {α:Type} {l:List α} (h:l.Nodup) {i j:Nat} {a b:α} (h1:l[i]? = some a) (h2:l[j]? = some b) (hij:i ≠ j):a ≠ b:=by
 intro e
 subst e
 obtain ⟨p1,q1⟩:=List.getElem?_eq_some_iff.mp h1
 obtain ⟨p2,q2⟩:=List.getElem?_eq_some_iff.mp h2
 exact hij ((List.getElem_inj h).mp (q1.trans q2.symm))
theorem jkg (B:Blt mg) (D:DefAt K mg "nears_in" (top 32) ["web"] f fd):FnOk P w K mg base CX0 1 f fd ["web"] jdn:=by
 have sc:FnScope ["web","nears","one","other"] ["web"] (jab (top 32)):=by walk_at "SC"
 refine D.F.ok sc (fun vs H Q E h=>?_) (fun cdv A outer s H vs Q E hr h=>?_)
 ·obtain ⟨v,ps,ts,rfl,_⟩:=h
  rfl
 obtain ⟨v,ps,ts,rfl,hw,wok,h⟩:=h
 obtain ⟨x,pa,ta,xs,ys,rfl,ex,ep,et,pp,pt⟩:=id hw
 have hlx:xs.length = ps.length:=Paired.length pp
 have hly:ys.length = ts.length:=Paired.length pt
 have okl:=wok.pl
 have okt:=wok.tl
 have hnd:=wok.p.nodup
 have hu:=jb8 hr
 have hu0:_ < PySem.cLine:=Nat.lt_of_succ_lt hu
 refine ⟨_,(ja4 (jak (i:=1) sc.nd rfl (Or.inl rfl) (jbf (jdq rfl) rfl B.dict PyProof.Rows.boot_dict (ja0 (jbb (CpScope.of (N:=["place","price"]) (src:=[none,none]) (by rfl)) rfl (jau (jam q_ix (qv 0) ja5 (fun _ _=>rfl))) (fun _ _ _ _=>(jc9 (n:=2) rfl (jat (jad (i:=0) (jac (l:=["place","price"]) (by rfl)) rfl (Or.inl rfl)) (jat (jad (i:=1) (jac (l:=["place","price"]) (by rfl)) rfl (Or.inl rfl)) jbr)))) (fun _ _ _ _=>jbj) (fun _ _ _ _=>(jb4 (ja0 (qv 0) (ja0 (jb6 ja3) ja3))))) ja3))) (ja4 (jc5 PassesOwn.never rfl (jau (jam q_ix (qv 0) ja5 (fun _ _=>rfl))) (jc9 (n:=2) rfl (jat (jad (i:=2) sc.nd rfl (Or.inl rfl)) (jat (jad (i:=3) sc.nd rfl (Or.inl rfl)) jbr))) (ja4 (jc7 (q_bm PySem.F.plainAttrs_list PySem.F.slot_list_append PySem.F.type_list_append jdb (jaz hu (qv 1) (qv 2) (fun _ _=>rfl)) (ja0 (qv 3) ja3))) (ja7 (jc7 (q_bm PySem.F.plainAttrs_list PySem.F.slot_list_append PySem.F.type_list_append jdb (jaz hu (qv 1) (qv 3) (fun _ _=>rfl)) (ja0 (qv 2) ja3)))))) (ja7 (jah (qv 1))))),?_⟩
 walk_at "RD"
 refine jap (Itl K pa) H (fun R hR=>?_) (fun l hl0=>jaw ps.length (fun i σ' Hc=>∃ w1 w2 zs as,σ' = [w1,w2]/\Same H Hc/\Hc l = some (.lst zs)/\as.length = i/\as.Nodup/\(∀ a ∈ as,H a = none/\a ≠ l/\Hc a = some (.lst []))/\Paired (PairAt Hc) zs (kz (ps.take i) as)) ⟨none,none,[],[],rfl,ja2 hl0 _,ja1,rfl,List.nodup_nil,(fun _ h=>by cases h),.nil⟩ ?_ ?_)
 ·unfold jbd
  simp_arith [jai,ex,at0]
  exact ⟨pa,rfl,⟨_,SqL.of ep⟩,hR⟩
 ·rintro i σ' Hc hi ⟨w1,w2,zs,as,rfl,s2,ez,hla,nda,ha,pz⟩
  have x1:xs[i]? = some (xs[i]'(by omega)):=gE _
  have z1:SqL K Hc pa xs:=SqL.of (s2 _ _ ep)
  have hlt:(ps.take i).length = as.length:=by rw [List.length_take]; omega
  have hlz:zs.length = (kz (ps.take i) as).length:=Paired.length pz
  have hlz2:zs.length <= i:=by
   have e:=congrArg List.length (jkx hlt)
   rw [List.length_map,List.length_map] at e
   omega
  refine ⟨⟨_,_,z1,x1⟩,?_⟩
  rintro y H' ⟨rfl,hy⟩
  obtain ⟨q,hq,pq⟩:=jas pp (hy _ z1)
  obtain ⟨t,rfl,ht⟩:=pq.same s2
  simp_arith [ht]
  intro a1 ha1 t2 ht2
  have na1:a1 ≠ l:=fun z=>by rw [z,ez] at ha1; cases ha1
  have nt2:t2 ≠ a1:=fun z=>by rw [z,ja1] at ht2; cases ht2
  have s3:=ja2 ha1 (.lst [])
  have s4:=ja2 ht2 (.tup [.int q.1,.ref a1])
  have ez2:=s4 _ _ (s3 _ _ ez)
  have t6:=jba (ys:=zs ++ [.ref t2]) ez2
  refine ⟨zs,ez2,szl' (by omega),_,_,zs ++ [.ref t2],as ++ [a1],rfl,jao (s2.trans (s3.trans s4)) hl0,(by first | rfl | exact ja1),(by rw [List.length_append,hla]; rfl),?_,?_,?_⟩
  ·rw [List.nodup_append]
   refine ⟨nda,(by simp),fun a hm b hb=>?_⟩
   have hb':b = a1:=by simpa using hb
   intro z
   rw [hb'] at z
   have:=(ha a hm).2.2
   rw [z,ha1] at this
   cases this
  ·intro a hm
   rcases List.mem_append.mp hm with hm | hm
   ·obtain ⟨q1,q2,q3⟩:=ha a hm
    refine ⟨q1,q2,?_⟩
    rw [jae q2]
    exact s4 _ _ (s3 _ _ q3)
   ·have e:a = a1:=by simpa using hm
    subst e
    refine ⟨s2.free ha1,na1,?_⟩
    rw [jae na1]
    exact s4 _ _ ja1
  ·rw [jaq hq,jov hlt]
   refine jar (Paired.mapP pz fun v p q=>?_) ⟨t2,rfl,t6 _ _ rfl ja1⟩
   obtain ⟨b,e,q⟩:=q
   exact ⟨b,e,t6 _ _ rfl (s4 _ _ (s3 _ _ q))⟩
 rintro σ' Hc ⟨w1,w2,zs,as,rfl,s2,ez,hla,nda,ha,pz⟩
 refine ⟨⟨_,SqL.of (s2 _ _ ep),by omega⟩,?_⟩
 rw [List.take_length] at pz
 have hlz:zs.length = (kz ps as).length:=Paired.length pz
 have hkk:=jkx (ps:=ps) (as:=as) hla.symm
 have hlz2:zs.length = ps.length:=by
  have e:=congrArg List.length hkk
  rw [List.length_map,List.length_map] at e
  omega
 simp_arith [ez]
 refine ⟨kz ps as,pz,by omega,?_,fun d hd=>?_⟩
 ·rw [hkk]
  have hnd2:=hnd
  unfold List.Nodup at hnd2 ⊢
  rw [List.pairwise_map] at hnd2 ⊢
  exact hnd2.imp fun q z=>q (Sum.inl.inj z)
 have s3:=ja2 hd (.dK (kz ps as))
 have ed:upd Hc d (.dK (kz ps as)) d = some (.dK (kz ps as)):=ja1
 have hd0:=s2.free hd
 have ha3:∀ a ∈ as,H a = none/\a ≠ d/\upd Hc d (.dK (kz ps as)) a = some (.lst []):=fun a hm=>by
  obtain ⟨q1,q2,q3⟩:=ha a hm
  exact ⟨q1,jaa q3 hd,s3 _ _ q3⟩
 have s23:=s2.trans s3
 generalize upd Hc d (.dK (kz ps as)) = H2 at s23 ed ha3
 clear s3 s2 ez pz ha hlz hd
 refine jbq (Itl K ta) H2 (fun R hR=>?_) (jby (K:=K) (a:=ta) (xs:=ys) (fun j σ H3=>∃ v1 v2,σ = [some (.ref x),some (.ref d),v1,v2]/\Same H H3/\H3 d = some (.dK (kz ps as))/\jsp H3 ps (ts.take j) as) ⟨none,none,rfl,s23,ed,fun i p a _ h2=>(ha3 a (List.mem_of_getElem? h2)).2.2⟩ (fun i σ H3 _ ⟨_,_,_,s3,_⟩=>SqL.of (s3 _ _ et)) ?_ ?_)
 ·unfold jbd
  simp_arith [jai,s23 _ _ ex,at1]
  exact ⟨ta,rfl,⟨_,SqL.of (s23 _ _ et)⟩,hR⟩
 ·rintro j y σ H3 hj ⟨v1,v2,rfl,s3,ed3,hN⟩
  obtain ⟨q,hq,pq⟩:=jas pt hj
  obtain ⟨t,rfl,ht⟩:=pq.same s3
  obtain ⟨b1,b2,b3⟩:=wok.t.ats q (List.mem_of_getElem? hq)
  obtain ⟨i1,p1,g1,e1⟩:=jef b2
  obtain ⟨i2,p2,g2,e2⟩:=jef b3
  have hi1:i1 < as.length:=by have:=(List.getElem?_eq_some_iff.mp g1).1; omega
  have hi2:i2 < as.length:=by have:=(List.getElem?_eq_some_iff.mp g2).1; omega
  have A1:as[i1]? = some as[i1]:=gE hi1
  have A2:as[i2]? = some as[i2]:=gE hi2
  generalize as[i1] = a1 at A1
  generalize as[i2] = a2 at A2
  have V1:=jlv hnd g1 A1
  have V2:=jlv hnd g2 A2
  have n12:i1 ≠ i2:=fun z=>by rw [z,g2] at g1; cases g1; omega
  have na:a1 ≠ a2:=jdw nda A1 A2 n12
  rw [e1] at V1
  rw [e2] at V2
  have M1:=hN i1 p1 a1 g1 A1
  have M2:=hN i2 p2 a2 g2 A2
  have hlj:∀ n,(ja9 (ts.take j) n).length <= 120:=fun n=>Nat.le_trans (jfz _ _) (by rw [List.length_take]; omega)
  have nd1:d ≠ a1:=((ha3 a1 (List.mem_of_getElem? A1)).2.1).symm
  have nd2:d ≠ a2:=((ha3 a2 (List.mem_of_getElem? A2)).2.1).symm
  simp_arith [ht,ed3,V1]
  refine ⟨⟨a1,_,rfl,M1⟩,?_⟩
  simp_arith [M1]
  refine ⟨szl' (by rw [List.length_map]; have:=hlj p1.1; omega),?_⟩
  simp_arith [jae nd1,ed3,V2]
  refine ⟨⟨a2,_,rfl,(by rw [jae na.symm]; exact M2)⟩,?_⟩
  simp_arith [jae na.symm,M2]
  refine ⟨szl' (by rw [List.length_map]; have:=hlj p2.1; omega),_,_,rfl,?_,?_,?_⟩
  ·intro b o hb
   rw [jae (jaa hb (ha3 a2 (List.mem_of_getElem? A2)).1),jae (jaa hb (ha3 a1 (List.mem_of_getElem? A1)).1)]
   exact s3 b o hb
  ·rw [jae nd2,jae nd1]
   exact ed3
  ·intro i p a hp ha'
   rw [jmv hq,List.map_append]
   have hpe:∀ {k:Nat} {r:Int × Int},ps[k]? = some r->r.1 = p.1->k = i:=fun {k r} hr he=>by
    have h1:(ps.map (·.1))[k]? = some r.1:=by rw [List.getElem?_map,hr]; rfl
    have h2:(ps.map (·.1))[i]? = some p.1:=by rw [List.getElem?_map,hp]; rfl
    by_cases z:k = i
    ·exact z
    ·exact absurd he (jdw hnd h1 h2 z)
   by_cases c2:i = i2
   ·subst c2
    rw [g2] at hp
    cases hp
    rw [A2] at ha'
    cases ha'
    have e3:nr p2.1 q = [q.1]:=by
     unfold nr
     rw [if_neg (by omega),if_pos e2.symm]
    rw [ja1,e3]
    rfl
   by_cases c1:i = i1
   ·subst c1
    rw [g1] at hp
    cases hp
    rw [A1] at ha'
    cases ha'
    have e3:nr p1.1 q = [q.2]:=by
     unfold nr
     rw [if_pos e1.symm]
    rw [jae na,ja1,e3]
    rfl
   have n1:a ≠ a1:=jdw nda ha' A1 c1
   have n2:a ≠ a2:=jdw nda ha' A2 c2
   have e3:nr p.1 q = []:=by
    unfold nr
    rw [if_neg (fun z=>c1 (hpe g1 (e1.trans z)).symm),if_neg (fun z=>c2 (hpe g2 (e2.trans z)).symm)]
   rw [jae n2,jae n1,e3,List.map_nil,List.append_nil]
   exact hN i p a hp ha'
 ·rintro σ H3 ⟨v1,v2,rfl,s3,ed3,hN⟩
  rw [hly,List.take_length] at hN
  walk_at "RD"
  exact h d as H3 hd0 s3 ed3 hla hN
def jfn:Sp:=fun vs H Q _=>∃ d n kvs,vs = [.ref d,.int n]/\H d = some (.dK kvs)/\hasK kvs n = true/\Q (.bl true) H
def jrh:Sp:=fun vs H Q _=>∃ d kvs l,∃ ns:List Int,vs = [.ref d,.ref l]/\H d = some (.dK kvs)/\H l = some (.tup (ns.map V.int))/\(∀ n ∈ ns,hasK kvs n = true)/\ns.length <= 900/\∀ H',Same H H'->Q (.bl true) H'
theorem jim:∀ (n:Nat),((List.replicate n true).all id) = true
 | 0=>rfl
 | n + 1=>by rw [List.replicate_succ,List.all_cons,jim n]; rfl
theorem jsd {ns:List Int} {i:Nat} {x:V} (h:(ns.map V.int)[i]? = some x):∃ n,ns[i]? = some n/\x = .int n:=by
 rw [List.getElem?_map] at h
 cases c:ns[i]? with
 | none=>rw [c] at h; cases h
 | some n=>rw [c] at h; exact ⟨n,rfl,(Option.some.inj h).symm⟩
def NrAt (H:Hp) (d:Addr) (ps ts:List (Int × Int)):Prop:=∃ as,H d = some (.dK (kz ps as))/\as.length = ps.length/\jsp H ps ts as
theorem NrAt.same {H H':Hp} {d:Addr} {ps ts:List (Int × Int)} (h:NrAt H d ps ts) (s:Same H H'):NrAt H' d ps ts:=by
 obtain ⟨as,e,l,n⟩:=h
 exact ⟨as,s _ _ e,l,fun i p a h1 h2=>s _ _ (n i p a h1 h2)⟩
theorem NrAt.get {H:Hp} {d:Addr} {ps ts:List (Int × Int)} (h:NrAt H d ps ts) (hn:(ps.map (·.1)).Nodup) {n:Int} (m:n ∈ ps.map (·.1)):∃ as a,H d = some (.dK (kz ps as))/\valV (kz ps as) (Sum.inl n:Key) = some (.ref a)/\H a = some (.lst ((ja9 ts n).map V.int)):=by
 obtain ⟨as,e,l,nr⟩:=h
 obtain ⟨p,hp,rfl⟩:=List.mem_map.mp m
 obtain ⟨i,hi,e2⟩:=List.mem_iff_getElem.mp hp
 have h1:ps[i]? = some p:=by rw [gE hi,e2]
 have h2:as[i]? = some (as[i]'(by omega)):=gE _
 exact ⟨as,_,e,jlv hn h1 h2,nr i p _ h1 h2⟩
theorem jkq (B:Blt mg) (D:DefAt K mg "is_place" (top 30) ["prices","thing"] f fd) (Dqf:DefAt K mg "is_whole" (top 15) ["thing"] fqf dqf) (Gqf:FnOk P w K mg base CX0 1 fqf dqf ["thing"] jk9):FnOk P w K mg base CX0 2 f fd ["prices","thing"] jfn:=by
 have sc:FnScope ["prices","thing"] ["prices","thing"] (jab (top 30)):=by walk_at "SC"
 refine D.F.ok sc (fun vs H Q E h=>?_) (fun cdv A outer s H vs Q E hr h=>?_)
 ·obtain ⟨d,n,kvs,rfl,_⟩:=h
  rfl
 obtain ⟨d,n,kvs,rfl,ed,hk,h⟩:=h
 unfold hasK at hk
 have hu:=jb8 hr
 have hu0:_ < PySem.cLine:=Nat.lt_of_succ_lt hu
 refine ⟨_,(ja7 (jah (jcq (ja8 Gqf (hr.mono (by decide)) rfl Dqf.m Dqf.F.kp Dqf.b .nil jan (ja0 (qv 1) ja3)) (jcd (jof (jmm hu (qv 1) (qv 0))))))),?_⟩
 walk_at "RD"
 refine ⟨_,.int,rfl,rfl,?_⟩
 simp_arith [jlg,ed,hk]
 exact h
theorem jhv (B:Blt mg) (D:DefAt K mg "are_places" (top 31) ["prices","things"] f fd) (Dqj:DefAt K mg "is_place" (top 30) ["prices","thing"] fqj dqj) (Gqj:FnOk P w K mg base CX0 2 fqj dqj ["prices","thing"] jfn):FnOk P w K mg base CX0 3 f fd ["prices","things"] jrh:=by
 have sc:FnScope ["prices","things"] ["prices","things"] (jab (top 31)):=by walk_at "SC"
 refine D.F.ok sc (fun vs H Q E h=>?_) (fun cdv A outer s H vs Q E hr h=>?_)
 ·obtain ⟨d,kvs,l,ns,rfl,_⟩:=h
  rfl
 obtain ⟨d,kvs,l,ns,rfl,ed,el,hin,hl9,h⟩:=h
 have hu:=jb8 hr
 have hu0:_ < PySem.cLine:=Nat.lt_of_succ_lt hu
 refine ⟨_,(ja7 (jah (jaf (q_all rfl) rfl B.all PyProof.Rows.boot_all (ja0 (jbb (CpScope.of (N:=["thing","prices"]) (src:=[none,some 0]) (by rfl)) rfl (pi_tup (qv 1)) (fun _ _ _ _=>(jad (i:=0) (jac (l:=["thing","prices"]) (by rfl)) rfl (Or.inl rfl))) (fun _ _ _ _=>jbj) (fun _ _ _ _=>(ja8 Gqj (hr.mono (by decide)) rfl Dqj.m Dqj.F.kp Dqj.b .nil jan (ja0 (qv 1) (ja0 (qv 0) ja3))))) ja3)))),?_⟩
 walk_at "RD"
 refine jap (Itt K l) H (fun R hR=>?_) (fun z hz0=>jaw ns.length (fun i σ' Hc=>∃ w1,σ' = [w1,some (.ref d)]/\Same H Hc/\Hc z = some (.lst ((List.replicate i true).map V.bl))/\i <= 900) ⟨none,rfl,ja2 hz0 _,ja1,by omega⟩ ?_ ?_)
 ·unfold iTup
  walk_at "RD"
  exact ⟨l,rfl,⟨_,SqT.of el⟩,hR⟩
 ·rintro i σ' Hc hi ⟨w1,rfl,s2,ez,i9⟩
  have x1:(ns.map V.int)[i]? = some ((ns.map V.int)[i]'(by rw [List.length_map]; omega)):=gE _
  refine ⟨⟨_,_,SqT.of (s2 _ _ el),x1⟩,?_⟩
  rintro y H' ⟨rfl,hy⟩
  obtain ⟨n,hn,rfl⟩:=jsd (hy _ (SqT.of (s2 _ _ el)))
  walk_at "RD"
  refine ⟨d,n,kvs,rfl,s2 _ _ ed,hin n (List.mem_of_getElem? hn),?_⟩
  refine ⟨_,ez,?_,_,rfl,jao s2 hz0,?_,by omega⟩
  ·rw [List.length_map,List.length_replicate]
   exact szl' (by omega)
  ·rw [ja1,List.map_replicate]
   first | rw [<- List.replicate_succ',List.replicate_succ] | rw [List.map_replicate,List.replicate_succ']
 ·rintro σ' Hc ⟨w1,rfl,s2,ez,_⟩
  refine ⟨⟨_,SqT.of (s2 _ _ el),by rw [List.length_map]; omega⟩,?_⟩
  simp_arith [ez]
  refine ⟨_,rfl,?_⟩
  rw [jim]
  exact h Hc s2
def prc (ps:List (Int × Int)) (n:Int):Int:=((ps.find? fun p=>decide (p.1 = n)).map (·.2)).getD 0
theorem jb5 {ps:List (Int × Int)} {n:Int} (h:n ∈ ps.map (·.1)):valV (jav ps) (Sum.inl n:Key) = some (.int (prc ps n)):=by
 unfold prc valV jav
 rw [List.find?_map]
 have e:((fun kv:Key × V=>decide (kv.1 = Sum.inl n)) ∘ fun p:Int × Int=>((Sum.inl p.1:Key),V.int p.2)) = fun p:Int × Int=>decide (p.1 = n):=by
  funext p
  show decide ((Sum.inl p.1:Key) = Sum.inl n) = decide (p.1 = n)
  by_cases c:p.1 = n
  ·rw [c,decide_eq_true rfl,decide_eq_true rfl]
  ·rw [decide_eq_false c,decide_eq_false fun z=>c (Sum.inl.inj z)]
 rw [e]
 cases c:ps.find? fun p=>decide (p.1 = n) with
 | none =>
  obtain ⟨p,hp,ep⟩:=List.mem_map.mp h
  have:=List.find?_eq_none.mp c p hp
  rw [ep] at this
  simp at this
 | some p=>rfl
theorem joa {ps:List (Int × Int)} {p:Int × Int} (hn:(ps.map (·.1)).Nodup) (h:p ∈ ps):prc ps p.1 = p.2:=by
 have e:=jb5 (List.mem_map_of_mem (f:=fun q:Int × Int=>q.1) h)
 rw [jh6 hn h] at e
 injection e with e
 injection e with e
 exact e.symm
def jbk (ps:List (Int × Int)) (ns:List Int):Int:=(ns.map (prc ps)).sum
theorem jce {ts:List (Int × Int)} (h:∀ t ∈ ts,t.1 < t.2) {n m:Int}:m ∈ ja9 ts n ↔ (n,m) ∈ ts \/ (m,n) ∈ ts:=by
 unfold ja9
 rw [List.mem_flatMap]
 constructor
 ·rintro ⟨t,ht,hm⟩
  unfold nr at hm
  split at hm
  ·rename_i c
   rw [List.mem_singleton] at hm
   subst hm c
   exact .inl ht
  ·split at hm
   ·rename_i c1 c
    rw [List.mem_singleton] at hm
    subst hm c
    exact .inr ht
   ·cases hm
 ·rintro (q | q)
  ·exact ⟨_,q,by unfold nr; rw [if_pos rfl]; exact List.mem_singleton.mpr rfl⟩
  ·refine ⟨_,q,?_⟩
   have:=h _ q
   unfold nr
   rw [if_neg (fun z=>by simp only at z this; omega),if_pos rfl]
   exact List.mem_singleton.mpr rfl
theorem jbc {ps ts:List (Int × Int)} (wok:WebOk ps ts) {n m:Int} (h:m ∈ ja9 ts n):m ∈ ps.map (·.1):=by
 rcases (jce fun t ht=>(TiOk.ats wok.t t ht).1).mp h with q | q
 ·obtain ⟨i,p,hp,e⟩:=jef (TiOk.ats wok.t _ q).2.2
  exact List.mem_map.mpr ⟨p,List.mem_of_getElem? hp,e⟩
 ·obtain ⟨i,p,hp,e⟩:=jef (TiOk.ats wok.t _ q).2.1
  exact List.mem_map.mpr ⟨p,List.mem_of_getElem? hp,e⟩
theorem jbu {ps ts:List (Int × Int)} (wok:WebOk ps ts) (n:Int):(ja9 ts n).length <= 120:=Nat.le_trans (jfz ts n) wok.tl
theorem jbt {ns:List Int} {i:Nat} {x:V} (h:(ns.map V.int)[i]? = some x):∃ n,ns[i]? = some n/\x = .int n:=by
 rw [List.getElem?_map] at h
 cases c:ns[i]? with
 | none=>rw [c] at h; cases h
 | some n=>rw [c] at h; cases h; exact ⟨n,rfl,rfl⟩
theorem flat_ints:∀ (gs:List Int),(gs.map V.int).all jcg = true
 | []=>rfl
 | g :: r=>by rw [List.map_cons,List.all_cons,flat_ints r]; rfl
structure Bk (H:Hp) (pd nd:Addr) (ps ts:List (Int × Int)):Prop where
 p:H pd = some (.dK (jav ps))
 n:NrAt H nd ps ts
 ok:WebOk ps ts
theorem Bk.same {H H':Hp} {pd nd:Addr} {ps ts:List (Int × Int)} (h:Bk H pd nd ps ts) (s:Same H H'):Bk H' pd nd ps ts:=⟨s _ _ h.p,h.n.same s,h.ok⟩
def jjf (ps ts:List (Int × Int)) (v:Int):Bool:=decide (ja9 ts v ≠ []) && decide (jbk ps (ja9 ts v) <= prc ps v)
def jf6 (ps ts:List (Int × Int)) (v:Int):Bool:=match ja9 ts v with
 | [u]=>decide (prc ps v < prc ps u)
 | _=>false
def jhn (ps ts:List (Int × Int)) (u v:Int):Bool:=decide (v ∈ ja9 ts u) && decide (prc ps v <= prc ps u) && (ja9 ts u).all fun p=>decide (p = v) || decide (p ∈ ja9 ts v)
def jfg (ts:List (Int × Int)) (u v:Int):Bool:=decide (u ≠ v) && (decide (ja9 ts u ≠ []) && decide (ja9 ts u = ja9 ts v))
def jd5:Sp:=fun vs H Q _=>∃ pd nd v ps ts,vs = [.ref pd,.ref nd,.int v]/\Bk H pd nd ps ts/\v ∈ ps.map (·.1)/\∀ H',Same H H'->Q (.int (jbk ps (ja9 ts v))) H'
def spV1 (f:List (Int × Int)->List (Int × Int)->Int->Bool):Sp:=fun vs H Q _=>∃ pd nd v ps ts,vs = [.ref pd,.ref nd,.int v]/\Bk H pd nd ps ts/\v ∈ ps.map (·.1)/\∀ H',Same H H'->Q (.bl (f ps ts v)) H'
def jr9:Sp:=fun vs H Q _=>∃ pd nd u v ps ts,vs = [.ref pd,.ref nd,.int u,.int v]/\Bk H pd nd ps ts/\u ∈ ps.map (·.1)/\v ∈ ps.map (·.1)/\∀ H',Same H H'->Q (.bl (jhn ps ts u v)) H'
def jnm:Sp:=fun vs H Q _=>∃ pd nd u v ps ts,vs = [.ref nd,.int u,.int v]/\Bk H pd nd ps ts/\u ∈ ps.map (·.1)/\v ∈ ps.map (·.1)/\∀ H',Same H H'->Q (.bl (jfg ts u v)) H'
theorem jbl {H:Hp} {a:Addr} {ns:List Int} (e:H a = some (.lst (ns.map V.int))):Rep H (.lst (ns.map Dt.int)) (.ref a):=by
 rw [Rep]
 refine ⟨a,_,rfl,e,?_⟩
 clear e
 induction ns with
 | nil=>rw [List.map_nil,Reps]; rfl
 | cons n r ih=>rw [List.map_cons,Reps]; exact ⟨_,_,rfl,by rw [Rep],ih⟩
theorem jjb (B:Blt mg) (D:DefAt K mg "cost_near" (top 6) ["prices","nears","v"] f fd):FnOk P w K mg base CX0 1 f fd ["prices","nears","v"] jd5:=by
 have sc:FnScope ["prices","nears","v"] ["prices","nears","v"] (jab (top 6)):=by walk_at "SC"
 refine D.F.ok sc (fun vs H Q E h=>?_) (fun cdv A outer s H vs Q E hr h=>?_)
 ·obtain ⟨pd,nd,v,ps,ts,rfl,_⟩:=h
  rfl
 obtain ⟨pd,nd,v,ps,ts,rfl,bk,hv,h⟩:=h
 have hnd:=bk.ok.p.nodup
 obtain ⟨as,a,e1,e2,e3⟩:=bk.n.get hnd hv
 have hla:=jbu bk.ok v
 have hu:=jb8 hr
 have hu0:_ < PySem.cLine:=Nat.lt_of_succ_lt hu
 refine ⟨_,(ja7 (jah (jaf (jhh rfl) rfl B.sum PyProof.Rows.boot_sum (ja0 (jbb (CpScope.of (N:=["place","prices"]) (src:=[none,some 0]) (by rfl)) rfl (jau (jaz hu (qv 1) (qv 2) (fun _ _=>rfl))) (fun _ _ _ _=>(jad (i:=0) (jac (l:=["place","prices"]) (by rfl)) rfl (Or.inl rfl))) (fun _ _ _ _=>jbj) (fun _ _ _ _=>(jaz hu (qv 1) (qv 0) (fun _ _=>rfl)))) ja3)))),?_⟩
 walk_at "RD"
 refine jap (Itl K a) H (fun R hR=>?_) (fun z hz=>jaw (ja9 ts v).length (fun i σ' Hc=>∃ w1,σ' = [w1,some (.ref pd)]/\Same H Hc/\Hc z = some (.lst ((((ja9 ts v).take i).map (prc ps)).map V.int))) ⟨none,rfl,ja2 hz _,ja1⟩ ?_ ?_)
 ·unfold jbd
  simp_arith [e1,e2]
  exact ⟨a,rfl,⟨_,SqL.of e3⟩,hR⟩
 ·rintro i σ' Hc hi ⟨w1,rfl,s4,ez⟩
  have z1:SqL K Hc a ((ja9 ts v).map V.int):=SqL.of (s4 _ _ e3)
  have x1:((ja9 ts v).map V.int)[i]? = some (((ja9 ts v).map V.int)[i]'(by rw [List.length_map]; omega)):=gE _
  refine ⟨⟨_,_,z1,x1⟩,?_⟩
  rintro y H' ⟨rfl,hy⟩
  obtain ⟨n,hn,rfl⟩:=jbt (hy _ z1)
  have ep':=s4 _ _ bk.p
  have hp:=jb5 (jbc bk.ok (List.mem_of_getElem? hn))
  simp_arith [ep',hp]
  refine ⟨_,ez,?_,_,rfl,jao s4 hz,?_⟩
  ·rw [List.length_map,List.length_map,List.length_take]
   exact szl' (by omega)
  ·rw [ja1,jaq hn,List.map_append,List.map_append]
   rfl
 rintro σ' H1 ⟨w1,rfl,s1,ez⟩
 refine ⟨⟨_,SqL.of (s1 _ _ e3),by rw [List.length_map]; omega⟩,?_⟩
 rw [List.take_length] at ez
 exact ⟨z,_,rfl,ez,h H1 s1⟩
theorem jj1 (B:Blt mg) (D:DefAt K mg "near_fits" (top 7) ["prices","nears","v"] f fd) (Dqd:DefAt K mg "cost_near" (top 6) ["prices","nears","v"] fqd dqd) (Gqd:FnOk P w K mg base CX0 1 fqd dqd ["prices","nears","v"] jd5):FnOk P w K mg base CX0 2 f fd ["prices","nears","v"] (spV1 jjf):=by
 have sc:FnScope ["prices","nears","v"] ["prices","nears","v"] (jab (top 7)):=by walk_at "SC"
 refine D.F.ok sc (fun vs H Q E h=>?_) (fun cdv A outer s H vs Q E hr h=>?_)
 ·obtain ⟨pd,nd,v,ps,ts,rfl,_⟩:=h
  rfl
 obtain ⟨pd,nd,v,ps,ts,rfl,bk,hv,h⟩:=h
 have hnd:=bk.ok.p.nodup
 obtain ⟨as,a,e1,e2,e3⟩:=bk.n.get hnd hv
 have hla:=jbu bk.ok v
 have hu:=jb8 hr
 have hu0:_ < PySem.cLine:=Nat.lt_of_succ_lt hu
 refine ⟨_,(ja7 (jah (jcq (jb0 q_gt (jaf jdl rfl B.len PySem.boot_len (ja0 (jaz hu (qv 1) (qv 2) (fun _ _=>rfl)) ja3)) ja5 (jag _)) (jcd (jb0 q_le (ja8 Gqd (hr.mono (by decide)) rfl Dqd.m Dqd.F.kp Dqd.b .nil jan (ja0 (qv 0) (ja0 (qv 1) (ja0 (qv 2) ja3)))) (jaz hu (qv 0) (qv 2) (fun _ _=>rfl)) (jag _)))))),?_⟩
 simp_arith [e1,e2,jai,e3,List.length_map]
 cases c:ja9 ts v with
 | nil =>
  rw [show decide (((([]:List Int).length:Nat):Int) > 0) = false from rfl]
  walk_at "RD"
  have:=h H (Same.refl _)
  unfold jjf at this
  rw [c] at this
  exact this
 | cons m r =>
  rw [decide_eq_true (show (((m :: r).length:Nat):Int) > 0 by rw [List.length_cons]; omega)]
  walk_at "RD"
  refine ⟨pd,nd,v,ps,ts,rfl,bk,hv,fun H1 s1=>?_⟩
  simp_arith [s1 _ _ bk.p,jb5 hv]
  have:=h H1 s1
  unfold jjf at this
  rw [decide_eq_true (show ja9 ts v ≠ [] by rw [c]; exact fun z=>nomatch z),Bool.true_and] at this
  exact this
theorem jj3 (B:Blt mg) (D:DefAt K mg "leaf_fits" (top 8) ["prices","nears","v"] f fd):FnOk P w K mg base CX0 1 f fd ["prices","nears","v"] (spV1 jf6):=by
 have sc:FnScope ["prices","nears","v"] ["prices","nears","v"] (jab (top 8)):=by walk_at "SC"
 refine D.F.ok sc (fun vs H Q E h=>?_) (fun cdv A outer s H vs Q E hr h=>?_)
 ·obtain ⟨pd,nd,v,ps,ts,rfl,_⟩:=h
  rfl
 obtain ⟨pd,nd,v,ps,ts,rfl,bk,hv,h⟩:=h
 have hnd:=bk.ok.p.nodup
 obtain ⟨as,a,e1,e2,e3⟩:=bk.n.get hnd hv
 have hla:=jbu bk.ok v
 have hu:=jb8 hr
 have hu0:_ < PySem.cLine:=Nat.lt_of_succ_lt hu
 refine ⟨_,(ja7 (jah (jcq (jb0 q_eq (jaf jdl rfl B.len PySem.boot_len (ja0 (jaz hu (qv 1) (qv 2) (fun _ _=>rfl)) ja3)) ja5 (jag _)) (jcd (jb0 q_gt (jaz hu (qv 0) (jam q_ix (jaz hu (qv 1) (qv 2) (fun _ _=>rfl)) ja5 (fun _ _=>rfl)) (fun _ _=>rfl)) (jaz hu (qv 0) (qv 2) (fun _ _=>rfl)) (jag _)))))),?_⟩
 simp_arith [e1,e2,jai,e3,List.length_map]
 have h0:=h H (Same.refl _)
 unfold jf6 at h0
 match c:ja9 ts v,h0 with
 | [],h0 =>
  rw [show decide (((([]:List Int).length:Nat):Int) = 1) = false from rfl]
  walk_at "RD"
  exact h0
 | [u],h0 =>
  rw [show decide (((([u]:List Int).length:Nat):Int) = 1) = true from rfl]
  have hu1:=jb5 (jbc bk.ok (n:=v) (m:=u) (by rw [c]; exact List.mem_singleton.mpr rfl))
  rw [c] at e3
  simp_arith [e1,e2,jai,e3,at0,bk.p,hu1,jb5 hv]
  exact h0
 | m :: n :: r,h0 =>
  rw [decide_eq_false (show ¬ (((m :: n :: r).length:Nat):Int) = 1 by rw [List.length_cons,List.length_cons]; omega)]
  walk_at "RD"
  exact h0
theorem jj0 (B:Blt mg) (D:DefAt K mg "over_fits" (top 9) ["prices","nears","u","v"] f fd):FnOk P w K mg base CX0 1 f fd ["prices","nears","u","v"] jr9:=by
 have sc:FnScope ["prices","nears","u","v"] ["prices","nears","u","v"] (jab (top 9)):=by walk_at "SC"
 refine D.F.ok sc (fun vs H Q E h=>?_) (fun cdv A outer s H vs Q E hr h=>?_)
 ·obtain ⟨pd,nd,u,v,ps,ts,rfl,_⟩:=h
  rfl
 obtain ⟨pd,nd,u,v,ps,ts,rfl,bk,hu2,hv,h⟩:=h
 have hnd:=bk.ok.p.nodup
 obtain ⟨as,a,e1,e2,e3⟩:=bk.n.get hnd hv
 obtain ⟨as2,a2,f1,f2,f3⟩:=bk.n.get hnd hu2
 have hla:=jbu bk.ok u
 have hu:=jb8 hr
 have hu0:_ < PySem.cLine:=Nat.lt_of_succ_lt hu
 refine ⟨_,(ja4 (jb3 (PW.pt (jf4 (jal jcl (qv 3) (jaz hu (qv 1) (qv 2) (fun _ _=>rfl)) (by with_unfolding_all rfl)) (je1 (jal q_gt (jaz hu (qv 0) (qv 3) (fun _ _=>rfl)) (jaz hu (qv 0) (qv 2) (fun _ _=>rfl)) (jag _))))) (ja7 (jah jdd)) jaj) (ja7 (jah (jaf (q_all rfl) rfl B.all PyProof.Rows.boot_all (ja0 (jbb (CpScope.of (N:=["place","v","nears"]) (src:=[none,some 3,some 1]) (by rfl)) rfl (jau (jaz hu (qv 1) (qv 2) (fun _ _=>rfl))) (fun _ _ _ _=>(jad (i:=0) (jac (l:=["place","v","nears"]) (by rfl)) rfl (Or.inl rfl))) (fun _ _ _ _=>jbj) (fun _ _ _ _=>(q_or (jb0 q_eq (qv 0) (qv 1) (jag _)) (jcd (jb0 jhi (qv 0) (jaz hu (qv 2) (qv 1) (fun _ _=>rfl)) (by with_unfolding_all rfl)))))) ja3))))),?_⟩
 refine ja6 fun R hR=>?_
 simp_arith [f1,f2,f3,jai,jbp,flat_ints,jcg]
 by_cases c1:v ∈ ja9 ts u
 ·rw [decide_eq_true c1]
  simp_arith [bk.p,jb5 hv,jb5 hu2]
  by_cases c2:prc ps v > prc ps u
  ·rw [decide_eq_true c2]
   walk_at "RD"
   have:=h H (Same.refl _)
   unfold jhn at this
   rw [decide_eq_false (show ¬ prc ps v <= prc ps u by omega),Bool.and_false,Bool.false_and] at this
   exact this
  ·rw [decide_eq_false c2]
   walk_at "RD"
   subst hR
   have fin:jhn ps ts u v = (ja9 ts u).all fun p=>decide (p = v) || decide (p ∈ ja9 ts v):=by
    unfold jhn
    rw [decide_eq_true c1,decide_eq_true (show prc ps v <= prc ps u by omega)]
    rfl
   rw [fin] at h
   walk_at "RD"
   refine jap (Itl K a2) H (fun R hR=>?_) (fun z hz=>jaw (ja9 ts u).length (fun i σ' Hc=>∃ w1,σ' = [w1,some (.int v),some (.ref nd)]/\Same H Hc/\Hc z = some (.lst ((((ja9 ts u).take i).map fun p=>decide (p = v) || decide (p ∈ ja9 ts v)).map V.bl))) ⟨none,rfl,ja2 hz _,ja1⟩ ?_ ?_)
   ·unfold jbd
    simp_arith [f1,f2]
    exact ⟨a2,rfl,⟨_,SqL.of f3⟩,hR⟩
   ·rintro i σ' Hc hi ⟨w1,rfl,s4,ez⟩
    have z1:SqL K Hc a2 ((ja9 ts u).map V.int):=SqL.of (s4 _ _ f3)
    have x1:((ja9 ts u).map V.int)[i]? = some (((ja9 ts u).map V.int)[i]'(by rw [List.length_map]; omega)):=gE _
    refine ⟨⟨_,_,z1,x1⟩,?_⟩
    rintro y H' ⟨rfl,hy⟩
    obtain ⟨n,hn,rfl⟩:=jbt (hy _ z1)
    have g1:=s4 _ _ e1
    have g3:=s4 _ _ e3
    by_cases c3:n = v
    ·simp_arith [c3]
     simp only [decide_true,if_true]
     refine ⟨_,ez,?_,_,rfl,jao s4 hz,?_⟩
     ·rw [List.length_map,List.length_map,List.length_take]
      exact szl' (by omega)
     ·rw [ja1,jaq hn,List.map_append,List.map_append]
      simp [c3]
    ·simp_arith [decide_eq_false c3]
     simp_arith [g1,e2,g3,jai,jbp,flat_ints,jcg]
     refine ⟨_,ez,?_,_,rfl,jao s4 hz,?_⟩
     ·rw [List.length_map,List.length_map,List.length_take]
      exact szl' (by omega)
     ·rw [ja1,jaq hn,List.map_append,List.map_append]
      simp [c3]
   rintro σ' H1 ⟨w1,rfl,s1,ez⟩
   refine ⟨⟨_,SqL.of (s1 _ _ f3),by rw [List.length_map]; omega⟩,?_⟩
   rw [List.take_length] at ez
   simp_arith [ez]
   refine ⟨_,rfl,?_⟩
   rw [List.all_map]
   exact h H1 s1
 ·rw [decide_eq_false c1]
  walk_at "RD"
  have:=h H (Same.refl _)
  unfold jhn at this
  rw [decide_eq_false c1,Bool.false_and,Bool.false_and] at this
  exact this
end
end My
namespace L2
open PySem PySem.Spec PyProof.Rows
section
variable {prog:Program} {w:World} {A:Around} {R:Result->Shared->Prop} {I:Addr} {fp wr:List Addr} {n:Nat} {P:Nat->Value->Prop} {St:Nat->Heap->Prop}
def jk4 (val:Nat->Int) (n:Nat) (m:Int):Prop:=(∃ i,i < n/\m = val i)/\∀ i,i < n->m <= val i
theorem jk4.up {val:Nat->Int} {j:Nat} {m:Int} (h:jk4 val j m) (hb:val j < m):jk4 val (j + 1) (val j) :=
 ⟨⟨j,Nat.lt_succ_self _,rfl⟩,fun i hi=>by
  rcases Nat.lt_succ_iff_lt_or_eq.mp hi with z | z
  ·have:=h.2 i z; omega
  ·rw [z]; exact Int.le_refl _⟩
theorem jk4.keep {val:Nat->Int} {j:Nat} {m:Int} (h:jk4 val j m) (hb:¬ val j < m):jk4 val (j + 1) m :=
 ⟨let ⟨i,hi,e⟩:=h.1; ⟨i,Nat.lt_succ_of_lt hi,e⟩,fun i hi=>by
  rcases Nat.lt_succ_iff_lt_or_eq.mp hi with z | z
  ·exact h.2 i z
  ·rw [z]; omega⟩
theorem jfd:(toString "min" ++ toString ".loop":String) = "min.loop":=by decide
theorem jkv (W:Walks prog w A.in1 I fp wr n P St) (val:Nat->Int) (hval:∀ i v,P i v->∃ t:Tok,v = Value.int (val i) t) (kw:List (Str × Value)) (S:Addr) (hSf:S ∉ fp) :
  ∀ (k j:Nat) (s:Shared) (m:Int) (t:Tok) (c:Nat),n - j = k->j <= n->St j s.heap->jk4 val j m ->
  s.heap.get? S = some { cls:=.type "list",dict:=none,data:=.seq #[.int m t,.int m t] c,slots:=#[] } ->
  (∀ m' t' h' tk,jk4 val n m'->(∀ b o,b ∉ wr->b ≠ S->s.heap.get? b = some o->h'.get? b = some o)->R (.ok (.ret (.int m' t'))) { s with heap:=h',toks:=tk }) ->
  codeAny (model prog w) A (.builtin "min.loop" ⟨[.ref I,.none,.ref S],kw⟩) R s:=by
 have hSw:S ∉ wr:=fun z=>hSf (W.sub _ z)
 intro k
 induction k with
 | zero =>
  intro j s m t c hk hj hst hb hS hR
  have hin:j = n:=by omega
  subst hin
  refine codeAny_builtin PySem.F.entry_min_loop ?_
  rw [Around.under_plainId PySem.F.plain_min_loop _]
  show wpAny _ A.in1 (seqItems? (.ref S) >>= _) _ _ s
  refine wpAny_bind (wpAny_seqItems hS rfl ?_)
  show wpAny _ A.in1 (tryCatch (pyNext (.ref I)) _ >>= _) _ _ s
  refine wpAny_bind (wpAny_tryCatch (W.done s _ _ hst fun h' tk kp=>?_))
  have hS':=kp S _ hSw hS
  show wpAny _ A.in1 (updateSeq S (fun _=>#[]) >>= _) _ _ _
  refine wpAny_bind ?_
  refine wpAny_updateSeq hS' rfl (wpAny_bind (wpAny_letGo (wpAny_pure ?_)))
  exact hR m t _ tk hb fun b o hbw hbS e=>(Heap.get?_update_other _ _ (Ne.symm hbS)).trans (kp b o hbw e)
 | succ k ih =>
  intro j s m t c hk hj hst hb hS hR
  have hlt:j < n:=by omega
  refine codeAny_builtin PySem.F.entry_min_loop ?_
  rw [Around.under_plainId PySem.F.plain_min_loop _]
  show wpAny _ A.in1 (seqItems? (.ref S) >>= _) _ _ s
  refine wpAny_bind (wpAny_seqItems hS rfl ?_)
  show wpAny _ A.in1 (tryCatch (pyNext (.ref I)) _ >>= _) _ _ s
  refine wpAny_bind (wpAny_tryCatch (W.item j s _ _ hlt hst fun v h' tk hP hst' kp=>?_))
  obtain ⟨t',rfl⟩:=hval j v hP
  have hS':=kp S _ hSw hS
  show wpAny _ A.in1 (tryCatch (holding [.int (val j) t',.int (val j) t'] (richCompare .Lt (.int (val j) t') (.int m t) >>= _)) _ >>= _) _ _ _
  refine wpAny_bind (wpAny_tryCatch (wpAny_holding (wpAny_bind (lt_int ?_))))
  refine wpAny_bind (wpAny_holding (wpAny_truthy_bool ?_))
  refine wpAny_bind (wpAny_letGo (wpAny_pure ?_))
  by_cases hc:val j < m
  ·rw [decide_eq_true (show val j < m from hc)]
   simp only [if_true]
   refine wpAny_bind ?_
   refine wpAny_updateSeq hS' rfl (wpAny_bind (wpAny_letGo ?_))
   rw [jfd]
   refine wpAny_pure ⟨plainId_quiet PySem.F.plain_min_loop _,ih (j + 1) _ (val j) t' _ (by omega) hlt (W.frame _ _ _ hst' fun b hbf o e=>?_) (hb.up hc) (Heap.get?_update_self _ hS' rfl) fun m' u h'' tk'' hB k''=>?_⟩
   ·exact (Heap.get?_update_other _ _ (fun z:S = b=>hSf (by rw [z]; exact hbf))).trans e
   ·exact hR m' u h'' tk'' hB fun b o hbw hbS e=>k'' b o hbw hbS ((Heap.get?_update_other _ _ (Ne.symm hbS)).trans (kp b o hbw e))
  ·rw [decide_eq_false (show ¬ val j < m from hc)]
   simp only [Bool.false_eq_true,if_false]
   refine wpAny_bind (wpAny_letGo ?_)
   rw [jfd]
   refine wpAny_pure ⟨plainId_quiet PySem.F.plain_min_loop _,ih (j + 1) _ m t c (by omega) hlt hst' (hb.keep hc) hS' fun m' u h'' tk'' hB k''=>?_⟩
   exact hR m' u h'' tk'' hB fun b o hbw hbS e=>k'' b o hbw hbS (kp b o hbw e)
end
section
variable {X:Cx}
end
section
variable {X:Cx}
end
section
variable {X:Cx}
theorem jla (a:Value):argsOk "min" ⟨[a],[]⟩:=by unfold argsOk; kernel_rfl
def rMinN:List V->Hp->VK->Prop:=fun vs H Q=>∃ (p:Addr) (ns:List Int),vs = [.ref p]/\H p = some (.lst (ns.map V.int))/\ns ≠ [] /\
 ∀ m,m ∈ ns->(∀ x ∈ ns,m <= x)->Q (.int m) H
theorem jel (hc:X.calm = true):jck X (.builtin "min") rMinN:=by
 intro pins s σ H xs us Q I r h
 obtain ⟨p,ns,rfl,e,hne,q⟩:=h
 obtain ⟨u,rfl,rx⟩:=jic r
 cases rx
 obtain ⟨z,its,c,r',hlen,e'⟩:=I.lstM e
 have hI:=jd7 r'
 have plt:p < s.heap.objs.size:=Heap.lt_size e'
 have hL:s.heap.IsList p its.toArray:=⟨_,e',rfl,_,rfl⟩
 refine call_function_tree PySem.F.kind_min PySem.F.plain_min PySem.F.entry_min (jla _) ?_
 show wpAny _ X.A.in1 (Builtin.Builtins.bindParams "min" ["key","default"] 0 ⟨[],[]⟩ >>= _) _ _ s
 refine wpAny_bind (wpAny_of_eq (show Builtin.Builtins.bindParams "min" ["key","default"] 0 ⟨[],[]⟩ = pure [none,none] from rfl) ?_)
 refine wpAny_bind (wpAny_pure ?_)
 refine wpAny_bind (wpAny_pyIter_list hL ?_)
 refine wpAny_bind (wpAny_newList ?_ (Nat.zero_le _))
 rw [jfd]
 have hS:(s.heap.push { cls:=.type "list_iterator",data:=.fields #[.ref p,.int 0 0] }).objs.size = s.heap.objs.size + 1:=size_push' ..
 have W:=Walks.list (prog:=X.prog) (w:=X.w) (A:=X.A.in1) (show X.A.in1.handled = none from I.ok.hd hc) s.heap.objs.size p (Nat.ne_of_lt plt) its.toArray
 have hsz:its.toArray.size = ns.length:=by rw [List.size_toArray,<- hlen,List.length_map]
 have hval:∀ (i:Nat) (v:Value),its.toArray[i]? = some v->∃ t:Tok,v = Value.int (ns[i]?.getD 0) t:=fun i v hv=>by
  have hv':its[i]? = some v:=by simpa using hv
  have hi:i < ns.length:=by
   have:=(List.getElem?_eq_some_iff.mp hv').1
   rw [List.length_map] at hlen
   omega
  obtain ⟨u,e1,t,e2⟩:=r'.get (i:=i) (x:=.int ns[i]) (by rw [List.getElem?_map,gE hi]; rfl)
  rw [hv'] at e1
  cases e1
  exact ⟨t,by rw [e2,gE hi]; rfl⟩
 have kp0:∀ (h':Heap) (tk:Nat),(∀ b o,b ∉ [s.heap.objs.size]->b ≠ (s.heap.push { cls:=.type "list_iterator",data:=.fields #[.ref p,.int 0 0] }).objs.size->((s.heap.push { cls:=.type "list_iterator",data:=.fields #[.ref p,.int 0 0] }).push { cls:=.type "list",data:=.seq #[] }).get? b = some o->h'.get? b = some o) ->
   Inv X pins σ H { s with heap:=h',toks:=tk }:=fun h' tk k=>I.kept fun b o qq=>k b o (by
    intro z
    have:b = s.heap.objs.size:=by simpa using z
    exact absurd (Heap.lt_size qq) (by rw [this]; exact Nat.lt_irrefl _)) (by rw [hS]; exact Nat.ne_of_lt (Nat.lt_succ_of_lt (Heap.lt_size qq))) (Heap.get?_push_of_some _ (Heap.get?_push_of_some _ qq))
 have hst0:(fun i (h:Heap)=>h.IsListIter s.heap.objs.size p i/\h.IsList p its.toArray) 0 ((s.heap.push { cls:=.type "list_iterator",data:=.fields #[.ref p,.int 0 0] }).push { cls:=.type "list",data:=.seq #[] }) :=
  ⟨⟨_,Heap.get?_push_of_some _ (Heap.get?_push_size _ rfl),rfl,rfl⟩,(hL.push _).push _⟩
 have hSg:((s.heap.push { cls:=.type "list_iterator",data:=.fields #[.ref p,.int 0 0] }).push { cls:=.type "list",data:=.seq #[] }).get? (s.heap.push { cls:=.type "list_iterator",data:=.fields #[.ref p,.int 0 0] }).objs.size = some { cls:=.type "list",dict:=none,data:=.seq #[] 0,slots:=#[] }:=Heap.get?_push_size _ rfl
 have hSf:(s.heap.push { cls:=.type "list_iterator",data:=.fields #[.ref p,.int 0 0] }).objs.size ∉ [s.heap.objs.size,p]:=by
  rw [hS]
  intro z
  rcases List.mem_cons.mp z with z | z
  ·exact absurd z (Nat.succ_ne_self _)
  ·have z:=List.mem_singleton.mp z
   rw [<- z] at plt
   exact Nat.lt_irrefl _ (Nat.lt_of_succ_lt plt)
 refine wpAny_pure ⟨plainId_quiet PySem.F.plain_min_loop _,?_⟩
 refine codeAny_builtin PySem.F.entry_min_loop ?_
 rw [Around.under_plainId PySem.F.plain_min_loop _]
 show wpAny _ X.A.in1 (seqItems? (.ref _) >>= _) _ _ _
 refine wpAny_bind (wpAny_seqItems hSg rfl ?_)
 show wpAny _ X.A.in1 (tryCatch (pyNext (.ref s.heap.objs.size)) _ >>= _) _ _ _
 cases hn:ns with
 | nil=>exact absurd hn hne
 | cons n0 rest =>
  have hpos:0 < its.toArray.size:=by rw [hsz,hn]; simp
  refine wpAny_bind (wpAny_tryCatch (W.item 0 _ _ _ hpos hst0 fun v h' tk hP hst' kp=>?_))
  obtain ⟨t',rfl⟩:=hval 0 v hP
  have hS':=kp _ _ (fun z=>hSf (List.mem_cons.mpr (.inl (List.mem_singleton.mp z)))) hSg
  show wpAny _ X.A.in1 (updateSeq _ (fun _=>#[_,_]) >>= _) _ _ _
  refine wpAny_bind ?_
  refine wpAny_updateSeq hS' rfl ?_
  rw [jfd]
  refine wpAny_pure ⟨plainId_quiet PySem.F.plain_min_loop _,jkv W (fun i=>ns[i]?.getD 0) hval _ _ hSf _ 1 _ _ t' _ rfl hpos (W.frame _ _ _ hst' fun b hbf o e=>?_) ⟨⟨0,Nat.one_pos,rfl⟩,fun i hi=>by
   have:i = 0:=by omega
   subst this; exact Int.le_refl _⟩ (Heap.get?_update_self _ hS' rfl) fun m u h'' tk'' hB k''=>?_⟩
  ·exact (Heap.get?_update_other _ _ (fun z=>hSf (by rw [z]; exact hbf))).trans e
  ·refine ⟨.int m,H,kp0 h'' tk'' fun b o h1 h2 h3=>k'' b o h1 h2 ((Heap.get?_update_other _ _ (Ne.symm h2)).trans (kp b o h1 h3)),⟨u,rfl⟩,q m ?_ fun x hx=>?_⟩
   ·obtain ⟨i,hi,e1⟩:=hB.1
    rw [hsz] at hi
    rw [e1]
    show ns[i]?.getD 0 ∈ ns
    rw [gE hi]
    exact List.getElem_mem hi
   ·obtain ⟨i,hi,e1⟩:=List.mem_iff_getElem.mp hx
    have:m <= ns[i]?.getD 0:=hB.2 i (by rw [hsz]; exact hi)
    rw [gE hi] at this
    rw [<- e1]
    exact this
end
end L2
namespace My
open PySem L2
section
variable {P:Program} {w:World} {K:PySem.W.Frag} {mg:Str->Option Value} {base:Heap} {c1 c2 c3 c4:Tok} {C_NoWeb fqq:Addr} {dI:FuncData}
theorem jjt:∀ (ns ms:List Int),eqPs (ns.map Dt.int) (ms.map Dt.int) = decide (ns = ms)
 | [],[]=>rfl
 | [],_ :: _=>rfl
 | _ :: _,[]=>rfl
 | n :: r,m :: t=>by
  rw [List.map_cons,List.map_cons,eqPs,jjt r t,eqP]
  by_cases c:n = m
  ·by_cases d:r = t
   ·simp [c,d]
   ·simp [c,d]
  ·simp [c]
theorem jm4 (ns ms:List Int):eqP (.lst (ns.map Dt.int)) (.lst (ms.map Dt.int)) = decide (ns = ms):=by
 rw [eqP]
 exact jjt ns ms
theorem ji0:∀ (ns:List Int),jcn (ns.map Dt.int) = 0
 | []=>rfl
 | n :: r=>by simp [jcn,depP,ji0 r]
theorem jbw (ns:List Int):depP (.lst (ns.map Dt.int)) <= 20:=by rw [depP,ji0]; decide
def jha (ts:List (Int × Int)) (ns:List Int):Bool:=ns.any fun a=>ns.any fun b=>decide (b ∈ ja9 ts a)
def minL:List Int->Int
 | []=>0
 | a :: r=>r.foldl min a
theorem jji:∀ (r:List Int) (a:Int),r.foldl min a ∈ a :: r/\∀ x ∈ a :: r,r.foldl min a <= x
 | [],a=>⟨List.mem_singleton.mpr rfl,fun x hx=>by rw [List.mem_singleton.mp hx]; exact Int.le_refl _⟩
 | b :: r,a=>by
  obtain ⟨h1,h2⟩:=jji r (min a b)
  rw [List.foldl_cons]
  have h3:=h2 (min a b) (List.mem_cons_self ..)
  refine ⟨?_,fun x hx=>?_⟩
  ·rcases List.mem_cons.mp h1 with e | e
   ·rw [e]
    rcases Int.le_total a b with c | c
    ·rw [Int.min_eq_left c]; exact List.mem_cons_self ..
    ·rw [Int.min_eq_right c]; exact List.mem_cons_of_mem _ (List.mem_cons_self ..)
   ·exact List.mem_cons_of_mem _ (List.mem_cons_of_mem _ e)
  ·rcases List.mem_cons.mp hx with e | e
   ·have:=Int.min_le_left a b; omega
   ·rcases List.mem_cons.mp e with e | e
    ·have:=Int.min_le_right a b; omega
    ·exact h2 x (List.mem_cons_of_mem _ e)
theorem joq {ns:List Int} {m:Int} (h1:m ∈ ns) (h2:∀ x ∈ ns,m <= x):m = minL ns:=by
 cases ns with
 | nil=>cases h1
 | cons a r =>
  obtain ⟨q1,q2⟩:=jji r a
  have:=h2 _ q1
  have:=q2 _ h1
  show m = r.foldl min a
  omega
def jf7 (ps ts:List (Int × Int)) (v:Int):Bool:=(decide (2 <= (ja9 ts v).length) && !(jha ts (ja9 ts v))) && (decide (jbk ps (ja9 ts v) - minL ((ja9 ts v).map (prc ps)) <= prc ps v) && decide (prc ps v < jbk ps (ja9 ts v)))
def jr4:Sp:=fun vs H Q _=>∃ pd nd l ps ts ns,vs = [.ref nd,.ref l]/\Bk H pd nd ps ts/\H l = some (.lst (ns.map V.int))/\(∀ n ∈ ns,n ∈ ps.map (·.1))/\ns.length <= 900/\∀ H',Same H H'->Q (.bl (jha ts ns)) H'
theorem jix (B:Blt mg) (D:DefAt K mg "twins_fit" (top 10) ["nears","u","v"] f fd):FnOk P w K mg base CX0 1 f fd ["nears","u","v"] jnm:=by
 have sc:FnScope ["nears","u","v"] ["nears","u","v"] (jab (top 10)):=by walk_at "SC"
 refine D.F.ok sc (fun vs H Q E h=>?_) (fun cdv A outer s H vs Q E hr h=>?_)
 ·obtain ⟨pd,nd,u,v,ps,ts,rfl,_⟩:=h
  rfl
 obtain ⟨pd,nd,u,v,ps,ts,rfl,bk,hu2,hv,h⟩:=h
 have hnd:=bk.ok.p.nodup
 obtain ⟨as,a,e1,e2,e3⟩:=bk.n.get hnd hv
 obtain ⟨as2,a2,f1,f2,f3⟩:=bk.n.get hnd hu2
 have hla:=jbu bk.ok u
 have hu:=jb8 hr
 have hu0:_ < PySem.cLine:=Nat.lt_of_succ_lt hu
 refine ⟨_,(ja7 (jah (jcq (jb0 q_ne (qv 1) (qv 2) (jag _)) (jcq (jb0 q_gt (jaf jdl rfl B.len PySem.boot_len (ja0 (jaz hu (qv 0) (qv 1) (fun _ _=>rfl)) ja3)) ja5 (jag _)) (jcd (jb0 (jfs hr.units) (jaz hu (qv 0) (qv 1) (fun _ _=>rfl)) (jaz hu (qv 0) (qv 2) (fun _ _=>rfl)) (jag _))))))),?_⟩
 have h0:=h H (Same.refl _)
 unfold jfg at h0
 have eas:kz ps as = kz ps as2:=by
  have:=Option.some.inj (e1.symm.trans f1)
  injection this
 rw [<- eas] at f2
 simp_arith [e1,e2,f2,jai,f3,List.length_map]
 by_cases c1:u = v
 ·rw [decide_eq_false (show ¬ u ≠ v from fun z=>z c1)] at h0
  simp only [c1,decide_true,Bool.not_true,Bool.false_and] at h0 ⊢
  walk_at "RD"
  first | exact h0 | simpa using h0
 ·rw [decide_eq_true (show u ≠ v from c1),Bool.true_and] at h0
  simp only [c1,decide_false,Bool.not_false]
  simp_arith [e1,e2,f2,jai,f3,List.length_map]
  by_cases c2:ja9 ts u = []
  ·rw [decide_eq_false (show ¬ ja9 ts u ≠ [] from fun z=>z c2),Bool.false_and] at h0
   rw [c2]
   rw [show decide (((([]:List Int).length:Nat):Int) > 0) = false from rfl]
   walk_at "RD"
   exact h0
  ·rw [decide_eq_true (show ja9 ts u ≠ [] from c2),Bool.true_and] at h0
   have:0 < (ja9 ts u).length:=List.length_pos_iff.mpr c2
   rw [decide_eq_true (show (((ja9 ts u).length:Nat):Int) > 0 by omega)]
   simp_arith [e1,e2,f2,jai,f3]
   refine ⟨_,_,jbl f3,jbl e3,jbw _,.inl ⟨_,_,rfl,rfl⟩,?_⟩
   rw [jm4]
   first | exact h0 | simpa using h0
theorem jks (B:Blt mg) (D:DefAt K mg "any_tied" (top 35) ["nears","places"] f fd):FnOk P w K mg base CX0 1 f fd ["nears","places"] jr4:=by
 have sc:FnScope ["nears","places","one"] ["nears","places"] (jab (top 35)):=by walk_at "SC"
 refine D.F.ok sc (fun vs H Q E h=>?_) (fun cdv A outer s H vs Q E hr h=>?_)
 ·obtain ⟨pd,nd,l,ps,ts,ns,rfl,_⟩:=h
  rfl
 obtain ⟨pd,nd,l,ps,ts,ns,rfl,bk,el,hin,hl9,h⟩:=h
 have hnd:=bk.ok.p.nodup
 have hu:=jb8 hr
 have hu0:_ < PySem.cLine:=Nat.lt_of_succ_lt hu
 refine ⟨_,(ja4 (jc5 PassesOwn.never rfl (jau (qv 1)) (jad (i:=2) sc.nd rfl (Or.inr rfl)) (ja7 (jb3 (jc8 (jaf (q_any rfl) rfl B.any PyProof.Rows.boot_any (ja0 (jbb (CpScope.of (N:=["other","nears","one"]) (src:=[none,some 0,some 2]) (by rfl)) rfl (jau (qv 1)) (fun _ _ _ _=>(jad (i:=0) (jac (l:=["other","nears","one"]) (by rfl)) rfl (Or.inl rfl))) (fun _ _ _ _=>jbj) (fun _ _ _ _=>(jb0 jhi (qv 0) (jaz hu (qv 1) (qv 2) (fun _ _=>rfl)) (by with_unfolding_all rfl)))) ja3))) (ja7 (jah jdd)) jaj))) (ja7 (jah jdd))),?_⟩
 refine ja6 fun R hR=>?_
 refine jbq (Itl K l) H (fun R' hR'=>?_) (jby (K:=K) (a:=l) (xs:=ns.map V.int) (fun i σ H1=>∃ v1,σ = [some (.ref nd),some (.ref l),v1]/\Same H H1/\((ns.take i).any fun a=>ns.any fun b=>decide (b ∈ ja9 ts a)) = false) ⟨none,rfl,Same.refl _,rfl⟩ (fun i σ H1 _ ⟨_,_,s1,_⟩=>SqL.of (s1 _ _ el)) ?_ ?_)
 ·unfold jbd
  walk_at "RD"
  exact ⟨l,rfl,⟨_,SqL.of el⟩,hR'⟩
 ·rintro i x σ H1 hx ⟨v1,rfl,s1,hno⟩
  obtain ⟨n,hn,rfl⟩:=jbt hx
  have nm:=hin n (List.mem_of_getElem? hn)
  walk_at "RD"
  refine jap (Itl K l) H1 (fun R' hR'=>?_) (fun z hz=>jaw ns.length (fun i σ' Hc=>∃ w1,σ' = [w1,some (.ref nd),some (.int n)]/\Same H1 Hc/\Hc z = some (.lst (((ns.take i).map fun b=>decide (b ∈ ja9 ts n)).map V.bl))) ⟨none,rfl,ja2 hz _,ja1⟩ ?_ ?_)
  ·unfold jbd
   walk_at "RD"
   exact ⟨l,rfl,⟨_,SqL.of (s1 _ _ el)⟩,hR'⟩
  ·rintro j σ' Hc hi ⟨w1,rfl,s4,ez⟩
   have z1:SqL K Hc l (ns.map V.int):=SqL.of (s4 _ _ (s1 _ _ el))
   have x1:(ns.map V.int)[j]? = some ((ns.map V.int)[j]'(by rw [List.length_map]; omega)):=gE _
   refine ⟨⟨_,_,z1,x1⟩,?_⟩
   rintro y H' ⟨rfl,hy⟩
   obtain ⟨m,hm,rfl⟩:=jbt (hy _ z1)
   obtain ⟨as,a,e1,e2,e3⟩:=(bk.n.same (s1.trans s4)).get hnd nm
   simp_arith [e1,e2,e3,jai,jbp,flat_ints,jcg]
   refine ⟨_,ez,?_,_,rfl,jao s4 hz,?_⟩
   ·rw [List.length_map,List.length_map,List.length_take]
    exact szl' (by omega)
   ·rw [ja1,jaq hm,List.map_append,List.map_append]
    rfl
  rintro σ' H2 ⟨w1,rfl,s2,ez⟩
  refine ⟨⟨_,SqL.of (s2 _ _ (s1 _ _ el)),by rw [List.length_map]; omega⟩,?_⟩
  rw [List.take_length] at ez
  simp_arith [ez]
  refine ⟨_,rfl,?_⟩
  have ea:(ns.map fun b=>decide (b ∈ ja9 ts n)).any id = ns.any fun b=>decide (b ∈ ja9 ts n):=by rw [List.any_map]; rfl
  refine ite2 (fun c=>?_) (fun c=>?_)
  ·have c:=ea.symm.trans c
   have:jha ts ns = true:=by
    unfold jha
    rw [List.any_eq_true]
    exact ⟨n,List.mem_of_getElem? hn,c⟩
   rw [this] at h
   exact h _ (s1.trans s2)
  ·have c:=ea.symm.trans (Bool.eq_false_iff.mpr c)
   refine ⟨_,rfl,s1.trans s2,?_⟩
   rw [jaq hn,List.any_append,hno,Bool.false_or,List.any_cons,List.any_nil,Bool.or_false]
   exact c
 ·rintro σ H1 ⟨v1,rfl,s1,hno⟩
  rw [List.length_map,List.take_length] at hno
  subst hR
  walk_at "RD"
  have:jha ts ns = false:=hno
  rw [this] at h
  exact h _ s1
theorem jj9 (B:Blt mg) (D:DefAt K mg "fold_fits" (top 36) ["prices","nears","v"] f fd) (Dqt:DefAt K mg "any_tied" (top 35) ["nears","places"] fqt dqt) (Gqt:FnOk P w K mg base CX0 1 fqt dqt ["nears","places"] jr4) (Dqd:DefAt K mg "cost_near" (top 6) ["prices","nears","v"] fqd dqd) (Gqd:FnOk P w K mg base CX0 1 fqd dqd ["prices","nears","v"] jd5):FnOk P w K mg base CX0 2 f fd ["prices","nears","v"] (spV1 jf7):=by
 have sc:FnScope ["prices","nears","v","together","cheapest"] ["prices","nears","v"] (jab (top 36)):=by walk_at "SC"
 refine D.F.ok sc (fun vs H Q E h=>?_) (fun cdv A outer s H vs Q E hr h=>?_)
 ·obtain ⟨pd,nd,v,ps,ts,rfl,_⟩:=h
  rfl
 obtain ⟨pd,nd,v,ps,ts,rfl,bk,hv,h⟩:=h
 have hnd:=bk.ok.p.nodup
 obtain ⟨as,a,e1,e2,e3⟩:=bk.n.get hnd hv
 have hla:=jbu bk.ok v
 have hu:=jb8 hr
 have hu0:_ < PySem.cLine:=Nat.lt_of_succ_lt hu
 refine ⟨_,(ja4 (jb3 (PW.pt (jf4 (jal q_lt (jaf jdl rfl B.len PySem.boot_len (ja0 (jaz hu (qv 1) (qv 2) (fun _ _=>rfl)) ja3)) ja5 (jag _)) (je1 (jc8 (ja8 Gqt (hr.mono (by decide)) rfl Dqt.m Dqt.F.kp Dqt.b .nil jan (ja0 (qv 1) (ja0 (jaz hu (qv 1) (qv 2) (fun _ _=>rfl)) ja3))))))) (ja7 (jah jdd)) jaj) (ja4 (jak (i:=3) sc.nd rfl (Or.inl rfl) (ja8 Gqd (hr.mono (by decide)) rfl Dqd.m Dqd.F.kp Dqd.b .nil jan (ja0 (qv 0) (ja0 (qv 1) (ja0 (qv 2) ja3))))) (ja4 (jak (i:=4) sc.nd rfl (Or.inl rfl) (jaf (jel rfl) rfl B.min PyProof.Rows.boot_min (ja0 (jbb (CpScope.of (N:=["place","prices"]) (src:=[none,some 0]) (by rfl)) rfl (jau (jaz hu (qv 1) (qv 2) (fun _ _=>rfl))) (fun _ _ _ _=>(jad (i:=0) (jac (l:=["place","prices"]) (by rfl)) rfl (Or.inl rfl))) (fun _ _ _ _=>jbj) (fun _ _ _ _=>(jaz hu (qv 1) (qv 0) (fun _ _=>rfl)))) ja3))) (ja7 (jah (jkd q_le q_lt (jay jdp (qv 3) (qv 4)) (jaz hu (qv 0) (qv 2) (fun _ _=>rfl)) (qv 3))))))),?_⟩
 refine ja6 fun R hR=>?_
 simp_arith [e1,e2,jai,e3,List.length_map]
 by_cases c1:(ja9 ts v).length < 2
 ·rw [decide_eq_true (show ((ja9 ts v).length:Int) < 2 by omega)]
  walk_at "RD"
  have h0:=h H (Same.refl _)
  unfold jf7 at h0
  rw [decide_eq_false (show ¬ 2 <= (ja9 ts v).length by omega),Bool.false_and,Bool.false_and] at h0
  exact h0
 rw [decide_eq_false (show ¬ ((ja9 ts v).length:Int) < 2 by omega)]
 simp_arith [e1,e2]
 refine ⟨pd,nd,a,ps,ts,ja9 ts v,rfl,bk,e3,fun n hn=>jbc bk.ok hn,by omega,fun H1 s1=>?_⟩
 cases c2:jha ts (ja9 ts v) with
 | true =>
  walk_at "RD"
  have h0:=h H1 s1
  unfold jf7 at h0
  rw [c2,Bool.not_true,Bool.and_false,Bool.false_and] at h0
  exact h0
 | false =>
 have fin:jf7 ps ts v = (decide (jbk ps (ja9 ts v) - minL ((ja9 ts v).map (prc ps)) <= prc ps v) && decide (prc ps v < jbk ps (ja9 ts v))):=by
  unfold jf7
  rw [c2,decide_eq_true (show 2 <= (ja9 ts v).length by omega)]
  rfl
 rw [fin] at h
 walk_at "RD"
 subst hR
 refine ja6 fun R hR=>?_
 walk_at "RD"
 refine ⟨pd,nd,v,ps,ts,rfl,bk.same s1,hv,fun H2 s2=>?_⟩
 have s12:=s1.trans s2
 walk_at "RD"
 subst hR
 refine ja6 fun R hR=>?_
 walk_at "RD"
 refine jap (Itl K a) H2 (fun R hR=>?_) (fun z hz=>jaw (ja9 ts v).length (fun i σ' Hc=>∃ w1,σ' = [w1,some (.ref pd)]/\Same H2 Hc/\Hc z = some (.lst ((((ja9 ts v).take i).map (prc ps)).map V.int))) ⟨none,rfl,ja2 hz _,ja1⟩ ?_ ?_)
 ·unfold jbd
  simp_arith [s12 _ _ e1,e2]
  exact ⟨a,rfl,⟨_,SqL.of (s12 _ _ e3)⟩,hR⟩
 ·rintro i σ' Hc hi ⟨w1,rfl,s4,ez⟩
  have z1:SqL K Hc a ((ja9 ts v).map V.int):=SqL.of (s4 _ _ (s12 _ _ e3))
  have x1:((ja9 ts v).map V.int)[i]? = some (((ja9 ts v).map V.int)[i]'(by rw [List.length_map]; omega)):=gE _
  refine ⟨⟨_,_,z1,x1⟩,?_⟩
  rintro y H' ⟨rfl,hy⟩
  obtain ⟨n,hn,rfl⟩:=jbt (hy _ z1)
  have ep':=s4 _ _ (s12 _ _ bk.p)
  have hp:=jb5 (jbc bk.ok (List.mem_of_getElem? hn))
  simp_arith [ep',hp]
  refine ⟨_,ez,?_,_,rfl,jao s4 hz,?_⟩
  ·rw [List.length_map,List.length_map,List.length_take]
   exact szl' (by omega)
  ·rw [ja1,jaq hn,List.map_append,List.map_append]
   rfl
 rintro σ' H3 ⟨w1,rfl,s3,ez⟩
 refine ⟨⟨_,SqL.of (s3 _ _ (s12 _ _ e3)),by rw [List.length_map]; omega⟩,?_⟩
 rw [List.take_length] at ez
 refine ⟨z,_,rfl,ez,fun e=>?_,fun m hm1 hm2=>?_⟩
 ·have:=congrArg List.length e
  rw [List.length_map] at this
  simp at this
  rw [this] at c1
  simp at c1
 rw [joq hm1 hm2]
 have s13:=s12.trans s3
 walk_at "RD"
 subst hR
 simp_arith [s13 _ _ bk.p,jb5 hv]
 have h0:=h H3 s13
 by_cases q1:jbk ps (ja9 ts v) - minL ((ja9 ts v).map (prc ps)) <= prc ps v <;> by_cases q2:prc ps v < jbk ps (ja9 ts v) <;> simp [q1,q2] at h0 ⊢ <;> exact h0
theorem jbm {ps:List (Int × Int)} {n:Int}:hasK (jav ps) n = decide (n ∈ ps.map (·.1)):=by
 by_cases c:n ∈ ps.map (·.1)
 ·rw [decide_eq_true c]
  unfold hasK
  rw [jb5 c]
  rfl
 ·rw [decide_eq_false c]
  refine Bool.eq_false_iff.mpr fun z=>?_
  obtain ⟨i,p,hp,e⟩:=jef z
  exact c (List.mem_map.mpr ⟨p,List.mem_of_getElem? hp,e⟩)
def jcu (ps ts:List (Int × Int)) (w:Str):List Int->Bool
 | [v]=>if w = (("lone":String):Str) then decide (ja9 ts v = []) else if w = (("near":String):Str) then jjf ps ts v else decide (w = (("leaf":String):Str)) && jf6 ps ts v
 | [u,v]=>if w = (("over":String):Str) then jhn ps ts u v else decide (w = (("twins":String):Str)) && jfg ts u v
 | _=>false
def foldO (ps ts:List (Int × Int)):List Int->Bool
 | [v]=>jf7 ps ts v
 | _=>false
def fitW (ps ts:List (Int × Int)) (w:Str) (ns:List Int):Bool:=if w = (("fold":String):Str) then foldO ps ts ns else jcu ps ts w ns
def jr8:Sp:=fun vs H Q _=>∃ pd nd t ps ts w ns,vs = [.ref pd,.ref nd,.ref t]/\Bk H pd nd ps ts/\H t = some (.tup (.str w :: ns.map V.int))/\ns ≠ []/\(∀ n ∈ ns,n ∈ ps.map (·.1))/\∀ H',Same H H'->Q (.bl (jcu ps ts w ns)) H'
theorem jph {x:V} {xs:List V}:cutV (x :: xs) (some 1) none = xs:=by
 unfold cutV HT.sIx
 simp
theorem jiy (B:Blt mg) (D:DefAt K mg "rule_fits" (top 11) ["prices","nears","step"] f fd) (Dzq:DefAt K mg "near_fits" (top 7) ["prices","nears","v"] fzq dzq) (Gzq:FnOk P w K mg base CX0 2 fzq dzq ["prices","nears","v"] (spV1 jjf)) (Dzj:DefAt K mg "leaf_fits" (top 8) ["prices","nears","v"] fzj dzj) (Gzj:FnOk P w K mg base CX0 1 fzj dzj ["prices","nears","v"] (spV1 jf6)) (Dzr:DefAt K mg "over_fits" (top 9) ["prices","nears","u","v"] fzr dzr) (Gzr:FnOk P w K mg base CX0 1 fzr dzr ["prices","nears","u","v"] jr9) (Dzy:DefAt K mg "twins_fit" (top 10) ["nears","u","v"] fzy dzy) (Gzy:FnOk P w K mg base CX0 1 fzy dzy ["nears","u","v"] jnm):FnOk P w K mg base CX0 3 f fd ["prices","nears","step"] jr8:=by
 have sc:FnScope ["prices","nears","step","word"] ["prices","nears","step"] (jab (top 11)):=by walk_at "SC"
 refine D.F.ok sc (fun vs H Q E h=>?_) (fun cdv A outer s H vs Q E hr h=>?_)
 ·obtain ⟨pd,nd,t,ps,ts,w,ns,rfl,_⟩:=h
  rfl
 obtain ⟨pd,nd,t,ps,ts,w,ns,rfl,bk,et,hne,hin,h⟩:=h
 have hnd:=bk.ok.p.nodup
 have hu:=jb8 hr
 have hu0:_ < PySem.cLine:=Nat.lt_of_succ_lt hu
 refine ⟨_,(ja4 (jak (i:=3) sc.nd rfl (Or.inl rfl) (jam q_ix (qv 2) ja5 (fun _ _=>rfl))) (ja4 (jb3 (jal q_eq (jaf jdl rfl B.len PySem.boot_len (ja0 (qv 2) ja3)) ja5 (jag _)) (ja4 (jb3 (jal q_eq (qv 3) jb7 (jag _)) (ja7 (jah (jb0 q_eq (jaf jdl rfl B.len PySem.boot_len (ja0 (jaz hu (qv 1) (jam q_ix (qv 2) ja5 (fun _ _=>rfl)) (fun _ _=>rfl)) ja3)) ja5 (jag _)))) jaj) (ja4 (jb3 (jal q_eq (qv 3) jb7 (jag _)) (ja7 (jah (ja8 Gzq (hr.mono (by decide)) rfl Dzq.m Dzq.F.kp Dzq.b .nil jan (ja0 (qv 0) (ja0 (qv 1) (ja0 (jam q_ix (qv 2) ja5 (fun _ _=>rfl)) ja3)))))) jaj) (ja7 (jah (jcq (jb0 q_eq (qv 3) jb7 (jag _)) (jcd (ja8 Gzj (hr.mono (by decide)) rfl Dzj.m Dzj.F.kp Dzj.b .nil jan (ja0 (qv 0) (ja0 (qv 1) (ja0 (jam q_ix (qv 2) ja5 (fun _ _=>rfl)) ja3)))))))))) jaj) (ja4 (jb3 (jal q_eq (jaf jdl rfl B.len PySem.boot_len (ja0 (qv 2) ja3)) ja5 (jag _)) (ja4 (jb3 (jal q_eq (qv 3) jb7 (jag _)) (ja7 (jah (ja8 Gzr (hr.mono (by decide)) rfl Dzr.m Dzr.F.kp Dzr.b .nil jan (ja0 (qv 0) (ja0 (qv 1) (ja0 (jam q_ix (qv 2) ja5 (fun _ _=>rfl)) (ja0 (jam q_ix (qv 2) ja5 (fun _ _=>rfl)) ja3))))))) jaj) (ja7 (jah (jcq (jb0 q_eq (qv 3) jb7 (jag _)) (jcd (ja8 Gzy (hr.mono (by decide)) rfl Dzy.m Dzy.F.kp Dzy.b .nil jan (ja0 (qv 1) (ja0 (jam q_ix (qv 2) ja5 (fun _ _=>rfl)) (ja0 (jam q_ix (qv 2) ja5 (fun _ _=>rfl)) ja3))))))))) jaj) (ja7 (jah jdd))))),?_⟩
 refine ja6 fun R hR=>?_
 simp_arith [jai,et,at0]
 subst hR
 have nc:∀ b:Bool,(b = true->False)->b = false:=fun b z=>by cases b; rfl; exact absurd rfl z
 match ns,hne,hin,et,h with
 | [v],_,hin,et,h =>
  have hv:=hin v (List.mem_singleton.mpr rfl)
  obtain ⟨as,a,e1,e2,e3⟩:=bk.n.get hnd hv
  have h0:=h H (Same.refl _)
  unfold jcu at h
  dsimp only at h
  refine ja6 fun R hR=>?_
  rw [List.map_cons,List.map_nil] at et
  simp_arith [jai,et]
  rw [show decide (((2:Nat):Int) = 2) = true from rfl]
  simp only [if_true,at1,e1,e2,e3,List.length_map]
  by_cases c1:w = (("lone":String):Str)
  ·rw [if_pos c1] at h
   simp only [c1,decide_true,if_true]
   have e:decide (((ja9 ts v).length:Int) = 0) = decide (ja9 ts v = []):=by
    cases ja9 ts v with
    | nil=>rfl
    | cons m r=>rw [decide_eq_false (by rw [List.length_cons]; omega),decide_eq_false fun z=>nomatch z]
   rw [e]
   exact h _ (Same.refl _)
  rw [if_neg c1] at h
  simp only [c1,decide_false,Bool.false_eq_true,if_false]
  by_cases c2:w = (("near":String):Str)
  ·rw [if_pos c2] at h
   simp only [c2,decide_true,if_true]
   exact ⟨pd,nd,v,ps,ts,rfl,bk,hv,h⟩
  rw [if_neg c2] at h
  simp only [c2,decide_false,Bool.false_eq_true,if_false]
  by_cases c3:w = (("leaf":String):Str)
  ·simp only [c3,decide_true,if_true,Bool.true_and] at h ⊢
   exact ⟨pd,nd,v,ps,ts,rfl,bk,hv,h⟩
  ·simp only [c3,decide_false,Bool.false_eq_true,if_false,Bool.false_and] at h ⊢
   exact h _ (Same.refl _)
 | [u,v],_,hin,et,h =>
  have hu2:=hin u (List.mem_cons_self ..)
  have hv:=hin v (List.mem_cons_of_mem _ (List.mem_singleton.mpr rfl))
  unfold jcu at h
  dsimp only at h
  rw [List.map_cons,List.map_cons,List.map_nil] at et
  refine ja6 fun R hR=>?_
  simp_arith [jai,et]
  rw [show decide (((3:Nat):Int) = 2) = false from rfl]
  simp only [Bool.false_eq_true,if_false]
  walk_at "RD"
  subst hR
  refine ja6 fun R hR=>?_
  simp_arith [jai,et]
  rw [show decide (((3:Nat):Int) = 3) = true from rfl]
  simp only [if_true,at1,at2]
  by_cases c1:w = (("over":String):Str)
  ·rw [if_pos c1] at h
   simp only [c1,decide_true,if_true]
   exact ⟨pd,nd,u,v,ps,ts,rfl,bk,hu2,hv,h⟩
  rw [if_neg c1] at h
  simp only [c1,decide_false,Bool.false_eq_true,if_false]
  by_cases c3:w = (("twins":String):Str)
  ·simp only [c3,decide_true,if_true,Bool.true_and] at h ⊢
   exact ⟨pd,nd,u,v,ps,ts,rfl,bk,hu2,hv,h⟩
  ·simp only [c3,decide_false,Bool.false_eq_true,if_false,Bool.false_and] at h ⊢
   exact h _ (Same.refl _)
 | u :: v :: m :: r,_,hin,et,h =>
  have hl:(((V.str w :: (u :: v :: m :: r).map V.int).length:Nat):Int) = (r.length:Int) + 4:=by
   rw [List.length_cons,List.length_map,List.length_cons,List.length_cons,List.length_cons]
   omega
  refine ja6 fun R hR=>?_
  simp only [List.map_cons] at et hl
  simp only [jai,et,fIsB,tSeq,jme,jmf,tRet,jnj,tIfS,tAsg,jeg,fAug,tOp,tUn,tC,fVar,fI,fIC,fNeg,fEq,fNe,fIsN,jmy,fAnd,fOr,fNot,fB,tNot,tAnd,tOr,jh2,fIx,fLen,je6,fMin,fMax,fInL,fSlL,tSl,jn0,jeo,je7,fBM,jl2,gSub,jl5,jg2,jl4,jp8,jjr,jgr,jgo,fCat,jjs,fBM0,fSlT,jl3,tCBK,fDIn,jn1,fIsi,jei,jg3,fLtT,jmg,tCB,jf1,tNil,tTup,tLst,tIf,jmd,Kd.nm,L2.jer,List.map_cons,List.map_nil,List.length_nil,Nat.reduceAdd,Nat.reduceSub,List.replicate_succ,List.replicate_zero,List.getElem?_cons_zero,List.getElem?_cons_succ,List.set_cons_zero,List.set_cons_succ,List.append_nil,List.nil_append,List.cons_append,eq_self,true_and,and_true,if_true,Bool.false_eq_true,if_false,Bool.not_true,Bool.not_false,id_eq,sl0,sl1,sl2,sl3,sl4]
  rw [hl,decide_eq_false (show ¬ (r.length:Int) + 4 = 2 by omega)]
  walk_at "RD"
  subst hR
  refine ja6 fun R hR=>?_
  simp only [jai,et,fIsB,tSeq,jme,jmf,tRet,jnj,tIfS,tAsg,jeg,fAug,tOp,tUn,tC,fVar,fI,fIC,fNeg,fEq,fNe,fIsN,jmy,fAnd,fOr,fNot,fB,tNot,tAnd,tOr,jh2,fIx,fLen,je6,fMin,fMax,fInL,fSlL,tSl,jn0,jeo,je7,fBM,jl2,gSub,jl5,jg2,jl4,jp8,jjr,jgr,jgo,fCat,jjs,fBM0,fSlT,jl3,tCBK,fDIn,jn1,fIsi,jei,jg3,fLtT,jmg,tCB,jf1,tNil,tTup,tLst,tIf,jmd,Kd.nm,L2.jer,List.map_cons,List.map_nil,List.length_nil,Nat.reduceAdd,Nat.reduceSub,List.replicate_succ,List.replicate_zero,List.getElem?_cons_zero,List.getElem?_cons_succ,List.set_cons_zero,List.set_cons_succ,List.append_nil,List.nil_append,List.cons_append,eq_self,true_and,and_true,if_true,Bool.false_eq_true,if_false,Bool.not_true,Bool.not_false,id_eq,sl0,sl1,sl2,sl3,sl4]
  rw [hl,decide_eq_false (show ¬ (r.length:Int) + 4 = 3 by omega)]
  walk_at "RD"
  subst hR
  walk_at "RD"
  exact h _ (Same.refl _)
def prsD (ts:List (Int × Int)):Dt:=.lst (ts.map jd3)
def webD (ps ts:List (Int × Int)):Dt:=.tup [prsD ps,prsD ts]
def sumP (ps:List (Int × Int)):Int:=(ps.map (·.2)).sum
theorem jb1 (p:Int × Int) (ps:List (Int × Int)):sumP (p :: ps) = p.2 + sumP ps:=by
 unfold sumP
 rw [List.map_cons,List.sum_cons]
theorem jq0 (a b:List (Int × Int)):sumP (a ++ b) = sumP a + sumP b:=by
 unfold sumP
 rw [List.map_append,List.sum_append]
theorem PlOk.pos:∀ {ps:List (Int × Int)} {l s:Int},PlOk l s ps->∀ p ∈ ps,1 <= p.2/\p.1 <= 999
 | [],_,_,_,_,h=>by cases h
 | q :: r,l,s,h,p,hp=>by
  rcases List.mem_cons.mp hp with e | hp
  ·rw [e]; exact ⟨h.1.2.2.1,h.1.2.1⟩
  ·exact PlOk.pos h.2 p hp
theorem jep:∀ {ps:List (Int × Int)},(∀ p ∈ ps,1 <= p.2)->0 <= sumP ps
 | [],_=>Int.le_refl 0
 | p :: r,h=>by
  rw [jb1]
  have:=h p (List.mem_cons_self ..)
  have:=jep (ps:=r) fun q hq=>h q (List.mem_cons_of_mem _ hq)
  omega
theorem PlOk.keys:∀ {ps qs:List (Int × Int)} {l s s':Int},PlOk l s ps->qs.map (·.1) = ps.map (·.1)->(∀ q ∈ qs,1 <= q.2)->s' + sumP qs <= 1000000000000->PlOk l s' qs
 | [],[],_,_,_,_,_,_,_=>trivial
 | [],_ :: _,_,_,_,_,h,_,_=>by cases h
 | _ :: _,[],_,_,_,_,h,_,_=>by cases h
 | p :: ps,q :: qs,l,s,s',h,e,h1,h2=>by
  rw [List.map_cons,List.map_cons] at e
  injection e with e1 e2
  rw [jb1] at h2
  have g1:=h1 q (List.mem_cons_self ..)
  have g2:=jep (ps:=qs) fun z hz=>h1 z (List.mem_cons_of_mem _ hz)
  refine ⟨⟨by rw [e1]; exact h.1.1,by rw [e1]; exact h.1.2.1,g1,by omega⟩,?_⟩
  rw [e1]
  exact PlOk.keys h.2 e2 (fun z hz=>h1 z (List.mem_cons_of_mem _ hz)) (by omega)
theorem jp6 {ps qs:List (Int × Int)} (e:qs.map (·.1) = ps.map (·.1)) (n:Int):hasK (jav qs) n = hasK (jav ps) n:=by rw [jbm,jbm,e]
theorem TiOk.keys {k1 k2:List (Key × V)} (e:∀ n,hasK k1 n = true->hasK k2 n = true):∀ {ts:List (Int × Int)} {q:Int × Int},TiOk k1 q ts->TiOk k2 q ts
 | [],_,_=>trivial
 | t :: r,q,h=>⟨⟨h.1.1,h.1.2.1,e _ h.1.2.2.1,e _ h.1.2.2.2⟩,TiOk.keys e h.2⟩
theorem jeq:∀ {zs ys:List Int},zs.Sublist ys->(∀ y ∈ ys,1 <= y)->0 <= zs.sum/\zs.sum <= ys.sum/\∀ z ∈ zs,1 <= z/\z <= zs.sum
 | _,_,.slnil,_=>⟨Int.le_refl _,Int.le_refl _,fun z h=>by cases h⟩
 | _,_,.cons (l₂:=r) y h,p=>by
  obtain ⟨h0,h1,h2⟩:=jeq h fun q hq=>p q (List.mem_cons_of_mem _ hq)
  have:=p y (List.mem_cons_self ..)
  rw [List.sum_cons]
  exact ⟨h0,by omega,h2⟩
 | _,_,.cons₂ (l₁:=l) (l₂:=r) y h,p=>by
  obtain ⟨h0,h1,h2⟩:=jeq h fun q hq=>p q (List.mem_cons_of_mem _ hq)
  have:=p y (List.mem_cons_self ..)
  rw [List.sum_cons,List.sum_cons]
  refine ⟨by omega,by omega,fun z hz=>?_⟩
  rcases List.mem_cons.mp hz with e | hz
  ·rw [e]; omega
  ·have:=h2 z hz
   omega
theorem jm3 (ps:List (Int × Int)):eqP (prsD ps) (.lst []) = decide (ps = []):=by
 cases ps <;> rfl
theorem jch:∀ (ps:List (Int × Int)),jcn (ps.map jd3) <= 1
 | []=>by decide
 | p :: r=>by
  have:=jch r
  simp only [List.map_cons,jcn,jd3,depP]
  omega
theorem jpc (ps:List (Int × Int)):depP (prsD ps) <= 20:=by
 have:=jch ps
 unfold prsD
 rw [depP]
 omega
theorem jo3 {H:Hp} {a:Addr} {xs:List V} {ps:List (Int × Int)} (e:H a = some (.lst xs)) (pp:Prs H xs ps):Rep H (prsD ps) (.ref a):=by
 unfold prsD
 rw [Rep]
 exact ⟨a,xs,rfl,e,Prs.reps pp⟩
theorem jd1 {H:Hp} {a:Addr} (e:H a = some (.lst [])):Rep H (.lst []) (.ref a):=by
 rw [Rep]
 exact ⟨a,[],rfl,e,by rw [Reps]⟩
theorem jdj (ns:List Int):eqP (.lst (ns.map Dt.int)) (.lst []) = decide (ns = []):=by
 cases ns <;> rfl
theorem jq5 {ps:List (Int × Int)} {i:Nat} {p:Int × Int} {x:Int} (h:ps[i]? = some p):(ps.set i (p.1,x)).map (·.1) = ps.map (·.1):=by
 rw [List.map_set]
 refine List.ext_getElem? fun j=>?_
 rw [List.getElem?_set]
 split
 ·rename_i e
  subst e
  have hl:=(List.getElem?_eq_some_iff.mp h).1
  rw [List.length_map,if_pos hl,List.getElem?_map,h]
  rfl
 ·rfl
theorem js0 {α:Type} {l:List α} {i:Nat} {x y:α} (h:y ∈ l.set i x):y = x \/ y ∈ l:=(List.mem_or_eq_of_mem_set h).symm
theorem jnz:∀ {ps:List (Int × Int)} {i:Nat} {q:Int × Int},(∀ p ∈ ps,1 <= p.2)->0 <= q.2->sumP (ps.set i q) <= sumP ps + q.2
 | [],_,_,_,h=>by show (0:Int) <= 0 + _; omega
 | p :: r,0,q,h,h2=>by
  rw [List.set_cons_zero,jb1,jb1]
  have:=h p (List.mem_cons_self ..)
  omega
 | p :: r,i + 1,q,h,h2=>by
  rw [List.set_cons_succ,jb1,jb1]
  have:=jnz (ps:=r) (i:=i) (q:=q) (fun z hz=>h z (List.mem_cons_of_mem _ hz)) h2
  omega
theorem jgv {α β:Type} {F:α->β->Prop}:∀ {a:List α} {b:List β} {i:Nat} {x:α} {y:β},Paired F a b->F x y->Paired F (a.set i x) (b.set i y)
 | _,_,_,_,_,.nil,_=>.nil
 | _,_,0,_,_,.cons r t,h=>.cons h t
 | _,_,i + 1,_,_,.cons r t,h=>.cons r (jgv t h)
theorem jsn {ns:List Int} {k:Int} (h0:0 <= k) (h1:k < ns.length):∃ n,atI (ns.map V.int) k = some (.int n)/\n ∈ ns:=by
 obtain ⟨i,rfl⟩:∃ i:Nat,k = (i:Int):=⟨k.toNat,by omega⟩
 have hi:i < ns.length:=by omega
 refine ⟨ns[i],jcp ?_,List.getElem_mem hi⟩
 rw [List.getElem?_map,gE hi]
 rfl
def jrg:Sp:=fun vs H Q _=>∃ st o v ps ts S,vs = [.ref st,v]/\H st = some o/\StO o/\jbg H v ps ts/\WebOk ps ts/\sumP ps <= S/\2 * S + 2 <= 1000000000000 /\
 ∀ v' H' o' ps',But st H H'->H' st = some o'->StO o'->jbg H' v' ps' ts->WebOk ps' ts->ps'.length = ps.length->ps'.map (·.1) = ps.map (·.1)->sumP ps' <= 2 * S + 2->Q v' H'
theorem jko (B:Blt mg) (D:DefAt K mg "_law_bent" (top 70) ["_law_state","_law_web_here"] f fd) (Dqa:DefAt K mg "_law_take" (top 67) ["_law_state","_law_many"] fqa dqa) (Gqa:FnOk P w K mg base CX0 1 fqa dqa ["_law_state","_law_many"] jdm):FnOk P w K mg base CX0 2 f fd ["_law_state","_law_web_here"] jrg:=by
 have sc:FnScope ["_law_state","_law_web_here","_law_places_here","_law_at","_law_place","_law_price","_law_some","_law_way"] ["_law_state","_law_web_here"] (jab (top 70)):=by walk_at "SC"
 refine D.F.ok sc (fun vs H Q E h=>?_) (fun cdv A outer s H vs Q E hr h=>?_)
 ·obtain ⟨st,o,v,ps,ts,S,rfl,_⟩:=h
  rfl
 obtain ⟨st,o,v,ps,ts,S,rfl,es,so,hw,wok,hS,hS2,h⟩:=h
 obtain ⟨u,pa,ta,xs,ys,rfl,eu,ep,et,pp,pt⟩:=id hw
 have hlx:xs.length = ps.length:=Paired.length pp
 have okl:=wok.pl
 have pos:=wok.p.pos
 have pos1:∀ p ∈ ps,1 <= p.2:=fun p hp=>(pos p hp).1
 have nn:=jep pos1
 have hnd:=wok.p.nodup
 have hu:=jb8 hr
 have hu0:_ < PySem.cLine:=Nat.lt_of_succ_lt hu
 refine ⟨_,(ja4 (jak (i:=2) sc.nd rfl (Or.inl rfl) (jbf jfb rfl B.list PyProof.Rows.boot_list (ja0 (jam q_ix (qv 1) ja5 (fun _ _=>rfl)) ja3))) (ja4 (jb3 (jal (jfs hr.units) (qv 2) (jb6 ja3) (jag _)) (ja7 (jah (qv 1))) jaj) (ja4 (jak (i:=3) sc.nd rfl (Or.inl rfl) (ja8 Gqa (hr.mono (by decide)) rfl Dqa.m Dqa.F.kp Dqa.b .nil jan (ja0 (qv 0) (ja0 (jaf jdl rfl B.len PySem.boot_len (ja0 (qv 2) ja3)) ja3)))) (ja4 (jfq (jam q_ix (qv 2) (qv 3) (fun _ _=>rfl)) (jc9 (n:=2) rfl (jat (jad (i:=4) sc.nd rfl (Or.inr rfl)) (jat (jad (i:=5) sc.nd rfl (Or.inl rfl)) jbr)))) (ja4 (jco (i:=6) sc.nd rfl (Or.inl rfl) (CpScope.of (N:=["_law_one","_law_cost","_law_place","_law_web_here"]) (src:=[none,none,some 4,some 1]) (by rfl)) rfl (jau (qv 2)) (fun _ _ _ _=>(jc9 (n:=2) rfl (jat (jad (i:=0) (jac (l:=["_law_one","_law_cost","_law_place","_law_web_here"]) (by rfl)) rfl (Or.inl rfl)) (jat (jad (i:=1) (jac (l:=["_law_one","_law_cost","_law_place","_law_web_here"]) (by rfl)) rfl (Or.inl rfl)) jbr)))) (fun _ _ _ _=>(jc1 (PW.pt (jf4 (jal (jlq hr.units) (jb4 (ja0 (qv 0) (ja0 (qv 2) ja3))) (jam q_ix (qv 3) ja5 (fun _ _=>rfl)) (by with_unfolding_all rfl)) (je1 (jal (jlq hr.units) (jb4 (ja0 (qv 2) (ja0 (qv 0) ja3))) (jam q_ix (qv 3) ja5 (fun _ _=>rfl)) (by with_unfolding_all rfl))))))) (fun _ _ _ _=>(qv 1))) (ja4 (jak (i:=7) sc.nd rfl (Or.inl rfl) (ja8 Gqa (hr.mono (by decide)) rfl Dqa.m Dqa.F.kp Dqa.b .nil jan (ja0 (qv 0) (ja0 ja5 ja3)))) (ja4 (jb3 (PW.pt (jcm (jal (jec hr.units) (qv 6) (jb6 ja3) (jag _)) (jc0 (jal q_eq (qv 7) ja5 (jag _))))) (ja7 (jak (i:=5) sc.nd rfl (Or.inl rfl) (jay jdp (jay jcc (jaf (jhh rfl) rfl B.sum PyProof.Rows.boot_sum (ja0 (qv 6) ja3)) (ja8 Gqa (hr.mono (by decide)) rfl Dqa.m Dqa.F.kp Dqa.b .nil jan (ja0 (qv 0) (ja0 ja5 ja3)))) ja5))) jaj) (ja4 (jb3 (PW.pt (jcm (jal (jec hr.units) (qv 6) (jb6 ja3) (jag _)) (jc0 (jal q_eq (qv 7) ja5 (jag _))))) (ja7 (jak (i:=5) sc.nd rfl (Or.inl rfl) (jay jdp (jay jcc (jay jdp (jaf (jhh rfl) rfl B.sum PyProof.Rows.boot_sum (ja0 (qv 6) ja3)) (jaf (jel rfl) rfl B.min PyProof.Rows.boot_min (ja0 (qv 6) ja3))) (ja8 Gqa (hr.mono (by decide)) rfl Dqa.m Dqa.F.kp Dqa.b .nil jan (ja0 (qv 0) (ja0 ja5 ja3)))) ja5))) jaj) (ja4 (jb3 (PW.pt (jcm (jal (jec hr.units) (qv 6) (jb6 ja3) (jag _)) (jc0 (jal q_eq (qv 7) ja5 (jag _))))) (ja7 (jak (i:=5) sc.nd rfl (Or.inl rfl) (jay jdp (jay jcc (jam q_ix (qv 6) (ja8 Gqa (hr.mono (by decide)) rfl Dqa.m Dqa.F.kp Dqa.b .nil jan (ja0 (qv 0) (ja0 (jaf jdl rfl B.len PySem.boot_len (ja0 (qv 6) ja3)) ja3))) (fun _ _=>rfl)) (ja8 Gqa (hr.mono (by decide)) rfl Dqa.m Dqa.F.kp Dqa.b .nil jan (ja0 (qv 0) (ja0 ja5 ja3)))) ja5))) jaj) (ja4 (jfq (jb4 (ja0 (qv 4) (ja0 (jaf (jml rfl) rfl B.max PyProof.Rows.boot_max (ja0 ja5 (ja0 (qv 5) ja3))) ja3))) (jgt (qv 2) (qv 3) jgs)) (ja7 (jah (jb4 (ja0 (qv 2) (ja0 (jam q_ix (qv 1) ja5 (fun _ _=>rfl)) ja3))))))))))))))),?_⟩
 refine ja6 fun R hR=>?_
 simp_arith [jai,eu,at0,ep]
 intro l hl
 have s1:=ja2 hl (.lst xs)
 have el:upd H l (.lst xs) l = some (.lst xs):=ja1
 generalize upd H l (.lst xs) = H1 at s1 el
 have nl:l ≠ st:=(jaa es hl).symm
 have hw1:=hw.same s1
 have pp1:=Prs.same s1 pp
 have es1:=s1 _ _ es
 have et1:=s1 _ _ et
 have eu1:=s1 _ _ eu
 have pt1:=Prs.same s1 pt
 walk_at "RD"
 subst hR
 refine ja6 fun R hR=>?_
 walk_at "RD"
 intro e0 he0
 have s2:=ja2 he0 (.lst [])
 have ee0:upd H1 e0 (.lst []) e0 = some (.lst []):=ja1
 generalize upd H1 e0 (.lst []) = H2 at s2 ee0
 have el2:=s2 _ _ el
 have pp2:=Prs.same s2 pp1
 refine ⟨_,_,jo3 el2 pp2,jd1 ee0,jpc ps,.inl ⟨_,_,rfl,rfl⟩,?_⟩
 rw [jm3]
 have s02:=s1.trans s2
 by_cases c0:ps = []
 ·rw [decide_eq_true c0]
  walk_at "RD"
  exact h _ _ o ps (fun b u nb q=>s02 _ _ q) (s02 _ _ es) so (hw.same s02) wok rfl rfl (by omega)
 rw [decide_eq_false c0]
 simp only [Bool.false_eq_true,if_false]
 walk_at "RD"
 subst hR
 have hpl:0 < ps.length:=List.length_pos_iff.mpr c0
 refine ja6 fun R hR=>?_
 simp_arith [jai,el2]
 refine ⟨st,o,(xs.length:Int),rfl,s02 _ _ es,so,by omega,by omega,fun k o3 k0 k1 so3=>?_⟩
 have b3:But st H (upd H2 st o3):=fun b u nb q=>by rw [jae nb]; exact s02 _ _ q
 have b23:But st H2 (upd H2 st o3):=But.at st H2 o3
 have e3:upd H2 st o3 st = some o3:=ja1
 have es2:=s02 _ _ es
 generalize upd H2 st o3 = H3 at b3 b23 e3
 have el3:=b23 _ _ nl el2
 have pp3:Prs H3 xs ps:=Prs.tups (b23.tups es2 so.imm) pp2
 have hw3:=hw.but es so b3
 obtain ⟨i,hi⟩:∃ i:Nat,(i:Int) = k:=⟨k.toNat,by omega⟩
 have hil:i < ps.length:=by omega
 have hpi:ps[i]? = some ps[i]:=gE hil
 generalize ps[i] = p at hpi
 have hpm:p ∈ ps:=List.mem_of_getElem? hpi
 obtain ⟨ux,gx,hgx⟩:=jc2 pp3 hpi
 obtain ⟨tx,rfl,htx⟩:=id hgx
 have ak:atI xs k = some (.ref tx):=by rw [<- hi]; exact jcp gx
 walk_at "RD"
 subst hR
 refine ja6 fun R hR=>?_
 simp_arith [jai,el3,ak,htx]
 subst hR
 clear s1 s2 hw1 pp1 es1 et1 eu1 pt1 pp2 el2 el ee0 b23
 obtain ⟨u',pa',ta',xs',ys',eq0,eu3,ep3,et3,ppx,pt3⟩:=id hw3
 cases eq0
 refine ja6 fun R hR=>?_
 refine jap (Itl K l) H3 (fun R' hR'=>?_) (fun z hz=>jaw ps.length (fun j σ' Hc=>∃ w1 w2,σ' = [w1,w2,some (.int p.1),some (.ref u)]/\Same H3 Hc/\∃ zs:List Int,Hc z = some (.lst (zs.map V.int))/\zs.Sublist ((ps.take j).map (·.2))) ⟨none,none,rfl,ja2 hz _,[],ja1,List.Sublist.refl _⟩ ?_ ?_)
 ·unfold jbd
  walk_at "RD"
  exact ⟨l,rfl,⟨_,SqL.of el3⟩,hR'⟩
 ·rintro j σ' Hc hj ⟨w1,w2,rfl,s4,zs,ez,sb⟩
  have z1:SqL K Hc l xs:=SqL.of (s4 _ _ el3)
  have x1:xs[j]? = some (xs[j]'(by omega)):=gE _
  refine ⟨⟨_,_,z1,x1⟩,?_⟩
  rintro y H' ⟨rfl,hy⟩
  obtain ⟨q,hq,pq⟩:=jas pp3 (hy _ z1)
  obtain ⟨t,rfl,ht⟩:=pq.same s4
  have hzl:zs.length <= 40:=by
   have:=sb.length_le
   rw [List.length_map,List.length_take] at this
   omega
  simp_arith [ht]
  intro t1 ht1
  have s5:=s4.trans (ja2 ht1 (.tup [.int q.1,.int p.1]))
  have et1:upd H' t1 (.tup [.int q.1,.int p.1]) t1 = some (.tup [.int q.1,.int p.1]):=ja1
  have ez5:=ja2 ht1 (.tup [.int q.1,.int p.1]) _ _ ez
  generalize upd H' t1 (.tup [.int q.1,.int p.1]) = H5 at s5 et1 ez5
  simp_arith [jai,s5 _ _ eu3,at1]
  refine ⟨jd3 (q.1,p.1),ta',ys',ts.map jd3,(Pr.rep (p:=(q.1,p.1)) ⟨t1,rfl,et1⟩),rfl,s5 _ _ et3,Prs.reps (Prs.same s5 pt3),by have:=jch ts; omega,?_⟩
  have app:∀ H6,Same H3 H6->H6 z = some (.lst (zs.map V.int))->∃ xs,H6 z = some (.lst xs)/\xs.length < sizeLine/\∃ w1 w2,([some (.int q.1),some (.int q.2),some (.int p.1),some (.ref u)]:St) = [w1,w2,some (.int p.1),some (.ref u)]/\Same H3 (upd H6 z (.lst (xs ++ [.int q.2])))/\∃ zs:List Int,upd H6 z (.lst (xs ++ [.int q.2])) z = some (.lst (zs.map V.int))/\zs.Sublist ((ps.take (j + 1)).map (·.2)):=fun H6 s6 ez6=>by
   refine ⟨_,ez6,by rw [List.length_map]; exact szl' (by omega),_,_,rfl,jao s6 hz,zs ++ [q.2],?_,?_⟩
   ·rw [ja1,List.map_append]
    rfl
   ·rw [jaq hq,List.map_append]
    exact sb.append (List.Sublist.refl _)
  have noapp:∀ H6,Same H3 H6->H6 z = some (.lst (zs.map V.int))->∃ w1 w2,([some (.int q.1),some (.int q.2),some (.int p.1),some (.ref u)]:St) = [w1,w2,some (.int p.1),some (.ref u)]/\Same H3 H6/\∃ zs:List Int,H6 z = some (.lst (zs.map V.int))/\zs.Sublist ((ps.take (j + 1)).map (·.2)):=fun H6 s6 ez6=>by
   refine ⟨_,_,rfl,s6,zs,ez6,?_⟩
   rw [jaq hq,List.map_append]
   exact sb.trans (List.sublist_append_left _ _)
  simp only [Bool.false_eq_true,if_false]
  refine ite2 (fun _=>?_) (fun _=>?_)
  ·exact app _ s5 ez5
  ·intro t2 ht2
   have s6:=s5.trans (ja2 ht2 (.tup [.int p.1,.int q.1]))
   have et2:upd H5 t2 (.tup [.int p.1,.int q.1]) t2 = some (.tup [.int p.1,.int q.1]):=ja1
   have ez6:=ja2 ht2 (.tup [.int p.1,.int q.1]) _ _ ez5
   generalize upd H5 t2 (.tup [.int p.1,.int q.1]) = H6 at s6 et2 ez6
   simp only [jai,s6 _ _ eu3,at1]
   refine ⟨jd3 (p.1,q.1),ta',ys',ts.map jd3,(Pr.rep (p:=(p.1,q.1)) ⟨t2,rfl,et2⟩),rfl,s6 _ _ et3,Prs.reps (Prs.same s6 pt3),by have:=jch ts; omega,?_⟩
   simp only [Bool.false_eq_true,if_false]
   refine ite2 (fun _=>?_) (fun _=>?_)
   ·exact app _ s6 ez6
   ·exact noapp _ s6 ez6
 rintro σ' H4 ⟨w1,w2,rfl,s4,zs,ez,sb⟩
 refine ⟨⟨_,SqL.of (s4 _ _ el3),by omega⟩,?_⟩
 rw [List.take_length] at sb
 have hsb:=jeq sb fun y hy=>by
  obtain ⟨q,hq,rfl⟩:=List.mem_map.mp hy
  exact pos1 q hq
 have hsb1:zs.sum <= sumP ps:=hsb.2.1
 have hzl:zs.length <= 40:=by
  have:=sb.length_le
  rw [List.length_map] at this
  omega
 have nz:z ≠ st:=(jaa e3 hz).symm
 have b4:But st H H4:=fun b u nb q=>s4 _ _ (b3 _ _ nb q)
 have e4:=s4 _ _ e3
 have el4:=s4 _ _ el3
 walk_at "RD"
 subst hR
 refine ja6 fun R hR=>?_
 walk_at "RD"
 refine ⟨st,o3,4,rfl,e4,so3,by decide,by decide,fun way o5 w0 w1 so5=>?_⟩
 have b5:=b4.trans (But.at st H4 o5)
 have e5:upd H4 st o5 st = some o5:=ja1
 have el5:=But.at st H4 o5 _ _ nl el4
 have ez5:=But.at st H4 o5 _ _ nz ez
 generalize upd H4 st o5 = H5 at b5 e5 el5 ez5
 clear b4 e4 el4 ez s4 hw3 pp3 el3 e3 b3 ppx pt3 et3 ep3 eu3 htx hgx
 have hpS:p.2 <= S:=by
  have:p.2 <= sumP ps:=by
   have:=(jeq (List.Sublist.refl (ps.map (·.2))) fun y hy=>by
    obtain ⟨q,hq,rfl⟩:=List.mem_map.mp hy
    exact pos1 q hq).2.2 p.2 (List.mem_map_of_mem hpm)
   exact this.2
  omega
 walk_at "RD"
 subst hR
 refine ja6 fun R1 hR1=>?_
 have F1:∀ x H5 o5,But st H H5->H5 st = some o5->StO o5->H5 l = some (.lst xs)->H5 z = some (.lst (zs.map V.int))->x <= S + 2->R1 { nx:=fun _ H'=>Q .non H',rt:=Q } [some (.ref st),some (.ref u),some (.ref l),some (.int k),some (.int p.1),some (.int x),some (.ref z),some (.int way)] H5:=by
  intro x H5 o5 b5 e5 so5 el5 ez5 hx
  subst hR1
  refine ja6 fun R2 hR2=>?_
  have F2:∀ x H5 o5,But st H H5->H5 st = some o5->StO o5->H5 l = some (.lst xs)->H5 z = some (.lst (zs.map V.int))->x <= S + 2->R2 { nx:=fun _ H'=>Q .non H',rt:=Q } [some (.ref st),some (.ref u),some (.ref l),some (.int k),some (.int p.1),some (.int x),some (.ref z),some (.int way)] H5:=by
   intro x H5 o5 b5 e5 so5 el5 ez5 hx
   subst hR2
   refine ja6 fun R3 hR3=>?_
   have F3:∀ x H5 o5,But st H H5->H5 st = some o5->StO o5->H5 l = some (.lst xs)->H5 z = some (.lst (zs.map V.int))->x <= S + 2->R3 { nx:=fun _ H'=>Q .non H',rt:=Q } [some (.ref st),some (.ref u),some (.ref l),some (.int k),some (.int p.1),some (.int x),some (.ref z),some (.int way)] H5:=by
    intro x H5 o5 b5 e5 so5 el5 ez5 hx
    subst hR3
    refine ja6 fun R hR=>?_
    walk_at "RD"
    intro tn htn
    have t8:=ja2 htn (.tup [.int p.1,.int (if x > 1 then x else 1)])
    have etn:upd H5 tn (.tup [.int p.1,.int (if x > 1 then x else 1)]) tn = some (.tup [.int p.1,.int (if x > 1 then x else 1)]):=ja1
    generalize upd H5 tn (.tup [.int p.1,.int (if x > 1 then x else 1)]) = H8 at t8 etn
    have b8:But st H H8:=fun b u nb q=>t8 _ _ (b5 _ _ nb q)
    have el8:=t8 _ _ el5
    have e8:=t8 _ _ e5
    have hix:ixN xs.length k = some i:=by
     unfold ixN
     rw [<- hi]
     have:i < xs.length:=by omega
     simp [this]
    simp_arith [el8,hix]
    have b9:But st H (upd H8 l (.lst (xs.set i (.ref tn)))):=fun b u nb q=>by rw [jae (jaa q hl)]; exact b8 _ _ nb q
    have e9:upd H8 l (.lst (xs.set i (.ref tn))) st = some o5:=by rw [jae nl.symm]; exact e8
    have el9:upd H8 l (.lst (xs.set i (.ref tn))) l = some (.lst (xs.set i (.ref tn))):=ja1
    have etn9:upd H8 l (.lst (xs.set i (.ref tn))) tn = some (.tup [.int p.1,.int (if x > 1 then x else 1)]):=by rw [jae fun z=>by rw [z,el8] at etn; cases etn]; exact etn
    generalize upd H8 l (.lst (xs.set i (.ref tn))) = H9 at b9 e9 el9 etn9
    have hw9:=hw.but es so b9
    obtain ⟨u9,pa9,ta9,xs9,ys9,eq9,eu9,ep9,et9,pp9,pt9⟩:=id hw9
    cases eq9
    subst hR
    simp_arith [jai,eu9,at1]
    intro wv hwv
    have s9:=ja2 hwv (.tup [.ref l,.ref ta9])
    have pp9:Prs H9 xs ps:=Prs.tups (b9.tups es so.imm) pp
    generalize hy:(if x > 1 then x else 1) = y at etn9
    have hy1:1 <= y/\y <= S + 2:=by rw [<- hy]; split <;> omega
    have pset:Prs H9 (xs.set i (.ref tn)) (ps.set i (p.1,y)):=jgv pp9 ⟨tn,rfl,etn9⟩
    have hk:=jq5 (x:=y) hpi
    have hps:∀ q ∈ ps.set i (p.1,y),1 <= q.2:=fun q hq=>by
     rcases js0 hq with e | e
     ·rw [e]; exact hy1.1
     ·exact pos1 q e
    have hsum:=jnz (i:=i) (q:=(p.1,y)) pos1 (by show (0:Int) <= y; omega)
    refine h _ _ o5 (ps.set i (p.1,y)) (fun b u nb q=>s9 _ _ (b9 _ _ nb q)) (s9 _ _ e9) so5 ⟨wv,l,ta9,_,ys9,rfl,ja1,s9 _ _ el9,s9 _ _ et9,Prs.same s9 pset,Prs.same s9 pt9⟩ ⟨by rw [List.length_set]; exact wok.pl,wok.p.keys hk hps (by simp only at hsum; omega),wok.tl,TiOk.keys (fun n hn=>by rw [jp6 hk]; exact hn) wok.t⟩ (List.length_set ..) hk (by simp only at hsum; omega)
   walk_at "RD"
   intro e3 he3
   have t3:=ja2 he3 (.lst [])
   have ee3:upd H5 e3 (.lst []) e3 = some (.lst []):=ja1
   generalize upd H5 e3 (.lst []) = H6 at t3 ee3
   have b6:But st H H6:=fun b u nb q=>t3 _ _ (b5 _ _ nb q)
   have ez6:=t3 _ _ ez5
   have e6:=t3 _ _ e5
   have el6:=t3 _ _ el5
   refine ⟨_,_,jbl ez6,jd1 ee3,jbw zs,.inl ⟨_,_,rfl,rfl⟩,?_⟩
   rw [jdj]
   by_cases c1:zs = []
   ·rw [decide_eq_true c1]
    simp only [Bool.not_true,Bool.false_eq_true,if_false]
    exact F3 x H6 o5 b6 e6 so5 el6 ez6 hx
   ·rw [decide_eq_false c1]
    simp only [Bool.not_false,if_true]
    refine ite2 (fun _=>?_) (fun _=>F3 x H6 o5 b6 e6 so5 el6 ez6 hx)
    have hzp:0 < zs.length:=List.length_pos_iff.mpr c1
    simp only [jai,ez6,List.length_map]
    refine ⟨st,o5,(zs.length:Int),rfl,e6,so5,by omega,by omega,fun g oA g0 g1 soA=>?_⟩
    have bA:=b6.trans (But.at st H6 oA)
    have eA:upd H6 st oA st = some oA:=ja1
    have elA:=But.at st H6 oA _ _ nl el6
    have ezA:=But.at st H6 oA _ _ nz ez6
    generalize upd H6 st oA = HA at bA eA elA ezA
    obtain ⟨n,hn1,hn2⟩:=jsn (ns:=zs) g0 g1
    have hn3:=(hsb.2.2 n hn2)
    simp only [ezA,hn1]
    refine ⟨st,oA,3,rfl,eA,soA,by decide,by decide,fun d o7 d0 d1 so7=>?_⟩
    have b7:=bA.trans (But.at st HA o7)
    have e7:upd HA st o7 st = some o7:=ja1
    have el7:=But.at st HA o7 _ _ nl elA
    have ez7:=But.at st HA o7 _ _ nz ezA
    generalize upd HA st o7 = H7 at b7 e7 el7 ez7
    exact F3 _ H7 o7 b7 e7 so7 el7 ez7 (by omega)
  walk_at "RD"
  intro e2 he2
  have t2:=ja2 he2 (.lst [])
  have ee2:upd H5 e2 (.lst []) e2 = some (.lst []):=ja1
  generalize upd H5 e2 (.lst []) = H6 at t2 ee2
  have b6:But st H H6:=fun b u nb q=>t2 _ _ (b5 _ _ nb q)
  have ez6:=t2 _ _ ez5
  have e6:=t2 _ _ e5
  have el6:=t2 _ _ el5
  refine ⟨_,_,jbl ez6,jd1 ee2,jbw zs,.inl ⟨_,_,rfl,rfl⟩,?_⟩
  rw [jdj]
  by_cases c1:zs = []
  ·rw [decide_eq_true c1]
   simp only [Bool.not_true,Bool.false_eq_true,if_false]
   exact F2 x H6 o5 b6 e6 so5 el6 ez6 hx
  ·rw [decide_eq_false c1]
   simp only [Bool.not_false,if_true]
   refine ite2 (fun _=>?_) (fun _=>F2 x H6 o5 b6 e6 so5 el6 ez6 hx)
   refine ⟨z,zs,rfl,ez6,?_⟩
   refine ⟨z,zs,rfl,ez6,c1,fun m hm1 hm2=>?_⟩
   have hm3:=(hsb.2.2 m hm1)
   refine ⟨st,o5,3,rfl,e6,so5,by decide,by decide,fun d o7 d0 d1 so7=>?_⟩
   have b7:=b6.trans (But.at st H6 o7)
   have e7:upd H6 st o7 st = some o7:=ja1
   have el7:=But.at st H6 o7 _ _ nl el6
   have ez7:=But.at st H6 o7 _ _ nz ez6
   generalize upd H6 st o7 = H7 at b7 e7 el7 ez7
   exact F2 _ H7 o7 b7 e7 so7 el7 ez7 (by omega)
 obtain ⟨x,hxx,hx⟩:∃ x,x = p.2/\x <= S + 2:=⟨_,rfl,by omega⟩
 rw [<- hxx]
 walk_at "RD"
 intro e1 he1
 have t1:=ja2 he1 (.lst [])
 have ee1:upd H5 e1 (.lst []) e1 = some (.lst []):=ja1
 generalize upd H5 e1 (.lst []) = H6 at t1 ee1
 have b6:But st H H6:=fun b u nb q=>t1 _ _ (b5 _ _ nb q)
 have ez6:=t1 _ _ ez5
 have e6:=t1 _ _ e5
 have el6:=t1 _ _ el5
 refine ⟨_,_,jbl ez6,jd1 ee1,jbw zs,.inl ⟨_,_,rfl,rfl⟩,?_⟩
 rw [jdj]
 by_cases c1:zs = []
 ·rw [decide_eq_true c1]
  simp only [Bool.not_true,Bool.false_eq_true,if_false]
  exact F1 x H6 o5 b6 e6 so5 el6 ez6 hx
 ·rw [decide_eq_false c1]
  simp only [Bool.not_false,if_true]
  refine ite2 (fun _=>?_) (fun _=>F1 x H6 o5 b6 e6 so5 el6 ez6 hx)
  refine ⟨z,zs,rfl,ez6,?_⟩
  refine ⟨st,o5,3,rfl,e6,so5,by decide,by decide,fun d o7 d0 d1 so7=>?_⟩
  have b7:=b6.trans (But.at st H6 o7)
  have e7:upd H6 st o7 st = some o7:=ja1
  have el7:=But.at st H6 o7 _ _ nl el6
  have ez7:=But.at st H6 o7 _ _ nz ez6
  generalize upd H6 st o7 = H7 at b7 e7 el7 ez7
  exact F1 _ H7 o7 b7 e7 so7 el7 ez7 (by omega)
theorem TiOk.of {kvs:List (Key × V)}:∀ {qs:List (Int × Int)} {q:Int × Int},(∀ t ∈ qs,q.1 < t.1 \/ (q.1 = t.1/\q.2 < t.2))->qs.Pairwise jee->qs.Nodup->(∀ t ∈ qs,t.1 < t.2/\hasK kvs t.1 = true/\hasK kvs t.2 = true)->TiOk kvs q qs
 | [],_,_,_,_,_=>trivial
 | p :: r,q,h1,h2,h3,h4=>by
  rw [List.pairwise_cons] at h2
  rw [List.nodup_cons] at h3
  refine ⟨⟨?_,h4 p (.head _)⟩,TiOk.of (fun t m=>?_) h2.2 h3.2 fun t m=>h4 t (.tail _ m)⟩
  ·rcases h1 p (.head _) with c | ⟨c,d⟩
   ·exact jrj c
   ·rw [c]; exact jrk d
  ·have z:=h2.1 t m
   unfold jee at z
   by_cases c:p.1 = t.1
   ·have ne:p.2 ≠ t.2:=fun d=>h3.1 (by rw [show p = t from Prod.ext c d]; exact m)
    omega
   ·omega
theorem jqg {a b c d:Int} (h:HT.lexLt [a,b] [c,d] = true):a < c \/ (a = c/\b < d):=by
 rw [HT.lexLt_cons] at h
 by_cases e:a = c
 ·rw [if_pos e,HT.lexLt_cons] at h
  by_cases e2:b = d
  ·rw [if_pos e2] at h
   cases h
  ·rw [if_neg e2] at h
   exact .inr ⟨e,of_decide_eq_true h⟩
 ·rw [if_neg e] at h
  exact .inl (of_decide_eq_true h)
theorem TiOk.gt {kvs:List (Key × V)}:∀ {ts:List (Int × Int)} {q:Int × Int},TiOk kvs q ts->∀ t ∈ ts,q.1 < t.1 \/ (q.1 = t.1/\q.2 < t.2)
 | p :: r,q,⟨h,u⟩,t,m=>by
  have:=jqg h.1
  rcases List.mem_cons.mp m with rfl | m
  ·exact this
  ·have:=TiOk.gt u t m
   omega
theorem TiOk.nodup {kvs:List (Key × V)}:∀ {ts:List (Int × Int)} {q:Int × Int},TiOk kvs q ts->ts.Nodup
 | [],_,_=>List.nodup_nil
 | p :: r,q,⟨h,u⟩=>List.nodup_cons.mpr ⟨fun m=>by have:=TiOk.gt u p m; omega,TiOk.nodup u⟩
theorem PlOk.snoc:∀ {ps:List (Int × Int)} {l s:Int} {q:Int × Int},PlOk l s ps->(∀ p ∈ ps,p.1 < q.1)->l < q.1->q.1 <= 999->1 <= q.2->q.2 <= 1000000000000 - (s + sumP ps)->PlOk l s (ps ++ [q])
 | [],l,s,q,_,_,h1,h2,h3,h4=>⟨⟨h1,h2,h3,by have:sumP [] = 0:=rfl; omega⟩,trivial⟩
 | p :: r,l,s,q,h,h0,h1,h2,h3,h4=>by
  rw [jb1] at h4
  exact ⟨h.1,PlOk.snoc h.2 (fun z hz=>h0 z (List.mem_cons_of_mem _ hz)) (h0 p (List.mem_cons_self ..)) h2 h3 (by omega)⟩
theorem Dr.le:∀ {ps:List (Int × Int)} {l:Int},Dr l ps->(∀ p ∈ ps,p.1 <= l + 23 * ps.length)/\sumP ps <= 1000000000 * ps.length
 | [],_,_=>⟨fun _ h=>(by cases h),by decide⟩
 | q :: r,l,h=>by
  obtain ⟨h1,h2⟩:=Dr.le h.2
  have e:((q :: r).length:Int) = r.length + 1:=by simp
  rw [e,jb1]
  have:=h.1
  refine ⟨fun p hp=>?_,by omega⟩
  rcases List.mem_cons.mp hp with z | hp
  ·rw [z]; omega
  ·have:=h1 p hp
   omega
theorem jbx {α β:Type} {F:α->β->Prop}:∀ {a:List α} {b:List β} {c:List α} {d:List β},Paired F a b->Paired F c d->Paired F (a ++ c) (b ++ d)
 | _,_,_,_,.nil,h=>h
 | _,_,_,_,.cons r t,h=>.cons r (jbx t h)
def jr3:Sp:=fun vs H Q _=>∃ st o v ps ts,vs = [.ref st,v]/\H st = some o/\StO o/\jbg H v ps ts/\WebOk ps ts/\Dr (-1) ps/\ps.length <= 6/\ts.length <= 36 /\
 ∀ v' H' o' ps' ts',But st H H'->H' st = some o'->StO o'->jbg H' v' ps' ts'->WebOk ps' ts'->ps'.length <= ps.length + 1->sumP ps' <= 9000000000->Q v' H'
theorem jge (B:Blt mg) (D:DefAt K mg "_law_twinned" (top 71) ["_law_state","_law_web_here"] f fd) (Dqa:DefAt K mg "_law_take" (top 67) ["_law_state","_law_many"] fqa dqa) (Gqa:FnOk P w K mg base CX0 1 fqa dqa ["_law_state","_law_many"] jdm):FnOk P w K mg base CX0 2 f fd ["_law_state","_law_web_here"] jr3:=by
 have sc:FnScope ["_law_state","_law_web_here","_law_places_here","_law_place","_law_fresh","_law_some","_law_price"] ["_law_state","_law_web_here"] (jab (top 71)):=by walk_at "SC"
 refine D.F.ok sc (fun vs H Q E h=>?_) (fun cdv A outer s H vs Q E hr h=>?_)
 ·obtain ⟨st,o,v,ps,ts,rfl,_⟩:=h
  rfl
 obtain ⟨st,o,v,ps,ts,rfl,es,so,hw,wok,dr,hl8,ht88,h⟩:=h
 obtain ⟨u,pa,ta,xs,ys,rfl,eu,ep,et,pp,pt⟩:=id hw
 have hlx:xs.length = ps.length:=Paired.length pp
 have hly:ys.length = ts.length:=Paired.length pt
 obtain ⟨drl,drs⟩:=dr.le
 have pos:=wok.p.pos
 have pos1:∀ p ∈ ps,1 <= p.2:=fun p hp=>(pos p hp).1
 have nn:=jep pos1
 have hnd:=wok.p.nodup
 have nps:pa ≠ st:=jmw ep pp es so
 have nts:ta ≠ st:=jmw et pt es so
 have hu:=jb8 hr
 have hu0:_ < PySem.cLine:=Nat.lt_of_succ_lt hu
 refine ⟨_,(ja4 (jak (i:=2) sc.nd rfl (Or.inl rfl) (jam q_ix (qv 1) ja5 (fun _ _=>rfl))) (ja4 (jb3 (PW.pt (jf4 (jal (jfs hr.units) (qv 2) (jb6 ja3) (jag _)) (je1 (jal q_gt (ja8 Gqa (hr.mono (by decide)) rfl Dqa.m Dqa.F.kp Dqa.b .nil jan (ja0 (qv 0) (ja0 ja5 ja3))) ja5 (jag _))))) (ja7 (jah (qv 1))) jaj) (ja4 (jak (i:=3) sc.nd rfl (Or.inr rfl) (jam q_ix (jam q_ix (qv 2) (ja8 Gqa (hr.mono (by decide)) rfl Dqa.m Dqa.F.kp Dqa.b .nil jan (ja0 (qv 0) (ja0 (jaf jdl rfl B.len PySem.boot_len (ja0 (qv 2) ja3)) ja3))) (fun _ _=>rfl)) ja5 (fun _ _=>rfl))) (ja4 (jak (i:=4) sc.nd rfl (Or.inr rfl) (jay jcc (jay jcc (jam q_ix (jam q_ix (qv 2) (jfr jfp ja5) (fun _ _=>rfl)) ja5 (fun _ _=>rfl)) ja5) (ja8 Gqa (hr.mono (by decide)) rfl Dqa.m Dqa.F.kp Dqa.b .nil jan (ja0 (qv 0) (ja0 ja5 ja3))))) (ja4 (jco (i:=5) sc.nd rfl (Or.inl rfl) (CpScope.of (N:=["_law_one","_law_cost","_law_place","_law_web_here"]) (src:=[none,none,some 3,some 1]) (by rfl)) rfl (jau (qv 2)) (fun _ _ _ _=>(jc9 (n:=2) rfl (jat (jad (i:=0) (jac (l:=["_law_one","_law_cost","_law_place","_law_web_here"]) (by rfl)) rfl (Or.inl rfl)) (jat (jad (i:=1) (jac (l:=["_law_one","_law_cost","_law_place","_law_web_here"]) (by rfl)) rfl (Or.inl rfl)) jbr)))) (fun _ _ _ _=>(jc1 (PW.pt (jf4 (jal (jlq hr.units) (jb4 (ja0 (qv 0) (ja0 (qv 2) ja3))) (jam q_ix (qv 3) ja5 (fun _ _=>rfl)) (by with_unfolding_all rfl)) (je1 (jal (jlq hr.units) (jb4 (ja0 (qv 2) (ja0 (qv 0) ja3))) (jam q_ix (qv 3) ja5 (fun _ _=>rfl)) (by with_unfolding_all rfl))))))) (fun _ _ _ _=>(qv 0))) (ja4 (jb3 (jal q_eq (ja8 Gqa (hr.mono (by decide)) rfl Dqa.m Dqa.F.kp Dqa.b .nil jan (ja0 (qv 0) (ja0 ja5 ja3))) ja5 (jag _)) (ja7 (jak (i:=5) sc.nd rfl (Or.inl rfl) (jc3 jf3 (qv 5) (jc4 ja5) jd2))) jaj) (ja4 (jak (i:=6) sc.nd rfl (Or.inl rfl) (jay jcc ja5 (ja8 Gqa (hr.mono (by decide)) rfl Dqa.m Dqa.F.kp Dqa.b .nil jan (ja0 (qv 0) (ja0 (jam q_ix (jb6 (ja0 ja5 (ja0 (jay jq9 ja5 ja5) ja3))) (ja8 Gqa (hr.mono (by decide)) rfl Dqa.m Dqa.F.kp Dqa.b .nil jan (ja0 (qv 0) (ja0 ja5 ja3))) (fun _ _=>rfl)) ja3))))) (ja7 (jah (jb4 (ja0 (jay jcv (qv 2) (jb6 (ja0 (jb4 (ja0 (qv 4) (ja0 (qv 6) ja3))) ja3))) (ja0 (jaf jd9 rfl B.sorted PyProof.Rows.boot_sorted (ja0 (jay jcv (jam q_ix (qv 1) ja5 (fun _ _=>rfl)) (jbb (CpScope.of (N:=["_law_one","_law_fresh"]) (src:=[none,some 4]) (by rfl)) rfl (jau (qv 5)) (fun _ _ _ _=>(jad (i:=0) (jac (l:=["_law_one","_law_fresh"]) (by rfl)) rfl (Or.inl rfl))) (fun _ _ _ _=>jbj) (fun _ _ _ _=>(jb4 (ja0 (qv 0) (ja0 (qv 1) ja3)))))) ja3)) ja3)))))))))))),?_⟩
 refine ja6 fun R hR=>?_
 simp_arith [jai,eu,at0]
 subst hR
 refine ja6 fun R hR=>?_
 walk_at "RD"
 intro e0 he0
 have s2:=ja2 he0 (.lst [])
 have ee0:upd H e0 (.lst []) e0 = some (.lst []):=ja1
 generalize upd H e0 (.lst []) = H2 at s2 ee0
 refine ⟨_,_,jo3 (s2 _ _ ep) (Prs.same s2 pp),jd1 ee0,jpc ps,.inl ⟨_,_,rfl,rfl⟩,?_⟩
 rw [jm3]
 by_cases c0:ps = []
 ·rw [decide_eq_true c0]
  walk_at "RD"
  exact h _ _ o ps ts (fun b u nb q=>s2 _ _ q) (s2 _ _ es) so (hw.same s2) wok (Nat.le_succ _) (by omega)
 rw [decide_eq_false c0]
 simp only [Bool.false_eq_true,if_false]
 have hpl:0 < ps.length:=List.length_pos_iff.mpr c0
 refine ⟨st,o,3,rfl,s2 _ _ es,so,by decide,by decide,fun d1 o3 d10 d11 so3=>?_⟩
 have b3:But st H (upd H2 st o3):=fun b u nb q=>by rw [jae nb]; exact s2 _ _ q
 have e3:upd H2 st o3 st = some o3:=ja1
 generalize upd H2 st o3 = H3 at b3 e3
 refine ite2 (fun _=>h _ _ o3 ps ts b3 e3 so3 (hw.but es so b3) wok (Nat.le_succ _) (by omega)) (fun _=>?_)
 subst hR
 refine ja6 fun R hR=>?_
 have ep3:=b3 _ _ nps ep
 simp_arith [jai,ep3]
 refine ⟨st,o3,(xs.length:Int),rfl,e3,so3,by omega,by omega,fun k o4 k0 k1 so4=>?_⟩
 have b4:=b3.trans (But.at st H3 o4)
 have e4:upd H3 st o4 st = some o4:=ja1
 generalize upd H3 st o4 = H4 at b4 e4
 clear b3 e3 ep3 so3
 have ep4:=b4 _ _ nps ep
 have pp4:Prs H4 xs ps:=Prs.tups (b4.tups es so.imm) pp
 obtain ⟨i,hi⟩:∃ i:Nat,(i:Int) = k:=⟨k.toNat,by omega⟩
 have hpi:ps[i]? = some ps[i]:=gE (by omega)
 obtain ⟨ux,gx,hgx⟩:=jc2 pp4 hpi
 obtain ⟨tx,rfl,htx⟩:=id hgx
 have ak:atI xs k = some (.ref tx):=by rw [<- hi]; exact jcp gx
 simp_arith [jai,ep4,ak,htx,at0]
 generalize ps[i].1 = n0
 subst hR
 clear hpi hgx htx gx ak
 refine ja6 fun R hR=>?_
 have hql:ps[ps.length - 1]? = some (ps[ps.length - 1]'(by omega)):=gE _
 generalize ps[ps.length - 1]'(by omega) = lq at hql
 obtain ⟨uq,gq,hgq⟩:=jc2 pp4 hql
 obtain ⟨tq,rfl,htq⟩:=id hgq
 have aq:atI xs (-1) = some (.ref tq):=by
  unfold atI ixN
  rw [if_neg (by decide),if_pos (by omega)]
  show xs[((-1:Int) + (xs.length:Int)).toNat]? = _
  rw [show ((-1:Int) + (xs.length:Int)).toNat = ps.length - 1 by omega]
  exact gq
 have hlq:lq ∈ ps:=List.mem_of_getElem? hql
 have hmax:∀ p ∈ ps,p.1 <= lq.1:=fun p hp=>by
  obtain ⟨j,hj⟩:=List.getElem?_of_mem hp
  have hjl:=(List.getElem?_eq_some_iff.mp hj).1
  by_cases c:j < ps.length - 1
  ·exact Int.le_of_lt (wok.p.rise _ _ _ _ c hj hql)
  ·have:j = ps.length - 1:=by omega
   rw [this,hql] at hj
   cases hj
   exact Int.le_refl _
 simp_arith [jai,ep4,aq,htq,at0]
 refine ⟨st,o4,9,rfl,e4,so4,by decide,by decide,fun d2 o5 d20 d21 so5=>?_⟩
 have b5:=b4.trans (But.at st H4 o5)
 have e5:upd H4 st o5 st = some o5:=ja1
 generalize upd H4 st o5 = H3 at b5 e5
 clear b4 e4 ep4 pp4 htq hgq gq
 have hlq1:=drl lq hlq
 have hlq0:=wok.p.gt lq hlq
 obtain ⟨fr,hfr⟩:∃ fr,fr = lq.1 + 1 + d2:=⟨_,rfl⟩
 dsimp only
 rw [<- hfr]
 have fr1:∀ p ∈ ps,p.1 < fr:=fun p hp=>by have:=hmax p hp; omega
 have hw3:=hw.but es so b5
 have ep3:=b5 _ _ nps ep
 have et3:=b5 _ _ nts et
 have pp3:Prs H3 xs ps:=Prs.tups (b5.tups es so.imm) pp
 have pt3:Prs H3 ys ts:=Prs.tups (b5.tups es so.imm) pt
 have eu3:H3 u = some (.tup [.ref pa,.ref ta]):=b5.tups es so.imm _ _ rfl eu
 walk_at "RD"
 subst hR
 refine ja6 fun R hR=>?_
 refine jap (Itl K pa) H3 (fun R' hR'=>?_) (fun z hz=>jaw ps.length (fun j σ' Hc=>∃ w1 w2,σ' = [w1,w2,some (.int n0),some (.ref u)]/\Same H3 Hc/\∃ zs:List Int,Hc z = some (.lst (zs.map V.int))/\zs.Sublist ((ps.take j).map (·.1))) ⟨none,none,rfl,ja2 hz _,[],ja1,List.Sublist.refl _⟩ ?_ ?_)
 ·unfold jbd
  walk_at "RD"
  exact ⟨pa,rfl,⟨_,SqL.of ep3⟩,hR'⟩
 ·rintro j σ' Hc hj ⟨w1,w2,rfl,s4,zs,ez,sb⟩
  have z1:SqL K Hc pa xs:=SqL.of (s4 _ _ ep3)
  have x1:xs[j]? = some (xs[j]'(by omega)):=gE _
  refine ⟨⟨_,_,z1,x1⟩,?_⟩
  rintro y H' ⟨rfl,hy⟩
  obtain ⟨q,hq,pq⟩:=jas pp3 (hy _ z1)
  obtain ⟨t,rfl,ht⟩:=pq.same s4
  have hzl:zs.length <= 40:=by
   have:=sb.length_le
   rw [List.length_map,List.length_take] at this
   omega
  simp_arith [ht]
  intro t1 ht1
  have s5:=s4.trans (ja2 ht1 (.tup [.int q.1,.int n0]))
  have et1:upd H' t1 (.tup [.int q.1,.int n0]) t1 = some (.tup [.int q.1,.int n0]):=ja1
  have ez5:=ja2 ht1 (.tup [.int q.1,.int n0]) _ _ ez
  generalize upd H' t1 (.tup [.int q.1,.int n0]) = H5 at s5 et1 ez5
  simp_arith [jai,s5 _ _ eu3,at1]
  refine ⟨jd3 (q.1,n0),ta,ys,ts.map jd3,(Pr.rep (p:=(q.1,n0)) ⟨t1,rfl,et1⟩),rfl,s5 _ _ et3,Prs.reps (Prs.same s5 pt3),by have:=jch ts; omega,?_⟩
  have app:∀ H6,Same H3 H6->H6 z = some (.lst (zs.map V.int))->∃ xs,H6 z = some (.lst xs)/\xs.length < sizeLine/\∃ w1 w2,([some (.int q.1),some (.int q.2),some (.int n0),some (.ref u)]:St) = [w1,w2,some (.int n0),some (.ref u)]/\Same H3 (upd H6 z (.lst (xs ++ [.int q.1])))/\∃ zs:List Int,upd H6 z (.lst (xs ++ [.int q.1])) z = some (.lst (zs.map V.int))/\zs.Sublist ((ps.take (j + 1)).map (·.1)):=fun H6 s6 ez6=>by
   refine ⟨_,ez6,by rw [List.length_map]; exact szl' (by omega),_,_,rfl,jao s6 hz,zs ++ [q.1],?_,?_⟩
   ·rw [ja1,List.map_append]
    rfl
   ·rw [jaq hq,List.map_append]
    exact sb.append (List.Sublist.refl _)
  have noapp:∀ H6,Same H3 H6->H6 z = some (.lst (zs.map V.int))->∃ w1 w2,([some (.int q.1),some (.int q.2),some (.int n0),some (.ref u)]:St) = [w1,w2,some (.int n0),some (.ref u)]/\Same H3 H6/\∃ zs:List Int,H6 z = some (.lst (zs.map V.int))/\zs.Sublist ((ps.take (j + 1)).map (·.1)):=fun H6 s6 ez6=>by
   refine ⟨_,_,rfl,s6,zs,ez6,?_⟩
   rw [jaq hq,List.map_append]
   exact sb.trans (List.sublist_append_left _ _)
  simp only [Bool.false_eq_true,if_false]
  refine ite2 (fun _=>?_) (fun _=>?_)
  ·exact app _ s5 ez5
  ·intro t2 ht2
   have s6:=s5.trans (ja2 ht2 (.tup [.int n0,.int q.1]))
   have et2:upd H5 t2 (.tup [.int n0,.int q.1]) t2 = some (.tup [.int n0,.int q.1]):=ja1
   have ez6:=ja2 ht2 (.tup [.int n0,.int q.1]) _ _ ez5
   generalize upd H5 t2 (.tup [.int n0,.int q.1]) = H6 at s6 et2 ez6
   simp only [jai,s6 _ _ eu3,at1]
   refine ⟨jd3 (n0,q.1),ta,ys,ts.map jd3,(Pr.rep (p:=(n0,q.1)) ⟨t2,rfl,et2⟩),rfl,s6 _ _ et3,Prs.reps (Prs.same s6 pt3),by have:=jch ts; omega,?_⟩
   simp only [Bool.false_eq_true,if_false]
   refine ite2 (fun _=>?_) (fun _=>?_)
   ·exact app _ s6 ez6
   ·exact noapp _ s6 ez6
 rintro σ' H4 ⟨w1,w2,rfl,s4,zs,ez,sb⟩
 refine ⟨⟨_,SqL.of (s4 _ _ ep3),by omega⟩,?_⟩
 rw [List.take_length] at sb
 have nz:z ≠ st:=(jaa e5 hz).symm
 have hz0:H z = none:=by
  cases q:H z with
  | none=>rfl
  | some u=>rw [b5 _ _ nz q] at hz; cases hz
 have b4:But st H H4:=fun b u nb q=>s4 _ _ (b5 _ _ nb q)
 have e4:=s4 _ _ e5
 clear s4 hw3 ep3 et3 pp3 pt3 eu3 e5 b5
 walk_at "RD"
 subst hR
 refine ja6 fun R hR=>?_
 walk_at "RD"
 refine ⟨st,o5,4,rfl,e4,so5,by decide,by decide,fun d4 o6 d40 d41 so6=>?_⟩
 have b6:=b4.trans (But.at st H4 o6)
 have e6:upd H4 st o6 st = some o6:=ja1
 have ez6:=But.at st H4 o6 _ _ nz ez
 generalize upd H4 st o6 = H6 at b6 e6 ez6
 clear b4 e4 ez so5
 have F:∀ (z:Addr) (zs:List Int) (H6:Hp),But st H H6->H6 st = some o6->z ≠ st->H6 z = some (.lst (zs.map V.int))->zs.Sublist (ps.map (·.1))->R { nx:=fun _ H'=>Q .non H',rt:=Q } [some (.ref st),some (.ref u),some (.ref pa),some (.int n0),some (.int fr),some (.ref z),none] H6:=by
  intro z zs H6 b6 e6 nz ez6 sb
  have hzl:zs.length <= 8:=by
   have:=sb.length_le
   rw [List.length_map] at this
   omega
  subst hR
  refine ja6 fun R hR=>?_
  walk_at "RD"
  refine ⟨⟨by decide,by decide,by decide⟩,?_⟩
  intro m1 hm1
  have s7:=ja2 hm1 (.lst [.int 3,.int (10 ^ Int.toNat 9)])
  have em:upd H6 m1 (.lst [.int 3,.int (10 ^ Int.toNat 9)]) m1 = some (.lst [.int 3,.int (10 ^ Int.toNat 9)]):=ja1
  have nm:m1 ≠ st:=(jaa e6 hm1).symm
  generalize upd H6 m1 (.lst [.int 3,.int (10 ^ Int.toNat 9)]) = H7 at s7 em
  refine ⟨st,o6,2,rfl,s7 _ _ e6,so6,by decide,by decide,fun d7 o8 d70 d71 so8=>?_⟩
  have b8:But st H6 (upd H7 st o8):=fun b u nb q=>by rw [jae nb]; exact s7 _ _ q
  have e8:upd H7 st o8 st = some o8:=ja1
  have em8:=But.at st H7 o8 _ _ nm em
  generalize upd H7 st o8 = H8 at b8 e8 em8
  obtain ⟨mv,hmv,mv0,mv1⟩:∃ v:Int,atI [V.int 3,.int (10 ^ Int.toNat 9)] d7 = some (.int v)/\1 <= v/\v <= 1000000000:=by
   rw [p9]
   have:d7 = 0 \/ d7 = 1:=by omega
   rcases this with rfl | rfl
   ·exact ⟨3,at0,by decide,by decide⟩
   ·exact ⟨1000000000,at1,by decide,by decide⟩
  simp_arith [jai,em8,hmv]
  refine ⟨st,o8,mv,rfl,e8,so8,mv0,by omega,fun d9 o9 d90 d91 so9=>?_⟩
  have b9:=(b6.trans b8).trans (But.at st H8 o9)
  have e9:upd H8 st o9 st = some o9:=ja1
  have ez9:=But.at st H8 o9 _ _ nz (b8 _ _ nz ez6)
  generalize upd H8 st o9 = H9 at b9 e9 ez9
  clear b8 e8 em8 b6 e6 ez6 s7 em so8
  have ep9:=b9 _ _ nps ep
  have et9:=b9 _ _ nts et
  have pp9:Prs H9 xs ps:=Prs.tups (b9.tups es so.imm) pp
  have pt9:Prs H9 ys ts:=Prs.tups (b9.tups es so.imm) pt
  have eu9:H9 u = some (.tup [.ref pa,.ref ta]):=b9.tups es so.imm _ _ rfl eu
  walk_at "RD"
  subst hR
  walk_at "RD"
  intro t1 ht1
  have q1:=ja2 ht1 (.tup [.int fr,.int (1 + d9)])
  have et1:upd H9 t1 (.tup [.int fr,.int (1 + d9)]) t1 = some (.tup [.int fr,.int (1 + d9)]):=ja1
  generalize upd H9 t1 (.tup [.int fr,.int (1 + d9)]) = HA at q1 et1
  intro l1 hl1
  have q2:=q1.trans (ja2 hl1 (.lst [.ref t1]))
  have el1:upd HA l1 (.lst [.ref t1]) l1 = some (.lst [.ref t1]):=ja1
  have et2:=ja2 hl1 (.lst [.ref t1]) _ _ et1
  generalize upd HA l1 (.lst [.ref t1]) = HB at q2 el1 et2
  simp_arith [q2 _ _ ep9,el1]
  refine ⟨szl (by omega),?_⟩
  intro l2 hl2
  have q3:=q2.trans (ja2 hl2 (.lst (xs ++ [.ref t1])))
  have el2:upd HB l2 (.lst (xs ++ [.ref t1])) l2 = some (.lst (xs ++ [.ref t1])):=ja1
  have et3:=ja2 hl2 (.lst (xs ++ [.ref t1])) _ _ et2
  generalize upd HB l2 (.lst (xs ++ [.ref t1])) = HC at q3 el2 et3
  simp_arith [jai,q3 _ _ eu9,at1]
  refine jap (Itl K z) HC (fun R' hR'=>?_) (fun y hy=>jaw zs.length (fun j σ' Hc=>∃ w1,σ' = [w1,some (.int fr)]/\Same HC Hc/\∃ vs,Hc y = some (.lst vs)/\Prs Hc vs ((zs.take j).map fun n=>(n,fr))) ⟨none,rfl,ja2 hy _,[],ja1,.nil⟩ ?_ ?_)
  ·unfold jbd
   walk_at "RD"
   exact ⟨z,rfl,⟨_,SqL.of (q3 _ _ ez9)⟩,hR'⟩
  ·rintro j σ' Hc hj ⟨w1,rfl,s4,vs,ev,pv⟩
   have z1:SqL K Hc z (zs.map V.int):=SqL.of (s4 _ _ (q3 _ _ ez9))
   have x1:(zs.map V.int)[j]? = some ((zs.map V.int)[j]'(by rw [List.length_map]; omega)):=gE _
   refine ⟨⟨_,_,z1,x1⟩,?_⟩
   rintro yy H' ⟨rfl,hyy⟩
   obtain ⟨m,hm,rfl⟩:=jbt (hyy _ z1)
   have hvl:vs.length <= 8:=by
    have:=Paired.length pv
    rw [List.length_map,List.length_take] at this
    omega
   walk_at "RD"
   intro tt htt
   have s5:=ja2 htt (.tup [.int m,.int fr])
   have ett:upd H' tt (.tup [.int m,.int fr]) tt = some (.tup [.int m,.int fr]):=ja1
   have ev5:=s5 _ _ ev
   generalize upd H' tt (.tup [.int m,.int fr]) = H5 at s5 ett ev5
   refine ⟨_,ev5,szl' (by omega),_,rfl,jao (s4.trans s5) hy,vs ++ [.ref tt],ja1,?_⟩
   rw [jaq hm,List.map_append]
   have t6:=jba (ys:=vs ++ [.ref tt]) ev5
   exact jar (Prs.tups t6 (Prs.same s5 pv)) (Pr.tups (p:=(m,fr)) ⟨tt,rfl,ett⟩ t6)
  rintro σ' HD ⟨w1,rfl,s4,vs,ev,pv⟩
  refine ⟨⟨_,SqL.of (s4 _ _ (q3 _ _ ez9)),by rw [List.length_map]; omega⟩,?_⟩
  rw [List.take_length] at pv
  have q4:=q3.trans s4
  have el4:=s4 _ _ el2
  have et4:=s4 _ _ et3
  have hvl:vs.length <= 8:=by
   have:=Paired.length pv
   rw [List.length_map] at this
   omega
  simp_arith [q4 _ _ et9,ev]
  refine ⟨szl (by omega),?_⟩
  intro l3 hl3
  have q5:=q4.trans (ja2 hl3 (.lst (ys ++ vs)))
  have s5:=ja2 hl3 (.lst (ys ++ vs))
  have el3:upd HD l3 (.lst (ys ++ vs)) l3 = some (.lst (ys ++ vs)):=ja1
  generalize upd HD l3 (.lst (ys ++ vs)) = HE at q5 s5 el3
  have pall:Prs HE (ys ++ vs) (ts ++ zs.map fun n=>(n,fr)):=jbx (Prs.same q5 pt9) (Prs.same s5 pv)
  have tin:∀ t ∈ ts,(t.1 ∈ ps.map (·.1)/\t.2 ∈ ps.map (·.1))/\t.1 < t.2:=fun t ht=>by
   obtain ⟨a1,a2,a3⟩:=TiOk.ats wok.t t ht
   rw [jbm] at a2 a3
   exact ⟨⟨of_decide_eq_true a2,of_decide_eq_true a3⟩,a1⟩
  have kge:∀ n ∈ ps.map (·.1),-1 < n/\n < fr/\n <= 999:=fun n hn=>by
   obtain ⟨p,hp,rfl⟩:=List.mem_map.mp hn
   exact ⟨wok.p.gt p hp,fr1 p hp,(pos p hp).2⟩
  have zin:∀ n ∈ zs,n ∈ ps.map (·.1):=fun n hn=>sb.subset hn
  have hnew:∀ t ∈ zs.map fun n=>(n,fr),∃ n ∈ zs,t = (n,fr):=fun t ht=>by
   obtain ⟨n,hn,e⟩:=List.mem_map.mp ht
   exact ⟨n,hn,e.symm⟩
  refine ⟨l3,_,_,1000,rfl,el3,pall,by rw [List.length_append]; omega,fun q hq=>?_,fun l4 zs4 qs hl4 pq prm srt=>?_⟩
  ·rcases List.mem_append.mp hq with hq | hq
   ·have:=kge _ (tin q hq).1.2
    omega
   ·obtain ⟨n,hn,rfl⟩:=hnew q hq
    show 0 <= fr/\fr < 1000
    omega
  have q6:=q5.trans (ja2 hl4 (.lst zs4))
  have s6:=ja2 hl4 (.lst zs4)
  have el6:upd HE l4 (.lst zs4) l4 = some (.lst zs4):=ja1
  generalize upd HE l4 (.lst zs4) = HF at q6 s6 el6
  walk_at "RD"
  intro wv hwv
  have s7:=ja2 hwv (.tup [.ref l2,.ref l4])
  have S7:=s5.trans (s6.trans s7)
  have pnew:Prs HD (xs ++ [.ref t1]) (ps ++ [(fr,1 + d9)]):=jar (Prs.same q4 pp9) ⟨t1,rfl,et4⟩
  have hsum:sumP (ps ++ [(fr,1 + d9)]) = sumP ps + (1 + d9):=by rw [jq0]; show _ + ((1 + d9) + 0) = _; omega
  have kin:∀ n ∈ ps.map (·.1),hasK (jav (ps ++ [(fr,1 + d9)])) n = true:=fun n hn=>by
   rw [jbm,List.map_append]
   exact decide_eq_true (List.mem_append_left _ hn)
  have kfr:hasK (jav (ps ++ [(fr,1 + d9)])) fr = true:=by
   rw [jbm,List.map_append]
   exact decide_eq_true (List.mem_append_right _ (List.mem_singleton.mpr rfl))
  have hlen:=prm.length_eq
  rw [List.length_append,List.length_map] at hlen
  refine h _ _ o9 _ qs (fun b u nb q=>s7 _ _ (q6 _ _ (b9 _ _ nb q))) (s7 _ _ (q6 _ _ e9)) so9 ⟨wv,l2,l4,_,_,rfl,ja1,S7 _ _ el4,s7 _ _ el6,Prs.same S7 pnew,Prs.same (s6.trans s7) pq⟩ ⟨by rw [List.length_append]; show _ + 1 <= 40; omega,wok.p.snoc fr1 (by show -1 < fr; omega) (by show fr <= 999; omega) (by show 1 <= 1 + d9; omega) (by show 1 + d9 <= _; omega),by omega,?_⟩ (by rw [List.length_append]; exact Nat.le_refl _) (by omega)
  refine TiOk.of (fun t ht=>?_) srt (prm.nodup_iff.mpr ?_) fun t ht=>?_
  ·rcases List.mem_append.mp (prm.mem_iff.mp ht) with ht | ht
   ·exact .inl (kge _ (tin t ht).1.1).1
   ·obtain ⟨n,hn,rfl⟩:=hnew t ht
    exact .inl (kge _ (zin n hn)).1
  ·refine List.nodup_append.mpr ⟨TiOk.nodup wok.t,?_,fun a ha b hb e=>?_⟩
   ·unfold List.Nodup
    rw [List.pairwise_map]
    exact (hnd.sublist sb).imp fun {a b} hab e=>hab (congrArg Prod.fst e)
   ·obtain ⟨n,hn,rfl⟩:=hnew b hb
    have:=kge _ (tin a ha).1.2
    rw [e] at this
    have:fr < fr:=this.2.1
    omega
  ·rcases List.mem_append.mp (prm.mem_iff.mp ht) with ht | ht
   ·exact ⟨(tin t ht).2,kin _ (tin t ht).1.1,kin _ (tin t ht).1.2⟩
   ·obtain ⟨n,hn,rfl⟩:=hnew t ht
    exact ⟨(kge _ (zin n hn)).2.1,kin _ (zin n hn),kfr⟩
 refine ite2 (fun _=>?_) (fun _=>F z zs H6 b6 e6 nz ez6 sb)
 simp_arith [ez6]
 intro c hc
 have hcut:cutV (zs.map V.int) (some 1) none = (zs.drop 1).map V.int:=by
  cases zs with
  | nil=>rfl
  | cons m r=>rw [List.map_cons,jph]; rfl
 rw [hcut]
 exact F c (zs.drop 1) _ (b6.trans (But.new hc)) (by rw [jae (jaa e6 hc)]; exact e6) (jaa e6 hc).symm ja1 ((List.drop_sublist 1 zs).trans sb)
theorem putK_new {κ:Type} [DecidableEq κ]:∀ {kvs:List (κ × V)} {k:κ} {v:V},k ∉ kvs.map (·.1)->putK kvs k v = kvs ++ [(k,v)]
 | [],k,v,_=>by simp [putK]
 | (a,b) :: r,k,v,h=>by
  have h1:k ≠ a:=fun z=>h (by rw [z]; exact .head _)
  have h2:k ∉ r.map (·.1):=fun z=>h (.tail _ z)
  have ih:=putK_new (v:=v) h2
  unfold putK at ih ⊢
  simp only [List.any_cons,List.map_cons,List.cons_append]
  first
   | (split at ih <;> split <;> simp_all)
   | simp_all
variable {C_NoStep fz2:Addr}
def bnd:Nat->Int
 | 0=>9000000000
 | i + 1=>2 * bnd i + 2
def jnn:Sp:=fun vs H Q _=>∃ st o m,vs = [.ref st,.int m]/\H st = some o/\StO o/\1 <= m/\m <= 7 /\
 ∀ v H' o' ps ts,But st H H'->H' st = some o'->StO o'->jbg H' v ps ts->WebOk ps ts->ps.length <= 7->Q v H'
theorem jd0:∀ {a b:List Int},a.Nodup->(∀ x ∈ a,x ∈ b)->a.length <= b.length
 | [],_,_,_=>Nat.zero_le _
 | x :: r,b,h,hs=>by
  rw [List.nodup_cons] at h
  have hx:=hs x (List.mem_cons_self ..)
  have:=jd0 (b:=b.erase x) h.2 fun y hy=>by
   have ne:y ≠ x:=fun e=>h.1 (e ▸ hy)
   exact (List.mem_erase_of_ne ne).mpr (hs y (List.mem_cons_of_mem _ hy))
  rw [List.length_erase_of_mem hx] at this
  have:0 < b.length:=List.length_pos_of_mem hx
  rw [List.length_cons]
  omega
theorem jgw (t:Int × Int) (r:List (Int × Int)) (n:Int):ja9 (t :: r) n = nr n t ++ ja9 r n:=by
 unfold ja9
 rw [List.flatMap_cons]
theorem jfx {kvs:List (Key × V)} {n:Int}:∀ {ts:List (Int × Int)} {q:Int × Int},TiOk kvs q ts->(ja9 ts n).Pairwise (· < ·)
 | [],_,_=>List.Pairwise.nil
 | t :: r,q,h=>by
  have ih:=jfx (n:=n) h.2
  have lt:∀ t ∈ r,t.1 < t.2:=fun t ht=>(TiOk.ats h.2 t ht).1
  rw [jgw,List.pairwise_append]
  refine ⟨?_,ih,fun a ha b hb=>?_⟩
  ·unfold nr
   split
   ·exact List.pairwise_singleton _ _
   ·split
    ·exact List.pairwise_singleton _ _
    ·exact List.Pairwise.nil
  ·have hb':=(jce lt).mp hb
   have h1:=h.1.2.1
   unfold nr at ha
   split at ha
   ·rename_i c
    rw [List.mem_singleton] at ha
    rcases hb' with g | g
    ·have g1:=TiOk.gt h.2 _ g
     simp only at g1
     omega
    ·have g1:=TiOk.gt h.2 _ g
     have g2:=lt _ g
     simp only at g1 g2
     omega
   ·split at ha
    ·rename_i c1 c
     rw [List.mem_singleton] at ha
     rcases hb' with g | g
     ·have g1:=TiOk.gt h.2 _ g
      have g2:=lt _ g
      simp only at g1 g2
      omega
     ·have g1:=TiOk.gt h.2 _ g
      have g2:=lt _ g
      simp only at g1 g2
      omega
    ·cases ha
def lowN (ts:List (Int × Int)) (n:Int):List Int:=(ts.filter fun t=>decide (t.2 = n)).map (·.1)
def higN (ts:List (Int × Int)) (n:Int):List Int:=(ts.filter fun t=>decide (t.1 = n)).map (·.2)
theorem jje {n:Int}:∀ {ts:List (Int × Int)},(∀ t ∈ ts,t.1 < t.2)->(lowN ts n ++ higN ts n).Perm (ja9 ts n)
 | [],_=>List.Perm.refl _
 | t :: r,h=>by
  have ih:=jje (n:=n) fun t ht=>h t (List.mem_cons_of_mem _ ht)
  have h1:=h t (List.mem_cons_self ..)
  rw [jgw]
  unfold nr
  by_cases c1:t.1 = n
  ·have c2:¬ t.2 = n:=by omega
   rw [if_pos c1]
   have e1:lowN (t :: r) n = lowN r n:=by unfold lowN; rw [List.filter_cons,if_neg (by simpa using c2)]
   have e2:higN (t :: r) n = t.2 :: higN r n:=by unfold higN; rw [List.filter_cons,if_pos (by simpa using c1)]; rfl
   rw [e1,e2]
   exact List.perm_middle.trans (ih.cons _)
  ·rw [if_neg c1]
   have e2:higN (t :: r) n = higN r n:=by unfold higN; rw [List.filter_cons,if_neg (by simpa using c1)]
   by_cases c2:t.2 = n
   ·rw [if_pos c2]
    have e1:lowN (t :: r) n = t.1 :: lowN r n:=by unfold lowN; rw [List.filter_cons,if_pos (by simpa using c2)]; rfl
    rw [e1,e2]
    exact ih.cons _
   ·rw [if_neg c2]
    have e1:lowN (t :: r) n = lowN r n:=by unfold lowN; rw [List.filter_cons,if_neg (by simpa using c2)]
    rw [e1,e2]
    exact ih
theorem jir:∀ {a b:List Int},a.Perm b->a.Pairwise (· <= ·)->b.Pairwise (· < ·)->a = b
 | [],b,p,_,_=>(List.nil_perm.mp p).symm
 | x :: r,[],p,_,_=>by cases (List.perm_nil.mp p)
 | x :: r,y :: t,p,ha,hb=>by
  rw [List.pairwise_cons] at ha hb
  have e:x = y:=by
   have h1:x ∈ y :: t:=p.mem_iff.mp (List.mem_cons_self ..)
   have h2:y ∈ x :: r:=p.mem_iff.mpr (List.mem_cons_self ..)
   rcases List.mem_cons.mp h1 with e | h1
   ·exact e
   ·rcases List.mem_cons.mp h2 with e | h2
    ·exact e.symm
    ·have:=ha.1 y h2
     have:=hb.1 x h1
     omega
  subst e
  rw [jir (List.Perm.cons_inv p) ha.2 hb.2]
theorem jeu {ps ts:List (Int × Int)} (wok:WebOk ps ts) (n:Int):(ja9 ts n).Nodup:=(jfx wok.t).imp fun h=>by omega
theorem jfy {ps ts:List (Int × Int)} (wok:WebOk ps ts) (n:Int):(ja9 ts n).length <= ps.length:=by
 have:=jd0 (b:=ps.map (·.1)) (jeu wok n) fun x hx=>jbc wok hx
 rwa [List.length_map] at this
def jfm:Sp:=fun vs H Q _=>∃ v ps ts,vs = [v]/\jbg H v ps ts/\WebOk ps ts/\∀ d H',H d = none->Same H H'->H' d = some (.dK (jav ps))->Q (.ref d) H'
def je2:Sp:=fun vs H Q _=>∃ v n ps ts,vs = [v,.int n]/\jbg H v ps ts/\WebOk ps ts/\∀ l H',H l = none->Same H H'->H' l = some (.lst ((ja9 ts n).map V.int))->Q (.ref l) H'
theorem jj5 (B:Blt mg) (D:DefAt K mg "_law_shape" (top 72) ["_law_state","_law_most"] f fd) (Dqa:DefAt K mg "_law_take" (top 67) ["_law_state","_law_many"] fqa dqa) (Gqa:FnOk P w K mg base CX0 1 fqa dqa ["_law_state","_law_many"] jdm) (Dzi:DefAt K mg "_law_web" (top 69) ["_law_state","_law_most"] fzi dzi) (Gzi:FnOk P w K mg base CX0 3 fzi dzi ["_law_state","_law_most"] jr2) (Dzh:DefAt K mg "_law_twinned" (top 71) ["_law_state","_law_web_here"] fzh dzh) (Gzh:FnOk P w K mg base CX0 2 fzh dzh ["_law_state","_law_web_here"] jr3) (Dq7:DefAt K mg "_law_bent" (top 70) ["_law_state","_law_web_here"] fq7 dq7) (Gq7:FnOk P w K mg base CX0 2 fq7 dq7 ["_law_state","_law_web_here"] jrg):FnOk P w K mg base CX0 4 f fd ["_law_state","_law_most"] jnn:=by
 have sc:FnScope ["_law_state","_law_most","_law_web_here","_law_k"] ["_law_state","_law_most"] (jab (top 72)):=by walk_at "SC"
 refine D.F.ok sc (fun vs H Q E h=>?_) (fun cdv A outer s H vs Q E hr h=>?_)
 ·obtain ⟨st,o,m,rfl,_⟩:=h
  rfl
 obtain ⟨st,o,m,rfl,es,so,m0,m1,h⟩:=h
 have hu:=jb8 hr
 have hu0:_ < PySem.cLine:=Nat.lt_of_succ_lt hu
 refine ⟨_,(ja4 (jak (i:=2) sc.nd rfl (Or.inl rfl) (ja8 Gzh (hr.mono (by decide)) rfl Dzh.m Dzh.F.kp Dzh.b .nil jan (ja0 (qv 0) (ja0 (ja8 Gzi (hr.mono (by decide)) rfl Dzi.m Dzi.F.kp Dzi.b .nil jan (ja0 (qv 0) (ja0 (jay jdp (qv 1) ja5) ja3))) ja3)))) (ja4 (jc5 PassesOwn.never rfl (jea rfl B.range (ja0 (ja8 Gqa (hr.mono (by decide)) rfl Dqa.m Dqa.F.kp Dqa.b .nil jan (ja0 (qv 0) (ja0 ja5 ja3))) ja3)) (jad (i:=3) sc.nd rfl (Or.inl rfl)) (ja7 (jak (i:=2) sc.nd rfl (Or.inl rfl) (ja8 Gq7 (hr.mono (by decide)) rfl Dq7.m Dq7.F.kp Dq7.b .nil jan (ja0 (qv 0) (ja0 (qv 2) ja3)))))) (ja7 (jah (qv 2))))),?_⟩
 refine ja6 fun R hR=>?_
 walk_at "RD"
 refine ⟨st,o,m - 1,rfl,es,so,by omega,by omega,fun v H1 o1 ps ts b1 e1 so1 hw wok dr hlp hlt=>?_⟩
 refine ⟨st,o1,v,ps,ts,rfl,e1,so1,hw,wok,dr,by omega,hlt,fun v2 H2 o2 ps2 ts2 b2 e2 so2 hw2 wok2 hl2 hs2=>?_⟩
 walk_at "RD"
 subst hR
 refine ja6 fun R hR=>?_
 refine jd4 (ι:=Nat × Hp × HO) (fun j=>Itr 0 j.1) (fun j=>j.2.1) (fun j=>j.1 <= 3/\But st H2 j.2.1/\j.2.1 st = some j.2.2/\StO j.2.2) (fun R' hR'=>?_) (fun j0 ok0=>?_)
 ·unfold jqi
  walk_at "RD"
  refine ⟨st,o2,4,rfl,e2,so2,by decide,by decide,fun c o3 c0 c1 so3=>?_⟩
  exact ⟨c,rfl,by omega,by omega,hR' (c.toNat,upd H2 st o3,o3) ⟨by show c.toNat <= 3; omega,But.at st H2 o3,ja1,so3⟩⟩
 obtain ⟨N,H3,o3⟩:=j0
 obtain ⟨hN,b3,e3,so3⟩:=ok0
 dsimp only at hN b3 e3 so3
 have hw3:=hw2.but e2 so2 b3
 have b03:=(b1.trans b2).trans b3
 refine jdt (n:=N) (fun i σ H4=>∃ v4 o4 ps4 kk,σ = [some (.ref st),some (.int m),some v4,kk]/\But st H H4/\H4 st = some o4/\StO o4/\jbg H4 v4 ps4 ts2/\WebOk ps4 ts2/\ps4.length = ps2.length/\sumP ps4 <= bnd i) ⟨v2,o3,ps2,_,rfl,b03,e3,so3,hw3,wok2,rfl,hs2⟩ ?_ ?_
 ·rintro i σ H4 hi ⟨v4,o4,ps4,kk,rfl,b4,e4,so4,hw4,wok4,hl4,hs4⟩
  have hb:2 * bnd i + 2 <= 1000000000000:=by
   have:i = 0 \/ i = 1 \/ i = 2:=by omega
   rcases this with rfl | rfl | rfl <;> decide
  walk_at "RD"
  refine ⟨st,o4,v4,ps4,ts2,bnd i,rfl,e4,so4,hw4,wok4,hs4,hb,fun v5 H5 o5 ps5 b5 e5 so5 hw5 wok5 hl5 hk5 hs5=>?_⟩
  exact ⟨v5,o5,ps5,_,rfl,b4.trans b5,e5,so5,hw5,wok5,hl5.trans hl4,hs5⟩
 ·rintro σ H4 ⟨v4,o4,ps4,kk,rfl,b4,e4,so4,hw4,wok4,hl4,hs4⟩
  subst hR
  walk_at "RD"
  exact h v4 H4 o4 ps4 ts2 b4 e4 so4 hw4 wok4 (by omega)
theorem jhp (B:Blt mg) (D:DefAt K mg "_law_prices" (top 76) ["_law_web_here"] f fd):FnOk P w K mg base CX0 1 f fd ["_law_web_here"] jfm:=by
 have sc:FnScope ["_law_web_here","_law_prices_here","_law_place","_law_price"] ["_law_web_here"] (jab (top 76)):=by walk_at "SC"
 refine D.F.ok sc (fun vs H Q E h=>?_) (fun cdv A outer s H vs Q E hr h=>?_)
 ·obtain ⟨v,ps,ts,rfl,_⟩:=h
  rfl
 obtain ⟨v,ps,ts,rfl,hw,wok,h⟩:=h
 obtain ⟨u,pa,ta,xs,ys,rfl,eu,ep,et,pp,pt⟩:=id hw
 have hlx:xs.length = ps.length:=Paired.length pp
 have hnd:=wok.p.nodup
 have hpl:=wok.pl
 have hu:=jb8 hr
 have hu0:_ < PySem.cLine:=Nat.lt_of_succ_lt hu
 refine ⟨_,(ja4 (jak (i:=1) sc.nd rfl (Or.inl rfl) jeb) (ja4 (jc5 PassesOwn.never rfl (jau (jam q_ix (qv 0) ja5 (fun _ _=>rfl))) (jc9 (n:=2) rfl (jat (jad (i:=2) sc.nd rfl (Or.inl rfl)) (jat (jad (i:=3) sc.nd rfl (Or.inl rfl)) jbr))) (ja7 (jri hu (qv 1) (qv 2) (qv 3)))) (ja7 (jah (qv 1))))),?_⟩
 refine ja6 fun R hR=>?_
 walk_at "RD"
 intro d hd
 have s1:=ja2 hd (.dK [])
 have ed:upd H d (.dK []) d = some (.dK []):=ja1
 generalize upd H d (.dK []) = H1 at s1 ed
 walk_at "RD"
 subst hR
 refine ja6 fun R hR=>?_
 refine jbq (Itl K pa) H1 (fun R' hR'=>?_) (jby (K:=K) (a:=pa) (xs:=xs) (fun i σ H2=>∃ v1 v2,σ = [some (.ref u),some (.ref d),v1,v2]/\Same H H2/\H2 d = some (.dK (jav (ps.take i)))) ⟨none,none,rfl,s1,ed⟩ (fun i σ H2 _ ⟨_,_,_,s2,_⟩=>SqL.of (s2 _ _ ep)) ?_ ?_)
 ·unfold jbd
  simp_arith [jai,s1 _ _ eu,at0]
  exact ⟨pa,rfl,⟨_,SqL.of (s1 _ _ ep)⟩,hR'⟩
 ·rintro i x σ H2 hx ⟨v1,v2,rfl,s2,ed2⟩
  obtain ⟨p,hp,px⟩:=jas pp hx
  obtain ⟨t,rfl,ht⟩:=px.same s2
  have hil:=(List.getElem?_eq_some_iff.mp hp).1
  have hnew:(Sum.inl p.1:Key) ∉ (jav (ps.take i)).map (·.1):=by
   unfold jav
   rw [List.map_map]
   intro hm
   obtain ⟨q,hq,e⟩:=List.mem_map.mp hm
   have e':q.1 = p.1:=Sum.inl.inj e
   obtain ⟨j,hj⟩:=List.getElem?_of_mem hq
   have hjl:j < i:=by
    have:=(List.getElem?_eq_some_iff.mp hj).1
    rw [List.length_take] at this
    omega
   rw [List.getElem?_take,if_pos hjl] at hj
   have:=wok.p.rise _ _ _ _ hjl hj hp
   omega
  simp_arith [ht,ed2,putK_new hnew]
  have hl2:(jav (ps.take i)).length <= 40:=by
   unfold jav
   rw [List.length_map,List.length_take]
   omega
  refine ⟨by first | exact szl' (by omega) | exact szl (by omega),_,_,rfl,jao s2 hd,?_⟩
  rw [jaq hp]
  unfold jav
  rw [List.map_append]
  exact ja1
 ·rintro σ H2 ⟨v1,v2,rfl,s2,ed2⟩
  rw [hlx,List.take_length] at ed2
  subst hR
  walk_at "RD"
  exact h d H2 hd s2 ed2
theorem jkk (B:Blt mg) (D:DefAt K mg "_law_near" (top 77) ["_law_web_here","_law_place"] f fd):FnOk P w K mg base CX0 1 f fd ["_law_web_here","_law_place"] je2:=by
 have sc:FnScope ["_law_web_here","_law_place","_law_some"] ["_law_web_here","_law_place"] (jab (top 77)):=by walk_at "SC"
 refine D.F.ok sc (fun vs H Q E h=>?_) (fun cdv A outer s H vs Q E hr h=>?_)
 ·obtain ⟨v,n,ps,ts,rfl,_⟩:=h
  rfl
 obtain ⟨v,n,ps,ts,rfl,hw,wok,h⟩:=h
 obtain ⟨u,pa,ta,xs,ys,rfl,eu,ep,et,pp,pt⟩:=id hw
 have hly:ys.length = ts.length:=Paired.length pt
 have htl:=wok.tl
 have hpl:=wok.pl
 have s0:=Same.refl H
 have hu:=jb8 hr
 have hu0:_ < PySem.cLine:=Nat.lt_of_succ_lt hu
 refine ⟨_,(ja4 (jco (i:=2) sc.nd rfl (Or.inl rfl) (CpScope.of (N:=["_law_one","_law_other","_law_place"]) (src:=[none,none,some 1]) (by rfl)) rfl (jau (jam q_ix (qv 0) ja5 (fun _ _=>rfl))) (fun _ _ _ _=>(jc9 (n:=2) rfl (jat (jad (i:=0) (jac (l:=["_law_one","_law_other","_law_place"]) (by rfl)) rfl (Or.inl rfl)) (jat (jad (i:=1) (jac (l:=["_law_one","_law_other","_law_place"]) (by rfl)) rfl (Or.inl rfl)) jbr)))) (fun _ _ _ _=>(jc1 (jal q_eq (qv 1) (qv 2) (jag _)))) (fun _ _ _ _=>(qv 0))) (ja7 (jah (jaf jda rfl B.sorted PyProof.Rows.boot_sorted (ja0 (jay jcv (qv 2) (jbb (CpScope.of (N:=["_law_one","_law_other","_law_place"]) (src:=[none,none,some 1]) (by rfl)) rfl (jau (jam q_ix (qv 0) ja5 (fun _ _=>rfl))) (fun _ _ _ _=>(jc9 (n:=2) rfl (jat (jad (i:=0) (jac (l:=["_law_one","_law_other","_law_place"]) (by rfl)) rfl (Or.inl rfl)) (jat (jad (i:=1) (jac (l:=["_law_one","_law_other","_law_place"]) (by rfl)) rfl (Or.inl rfl)) jbr)))) (fun _ _ _ _=>(jc1 (jal q_eq (qv 0) (qv 2) (jag _)))) (fun _ _ _ _=>(qv 1)))) ja3))))),?_⟩
 refine ja6 fun R hR=>?_
 refine jap (Itl K ta) H (fun R' hR'=>?_) (fun z1 hzz1=>jaw ts.length (fun j σ' Hc=>∃ w1 w2,σ' = [w1,w2,some (.int n)]/\Same H Hc/\Hc z1 = some (.lst ((lowN (ts.take j) n).map V.int))) ⟨none,none,rfl,ja2 hzz1 _,ja1⟩ ?_ ?_)
 ·unfold jbd
  simp_arith [jai,s0 _ _ eu,at1]
  exact ⟨ta,rfl,⟨_,SqL.of (s0 _ _ et)⟩,hR'⟩
 ·rintro j σ' Hc hj ⟨w1,w2,rfl,s4,ez⟩
  have z1:SqL K Hc ta ys:=SqL.of (s4 _ _ (s0 _ _ et))
  have x1:ys[j]? = some (ys[j]'(by omega)):=gE _
  refine ⟨⟨_,_,z1,x1⟩,?_⟩
  rintro y H' ⟨rfl,hy⟩
  obtain ⟨q,hq,pq⟩:=jas pt (hy _ z1)
  obtain ⟨t,rfl,ht⟩:=pq.same (s0.trans s4)
  have hzl:((lowN (ts.take j) n).map V.int).length <= 120:=by
   unfold lowN
   rw [List.length_map,List.length_map]
   exact Nat.le_trans (List.length_filter_le _ _) (by rw [List.length_take]; omega)
  simp_arith [ht]
  have e2:lowN (ts.take (j + 1)) n = lowN (ts.take j) n ++ (if q.2 = n then [q.1] else []):=by
   unfold lowN
   rw [jaq hq,List.filter_append,List.map_append]
   congr 1
   by_cases c:q.2 = n <;> simp [c]
  by_cases c:q.2 = n
  ·rw [if_pos c] at e2
   simp only [c,decide_true,if_true]
   refine ⟨_,ez,szl' (by omega),_,_,rfl,jao s4 hzz1,?_⟩
   rw [ja1,e2,List.map_append]
   rfl
  ·rw [if_neg c,List.append_nil] at e2
   simp only [c,decide_false,Bool.false_eq_true,if_false]
   exact ⟨_,_,rfl,s4,by rw [e2]; exact ez⟩
 rintro σ' H1 ⟨w1,w2,rfl,s1,ez⟩
 refine ⟨⟨_,SqL.of (s1 _ _ et),by omega⟩,?_⟩
 rw [List.take_length] at ez
 walk_at "RD"
 subst hR
 walk_at "RD"
 refine jap (Itl K ta) H1 (fun R' hR'=>?_) (fun z2 hzz2=>jaw ts.length (fun j σ' Hc=>∃ w1 w2,σ' = [w1,w2,some (.int n)]/\Same H1 Hc/\Hc z2 = some (.lst ((higN (ts.take j) n).map V.int))) ⟨none,none,rfl,ja2 hzz2 _,ja1⟩ ?_ ?_)
 ·unfold jbd
  simp_arith [jai,s1 _ _ eu,at1]
  exact ⟨ta,rfl,⟨_,SqL.of (s1 _ _ et)⟩,hR'⟩
 ·rintro j σ' Hc hj ⟨w1,w2,rfl,s4,ez⟩
  have z1:SqL K Hc ta ys:=SqL.of (s4 _ _ (s1 _ _ et))
  have x1:ys[j]? = some (ys[j]'(by omega)):=gE _
  refine ⟨⟨_,_,z1,x1⟩,?_⟩
  rintro y H' ⟨rfl,hy⟩
  obtain ⟨q,hq,pq⟩:=jas pt (hy _ z1)
  obtain ⟨t,rfl,ht⟩:=pq.same (s1.trans s4)
  have hzl:((higN (ts.take j) n).map V.int).length <= 120:=by
   unfold higN
   rw [List.length_map,List.length_map]
   exact Nat.le_trans (List.length_filter_le _ _) (by rw [List.length_take]; omega)
  simp_arith [ht]
  have e2:higN (ts.take (j + 1)) n = higN (ts.take j) n ++ (if q.1 = n then [q.2] else []):=by
   unfold higN
   rw [jaq hq,List.filter_append,List.map_append]
   congr 1
   by_cases c:q.1 = n <;> simp [c]
  by_cases c:q.1 = n
  ·rw [if_pos c] at e2
   simp only [c,decide_true,if_true]
   refine ⟨_,ez,szl' (by omega),_,_,rfl,jao s4 hzz2,?_⟩
   rw [ja1,e2,List.map_append]
   rfl
  ·rw [if_neg c,List.append_nil] at e2
   simp only [c,decide_false,Bool.false_eq_true,if_false]
   exact ⟨_,_,rfl,s4,by rw [e2]; exact ez⟩
 rintro σ' H2 ⟨w3,w4,rfl,s2,ez2⟩
 have s12:=s1.trans s2
 refine ⟨⟨_,SqL.of (s12 _ _ et),by omega⟩,?_⟩
 rw [List.take_length] at ez2
 have prm:=jje (n:=n) (fun t ht=>(TiOk.ats wok.t t ht).1)
 have hle:=jfy wok n
 have hpe:=prm.length_eq
 rw [List.length_append] at hpe
 simp_arith [s2 _ _ ez,ez2,<- List.map_append]
 refine ⟨szl (by rw [List.length_map,List.length_map]; omega),?_⟩
 intro c hc
 refine ⟨c,lowN ts n ++ higN ts n,rfl,(by rw [ja1,List.map_append]),by rw [List.length_append]; omega,fun l ms hl pm pw=>?_⟩
 have:=jir (pm.trans prm) pw (jfx wok.t)
 subst this
 exact h l _ ((s12.trans (ja2 hc _)).free hl) (s12.trans ((ja2 hc _).trans (ja2 hl _))) ja1
def jb9 (ns:List Int):Int:=ns.getLast?.getD 0
def jbv:List Int->Int
 | []=>0
 | n :: _=>n
def StpO (H:Hp) (t:Addr) (ps:List (Int × Int)) (w:Str) (ns:List Int):Prop:=H t = some (.tup (.str w :: ns.map V.int))/\ns ≠ []/\∀ n ∈ ns,n ∈ ps.map (·.1)
def spFK:Sp:=fun vs H Q _=>∃ v t ps ts w,∃ ns:List Int,vs = [v,.ref t]/\jbg H v ps ts/\WebOk ps ts/\StpO H t ps w ns/\ns.length <= 900/\w ≠ (("halves":String):Str)/\∀ H',Same H H'->Q (.bl (fitW ps ts w ns)) H'
def jnp:Sp:=fun vs H Q _=>∃ v t ps ts w,∃ ns:List Int,vs = [v,.ref t]/\jbg H v ps ts/\WebOk ps ts/\StpO H t ps w ns/\ns.length <= 900/\w ≠ (("halves":String):Str)/\fitW ps ts w ns = true/\∀ H',Same H H'->Q .non H'
theorem jht (B:Blt mg) (D:DefAt K mg "fits_known" (top 56) ["web","thing"] f fd) (Dqu:DefAt K mg "are_places" (top 31) ["prices","things"] fqu dqu) (Gqu:FnOk P w K mg base CX0 3 fqu dqu ["prices","things"] jrh) (Dqc:DefAt K mg "nears_in" (top 32) ["web"] fqc dqc) (Gqc:FnOk P w K mg base CX0 1 fqc dqc ["web"] jdn) (Dq1:DefAt K mg "fold_fits" (top 36) ["prices","nears","v"] fq1 dq1) (Gq1:FnOk P w K mg base CX0 2 fq1 dq1 ["prices","nears","v"] (spV1 jf7)) (Dzv:DefAt K mg "rule_fits" (top 11) ["prices","nears","step"] fzv dzv) (Gzv:FnOk P w K mg base CX0 3 fzv dzv ["prices","nears","step"] jr8):FnOk P w K mg base CX0 4 f fd ["web","thing"] spFK:=by
 have sc:FnScope ["web","thing","prices"] ["web","thing"] (jab (top 56)):=by walk_at "SC"
 refine D.F.ok sc (fun vs H Q E h=>?_) (fun cdv A outer s H vs Q E hr h=>?_)
 ·obtain ⟨v,t,ps,ts,w,ns,rfl,_⟩:=h
  rfl
 obtain ⟨v,t,ps,ts,w,ns,rfl,hw,wok,⟨ea,hne,hin⟩,h9,cw,h⟩:=h
 obtain ⟨u,pa,ta,xs,ys,rfl,eu,ep,et,pp,pt⟩:=id hw
 have hlx:xs.length = ps.length:=Paired.length pp
 have okl:=wok.pl
 have hu:=jb8 hr
 have hu0:_ < PySem.cLine:=Nat.lt_of_succ_lt hu
 refine ⟨_,(ja4 (jb3 (PW.pt (jf4 (jcw (jc8 (jaf (jit .tup) rfl B.isinstance PyProof.Rows.boot_isinstance (ja0 (qv 1) (ja0 (jdr (v:=.ty "tuple") rfl B.tuple PyProof.Rows.boot_tuple rfl) ja3))))) (jf4 (jal q_lt (jaf jdl rfl B.len PySem.boot_len (ja0 (qv 1) ja3)) ja5 (jag _)) (je1 (jcw (jc8 (jaf (jit .str) rfl B.isinstance PyProof.Rows.boot_isinstance (ja0 (jam q_ix (qv 1) ja5 (fun _ _=>rfl)) (ja0 (jdr (v:=.ty "str") rfl B.str PyProof.Rows.boot_str rfl) ja3))))))))) (ja7 (jah jdd)) jaj) (ja4 (jb3 (jal q_eq (jam q_ix (qv 1) ja5 (fun _ _=>rfl)) jb7 (jag _)) (ja7 jdc) jaj) (ja4 (jak (i:=2) sc.nd rfl (Or.inl rfl) (jbf (jdq rfl) rfl B.dict PyProof.Rows.boot_dict (ja0 (jam q_ix (qv 0) ja5 (fun _ _=>rfl)) ja3))) (ja4 (jb3 (jcw (jc8 (ja8 Gqu (hr.mono (by decide)) rfl Dqu.m Dqu.F.kp Dqu.b .nil jan (ja0 (qv 2) (ja0 (jc3 q_slT (qv 1) (jc4 ja5) jd2) ja3))))) (ja7 (jah jdd)) jaj) (ja4 (jb3 (jal q_eq (jam q_ix (qv 1) ja5 (fun _ _=>rfl)) jb7 (jag _)) (ja7 (jah (jcq (jb0 q_eq (jaf jdl rfl B.len PySem.boot_len (ja0 (qv 1) ja3)) ja5 (jag _)) (jcd (ja8 Gq1 (hr.mono (by decide)) rfl Dq1.m Dq1.F.kp Dq1.b .nil jan (ja0 (qv 2) (ja0 (ja8 Gqc (hr.mono (by decide)) rfl Dqc.m Dqc.F.kp Dqc.b .nil jan (ja0 (qv 0) ja3)) (ja0 (jam q_ix (qv 1) ja5 (fun _ _=>rfl)) ja3)))))))) jaj) (ja7 (jah (ja8 Gzv (hr.mono (by decide)) rfl Dzv.m Dzv.F.kp Dzv.b .nil jan (ja0 (qv 2) (ja0 (ja8 Gqc (hr.mono (by decide)) rfl Dqc.m Dqc.F.kp Dqc.b .nil jan (ja0 (qv 0) ja3)) (ja0 (qv 1) ja3))))))))))),?_⟩
 have hlv:(((V.str w :: ns.map V.int).length:Nat):Int) = (ns.length:Int) + 1:=by rw [List.length_cons,List.length_map]; omega
 have hpl:0 < ns.length:=List.length_pos_iff.mpr hne
 refine ja6 fun R hR=>?_
 have hka:kd H (.ref t) = some .tup:=by unfold kd; dsimp only; rw [ea]
 simp only [hka,ea,jai,isi,at0,fIsB,tSeq,jme,jmf,tRet,jnj,tIfS,tAsg,jeg,fAug,tOp,tUn,tC,fVar,fI,fIC,fNeg,fEq,fNe,fIsN,jmy,fAnd,fOr,fNot,fB,tNot,tAnd,tOr,jh2,fIx,fLen,je6,fMin,fMax,fInL,fSlL,tSl,jn0,jeo,je7,fBM,jl2,gSub,jl5,jg2,jl4,jp8,jjr,jgr,jgo,fCat,jjs,fBM0,fSlT,jl3,tCBK,fDIn,jn1,fIsi,jei,jg3,fLtT,jmg,tCB,jf1,tNil,tTup,tLst,tIf,jmd,Kd.nm,L2.jer,List.map_cons,List.map_nil,List.length_nil,Nat.reduceAdd,Nat.reduceSub,List.replicate_succ,List.replicate_zero,List.getElem?_cons_zero,List.getElem?_cons_succ,List.set_cons_zero,List.set_cons_succ,List.append_nil,List.nil_append,List.cons_append,eq_self,true_and,and_true,if_true,Bool.false_eq_true,if_false,Bool.not_true,Bool.not_false,id_eq,sl0,sl1,sl2,sl3,sl4]
 rw [hlv,decide_eq_false (show ¬ (ns.length:Int) + 1 < 2 by omega)]
 simp_arith [kd,isi,jai,ea,at0]
 subst hR
 refine ja6 fun R hR=>?_
 simp_arith [jai,ea,at0]
 simp only [cw,decide_false,Bool.false_eq_true,if_false]
 walk_at "RD"
 subst hR
 refine ja6 fun R hR=>?_
 simp_arith [jai,eu,at0,ep]
 refine ⟨jav ps,jde pp,by omega,jcs wok.p.nodup,fun pd hpd=>?_⟩
 have s1:=ja2 hpd (.dK (jav ps))
 have ed:upd H pd (.dK (jav ps)) pd = some (.dK (jav ps)):=ja1
 generalize upd H pd (.dK (jav ps)) = H1 at s1 ed
 walk_at "RD"
 subst hR
 refine ja6 fun R hR=>?_
 simp_arith [s1 _ _ ea]
 refine ⟨fun z=>by have:=z.1; unfold HT.sIx at this; simp at this,?_⟩
 intro p hp
 rw [jph]
 have s2:=s1.trans (ja2 hp (.tup (ns.map V.int)))
 have e2:upd H1 p (.tup (ns.map V.int)) p = some (.tup (ns.map V.int)):=ja1
 have ed2:=ja2 hp (.tup (ns.map V.int)) _ _ ed
 generalize upd H1 p (.tup (ns.map V.int)) = H2 at s2 e2 ed2
 refine ⟨pd,jav ps,p,ns,rfl,ed2,e2,fun n hn=>by rw [jbm]; exact decide_eq_true (hin n hn),h9,fun H3 s3=>?_⟩
 have s13:=s2.trans s3
 have ed3:=s3 _ _ ed2
 have ea3:=s13 _ _ ea
 walk_at "RD"
 subst hR
 refine ja6 fun R hR=>?_
 simp_arith [jai,ea3,at0]
 unfold fitW at h
 by_cases cf:w = (("fold":String):Str)
 ·rw [if_pos cf] at h
  simp only [cf,decide_true,if_true]
  match ns,hne,hin,h,ea3 with
  | [n],_,hin,h,ea3 =>
   simp only [List.map_cons,List.map_nil] at ea3
   simp_arith [jai,ea3,at1]
   rw [show decide (((2:Nat):Int) = 2) = true from rfl]
   simp_arith [jai,ea3,at1]
   refine ⟨.ref u,ps,ts,rfl,hw.same s13,wok,fun nd as H4 hnd0 s4 end2 hla hnr=>?_⟩
   simp only [s4 _ _ ea3,at1]
   exact ⟨pd,nd,n,ps,ts,rfl,⟨s4 _ _ ed3,⟨as,end2,hla,hnr⟩,wok⟩,hin n (List.mem_singleton.mpr rfl),fun H5 s5=>h H5 (s13.trans (s4.trans s5))⟩
  | n :: m :: r,_,hin,h,ea3 =>
   simp only [List.map_cons,List.length_cons,List.length_map]
   rw [decide_eq_false (show ¬ ((r.length + 1 + 1 + 1:Nat):Int) = 2 by omega)]
   walk_at "RD"
   exact h _ s13
 ·rw [if_neg cf] at h
  simp only [cf,decide_false,Bool.false_eq_true,if_false]
  walk_at "RD"
  subst hR
  walk_at "RD"
  refine ⟨.ref u,ps,ts,rfl,hw.same s13,wok,fun nd as H4 hnd0 s4 end2 hla hnr=>?_⟩
  walk_at "RD"
  exact ⟨pd,nd,t,ps,ts,w,ns,rfl,⟨s4 _ _ ed3,⟨as,end2,hla,hnr⟩,wok⟩,s4 _ _ ea3,hne,hin,fun H5 s5=>h H5 (s13.trans (s4.trans s5))⟩
theorem jfv (B:Blt mg) (D:DefAt K mg "look_at_step" (top 62) ["web","thing"] f fd) (Dqn:DefAt K mg "look_at_web" (top 29) ["thing"] fqn dqn) (Gqn:FnOk P w K mg base CX0 5 fqn dqn ["thing"] jfl) (Dqy:DefAt K mg "fits_known" (top 56) ["web","thing"] fqy dqy) (Gqy:FnOk P w K mg base CX0 4 fqy dqy ["web","thing"] spFK):FnOk P w K mg base CX0 6 f fd ["web","thing"] jnp:=by
 have sc:FnScope ["web","thing"] ["web","thing"] (jab (top 62)):=by walk_at "SC"
 refine D.F.ok sc (fun vs H Q E h=>?_) (fun cdv A outer s H vs Q E hr h=>?_)
 ·obtain ⟨v,t,ps,ts,w,ns,rfl,_⟩:=h
  rfl
 obtain ⟨v,t,ps,ts,w,ns,rfl,hw,wok,stp,h9,cw,ok,h⟩:=h
 have hu:=jb8 hr
 have hu0:_ < PySem.cLine:=Nat.lt_of_succ_lt hu
 refine ⟨_,(ja4 (jc7 (ja8 Gqn (hr.mono (by decide)) rfl Dqn.m Dqn.F.kp Dqn.b .nil jan (ja0 (qv 0) ja3))) (ja7 (jb3 (jcw (jc8 (ja8 Gqy (hr.mono (by decide)) rfl Dqy.m Dqy.F.kp Dqy.b .nil jan (ja0 (qv 0) (ja0 (qv 1) ja3))))) je9 jaj))),?_⟩
 walk_at "RD"
 refine ⟨v,ps,ts,rfl,hw,wok,fun H1 s1=>?_⟩
 walk_at "RD"
 refine ⟨v,t,ps,ts,w,ns,rfl,hw.same s1,wok,⟨s1 _ _ stp.1,stp.2⟩,h9,cw,fun H2 s2=>?_⟩
 simp_arith [ok]
 exact h _ (s1.trans s2)
def mk (ss:List Int):List (Key × V):=ss.map fun n=>(Sum.inl n,V.bl true)
theorem jop:∀ (ss:List Int) (n:Int),(valV (mk ss) (Sum.inl n:Key)).isSome = decide (n ∈ ss)
 | [],n=>by simp [mk,valV]
 | m :: r,n=>by
  have ih:=jop r n
  unfold mk valV at ih ⊢
  rw [List.map_cons,List.find?_cons]
  by_cases h:m = n
  ·subst h; simp
  ·have hd:decide ((Sum.inl m:Key) = Sum.inl n) = false:=decide_eq_false fun z=>h (Sum.inl.inj z)
   dsimp only
   rw [hd]
   dsimp only
   rw [ih]
   have hn:¬ n = m:=fun z=>h z.symm
   simp [hn]
theorem jbo {α:Type} {f:α->Bool} {l:List α} {i:Nat} {x:α} (h:l[i]? = some x):(l.take (i + 1)).filter f = (l.take i).filter f ++ (if f x = true then [x] else []):=by
 rw [List.take_succ,h,List.filter_append]
 show _ ++ List.filter f [x] = _
 rw [List.filter_cons]
 rfl
def jk3 (H:Hp) (x:V) (ss:List Int):Prop:=∃ a,x = .ref a/\H a = some (.lst (ss.map V.int))
def jhe:Sp:=fun vs H Q _=>∃ u ss,vs = [u]/\jk3 H u ss/\ss.Nodup/\ss.length <= 900/\∀ d H',H d = none->Same H H'->H' d = some (.dK (mk ss))->Q (.ref d) H'
def Told (H:Hp) (ps ts:List (Int × Int)) (v:V) (H':Hp):Prop:=∃ a pa ta zs ws,v = .ref a/\H pa = none/\H ta = none/\pa ≠ ta/\H' a = some (.tup [.ref pa,.ref ta])/\H' pa = some (.lst zs)/\Prs H' zs ps/\H' ta = some (.lst ws)/\Prs H' ws ts
def inK (qs ts:List (Int × Int)):List (Int × Int):=ts.filter fun t=>decide (t.1 ∈ qs.map (·.1)) && decide (t.2 ∈ qs.map (·.1))
def jnl:Sp:=fun vs H Q _=>∃ v d ps ts qs,vs = [v,.ref d]/\jbg H v ps ts/\WebOk ps ts/\H d = some (.dK (jav qs))/\∀ v' H',Same H H'->Told H (ps.filter fun p=>decide (p.1 ∈ qs.map (·.1))) (inK qs ts) v' H'->Q v' H'
theorem jrl (qs:List (Int × Int)) (n:Int):(valV (jav qs) (Sum.inl n:Key)).isSome = decide (n ∈ qs.map (·.1)):=jbm
def chg (ps ts:List (Int × Int)) (w:Str) (ns:List Int):List Int × List (Int × Int) × Int :=
 if w = (("near":String):Str) then (ja9 ts (jb9 ns) ++ [jb9 ns],[],jbk ps (ja9 ts (jb9 ns)))
 else if w = (("leaf":String):Str) then ([jb9 ns],[(jbv (ja9 ts (jb9 ns)),prc ps (jbv (ja9 ts (jb9 ns))) - prc ps (jb9 ns))],prc ps (jb9 ns))
 else if w = (("over":String):Str) then ([jb9 ns],[],prc ps (jb9 ns))
 else if w = (("twins":String):Str) then ([jb9 ns],[(jbv ns,prc ps (jbv ns) + prc ps (jb9 ns))],0)
 else ([jb9 ns],[],0)
theorem jg7 {w:Str} {ns:List Int} (h:ns ≠ []):atI (V.str w :: ns.map V.int) (-1) = some (.int (jb9 ns)):=by
 have hl:0 < ns.length:=List.length_pos_iff.mpr h
 unfold atI ixN jb9
 rw [if_neg (by decide),List.length_cons,List.length_map,if_pos (by omega)]
 show (V.str w :: ns.map V.int)[((-1:Int) + ((ns.length + 1:Nat):Int)).toNat]? = _
 rw [show ((-1:Int) + ((ns.length + 1:Nat):Int)).toNat = (ns.length - 1) + 1 by omega,List.getElem?_cons_succ,List.getElem?_map,List.getLast?_eq_getElem?]
 rw [gE (by omega)]
 rfl
theorem jdh {ns:List Int} (h:ns ≠ []):jb9 ns ∈ ns:=by
 unfold jb9
 rw [List.getLast?_eq_some_getLast h]
 exact List.getLast_mem h
theorem jdy {ns:List Int} (h:ns ≠ []):jbv ns ∈ ns:=by
 cases ns with
 | nil=>exact absurd rfl h
 | cons n r=>exact List.mem_cons_self ..
def spChg (b:Bool):Sp:=fun vs H Q _=>∃ pd nd t ps ts w ns,(if b = true then vs = [.ref pd,.ref nd,.ref t]/\Bk H pd nd ps ts else ∃ v,vs = [v,.ref t]/\jbg H v ps ts/\WebOk ps ts)/\StpO H t ps w ns/\w ≠ (("halves":String):Str)/\w ≠ (("fold":String):Str)/\jcu ps ts w ns = true /\
 ∀ c g d H',Same H H'->H d = none->H' c = some (.tup [.ref g,.ref d,.int (chg ps ts w ns).2.2])->H' g = some (.lst ((chg ps ts w ns).1.map V.int))->H' d = some (.dK (jav (chg ps ts w ns).2.1))->Q (.ref c) H'
theorem jok (B:Blt mg) (D:DefAt K mg "marked" (top 19) ["places"] f fd):FnOk P w K mg base CX0 1 f fd ["places"] jhe:=by
 have sc:FnScope ["places"] ["places"] (jab (top 19)):=by walk_at "SC"
 refine D.F.ok sc (fun vs H Q E h=>?_) (fun cdv A outer s H vs Q E hr h=>?_)
 ·obtain ⟨u,ss,rfl,_⟩:=h
  rfl
 obtain ⟨u,ss,rfl,⟨sa,rfl,es⟩,nd,hl,h⟩:=h
 have hu:=jb8 hr
 have hu0:_ < PySem.cLine:=Nat.lt_of_succ_lt hu
 refine ⟨_,(ja7 (jah (jbf (jdq rfl) rfl B.dict PyProof.Rows.boot_dict (ja0 (jbb (CpScope.of (N:=["place"]) (src:=[none]) (by rfl)) rfl (jau (qv 0)) (fun _ _ _ _=>(jad (i:=0) (jac (l:=["place"]) (by rfl)) rfl (Or.inl rfl))) (fun _ _ _ _=>jbj) (fun _ _ _ _=>(jb4 (ja0 (qv 0) (ja0 jdd ja3))))) ja3)))),?_⟩
 walk_at "RD"
 refine jap (Itl K sa) H (fun R hR=>?_) (fun l hl0=>jaw ss.length (fun i σ' Hc=>∃ w1 zs,σ' = [w1]/\Same H Hc/\Hc l = some (.lst zs)/\Paired (PairAt Hc) zs (mk (ss.take i))) ⟨none,[],rfl,ja2 hl0 _,ja1,.nil⟩ ?_ ?_)
 ·unfold jbd
  walk_at "RD"
  exact ⟨sa,rfl,⟨_,SqL.of es⟩,hR⟩
 ·rintro i σ' Hc hi ⟨w1,zs,rfl,s2,ez,pz⟩
  have x1:ss[i]? = some ss[i]:=gE hi
  have X1:(ss.map V.int)[i]? = some (.int ss[i]):=by rw [List.getElem?_map,x1]; rfl
  have hlz:zs.length = (mk (ss.take i)).length:=Paired.length pz
  have hlz2:zs.length <= i:=by
   rw [hlz,mk,List.length_map,List.length_take]
   omega
  refine ⟨⟨_,_,SqL.of (s2 _ _ es),X1⟩,?_⟩
  rintro y H' ⟨rfl,hy⟩
  have E1:V.int ss[i] = y:=Option.some.inj (X1.symm.trans (hy _ (SqL.of (s2 _ _ es))))
  subst E1
  walk_at "RD"
  intro t ht
  have ez2:=ja2 ht (.tup [.int ss[i],.bl true]) _ _ ez
  have t6:=jba (ys:=zs ++ [.ref t]) ez2
  refine ⟨zs,ez2,szl' (by omega),_,zs ++ [.ref t],rfl,jao (s2.trans (ja2 ht _)) hl0,(by first | rfl | exact ja1),?_⟩
  rw [jaq x1,mk,List.map_append]
  refine jar (Paired.mapP pz fun v p q=>?_) ?_
  ·obtain ⟨b,e,q⟩:=q
   exact ⟨b,e,t6 _ _ rfl (ja2 ht _ _ _ q)⟩
  ·exact ⟨t,rfl,t6 _ _ rfl ja1⟩
 ·rintro σ' Hc ⟨w1,zs,rfl,s2,ez,pz⟩
  refine ⟨⟨_,SqL.of (s2 _ _ es),by rw [List.length_map]; exact Nat.le_refl _⟩,?_⟩
  rw [List.take_length] at pz
  have hlz:zs.length = (mk ss).length:=Paired.length pz
  rw [mk,List.length_map] at hlz
  simp_arith [ez]
  refine ⟨mk ss,pz,by omega,?_,fun d hd=>h d _ (s2.free hd) (s2.trans (ja2 hd _)) ja1⟩
  unfold mk
  rw [List.map_map]
  have e:((fun (x:Key × V)=>x.1) ∘ fun (n:Int)=>((Sum.inl n:Key),V.bl true)) = fun (n:Int)=>(Sum.inl n:Key):=rfl
  rw [e]
  unfold List.Nodup at nd ⊢
  rw [List.pairwise_map]
  exact nd.imp fun q z=>q (Sum.inl.inj z)
theorem joi (B:Blt mg) (D:DefAt K mg "web_of" (top 49) ["web","kept"] f fd):FnOk P w K mg base CX0 1 f fd ["web","kept"] jnl:=by
 have sc:FnScope ["web","kept","places","ties"] ["web","kept"] (jab (top 49)):=by walk_at "SC"
 refine D.F.ok sc (fun vs H Q E h=>?_) (fun cdv A outer s H vs Q E hr h=>?_)
 ·obtain ⟨v,d,ps,ts,qs,rfl,_⟩:=h
  rfl
 obtain ⟨v,d,ps,ts,qs,rfl,hw,wok,ed,h⟩:=h
 obtain ⟨x,pa,ta,xs,ys,rfl,ex,ep,et,pp,pt⟩:=id hw
 have hlx:xs.length = ps.length:=Paired.length pp
 have hly:ys.length = ts.length:=Paired.length pt
 have okl:=wok.tl
 have okp:=wok.pl
 have hu:=jb8 hr
 have hu0:_ < PySem.cLine:=Nat.lt_of_succ_lt hu
 refine ⟨_,(ja4 (jco (i:=2) sc.nd rfl (Or.inl rfl) (CpScope.of (N:=["place","price","kept"]) (src:=[none,none,some 1]) (by rfl)) rfl (jau (jam q_ix (qv 0) ja5 (fun _ _=>rfl))) (fun _ _ _ _=>(jc9 (n:=2) rfl (jat (jad (i:=0) (jac (l:=["place","price","kept"]) (by rfl)) rfl (Or.inl rfl)) (jat (jad (i:=1) (jac (l:=["place","price","kept"]) (by rfl)) rfl (Or.inl rfl)) jbr)))) (fun _ _ _ _=>(jc1 (jmk (jmm hu (qv 0) (qv 2))))) (fun _ _ _ _=>(jb4 (ja0 (qv 0) (ja0 (qv 1) ja3))))) (ja4 (jco (i:=3) sc.nd rfl (Or.inl rfl) (CpScope.of (N:=["one","other","kept"]) (src:=[none,none,some 1]) (by rfl)) rfl (jau (jam q_ix (qv 0) ja5 (fun _ _=>rfl))) (fun _ _ _ _=>(jc9 (n:=2) rfl (jat (jad (i:=0) (jac (l:=["one","other","kept"]) (by rfl)) rfl (Or.inl rfl)) (jat (jad (i:=1) (jac (l:=["one","other","kept"]) (by rfl)) rfl (Or.inl rfl)) jbr)))) (fun _ _ _ _=>(jc1 (PW.pt (jcm (jmk (jmm hu (qv 0) (qv 2))) (jc0 (jmk (jmm hu (qv 1) (qv 2)))))))) (fun _ _ _ _=>(jb4 (ja0 (qv 0) (ja0 (qv 1) ja3))))) (ja7 (jah (jb4 (ja0 (qv 2) (ja0 (qv 3) ja3))))))),?_⟩
 walk_at "RD"
 refine jap (Itl K pa) H (fun R hR=>?_) (fun l hl0=>jaw ps.length (fun i σ' Hc=>∃ w1 w2 zs,σ' = [w1,w2,some (.ref d)]/\Same H Hc/\Hc l = some (.lst zs)/\Prs Hc zs ((ps.take i).filter fun p=>decide (p.1 ∈ qs.map (·.1)))) ⟨none,none,[],rfl,ja2 hl0 _,ja1,.nil⟩ ?_ ?_)
 ·unfold jbd
  simp_arith [jai,ex,at0]
  exact ⟨pa,rfl,⟨_,SqL.of ep⟩,hR⟩
 ·rintro i σ' Hc hi ⟨w1,w2,zs,rfl,s4,ez,pz⟩
  have x1:xs[i]? = some (xs[i]'(by omega)):=gE _
  have z1:SqL K Hc pa xs:=SqL.of (s4 _ _ ep)
  have hlz2:zs.length <= i:=by
   rw [show zs.length = _ from Paired.length pz]
   refine Nat.le_trans (List.length_filter_le _ _) ?_
   rw [List.length_take]
   omega
  refine ⟨⟨_,_,z1,x1⟩,?_⟩
  rintro y H' ⟨rfl,hy⟩
  obtain ⟨q,hq,pq⟩:=jas pp (hy _ z1)
  obtain ⟨t,rfl,ht⟩:=pq.same s4
  have ft:=jbo (f:=fun p=>decide (p.1 ∈ qs.map (·.1))) hq
  simp_arith [ht,s4 _ _ ed,jrl]
  rw [ft]
  refine ite2 (fun c1=>?_) (fun c1=>?_)
  ·rw [if_pos c1]
   intro t2 ht2
   have ez2:=ja2 ht2 (.tup [.int q.1,.int q.2]) _ _ ez
   have t6:=jba (ys:=zs ++ [.ref t2]) ez2
   refine ⟨zs,ez2,szl' (by omega),_,_,zs ++ [.ref t2],rfl,jao (s4.trans (ja2 ht2 _)) hl0,(by first | rfl | exact ja1),?_⟩
   exact jar (Prs.tups ((jcz ht2).trans t6) pz) (Pr.tups ⟨t2,rfl,ja1⟩ t6)
  ·rw [if_neg c1,List.append_nil]
   exact ⟨_,_,zs,rfl,s4,ez,pz⟩
 rintro σ' HA ⟨w1,w2,zs,rfl,s4,ez,pz⟩
 refine ⟨⟨_,SqL.of (s4 _ _ ep),by omega⟩,?_⟩
 rw [List.take_length] at pz
 walk_at "RD"
 refine jap (Itl K ta) HA (fun R hR=>?_) (fun l2 hl2=>jaw ts.length (fun i σ' Hc=>∃ w1 w2 zs,σ' = [w1,w2,some (.ref d)]/\Same HA Hc/\Hc l2 = some (.lst zs)/\Prs Hc zs ((ts.take i).filter fun t=>decide (t.1 ∈ qs.map (·.1)) && decide (t.2 ∈ qs.map (·.1)))) ⟨none,none,[],rfl,ja2 hl2 _,ja1,.nil⟩ ?_ ?_)
 ·unfold jbd
  simp_arith [jai,s4 _ _ ex,at1]
  exact ⟨ta,rfl,⟨_,SqL.of (s4 _ _ et)⟩,hR⟩
 ·rintro i σ' Hc hi ⟨w1,w2,zs2,rfl,s5,ez5,pz5⟩
  have s45:=s4.trans s5
  have x1:ys[i]? = some (ys[i]'(by omega)):=gE _
  have z1:SqL K Hc ta ys:=SqL.of (s45 _ _ et)
  have hlz2:zs2.length <= i:=by
   rw [show zs2.length = _ from Paired.length pz5]
   refine Nat.le_trans (List.length_filter_le _ _) ?_
   rw [List.length_take]
   omega
  refine ⟨⟨_,_,z1,x1⟩,?_⟩
  rintro y H' ⟨rfl,hy⟩
  obtain ⟨q,hq,pq⟩:=jas pt (hy _ z1)
  obtain ⟨t,rfl,ht⟩:=pq.same s45
  have ft:=jbo (f:=fun t:Int × Int=>decide (t.1 ∈ qs.map (·.1)) && decide (t.2 ∈ qs.map (·.1))) hq
  simp_arith [ht,s45 _ _ ed,jrl]
  rw [ft]
  by_cases c1:q.1 ∈ qs.map (·.1)
  ·by_cases c2:q.2 ∈ qs.map (·.1)
   ·simp only [c1,c2,decide_true,Bool.and_self,if_true]
    intro t2 ht2
    have ez2:=ja2 ht2 (.tup [.int q.1,.int q.2]) _ _ ez5
    have t6:=jba (ys:=zs2 ++ [.ref t2]) ez2
    refine ⟨zs2,ez2,szl' (by omega),_,_,zs2 ++ [.ref t2],rfl,jao (s5.trans (ja2 ht2 _)) hl2,(by first | rfl | exact ja1),?_⟩
    exact jar (Prs.tups ((jcz ht2).trans t6) pz5) (Pr.tups ⟨t2,rfl,ja1⟩ t6)
   ·simp only [c1,c2,decide_true,decide_false,Bool.and_false,Bool.false_eq_true,if_false,if_true,List.append_nil]
    exact ⟨_,_,zs2,rfl,s5,ez5,pz5⟩
  ·simp only [c1,decide_false,Bool.false_and,Bool.false_eq_true,if_false,if_true,List.append_nil]
   exact ⟨_,_,zs2,rfl,s5,ez5,pz5⟩
 rintro σ' HB ⟨w1,w2,zs2,rfl,s5,ez5,pz5⟩
 have s45:=s4.trans s5
 refine ⟨⟨_,SqL.of (s45 _ _ et),by omega⟩,?_⟩
 rw [List.take_length] at pz5
 walk_at "RD"
 intro a ha
 have sa:=ja2 ha (.tup [.ref l,.ref l2])
 have s46:=s45.trans sa
 exact h _ _ s46 ⟨a,l,l2,zs,zs2,rfl,hl0,s4.free hl2,jaa ez hl2,ja1,sa _ _ (s5 _ _ ez),Prs.same (s5.trans sa) pz,sa _ _ ez5,Prs.same sa pz5⟩
theorem jgb (B:Blt mg) (D:DefAt K mg "rule_change" (top 12) ["prices","nears","step"] f fd) (Dqd:DefAt K mg "cost_near" (top 6) ["prices","nears","v"] fqd dqd) (Gqd:FnOk P w K mg base CX0 1 fqd dqd ["prices","nears","v"] jd5):FnOk P w K mg base CX0 2 f fd ["prices","nears","step"] (spChg true):=by
 have sc:FnScope ["prices","nears","step","word","v","u"] ["prices","nears","step"] (jab (top 12)):=by walk_at "SC"
 refine D.F.ok sc (fun vs H Q E h=>?_) (fun cdv A outer s H vs Q E hr h=>?_)
 ·obtain ⟨pd,nd,t,ps,ts,w,ns,⟨rfl,_⟩,_⟩:=h
  rfl
 obtain ⟨pd,nd,t,ps,ts,w,ns,⟨rfl,bk⟩,⟨et,hne,hin⟩,nh,nf,hru,h⟩:=h
 have hnd:=bk.ok.p.nodup
 have hv:=hin _ (jdh hne)
 obtain ⟨as,a,e1,e2,e3⟩:=bk.n.get hnd hv
 have hla:=jbu bk.ok (jb9 ns)
 have hu:=jb8 hr
 have hu0:_ < PySem.cLine:=Nat.lt_of_succ_lt hu
 refine ⟨_,(ja4 (jak (i:=3) sc.nd rfl (Or.inl rfl) (jam q_ix (qv 2) ja5 (fun _ _=>rfl))) (ja4 (jak (i:=4) sc.nd rfl (Or.inl rfl) (jam q_ix (qv 2) (jfr jfp ja5) (fun _ _=>rfl))) (ja4 (jb3 (jal q_eq (qv 3) jb7 (jag _)) (ja7 (jah (jb4 (ja0 (jay jcv (jaz hu (qv 1) (qv 4) (fun _ _=>rfl)) (jb6 (ja0 (qv 4) ja3))) (ja0 jeb (ja0 (ja8 Gqd (hr.mono (by decide)) rfl Dqd.m Dqd.F.kp Dqd.b .nil jan (ja0 (qv 0) (ja0 (qv 1) (ja0 (qv 4) ja3)))) ja3)))))) jaj) (ja4 (jb3 (jal q_eq (qv 3) jb7 (jag _)) (ja4 (jak (i:=5) sc.nd rfl (Or.inl rfl) (jam q_ix (jaz hu (qv 1) (qv 4) (fun _ _=>rfl)) ja5 (fun _ _=>rfl))) (ja7 (jah (jb4 (ja0 (jb6 (ja0 (qv 4) ja3)) (ja0 (jkf (jhl (qv 5) (jay jdp (jaz hu (qv 0) (qv 5) (fun _ _=>rfl)) (jaz hu (qv 0) (qv 4) (fun _ _=>rfl))) jke) rfl rfl (fun z=>nomatch z) (by decide)) (ja0 (jaz hu (qv 0) (qv 4) (fun _ _=>rfl)) ja3))))))) jaj) (ja4 (jb3 (jal q_eq (qv 3) jb7 (jag _)) (ja7 (jah (jb4 (ja0 (jb6 (ja0 (qv 4) ja3)) (ja0 jeb (ja0 (jaz hu (qv 0) (qv 4) (fun _ _=>rfl)) ja3)))))) jaj) (ja4 (jb3 (jal q_eq (qv 3) jb7 (jag _)) (ja7 (jah (jb4 (ja0 (jb6 (ja0 (qv 4) ja3)) (ja0 (jkf (jhl (jam q_ix (qv 2) ja5 (fun _ _=>rfl)) (jay jcc (jaz hu (qv 0) (jam q_ix (qv 2) ja5 (fun _ _=>rfl)) (fun _ _=>rfl)) (jaz hu (qv 0) (qv 4) (fun _ _=>rfl))) jke) rfl rfl (fun z=>nomatch z) (by decide)) (ja0 ja5 ja3)))))) jaj) (ja7 (jah (jb4 (ja0 (jb6 (ja0 (qv 4) ja3)) (ja0 jeb (ja0 ja5 ja3)))))))))))),?_⟩
 unfold chg at h
 generalize hvv:jb9 ns = v at hv e2 e3 hla h
 have hat:=jg7 (w:=w) hne
 rw [hvv] at hat
 refine ja6 fun R hR=>?_
 simp_arith [jai,et,at0]
 subst hR
 refine ja6 fun R hR=>?_
 simp_arith [jai,et,hat]
 subst hR
 refine ja6 fun R hR=>?_
 walk_at "RD"
 by_cases c1:w = (("near":String):Str)
 ·rw [if_pos c1] at h
  simp only [c1,decide_true,if_true]
  simp_arith [e1,e2,e3]
  intro l1 hl1
  have s1:=ja2 hl1 (.lst [.int v])
  have el1:upd H l1 (.lst [.int v]) l1 = some (.lst [.int v]):=ja1
  generalize upd H l1 (.lst [.int v]) = H1 at s1 el1
  simp_arith [s1 _ _ e3,el1]
  refine ⟨szl (by rw [List.length_map]; omega),?_⟩
  intro l2 hl2
  have s2:=s1.trans (ja2 hl2 (.lst ((ja9 ts v).map V.int ++ [.int v])))
  have el2:upd H1 l2 (.lst ((ja9 ts v).map V.int ++ [.int v])) l2 = some (.lst ((ja9 ts v).map V.int ++ [.int v])):=ja1
  generalize upd H1 l2 (.lst ((ja9 ts v).map V.int ++ [.int v])) = H2 at s2 el2
  intro d hd
  have s3:=s2.trans (ja2 hd (.dK []))
  have ed:upd H2 d (.dK []) d = some (.dK []):=ja1
  have el3:=ja2 hd (.dK []) _ _ el2
  have hd0:=s2.free hd
  generalize upd H2 d (.dK []) = H3 at s3 ed el3
  refine ⟨pd,nd,v,ps,ts,rfl,bk.same s3,hv,fun H4 s4=>?_⟩
  have s34:=s3.trans s4
  walk_at "RD"
  intro c hc
  have s5:=ja2 hc (.tup [.ref l2,.ref d,.int (jbk ps (ja9 ts v))])
  exact h c l2 d _ (s34.trans s5) hd0 ja1 (by rw [s5 _ _ (s4 _ _ el3),List.map_append]; rfl) (s5 _ _ (s4 _ _ ed))
 rw [if_neg c1] at h
 simp only [c1,decide_false,Bool.false_eq_true,if_false]
 subst hR
 refine ja6 fun R hR=>?_
 walk_at "RD"
 by_cases c2:w = (("leaf":String):Str)
 ·rw [if_pos c2] at h
  simp only [c2,decide_true,if_true]
  obtain ⟨u,hu2⟩:∃ u,ja9 ts v = [u]:=by
   match ns,hvv,hru with
   | [m],hvv,hru =>
    have:m = v:=hvv
    subst this
    unfold jcu at hru
    dsimp only at hru
    rw [if_neg (by rw [c2]; decide),if_neg c1,Bool.and_eq_true] at hru
    have:=hru.2
    unfold jf6 at this
    match q:ja9 ts m,this with
    | [u],_=>exact ⟨u,rfl⟩
   | [m,n],hvv,hru =>
    unfold jcu at hru
    dsimp only at hru
    rw [if_neg (by rw [c2]; decide),decide_eq_false (by rw [c2]; decide),Bool.false_and] at hru
    cases hru
   | m :: n :: k :: r,hvv,hru=>cases hru
   | [],hvv,hru=>cases hru
  have hup:=jbc bk.ok (n:=v) (m:=u) (by rw [hu2]; exact List.mem_singleton.mpr rfl)
  rw [hu2] at e3 h
  dsimp only [jbv] at h
  simp_arith [e1,e2,jai,e3,at0]
  intro l1 hl1
  have s1:=ja2 hl1 (.lst [.int v])
  have el1:upd H l1 (.lst [.int v]) l1 = some (.lst [.int v]):=ja1
  generalize upd H l1 (.lst [.int v]) = H1 at s1 el1
  simp_arith [jpx,jgn]
  intro d hd
  have s2:=s1.trans (ja2 hd (.dK []))
  have ed:upd H1 d (.dK []) d = some (.dK []):=ja1
  have el2:=ja2 hd (.dK []) _ _ el1
  have hd0:=s1.free hd
  have nd1:l1 ≠ d:=jaa el1 hd
  generalize upd H1 d (.dK []) = H2 at s2 ed el2
  simp_arith [s2 _ _ bk.p,jb5 hup,jb5 hv]
  refine ⟨ed,[(Sum.inl u,.int (prc ps u - prc ps v))],rfl,by simp,?_⟩
  have s3:Same H (upd H2 d (.dK (jcf [] [(Sum.inl u,V.int (prc ps u - prc ps v))]))):=jao s2 hd0
  have ed3:upd H2 d (.dK (jcf [] [(Sum.inl u,V.int (prc ps u - prc ps v))])) d = some (.dK (jav [(u,prc ps u - prc ps v)])):=ja1
  have el3:upd H2 d (.dK (jcf [] [(Sum.inl u,V.int (prc ps u - prc ps v))])) l1 = some (.lst [.int v]):=by rw [jae nd1]; exact el2
  generalize upd H2 d (.dK (jcf [] [(Sum.inl u,V.int (prc ps u - prc ps v))])) = H3 at s3 ed3 el3
  simp_arith [s3 _ _ bk.p,jb5 hv]
  intro c hc
  have s5:=ja2 hc (.tup [.ref l1,.ref d,.int (prc ps v)])
  exact h c l1 d _ (s3.trans s5) hd0 ja1 (s5 _ _ el3) (s5 _ _ ed3)
 rw [if_neg c2] at h
 simp only [c2,decide_false,Bool.false_eq_true,if_false]
 subst hR
 refine ja6 fun R hR=>?_
 walk_at "RD"
 by_cases c3:w = (("over":String):Str)
 ·rw [if_pos c3] at h
  simp only [c3,decide_true,if_true]
  intro l1 hl1
  have s1:=ja2 hl1 (.lst [.int v])
  have el1:upd H l1 (.lst [.int v]) l1 = some (.lst [.int v]):=ja1
  generalize upd H l1 (.lst [.int v]) = H1 at s1 el1
  intro d hd
  have s2:=s1.trans (ja2 hd (.dK []))
  have ed:upd H1 d (.dK []) d = some (.dK []):=ja1
  have el2:=ja2 hd (.dK []) _ _ el1
  have hd0:=s1.free hd
  generalize upd H1 d (.dK []) = H2 at s2 ed el2
  simp_arith [s2 _ _ bk.p,jb5 hv]
  intro c hc
  have s5:=ja2 hc (.tup [.ref l1,.ref d,.int (prc ps v)])
  exact h c l1 d _ (s2.trans s5) hd0 ja1 (s5 _ _ el2) (s5 _ _ ed)
 rw [if_neg c3] at h
 simp only [c3,decide_false,Bool.false_eq_true,if_false]
 subst hR
 refine ja6 fun R hR=>?_
 walk_at "RD"
 by_cases c4:w = (("twins":String):Str)
 ·rw [if_pos c4] at h
  simp only [c4,decide_true,if_true]
  have h1:=hin _ (jdy hne)
  have hat1:atI (V.str w :: ns.map V.int) 1 = some (.int (jbv ns)):=by
   cases ns with
   | nil=>exact absurd rfl hne
   | cons m r=>exact at1
  intro l1 hl1
  have s1:=ja2 hl1 (.lst [.int v])
  have el1:upd H l1 (.lst [.int v]) l1 = some (.lst [.int v]):=ja1
  generalize upd H l1 (.lst [.int v]) = H1 at s1 el1
  simp_arith [jpx,jgn]
  intro d hd
  have s2:=s1.trans (ja2 hd (.dK []))
  have ed:upd H1 d (.dK []) d = some (.dK []):=ja1
  have el2:=ja2 hd (.dK []) _ _ el1
  have hd0:=s1.free hd
  have nd1:l1 ≠ d:=jaa el1 hd
  generalize upd H1 d (.dK []) = H2 at s2 ed el2
  simp_arith [jai,s2 _ _ et,hat1,s2 _ _ bk.p,jb5 h1,jb5 hv]
  refine ⟨ed,[(Sum.inl (jbv ns),.int (prc ps (jbv ns) + prc ps v))],rfl,by simp,?_⟩
  have s3:Same H (upd H2 d (.dK (jcf [] [(Sum.inl (jbv ns),V.int (prc ps (jbv ns) + prc ps v))]))):=jao s2 hd0
  have ed3:upd H2 d (.dK (jcf [] [(Sum.inl (jbv ns),V.int (prc ps (jbv ns) + prc ps v))])) d = some (.dK (jav [(jbv ns,prc ps (jbv ns) + prc ps v)])):=ja1
  have el3:upd H2 d (.dK (jcf [] [(Sum.inl (jbv ns),V.int (prc ps (jbv ns) + prc ps v))])) l1 = some (.lst [.int v]):=by rw [jae nd1]; exact el2
  generalize upd H2 d (.dK (jcf [] [(Sum.inl (jbv ns),V.int (prc ps (jbv ns) + prc ps v))])) = H3 at s3 ed3 el3
  intro c hc
  have s5:=ja2 hc (.tup [.ref l1,.ref d,.int 0])
  exact h c l1 d _ (s3.trans s5) hd0 ja1 (s5 _ _ el3) (s5 _ _ ed3)
 rw [if_neg c4] at h
 simp only [c4,decide_false,Bool.false_eq_true,if_false]
 subst hR
 walk_at "RD"
 intro l1 hl1
 have s1:=ja2 hl1 (.lst [.int v])
 have el1:upd H l1 (.lst [.int v]) l1 = some (.lst [.int v]):=ja1
 generalize upd H l1 (.lst [.int v]) = H1 at s1 el1
 intro d hd
 have s2:=s1.trans (ja2 hd (.dK []))
 have ed:upd H1 d (.dK []) d = some (.dK []):=ja1
 have el2:=ja2 hd (.dK []) _ _ el1
 have hd0:=s1.free hd
 generalize upd H1 d (.dK []) = H2 at s2 ed el2
 intro c hc
 have s5:=ja2 hc (.tup [.ref l1,.ref d,.int 0])
 exact h c l1 d _ (s2.trans s5) hd0 ja1 (s5 _ _ el2) (s5 _ _ ed)
theorem mk_put (ss:List Int) (n:Int):putK (mk ss) (Sum.inl n:Key) (.bl true) = mk (if n ∈ ss then ss else ss ++ [n]):=by
 unfold putK
 by_cases c:n ∈ ss
 ·rw [if_pos c,if_pos]
  ·unfold mk
   rw [List.map_map]
   congr 1
   funext m
   simp only [Function.comp]
   by_cases e:m = n
   ·simp [e]
   ·simp [e]
  ·rw [List.any_eq_true]
   exact ⟨(Sum.inl n,.bl true),List.mem_map_of_mem c,decide_eq_true rfl⟩
 ·rw [if_neg c,if_neg]
  ·unfold mk
   rw [List.map_append]
   rfl
  ·intro z
   rw [List.any_eq_true] at z
   obtain ⟨x,hx,e⟩:=z
   obtain ⟨m,hm,rfl⟩:=List.mem_map.mp hx
   exact c (by rw [<- Sum.inl.inj (of_decide_eq_true e)]; exact hm)
def ad (ss:List Int) (n:Int):List Int:=if n ∈ ss then ss else ss ++ [n]
theorem ad_mem {ss:List Int} {n m:Int}:m ∈ ad ss n ↔ m ∈ ss \/ m = n:=by
 unfold ad
 split
 ·rename_i c
  exact ⟨.inl,fun h=>h.elim id fun e=>e ▸ c⟩
 ·rw [List.mem_append,List.mem_singleton]
theorem jqx {ss:List Int} {n:Int} (h:ss.Nodup):(ad ss n).Nodup:=by
 unfold ad
 split
 ·exact h
 ·rename_i c
  exact List.nodup_append.mpr ⟨h,by simp,fun a ha b hb e=>c (by rw [<- List.mem_singleton.mp hb,<- e]; exact ha)⟩
def tieM (a b:Int):Int × Int:=(if b < a then b else a,if a < b then b else a)
def jr5:Sp:=fun vs H Q _=>∃ a b,vs = [.int a,.int b]/\∀ t H',Same H H'->H t = none->H' t = some (.tup [.int (tieM a b).1,.int (tieM a b).2])->Q (.ref t) H'
def jga (ts:List (Int × Int)) (v n:Int):Prop:=n ≠ v/\∃ m ∈ ja9 ts v,n ∈ ja9 ts m
def jnw:Sp:=fun vs H Q _=>∃ nd v ps ts,vs = [.ref nd,.int v]/\(NrAt H nd ps ts/\WebOk ps ts)/\v ∈ ps.map (·.1) /\
 ∀ l H' (ds:List Int),Same H H'->H l = none->H' l = some (.lst (ds.map V.int))->ds.Nodup->(∀ n,n ∈ ds ↔ jga ts v n)->Q (.ref l) H'
def jlm:Sp:=fun vs H Q _=>∃ pd nd v ps ts,vs = [.ref pd,.ref nd,.int v]/\Bk H pd nd ps ts/\v ∈ ps.map (·.1) /\
 ∀ c g d H',Same H H'->H d = none->H' c = some (.tup [.ref g,.ref d,.int (prc ps v)])->H' g = some (.lst ((ja9 ts v).map V.int))->H' d = some (.dK (jav [(v,jbk ps (ja9 ts v) - prc ps v)]))->Q (.ref c) H'
def jnv:Sp:=fun vs H Q _=>∃ nd v ps ts,vs = [.ref nd,.int v]/\(NrAt H nd ps ts/\WebOk ps ts)/\v ∈ ps.map (·.1) /\
 ∀ l H' zs (ds:List Int),Same H H'->H l = none->H' l = some (.lst zs)->Prs H' zs (ds.map (tieM v))->ds.Nodup->(∀ n,n ∈ ds ↔ jga ts v n)->Q (.ref l) H'
theorem jc6 {ι:Type} {src:List (Option Nat)} {wi:TI} {g:TG} {tc:TT} {te:TE} {Q:VK} {σ:St} {H:Hp} (J:ι->It) (H1:ι->Hp) (ok:ι->Prop) (h1:∀ R:It->Hp->Prop,(∀ p,ok p->R (J p) (H1 p))->wi σ H R)
  (h2:∀ p,ok p->∀ l,H1 p l = none->jpt (J p) src g tc te Q σ (H1 p) l):jpy src wi g tc te σ H Q:=h1 _ h2
theorem joj (B:Blt mg) (D:DefAt K mg "tie_of" (top 33) ["one","other"] f fd):FnOk P w K mg base CX0 1 f fd ["one","other"] jr5:=by
 have sc:FnScope ["one","other"] ["one","other"] (jab (top 33)):=by walk_at "SC"
 refine D.F.ok sc (fun vs H Q E h=>?_) (fun cdv A outer s H vs Q E hr h=>?_)
 ·obtain ⟨a,b,rfl,_⟩:=h
  rfl
 obtain ⟨a,b,rfl,h⟩:=h
 have hu:=jb8 hr
 have hu0:_ < PySem.cLine:=Nat.lt_of_succ_lt hu
 refine ⟨_,(ja7 (jah (jb4 (ja0 (jaf (jqa rfl) rfl B.min PyProof.Rows.boot_min (ja0 (qv 0) (ja0 (qv 1) ja3))) (ja0 (jaf (jml rfl) rfl B.max PyProof.Rows.boot_max (ja0 (qv 0) (ja0 (qv 1) ja3))) ja3))))),?_⟩
 walk_at "RD"
 intro t ht
 exact h t _ (ja2 ht _) ht ja1
theorem jgg (B:Blt mg) (D:DefAt K mg "fold_change" (top 38) ["prices","nears","v"] f fd) (Dqd:DefAt K mg "cost_near" (top 6) ["prices","nears","v"] fqd dqd) (Gqd:FnOk P w K mg base CX0 1 fqd dqd ["prices","nears","v"] jd5):FnOk P w K mg base CX0 2 f fd ["prices","nears","v"] jlm:=by
 have sc:FnScope ["prices","nears","v"] ["prices","nears","v"] (jab (top 38)):=by walk_at "SC"
 refine D.F.ok sc (fun vs H Q E h=>?_) (fun cdv A outer s H vs Q E hr h=>?_)
 ·obtain ⟨pd,nd,v,ps,ts,rfl,_⟩:=h
  rfl
 obtain ⟨pd,nd,v,ps,ts,rfl,bk,hv,h⟩:=h
 have hnd:=bk.ok.p.nodup
 obtain ⟨as,a,e1,e2,e3⟩:=bk.n.get hnd hv
 have hp:=bk.p
 have hval:=jb5 hv
 have hu:=jb8 hr
 have hu0:_ < PySem.cLine:=Nat.lt_of_succ_lt hu
 refine ⟨_,(ja7 (jah (jb4 (ja0 (jaz hu (qv 1) (qv 2) (fun _ _=>rfl)) (ja0 (jkf (jhl (qv 2) (jay jdp (ja8 Gqd (hr.mono (by decide)) rfl Dqd.m Dqd.F.kp Dqd.b .nil jan (ja0 (qv 0) (ja0 (qv 1) (ja0 (qv 2) ja3)))) (jaz hu (qv 0) (qv 2) (fun _ _=>rfl))) jke) rfl rfl (fun z=>nomatch z) (by decide)) (ja0 (jaz hu (qv 0) (qv 2) (fun _ _=>rfl)) ja3)))))),?_⟩
 simp_arith [e1,e2,hp,hval]
 simp_arith [jpx,jgn]
 intro d hd
 have s1:=ja2 hd (.dK [])
 have ed:upd H d (.dK []) d = some (.dK []):=ja1
 generalize upd H d (.dK []) = H1 at s1 ed
 walk_at "RD"
 refine ⟨pd,nd,v,ps,ts,rfl,bk.same s1,hv,fun H2 s2=>?_⟩
 have s12:=s1.trans s2
 simp_arith [s12 _ _ hp,hval]
 refine ⟨s2 _ _ ed,[(Sum.inl v,.int (jbk ps (ja9 ts v) - prc ps v))],rfl,by simp,?_⟩
 have s3:Same H (upd H2 d (.dK (jcf [] [(Sum.inl v,V.int (jbk ps (ja9 ts v) - prc ps v))]))):=jao s12 hd
 have ed3:upd H2 d (.dK (jcf [] [(Sum.inl v,V.int (jbk ps (ja9 ts v) - prc ps v))])) d = some (.dK (jav [(v,jbk ps (ja9 ts v) - prc ps v)])):=ja1
 generalize upd H2 d (.dK (jcf [] [(Sum.inl v,V.int (jbk ps (ja9 ts v) - prc ps v))])) = H3 at s3 ed3
 simp_arith [s3 _ _ hp,hval]
 intro c hc
 have s4:=ja2 hc (.tup [.ref a,.ref d,.int (prc ps v)])
 exact h c a d _ (s3.trans s4) hd ja1 (s4 _ _ (s3 _ _ e3)) (s4 _ _ ed3)
theorem jkr (B:Blt mg) (D:DefAt K mg "drawn_to" (top 37) ["nears","v"] f fd):FnOk P w K mg base CX0 1 f fd ["nears","v"] jnw:=by
 have sc:FnScope ["nears","v","found","one","place"] ["nears","v"] (jab (top 37)):=by walk_at "SC"
 refine D.F.ok sc (fun vs H Q E h=>?_) (fun cdv A outer s H vs Q E hr h=>?_)
 ·obtain ⟨nd,v,ps,ts,rfl,_⟩:=h
  rfl
 obtain ⟨nd,v,ps,ts,rfl,bk,hv,h⟩:=h
 have hnd:=bk.2.p.nodup
 obtain ⟨as,a,e1,e2,e3⟩:=bk.1.get hnd hv
 have hla:=jbu bk.2 v
 have hu:=jb8 hr
 have hu0:_ < PySem.cLine:=Nat.lt_of_succ_lt hu
 refine ⟨_,(ja4 (jak (i:=2) sc.nd rfl (Or.inl rfl) jeb) (ja4 (jc5 PassesOwn.never rfl (jau (jaz hu (qv 0) (qv 1) (fun _ _=>rfl))) (jad (i:=3) sc.nd rfl (Or.inl rfl)) (ja7 (jc5 PassesOwn.never rfl (jau (jaz hu (qv 0) (qv 3) (fun _ _=>rfl))) (jad (i:=4) sc.nd rfl (Or.inl rfl)) (ja7 (jri hu (qv 2) (qv 4) jdd))))) (ja7 (jah (jbb (CpScope.of (N:=["place","v"]) (src:=[none,some 1]) (by rfl)) rfl (joe (qv 2)) (fun _ _ _ _=>(jad (i:=0) (jac (l:=["place","v"]) (by rfl)) rfl (Or.inl rfl))) (fun _ _ _ _=>(jc1 (jal q_ne (qv 0) (qv 1) (jag _)))) (fun _ _ _ _=>(qv 0))))))),?_⟩
 refine ja6 fun R hR=>?_
 walk_at "RD"
 intro f0 hf0
 have s1:=ja2 hf0 (.dK [])
 have ed:upd H f0 (.dK []) f0 = some (.dK (mk [])):=ja1
 generalize upd H f0 (.dK []) = H1 at s1 ed
 subst hR
 refine ja6 fun R hR=>?_
 have okl:=bk.2.pl
 refine jbq (Itl K a) H1 (fun R' hR'=>?_) (jby (K:=K) (a:=a) (xs:=(ja9 ts v).map V.int) (fun i σ H2=>∃ v3 v4 ss,σ = [some (.ref nd),some (.int v),some (.ref f0),v3,v4]/\Same H H2/\H2 f0 = some (.dK (mk ss))/\ss.Nodup/\(∀ n,n ∈ ss ↔ ∃ m ∈ (ja9 ts v).take i,n ∈ ja9 ts m)) ⟨none,none,[],rfl,s1,ed,List.nodup_nil,(fun n=>Iff.intro (fun z=>nomatch z) (fun z=>by obtain ⟨m,hm,_⟩:=z; cases hm))⟩ (fun i σ H2 _ ⟨_,_,_,_,s2,_⟩=>SqL.of (s2 _ _ e3)) ?_ ?_)
 ·unfold jbd
  simp_arith [s1 _ _ e1,e2]
  exact ⟨a,rfl,⟨_,SqL.of (s1 _ _ e3)⟩,hR'⟩
 ·rintro i x σ H2 hx ⟨v3,v4,ss,rfl,s2,ed2,nd2,mem2⟩
  obtain ⟨m,hm,rfl⟩:=jbt hx
  have mm:=jbc bk.2 (List.mem_of_getElem? hm)
  obtain ⟨as2,a2,f1,f2,f3⟩:=bk.1.get hnd mm
  simp only [jeg,List.set_cons_zero,List.set_cons_succ]
  refine jbq (Itl K a2) H2 (fun R' hR'=>?_) (jby (K:=K) (a:=a2) (xs:=(ja9 ts m).map V.int) (fun j σ H3=>∃ v4 ss,σ = [some (.ref nd),some (.int v),some (.ref f0),some (.int m),v4]/\Same H H3/\H3 f0 = some (.dK (mk ss))/\ss.Nodup/\(∀ n,n ∈ ss ↔ (∃ m ∈ (ja9 ts v).take i,n ∈ ja9 ts m) \/ n ∈ (ja9 ts m).take j)) ⟨v4,ss,rfl,s2,ed2,nd2,fun n=>⟨fun h=>.inl ((mem2 n).mp h),fun h=>h.elim (mem2 n).mpr fun z=>by cases z⟩⟩ (fun j σ H3 _ ⟨_,_,_,s3,_⟩=>SqL.of (s3 _ _ f3)) ?_ ?_)
  ·unfold jbd
   simp_arith [s2 _ _ f1,f2]
   exact ⟨a2,rfl,⟨_,SqL.of (s2 _ _ f3)⟩,hR'⟩
  ·rintro j y σ H3 hy ⟨w4,s3',rfl,s3,ed3,nd3,mem3⟩
   obtain ⟨n,hn,rfl⟩:=jbt hy
   have hsub:∀ q ∈ s3',q ∈ ps.map (·.1):=fun q hq=>((mem3 q).mp hq).elim (fun ⟨_,_,z⟩=>jbc bk.2 z) fun z=>jbc bk.2 (List.mem_of_mem_take z)
   have hl3:=jd0 nd3 hsub
   rw [List.length_map] at hl3
   simp_arith [ed3]
   refine ⟨?_,?_⟩
   ·unfold mk; rw [List.length_map]; exact szl' (by omega)
   rw [mk_put]
   refine ⟨_,ad s3' n,rfl,jao s3 hf0,ja1,jqx nd3,fun q=>?_⟩
   rw [ad_mem,mem3,jaq hn,List.mem_append,List.mem_singleton,or_assoc]
  ·rintro σ H3 ⟨w4,s3',rfl,s3,ed3,nd3,mem3⟩
   rw [List.length_map,List.take_length] at mem3
   refine ⟨_,_,s3',rfl,s3,ed3,nd3,fun q=>?_⟩
   rw [mem3,jaq hm]
   simp only [List.mem_append,List.mem_singleton]
   constructor
   ·rintro (⟨p,hp,z⟩ | z)
    ·exact ⟨p,.inl hp,z⟩
    ·exact ⟨m,.inr rfl,z⟩
   ·rintro ⟨p,hp | rfl,z⟩
    ·exact .inl ⟨p,hp,z⟩
    ·exact .inr z
 ·rintro σ H2 ⟨v3,v4,ss,rfl,s2,ed2,nd2,mem2⟩
  rw [List.length_map,List.take_length] at mem2
  have hsub:∀ q ∈ ss,q ∈ ps.map (·.1):=fun q hq=>by
   obtain ⟨_,_,z⟩:=(mem2 q).mp hq
   exact jbc bk.2 z
  have hl3:=jd0 nd2 hsub
  rw [List.length_map] at hl3
  have hkl:(mk ss).length = ss.length:=by unfold mk; rw [List.length_map]
  walk_at "RD"
  subst hR
  walk_at "RD"
  refine jc6 (ι:=Obj) (fun o=>Itd f0 o (mk ss)) (fun o=>upd H2 f0 (.frz o (.dK (mk ss)))) (fun _=>True) (fun R' hR'=>?_) (fun o _ z hz=>jaw ss.length (fun i σ' Hc=>∃ w1,σ' = [w1,some (.int v)]/\Same (upd H2 f0 (.frz o (.dK (mk ss)))) Hc/\Hc z = some (.lst (((ss.take i).filter fun n=>!decide (n = v)).map V.int))) ⟨none,rfl,ja2 hz _,ja1⟩ ?_ ?_)
  ·unfold iDct
   walk_at "RD"
   exact ⟨f0,mk ss,rfl,ed2,fun o=>hR' o trivial⟩
  ·rintro i σ' Hc hi ⟨w1,rfl,sc4,ez⟩
   have efz:=sc4 _ _ (show upd H2 f0 (.frz o (.dK (mk ss))) f0 = _ from ja1)
   refine ⟨⟨efz,by rw [hkl]; exact hi⟩,?_⟩
   rintro y H' ⟨rfl,kv,hkv,rfl⟩
   have hq:ss[i]? = some ss[i]:=gE hi
   generalize ss[i] = q at hq
   have ekv:kv = (Sum.inl q,.bl true):=by
    unfold mk at hkv
    rw [List.getElem?_map,hq] at hkv
    exact (Option.some.inj hkv).symm
   subst ekv
   have hll:((ss.take i).filter fun n=>!decide (n = v)).length <= i:=Nat.le_trans (List.length_filter_le _ _) (by rw [List.length_take]; omega)
   have ft:=jbo (f:=fun n:Int=>!decide (n = v)) hq
   simp only [kV]
   walk_at "RD"
   rw [ft]
   refine ite2 (fun c1=>?_) (fun c1=>?_)
   ·rw [if_pos c1]
    refine ⟨_,ez,?_,_,rfl,jao sc4 hz,?_⟩
    ·rw [List.length_map]; exact szl' (by omega)
    ·rw [ja1,List.map_append]; rfl
   ·rw [if_neg c1,List.append_nil]
    exact ⟨_,rfl,sc4,ez⟩
  rintro σ' H5 ⟨w1,rfl,s5,ez⟩
  refine ⟨⟨s5 _ _ ja1,by rw [hkl]; exact Nat.le_refl _⟩,?_⟩
  rw [List.take_length] at ez
  have s05:Same H H5:=fun b u0 q=>s5 _ _ (by rw [jae (jaa q hf0)]; exact s2 _ _ q)
  have hz0:H z = none:=by
   cases q:H z with
   | none=>rfl
   | some u0 =>
    have nz:z ≠ f0:=fun e=>by rw [e,hf0] at q; cases q
    rw [jae nz,s2 _ _ q] at hz
    cases hz
  refine h z H5 _ s05 hz0 ez (List.filter_sublist.nodup nd2) fun n=>?_
  rw [List.mem_filter,mem2]
  unfold jga
  simp [and_comm]
theorem jj8 (B:Blt mg) (D:DefAt K mg "fold_ties" (top 39) ["nears","v"] f fd) (Dzw:DefAt K mg "tie_of" (top 33) ["one","other"] fzw dzw) (Gzw:FnOk P w K mg base CX0 1 fzw dzw ["one","other"] jr5) (Dqx:DefAt K mg "drawn_to" (top 37) ["nears","v"] fqx dqx) (Gqx:FnOk P w K mg base CX0 1 fqx dqx ["nears","v"] jnw):FnOk P w K mg base CX0 2 f fd ["nears","v"] jnv:=by
 have sc:FnScope ["nears","v"] ["nears","v"] (jab (top 39)):=by walk_at "SC"
 refine D.F.ok sc (fun vs H Q E h=>?_) (fun cdv A outer s H vs Q E hr h=>?_)
 ·obtain ⟨nd,v,ps,ts,rfl,_⟩:=h
  rfl
 obtain ⟨nd,v,ps,ts,rfl,bk,hv,h⟩:=h
 have hu:=jb8 hr
 have hu0:_ < PySem.cLine:=Nat.lt_of_succ_lt hu
 refine ⟨_,(ja7 (jah (jbb (CpScope.of (N:=["place","v"]) (src:=[none,some 1]) (by rfl)) rfl (jau (ja8 Gqx (hr.mono (by decide)) rfl Dqx.m Dqx.F.kp Dqx.b .nil jan (ja0 (qv 0) (ja0 (qv 1) ja3)))) (fun _ _ _ _=>(jad (i:=0) (jac (l:=["place","v"]) (by rfl)) rfl (Or.inl rfl))) (fun _ _ _ _=>jbj) (fun _ _ _ _=>(ja8 Gzw (hr.mono (by decide)) rfl Dzw.m Dzw.F.kp Dzw.b .nil jan (ja0 (qv 1) (ja0 (qv 0) ja3))))))),?_⟩
 walk_at "RD"
 refine jc6 (ι:=Addr × Hp × List Int) (fun o=>Itl K o.1) (fun o=>o.2.1) (fun o=>Same H o.2.1/\H o.1 = none/\o.2.1 o.1 = some (.lst (o.2.2.map V.int))/\o.2.2.Nodup/\∀ n,n ∈ o.2.2 ↔ jga ts v n) (fun R' hR'=>?_) (fun o ho z hz=>?_)
 ·unfold jbd
  walk_at "RD"
  refine ⟨nd,v,ps,ts,rfl,bk,hv,fun l H1 ds s1 hl el nd1 mem1=>?_⟩
  exact ⟨l,rfl,⟨_,SqL.of el⟩,hR' (l,H1,ds) ⟨s1,hl,el,nd1,mem1⟩⟩
 obtain ⟨l,H1,ds⟩:=o
 obtain ⟨s1,hl,el,nd1,mem1⟩:=ho
 dsimp only at s1 hl el nd1 mem1 hz
 have okl:=bk.2.pl
 have hsub:∀ q ∈ ds,q ∈ ps.map (·.1):=fun q hq=>by
  obtain ⟨_,_,_,y⟩:=(mem1 q).mp hq
  exact jbc bk.2 y
 have hl3:=jd0 nd1 hsub
 rw [List.length_map] at hl3
 refine jaw ds.length (fun i σ' Hc=>∃ w1,σ' = [w1,some (.int v)]/\Same H1 Hc/\∃ zs,Hc z = some (.lst zs)/\Prs Hc zs ((ds.take i).map (tieM v))) ⟨none,rfl,ja2 hz _,[],ja1,.nil⟩ ?_ ?_
 ·rintro i σ' Hc hi ⟨w1,rfl,s2,zs,ez,pz⟩
  have x1:ds[i]? = some ds[i]:=gE hi
  generalize ds[i] = n at x1
  have X1:(ds.map V.int)[i]? = some (.int n):=by rw [List.getElem?_map,x1]; rfl
  have hlz2:zs.length <= i:=by
   rw [show zs.length = _ from Paired.length pz,List.length_map,List.length_take]
   omega
  refine ⟨⟨_,_,SqL.of (s2 _ _ el),X1⟩,?_⟩
  rintro y H' ⟨rfl,hy⟩
  have E1:V.int n = y:=Option.some.inj (X1.symm.trans (hy _ (SqL.of (s2 _ _ el))))
  subst E1
  walk_at "RD"
  refine ⟨v,n,rfl,fun t H3 s3 ht et=>?_⟩
  have ez3:=s3 _ _ ez
  have t6:=jba (ys:=zs ++ [.ref t]) ez3
  refine ⟨zs,ez3,szl' (by omega),_,rfl,jao (s2.trans s3) hz,zs ++ [.ref t],(by first | rfl | exact ja1),?_⟩
  rw [jaq x1,List.map_append]
  exact jar (Prs.tups (s3.tups.trans t6) pz) (Pr.tups ⟨t,rfl,et⟩ t6)
 ·rintro σ' H5 ⟨w1,rfl,s5,zs,ez,pz⟩
  refine ⟨⟨_,SqL.of (s5 _ _ el),by rw [List.length_map]; exact Nat.le_refl _⟩,?_⟩
  rw [List.take_length] at pz
  exact h z H5 zs ds (s1.trans s5) (s1.free hz) ez pz nd1 mem1
theorem jfc {ts:List (Int × Int)} (h:∀ t ∈ ts,t.1 < t.2) {n:Int}:n ∉ ja9 ts n:=fun q=>by
 rcases (jce h).mp q with z | z <;> exact absurd (h _ z) (Int.lt_irrefl _)
theorem jpj {ps ts:List (Int × Int)} (wok:WebOk ps ts) {w:Str} {ns:List Int}:(chg ps ts w ns).1.Nodup/\(chg ps ts w ns).1.length <= 200:=by
 have hl:=jbu wok (jb9 ns)
 unfold chg
 split
 ·refine ⟨List.nodup_append.mpr ⟨jeu wok _,by simp,fun a ha b hb e=>?_⟩,by rw [List.length_append]; show _ + 1 <= _; omega⟩
  rw [List.mem_singleton.mp hb] at e
  subst e
  exact jfc (fun t ht=>(TiOk.ats wok.t t ht).1) ha
 ·split
  ·exact ⟨by simp,by show 1 <= 200; decide⟩
  ·split
   ·exact ⟨by simp,by show 1 <= 200; decide⟩
   ·split <;> exact ⟨by simp,by show 1 <= 200; decide⟩
def setP (u x:Int) (ps:List (Int × Int)):List (Int × Int):=ps.map fun p=>if p.1 = u then (p.1,x) else p
def upP (ps ch:List (Int × Int)):List (Int × Int):=ch.foldl (fun a c=>setP c.1 c.2 a) ps
theorem jdo (u x:Int) (ps:List (Int × Int)):(setP u x ps).map (·.1) = ps.map (·.1):=by
 unfold setP
 rw [List.map_map]
 congr 1
 funext p
 simp only [Function.comp]
 split <;> rfl
theorem jqb {ps:List (Int × Int)} {u x:Int} (h:u ∈ ps.map (·.1)):putK (jav ps) (Sum.inl u:Key) (.int x) = jav (setP u x ps):=by
 unfold putK
 rw [if_pos]
 ·unfold jav setP
  rw [List.map_map,List.map_map]
  congr 1
  funext p
  simp only [Function.comp]
  by_cases c:p.1 = u
  ·simp [c]
  ·simp [c]
 ·obtain ⟨p,hp,e⟩:=List.mem_map.mp h
  rw [List.any_eq_true]
  exact ⟨(Sum.inl p.1,.int p.2),List.mem_map_of_mem hp,decide_eq_true (by rw [show p.1 = u from e])⟩
theorem jf9:∀ (ch ps:List (Int × Int)),(upP ps ch).map (·.1) = ps.map (·.1)
 | [],_=>rfl
 | c :: r,ps=>(jf9 r (setP c.1 c.2 ps)).trans (jdo _ _ _)
theorem jlu:∀ (ch ps:List (Int × Int)),(∀ c ∈ ch,c.1 ∈ ps.map (·.1))->jcf (jav ps) (jav ch) = jav (upP ps ch)
 | [],_,_=>rfl
 | c :: r,ps,h=>by
  show jcf (putK (jav ps) (Sum.inl c.1) (.int c.2)) (jav r) = _
  rw [jqb (h c (List.mem_cons_self ..))]
  exact jlu r _ fun d hd=>by rw [jdo]; exact h d (List.mem_cons_of_mem _ hd)
theorem chg_ch {ps ts:List (Int × Int)} (wok:WebOk ps ts) {w:Str} {ns:List Int} (hne:ns ≠ []) (hin:∀ n ∈ ns,n ∈ ps.map (·.1)) (hru:jcu ps ts w ns = true):(∀ c ∈ (chg ps ts w ns).2.1,c.1 ∈ ps.map (·.1))/\(chg ps ts w ns).2.1.length <= 1:=by
 unfold chg
 split
 ·exact ⟨fun c hc=>(by cases hc),Nat.zero_le _⟩
 ·rename_i c1
  split
  ·rename_i c2
   refine ⟨fun c hc=>?_,Nat.le_refl _⟩
   rw [List.mem_singleton.mp hc]
   refine jbc wok (n:=jb9 ns) (jdy fun z=>?_)
   match ns,hne,hru with
   | [m],_,hru =>
    unfold jcu at hru
    dsimp only at hru
    rw [if_neg (by rw [c2]; decide),if_neg c1,Bool.and_eq_true] at hru
    have:=hru.2
    unfold jf6 at this
    rw [show jb9 [m] = m from rfl] at z
    rw [z] at this
    cases this
   | [m,n],_,hru =>
    unfold jcu at hru
    dsimp only at hru
    rw [if_neg (by rw [c2]; decide),decide_eq_false (by rw [c2]; decide),Bool.false_and] at hru
    cases hru
   | _ :: _ :: _ :: _,_,hru=>cases hru
  ·split
   ·exact ⟨fun c hc=>(by cases hc),Nat.zero_le _⟩
   ·split
    ·refine ⟨fun c hc=>?_,Nat.le_refl _⟩
     rw [List.mem_singleton.mp hc]
     exact hin _ (jdy hne)
    ·exact ⟨fun c hc=>(by cases hc),Nat.zero_le _⟩
def okS (ps ts:List (Int × Int)) (w:Str) (ns:List Int):Prop:=(w ≠ (("fold":String):Str)/\jcu ps ts w ns = true) \/ (w = (("fold":String):Str)/\∃ v,ns = [v]/\jf7 ps ts v = true)
def chgF (ps ts:List (Int × Int)) (w:Str) (ns:List Int):List Int × List (Int × Int) × Int:=if w = (("fold":String):Str) then (ja9 ts (jb9 ns),[(jb9 ns,jbk ps (ja9 ts (jb9 ns)) - prc ps (jb9 ns))],prc ps (jb9 ns)) else chg ps ts w ns
theorem jh3 {ps ts:List (Int × Int)} (wok:WebOk ps ts) {w:Str} {ns:List Int}:(chgF ps ts w ns).1.Nodup/\(chgF ps ts w ns).1.length <= 200:=by
 unfold chgF
 split
 ·have:=jbu wok (jb9 ns)
  exact ⟨jeu wok _,by dsimp only; omega⟩
 ·exact jpj wok
theorem jsl {ps ts:List (Int × Int)} (wok:WebOk ps ts) {w:Str} {ns:List Int} (hne:ns ≠ []) (hin:∀ n ∈ ns,n ∈ ps.map (·.1)) (hru:okS ps ts w ns):(∀ c ∈ (chgF ps ts w ns).2.1,c.1 ∈ ps.map (·.1))/\(chgF ps ts w ns).2.1.length <= 1:=by
 unfold chgF
 split
 ·exact ⟨fun c hc=>by rw [List.mem_singleton.mp hc]; exact hin _ (jdh hne),Nat.le_refl _⟩
 ·rename_i c
  rcases hru with ⟨_,hru⟩ | ⟨e,_⟩
  ·exact chg_ch wok hne hin hru
  ·exact absurd e c
def jrf:Sp:=fun vs H Q _=>∃ v t ps ts w ns,vs = [v,.ref t]/\jbg H v ps ts/\WebOk ps ts/\StpO H t ps w ns/\w ≠ (("halves":String):Str)/\okS ps ts w ns /\
 ∀ c g d H',Same H H'->H d = none->H' c = some (.tup [.ref g,.ref d,.int (chgF ps ts w ns).2.2])->H' g = some (.lst ((chgF ps ts w ns).1.map V.int))->H' d = some (.dK (jav (chgF ps ts w ns).2.1))->Q (.ref c) H'
def afF (ps ts:List (Int × Int)) (w:Str) (ns:List Int):List (Int × Int):=(upP ps (chgF ps ts w ns).2.1).filter fun p=>!decide (p.1 ∈ (chgF ps ts w ns).1)
def jlc (qs ts:List (Int × Int)) (w:Str) (ns:List Int) (ts':List (Int × Int)):Prop:=(w ≠ (("fold":String):Str)/\ts' = inK qs ts) \/ (w = (("fold":String):Str)/\∃ ds:List Int,ds.Nodup/\(∀ n,n ∈ ds ↔ jga ts (jb9 ns) n)/\ts'.Perm (inK qs ts ++ ds.map (tieM (jb9 ns)))/\ts'.Pairwise jee)
def spAfK:Sp:=fun vs H Q _=>∃ v t ps ts w ns,vs = [v,.ref t]/\jbg H v ps ts/\WebOk ps ts/\ts.length <= 60 - ps.length/\ps.length <= 50/\StpO H t ps w ns/\w ≠ (("halves":String):Str)/\okS ps ts w ns /\
 ∀ r v' H' ts',Same H H'->H' r = some (.tup [v',.int (chgF ps ts w ns).2.2])->jlc (afF ps ts w ns) ts w ns ts'->Told H (afF ps ts w ns) ts' v' H'->Q (.ref r) H'
theorem jjc (B:Blt mg) (D:DefAt K mg "change_by" (top 59) ["web","step"] f fd) (Dqc:DefAt K mg "nears_in" (top 32) ["web"] fqc dqc) (Gqc:FnOk P w K mg base CX0 1 fqc dqc ["web"] jdn) (Dzu:DefAt K mg "rule_change" (top 12) ["prices","nears","step"] fzu dzu) (Gzu:FnOk P w K mg base CX0 2 fzu dzu ["prices","nears","step"] (spChg true)) (Dq0:DefAt K mg "fold_change" (top 38) ["prices","nears","v"] fq0 dq0) (Gq0:FnOk P w K mg base CX0 2 fq0 dq0 ["prices","nears","v"] jlm):FnOk P w K mg base CX0 3 f fd ["web","step"] jrf:=by
 have sc:FnScope ["web","step","prices"] ["web","step"] (jab (top 59)):=by walk_at "SC"
 refine D.F.ok sc (fun vs H Q E h=>?_) (fun cdv A outer s H vs Q E hr h=>?_)
 ·obtain ⟨v,t,ps,ts,w,ns,rfl,_⟩:=h
  rfl
 obtain ⟨v,t,ps,ts,w,ns,rfl,hw,wok,stp,nh,oks,h⟩:=h
 obtain ⟨et,hne,hin⟩:=id stp
 obtain ⟨u,pa,ta,xs,ys,rfl,eu,ep,et2,pp,pt⟩:=id hw
 have hlx:xs.length = ps.length:=Paired.length pp
 have okl:=wok.pl
 have hu:=jb8 hr
 have hu0:_ < PySem.cLine:=Nat.lt_of_succ_lt hu
 refine ⟨_,(ja4 (jak (i:=2) sc.nd rfl (Or.inr rfl) (jbf (jdq rfl) rfl B.dict PyProof.Rows.boot_dict (ja0 (jam q_ix (qv 0) ja5 (fun _ _=>rfl)) ja3))) (ja4 (jb3 (jal q_eq (jam q_ix (qv 1) ja5 (fun _ _=>rfl)) jb7 (jag _)) je9 jaj) (ja4 (jb3 (jal q_eq (jam q_ix (qv 1) ja5 (fun _ _=>rfl)) jb7 (jag _)) (ja7 (jah (ja8 Gq0 (hr.mono (by decide)) rfl Dq0.m Dq0.F.kp Dq0.b .nil jan (ja0 (qv 2) (ja0 (ja8 Gqc (hr.mono (by decide)) rfl Dqc.m Dqc.F.kp Dqc.b .nil jan (ja0 (qv 0) ja3)) (ja0 (jam q_ix (qv 1) ja5 (fun _ _=>rfl)) ja3)))))) jaj) (ja7 (jah (ja8 Gzu (hr.mono (by decide)) rfl Dzu.m Dzu.F.kp Dzu.b .nil jan (ja0 (qv 2) (ja0 (ja8 Gqc (hr.mono (by decide)) rfl Dqc.m Dqc.F.kp Dqc.b .nil jan (ja0 (qv 0) ja3)) (ja0 (qv 1) ja3))))))))),?_⟩
 refine ja6 fun R hR=>?_
 simp_arith [jai,eu,at0,ep]
 refine ⟨jav ps,jde pp,by omega,jcs wok.p.nodup,fun pd hpd=>?_⟩
 have s1:=ja2 hpd (.dK (jav ps))
 have ed:upd H pd (.dK (jav ps)) pd = some (.dK (jav ps)):=ja1
 generalize upd H pd (.dK (jav ps)) = H1 at s1 ed
 walk_at "RD"
 subst hR
 refine ja6 fun R hR=>?_
 simp_arith [jai,s1 _ _ et,at0]
 simp only [nh,decide_false,Bool.false_eq_true,if_false]
 subst hR
 refine ja6 fun R hR=>?_
 simp_arith [jai,s1 _ _ et,at0]
 rcases oks with ⟨nf,hru⟩ | ⟨rfl,v,rfl,hfo⟩
 ·unfold chgF at h
  rw [if_neg nf] at h
  simp only [nf,decide_false,Bool.false_eq_true,if_false]
  subst hR
  walk_at "RD"
  refine ⟨.ref u,ps,ts,rfl,hw.same s1,wok,fun nd as H4 hnd0 s4 end2 hla hnr=>?_⟩
  walk_at "RD"
  have s14:=s1.trans s4
  exact ⟨pd,nd,t,ps,ts,w,ns,⟨rfl,⟨s4 _ _ ed,⟨as,end2,hla,hnr⟩,wok⟩⟩,⟨s14 _ _ et,hne,hin⟩,nh,nf,hru,fun c g d H5 s5 hd e1 e2 e3=>h c g d H5 (s14.trans s5) (s14.free hd) e1 e2 e3⟩
 ·unfold chgF at h
  rw [if_pos rfl] at h
  simp only [decide_true,if_true]
  walk_at "RD"
  refine ⟨.ref u,ps,ts,rfl,hw.same s1,wok,fun nd as H4 hnd0 s4 end2 hla hnr=>?_⟩
  have s14:=s1.trans s4
  simp_arith [jai,s14 _ _ et,at1]
  exact ⟨pd,nd,v,ps,ts,rfl,⟨s4 _ _ ed,⟨as,end2,hla,hnr⟩,wok⟩,hin v (List.mem_singleton.mpr rfl),fun c g d H5 s5 hd e1 e2 e3=>h c g d H5 (s14.trans s5) (s14.free hd) e1 e2 e3⟩
theorem jgh (B:Blt mg) (D:DefAt K mg "after_known" (top 60) ["web","step"] f fd) (Dqc:DefAt K mg "nears_in" (top 32) ["web"] fqc dqc) (Gqc:FnOk P w K mg base CX0 1 fqc dqc ["web"] jdn) (Dq2:DefAt K mg "fold_ties" (top 39) ["nears","v"] fq2 dq2) (Gq2:FnOk P w K mg base CX0 2 fq2 dq2 ["nears","v"] jnv) (Dqw:DefAt K mg "change_by" (top 59) ["web","step"] fqw dqw) (Gqw:FnOk P w K mg base CX0 3 fqw dqw ["web","step"] jrf) (Dqo:DefAt K mg "marked" (top 19) ["places"] fqo dqo) (Gqo:FnOk P w K mg base CX0 1 fqo dqo ["places"] jhe) (Dzz:DefAt K mg "web_of" (top 49) ["web","kept"] fzz dzz) (Gzz:FnOk P w K mg base CX0 1 fzz dzz ["web","kept"] jnl):FnOk P w K mg base CX0 4 f fd ["web","step"] spAfK:=by
 have sc:FnScope ["web","step","change","gone","prices","places","ties"] ["web","step"] (jab (top 60)):=by walk_at "SC"
 refine D.F.ok sc (fun vs H Q E h=>?_) (fun cdv A outer s H vs Q E hr h=>?_)
 ·obtain ⟨v,t,ps,ts,w,ns,rfl,_⟩:=h
  rfl
 obtain ⟨v,t,ps,ts,w,ns,rfl,hw,wok,hsm,hp50,stp,nh,oks,h⟩:=h
 obtain ⟨et,hne,hin⟩:=id stp
 obtain ⟨u,pa,ta,xs,ys,rfl,eu,ep,et2,pp,pt⟩:=id hw
 have hlx:xs.length = ps.length:=Paired.length pp
 have okl:=wok.pl
 have hu:=jb8 hr
 have hu0:_ < PySem.cLine:=Nat.lt_of_succ_lt hu
 refine ⟨_,(ja4 (jak (i:=2) sc.nd rfl (Or.inl rfl) (ja8 Gqw (hr.mono (by decide)) rfl Dqw.m Dqw.F.kp Dqw.b .nil jan (ja0 (qv 0) (ja0 (qv 1) ja3)))) (ja4 (jak (i:=3) sc.nd rfl (Or.inr rfl) (ja8 Gqo (hr.mono (by decide)) rfl Dqo.m Dqo.F.kp Dqo.b .nil jan (ja0 (jam q_ix (qv 2) ja5 (fun _ _=>rfl)) ja3))) (ja4 (jak (i:=4) sc.nd rfl (Or.inr rfl) (jbf (jdq rfl) rfl B.dict PyProof.Rows.boot_dict (ja0 (jam q_ix (qv 0) ja5 (fun _ _=>rfl)) ja3))) (ja4 (jc7 (js3 (qv 4) (jam q_ix (qv 2) ja5 (fun _ _=>rfl)))) (ja4 (jco (i:=5) sc.nd rfl (Or.inl rfl) (CpScope.of (N:=["place","gone","prices"]) (src:=[none,some 3,some 4]) (by rfl)) rfl (joe (qv 4)) (fun _ _ _ _=>(jad (i:=0) (jac (l:=["place","gone","prices"]) (by rfl)) rfl (Or.inl rfl))) (fun _ _ _ _=>(jc1 (jmk (jhj hu (qv 0) (qv 1))))) (fun _ _ _ _=>(jb4 (ja0 (qv 0) (ja0 (js4 (by exact hu) (qv 2) (qv 0) (fun _ _=>rfl)) ja3))))) (ja4 (jak (i:=6) sc.nd rfl (Or.inl rfl) (jam q_ix (ja8 Gzz (hr.mono (by decide)) rfl Dzz.m Dzz.F.kp Dzz.b .nil jan (ja0 (qv 0) (ja0 (jbf (jdq rfl) rfl B.dict PyProof.Rows.boot_dict (ja0 (qv 5) ja3)) ja3))) ja5 (fun _ _=>rfl))) (ja4 (jb3 (jal q_eq (jam q_ix (qv 1) ja5 (fun _ _=>rfl)) jb7 (jag _)) (ja7 (jak (i:=6) sc.nd rfl (Or.inl rfl) (jaf jd9 rfl B.sorted PyProof.Rows.boot_sorted (ja0 (jay jcv (qv 6) (ja8 Gq2 (hr.mono (by decide)) rfl Dq2.m Dq2.F.kp Dq2.b .nil jan (ja0 (ja8 Gqc (hr.mono (by decide)) rfl Dqc.m Dqc.F.kp Dqc.b .nil jan (ja0 (qv 0) ja3)) (ja0 (jam q_ix (qv 1) ja5 (fun _ _=>rfl)) ja3)))) ja3)))) jaj) (ja7 (jah (jb4 (ja0 (jb4 (ja0 (qv 5) (ja0 (qv 6) ja3))) (ja0 (jam q_ix (qv 2) ja5 (fun _ _=>rfl)) ja3)))))))))))),?_⟩
 refine ja6 fun R hR=>?_
 walk_at "RD"
 refine ⟨.ref u,t,ps,ts,w,ns,rfl,hw,wok,stp,nh,oks,fun c g cd H1 s1 hcd ec eg ecd=>?_⟩
 obtain ⟨hnd,hl2⟩:=jh3 wok (w:=w) (ns:=ns)
 obtain ⟨hch,hcl⟩:=jsl wok hne hin oks
 unfold afF at h
 generalize chgF ps ts w ns = cg at ec eg ecd hnd hl2 hch hcl h
 obtain ⟨gs,ch,x⟩:=cg
 dsimp only at ec eg ecd hnd hl2 hch hcl h
 walk_at "RD"
 subst hR
 refine ja6 fun R hR=>?_
 simp_arith [jai,ec,at0]
 refine ⟨.ref g,gs,rfl,⟨g,rfl,eg⟩,hnd,by omega,fun gd H2 hgd s2 egd=>?_⟩
 have s12:=s1.trans s2
 walk_at "RD"
 subst hR
 refine ja6 fun R hR=>?_
 simp_arith [jai,s12 _ _ eu,at0,s12 _ _ ep]
 refine ⟨jav ps,jde (Prs.same s12 pp),by omega,jcs wok.p.nodup,fun pd hpd=>?_⟩
 have s23:=ja2 hpd (.dK (jav ps))
 have s3:=s12.trans s23
 have ed:upd H2 pd (.dK (jav ps)) pd = some (.dK (jav ps)):=ja1
 have npd:H pd = none:=s12.free hpd
 have ncd:pd ≠ cd:=fun z=>by rw [z,s2 _ _ ecd] at hpd; cases hpd
 have ngd:gd ≠ pd:=fun z=>by rw [<- z,egd] at hpd; cases hpd
 have nc:c ≠ pd:=fun z=>by rw [<- z,s2 _ _ ec] at hpd; cases hpd
 generalize upd H2 pd (.dK (jav ps)) = H3 at s23 s3 ed
 walk_at "RD"
 subst hR
 refine ja6 fun R hR=>?_
 have e23:=s23 _ _ (s2 _ _ ec)
 simp_arith [tDUpd]
 refine ⟨pd,rfl,.inl ⟨_,.inl ed⟩,?_⟩
 simp_arith [jai,e23,at1]
 have hcl1:(jav ch).length <= 1:=by unfold jav; rw [List.length_map]; exact hcl
 have hpl1:(jav ps).length <= 40:=by unfold jav; rw [List.length_map]; exact okl
 refine ⟨cd,jav ps,jav ch,rfl,ncd,ed,s23 _ _ (s2 _ _ ecd),by omega,?_⟩
 rw [jlu ch ps hch]
 have hk:=jf9 ch ps
 generalize hqs:upP ps ch = qs at hk h
 have s4:Same H (upd H3 pd (.dK (jav qs))):=jao s3 npd
 have ed4:upd H3 pd (.dK (jav qs)) pd = some (.dK (jav qs)):=ja1
 have egd4:upd H3 pd (.dK (jav qs)) gd = some (.dK (mk gs)):=by rw [jae ngd]; exact s23 _ _ egd
 have ec4:upd H3 pd (.dK (jav qs)) c = some (.tup [.ref g,.ref cd,.int x]):=by rw [jae nc]; exact e23
 generalize upd H3 pd (.dK (jav qs)) = H4 at s4 ed4 egd4 ec4
 have qnd:(qs.map (·.1)).Nodup:=by rw [hk]; exact wok.p.nodup
 have hql:qs.length = ps.length:=by
  have:=congrArg List.length hk
  rwa [List.length_map,List.length_map] at this
 walk_at "RD"
 subst hR
 refine ja6 fun R hR=>?_
 refine jc6 (ι:=Obj) (fun o=>Itd pd o (jav qs)) (fun o=>upd H4 pd (.frz o (.dK (jav qs)))) (fun _=>True) (fun R' hR'=>?_) (fun o _ z hz=>jaw qs.length (fun i σ' Hc=>∃ w1,σ' = [w1,some (.ref gd),some (.ref pd)]/\Same (upd H4 pd (.frz o (.dK (jav qs)))) Hc/\∃ zs,Hc z = some (.lst zs)/\Prs Hc zs ((qs.take i).filter fun p=>!decide (p.1 ∈ gs))) ⟨none,rfl,ja2 hz _,[],ja1,.nil⟩ ?_ ?_)
 ·unfold iDct
  walk_at "RD"
  exact ⟨pd,jav qs,rfl,ed4,fun o=>hR' o trivial⟩
 ·rintro i σ' Hc hi ⟨w1,rfl,sc4,zs,ez,pz⟩
  have efz:=sc4 _ _ (show upd H4 pd (.frz o (.dK (jav qs))) pd = _ from ja1)
  have egd5:=sc4 _ _ (show upd H4 pd (.frz o (.dK (jav qs))) gd = some (.dK (mk gs)) by rw [jae ngd]; exact egd4)
  have hkl:(jav qs).length = qs.length:=by unfold jav; rw [List.length_map]
  refine ⟨⟨efz,by rw [hkl]; exact hi⟩,?_⟩
  rintro y H' ⟨rfl,kv,hkv,rfl⟩
  have hq:qs[i]? = some qs[i]:=gE hi
  generalize qs[i] = q at hq
  have ekv:kv = (Sum.inl q.1,.int q.2):=by
   unfold jav at hkv
   rw [List.getElem?_map,hq] at hkv
   exact (Option.some.inj hkv).symm
  subst ekv
  have hqm:q ∈ qs:=List.mem_of_getElem? hq
  have hval:=jh6 qnd hqm
  have hlz2:zs.length <= i:=by
   rw [show zs.length = _ from Paired.length pz]
   refine Nat.le_trans (List.length_filter_le _ _) ?_
   rw [List.length_take]
   omega
  have ft:=jbo (f:=fun p:Int × Int=>!decide (p.1 ∈ gs)) hq
  simp only [kV]
  simp_arith [egd5,jop]
  rw [ft]
  refine ite2 (fun c1=>?_) (fun c1=>?_)
  ·rw [if_pos c1]
   simp_arith [tDGet]
   refine ⟨pd,_,rfl,.inl ⟨_,Sum.inl q.1,.inr ⟨o,efz⟩,rfl,hval.symm⟩,?_⟩
   intro t2 ht2
   have ez2:=ja2 ht2 (.tup [.int q.1,.int q.2]) _ _ ez
   have t6:=jba (ys:=zs ++ [.ref t2]) ez2
   refine ⟨zs,ez2,szl' (by omega),_,rfl,jao (sc4.trans (ja2 ht2 _)) hz,zs ++ [.ref t2],(by first | rfl | exact ja1),?_⟩
   exact jar (Prs.tups ((jcz ht2).trans t6) pz) (Pr.tups ⟨t2,rfl,ja1⟩ t6)
  ·rw [if_neg c1,List.append_nil]
   exact ⟨_,rfl,sc4,zs,ez,pz⟩
 rintro σ' H5 ⟨w1,rfl,s5,zs,ez,pz⟩
 have hkl:(jav qs).length = qs.length:=by unfold jav; rw [List.length_map]
 refine ⟨⟨s5 _ _ ja1,by rw [hkl]; exact Nat.le_refl _⟩,?_⟩
 rw [List.take_length] at pz
 have hz0:H z = none:=by
  cases q:H z with
  | none=>rfl
  | some u0 =>
   have q4:=s4 _ _ q
   have nz:z ≠ pd:=fun e=>by rw [e,npd] at q; cases q
   rw [jae nz,q4] at hz
   cases hz
 have s05:Same H H5:=fun b u0 q=>s5 _ _ (by rw [jae (jaa q npd)]; exact s4 _ _ q)
 have ec5:=s5 _ _ (show upd H4 pd (.frz o (.dK (jav qs))) c = some (.tup [.ref g,.ref cd,.int x]) by rw [jae nc]; exact ec4)
 clear s4 ed4 egd4 ec4 s5
 generalize hpl:(qs.filter fun p=>!decide (p.1 ∈ gs)) = pl at pz h
 have plnd:(pl.map (·.1)).Nodup:=by
  rw [<- hpl]
  exact (List.Sublist.map _ List.filter_sublist).nodup qnd
 have hpll:pl.length <= 40:=by
  rw [<- hpl]
  exact Nat.le_trans (List.length_filter_le _ _) (by omega)
 have hlz:zs.length = pl.length:=Paired.length pz
 walk_at "RD"
 subst hR
 refine ja6 fun R hR=>?_
 simp_arith [ez]
 refine ⟨jav pl,jde pz,by omega,jcs plnd,fun kd hkd=>?_⟩
 have s56:=ja2 hkd (.dK (jav pl))
 have ek:upd H5 kd (.dK (jav pl)) kd = some (.dK (jav pl)):=ja1
 generalize upd H5 kd (.dK (jav pl)) = H6 at s56 ek
 have s06:=s05.trans s56
 refine ⟨.ref u,kd,ps,ts,pl,rfl,hw.same s06,wok,ek,fun v7 H7 s7 tol=>?_⟩
 obtain ⟨a7,p7,t7,z7,w7,rfl,hp7,ht7,n7,ea7,ep7,pp7,et7,pt7⟩:=tol
 have s57:=s56.trans s7
 have s07:=s06.trans s7
 simp_arith [jai,ea7,at1]
 subst hR
 refine ja6 fun R hR=>?_
 simp_arith [jai,s07 _ _ et,at0]
 have fin:∀ (tl:Addr) (H9:Hp) (us:List V) (ts':List (Int × Int)),Same H7 H9->H tl = none->z ≠ tl->H9 tl = some (.lst us)->Prs H9 us ts'->jlc pl ts w ns ts'->∀ wv,H9 wv = none->∀ r,upd H9 wv (.tup [.ref z,.ref tl]) r = none->Q (.ref r) (upd (upd H9 wv (.tup [.ref z,.ref tl])) r (.tup [.ref wv,.int x])):=by
  intro tl H9 us ts' s9 htl nzt etl pus lef wv hwv r hr9
  have s78:=ja2 hwv (.tup [.ref z,.ref tl])
  have ewv:upd H9 wv (.tup [.ref z,.ref tl]) wv = some (.tup [.ref z,.ref tl]):=ja1
  generalize upd H9 wv (.tup [.ref z,.ref tl]) = H8 at s78 ewv hr9
  have s89:=ja2 hr9 (.tup [.ref wv,.int x])
  have s79:=s78.trans s89
  have s59:=(s57.trans s9).trans s79
  exact h r (.ref wv) _ ts' ((s07.trans s9).trans s79) ja1 lef ⟨wv,z,tl,zs,us,rfl,hz0,htl,nzt,s89 _ _ ewv,s59 _ _ ez,Prs.same s59 pz,s79 _ _ etl,Prs.same s79 pus⟩
 have nz7:z ≠ t7:=fun e=>by rw [<- e,s56 _ _ ez] at ht7; cases ht7
 rcases oks with ⟨nf,hru⟩ | ⟨rfl,v,rfl,hfo⟩
 ·simp only [nf,decide_false,Bool.false_eq_true,if_false]
  subst hR
  walk_at "RD"
  intro wv hwv
  simp_arith [jai,ja2 hwv (.tup [.ref z,.ref t7]) _ _ (s57 _ _ ec5),at2]
  intro r hr9
  exact fin t7 H7 w7 _ (Same.refl _) (s06.free ht7) nz7 et7 pt7 (.inl ⟨nf,rfl⟩) wv hwv r hr9
 ·simp only [decide_true,if_true]
  walk_at "RD"
  refine ⟨.ref u,ps,ts,rfl,hw.same s07,wok,fun nd as H8 hnd0 s8 end2 hla hnr=>?_⟩
  have s08:=s07.trans s8
  simp_arith [jai,s08 _ _ et,at1]
  refine ⟨nd,v,ps,ts,rfl,⟨⟨as,end2,hla,hnr⟩,wok⟩,hin v (List.mem_singleton.mpr rfl),fun l HA fs ds sA hl el pf nd1 mem1=>?_⟩
  have hv:=hin v (List.mem_singleton.mpr rfl)
  have s7A:=s8.trans sA
  have hfl:fs.length = ds.length:=by have:=Paired.length pf; rwa [List.length_map] at this
  have hsub:∀ q ∈ ds,q ∈ ps.map (·.1):=fun q hq=>by
   obtain ⟨_,_,_,y⟩:=(mem1 q).mp hq
   exact jbc wok y
  have hdl:=jd0 nd1 hsub
  rw [List.length_map] at hdl
  have hil:(inK pl ts).length <= ts.length:=List.length_filter_le _ _
  have hwl:w7.length = (inK pl ts).length:=Paired.length pt7
  simp only [s7A _ _ et7,el]
  refine ⟨szl (by omega),fun p hp=>?_⟩
  have sAB:=ja2 hp (.lst (w7 ++ fs))
  have ep9:upd HA p (.lst (w7 ++ fs)) p = some (.lst (w7 ++ fs)):=ja1
  generalize upd HA p (.lst (w7 ++ fs)) = HB at sAB ep9
  have s7B:=s7A.trans sAB
  have pall:Prs HB (w7 ++ fs) (inK pl ts ++ ds.map (tieM v)):=jbx (Prs.same s7B pt7) (Prs.same sAB pf)
  have kge:∀ n ∈ ps.map (·.1),0 <= n/\n < 1000:=fun n hn=>by
   obtain ⟨q,hq,rfl⟩:=List.mem_map.mp hn
   have g1:=wok.p.gt q hq
   have g2:=(wok.p.pos q hq).2
   exact ⟨by omega,by omega⟩
  refine ⟨p,_,_,1000,rfl,ep9,pall,by rw [List.length_append]; omega,fun q hq=>?_,fun tl us ts' htl pus prm srt=>?_⟩
  ·rcases List.mem_append.mp hq with hq | hq
   ·obtain ⟨a1,a2,a3⟩:=TiOk.ats wok.t q (List.mem_filter.mp hq).1
    rw [jbm] at a3
    exact kge _ (of_decide_eq_true a3)
   ·obtain ⟨n,hn,rfl⟩:=List.mem_map.mp hq
    have g1:=kge _ (hsub n hn)
    have g2:=kge _ hv
    unfold tieM
    dsimp only
    split <;> assumption
  have sBC:=ja2 htl (.lst us)
  have s7C:=s7B.trans sBC
  have etl:upd HB tl (.lst us) tl = some (.lst us):=ja1
  generalize upd HB tl (.lst us) = HC at sBC s7C etl
  subst hR
  walk_at "RD"
  intro wv hwv
  simp_arith [jai,ja2 hwv (.tup [.ref z,.ref tl]) _ _ (s7C _ _ (s57 _ _ ec5)),at2]
  intro r hr9
  exact fin tl HC us _ s7C ((s07.trans s7B).free htl) (fun e=>by rw [<- e,s7B _ _ (s57 _ _ ez)] at htl; cases htl) etl (Prs.same sBC pus) (.inr ⟨rfl,ds,nd1,mem1,prm,srt⟩) wv hwv r hr9
end
end My
namespace L2
open PySem PySem.Spec PyProof.Rows
abbrev ZpF (h:Heap) (z TI TO:Addr) (f0:Value) (f1:Bool):Prop:=h.get? z = some { cls:=.type "zip",data:=.fields #[f0,.bool f1,.bool false,.ref TI,.ref TO] }
def FrV (f0:Value):Prop:=f0 = .none \/ ∃ n:Int,f0 = rawInt n
section
variable {prog:Program} {w:World} {A:Around} {E:Value->Shared->Prop} {s:Shared}
theorem jem {a:Addr} {Q:Option Obj->Shared->Prop} (h:Q (s.heap.get? a) s):wpAny (model prog w) A (loadIfAlive a) Q E s:=by
 intro Γ p hΓ
 unfold loadIfAlive
 rw [Sem.wp_loadIfAlive]
 exact h
theorem jna {z TI TO:Addr} {f0:Value} {f1:Bool} {Q:Bool->Shared->Prop} (hz:ZpF s.heap z TI TO f0 f1) (hf:FrV f0) (h1:Q true s) (h2:∀ h',ZpF h' z TI TO f0 true->Heap.SameBut z s.heap h'->Q false { s with heap:=h' }) :
  wpAny (model prog w) A (Builtin.SmallTypes.ownedTupleIsFree (.ref z)) Q E s:=by
 unfold Builtin.SmallTypes.ownedTupleIsFree
 refine wpAny_bind (wpAny_field hz rfl (x:=f0) rfl ?_)
 rcases hf with rfl | ⟨n,rfl⟩
 ·exact wpAny_pure h1
 ·unfold rawInt
  refine wpAny_bind (jem ?_)
  cases c:s.heap.get? n.toNat with
  | none=>exact wpAny_pure h1
  | some o =>
   refine wpAny_bind (wpAny_field hz rfl (x:=.bool f1) rfl ?_)
   cases f1 with
   | true=>exact wpAny_pure (h2 s.heap hz (Heap.SameBut.refl _ _))
   | false=>exact wpAny_bind (wpAny_setField_rec hz (by simp) fun g1 hzA sA=>wpAny_pure (h2 g1 hzA sA))
theorem jia {b:Bool} {z TI TO i1 i2 l1 l2:Addr} {k1 k2:Nat} {xs ys:Array Value} {x y v0 v1 f0:Value} {f1:Bool} {Q:Value->Shared->Prop} (D:ZipApart z TI TO i1 i2 l1 l2)
  (hz:ZpF s.heap z TI TO f0 f1) (hf:FrV f0) (hTI:IsPair s.heap TI (.ref i1) (.ref i2)) (hTO:IsPair s.heap TO v0 v1)
  (h1:jbz b s.heap i1 l1 k1) (h2:jbz b s.heap i2 l2 k2) (hl1:IsSq b s.heap l1 xs) (hl2:IsSq b s.heap l2 ys) (hx:xs[k1]? = some x) (hy:ys[k2]? = some y)
  (hQ:∀ h' f0 f1,FrV f0->ZpF h' z TI TO f0 f1->(∃ u v,IsPair h' TO u v)->jbz b h' i1 l1 (k1 + 1)->jbz b h' i2 l2 (k2 + 1)->IsPair h' s.heap.objs.size x y ->
   (∀ c o,c ≠ z->c ≠ TO->c ≠ i1->c ≠ i2->s.heap.get? c = some o->h'.get? c = some o)->Q (.ref s.heap.objs.size) { s with heap:=h' }) :
  wpAny (model prog w) A (Builtin.«zip.__next__» ⟨[.ref z],[]⟩) (fun fin s'=>∃ v,fin = .done (.ret v)/\Q v s') E s:=by
 show wpAny _ _ (field (.ref z) 2 >>= _) _ _ _
 refine wpAny_bind (wpAny_field hz rfl (x:=.bool false) rfl ?_)
 show wpAny _ _ (field (.ref z) 3 >>= _) _ _ _
 refine wpAny_bind (wpAny_field hz rfl (x:=.ref TI) rfl ?_)
 refine wpAny_bind (wpAny_seqItems hTI rfl ?_)
 show wpAny _ _ (Builtin.SmallTypes.ownedTupleIsFree (.ref z) >>= _) _ _ _
 refine wpAny_bind (jna hz hf ?_ fun g0 hz0 s0=>?_)
 ·simp only [if_true]
  refine wpAny_bind (wpAny_rule ?_)
  refine wpAny_bind (wpAny_field hz rfl (x:=.ref TO) rfl ?_)
  refine wpAny_bind (wpAny_setField_rec hz (by simp) fun g1 hzA sA=>?_)
  replace hzA:ZpF g1 z TI TO .ellipsis f1:=hzA
  refine wpAny_bind ?_
  simp only [List.zipIdx_cons,List.zipIdx_nil,List.forIn_cons,List.forIn_nil]
  refine wpAny_bind (wpAny_bind (wpAny_onRaise ?_))
  show wpAny _ _ (Builtin.SmallTypes.nextOf (.ref i1) >>= _) _ _ _
  refine wpAny_bind (jd6 (b:=b) (h1.at' fun o e=>sA.extBut _ o D.i1z e) (hl1.at' fun o e=>sA.extBut _ o D.l1z e) hx fun g2 h1B sB=>wpAny_pure ?_)
  have TOB:IsPair g2 TO v0 v1:=sB.extBut _ _ D.TOi1 (sA.extBut _ _ D.TOz hTO)
  refine wpAny_bind (wpAny_seqItems TOB rfl ?_)
  refine wpAny_bind (wpAny_updateSeq_pair TOB fun g3 TOC sC=>?_)
  replace TOC:IsPair g3 TO x v1:=TOC
  refine wpAny_bind (wpAny_letGo (wpAny_pure ?_))
  refine wpAny_bind (wpAny_bind (wpAny_onRaise ?_))
  show wpAny _ _ (Builtin.SmallTypes.nextOf (.ref i2) >>= _) _ _ _
  refine wpAny_bind (jd6 (b:=b) (h2.at' fun o e=>sC.extBut _ o D.TOi2.symm (sB.extBut _ o D.i12.symm (sA.extBut _ o D.i2z e))) (hl2.at' fun o e=>sC.extBut _ o D.l2TO (sB.extBut _ o D.l2i1 (sA.extBut _ o D.l2z e))) hy fun g4 h2D sD=>wpAny_pure ?_)
  have TOD:IsPair g4 TO x v1:=sD.extBut _ _ D.TOi2 TOC
  refine wpAny_bind (wpAny_seqItems TOD rfl ?_)
  refine wpAny_bind (wpAny_updateSeq_pair TOD fun g5 TOE sE=>?_)
  replace TOE:IsPair g5 TO x y:=TOE
  refine wpAny_bind (wpAny_letGo (wpAny_pure (wpAny_pure ?_)))
  refine wpAny_bind (wpAny_seqItems TOE rfl ?_)
  refine wpAny_bind (wpAny_newTuple ?_)
  have hsz:g5.objs.size = s.heap.objs.size:=by rw [sE.1,sD.1,sC.1,sB.1,sA.1]
  have hzE:ZpF g5 z TI TO .ellipsis f1:=sE.extBut _ _ D.TOz.symm (sD.extBut _ _ D.i2z.symm (sC.extBut _ _ D.TOz.symm (sB.extBut _ _ D.i1z.symm hzA)))
  have hkE:∀ c o,c ≠ z->c ≠ TO->c ≠ i1->c ≠ i2->s.heap.get? c = some o->g5.get? c = some o:=fun c o c1 c2 c3 c4 e=>sE.extBut _ _ c2 (sD.extBut _ _ c4 (sC.extBut _ _ c2 (sB.extBut _ _ c3 (sA.extBut _ _ c1 e))))
  have h1E:jbz b g5 i1 l1 (k1 + 1):=h1B.at' fun o e=>sE.extBut _ o D.TOi1.symm (sD.extBut _ o D.i12 (sC.extBut _ o D.TOi1.symm e))
  have h2E:jbz b g5 i2 l2 (k2 + 1):=h2D.at' fun o e=>sE.extBut _ o D.TOi2.symm e
  have zlt:z < g5.objs.size:=Heap.lt_size hzE
  show wpAny _ _ (Builtin.SmallTypes.ownedTupleHandOut (.ref z) (.ref g5.objs.size) >>= _) _ _ _
  refine wpAny_bind ?_
  unfold Builtin.SmallTypes.ownedTupleHandOut
  have hzF:ZpF (g5.push { cls:=.type "tuple",data:=.seq #[x,y] }) z TI TO .ellipsis f1:=Heap.get?_push_of_some _ hzE
  refine wpAny_bind (wpAny_setField_rec hzF (by simp) fun g7 hzG sG=>?_)
  replace hzG:ZpF g7 z TI TO (rawInt g5.objs.size) f1:=hzG
  refine wpAny_setField_rec hzG (by simp) fun g8 hzI sI=>?_
  replace hzI:ZpF g8 z TI TO (rawInt g5.objs.size) false:=hzI
  have up:∀ c o,c ≠ z->g5.get? c = some o->g8.get? c = some o:=fun c o c1 e=>sI.extBut _ _ c1 (sG.extBut _ _ c1 (Heap.get?_push_of_some _ e))
  have hTI8:IsPair g8 g5.objs.size x y:=sI.extBut _ _ (Nat.ne_of_gt zlt) (sG.extBut _ _ (Nat.ne_of_gt zlt) (Heap.get?_push_size _ rfl))
  rw [hsz] at hzI hTI8
  refine wpAny_pure ⟨_,rfl,?_⟩
  show Q (.ref g5.objs.size) _
  rw [hsz]
  exact hQ g8 _ _ (.inr ⟨_,rfl⟩) hzI ⟨_,_,up _ _ D.TOz TOE⟩ (h1E.at' fun o e=>up _ o D.i1z e) (h2E.at' fun o e=>up _ o D.i2z e) hTI8 fun c o c1 c2 c3 c4 e=>up c o c1 (hkE c o c1 c2 c3 c4 e)
 ·simp only [Bool.false_eq_true,if_false]
  refine wpAny_bind ?_
  rw [<- Array.forIn_toList]
  simp only [List.forIn_cons,List.forIn_nil]
  refine wpAny_bind (wpAny_bind (wpAny_holding ?_))
  show wpAny _ _ (Builtin.SmallTypes.nextOf (.ref i1) >>= _) _ _ _
  refine wpAny_bind (jd6 (b:=b) (h1.at' fun o e=>s0.extBut _ o D.i1z e) (hl1.at' fun o e=>s0.extBut _ o D.l1z e) hx fun g2 h1B sB=>wpAny_pure ?_)
  refine wpAny_pure ?_
  refine wpAny_bind (wpAny_bind (wpAny_holding ?_))
  show wpAny _ _ (Builtin.SmallTypes.nextOf (.ref i2) >>= _) _ _ _
  refine wpAny_bind (jd6 (b:=b) (h2.at' fun o e=>sB.extBut _ o D.i12.symm (s0.extBut _ o D.i2z e)) (hl2.at' fun o e=>sB.extBut _ o D.l2i1 (s0.extBut _ o D.l2z e)) hy fun g4 h2D sD=>wpAny_pure ?_)
  refine wpAny_pure (wpAny_pure ?_)
  refine wpAny_bind (wpAny_newTuple ?_ (by show 2 <= sizeLine; decide))
  have hsz:g4.objs.size = s.heap.objs.size:=by rw [sD.1,sB.1,s0.1]
  have kk:∀ c o,c ≠ z->c ≠ i1->c ≠ i2->s.heap.get? c = some o->g4.get? c = some o:=fun c o c1 c3 c4 e=>sD.extBut _ _ c4 (sB.extBut _ _ c3 (s0.extBut _ _ c1 e))
  have hz4:ZpF g4 z TI TO f0 true:=sD.extBut _ _ D.i2z.symm (sB.extBut _ _ D.i1z.symm hz0)
  refine wpAny_pure ⟨_,rfl,?_⟩
  show Q (.ref g4.objs.size) _
  rw [hsz]
  refine hQ _ f0 true hf (Heap.get?_push_of_some _ hz4) ⟨v0,v1,Heap.get?_push_of_some _ (kk _ _ D.TOz D.TOi1 D.TOi2 hTO)⟩ ((h1B.at' fun o e=>sD.extBut _ o D.i12 e).at' fun o e=>Heap.get?_push_of_some _ e) (h2D.at' fun o e=>Heap.get?_push_of_some _ e) (by rw [<- hsz]; exact Heap.get?_push_size _ rfl) fun c o c1 _ c3 c4 e=>Heap.get?_push_of_some _ (kk c o c1 c3 c4 e)
theorem jk7 {b:Bool} {z TI TO i1 i2 l1 l2:Addr} {k1 k2:Nat} {xs ys:Array Value} {v0 v1 f0:Value} {f1:Bool} {Q:Fin->Shared->Prop} (hh:A.handled = none) (D:ZipApart z TI TO i1 i2 l1 l2)
  (hz:ZpF s.heap z TI TO f0 f1) (hf:FrV f0) (hTI:IsPair s.heap TI (.ref i1) (.ref i2)) (hTO:IsPair s.heap TO v0 v1)
  (h1:jbz b s.heap i1 l1 k1) (h2:jbz b s.heap i2 l2 k2) (hl1:IsSq b s.heap l1 xs) (hl2:IsSq b s.heap l2 ys) (hend:xs[k1]? = none \/ ys[k2]? = none)
  (hE:∀ h' e,(∀ c o,c ≠ z->c ≠ TO->c ≠ i1->c ≠ i2->s.heap.get? c = some o->h'.get? c = some o)->(∃ o,h'.get? e = some o/\o.cls = .type "StopIteration")->E (.ref e) { s with heap:=h' }) :
  wpAny (model prog w) A (Builtin.«zip.__next__» ⟨[.ref z],[]⟩) Q E s:=by
 show wpAny _ _ (field (.ref z) 2 >>= _) _ _ _
 refine wpAny_bind (wpAny_field hz rfl (x:=.bool false) rfl ?_)
 show wpAny _ _ (field (.ref z) 3 >>= _) _ _ _
 refine wpAny_bind (wpAny_field hz rfl (x:=.ref TI) rfl ?_)
 refine wpAny_bind (wpAny_seqItems hTI rfl ?_)
 show wpAny _ _ (Builtin.SmallTypes.ownedTupleIsFree (.ref z) >>= _) _ _ _
 refine wpAny_bind (jna hz hf ?_ fun g0 hz0 s0=>?_)
 ·simp only [if_true]
  refine wpAny_bind (wpAny_rule ?_)
  refine wpAny_bind (wpAny_field hz rfl (x:=.ref TO) rfl ?_)
  refine wpAny_bind (wpAny_setField_rec hz (by simp) fun g1 hzA sA=>?_)
  replace hzA:ZpF g1 z TI TO .ellipsis f1:=hzA
  refine wpAny_bind ?_
  simp only [List.zipIdx_cons,List.zipIdx_nil,List.forIn_cons,List.forIn_nil]
  refine wpAny_bind (wpAny_bind (wpAny_onRaise ?_))
  show wpAny _ _ (Builtin.SmallTypes.nextOf (.ref i1) >>= _) _ _ _
  cases hx:xs[k1]? with
  | none =>
   refine wpAny_bind (jcr (b:=b) hh (h1.at' fun o e=>sA.extBut _ o D.i1z e) (hl1.at' fun o e=>sA.extBut _ o D.l1z e) hx fun g2 ex sB he=>?_)
   obtain ⟨oe,hoe,hce⟩:=he
   have hzB:ZpF g2 z TI TO .ellipsis f1:=sB _ _ D.i1z.symm hzA
   have hez:ex ≠ z:=fun q=>by subst q; rw [hzB] at hoe; cases hoe; simp at hce
   refine wpAny_setField_rec hzB (by simp) fun g3 _ sC=>hE g3 ex (fun c o c1 _ c3 _ q=>sC.extBut _ _ c1 (sB _ _ c3 (sA.extBut _ _ c1 q))) ⟨oe,sC.extBut _ _ hez hoe,hce⟩
  | some x =>
   have hy:ys[k2]? = none:=by rcases hend with h | h; rw [hx] at h; cases h; exact h
   refine wpAny_bind (jd6 (b:=b) (h1.at' fun o e=>sA.extBut _ o D.i1z e) (hl1.at' fun o e=>sA.extBut _ o D.l1z e) hx fun g2 h1B sB=>wpAny_pure ?_)
   have TOB:IsPair g2 TO v0 v1:=sB.extBut _ _ D.TOi1 (sA.extBut _ _ D.TOz hTO)
   refine wpAny_bind (wpAny_seqItems TOB rfl ?_)
   refine wpAny_bind (wpAny_updateSeq_pair TOB fun g3 TOC sC=>?_)
   refine wpAny_bind (wpAny_letGo (wpAny_pure ?_))
   refine wpAny_bind (wpAny_bind (wpAny_onRaise ?_))
   show wpAny _ _ (Builtin.SmallTypes.nextOf (.ref i2) >>= _) _ _ _
   refine wpAny_bind (jcr (b:=b) hh (h2.at' fun o e=>sC.extBut _ o D.TOi2.symm (sB.extBut _ o D.i12.symm (sA.extBut _ o D.i2z e))) (hl2.at' fun o e=>sC.extBut _ o D.l2TO (sB.extBut _ o D.l2i1 (sA.extBut _ o D.l2z e))) hy fun g4 ex sD he=>?_)
   obtain ⟨oe,hoe,hce⟩:=he
   have hzD:ZpF g4 z TI TO .ellipsis f1:=sD _ _ D.i2z.symm (sC.extBut _ _ D.TOz.symm (sB.extBut _ _ D.i1z.symm hzA))
   have hez:ex ≠ z:=fun q=>by subst q; rw [hzD] at hoe; cases hoe; simp at hce
   refine wpAny_setField_rec hzD (by simp) fun g5 _ sE=>hE g5 ex (fun c o c1 c2 c3 c4 q=>sE.extBut _ _ c1 (sD _ _ c4 (sC.extBut _ _ c2 (sB.extBut _ _ c3 (sA.extBut _ _ c1 q))))) ⟨oe,sE.extBut _ _ hez hoe,hce⟩
 ·simp only [Bool.false_eq_true,if_false]
  refine wpAny_bind ?_
  rw [<- Array.forIn_toList]
  simp only [List.forIn_cons,List.forIn_nil]
  refine wpAny_bind (wpAny_bind (wpAny_holding ?_))
  show wpAny _ _ (Builtin.SmallTypes.nextOf (.ref i1) >>= _) _ _ _
  cases hx:xs[k1]? with
  | none =>
   refine wpAny_bind (jcr (b:=b) hh (h1.at' fun o e=>s0.extBut _ o D.i1z e) (hl1.at' fun o e=>s0.extBut _ o D.l1z e) hx fun g2 ex sB he=>?_)
   exact hE g2 ex (fun c o c1 _ c3 _ q=>sB _ _ c3 (s0.extBut _ _ c1 q)) he
  | some x =>
   have hy:ys[k2]? = none:=by rcases hend with h | h; rw [hx] at h; cases h; exact h
   refine wpAny_bind (jd6 (b:=b) (h1.at' fun o e=>s0.extBut _ o D.i1z e) (hl1.at' fun o e=>s0.extBut _ o D.l1z e) hx fun g2 h1B sB=>wpAny_pure ?_)
   refine wpAny_pure ?_
   refine wpAny_bind (wpAny_bind (wpAny_holding ?_))
   show wpAny _ _ (Builtin.SmallTypes.nextOf (.ref i2) >>= _) _ _ _
   refine wpAny_bind (jcr (b:=b) hh (h2.at' fun o e=>sB.extBut _ o D.i12.symm (s0.extBut _ o D.i2z e)) (hl2.at' fun o e=>sB.extBut _ o D.l2i1 (s0.extBut _ o D.l2z e)) hy fun g4 ex sD he=>?_)
   exact hE g4 ex (fun c o c1 _ c3 c4 q=>sD _ _ c4 (sB.extBut _ _ c3 (s0.extBut _ _ c1 q))) he
end
def PZt (H:Hp) (v:V) (p:V × V):Prop:=∃ T,v = .ref T/\H T = some (.tup [p.1,p.2])
def ZSt (z TI TO i1 i2 l1 l2:Addr) (i:Nat) (h:Heap):Prop:=∃ f0 f1,FrV f0/\ZpF h z TI TO f0 f1/\IsPair h TI (.ref i1) (.ref i2)/\(∃ u v,IsPair h TO u v)/\jbz true h i1 l1 i/\jbz true h i2 l2 i
section
variable {X:Cx} {pins:List (Addr × Obj)} {σ:St} {z TI TO i1 i2 l1 l2 S:Addr} {xs ys:List V} {A:Around} {R:Result->Shared->Prop} {res:Value}
theorem jey {α β:Type} {F:α->β->Prop}:∀ {a:List α} {b:List β} {x:α} {y:β},Paired F a b->F x y->Paired F (a ++ [x]) (b ++ [y])
 | _,_,_,_,.nil,h=>.cons h .nil
 | _,_,_,_,.cons r t,h=>.cons r (jey t h)
theorem jiv {α β:Type} {F G:α->β->Prop} (h:∀ x y,F x y->G x y):∀ {a:List α} {b:List β},Paired F a b->Paired G a b
 | _,_,.nil=>.nil
 | _,_,.cons r t=>.cons (h _ _ r) (jiv h t)
theorem jpu (hh:A.in1.handled = none) (D:ZipApart z TI TO i1 i2 l1 l2) (hS:S ∉ [z,TI,TO,i1,i2]) (hS1:S ≠ l1) (hS2:S ≠ l2) (hn:min xs.length ys.length + 1 <= sizeLine) :
  ∀ (k i:Nat) (s:Shared) (H:Hp) (zs:List V),min xs.length ys.length - i = k->i <= min xs.length ys.length->Inv X pins σ H s->(∀ d ∈ [z,TI,TO,i1,i2],FpOk X pins H d)->ZSt z TI TO i1 i2 l1 l2 i s.heap ->
  H l1 = some (.lst xs)->H l2 = some (.lst ys)->H S = some (.lst zs)->Paired (PZt H) zs ((xs.zip ys).take i) ->
  (∀ H' s' zs',Inv X pins σ H' s'->(∀ b o,b ≠ S->H b = some o->H' b = some o)->H' S = some (.lst zs')->Paired (PZt H') zs' (xs.zip ys)->R (.ok (.ret res)) s') ->
  codeAny (model X.prog X.w) A (.builtin "list.extend.loop" ⟨[.ref S,.ref z,res],[]⟩) R s:=by
 intro k
 induction k with
 | zero =>
  intro i s H zs hk hi I hf st e1 e2 eS pz hR
  obtain ⟨f0,f1,fr,hz,hTI,⟨u0,v0,hTO⟩,h1,h2⟩:=st
  obtain ⟨its1,rv1,p1⟩:=I.lstE e1
  obtain ⟨its2,rv2,p2⟩:=I.lstE e2
  have q1:=rv1.length
  have q2:=rv2.length
  have hT:s.TypeIs (.ref z) "zip":=⟨_,hz,rfl⟩
  refine codeAny_builtin PySem.F.entry_extend_loop ?_
  rw [Around.under_plainId PySem.F.plain_extend_loop _]
  show wpAny _ A.in1 (pyNext (.ref z) >>= _) _ _ s
  refine wpAny_bind ?_
  unfold pyNext
  have hend:its1.toArray[i]? = none \/ its2.toArray[i]? = none:=by
   rcases Nat.le_total xs.length ys.length with c | c
   ·left
    rw [Nat.min_eq_left c] at hk hi
    simp
    omega
   ·right
    rw [Nat.min_eq_right c] at hk hi
    simp
    omega
  refine wpAny_bind (wpAny_attempt (wpAny_callSpecial?_slot (name:=Str.ofString "__next__") hT F.slot_zip_next (wpAny_call_entry F.slot_zip_next hT F.entry_zip_next
   (jk7 (b:=true) hh D hz fr hTI hTO h1 h2 p1 p2 hend fun h' e hk' he=>?_) (F.args_zip_next_1 _))))
  obtain ⟨o,ho,hcl⟩:=he
  refine wpAny_bind (wpAny_isInstance (T:="StopIteration") (b:=true) ⟨o,ho,hcl⟩ isSubtype_stop ?_)
  have I':Inv X pins σ H { s with heap:=h' }:=I.turnedAll (ch:=[z,TI,TO,i1,i2]) (t':=s.toks) (fun d ob hd q=>by
   have hd':d ≠ z/\d ≠ TI/\d ≠ TO/\d ≠ i1/\d ≠ i2:=by simpa using hd
   exact hk' d ob hd'.1 hd'.2.2.1 hd'.2.2.2.1 hd'.2.2.2.2 q) hf
  have et:(xs.zip ys).take i = xs.zip ys:=List.take_of_length_le (by rw [List.length_zip]; omega)
  rw [et] at pz
  exact wpAny_pure (wpAny_pure (hR H _ zs I' (fun _ _ _ q=>q) eS pz))
 | succ k ih =>
  intro i s H zs hk hi I hf st e1 e2 eS pz hR
  obtain ⟨f0,f1,fr,hz,hTI,⟨u0,v0,hTO⟩,h1,h2⟩:=st
  obtain ⟨its1,rv1,p1⟩:=I.lstE e1
  obtain ⟨its2,rv2,p2⟩:=I.lstE e2
  have hT:s.TypeIs (.ref z) "zip":=⟨_,hz,rfl⟩
  have hi1:i < xs.length:=by omega
  have hi2:i < ys.length:=by omega
  have hx:xs[i]? = some xs[i]:=gE hi1
  have hy:ys[i]? = some ys[i]:=gE hi2
  generalize xs[i] = x at hx
  generalize ys[i] = y at hy
  obtain ⟨u1,hu1,ru1⟩:=rv1.get hx
  obtain ⟨u2,hu2,ru2⟩:=rv2.get hy
  have zlt:z < s.heap.objs.size:=Heap.lt_size hz
  refine codeAny_builtin PySem.F.entry_extend_loop ?_
  rw [Around.under_plainId PySem.F.plain_extend_loop _]
  show wpAny _ A.in1 (pyNext (.ref z) >>= _) _ _ s
  refine wpAny_bind ?_
  unfold pyNext
  refine wpAny_bind (wpAny_attempt (wpAny_callSpecial?_slot (name:=Str.ofString "__next__") hT F.slot_zip_next (wpAny_call_entry F.slot_zip_next hT F.entry_zip_next
   (jia (b:=true) D hz fr hTI hTO h1 h2 p1 p2 (x:=u1) (y:=u2) (by simpa using hu1) (by simpa using hu2) fun h' g0 g1 fr' a1 a2 a3 a4 a5 a7=>?_) (F.args_zip_next_1 _))))
  have lt:∀ d ∈ [z,TI,TO,i1,i2],d < s.heap.objs.size:=fun d hd=>by
   have q:d = z \/ d = TI \/ d = TO \/ d = i1 \/ d = i2:=by simpa using hd
   rcases q with rfl | rfl | rfl | rfl | rfl
   ·exact zlt
   ·exact Heap.lt_size hTI
   ·exact Heap.lt_size hTO
   ·obtain ⟨o,e,_⟩:=h1.obj; exact Heap.lt_size e
   ·obtain ⟨o,e,_⟩:=h2.obj; exact Heap.lt_size e
  have kk:∀ d ob,d ∉ [z,TI,TO,i1,i2]->s.heap.get? d = some ob->h'.get? d = some ob:=fun d ob hd q=>by
   have hd':d ≠ z/\d ≠ TI/\d ≠ TO/\d ≠ i1/\d ≠ i2:=by simpa using hd
   exact a7 d ob hd'.1 hd'.2.2.1 hd'.2.2.2.1 hd'.2.2.2.2 q
  have fr0:=I.fresh
  have I1:Inv X pins σ (upd H s.heap.objs.size (.tup [x,y])) { s with heap:=h' }:=I.turnedNew (ch:=[z,TI,TO,i1,i2]) (t':=s.toks) (Nat.le_refl _) kk hf ⟨by show 2 <= sizeLine; decide,[u1,u2],.cons ru1 (.cons ru2 .nil),⟨_,a5,rfl,_,rfl⟩⟩
  generalize hT0:s.heap.objs.size = T at I1 fr0 lt a5
  have eS1:upd H T (.tup [x,y]) S = some (.lst zs):=by rw [jae (jaa eS fr0)]; exact eS
  obtain ⟨hzl,itS,n,rvS,hlS,oS⟩:=I1.lstM eS1
  have hzi:zs.length = i:=by
   have:=Paired.length pz
   rw [List.length_take,List.length_zip] at this
   omega
  refine wpAny_pure ?_
  show wpAny _ A.in1 (updateSeq S (fun a=>a.push (.ref T)) >>= _) _ _ _
  refine wpAny_bind (wpAny_updateSeq oS rfl ?_ (by rw [List.size_toArray,<- hlS]; exact hzl) (by simp; omega))
  have rvN:Vals (zs ++ [.ref T]) (itS ++ [.ref T]):=rvS.append (.cons rfl .nil)
  have I2:Inv X pins σ (upd (upd H T (.tup [x,y])) S (.lst (zs ++ [.ref T]))) { s with heap:=h'.update S (Obj.mapSeq fun a=>a.push (.ref T)) }:=I1.lset (t':=s.toks) eS1 oS (by simp) rvN (by rw [List.length_append]; show zs.length + 1 <= _; omega)
  have nS:∀ d ∈ [z,TI,TO,i1,i2],d ≠ S:=fun d hd e=>hS (e ▸ hd)
  have sS:∀ d,d ≠ S->∀ o,h'.get? d = some o->(h'.update S (Obj.mapSeq fun a=>a.push (.ref T))).get? d = some o:=fun d hd o q=>(Heap.get?_update_other _ _ (Ne.symm hd)).trans q
  have keepH:∀ b o,b ≠ S->H b = some o->upd (upd H T (.tup [x,y])) S (.lst (zs ++ [.ref T])) b = some o:=fun b o hb q=>by rw [jae hb,jae (jaa q fr0)]; exact q
  have nTS:T ≠ S:=fun e=>by rw [e,eS] at fr0; cases fr0
  refine wpAny_pure ⟨plainId_quiet PySem.F.plain_extend_loop _,ih (i + 1) _ _ _ (by omega) (by omega) I2 (fun d hd=>?_) ?_ (keepH _ _ hS1.symm e1) (keepH _ _ hS2.symm e2) ja1 ?_ fun H' s' zs' I' kp eS' pz'=>hR H' s' zs' I' (fun b o hb q=>kp b o hb (keepH b o hb q)) eS' pz'⟩
  ·obtain ⟨f1,f2⟩:=hf d hd
   exact ⟨by rw [jae (nS d hd),jae (Nat.ne_of_lt (lt d hd))]; exact f1,f2⟩
  ·obtain ⟨u9,v9,hTO9⟩:=a2
   exact ⟨g0,g1,fr',sS _ (nS z (by simp)) _ a1,sS _ (nS TI (by simp)) _ (a7 _ _ D.TIz D.TITO D.TIi1 D.TIi2 hTI),⟨u9,v9,sS _ (nS TO (by simp)) _ hTO9⟩,a3.at' fun o e=>sS _ (nS i1 (by simp)) o e,a4.at' fun o e=>sS _ (nS i2 (by simp)) o e⟩
  ·rw [jaq (l:=xs.zip ys) (i:=i) (x:=(x,y)) (by rw [List.getElem?_zip_eq_some]; exact ⟨hx,hy⟩)]
   exact jey (jiv (fun v p ⟨t,e,q⟩=>⟨t,e,keepH _ _ (fun z=>by rw [z,eS] at q; cases q) q⟩) pz) ⟨T,rfl,by rw [jae nTS,ja1]⟩
end
section
variable {X:Cx} {pins:List (Addr × Obj)} {σ:St} {H:Hp} {s:Shared} {z TI TO i1 i2 l1 l2:Addr} {xs ys:List V}
theorem jma:typeLookup (.type "zip") (Str.ofString "__len__") = pure none:=by kernel_rfl
theorem jk6:typeLookup (.type "zip") (Str.ofString "__length_hint__") = pure none:=by kernel_rfl
theorem jn4 (hc:X.calm = true) {Q:VK} (I:Inv X pins σ H s) (D:ZipApart z TI TO i1 i2 l1 l2) (hf:∀ d ∈ [z,TI,TO,i1,i2],FpOk X pins H d) (hz:IsZip s.heap z TI TO .none) (hTI:IsPair s.heap TI (.ref i1) (.ref i2)) (hTO:∃ u v,IsPair s.heap TO u v) (h1:s.heap.IsListIter i1 l1 0) (h2:s.heap.IsListIter i2 l2 0)
  (e1:H l1 = some (.lst xs)) (e2:H l2 = some (.lst ys)) (hn:min xs.length ys.length + 1 <= sizeLine)
  (q:∀ S H' zs,H S = none->Same H H'->H' S = some (.lst zs)->Paired (PZt H') zs (xs.zip ys)->Q (.ref S) H') :
  wpAny (model X.prog X.w) X.A (call (.type "list") [.ref z]) (EP X pins σ Q) X.xe s:=by
 refine callType_codes PySem.F.called_list (F.typeCall_list_1 _) PySem.F.entry_list_init (Q₁:=fun obj s₁=>obj = .ref s.heap.objs.size/\s₁ = { s with heap:=s.heap.push { cls:=.type "list",data:=.seq #[] } }) (code_list_new _ ⟨rfl,rfl⟩) ?_
 rintro obj s1 ⟨rfl,rfl⟩
 have fr0:=I.fresh
 have lt:∀ d ∈ [z,TI,TO,i1,i2],d < s.heap.objs.size:=fun d hd=>by
  have q:d = z \/ d = TI \/ d = TO \/ d = i1 \/ d = i2:=by simpa using hd
  rcases q with rfl | rfl | rfl | rfl | rfl
  ·exact Heap.lt_size hz
  ·exact Heap.lt_size hTI
  ·obtain ⟨u,v,h⟩:=hTO; exact Heap.lt_size h
  ·obtain ⟨o,e,_⟩:=h1; exact Heap.lt_size e
  ·obtain ⟨o,e,_⟩:=h2; exact Heap.lt_size e
 have I1:Inv X pins σ (upd H s.heap.objs.size (.lst [])) { s with heap:=s.heap.push { cls:=.type "list",data:=.seq #[] } }:=I.lnew (its:=[]) (t':=s.toks) .nil (Nat.zero_le _)
 have oS:(s.heap.push { cls:=.type "list",data:=.seq #[] }).get? s.heap.objs.size = some { cls:=.type "list",data:=.seq #[] }:=Heap.get?_push_size _ rfl
 have kp:∀ d o,s.heap.get? d = some o->(s.heap.push { cls:=.type "list",data:=.seq #[] }).get? d = some o:=fun d o e=>Heap.get?_push_of_some _ e
 generalize hSS:s.heap.objs.size = S at I1 oS fr0 lt
 generalize s.heap.push { cls:=.type "list",data:=.seq #[] } = g at I1 oS kp
 refine ⟨⟨_,oS,rfl⟩,F.args_list_init_2 _ _,?_⟩
 show wpAny _ _ (Builtin.List.listItems (.ref S) >>= _) _ _ _
 refine wpAny_bind (wpAny_listItems oS rfl ?_)
 show wpAny _ _ (updateSeq S (fun _=>#[]) >>= _) _ _ _
 refine wpAny_bind (wpAny_updateSeq oS rfl ?_ (Nat.zero_le _) (Nat.zero_le _))
 have I2:=I1.lset (t':=s.toks) (ys:=[]) (its':=[]) (f:=fun _=>#[]) ja1 oS rfl .nil (Nat.zero_le _)
 have oS2:=PySem.IsL.update oS (fun _=>#[])
 have kp2:∀ d o,d ≠ S->s.heap.get? d = some o->(g.update S (Obj.mapSeq fun _=>#[])).get? d = some o:=fun d o hd e=>(Heap.get?_update_other _ _ (Ne.symm hd)).trans (kp d o e)
 generalize g.update S (Obj.mapSeq fun _=>#[]) = g2 at I2 oS2 kp2
 refine wpAny_bind (wpAny_letGo ?_)
 have nS:∀ d ∈ [z,TI,TO,i1,i2],d ≠ S:=fun d hd=>Nat.ne_of_lt (lt d hd)
 have hz2:IsZip g2 z TI TO .none:=kp2 _ _ (nS z (by simp)) hz
 have hT2:(Shared.TypeIs { s with heap:=g2 } (.ref z) "zip"):=⟨_,hz2,rfl⟩
 show wpAny _ _ (Builtin.List.listExtendWith (.ref S) (.ref z) .none) _ _ _
 unfold Builtin.List.listExtendWith
 refine wpAny_bind (wpAny_typeOf hT2 ?_)
 have nz:z ≠ S:=nS z (by simp)
 rw [if_neg (by
  have:Builtin.List.listSameRef (.ref S) (.ref z) = false:=by
   show (S == z) = false
   exact beq_eq_false_iff_ne.mpr nz.symm
  rw [this]
  decide)]
 refine wpAny_bind (wpAny_pyIter_zip hz2 ?_)
 refine wpAny_bind (wpAny_holding ?_)
 unfold Builtin.List.listLengthHint
 refine wpAny_bind (wpAny_specialOf hT2 jma ?_)
 show wpAny _ _ (specialOf (.ref z) (Str.ofString "__length_hint__") >>= _) _ _ _
 refine wpAny_bind (wpAny_specialOf hT2 jk6 ?_)
 refine wpAny_pure ?_
 simp only [Bool.true_or,if_true]
 refine wpAny_bind (wpAny_rule ?_)
 refine wpAny_bind ?_
 show wpAny _ _ (updateSeq S (fun a=>a.push .none) >>= fun _=>updateSeq S (fun a=>a.pop)) _ _ _
 refine wpAny_bind (wpAny_updateSeq oS2 rfl ?_ (Nat.zero_le _) (by show 1 <= sizeLine + 1; omega))
 have I3:=I2.lset (t':=s.toks) (ys:=[.non]) (its':=[.none]) (f:=fun a=>a.push .none) ja1 oS2 rfl (.cons rfl .nil) (by show 1 <= sizeLine; decide)
 have oS3:=PySem.IsL.update oS2 (fun a=>a.push .none)
 have kp3:∀ d o,d ≠ S->s.heap.get? d = some o->(g2.update S (Obj.mapSeq fun a=>a.push .none)).get? d = some o:=fun d o hd e=>(Heap.get?_update_other _ _ (Ne.symm hd)).trans (kp2 d o hd e)
 generalize g2.update S (Obj.mapSeq fun a=>a.push .none) = g3 at I3 oS3 kp3
 refine wpAny_updateSeq oS3 rfl ?_ (by show 1 <= sizeLine; decide) (Nat.zero_le _)
 have I4:=I3.lset (t':=s.toks) (ys:=[]) (its:=[.none]) (its':=[]) (f:=fun a=>a.pop) ja1 oS3 rfl .nil (Nat.zero_le _)
 have kp4:∀ d o,d ≠ S->s.heap.get? d = some o->(g3.update S (Obj.mapSeq fun a=>a.pop)).get? d = some o:=fun d o hd e=>(Heap.get?_update_other _ _ (Ne.symm hd)).trans (kp3 d o hd e)
 generalize g3.update S (Obj.mapSeq fun a=>a.pop) = g4 at I4 kp4
 have upH:∀ b o,H b = some o->upd (upd (upd (upd H S (.lst [])) S (.lst [])) S (.lst [.non])) S (.lst []) b = some o:=fun b o e=>by
  have nb:b ≠ S:=jaa e fr0
  rw [jae nb,jae nb,jae nb,jae nb]
  exact e
 have nb1:S ≠ l1:=(jaa e1 fr0).symm
 have nb2:S ≠ l2:=(jaa e2 fr0).symm
 refine wpAny_pure ⟨plainId_quiet PySem.F.plain_extend_loop _,?_⟩
 obtain ⟨u,v,hTO⟩:=hTO
 refine jpu (A:=X.A.in1) (xs:=xs) (ys:=ys) (I.ok.hd hc) D (fun hd=>nS S hd rfl) nb1 nb2 hn (min xs.length ys.length) 0 _ _ [] (Nat.sub_zero _) (Nat.zero_le _) I4 (fun d hd=>?_) ⟨.none,false,.inl rfl,kp4 _ _ nz hz,kp4 _ _ (nS TI (by simp)) hTI,⟨u,v,kp4 _ _ (nS TO (by simp)) hTO⟩,(show jbz true _ _ _ _ from jbz.at' (b:=true) h1 fun o e=>kp4 _ _ (nS i1 (by simp)) e),(show jbz true _ _ _ _ from jbz.at' (b:=true) h2 fun o e=>kp4 _ _ (nS i2 (by simp)) e)⟩ (upH _ _ e1) (upH _ _ e2) ja1 (by rw [List.take_zero]; exact .nil) fun H' s' zs' I' kpH eS' pz'=>?_
 ·obtain ⟨f1,f2⟩:=hf d hd
  have nd:=nS d hd
  exact ⟨by rw [jae nd,jae nd,jae nd,jae nd]; exact f1,f2⟩
 ·exact ⟨rfl,.ref S,H',I',rfl,q S H' zs' fr0 (fun b o e=>kpH b o (jaa e fr0) (upH b o e)) eS' pz'⟩
end
def tLZ (ta:TA):TE:=fun σ H Q=>ta σ H fun vs H1=>∃ l1 l2 xs ys,vs = [.ref l1,.ref l2]/\H1 l1 = some (.lst xs)/\H1 l2 = some (.lst ys)/\xs.length <= 1000/\∀ S H' zs,H1 S = none->Same H1 H'->H' S = some (.lst zs)->Paired (PZt H') zs (xs.zip ys)->Q (.ref S) H'
theorem jmo {X:Cx} (hc:X.calm = true) {a c:Expr} {ta:TA} {p p2 pos pos2:Pos} (hg:Gl X "list") (hm:X.mg "list" = none) (hg2:Gl X "zip") (hm2:X.mg "zip" = none) (ha:PA X [a,c] ta)
  (hs:starEach [a,c] X.env = [(false,eval a X.env),(false,eval c X.env)]:=by rfl) (hs2:starEach [c] X.env = [(false,eval c X.env)]:=by rfl)
  (he:starEach [.Call (.Name "zip" p2) [a,c] [] pos2] X.env = (false,eval (.Call (.Name "zip" p2) [a,c] [] pos2) X.env) :: starEach [] X.env:=by rfl) :
  PE X (.Call (.Name "list" p) [.Call (.Name "zip" p2) [a,c] [] pos2] [] pos) (tLZ ta):=by
 intro pins s σ H Q I h
 refine wpAny_Call_Name_kw (jez I hg hm PyProof.Rows.boot_list ?_ (by decide) (by decide))
 refine PyProof.Rows.callWith_type1 ?_ he rfl
 rw [he]
 show wpAny _ _ (spliced ((false,eval (.Call (.Name "zip" p2) [a,c] [] pos2) X.env) :: backTo pos (starEach [] X.env))) _ _ s
 refine Calls.spliced_cons ?_
 refine wpAny_Call_Name_kw (jez I hg2 hm2 boot_zip ?_ (by decide) (by decide))
 refine PyProof.Rows.callWith_type1 (thn (ha pos2 pins s σ H _ I h) fun us s1 ⟨vs,H1,I1,r1,q1⟩=>?_) (by rw [hs,hs2]) (by rw [hs2]; rfl)
 obtain ⟨l1,l2,xs,ys,e,e1,e2,hl,q⟩:=q1
 subst e
 cases r1 with
 | cons r rr =>
  cases rr with
  | cons r' rr =>
   cases rr
   cases r
   cases r'
   obtain ⟨its1,rv1,p1⟩:=I1.lstE e1
   obtain ⟨its2,rv2,p2⟩:=I1.lstE e2
   refine jsm (b:=true) p1 p2 fun h' a1 a2 a3 a4 a5 hk=>?_
   refine Calls.spliced_nil ?_
   have I2:Inv X pins σ H1 { s1 with heap:=h' }:=I1.kept (t':=s1.toks) fun b o q=>hk b o q
   have ne:∀ i j:Nat,i ≠ j->s1.heap.objs.size + i ≠ s1.heap.objs.size + j:=fun i j h e=>h (Nat.add_left_cancel e)
   have lt1:∀ i,l1 ≠ s1.heap.objs.size + i:=fun i=>by
    obtain ⟨o,e,_⟩:=p1
    exact Nat.ne_of_lt (Nat.lt_of_lt_of_le (Heap.lt_size e) (Nat.le_add_right _ _))
   have lt2:∀ i,l2 ≠ s1.heap.objs.size + i:=fun i=>by
    obtain ⟨o,e,_⟩:=p2
    exact Nat.ne_of_lt (Nat.lt_of_lt_of_le (Heap.lt_size e) (Nat.le_add_right _ _))
   have D:ZipApart (s1.heap.objs.size + 4) (s1.heap.objs.size + 2) (s1.heap.objs.size + 3) s1.heap.objs.size (s1.heap.objs.size + 1) l1 l2 :=
    ⟨ne 2 4 (by decide),ne 3 4 (by decide),ne 0 4 (by decide),ne 1 4 (by decide),ne 2 3 (by decide),ne 2 0 (by decide),ne 2 1 (by decide),ne 3 0 (by decide),ne 3 1 (by decide),ne 0 1 (by decide),lt1 4,lt1 3,lt1 0,lt1 1,lt2 4,lt2 3,lt2 0,lt2 1⟩
   refine jn4 hc I2 D (fun d hd=>?_) a1 a2 ⟨_,_,a3⟩ a4 a5 e1 e2 ?_ q
   ·have hd':d = s1.heap.objs.size + 4 \/ d = s1.heap.objs.size + 2 \/ d = s1.heap.objs.size + 3 \/ d = s1.heap.objs.size \/ d = s1.heap.objs.size + 1:=by simpa using hd
    have hle:s1.heap.objs.size <= d:=by
     rcases hd' with e | e | e | e | e <;> rw [e]
     ·exact Nat.le_add_right _ _
     ·exact Nat.le_add_right _ _
     ·exact Nat.le_add_right _ _
     ·exact Nat.le_refl _
     ·exact Nat.le_add_right _ _
    exact I1.fpOk hle (I1.hok.fresh hle)
   ·have:min xs.length ys.length <= xs.length:=Nat.min_le_left _ _
    exact Nat.le_trans (show min xs.length ys.length + 1 <= 1001 by omega) (by decide)
end L2
namespace My
open PySem L2
section
variable {P:Program} {w:World} {K:PySem.W.Frag} {mg:Str->Option Value} {base:Heap} {c1 c2 c3 c4:Tok} {C_NoWeb fqq:Addr} {dI:FuncData}
def mn (a b:Int):Int:=if b < a then b else a
def mx (a b:Int):Int:=if b > a then b else a
def jbe (a b:Int):Int × Int:=(mn a b,mx a b)
def jr6:Sp:=fun vs H Q _=>∃ a b,vs = [.int a,.int b]/\∀ t,H t = none->Q (.ref t) (upd H t (.tup [.int (jbe a b).1,.int (jbe a b).2]))
def jre:Sp:=fun vs H Q _=>∃ (st:Addr) (o:HO) (l:Addr) (ms:List Int),vs = [.ref st,.ref l]/\H st = some o/\StO o/\H l = some (.lst (ms.map V.int))/\ms ≠ []/\(∀ m ∈ ms,1 <= m)/\∀ x H' o',x <= ms.sum->But st H H'->H' st = some o'->StO o'->Q (.int x) H'
theorem jgx {ms:List Int} (h:∀ m ∈ ms,1 <= m) {m:Int} (hm:m ∈ ms):1 <= m/\m <= ms.sum:=(jeq (List.Sublist.refl ms) h).2.2 m hm
theorem jpv {ts:List (Int × Int)} {ns:List Int} (lt:∀ t ∈ ts,t.1 < t.2):jha ts ns = ts.any fun t=>decide (t.1 ∈ ns) && decide (t.2 ∈ ns):=by
 rw [Bool.eq_iff_iff]
 unfold jha
 simp only [List.any_eq_true,Bool.and_eq_true,decide_eq_true_eq]
 constructor
 ·rintro ⟨a,ha,b,hb,q⟩
  rcases (jce lt).mp q with q | q
  ·exact ⟨_,q,ha,hb⟩
  ·exact ⟨_,q,hb,ha⟩
 ·rintro ⟨t,ht,h1,h2⟩
  exact ⟨t.1,h1,t.2,h2,(jce lt).mpr (.inl ht)⟩
theorem jej {xs:List V} {k:Int} (h0:0 <= k):cutV xs (some k) none = xs.drop k.toNat:=by
 unfold cutV HT.sIx
 dsimp only
 rw [if_neg (by omega)]
 by_cases c:k.toNat <= xs.length
 ·rw [Nat.min_eq_left c,List.take_of_length_le (by rw [List.length_drop]; omega)]
 ·rw [Nat.min_eq_right (by omega),List.drop_eq_nil_of_le (Nat.le_refl _),List.drop_eq_nil_of_le (by omega)]
  simp
theorem ji2 {xs:List V} {k:Int} (h0:0 <= k):cutV xs none (some k) = xs.take k.toNat:=by
 unfold cutV HT.sIx
 dsimp only
 rw [List.drop_zero,if_neg (by omega),Nat.sub_zero]
 by_cases c:k.toNat <= xs.length
 ·rw [Nat.min_eq_left c]
 ·rw [Nat.min_eq_right (by omega),List.take_length,List.take_of_length_le (by omega)]
theorem jm8 {x:V} {xs:List V} {k:Int} (h0:0 <= k) (h1:k <= xs.length):cutV (x :: xs) (some 1) (some (k + 1)) = xs.take k.toNat:=by
 unfold cutV HT.sIx
 dsimp only
 rw [if_neg (by omega),if_neg (by omega),List.length_cons]
 rw [show min (1:Int).toNat (xs.length + 1) = 1 by simp,show min (k + 1).toNat (xs.length + 1) = k.toNat + 1 by omega]
 rfl
theorem jqo {x:V} {xs:List V} {k:Int} (h0:0 <= k):cutV (x :: xs) (some (k + 1)) none = xs.drop k.toNat:=by
 rw [jej (by omega),show (k + 1).toNat = k.toNat + 1 by omega]
 rfl
theorem jfh {a b c d:Int} (h:jbe a b = jbe c d):(a = c/\b = d) \/ (a = d/\b = c):=by
 unfold jbe mn mx at h
 injection h with h1 h2
 split at h1 <;> split at h1 <;> split at h2 <;> split at h2 <;> omega
theorem jpw {a b:Int} (h:a ≠ b):(jbe a b).1 < (jbe a b).2/\((jbe a b).1 = a \/ (jbe a b).1 = b)/\((jbe a b).2 = a \/ (jbe a b).2 = b):=by
 unfold jbe mn mx
 dsimp only
 split <;> split <;> omega
theorem PlOk.of:∀ {qs:List (Int × Int)} {l s:Int},(∀ q ∈ qs,l < q.1/\q.1 <= 999/\1 <= q.2)->(qs.map (·.1)).Pairwise (· < ·)->s + sumP qs <= 1000000000000->PlOk l s qs
 | [],_,_,_,_,_=>trivial
 | p :: r,l,s,h1,h2,h3=>by
  rw [List.map_cons,List.pairwise_cons] at h2
  rw [jb1] at h3
  have g:=h1 p (List.mem_cons_self ..)
  have g2:=jep (ps:=r) fun z hz=>(h1 z (List.mem_cons_of_mem _ hz)).2.2
  exact ⟨⟨g.1,g.2.1,g.2.2,by omega⟩,PlOk.of (fun q hq=>⟨h2.1 _ (List.mem_map_of_mem hq),(h1 q (List.mem_cons_of_mem _ hq)).2⟩) h2.2 (by omega)⟩
theorem jqe {qs:List (Int × Int)} (h:qs.Pairwise jee) (nd:(qs.map (·.1)).Nodup):(qs.map (·.1)).Pairwise (· < ·):=by
 induction qs with
 | nil=>exact List.Pairwise.nil
 | cons p r ih =>
  rw [List.pairwise_cons] at h
  rw [List.map_cons,List.nodup_cons] at nd
  rw [List.map_cons,List.pairwise_cons]
  refine ⟨fun n hn=>?_,ih h.2 nd.2⟩
  obtain ⟨q,hq,rfl⟩:=List.mem_map.mp hn
  have:=h.1 q hq
  unfold jee at this
  have ne:p.1 ≠ q.1:=fun e=>nd.1 (by rw [e]; exact List.mem_map_of_mem hq)
  omega
theorem jn8 {H:Hp}:∀ {zs:List V} {as bs:List Int},Paired (PZt H) zs ((as.map V.int).zip (bs.map V.int))->Prs H zs (as.zip bs)
 | _,[],_,h=>by cases h; exact .nil
 | _,_ :: _,[],h=>by cases h; exact .nil
 | _,a :: as,b :: bs,h=>by
  cases h with
  | cons r t=>exact .cons r (jn8 t)
theorem jlf:∀ {as bs:List Int},as.length = bs.length->(as.zip bs).map (·.1) = as/\sumP (as.zip bs) = bs.sum/\∀ q ∈ as.zip bs,q.1 ∈ as/\q.2 ∈ bs
 | [],[],_=>⟨rfl,rfl,fun q hq=>(by cases hq)⟩
 | [],_ :: _,h=>by cases h
 | _ :: _,[],h=>by cases h
 | a :: as,b :: bs,h=>by
  obtain ⟨h1,h2,h3⟩:=jlf (as:=as) (bs:=bs) (by simpa using h)
  refine ⟨?_,?_,fun q hq=>?_⟩
  ·show a :: (as.zip bs).map (·.1) = a :: as
   rw [h1]
  ·show sumP ((a,b) :: as.zip bs) = _
   rw [jb1,h2,List.sum_cons]
  ·rcases List.mem_cons.mp hq with e | hq
   ·rw [e]; exact ⟨List.mem_cons_self ..,List.mem_cons_self ..⟩
   ·exact ⟨List.mem_cons_of_mem _ (h3 q hq).1,List.mem_cons_of_mem _ (h3 q hq).2⟩
theorem jin {a b:List (Int × Int)} (h:a.Perm b):sumP a = sumP b:=by
 induction h with
 | nil=>rfl
 | cons x _ ih=>rw [jb1,jb1,ih]
 | swap x y l=>rw [jb1,jb1,jb1,jb1]; omega
 | trans _ _ h1 h2=>rw [h1,h2]
theorem je3 {α β:Type} {F:α->β->Prop}:∀ (k:Nat) {a:List α} {b:List β},Paired F a b->Paired F (a.drop k) (b.drop k)
 | 0,_,_,h=>h
 | k + 1,_,_,.nil=>by simp; exact .nil
 | k + 1,_,_,.cons r t=>je3 k t
theorem jdf {α β:Type} {F:α->β->Prop}:∀ (k:Nat) {a:List α} {b:List β},Paired F a b->Paired F (a.take k) (b.take k)
 | 0,_,_,h=>by simp; exact .nil
 | k + 1,_,_,.nil=>by simp; exact .nil
 | k + 1,_,_,.cons r t=>.cons r (jdf k t)
theorem List.nodup_iff_not_mem_take {l:List Int} {i:Nat} {x:Int} (nd:l.Nodup) (h:l[i]? = some x):x ∉ l.take i:=fun m=>by
 obtain ⟨j,hj⟩:=List.getElem?_of_mem m
 have hji:j < i:=by
  have:=(List.getElem?_eq_some_iff.mp hj).1
  rw [List.length_take] at this
  omega
 rw [List.getElem?_take,if_pos hji] at hj
 exact jdw nd hj h (by omega) rfl
def jr7:Sp:=fun vs H Q _=>∃ st o m,vs = [.ref st,.int m]/\H st = some o/\StO o/\1 <= m/\m <= 6 /\
 ∀ v H' o' ps ts,But st H H'->H' st = some o'->StO o'->jbg H' v ps ts->WebOk ps ts->ps.length <= 8->ts.length <= 16->Q v H'
theorem jmr (B:Blt mg) (D:DefAt K mg "_law_tie" (top 73) ["_law_one","_law_other"] f fd):FnOk P w K mg base CX0 1 f fd ["_law_one","_law_other"] jr6:=by
 have sc:FnScope ["_law_one","_law_other"] ["_law_one","_law_other"] (jab (top 73)):=by walk_at "SC"
 refine D.F.ok sc (fun vs H Q E h=>?_) (fun cdv A outer s H vs Q E hr h=>?_)
 ·obtain ⟨a,b,rfl,_⟩:=h
  rfl
 obtain ⟨a,b,rfl,h⟩:=h
 have hu:=jb8 hr
 have hu0:_ < PySem.cLine:=Nat.lt_of_succ_lt hu
 refine ⟨_,(ja7 (jah (jb4 (ja0 (jaf (jqa rfl) rfl B.min PyProof.Rows.boot_min (ja0 (qv 0) (ja0 (qv 1) ja3))) (ja0 (jaf (jml rfl) rfl B.max PyProof.Rows.boot_max (ja0 (qv 0) (ja0 (qv 1) ja3))) ja3))))),?_⟩
 walk_at "RD"
 exact h
theorem jkn (B:Blt mg) (D:DefAt K mg "_law_edge" (top 74) ["_law_state","_law_prices_here"] f fd) (Dqa:DefAt K mg "_law_take" (top 67) ["_law_state","_law_many"] fqa dqa) (Gqa:FnOk P w K mg base CX0 1 fqa dqa ["_law_state","_law_many"] jdm):FnOk P w K mg base CX0 2 f fd ["_law_state","_law_prices_here"] jre:=by
 have sc:FnScope ["_law_state","_law_prices_here","_law_low"] ["_law_state","_law_prices_here"] (jab (top 74)):=by walk_at "SC"
 refine D.F.ok sc (fun vs H Q E h=>?_) (fun cdv A outer s H vs Q E hr h=>?_)
 ·obtain ⟨st,o,l,ms,rfl,_⟩:=h
  rfl
 obtain ⟨st,o,l,ms,rfl,es,so,el,hne,hpos,h⟩:=h
 have hu:=jb8 hr
 have hu0:_ < PySem.cLine:=Nat.lt_of_succ_lt hu
 refine ⟨_,(ja4 (jak (i:=2) sc.nd rfl (Or.inl rfl) (jay jdp (jaf (jhh rfl) rfl B.sum PyProof.Rows.boot_sum (ja0 (qv 1) ja3)) (jaf (jel rfl) rfl B.min PyProof.Rows.boot_min (ja0 (qv 1) ja3)))) (ja7 (jah (jam q_ix (jb6 (ja0 (jay jdp (qv 2) ja5) (ja0 (qv 2) (ja0 (jay jdp (jaf (jhh rfl) rfl B.sum PyProof.Rows.boot_sum (ja0 (qv 1) ja3)) ja5) (ja0 (jaf (jhh rfl) rfl B.sum PyProof.Rows.boot_sum (ja0 (qv 1) ja3)) (ja0 (jay jcc (qv 2) (jay jo9 (jay jdp (jaf (jhh rfl) rfl B.sum PyProof.Rows.boot_sum (ja0 (qv 1) ja3)) (qv 2)) ja5)) ja3)))))) (ja8 Gqa (hr.mono (by decide)) rfl Dqa.m Dqa.F.kp Dqa.b .nil jan (ja0 (qv 0) (ja0 ja5 ja3))) (fun _ _=>rfl))))),?_⟩
 have nl:l ≠ st:=fun z=>by
  obtain ⟨c,s,f,rfl,_⟩:=so
  rw [z,es] at el
  injection el with el
  injection el with el
  match ms,el with
  | [_,_,_],el=>simp at el
 refine ja6 fun R hR=>?_
 walk_at "RD"
 refine ⟨l,ms,rfl,el,?_⟩
 refine ⟨l,ms,rfl,el,hne,fun m hm1 hm2=>?_⟩
 obtain ⟨q1,q2⟩:=jgx hpos hm1
 walk_at "RD"
 subst hR
 walk_at "RD"
 refine ⟨l,ms,rfl,el,?_⟩
 walk_at "RD"
 refine ⟨l,ms,rfl,el,?_⟩
 walk_at "RD"
 refine ⟨l,ms,rfl,el,?_⟩
 walk_at "RD"
 refine ⟨⟨by decide,by decide⟩,?_⟩
 refine ⟨by decide,?_⟩
 intro L hL
 have s1:=ja2 hL (.lst [.int (ms.sum - m - 1),.int (ms.sum - m),.int (ms.sum - 1),.int ms.sum,.int (ms.sum - m + (ms.sum - (ms.sum - m)) / 2)])
 have eL:upd H L (.lst [.int (ms.sum - m - 1),.int (ms.sum - m),.int (ms.sum - 1),.int ms.sum,.int (ms.sum - m + (ms.sum - (ms.sum - m)) / 2)]) L = some (.lst [.int (ms.sum - m - 1),.int (ms.sum - m),.int (ms.sum - 1),.int ms.sum,.int (ms.sum - m + (ms.sum - (ms.sum - m)) / 2)]):=ja1
 have nL:L ≠ st:=(jaa es hL).symm
 generalize upd H L (.lst [.int (ms.sum - m - 1),.int (ms.sum - m),.int (ms.sum - 1),.int ms.sum,.int (ms.sum - m + (ms.sum - (ms.sum - m)) / 2)]) = H1 at s1 eL
 refine ⟨st,o,5,rfl,s1 _ _ es,so,by decide,by decide,fun d o2 d0 d1 so2=>?_⟩
 have b2:But st H (upd H1 st o2):=fun b u nb q=>by rw [jae nb]; exact s1 _ _ q
 have e2:upd H1 st o2 st = some o2:=ja1
 have eL2:=But.at st H1 o2 _ _ nL eL
 generalize upd H1 st o2 = H2 at b2 e2 eL2
 obtain ⟨x,hx,hx2⟩:∃ x:Int,atI [V.int (ms.sum - m - 1),.int (ms.sum - m),.int (ms.sum - 1),.int ms.sum,.int (ms.sum - m + (ms.sum - (ms.sum - m)) / 2)] d = some (.int x)/\x <= ms.sum:=by
  have:d = 0 \/ d = 1 \/ d = 2 \/ d = 3 \/ d = 4:=by omega
  rcases this with rfl | rfl | rfl | rfl | rfl
  ·exact ⟨_,rfl,by omega⟩
  ·exact ⟨_,rfl,by omega⟩
  ·exact ⟨_,rfl,by omega⟩
  ·exact ⟨_,rfl,by omega⟩
  ·exact ⟨_,rfl,by omega⟩
 simp_arith [jai,eL2,hx]
 exact h x H2 o2 hx2 b2 e2 so2
theorem jki (B:Blt mg) (D:DefAt K mg "_law_star" (top 75) ["_law_state","_law_most"] f fd) (Dqa:DefAt K mg "_law_take" (top 67) ["_law_state","_law_many"] fqa dqa) (Gqa:FnOk P w K mg base CX0 1 fqa dqa ["_law_state","_law_many"] jdm) (Dql:DefAt K mg "_law_places" (top 68) ["_law_state","_law_count"] fql dql) (Gql:FnOk P w K mg base CX0 2 fql dql ["_law_state","_law_count"] jhd) (Dq9:DefAt K mg "_law_edge" (top 74) ["_law_state","_law_prices_here"] fq9 dq9) (Gq9:FnOk P w K mg base CX0 2 fq9 dq9 ["_law_state","_law_prices_here"] jre) (Dqp:DefAt K mg "_law_tie" (top 73) ["_law_one","_law_other"] fqp dqp) (Gqp:FnOk P w K mg base CX0 1 fqp dqp ["_law_one","_law_other"] jr6):FnOk P w K mg base CX0 4 f fd ["_law_state","_law_most"] jr7:=by
 have sc:FnScope ["_law_state","_law_most","_law_leaves","_law_places_here","_law_turn","_law_names","_law_costs","_law_ties","_law_far","_law_one","_law_at"] ["_law_state","_law_most"] (jab (top 75)):=by walk_at "SC"
 refine D.F.ok sc (fun vs H Q E h=>?_) (fun cdv A outer s H vs Q E hr h=>?_)
 ·obtain ⟨st,o,m,rfl,_⟩:=h
  rfl
 obtain ⟨st,o,m,rfl,es,so,m0,m1,h⟩:=h
 have hu:=jb8 hr
 have hu0:_ < PySem.cLine:=Nat.lt_of_succ_lt hu
 refine ⟨_,(ja4 (jak (i:=2) sc.nd rfl (Or.inl rfl) (ja8 Gqa (hr.mono (by decide)) rfl Dqa.m Dqa.F.kp Dqa.b .nil jan (ja0 (qv 0) (ja0 (qv 1) ja3)))) (ja4 (jak (i:=3) sc.nd rfl (Or.inl rfl) (ja8 Gql (hr.mono (by decide)) rfl Dql.m Dql.F.kp Dql.b .nil jan (ja0 (qv 0) (ja0 (jay jcc (jay jcc ja5 (qv 2)) (ja8 Gqa (hr.mono (by decide)) rfl Dqa.m Dqa.F.kp Dqa.b .nil jan (ja0 (qv 0) (ja0 ja5 ja3)))) ja3)))) (ja4 (jak (i:=4) sc.nd rfl (Or.inl rfl) (ja8 Gqa (hr.mono (by decide)) rfl Dqa.m Dqa.F.kp Dqa.b .nil jan (ja0 (qv 0) (ja0 (jaf jdl rfl B.len PySem.boot_len (ja0 (qv 3) ja3)) ja3)))) (ja4 (jak (i:=5) sc.nd rfl (Or.inr rfl) (jbb (CpScope.of (N:=["_law_place","_law_price"]) (src:=[none,none]) (by rfl)) rfl (jau (jay jcv (jc3 jf3 (qv 3) (jc4 (qv 4)) jd2) (jc3 jf3 (qv 3) jd2 (jc4 (qv 4))))) (fun _ _ _ _=>(jc9 (n:=2) rfl (jat (jad (i:=0) (jac (l:=["_law_place","_law_price"]) (by rfl)) rfl (Or.inl rfl)) (jat (jad (i:=1) (jac (l:=["_law_place","_law_price"]) (by rfl)) rfl (Or.inl rfl)) jbr)))) (fun _ _ _ _=>jbj) (fun _ _ _ _=>(qv 0)))) (ja4 (jco (i:=6) sc.nd rfl (Or.inl rfl) (CpScope.of (N:=["_law_place","_law_price"]) (src:=[none,none]) (by rfl)) rfl (jau (jay jcv (jc3 jf3 (qv 3) (jc4 (qv 4)) jd2) (jc3 jf3 (qv 3) jd2 (jc4 (qv 4))))) (fun _ _ _ _=>(jc9 (n:=2) rfl (jat (jad (i:=0) (jac (l:=["_law_place","_law_price"]) (by rfl)) rfl (Or.inl rfl)) (jat (jad (i:=1) (jac (l:=["_law_place","_law_price"]) (by rfl)) rfl (Or.inl rfl)) jbr)))) (fun _ _ _ _=>jbj) (fun _ _ _ _=>(qv 1))) (ja4 (jb3 (PW.pt (jcm (jal q_gt (qv 2) ja5 (jag _)) (jc0 (jal q_gt (ja8 Gqa (hr.mono (by decide)) rfl Dqa.m Dqa.F.kp Dqa.b .nil jan (ja0 (qv 0) (ja0 ja5 ja3))) ja5 (jag _))))) (ja7 (jfq (jaf (jml rfl) rfl B.max PyProof.Rows.boot_max (ja0 ja5 (ja0 (ja8 Gq9 (hr.mono (by decide)) rfl Dq9.m Dq9.F.kp Dq9.b .nil jan (ja0 (qv 0) (ja0 (jc3 jf3 (qv 6) (jc4 ja5) (jc4 (jay jcc (qv 2) ja5))) ja3))) ja3))) (jgt (qv 6) ja5 jgs))) jaj) (ja4 (jco (i:=7) sc.nd rfl (Or.inl rfl) (CpScope.of (N:=["_law_one","_law_names"]) (src:=[none,some 5]) (by rfl)) rfl (jau (jc3 jf3 (qv 5) (jc4 ja5) (jc4 (jay jcc (qv 2) ja5)))) (fun _ _ _ _=>(jad (i:=0) (jac (l:=["_law_one","_law_names"]) (by rfl)) rfl (Or.inl rfl))) (fun _ _ _ _=>jbj) (fun _ _ _ _=>(ja8 Gqp (hr.mono (by decide)) rfl Dqp.m Dqp.F.kp Dqp.b .nil jan (ja0 (jam q_ix (qv 1) ja5 (fun _ _=>rfl)) (ja0 (qv 0) ja3))))) (ja4 (jc5 PassesOwn.never rfl (jau (jc3 jf3 (qv 5) (jc4 (jay jcc (qv 2) ja5)) jd2)) (jad (i:=8) sc.nd rfl (Or.inl rfl)) (ja7 (jc5 PassesOwn.never rfl (jau (jc3 jf3 (qv 5) (jc4 ja5) (jc4 (jay jcc (qv 2) ja5)))) (jad (i:=9) sc.nd rfl (Or.inl rfl)) (ja7 (jb3 (jal q_eq (ja8 Gqa (hr.mono (by decide)) rfl Dqa.m Dqa.F.kp Dqa.b .nil jan (ja0 (qv 0) (ja0 ja5 ja3))) ja5 (jag _)) (ja7 (jc7 (q_bm PySem.F.plainAttrs_list PySem.F.slot_list_append PySem.F.type_list_append jdb (qv 7) (ja0 (ja8 Gqp (hr.mono (by decide)) rfl Dqp.m Dqp.F.kp Dqp.b .nil jan (ja0 (qv 8) (ja0 (qv 9) ja3))) ja3)))) jaj))))) (ja4 (jb3 (PW.pt (jcm (jal q_gt (qv 2) ja5 (jag _)) (jc0 (jal q_eq (ja8 Gqa (hr.mono (by decide)) rfl Dqa.m Dqa.F.kp Dqa.b .nil jan (ja0 (qv 0) (ja0 ja5 ja3))) ja5 (jag _))))) (ja4 (jak (i:=10) sc.nd rfl (Or.inl rfl) (ja8 Gqa (hr.mono (by decide)) rfl Dqa.m Dqa.F.kp Dqa.b .nil jan (ja0 (qv 0) (ja0 (jay jdp (qv 2) ja5) ja3)))) (ja7 (jc7 (q_bm PySem.F.plainAttrs_list PySem.F.slot_list_append PySem.F.type_list_append jdb (qv 7) (ja0 (ja8 Gqp (hr.mono (by decide)) rfl Dqp.m Dqp.F.kp Dqp.b .nil jan (ja0 (jam q_ix (qv 5) (jay jcc ja5 (qv 10)) (fun _ _=>rfl)) (ja0 (jam q_ix (qv 5) (jay jcc ja5 (qv 10)) (fun _ _=>rfl)) ja3))) ja3))))) jaj) (ja7 (jah (jb4 (ja0 (jaf jd9 rfl B.sorted PyProof.Rows.boot_sorted (ja0 (jmo rfl rfl B.list rfl B.zip (ja0 (qv 5) (ja0 (qv 6) ja3))) ja3)) (ja0 (jaf jd9 rfl B.sorted PyProof.Rows.boot_sorted (ja0 (qv 7) ja3)) ja3)))))))))))))),?_⟩
 refine ja6 fun R hR=>?_
 walk_at "RD"
 refine ⟨st,o,m,rfl,es,so,by omega,by omega,fun lv o1 lv0 lv1 so1=>?_⟩
 have b1:=But.at st H o1
 have e1:upd H st o1 st = some o1:=ja1
 generalize upd H st o1 = H1 at b1 e1
 walk_at "RD"
 subst hR
 refine ja6 fun R hR=>?_
 walk_at "RD"
 refine ⟨st,o1,3,rfl,e1,so1,by decide,by decide,fun d3 o2 d30 d31 so2=>?_⟩
 have b2:=b1.trans (But.at st H1 o2)
 have e2:upd H1 st o2 st = some o2:=ja1
 generalize upd H1 st o2 = H2 at b2 e2
 walk_at "RD"
 refine ⟨st,o2,1 + lv + d3,rfl,e2,so2,by omega,by omega,fun r HA oA xs ps hr0 bA eA soA er pp hlen dr=>?_⟩
 have bHA:=b2.trans bA
 have nr:r ≠ st:=fun z=>by rw [z,e2] at hr0; cases hr0
 have hlx:xs.length = ps.length:=Paired.length pp
 walk_at "RD"
 subst hR
 refine ja6 fun R hR=>?_
 simp_arith [jai,er]
 refine ⟨st,oA,(xs.length:Int),rfl,eA,soA,by omega,by omega,fun tn oC tn0 tn1 soC=>?_⟩
 have bC:=bHA.trans (But.at st HA oC)
 have eC:upd HA st oC st = some oC:=ja1
 have erC:=But.at st HA oC _ _ nr er
 have ppC:Prs (upd HA st oC) xs ps:=Prs.tups ((But.at st HA oC).tups eA soA.imm) pp
 generalize upd HA st oC = HC at bC eC erC ppC
 clear bHA bA eA er pp b2 b1 e1 e2 hr0
 obtain ⟨rot,hrot⟩:∃ rot,rot = ps.drop tn.toNat ++ ps.take tn.toNat:=⟨_,rfl⟩
 have ppr:Prs HC (xs.drop tn.toNat ++ xs.take tn.toNat) rot:=by
  rw [hrot]
  exact jbx (je3 _ ppC) (jdf _ ppC)
 have hlr:(xs.drop tn.toNat ++ xs.take tn.toNat).length = rot.length:=Paired.length ppr
 have hrp:rot.Perm ps:=by
  rw [hrot]
  exact List.perm_append_comm.trans (by rw [List.take_append_drop])
 have hrl:rot.length = ps.length:=hrp.length_eq
 have plok:=dr.pl (s:=0) (by omega) (by omega)
 have pos:=plok.pos
 obtain ⟨drl,drs⟩:=dr.le
 have rnd:(rot.map (·.1)).Nodup:=((hrp.map (·.1)).nodup_iff).mpr plok.nodup
 have rk:∀ n ∈ rot.map (·.1),-1 < n/\n <= 999:=fun n hn=>by
  obtain ⟨p,hp,rfl⟩:=List.mem_map.mp hn
  have hp:=hrp.mem_iff.mp hp
  exact ⟨plok.gt p hp,(pos p hp).2⟩
 have rc1:∀ c ∈ rot.map (·.2),1 <= c:=fun c hc=>by
  obtain ⟨p,hp,rfl⟩:=List.mem_map.mp hc
  exact (pos p (hrp.mem_iff.mp hp)).1
 have rcs:(rot.map (·.2)).sum <= 40000000000:=by
  have:(rot.map (·.2)).sum = sumP ps:=jin hrp
  omega
 walk_at "RD"
 subst hR
 refine ja6 fun R hR=>?_
 refine jc6 (ι:=Addr × Hp) (fun j=>Itl K j.1) (fun j=>j.2) (fun j=>Same HC j.2/\j.2 j.1 = some (.lst (xs.drop tn.toNat ++ xs.take tn.toNat))) (fun R' hR'=>?_) (fun j0 ok0 nl hz=>?_)
 ·unfold jbd
  simp_arith [erC]
  intro p1 hp1
  have q1:=ja2 hp1 (.lst (cutV xs (some tn) none))
  have f1:upd HC p1 (.lst (cutV xs (some tn) none)) p1 = some (.lst (cutV xs (some tn) none)):=ja1
  generalize upd HC p1 (.lst (cutV xs (some tn) none)) = Hp at q1 f1
  have erp:=q1 _ _ erC
  simp only [erp]
  intro p2 hp2
  have q2:=ja2 hp2 (.lst (cutV xs none (some tn)))
  have f2:upd Hp p2 (.lst (cutV xs none (some tn))) p2 = some (.lst (cutV xs none (some tn))):=ja1
  generalize upd Hp p2 (.lst (cutV xs none (some tn))) = Hq at q2 f2
  have f1q:=q2 _ _ f1
  simp only [f1q,f2]
  rw [jej tn0,ji2 tn0]
  refine ⟨szl (by rw [List.length_drop,List.length_take]; omega),?_⟩
  intro p3 hp3
  exact ⟨p3,rfl,⟨_,SqL.of ja1⟩,hR' (p3,_) ⟨q1.trans (q2.trans (ja2 hp3 _)),ja1⟩⟩
 obtain ⟨rl,HD⟩:=j0
 obtain ⟨sD,erl⟩:=ok0
 dsimp only at sD erl hz
 have ppD:Prs HD (xs.drop tn.toNat ++ xs.take tn.toNat) rot:=Prs.same sD ppr
 refine jaw rot.length (fun i σ' Hc=>∃ w1 w2,σ' = [w1,w2]/\Same HD Hc/\Hc nl = some (.lst (((rot.take i).map (·.1)).map V.int))) ⟨none,none,rfl,ja2 hz _,ja1⟩ ?_ ?_
 ·rintro i σ' Hc hi ⟨w1,w2,rfl,s4,ez⟩
  have z1:SqL K Hc rl (xs.drop tn.toNat ++ xs.take tn.toNat):=SqL.of (s4 _ _ erl)
  have x1:(xs.drop tn.toNat ++ xs.take tn.toNat)[i]? = some ((xs.drop tn.toNat ++ xs.take tn.toNat)[i]'(by rw [hlr]; omega)):=gE _
  refine ⟨⟨_,_,z1,x1⟩,?_⟩
  rintro y H' ⟨rfl,hy⟩
  obtain ⟨q,hq,pq⟩:=jas ppD (hy _ z1)
  obtain ⟨t,rfl,ht⟩:=pq.same s4
  simp_arith [ht]
  refine ⟨_,ez,?_,_,_,rfl,jao s4 hz,?_⟩
  ·rw [List.length_map,List.length_map,List.length_take]
   exact szl' (by omega)
  ·rw [ja1,jaq hq,List.map_append,List.map_append]
   rfl
 rintro σ' HE ⟨w1,w2,rfl,sE,ez⟩
 refine ⟨⟨_,SqL.of (sE _ _ erl),by rw [hlr]; exact Nat.le_refl _⟩,?_⟩
 rw [List.take_length] at ez
 have sCE:=sD.trans sE
 have enl:=ez
 have nnl:nl ≠ st:=fun z=>by rw [z,sD _ _ eC] at hz; cases hz
 have bE:But st H HE:=fun b u nb q=>sCE _ _ (bC _ _ nb q)
 have eE:=sCE _ _ eC
 have erE:=sCE _ _ erC
 have pprE:=Prs.same sCE ppr
 clear sD sE ez erl ppD hz bC eC erC ppC ppr sCE
 walk_at "RD"
 subst hR
 refine ja6 fun R hR=>?_
 refine jc6 (ι:=Addr × Hp) (fun j=>Itl K j.1) (fun j=>j.2) (fun j=>Same HE j.2/\j.2 j.1 = some (.lst (xs.drop tn.toNat ++ xs.take tn.toNat))) (fun R' hR'=>?_) (fun j0 ok0 cl hz=>?_)
 ·unfold jbd
  simp_arith [erE]
  intro p1 hp1
  have q1:=ja2 hp1 (.lst (cutV xs (some tn) none))
  have f1:upd HE p1 (.lst (cutV xs (some tn) none)) p1 = some (.lst (cutV xs (some tn) none)):=ja1
  generalize upd HE p1 (.lst (cutV xs (some tn) none)) = Hp at q1 f1
  have erp:=q1 _ _ erE
  simp only [erp]
  intro p2 hp2
  have q2:=ja2 hp2 (.lst (cutV xs none (some tn)))
  have f2:upd Hp p2 (.lst (cutV xs none (some tn))) p2 = some (.lst (cutV xs none (some tn))):=ja1
  generalize upd Hp p2 (.lst (cutV xs none (some tn))) = Hq at q2 f2
  have f1q:=q2 _ _ f1
  simp only [f1q,f2]
  rw [jej tn0,ji2 tn0]
  refine ⟨szl (by rw [List.length_drop,List.length_take]; omega),?_⟩
  intro p3 hp3
  exact ⟨p3,rfl,⟨_,SqL.of ja1⟩,hR' (p3,_) ⟨q1.trans (q2.trans (ja2 hp3 _)),ja1⟩⟩
 obtain ⟨rl,HD⟩:=j0
 obtain ⟨sD,erl⟩:=ok0
 dsimp only at sD erl hz
 have ppD:Prs HD (xs.drop tn.toNat ++ xs.take tn.toNat) rot:=Prs.same sD pprE
 refine jaw rot.length (fun i σ' Hc=>∃ w1 w2,σ' = [w1,w2]/\Same HD Hc/\Hc cl = some (.lst (((rot.take i).map (·.2)).map V.int))) ⟨none,none,rfl,ja2 hz _,ja1⟩ ?_ ?_
 ·rintro i σ' Hc hi ⟨w1,w2,rfl,s4,ez⟩
  have z1:SqL K Hc rl (xs.drop tn.toNat ++ xs.take tn.toNat):=SqL.of (s4 _ _ erl)
  have x1:(xs.drop tn.toNat ++ xs.take tn.toNat)[i]? = some ((xs.drop tn.toNat ++ xs.take tn.toNat)[i]'(by rw [hlr]; omega)):=gE _
  refine ⟨⟨_,_,z1,x1⟩,?_⟩
  rintro y H' ⟨rfl,hy⟩
  obtain ⟨q,hq,pq⟩:=jas ppD (hy _ z1)
  obtain ⟨t,rfl,ht⟩:=pq.same s4
  simp_arith [ht]
  refine ⟨_,ez,?_,_,_,rfl,jao s4 hz,?_⟩
  ·rw [List.length_map,List.length_map,List.length_take]
   exact szl' (by omega)
  ·rw [ja1,jaq hq,List.map_append,List.map_append]
   rfl
 rintro σ' HF ⟨w1,w2,rfl,sE,ez⟩
 refine ⟨⟨_,SqL.of (sE _ _ erl),by rw [hlr]; exact Nat.le_refl _⟩,?_⟩
 rw [List.take_length] at ez
 have sEF:=sD.trans sE
 have ecl:=ez
 have ncl:cl ≠ st:=fun z=>by rw [z,sD _ _ eE] at hz; cases hz
 have nnc:nl ≠ cl:=fun z=>by rw [<- z,sD _ _ enl] at hz; cases hz
 have hclH:H cl = none:=by
  cases q:H cl with
  | none=>rfl
  | some u=>rw [sD _ _ (bE _ _ ncl q)] at hz; cases hz
 have bF:But st H HF:=fun b u nb q=>sEF _ _ (bE _ _ nb q)
 have eF:=sEF _ _ eE
 have enF:=sEF _ _ enl
 clear sD sE ez erl ppD hz bE eE erE pprE enl sEF
 obtain ⟨ns,hns⟩:∃ ns,ns = rot.map (·.1):=⟨_,rfl⟩
 obtain ⟨cs,hcs⟩:∃ cs,cs = rot.map (·.2):=⟨_,rfl⟩
 rw [<- hns] at rnd rk enF
 rw [<- hcs] at rc1 rcs ecl
 have hnl:ns.length = rot.length:=by rw [hns,List.length_map]
 have hcl:cs.length = rot.length:=by rw [hcs,List.length_map]
 clear hns hcs
 obtain ⟨c0,nr2,rfl⟩:∃ c0 nr2,ns = c0 :: nr2:=by
  cases ns with
  | nil=>exfalso; simp at hnl; omega
  | cons a b=>exact ⟨a,b,rfl⟩
 rw [List.length_cons] at hnl
 obtain ⟨k0,cr,rfl⟩:∃ k0 cr,cs = k0 :: cr:=by
  cases cs with
  | nil=>exfalso; simp at hcl; omega
  | cons a b=>exact ⟨a,b,rfl⟩
 have hcr:=hcl
 rw [List.length_cons] at hcr
 have hlvn:lv <= nr2.length:=by omega
 have hlvc:lv <= cr.length:=by omega
 rw [List.nodup_cons] at rnd
 walk_at "RD"
 subst hR
 refine ja6 fun R hR=>?_
 have F:∀ (cs:List Int) (HG:Hp) (oG:HO),cs.length = rot.length->(∀ c ∈ cs,1 <= c)->cs.sum <= 90000000000->But st H HG->HG st = some oG->StO oG->HG nl = some (.lst ((c0 :: nr2).map V.int))->HG cl = some (.lst (cs.map V.int))->R { nx:=fun _ H'=>Q .non H',rt:=Q } [some (.ref st),some (.int m),some (.int lv),some (.ref r),some (.int tn),some (.ref nl),some (.ref cl),none,none,none,none] HG:=by
  intro cs HG oG hcl hc1 hcs2 bG eG soG enG ecG
  subst hR
  obtain ⟨Lv,hLv⟩:∃ Lv,Lv = nr2.take lv.toNat:=⟨_,rfl⟩
  obtain ⟨Fr,hFr⟩:∃ Fr,Fr = nr2.drop lv.toNat:=⟨_,rfl⟩
  have hsp:nr2 = Lv ++ Fr:=by rw [hLv,hFr,List.take_append_drop]
  have hLl:Lv.length = lv.toNat:=by rw [hLv,List.length_take]; omega
  have hFl:Fr.length <= 2:=by rw [hFr,List.length_drop]; omega
  have cutL:cutV ((c0 :: nr2).map V.int) (some 1) (some (lv + 1)) = Lv.map V.int:=by
   rw [List.map_cons,jm8 lv0 (by rw [List.length_map]; exact hlvn),<- List.map_take,hLv]
  have cutF:cutV ((c0 :: nr2).map V.int) (some (lv + 1)) none = Fr.map V.int:=by
   rw [List.map_cons,jqo lv0,<- List.map_drop,hFr]
  have cutL':cutV (V.int c0 :: nr2.map V.int) (some 1) (some (lv + 1)) = Lv.map V.int:=cutL
  have cutF':cutV (V.int c0 :: nr2.map V.int) (some (lv + 1)) none = Fr.map V.int:=cutF
  have nd2:=rnd.2
  rw [hsp] at nd2
  obtain ⟨ndL,ndF,ndLF⟩:=List.nodup_append.mp nd2
  have cL:∀ k ∈ Lv,c0 ≠ k:=fun k hk e=>rnd.1 (by rw [e,hsp]; exact List.mem_append_left _ hk)
  have cF:∀ f ∈ Fr,c0 ≠ f:=fun f hf e=>rnd.1 (by rw [e,hsp]; exact List.mem_append_right _ hf)
  have kin:∀ n ∈ c0 :: nr2,n ∈ c0 :: nr2:=fun n hn=>hn
  have inL:∀ k ∈ Lv,k ∈ c0 :: nr2:=fun k hk=>List.mem_cons_of_mem _ (by rw [hsp]; exact List.mem_append_left _ hk)
  have inF:∀ k ∈ Fr,k ∈ c0 :: nr2:=fun k hk=>List.mem_cons_of_mem _ (by rw [hsp]; exact List.mem_append_right _ hk)
  refine ja6 fun R1 hR1=>?_
  refine jc6 (ι:=Addr × Hp) (fun j=>Itl K j.1) (fun j=>j.2) (fun j=>Same HG j.2/\j.2 j.1 = some (.lst (Lv.map V.int))) (fun R' hR'=>?_) (fun j0 ok0 tl htl=>?_)
  ·unfold jbd
   simp_arith [enG,cutL']
   intro p1 hp1
   exact ⟨p1,rfl,⟨_,SqL.of ja1⟩,hR' (p1,_) ⟨ja2 hp1 _,ja1⟩⟩
  obtain ⟨sl,H5⟩:=j0
  obtain ⟨s5,esl⟩:=ok0
  dsimp only at s5 esl htl
  have en5:=s5 _ _ enG
  refine jaw Lv.length (fun i σ' Hc=>∃ w1,σ' = [w1,some (.ref nl)]/\Same H5 Hc/\∃ vs,Hc tl = some (.lst vs)/\Prs Hc vs ((Lv.take i).map (jbe c0))) ⟨none,rfl,ja2 htl _,[],ja1,.nil⟩ ?_ ?_
  ·rintro i σ' Hc hi ⟨w1,rfl,s6,vs,ez,pv⟩
   have z1:SqL K Hc sl (Lv.map V.int):=SqL.of (s6 _ _ esl)
   have x1:(Lv.map V.int)[i]? = some ((Lv.map V.int)[i]'(by rw [List.length_map]; omega)):=gE _
   refine ⟨⟨_,_,z1,x1⟩,?_⟩
   rintro y H' ⟨rfl,hy⟩
   obtain ⟨k,hk,rfl⟩:=jbt (hy _ z1)
   have hvl:vs.length <= 40:=by
    have:=Paired.length pv
    rw [List.length_map,List.length_take] at this
    omega
   have en6:=s6 _ _ en5
   rw [List.map_cons] at en6
   simp_arith [jai,en6,at0]
   refine ⟨c0,k,rfl,fun t ht=>?_⟩
   have q7:=ja2 ht (.tup [.int (jbe c0 k).1,.int (jbe c0 k).2])
   have et:upd H' t (.tup [.int (jbe c0 k).1,.int (jbe c0 k).2]) t = some (.tup [.int (jbe c0 k).1,.int (jbe c0 k).2]):=ja1
   have ez7:=q7 _ _ ez
   generalize upd H' t (.tup [.int (jbe c0 k).1,.int (jbe c0 k).2]) = H7 at q7 et ez7
   have t8:=jba (ys:=vs ++ [.ref t]) ez7
   refine ⟨_,ez7,szl' (by omega),_,rfl,jao (s6.trans q7) htl,_,ja1,?_⟩
   rw [jaq hk,List.map_append]
   exact jar (Prs.tups t8 (Prs.same q7 pv)) (Pr.tups (p:=jbe c0 k) ⟨t,rfl,et⟩ t8)
  rintro σ' H6 ⟨w1,rfl,s6,vs0,ev0,pv0⟩
  refine ⟨⟨_,SqL.of (s6 _ _ esl),by rw [List.length_map]; exact Nat.le_refl _⟩,?_⟩
  rw [List.take_length] at pv0
  have S6:=s5.trans s6
  have ntl:tl ≠ st:=fun z=>by rw [z,s5 _ _ eG] at htl; cases htl
  have ntn:tl ≠ nl:=fun z=>by rw [z,en5] at htl; cases htl
  have ntc:tl ≠ cl:=fun z=>by rw [z,s5 _ _ ecG] at htl; cases htl
  have htlH:H tl = none:=by
   cases q:H tl with
   | none=>rfl
   | some u=>rw [s5 _ _ (bG _ _ ntl q)] at htl; cases htl
  have b6:But st H H6:=fun b u nb q=>S6 _ _ (bG _ _ nb q)
  have e6:=S6 _ _ eG
  have en6:=S6 _ _ enG
  have ec6:=S6 _ _ ecG
  clear S6 s5 s6 esl htl en5 bG eG enG ecG
  walk_at "RD"
  subst hR1
  have G:∀ (us:List (Int × Int)) (vs:List V) (w1 w2 w3:Option V) (H9:Hp) (o9:HO),But st H H9->H9 st = some o9->StO o9->H9 nl = some (.lst ((c0 :: nr2).map V.int))->H9 cl = some (.lst (cs.map V.int))->H9 tl = some (.lst vs)->Prs H9 vs us->us.Nodup->us.length <= 16->(∀ u ∈ us,∃ a b,u = jbe a b/\a ≠ b/\a ∈ c0 :: nr2/\b ∈ c0 :: nr2)->(tRet (tTup (jf1 (tCB jo5 (jf1 (tLZ (jf1 (fVar 5) (jf1 (fVar 6) tNil))) tNil)) (jf1 (tCB jo5 (jf1 (fVar 7) tNil)) tNil)))) { nx:=fun _ H'=>Q .non H',rt:=Q } [some (.ref st),some (.int m),some (.int lv),some (.ref r),some (.int tn),some (.ref nl),some (.ref cl),some (.ref tl),w1,w2,w3] H9:=by
   intro us vs w1 w2 w3 H9 o9 b9 e9 so9 en9 ec9 et9 pv ndu hul hu
   simp_arith [tLZ]
   refine ⟨nl,cl,_,_,rfl,en9,ec9,by rw [List.length_map,List.length_cons]; omega,fun S HS zs hS sS eS pz=>?_⟩
   obtain ⟨zk,zsum,zin⟩:=jlf (as:=c0 :: nr2) (bs:=cs) (by rw [List.length_cons]; omega)
   have pzz:=jn8 pz
   have hzl:zs.length = rot.length:=by
    have:=Paired.length pzz
    rw [List.length_zip,List.length_cons] at this
    omega
   have cle:∀ c ∈ cs,c <= 90000000000:=fun c hc=>by have:=(jgx hc1 hc).2; omega
   refine ⟨S,zs,_,100000000000,rfl,eS,pzz,by omega,fun q hq=>?_,fun l ys qs hl pq prm srt=>?_⟩
   ·have g1:=hc1 _ (zin q hq).2
    have g2:=cle _ (zin q hq).2
    omega
   have sl:=sS.trans (ja2 hl (.lst ys))
   have el:upd HS l (.lst ys) l = some (.lst ys):=ja1
   have pql:Prs (upd HS l (.lst ys)) ys qs:=Prs.same (ja2 hl _) pq
   generalize upd HS l (.lst ys) = HL at sl el pql
   have etL:=sl _ _ et9
   walk_at "RD"
   have uin:∀ u ∈ us,u.1 < u.2/\u.1 ∈ c0 :: nr2/\u.2 ∈ c0 :: nr2:=fun u hu'=>by
    obtain ⟨a,b,rfl,hab,ha,hb⟩:=hu u hu'
    obtain ⟨g1,g2,g3⟩:=jpw hab
    refine ⟨g1,?_,?_⟩
    ·rcases g2 with g | g <;> rw [g] <;> assumption
    ·rcases g3 with g | g <;> rw [g] <;> assumption
   have hvl:vs.length = us.length:=Paired.length pv
   refine ⟨tl,vs,us,1000,rfl,etL,Prs.same sl pv,by omega,fun q hq=>?_,fun l2 ys2 qs2 hl2 pq2 prm2 srt2=>?_⟩
   ·have:=rk _ (uin q hq).2.2
    omega
   have s2:=ja2 hl2 (.lst ys2)
   have el2:upd HL l2 (.lst ys2) l2 = some (.lst ys2):=ja1
   have pql2:Prs (upd HL l2 (.lst ys2)) ys2 qs2:=Prs.same s2 pq2
   generalize upd HL l2 (.lst ys2) = HM at s2 el2 pql2
   intro wv hwv
   have s3:=ja2 hwv (.tup [.ref l,.ref l2])
   have S3:=sl.trans (s2.trans s3)
   have hql:qs.length = rot.length:=by
    have:=prm.length_eq
    rw [List.length_zip,List.length_cons] at this
    omega
   have kqs:∀ n,n ∈ qs.map (·.1) ↔ n ∈ c0 :: nr2:=fun n=>by
    have:=(prm.map (·.1)).mem_iff (a:=n)
    rw [zk] at this
    exact this
   have qnd:(qs.map (·.1)).Nodup:=((prm.map (·.1)).nodup_iff).mpr (by rw [zk]; exact List.nodup_cons.mpr rnd)
   refine h _ _ o9 qs qs2 (fun b u nb q=>S3 _ _ (b9 _ _ nb q)) (S3 _ _ e9) so9 ⟨wv,l,l2,ys,ys2,rfl,ja1,(s2.trans s3) _ _ el,s3 _ _ el2,Prs.same (s2.trans s3) pql,Prs.same s3 pql2⟩ ⟨by omega,PlOk.of (fun q hq=>?_) (jqe srt qnd) ?_,by rw [prm2.length_eq]; exact Nat.le_trans hul (by decide),?_⟩ (by omega) (by rw [prm2.length_eq]; exact hul)
   ·have hq':=prm.mem_iff.mp hq
    have g1:=rk _ (zin q hq').1
    exact ⟨g1.1,g1.2,hc1 _ (zin q hq').2⟩
   ·rw [jin prm,zsum]
    omega
   ·refine TiOk.of (fun t ht=>?_) srt2 (prm2.nodup_iff.mpr ndu) fun t ht=>?_
    ·exact .inl (rk _ (uin t (prm2.mem_iff.mp ht)).2.1).1
    ·obtain ⟨g1,g2,g3⟩:=uin t (prm2.mem_iff.mp ht)
     rw [jbm,jbm]
     exact ⟨g1,decide_eq_true ((kqs _).mpr g2),decide_eq_true ((kqs _).mpr g3)⟩
  have at_nm:∀ (i:Nat) (n:Int),nr2[i]? = some n->atI ((c0 :: nr2).map V.int) (((i + 1:Nat):Int)) = some (.int n):=fun i n hn=>jcp (by rw [List.getElem?_map,List.getElem?_cons_succ,hn]; rfl)
  refine ja6 fun R2 hR2=>?_
  have G2:∀ (us:List (Int × Int)) (vs:List V) (w1 w2:Option V) (H9:Hp) (o9:HO),But st H H9->H9 st = some o9->StO o9->H9 nl = some (.lst ((c0 :: nr2).map V.int))->H9 cl = some (.lst (cs.map V.int))->H9 tl = some (.lst vs)->Prs H9 vs us->us.Nodup->us.length <= 15->(∀ u ∈ us,∃ f k,u = jbe f k/\k ∈ Lv/\(f = c0 \/ f ∈ Fr))->R2 { nx:=fun _ H'=>Q .non H',rt:=Q } [some (.ref st),some (.int m),some (.int lv),some (.ref r),some (.int tn),some (.ref nl),some (.ref cl),some (.ref tl),w1,w2,none] H9:=by
   intro us vs w1 w2 H9 o9 b9 e9 so9 en9 ec9 et9 pv ndu hul hu
   have hvl:vs.length = us.length:=Paired.length pv
   have hu2:∀ u ∈ us,∃ a b,u = jbe a b/\a ≠ b/\a ∈ c0 :: nr2/\b ∈ c0 :: nr2:=fun u hu'=>by
    obtain ⟨f,k,e,hk,hf⟩:=hu u hu'
    rcases hf with hf | hf
    ·exact ⟨f,k,e,by rw [hf]; exact cL k hk,by rw [hf]; exact List.mem_cons_self ..,inL k hk⟩
    ·exact ⟨f,k,e,fun z=>ndLF k hk f hf z.symm,inF f hf,inL k hk⟩
   subst hR2
   refine ja6 fun R3 hR3=>?_
   walk_at "RD"
   by_cases c:lv > 1
   ·rw [decide_eq_true c]
    walk_at "RD"
    refine ⟨st,o9,4,rfl,e9,so9,by decide,by decide,fun d oA d0 d1 soA=>?_⟩
    have bA:=b9.trans (But.at st H9 oA)
    have tA:=(But.at st H9 oA).tups e9 so9.imm
    have eA:upd H9 st oA st = some oA:=ja1
    have enA:=But.at st H9 oA _ _ nnl en9
    have ecA:=But.at st H9 oA _ _ ncl ec9
    have etA:=But.at st H9 oA _ _ ntl et9
    generalize upd H9 st oA = HA at bA tA eA enA ecA etA
    have pvA:=Prs.tups tA pv
    refine ite2 (fun _=>?_) (fun _=>?_)
    ·refine ⟨st,oA,lv - 1,rfl,eA,soA,by omega,by omega,fun g oB g0 g1 soB=>?_⟩
     have bB:=bA.trans (But.at st HA oB)
     have tB:=(But.at st HA oB).tups eA soA.imm
     have eB:upd HA st oB st = some oB:=ja1
     have enB:=But.at st HA oB _ _ nnl enA
     have ecB:=But.at st HA oB _ _ ncl ecA
     have etB:=But.at st HA oB _ _ ntl etA
     generalize upd HA st oB = HB at bB tB eB enB ecB etB
     have pvB:=Prs.tups tB pvA
     have hg1:Lv[g.toNat]? = some (Lv[g.toNat]'(by omega)):=gE _
     have hg2:Lv[g.toNat + 1]? = some (Lv[g.toNat + 1]'(by omega)):=gE _
     generalize Lv[g.toNat]'(by omega) = a at hg1
     generalize Lv[g.toNat + 1]'(by omega) = b at hg2
     have hab:a ≠ b:=jdw ndL hg1 hg2 (by omega)
     have am:a ∈ Lv:=List.mem_of_getElem? hg1
     have bm:b ∈ Lv:=List.mem_of_getElem? hg2
     have q1:nr2[g.toNat]? = some a:=by rw [hsp,List.getElem?_append_left (by omega)]; exact hg1
     have q2:nr2[g.toNat + 1]? = some b:=by rw [hsp,List.getElem?_append_left (by omega)]; exact hg2
     have w1':=at_nm _ _ q1
     have w2':=at_nm _ _ q2
     rw [show ((g.toNat + 1:Nat):Int) = 1 + g by omega] at w1'
     rw [show ((g.toNat + 1 + 1:Nat):Int) = 2 + g by omega] at w2'
     refine ⟨⟨tl,_,rfl,etB⟩,?_⟩
     simp only [List.map_cons] at w1' w2' enB
     simp_arith [jai,enB,w1',w2']
     refine ⟨a,b,rfl,fun t ht=>?_⟩
     have qC:=ja2 ht (.tup [.int (jbe a b).1,.int (jbe a b).2])
     have et:upd HB t (.tup [.int (jbe a b).1,.int (jbe a b).2]) t = some (.tup [.int (jbe a b).1,.int (jbe a b).2]):=ja1
     generalize upd HB t (.tup [.int (jbe a b).1,.int (jbe a b).2]) = HC at qC et
     have etC:=qC _ _ etB
     simp only [etC]
     have t8:=jba (ys:=vs ++ [.ref t]) etC
     refine ⟨szl' (by omega),?_⟩
     subst hR3
     refine G (us ++ [jbe a b]) _ _ _ _ _ oB (fun b' u nb q=>?_) ?_ soB ?_ ?_ ja1 (jar (Prs.tups t8 (Prs.same qC pvB)) (Pr.tups (p:=jbe a b) ⟨t,rfl,et⟩ t8)) ?_ (by rw [List.length_append]; show _ + 1 <= _; omega) (fun u hu'=>?_)
     ·rw [jae (jaa q htlH)]
      exact qC _ _ (bB _ _ nb q)
     ·rw [jae ntl.symm]
      exact qC _ _ eB
     ·rw [jae ntn.symm,List.map_cons]
      exact qC _ _ enB
     ·rw [jae ntc.symm]
      exact qC _ _ ecB
     ·refine List.nodup_append.mpr ⟨ndu,by simp,fun x hx y hy e=>?_⟩
      rw [List.mem_singleton.mp hy] at e
      obtain ⟨f,k,e',hk,hf⟩:=hu x hx
      rw [e'] at e
      have fL:f ∉ Lv:=fun z=>by
       rcases hf with hf | hf
       ·exact cL f z hf.symm
       ·exact ndLF f z f hf rfl
      rcases jfh e with ⟨e1,e2⟩ | ⟨e1,e2⟩
      ·exact fL (by rw [e1]; exact am)
      ·exact fL (by rw [e1]; exact bm)
     ·rcases List.mem_append.mp hu' with hu' | hu'
      ·exact hu2 u hu'
      ·rw [List.mem_singleton.mp hu']
       exact ⟨a,b,rfl,hab,inL a am,inL b bm⟩
    ·subst hR3
     exact G us vs _ _ _ HA oA bA eA soA enA ecA etA pvA ndu (by omega) hu2
   ·rw [decide_eq_false c]
    walk_at "RD"
    subst hR3
    exact G us vs _ _ _ H9 o9 b9 e9 so9 en9 ec9 et9 pv ndu (by omega) hu2
  clear G
  refine jd4 (ι:=Addr × Hp) (fun j=>Itl K j.1) (fun j=>j.2) (fun j=>H6 j.1 = none/\Same H6 j.2/\j.2 j.1 = some (.lst (Fr.map V.int))) (fun R' hR'=>?_) (fun j0 ok0=>?_)
  ·unfold jbd
   simp_arith [en6,cutF']
   intro p1 hp1
   exact ⟨p1,rfl,⟨_,SqL.of ja1⟩,hR' (p1,_) ⟨hp1,ja2 hp1 _,ja1⟩⟩
  obtain ⟨fl,H7⟩:=j0
  obtain ⟨hfl,s7,efl⟩:=ok0
  dsimp only at hfl s7 efl
  have nfl:fl ≠ st:=fun z=>by rw [z,e6] at hfl; cases hfl
  have nft:fl ≠ tl:=fun z=>by rw [z,ev0] at hfl; cases hfl
  have hLl2:Lv.length <= 5:=by omega
  refine jby (K:=K) (a:=fl) (xs:=Fr.map V.int) (fun i σ H8=>∃ w1 w2 us vs o8,σ = [some (.ref st),some (.int m),some (.int lv),some (.ref r),some (.int tn),some (.ref nl),some (.ref cl),some (.ref tl),w1,w2,none]/\(∀ b o,b ≠ st->b ≠ tl->H7 b = some o->H8 b = some o)/\H8 st = some o8/\StO o8/\H8 tl = some (.lst vs)/\Prs H8 vs us/\us.Nodup/\us.length <= Lv.length * (1 + i)/\∀ u ∈ us,∃ f k,u = jbe f k/\k ∈ Lv/\(f = c0 \/ f ∈ Fr.take i)) ⟨none,none,Lv.map (jbe c0),vs0,oG,rfl,(fun b o _ _ q=>q),s7 _ _ e6,soG,s7 _ _ ev0,Prs.same s7 pv0,?_,by rw [List.length_map]; omega,fun u hu=>?_⟩ (fun i σ H8 _ ⟨_,_,_,_,_,_,kp,_⟩=>SqL.of (kp _ _ nfl nft efl)) ?_ ?_
  ·unfold List.Nodup
   rw [List.pairwise_map]
   refine List.Pairwise.imp_of_mem (fun {a b} ha hb hab e=>?_) ndL
   rcases jfh e with ⟨_,e2⟩ | ⟨e1,_⟩
   ·exact hab e2
   ·exact cL b hb e1
  ·obtain ⟨k,hk,rfl⟩:=List.mem_map.mp hu
   exact ⟨c0,k,rfl,hk,.inl rfl⟩
  ·rintro i x σ H8 hx ⟨w1,w2,us,vs,o8,rfl,kp,e8,so8,et8,pv,ndu,hul,hu⟩
   obtain ⟨fa,hfa,rfl⟩:=jbt hx
   have faF:fa ∈ Fr:=List.mem_of_getElem? hfa
   have en8:=kp _ _ nnl ntn.symm (s7 _ _ en6)
   walk_at "RD"
   refine jd4 (ι:=Addr × Hp) (fun j=>Itl K j.1) (fun j=>j.2) (fun j=>H8 j.1 = none/\Same H8 j.2/\j.2 j.1 = some (.lst (Lv.map V.int))) (fun R' hR'=>?_) (fun j0 ok0=>?_)
   ·unfold jbd
    simp_arith [en8,cutL']
    intro p1 hp1
    exact ⟨p1,rfl,⟨_,SqL.of ja1⟩,hR' (p1,_) ⟨hp1,ja2 hp1 _,ja1⟩⟩
   obtain ⟨sl,HI⟩:=j0
   obtain ⟨hsl,sI,esl⟩:=ok0
   dsimp only at hsl sI esl
   have nsl:sl ≠ st:=fun z=>by rw [z,e8] at hsl; cases hsl
   have nst:sl ≠ tl:=fun z=>by rw [z,et8] at hsl; cases hsl
   refine jby (K:=K) (a:=sl) (xs:=Lv.map V.int) (fun j σ H9=>∃ w2 us vs o9,σ = [some (.ref st),some (.int m),some (.int lv),some (.ref r),some (.int tn),some (.ref nl),some (.ref cl),some (.ref tl),some (.int fa),w2,none]/\(∀ b o,b ≠ st->b ≠ tl->HI b = some o->H9 b = some o)/\H9 st = some o9/\StO o9/\H9 tl = some (.lst vs)/\Prs H9 vs us/\us.Nodup/\us.length <= Lv.length * (1 + i) + j/\∀ u ∈ us,∃ f k,u = jbe f k/\k ∈ Lv/\(f = c0 \/ f ∈ Fr.take i \/ (f = fa/\k ∈ Lv.take j))) ⟨w2,us,vs,o8,rfl,(fun b o _ _ q=>q),sI _ _ e8,so8,sI _ _ et8,Prs.same sI pv,ndu,hul,fun u hu'=>?_⟩ (fun j σ H9 _ ⟨_,_,_,_,_,kp9,_⟩=>SqL.of (kp9 _ _ nsl nst esl)) ?_ ?_
   ·obtain ⟨f,k,e,hk,hf⟩:=hu u hu'
    refine ⟨f,k,e,hk,?_⟩
    rcases hf with hf | hf
    ·exact .inl hf
    ·exact .inr (.inl hf)
   ·rintro j x σ H9 hx ⟨w2,us,vs,o9,rfl,kp9,e9,so9,et9,pv9,nd9,hul9,hu9⟩
    obtain ⟨k,hk,rfl⟩:=jbt hx
    have hjl:j < Lv.length:=(List.getElem?_eq_some_iff.mp hk).1
    have hil:i < 2:=by
     have:=(List.getElem?_eq_some_iff.mp hfa).1
     omega
    have hmul:Lv.length * (1 + i) <= 5 * 2:=Nat.mul_le_mul hLl2 (by omega)
    have kL:k ∈ Lv:=List.mem_of_getElem? hk
    have hvl:vs.length = us.length:=Paired.length pv9
    walk_at "RD"
    refine ⟨st,o9,2,rfl,e9,so9,by decide,by decide,fun d oA d0 d1 soA=>?_⟩
    have kA:=But.at st H9 oA
    have tA:=(But.at st H9 oA).tups e9 so9.imm
    have eA:upd H9 st oA st = some oA:=ja1
    have etA:=But.at st H9 oA _ _ ntl et9
    generalize upd H9 st oA = HA at kA tA eA etA
    have pvA:=Prs.tups tA pv9
    refine ite2 (fun _=>?_) (fun _=>?_)
    ·refine ⟨⟨tl,_,rfl,etA⟩,?_⟩
     walk_at "RD"
     refine ⟨fa,k,rfl,fun t ht=>?_⟩
     have qC:=ja2 ht (.tup [.int (jbe fa k).1,.int (jbe fa k).2])
     have et:upd HA t (.tup [.int (jbe fa k).1,.int (jbe fa k).2]) t = some (.tup [.int (jbe fa k).1,.int (jbe fa k).2]):=ja1
     generalize upd HA t (.tup [.int (jbe fa k).1,.int (jbe fa k).2]) = HC at qC et
     have etC:=qC _ _ etA
     simp only [etC]
     have t8:=jba (ys:=vs ++ [.ref t]) etC
     refine ⟨szl' (by omega),_,us ++ [jbe fa k],_,oA,rfl,(fun b o nb nb2 q=>by rw [jae nb2]; exact qC _ _ (kA _ _ nb (kp9 _ _ nb nb2 q))),(by rw [jae ntl.symm]; exact qC _ _ eA),soA,ja1,jar (Prs.tups t8 (Prs.same qC pvA)) (Pr.tups (p:=jbe fa k) ⟨t,rfl,et⟩ t8),?_,by rw [List.length_append]; show _ + 1 <= _; omega,fun u hu'=>?_⟩
     ·refine List.nodup_append.mpr ⟨nd9,by simp,fun x hx y hy e=>?_⟩
      rw [List.mem_singleton.mp hy] at e
      obtain ⟨f,k',e',hk',hf⟩:=hu9 x hx
      rw [e'] at e
      rcases jfh e with ⟨e1,e2⟩ | ⟨e1,e2⟩
      ·rcases hf with hf | hf | ⟨hf,hkk⟩
       ·exact cF fa faF (by rw [<- e1]; exact hf.symm)
       ·rw [e1] at hf
        exact (List.nodup_iff_not_mem_take ndF hfa) hf
       ·rw [e2] at hkk
        exact (List.nodup_iff_not_mem_take ndL hk) hkk
      ·exact ndLF k' hk' fa faF e2
     ·rcases List.mem_append.mp hu' with hu' | hu'
      ·obtain ⟨f,k',e',hk',hf⟩:=hu9 u hu'
       refine ⟨f,k',e',hk',?_⟩
       rcases hf with hf | hf | ⟨hf,hkk⟩
       ·exact .inl hf
       ·exact .inr (.inl hf)
       ·exact .inr (.inr ⟨hf,by rw [jaq hk]; exact List.mem_append_left _ hkk⟩)
      ·rw [List.mem_singleton.mp hu']
       exact ⟨fa,k,rfl,kL,.inr (.inr ⟨rfl,by rw [jaq hk]; exact List.mem_append_right _ (List.mem_singleton.mpr rfl)⟩)⟩
    ·refine ⟨_,us,vs,oA,rfl,(fun b o nb nb2 q=>kA _ _ nb (kp9 _ _ nb nb2 q)),eA,soA,etA,pvA,nd9,by omega,fun u hu'=>?_⟩
     obtain ⟨f,k',e',hk',hf⟩:=hu9 u hu'
     refine ⟨f,k',e',hk',?_⟩
     rcases hf with hf | hf | ⟨hf,hkk⟩
     ·exact .inl hf
     ·exact .inr (.inl hf)
     ·exact .inr (.inr ⟨hf,by rw [jaq hk]; exact List.mem_append_left _ hkk⟩)
   ·rintro σ H9 ⟨w2,us,vs,o9,rfl,kp9,e9,so9,et9,pv9,nd9,hul9,hu9⟩
    rw [List.length_map] at hul9
    refine ⟨_,w2,us,vs,o9,rfl,(fun b o nb nb2 q=>kp9 _ _ nb nb2 (sI _ _ (kp _ _ nb nb2 q))),e9,so9,et9,pv9,nd9,?_,fun u hu'=>?_⟩
    ·rw [show Lv.length * (1 + (i + 1)) = Lv.length * (1 + i) + Lv.length by rw [<- Nat.add_assoc,Nat.mul_add,Nat.mul_one]]
     exact hul9
    ·obtain ⟨f,k',e',hk',hf⟩:=hu9 u hu'
     refine ⟨f,k',e',hk',?_⟩
     rcases hf with hf | hf | ⟨hf,hkk⟩
     ·exact .inl hf
     ·exact .inr (by rw [jaq hfa]; exact List.mem_append_left _ hf)
     ·exact .inr (by rw [jaq hfa,hf]; exact List.mem_append_right _ (List.mem_singleton.mpr rfl))
  ·rintro σ H8 ⟨w1,w2,us,vs,o8,rfl,kp,e8,so8,et8,pv,ndu,hul,hu⟩
   rw [List.length_map,List.take_length] at hu
   rw [List.length_map] at hul
   have hmul:Lv.length * (1 + Fr.length) <= 5 * 3:=Nat.mul_le_mul hLl2 (by omega)
   exact G2 us vs w1 w2 H8 o8 (fun b u nb q=>kp _ _ nb (jaa q htlH) (s7 _ _ (b6 _ _ nb q))) e8 so8 (kp _ _ nnl ntn.symm (s7 _ _ en6)) (kp _ _ ncl ntc.symm (s7 _ _ ec6)) et8 pv ndu (by omega) hu
 walk_at "RD"
 by_cases c:lv > 0
 ·rw [decide_eq_true c]
  walk_at "RD"
  refine ⟨st,oC,5,rfl,eF,soC,by decide,by decide,fun d oG d0 d1 soG=>?_⟩
  have bG:=bF.trans (But.at st HF oG)
  have eG:upd HF st oG st = some oG:=ja1
  have enG:=But.at st HF oG _ _ nnl enF
  have ecG:=But.at st HF oG _ _ ncl ecl
  generalize upd HF st oG = HG at bG eG enG ecG
  refine ite2 (fun _=>?_) (fun _=>F (k0 :: cr) HG oG hcl rc1 (by omega) bG eG soG enG ecG)
  have cutC:cutV (V.int k0 :: cr.map V.int) (some 1) (some (lv + 1)) = (cr.take lv.toNat).map V.int:=by
   rw [jm8 lv0 (by rw [List.length_map]; exact hlvc),<- List.map_take]
  simp only [List.map_cons] at ecG
  simp_arith [ecG,cutC]
  intro p1 hp1
  have q1:=ja2 hp1 (.lst ((cr.take lv.toNat).map V.int))
  have ep1:upd HG p1 (.lst ((cr.take lv.toNat).map V.int)) p1 = some (.lst ((cr.take lv.toNat).map V.int)):=ja1
  generalize upd HG p1 (.lst ((cr.take lv.toNat).map V.int)) = HI at q1 ep1
  have sb:(cr.take lv.toNat).Sublist cr:=List.take_sublist _ _
  have hrc:∀ c ∈ cr,1 <= c:=fun c hc=>rc1 c (List.mem_cons_of_mem _ hc)
  have hk0:=rc1 k0 (List.mem_cons_self ..)
  rw [List.sum_cons] at rcs
  have hss:=jeq sb hrc
  refine ⟨st,oG,p1,cr.take lv.toNat,rfl,q1 _ _ eG,soG,ep1,fun e=>?_,fun m hm=>hrc m (sb.subset hm),fun x H' o' hx b' e' so'=>?_⟩
  ·have:=congrArg List.length e
   rw [List.length_take,List.length_nil] at this
   omega
  have enH:=b' _ _ nnl (q1 _ _ enG)
  have ecH:=b' _ _ ncl (q1 _ _ ecG)
  simp_arith [ecH]
  rw [show ixN (cr.map V.int).length.succ 0 = some 0 from by unfold ixN; simp]
  walk_at "RD"
  refine F ((if x > 1 then x else 1) :: cr) _ o' (by rw [List.length_cons]; omega) (fun c hc=>?_) ?_ (fun b u nb q=>?_) ?_ so' ?_ ja1
  ·rcases List.mem_cons.mp hc with e | hc
   ·rw [e]; split <;> omega
   ·exact hrc c hc
  ·rw [List.sum_cons]
   split <;> omega
  ·rw [jae (jaa q hclH)]
   exact b' _ _ nb (q1 _ _ (bG _ _ nb q))
  ·rw [jae ncl.symm]
   exact e'
  ·rw [jae nnc]
   exact enH
 ·rw [decide_eq_false c]
  walk_at "RD"
  exact F (k0 :: cr) HF oC hcl rc1 (by omega) bF eF soC enF ecl
theorem jg8 {w:Str} {ns:List Int} (h:ns ≠ []):atI (V.str w :: ns.map V.int) 1 = some (.int (jbv ns)):=by
 cases ns with
 | nil=>exact absurd rfl h
 | cons m r=>exact at1
theorem js8:∀ {ns:List Int},ns.length = 2->∃ u v,ns = [u,v]
 | [u,v],_=>⟨u,v,rfl⟩
 | [],h=>by cases h
 | [_],h=>by cases h
 | _ :: _ :: _ :: _,h=>by simp at h
def jf8 (w:Str) (ns:List Int):Prop:=((w = (("lone":String):Str) \/ w = (("near":String):Str) \/ w = (("leaf":String):Str) \/ w = (("fold":String):Str))/\ns.length = 1) \/ ((w = (("over":String):Str) \/ w = (("twins":String):Str))/\ns.length = 2)
theorem jf8.one {w:Str} {ns:List Int} (h:jf8 w ns) (h1:w ≠ (("over":String):Str)) (h2:w ≠ (("twins":String):Str)):∃ n,ns = [n]:=by
 rcases h with ⟨_,h⟩ | ⟨c | c,_⟩
 ·exact List.length_eq_one_iff.mp h
 ·exact absurd c h1
 ·exact absurd c h2
theorem jf8.two {w:Str} {ns:List Int} (h:jf8 w ns) (h1:w = (("over":String):Str) \/ w = (("twins":String):Str)):∃ u v,ns = [u,v]:=by
 rcases h with ⟨c,_⟩ | ⟨_,h⟩
 ·rcases h1 with e | e <;> rw [e] at c <;> rcases c with c | c | c | c <;> exact absurd c (by decide)
 ·exact js8 h
theorem jf8.fold {w:Str} {ns:List Int} (h:jf8 w ns) (h1:w ≠ (("lone":String):Str)) (h2:w ≠ (("near":String):Str)) (h3:w ≠ (("leaf":String):Str)) (h4:w ≠ (("over":String):Str)) (h5:w ≠ (("twins":String):Str)):w = (("fold":String):Str):=by
 rcases h with ⟨c | c | c | c,_⟩ | ⟨c | c,_⟩
 ·exact absurd c h1
 ·exact absurd c h2
 ·exact absurd c h3
 ·exact c
 ·exact absurd c h4
 ·exact absurd c h5
theorem jf8.ne {w:Str} {ns:List Int} (h:jf8 w ns):ns ≠ []/\ns.length <= 2/\w ≠ (("halves":String):Str)/\(w = (("fold":String):Str)->ns.length = 1):=by
 refine ⟨fun z=>?_,?_,fun z=>?_,fun z=>?_⟩
 ·rcases h with ⟨_,h⟩ | ⟨_,h⟩ <;> rw [z] at h <;> cases h
 ·rcases h with ⟨_,h⟩ | ⟨_,h⟩ <;> omega
 ·rw [z] at h
  rcases h with ⟨c | c | c | c,_⟩ | ⟨c | c,_⟩ <;> exact absurd c (by decide)
 ·rcases h with ⟨_,h⟩ | ⟨c | c,_⟩
  ·exact h
  ·rw [z] at c; exact absurd c (by decide)
  ·rw [z] at c; exact absurd c (by decide)
theorem jm0 {ps ts:List (Int × Int)} {n:Int} (h:ja9 ts n = []):fitW ps ts (("lone":String):Str) [n] = true:=by
 unfold fitW
 rw [if_neg (by decide)]
 unfold jcu
 dsimp only
 rw [if_pos rfl]
 exact decide_eq_true h
theorem jlz {ps ts:List (Int × Int)} {n:Int} (h:jjf ps ts n = true):fitW ps ts (("near":String):Str) [n] = true:=by
 unfold fitW
 rw [if_neg (by decide)]
 unfold jcu
 dsimp only
 rw [if_neg (by decide),if_pos rfl]
 exact h
theorem jm1 {ps ts:List (Int × Int)} {n:Int} (h:jf6 ps ts n = true):fitW ps ts (("leaf":String):Str) [n] = true:=by
 unfold fitW
 rw [if_neg (by decide)]
 unfold jcu
 dsimp only
 rw [if_neg (by decide),if_neg (by decide),h,decide_eq_true rfl]
 rfl
theorem jly {ps ts:List (Int × Int)} {u v:Int} (h:jhn ps ts u v = true):fitW ps ts (("over":String):Str) [u,v] = true:=by
 unfold fitW
 rw [if_neg (by decide)]
 unfold jcu
 dsimp only
 rw [if_pos rfl]
 exact h
theorem jjp {ps ts:List (Int × Int)} {u v:Int} (h:jfg ts u v = true):fitW ps ts (("twins":String):Str) [u,v] = true:=by
 unfold fitW
 rw [if_neg (by decide)]
 unfold jcu
 dsimp only
 rw [if_neg (by decide),h,decide_eq_true rfl]
 rfl
theorem jql {ps ts:List (Int × Int)} {n:Int} (h:jf7 ps ts n = true):fitW ps ts (("fold":String):Str) [n] = true:=by
 unfold fitW
 rw [if_pos rfl]
 exact h
def jnr:Sp:=fun vs H Q _=>∃ x u v pd ps ts,vs = [x,.int u,.int v,.ref pd]/\jbg H x ps ts/\WebOk ps ts/\u ∈ ps.map (·.1)/\v ∈ ps.map (·.1)/\H pd = some (.dK (jav ps))/\∀ b H',(b = true->jhn ps ts u v = true)->Same H H'->Q (.bl b) H'
def jns:Sp:=fun vs H Q _=>∃ x t ps ts w ns,vs = [x,.ref t]/\jbg H x ps ts/\WebOk ps ts/\StpO H t ps w ns/\jf8 w ns/\∀ b H',(b = true->fitW ps ts w ns = true)->Same H H'->Q (.bl b) H'
theorem jl1 {ns:List Int} {f:Int->Bool} (h:ns.filter (fun p=>!(f p)) = []):ns.all f = true:=by
 rw [List.all_eq_true]
 intro n hn
 have:=List.filter_eq_nil_iff.mp h n hn
 cases c:f n with
 | true=>rfl
 | false=>rw [c] at this; exact absurd rfl this
theorem jkj (B:Blt mg) (D:DefAt K mg "_law_over" (top 78) ["_law_web_here","_law_u","_law_v","_law_prices_here"] f fd) (Dqb:DefAt K mg "_law_near" (top 77) ["_law_web_here","_law_place"] fqb dqb) (Gqb:FnOk P w K mg base CX0 1 fqb dqb ["_law_web_here","_law_place"] je2):FnOk P w K mg base CX0 2 f fd ["_law_web_here","_law_u","_law_v","_law_prices_here"] jnr:=by
 have sc:FnScope ["_law_web_here","_law_u","_law_v","_law_prices_here","_law_mine","_law_some"] ["_law_web_here","_law_u","_law_v","_law_prices_here"] (jab (top 78)):=by walk_at "SC"
 refine D.F.ok sc (fun vs H Q E h=>?_) (fun cdv A outer s H vs Q E hr h=>?_)
 ·obtain ⟨x,u,v,pd,ps,ts,rfl,_⟩:=h
  rfl
 obtain ⟨x,u,v,pd,ps,ts,rfl,hw,wok,hu2,hv,ep,h⟩:=h
 have hla:=jbu wok u
 have hu:=jb8 hr
 have hu0:_ < PySem.cLine:=Nat.lt_of_succ_lt hu
 refine ⟨_,(ja4 (jak (i:=4) sc.nd rfl (Or.inl rfl) (ja8 Gqb (hr.mono (by decide)) rfl Dqb.m Dqb.F.kp Dqb.b .nil jan (ja0 (qv 0) (ja0 (qv 1) ja3)))) (ja4 (jak (i:=5) sc.nd rfl (Or.inr rfl) (ja8 Gqb (hr.mono (by decide)) rfl Dqb.m Dqb.F.kp Dqb.b .nil jan (ja0 (qv 0) (ja0 (qv 2) ja3)))) (ja7 (jah (jcq (jb0 jhi (qv 2) (qv 4) (by with_unfolding_all rfl)) (jcq (jb0 q_le (jaz hu (qv 3) (qv 2) (fun _ _=>rfl)) (jaz hu (qv 3) (qv 1) (fun _ _=>rfl)) (jag _)) (jcd (jb0 (jfs hr.units) (jbb (CpScope.of (N:=["_law_one","_law_v","_law_some"]) (src:=[none,some 2,some 5]) (by rfl)) rfl (jau (qv 4)) (fun _ _ _ _=>(jad (i:=0) (jac (l:=["_law_one","_law_v","_law_some"]) (by rfl)) rfl (Or.inl rfl))) (fun _ _ _ _=>(jc1 (PW.pt (jcm (jal q_ne (qv 0) (qv 1) (jag _)) (jc0 (jal jcl (qv 0) (qv 2) (by with_unfolding_all rfl))))))) (fun _ _ _ _=>(qv 0))) (jb6 ja3) (jag _))))))))),?_⟩
 refine ja6 fun R hR=>?_
 walk_at "RD"
 refine ⟨x,u,ps,ts,rfl,hw,wok,fun a H1 ha s1 ea=>?_⟩
 walk_at "RD"
 subst hR
 refine ja6 fun R hR=>?_
 walk_at "RD"
 refine ⟨x,v,ps,ts,rfl,hw.same s1,wok,fun c H2 hc s2 ec=>?_⟩
 have s12:=s1.trans s2
 have ea2:=s2 _ _ ea
 walk_at "RD"
 subst hR
 simp_arith [jai,ea2,jbp,flat_ints,jcg]
 by_cases c1:v ∈ ja9 ts u
 ·rw [decide_eq_true c1]
  simp_arith [s12 _ _ ep,jb5 hv,jb5 hu2]
  by_cases c2:prc ps v <= prc ps u
  ·rw [decide_eq_true c2]
   walk_at "RD"
   refine jap (Itl K a) H2 (fun R hR=>?_) (fun z hz=>jaw (ja9 ts u).length (fun i σ' Hc=>∃ w1,σ' = [w1,some (.int v),some (.ref c)]/\Same H2 Hc/\Hc z = some (.lst ((((ja9 ts u).take i).filter fun p=>!(decide (p = v) || decide (p ∈ ja9 ts v))).map V.int))) ⟨none,rfl,ja2 hz _,ja1⟩ ?_ ?_)
   ·unfold jbd
    walk_at "RD"
    exact ⟨a,rfl,⟨_,SqL.of ea2⟩,hR⟩
   ·rintro i σ' Hc hi ⟨w1,rfl,s4,ez⟩
    have z1:SqL K Hc a ((ja9 ts u).map V.int):=SqL.of (s4 _ _ ea2)
    have x1:((ja9 ts u).map V.int)[i]? = some (((ja9 ts u).map V.int)[i]'(by rw [List.length_map]; omega)):=gE _
    refine ⟨⟨_,_,z1,x1⟩,?_⟩
    rintro y H' ⟨rfl,hy⟩
    obtain ⟨n,hn,rfl⟩:=jbt (hy _ z1)
    have ft:=jbo (f:=fun p=>!(decide (p = v) || decide (p ∈ ja9 ts v))) hn
    have hcl:(((ja9 ts u).take i).filter fun p=>!(decide (p = v) || decide (p ∈ ja9 ts v))).length <= 200:=Nat.le_trans (List.length_filter_le _ _) (by rw [List.length_take]; omega)
    walk_at "RD"
    by_cases c3:n = v
    ·simp only [c3,decide_true,Bool.true_or,Bool.not_true,Bool.false_eq_true,if_false,List.append_nil] at ft ⊢
     exact ⟨_,rfl,s4,by rw [ft]; exact ez⟩
    ·simp only [c3,decide_false,Bool.false_or,Bool.not_false,if_true] at ft ⊢
     simp_arith [s4 _ _ ec,jai,jbp,flat_ints,jcg]
     by_cases c4:n ∈ ja9 ts v
     ·simp only [c4,decide_true,Bool.not_true,Bool.false_eq_true,if_false,List.append_nil] at ft ⊢
      exact ⟨_,rfl,s4,by rw [ft]; exact ez⟩
     ·simp only [c4,decide_false,Bool.not_false,if_true] at ft ⊢
      refine ⟨_,ez,?_,_,rfl,jao s4 hz,?_⟩
      ·rw [List.length_map]
       exact szl' (by omega)
      ·rw [ja1,ft,List.map_append]
       rfl
   rintro σ' H3 ⟨w1,rfl,s3,ez⟩
   refine ⟨⟨_,SqL.of (s3 _ _ ea2),by rw [List.length_map]; omega⟩,?_⟩
   rw [List.take_length] at ez
   walk_at "RD"
   intro e1 he1
   have t1:=ja2 he1 (.lst [])
   have ee1:upd H3 e1 (.lst []) e1 = some (.lst []):=ja1
   generalize upd H3 e1 (.lst []) = H4 at t1 ee1
   refine ⟨_,_,jbl (t1 _ _ ez),jd1 ee1,jbw _,.inl ⟨_,_,rfl,rfl⟩,?_⟩
   rw [jdj]
   refine h _ _ (fun b=>?_) (s12.trans (s3.trans t1))
   unfold jhn
   rw [decide_eq_true c1,decide_eq_true c2,jl1 (of_decide_eq_true b)]
   rfl
  ·rw [decide_eq_false c2]
   walk_at "RD"
   exact h _ _ (fun z=>by cases z) s12
 ·rw [decide_eq_false c1]
  walk_at "RD"
  exact h _ _ (fun z=>by cases z) s12
theorem jkm (B:Blt mg) (D:DefAt K mg "_law_fits" (top 79) ["_law_web_here","_law_step"] f fd) (Dqm:DefAt K mg "_law_prices" (top 76) ["_law_web_here"] fqm dqm) (Gqm:FnOk P w K mg base CX0 1 fqm dqm ["_law_web_here"] jfm) (Dqb:DefAt K mg "_law_near" (top 77) ["_law_web_here","_law_place"] fqb dqb) (Gqb:FnOk P w K mg base CX0 1 fqb dqb ["_law_web_here","_law_place"] je2) (Dzc:DefAt K mg "_law_over" (top 78) ["_law_web_here","_law_u","_law_v","_law_prices_here"] fzc dzc) (Gzc:FnOk P w K mg base CX0 2 fzc dzc ["_law_web_here","_law_u","_law_v","_law_prices_here"] jnr):FnOk P w K mg base CX0 3 f fd ["_law_web_here","_law_step"] jns:=by
 have sc:FnScope ["_law_web_here","_law_step","_law_prices_here","_law_v","_law_some","_law_total","_law_one","_law_other"] ["_law_web_here","_law_step"] (jab (top 79)):=by walk_at "SC"
 refine D.F.ok sc (fun vs H Q E h=>?_) (fun cdv A outer s H vs Q E hr h=>?_)
 ·obtain ⟨x,t,ps,ts,w,ns,rfl,_⟩:=h
  rfl
 obtain ⟨x,t,ps,ts,w,ns,rfl,hw,wok,⟨et,hne,hin⟩,form,h⟩:=h
 obtain ⟨xr,pa,ta,xs,ys,rfl,eu,ep,ett,pp,pt⟩:=id hw
 have hly:ys.length = ts.length:=Paired.length pt
 have hvk:=hin _ (jdh hne)
 have hla:=jbu wok (jb9 ns)
 have hat:=jg7 (w:=w) hne
 have hah:=jg8 (w:=w) hne
 have hu:=jb8 hr
 have hu0:_ < PySem.cLine:=Nat.lt_of_succ_lt hu
 refine ⟨_,(ja4 (jak (i:=2) sc.nd rfl (Or.inr rfl) (ja8 Gqm (hr.mono (by decide)) rfl Dqm.m Dqm.F.kp Dqm.b .nil jan (ja0 (qv 0) ja3))) (ja4 (jak (i:=3) sc.nd rfl (Or.inl rfl) (jam q_ix (qv 1) (jfr jfp ja5) (fun _ _=>rfl))) (ja4 (jak (i:=4) sc.nd rfl (Or.inl rfl) (ja8 Gqb (hr.mono (by decide)) rfl Dqb.m Dqb.F.kp Dqb.b .nil jan (ja0 (qv 0) (ja0 (qv 3) ja3)))) (ja4 (jak (i:=5) sc.nd rfl (Or.inl rfl) (jaf (jhh rfl) rfl B.sum PyProof.Rows.boot_sum (ja0 (jbb (CpScope.of (N:=["_law_one","_law_prices_here"]) (src:=[none,some 2]) (by rfl)) rfl (jau (qv 4)) (fun _ _ _ _=>(jad (i:=0) (jac (l:=["_law_one","_law_prices_here"]) (by rfl)) rfl (Or.inl rfl))) (fun _ _ _ _=>jbj) (fun _ _ _ _=>(jaz hu (qv 1) (qv 0) (fun _ _=>rfl)))) ja3))) (ja4 (jb3 (jal q_eq (jam q_ix (qv 1) ja5 (fun _ _=>rfl)) jb7 (jag _)) (ja7 (jah (jb0 (jfs hr.units) (qv 4) (jb6 ja3) (jag _)))) jaj) (ja4 (jb3 (jal q_eq (jam q_ix (qv 1) ja5 (fun _ _=>rfl)) jb7 (jag _)) (ja7 (jah (jcq (jb0 (jec hr.units) (qv 4) (jb6 ja3) (jag _)) (jcd (jb0 q_le (qv 5) (jaz hu (qv 2) (qv 3) (fun _ _=>rfl)) (jag _)))))) jaj) (ja4 (jb3 (jal q_eq (jam q_ix (qv 1) ja5 (fun _ _=>rfl)) jb7 (jag _)) (ja7 (jah (jcq (jb0 q_eq (jaf jdl rfl B.len PySem.boot_len (ja0 (qv 4) ja3)) ja5 (jag _)) (jcd (jb0 q_gt (qv 5) (jaz hu (qv 2) (qv 3) (fun _ _=>rfl)) (jag _)))))) jaj) (ja4 (jb3 (jal q_eq (jam q_ix (qv 1) ja5 (fun _ _=>rfl)) jb7 (jag _)) (ja7 (jah (ja8 Gzc (hr.mono (by decide)) rfl Dzc.m Dzc.F.kp Dzc.b .nil jan (ja0 (qv 0) (ja0 (jam q_ix (qv 1) ja5 (fun _ _=>rfl)) (ja0 (qv 3) (ja0 (qv 2) ja3))))))) jaj) (ja4 (jb3 (jal q_eq (jam q_ix (qv 1) ja5 (fun _ _=>rfl)) jb7 (jag _)) (ja7 (jah (jcq (jb0 q_ne (jam q_ix (qv 1) ja5 (fun _ _=>rfl)) (qv 3) (jag _)) (jcq (jb0 (jec hr.units) (qv 4) (jb6 ja3) (jag _)) (jcd (jb0 (jfs hr.units) (qv 4) (ja8 Gqb (hr.mono (by decide)) rfl Dqb.m Dqb.F.kp Dqb.b .nil jan (ja0 (qv 0) (ja0 (jam q_ix (qv 1) ja5 (fun _ _=>rfl)) ja3))) (jag _))))))) jaj) (ja4 (jb3 (jal q_lt (jaf jdl rfl B.len PySem.boot_len (ja0 (qv 4) ja3)) ja5 (jag _)) (ja7 (jah jdd)) jaj) (ja4 (jc5 PassesOwn.never rfl (jau (jam q_ix (qv 0) ja5 (fun _ _=>rfl))) (jc9 (n:=2) rfl (jat (jad (i:=6) sc.nd rfl (Or.inl rfl)) (jat (jad (i:=7) sc.nd rfl (Or.inl rfl)) jbr))) (ja7 (jb3 (PW.pt (jcm (jal jhi (qv 6) (qv 4) (by with_unfolding_all rfl)) (jc0 (jal jhi (qv 7) (qv 4) (by with_unfolding_all rfl))))) (ja7 (jah jdd)) jaj))) (ja7 (jah (jcq (jb0 q_gt (qv 5) (jaz hu (qv 2) (qv 3) (fun _ _=>rfl)) (jag _)) (jcd (jb0 q_le (jay jdp (qv 5) (jaf (jel rfl) rfl B.min PyProof.Rows.boot_min (ja0 (jbb (CpScope.of (N:=["_law_one","_law_prices_here"]) (src:=[none,some 2]) (by rfl)) rfl (jau (qv 4)) (fun _ _ _ _=>(jad (i:=0) (jac (l:=["_law_one","_law_prices_here"]) (by rfl)) rfl (Or.inl rfl))) (fun _ _ _ _=>jbj) (fun _ _ _ _=>(jaz hu (qv 1) (qv 0) (fun _ _=>rfl)))) ja3))) (jaz hu (qv 2) (qv 3) (fun _ _=>rfl)) (jag _))))))))))))))))),?_⟩
 generalize hvl:jb9 ns = v at hvk hla hat
 refine ja6 fun R hR=>?_
 walk_at "RD"
 refine ⟨.ref xr,ps,ts,rfl,hw,wok,fun pd H1 hpd s1 epd=>?_⟩
 walk_at "RD"
 subst hR
 refine ja6 fun R hR=>?_
 simp_arith [jai,s1 _ _ et,hat]
 subst hR
 refine ja6 fun R hR=>?_
 walk_at "RD"
 refine ⟨.ref xr,v,ps,ts,rfl,hw.same s1,wok,fun a H2 ha s2 ea=>?_⟩
 walk_at "RD"
 subst hR
 refine ja6 fun R hR=>?_
 replace epd:=s2 _ _ epd
 have s12:=s1.trans s2
 have sI:=Same.refl H2
 walk_at "RD"
 refine jap (Itl K a) H2 (fun R' hR'=>?_) (fun z hz=>jaw (ja9 ts v).length (fun i σ' Hc=>∃ w1,σ' = [w1,some (.ref pd)]/\Same H2 Hc/\Hc z = some (.lst ((((ja9 ts v).take i).map (prc ps)).map V.int))) ⟨none,rfl,ja2 hz _,ja1⟩ ?_ ?_)
 ·unfold jbd
  walk_at "RD"
  exact ⟨a,rfl,⟨_,SqL.of (sI _ _ ea)⟩,hR'⟩
 ·rintro i σ' Hc hi ⟨w1,rfl,s6,ez⟩
  have z1:SqL K Hc a ((ja9 ts v).map V.int):=SqL.of (s6 _ _ (sI _ _ ea))
  have x1:((ja9 ts v).map V.int)[i]? = some (((ja9 ts v).map V.int)[i]'(by rw [List.length_map]; omega)):=gE _
  refine ⟨⟨_,_,z1,x1⟩,?_⟩
  rintro y H' ⟨rfl,hy⟩
  obtain ⟨m,hm,rfl⟩:=jbt (hy _ z1)
  have hp:=jb5 (jbc wok (List.mem_of_getElem? hm))
  simp_arith [s6 _ _ (sI _ _ epd),hp]
  refine ⟨_,ez,?_,_,rfl,jao s6 hz,?_⟩
  ·rw [List.length_map,List.length_map,List.length_take]
   exact szl' (by omega)
  ·rw [ja1,jaq hm,List.map_append,List.map_append]
   rfl
 rintro σ' H3 ⟨w1,rfl,s23,ez⟩
 refine ⟨⟨_,SqL.of (s23 _ _ ea),by rw [List.length_map]; omega⟩,?_⟩
 rw [List.take_length] at ez
 have s3:=s12.trans s23
 refine ⟨z,_,rfl,ez,?_⟩
 have ea3:=s23 _ _ ea
 have epd3:=s23 _ _ epd
 rw [show ((ja9 ts v).map (prc ps)).sum = jbk ps (ja9 ts v) from rfl]
 walk_at "RD"
 subst hR
 clear ez hz
 refine ja6 fun R hR=>?_
 simp_arith [jai,s3 _ _ et,at0]
 by_cases c1:w = (("lone":String):Str)
 ·simp only [c1,decide_true,if_true]
  walk_at "RD"
  intro e1 he1
  have t1:=ja2 he1 (.lst [])
  have ee1:upd H3 e1 (.lst []) e1 = some (.lst []):=ja1
  generalize upd H3 e1 (.lst []) = H4 at t1 ee1
  have s4:=s3.trans t1
  refine ⟨_,_,jbl (t1 _ _ ea3),jd1 ee1,jbw _,.inl ⟨_,_,rfl,rfl⟩,?_⟩
  rw [jdj]
  refine h _ _ (fun b=>?_) s4
  obtain ⟨n,rfl⟩:=form.one (by rw [c1]; decide) (by rw [c1]; decide)
  have hn:n = v:=hvl
  rw [hn]
  first | exact jm0 (of_decide_eq_true b) | (rw [c1]; exact jm0 (of_decide_eq_true b))
 simp only [c1,decide_false,Bool.false_eq_true,if_false]
 subst hR
 refine ja6 fun R hR=>?_
 simp_arith [jai,s3 _ _ et,at0]
 by_cases c2:w = (("near":String):Str)
 ·simp only [c2,decide_true,if_true]
  walk_at "RD"
  intro e1 he1
  have t1:=ja2 he1 (.lst [])
  have ee1:upd H3 e1 (.lst []) e1 = some (.lst []):=ja1
  generalize upd H3 e1 (.lst []) = H4 at t1 ee1
  have s4:=s3.trans t1
  refine ⟨_,_,jbl (t1 _ _ ea3),jd1 ee1,jbw _,.inl ⟨_,_,rfl,rfl⟩,?_⟩
  rw [jdj]
  by_cases d1:ja9 ts v = []
  ·rw [decide_eq_true d1]
   walk_at "RD"
   exact h _ _ (fun b=>by cases b) s4
  rw [decide_eq_false d1]
  simp_arith [t1 _ _ epd3,jb5 hvk]
  refine h _ _ (fun b=>?_) s4
  obtain ⟨n,rfl⟩:=form.one (by rw [c2]; decide) (by rw [c2]; decide)
  have hn:n = v:=hvl
  rw [hn]
  have:jjf ps ts v = true:=by
   unfold jjf
   rw [decide_eq_true (show ja9 ts v ≠ [] from d1),b]
   rfl
  first | exact jlz this | (rw [c2]; exact jlz this)
 simp only [c2,decide_false,Bool.false_eq_true,if_false]
 subst hR
 refine ja6 fun R hR=>?_
 simp_arith [jai,s3 _ _ et,at0]
 by_cases c3:w = (("leaf":String):Str)
 ·simp only [c3,decide_true,if_true]
  simp_arith [jai,ea3,List.length_map]
  by_cases d1:((ja9 ts v).length:Int) = 1
  ·rw [decide_eq_true d1]
   simp_arith [epd3,jb5 hvk]
   refine h _ _ (fun b=>?_) s3
   obtain ⟨n,rfl⟩:=form.one (by rw [c3]; decide) (by rw [c3]; decide)
   have hn:n = v:=hvl
   rw [hn]
   have:jf6 ps ts v = true:=by
    obtain ⟨m,hm⟩:=List.length_eq_one_iff.mp (show (ja9 ts v).length = 1 by omega)
    unfold jf6
    rw [hm] at b ⊢
    have b:=of_decide_eq_true b
    have e:jbk ps [m] = prc ps m:=by unfold jbk; simp
    rw [e] at b
    exact decide_eq_true b
   first | exact jm1 this | (rw [c3]; exact jm1 this)
  ·rw [decide_eq_false d1]
   walk_at "RD"
   exact h _ _ (fun b=>by cases b) s3
 simp only [c3,decide_false,Bool.false_eq_true,if_false]
 subst hR
 refine ja6 fun R hR=>?_
 simp_arith [jai,s3 _ _ et,at0]
 by_cases c4:w = (("over":String):Str)
 ·simp only [c4,decide_true,if_true]
  obtain ⟨u,v2,rfl⟩:=form.two (.inl c4)
  have hn:v2 = v:=hvl
  subst hn
  simp_arith [jai,s3 _ _ et,hah]
  refine ⟨.ref xr,u,v2,pd,ps,ts,rfl,hw.same s3,wok,hin u (List.mem_cons_self ..),hvk,epd3,fun b H4 hb s4=>?_⟩
  refine h _ _ (fun z=>?_) (s3.trans s4)
  first | exact jly (hb z) | (rw [c4]; exact jly (hb z))
 simp only [c4,decide_false,Bool.false_eq_true,if_false]
 subst hR
 refine ja6 fun R hR=>?_
 simp_arith [jai,s3 _ _ et,at0]
 by_cases c5:w = (("twins":String):Str)
 ·simp only [c5,decide_true,if_true]
  obtain ⟨u,v2,rfl⟩:=form.two (.inr c5)
  have hn:v2 = v:=hvl
  subst hn
  have hah:atI (V.str w :: [u,v2].map V.int) 1 = some (.int u):=hah
  simp_arith [jai,s3 _ _ et,at1]
  by_cases d1:u = v2
  ·simp only [d1,decide_true,Bool.not_true,Bool.false_eq_true,if_false]
   exact h _ _ (fun b=>by cases b) s3
  simp only [d1,decide_false,Bool.not_false,if_true]
  walk_at "RD"
  intro e1 he1
  have t1:=ja2 he1 (.lst [])
  have ee1:upd H3 e1 (.lst []) e1 = some (.lst []):=ja1
  generalize upd H3 e1 (.lst []) = H4 at t1 ee1
  have s4:=s3.trans t1
  refine ⟨_,_,jbl (t1 _ _ ea3),jd1 ee1,jbw _,.inl ⟨_,_,rfl,rfl⟩,?_⟩
  rw [jdj]
  by_cases d2:ja9 ts v2 = []
  ·rw [decide_eq_true d2]
   walk_at "RD"
   exact h _ _ (fun b=>by cases b) s4
  rw [decide_eq_false d2]
  simp_arith [jai,s4 _ _ et,at1]
  refine ⟨.ref xr,u,ps,ts,rfl,hw.same s4,wok,fun a2 H5 ha2 s5 ea2=>?_⟩
  refine ⟨_,_,jbl (s5 _ _ (t1 _ _ ea3)),jbl ea2,jbw _,.inl ⟨_,_,rfl,rfl⟩,?_⟩
  rw [jm4]
  refine h _ _ (fun b=>?_) (s4.trans s5)
  have b:=of_decide_eq_true b
  have:jfg ts u v2 = true:=by
   unfold jfg
   rw [decide_eq_true (show u ≠ v2 from d1),decide_eq_true (show ja9 ts u ≠ [] by rw [<- b]; exact d2),decide_eq_true b.symm]
   rfl
  first | exact jjp this | (rw [c5]; exact jjp this)
 simp only [c5,decide_false,Bool.false_eq_true,if_false]
 subst hR
 have hf:=form.fold c1 c2 c3 c4 c5
 obtain ⟨n,rfl⟩:=form.one c4 c5
 have hn:n = v:=hvl
 subst hn
 refine ja6 fun R hR=>?_
 simp_arith [jai,ea3,List.length_map]
 by_cases d1:((ja9 ts n).length:Int) < 2
 ·rw [decide_eq_true d1]
  walk_at "RD"
  exact h _ _ (fun b=>by cases b) s3
 rw [decide_eq_false d1]
 walk_at "RD"
 subst hR
 refine ja6 fun R hR=>?_
 refine jbq (Itl K ta) H3 (fun R' hR'=>?_) (jby (K:=K) (a:=ta) (xs:=ys) (fun i σ H4=>∃ w1 w2,σ = [some (.ref xr),some (.ref t),some (.ref pd),some (.int n),some (.ref a),some (.int (jbk ps (ja9 ts n))),w1,w2]/\Same H3 H4/\((ts.take i).any fun q=>decide (q.1 ∈ ja9 ts n) && decide (q.2 ∈ ja9 ts n)) = false) ⟨_,_,rfl,Same.refl _,rfl⟩ (fun i σ H4 _ ⟨_,_,_,s4,_⟩=>SqL.of (s4 _ _ (s3 _ _ ett))) ?_ ?_)
 ·unfold jbd
  simp_arith [jai,s3 _ _ eu,at1]
  exact ⟨ta,rfl,⟨_,SqL.of (s3 _ _ ett)⟩,hR'⟩
 ·rintro i y σ H4 hy ⟨w1,w2,rfl,s4,hno⟩
  obtain ⟨q,hq,pq⟩:=jas pt hy
  obtain ⟨tq,rfl,htq⟩:=pq.same (s3.trans s4)
  have ea4:=s4 _ _ ea3
  have nx:(decide (q.1 ∈ ja9 ts n) && decide (q.2 ∈ ja9 ts n)) = false->((ts.take (i + 1)).any fun q=>decide (q.1 ∈ ja9 ts n) && decide (q.2 ∈ ja9 ts n)) = false:=fun e=>by
   rw [jaq hq,List.any_append,hno,Bool.false_or,List.any_cons,List.any_nil,Bool.or_false]
   exact e
  simp_arith [htq,jai,ea4,jbp,flat_ints,jcg]
  by_cases q1:q.1 ∈ ja9 ts n
  ·by_cases q2:q.2 ∈ ja9 ts n
   ·simp only [q1,q2,decide_true,if_true]
    exact h _ _ (fun b=>by cases b) (s3.trans s4)
   ·simp only [q1,q2,decide_true,decide_false,Bool.false_eq_true,if_false,if_true]
    exact ⟨_,_,rfl,s4,nx (by rw [decide_eq_false q2,Bool.and_false])⟩
  ·simp only [q1,decide_false,Bool.false_eq_true,if_false]
   exact ⟨_,_,rfl,s4,nx (by rw [decide_eq_false q1,Bool.false_and])⟩
 ·rintro σ H4 ⟨w1,w2,rfl,s34,hno⟩
  rw [hly,List.take_length] at hno
  have s4:=s3.trans s34
  have ea4:=s34 _ _ ea3
  have epd4:=s34 _ _ epd3
  walk_at "RD"
  subst hR
  simp_arith [epd4,jb5 hvk]
  by_cases d2:jbk ps (ja9 ts n) > prc ps n
  ·rw [decide_eq_true d2]
   have sI:=Same.refl H4
   walk_at "RD"
   refine jap (Itl K a) H4 (fun R' hR'=>?_) (fun y hy=>jaw (ja9 ts n).length (fun i σ' Hc=>∃ w1,σ' = [w1,some (.ref pd)]/\Same H4 Hc/\Hc y = some (.lst ((((ja9 ts n).take i).map (prc ps)).map V.int))) ⟨none,rfl,ja2 hy _,ja1⟩ ?_ ?_)
   ·unfold jbd
    walk_at "RD"
    exact ⟨a,rfl,⟨_,SqL.of (sI _ _ ea4)⟩,hR'⟩
   ·rintro i σ' Hc hi ⟨w1,rfl,s6,ez⟩
    have z1:SqL K Hc a ((ja9 ts n).map V.int):=SqL.of (s6 _ _ (sI _ _ ea4))
    have x1:((ja9 ts n).map V.int)[i]? = some (((ja9 ts n).map V.int)[i]'(by rw [List.length_map]; omega)):=gE _
    refine ⟨⟨_,_,z1,x1⟩,?_⟩
    rintro yy H' ⟨rfl,hyy⟩
    obtain ⟨m,hm,rfl⟩:=jbt (hyy _ z1)
    have hp:=jb5 (jbc wok (List.mem_of_getElem? hm))
    simp_arith [s6 _ _ (sI _ _ epd4),hp]
    refine ⟨_,ez,?_,_,rfl,jao s6 hy,?_⟩
    ·rw [List.length_map,List.length_map,List.length_take]
     exact szl' (by omega)
    ·rw [ja1,jaq hm,List.map_append,List.map_append]
     rfl
   rintro σ' H5 ⟨w1,rfl,s5,ey⟩
   refine ⟨⟨_,SqL.of (s5 _ _ ea4),by rw [List.length_map]; omega⟩,?_⟩
   rw [List.take_length] at ey
   refine ⟨y,_,rfl,ey,fun e=>?_,fun m hm1 hm2=>?_⟩
   ·have:=congrArg List.length e
    rw [List.length_map,List.length_nil] at this
    omega
   rw [joq hm1 hm2]
   simp_arith [s5 _ _ epd4,jb5 hvk]
   refine h _ _ (fun b=>?_) (s4.trans s5)
   rw [hf]
   refine jql ?_
   unfold jf7
   rw [decide_eq_true (show 2 <= (ja9 ts n).length by omega),jpv (fun t ht=>(TiOk.ats wok.t t ht).1),hno,b,decide_eq_true (show prc ps n < jbk ps (ja9 ts n) from d2)]
   rfl
  ·rw [decide_eq_false d2]
   walk_at "RD"
   exact h _ _ (fun b=>by cases b) s4
def stpD (w:Str) (ns:List Int):Dt:=.tup (.str w :: ns.map Dt.int)
theorem jq1 {H:Hp} {t:Addr} {w:Str} {ns:List Int} (e:H t = some (.tup (.str w :: ns.map V.int))):Rep H (stpD w ns) (.ref t):=by
 unfold stpD
 rw [Rep]
 refine ⟨t,_,rfl,e,?_⟩
 rw [Reps]
 refine ⟨_,_,rfl,by rw [Rep],?_⟩
 clear e
 induction ns with
 | nil=>rw [List.map_nil,Reps]; rfl
 | cons n r ih=>rw [List.map_cons,Reps]; exact ⟨_,_,rfl,by rw [Rep],ih⟩
theorem jsj (ps ts:List (Int × Int)):depP (webD ps ts) <= 19:=by
 have h1:=jch ps
 have h2:=jch ts
 unfold webD prsD
 simp only [depP,jcn]
 omega
def Sl (H:Hp) (v:V) (l:Str × List Int):Prop:=∃ t,v = .ref t/\H t = some (.tup (.str l.1 :: l.2.map V.int))
theorem Sl.tups {H H':Hp} {v:V} {l:Str × List Int} (h:Sl H v l) (s:TupS H H'):Sl H' v l:=let ⟨t,e,q⟩:=h; ⟨t,e,s _ _ rfl q⟩
theorem jb2 {H H':Hp} (s:TupS H H'):∀ {xs:List V} {ds:List (Str × List Int)},Paired (Sl H) xs ds->Paired (Sl H') xs ds
 | _,_,.nil=>.nil
 | _,_,.cons r t=>.cons (r.tups s) (jb2 s t)
def slD (l:Str × List Int):Dt:=stpD l.1 l.2
theorem jln {H:Hp}:∀ {xs:List V} {ds:List (Str × List Int)},Paired (Sl H) xs ds->Reps H (ds.map slD) xs
 | _,_,.nil=>by rw [List.map_nil,Reps]
 | _,_,.cons r t=>by
  rw [List.map_cons,Reps]
  obtain ⟨a,rfl,e⟩:=r
  exact ⟨_,_,rfl,jq1 e,jln t⟩
theorem jm7:∀ (ds:List (Str × List Int)),jcn (ds.map slD) <= 1
 | []=>by decide
 | d :: r=>by
  have:=jm7 r
  have e:depP (slD d) = jcn (Dt.str d.1 :: d.2.map Dt.int) + 1:=by unfold slD stpD; rw [depP]
  have e2:jcn (Dt.str d.1 :: d.2.map Dt.int) = 0:=by
   rw [jcn,ji0]
   rfl
  rw [List.map_cons,jcn,e,e2]
  omega
theorem jsi (ds:List (Str × List Int)):eqP (.lst (ds.map slD)) (.lst []) = decide (ds = []):=by
 cases ds <;> rfl
structure GoodS (ps ts:List (Int × Int)) (l:Str × List Int):Prop where
 form:jf8 l.1 l.2
 ins:∀ n ∈ l.2,n ∈ ps.map (·.1)
 ok:fitW ps ts l.1 l.2 = true
structure CandS (ps:List (Int × Int)) (l:Str × List Int):Prop where
 form:jf8 l.1 l.2
 ins:∀ n ∈ l.2,n ∈ ps.map (·.1)
theorem jqs {ps:List (Int × Int)} {w:Str} {n:Int} (h:w = (("lone":String):Str) \/ w = (("near":String):Str) \/ w = (("leaf":String):Str) \/ w = (("fold":String):Str)) (hn:n ∈ ps.map (·.1)):CandS ps (w,[n]):=⟨.inl ⟨h,rfl⟩,fun m hm=>by rw [List.mem_singleton.mp hm]; exact hn⟩
theorem cand2 {ps:List (Int × Int)} {w:Str} {u n:Int} (h:w = (("over":String):Str) \/ w = (("twins":String):Str)) (hu:u ∈ ps.map (·.1)) (hn:n ∈ ps.map (·.1)):CandS ps (w,[u,n]):=⟨.inr ⟨h,rfl⟩,fun m hm=>by
 rcases List.mem_cons.mp hm with e | hm
 ·rw [e]; exact hu
 ·rw [List.mem_singleton.mp hm]; exact hn⟩
def jrc:Sp:=fun vs H Q _=>∃ v ps ts,vs = [v]/\jbg H v ps ts/\WebOk ps ts/\ps.length <= 8 /\
 ∀ r H' zs ds,Same H H'->H r = none->H' r = some (.lst zs)->Paired (Sl H') zs ds->(∀ d ∈ ds,GoodS ps ts d)->ds.length <= 400->Q (.ref r) H'
def jll:Sp:=fun vs H Q _=>∃ st o v b ps ts,vs = [.ref st,v,.bl b]/\H st = some o/\StO o/\jbg H v ps ts/\WebOk ps ts/\ps.length <= 8 /\
 ∀ r H' o' zs ds,But st H H'->H' st = some o'->StO o'->H r = none->H' r = some (.lst zs)->Paired (Sl H') zs ds->(∀ d ∈ ds,GoodS ps ts d)->Q (.ref r) H'
theorem jmt (B:Blt mg) (D:DefAt K mg "_law_all" (top 80) ["_law_web_here"] f fd) (Dqb:DefAt K mg "_law_near" (top 77) ["_law_web_here","_law_place"] fqb dqb) (Gqb:FnOk P w K mg base CX0 1 fqb dqb ["_law_web_here","_law_place"] je2) (Dza:DefAt K mg "_law_fits" (top 79) ["_law_web_here","_law_step"] fza dza) (Gza:FnOk P w K mg base CX0 3 fza dza ["_law_web_here","_law_step"] jns):FnOk P w K mg base CX0 4 f fd ["_law_web_here"] jrc:=by
 have sc:FnScope ["_law_web_here","_law_names","_law_steps_here","_law_u","_law_mine"] ["_law_web_here"] (jab (top 80)):=by walk_at "SC"
 refine D.F.ok sc (fun vs H Q E h=>?_) (fun cdv A outer s H vs Q E hr h=>?_)
 ·obtain ⟨v,ps,ts,rfl,_⟩:=h
  rfl
 obtain ⟨v,ps,ts,rfl,hw,wok,hl8,h⟩:=h
 obtain ⟨u,pa,ta,xs,ys,rfl,eu,ep,et,pp,pt⟩:=id hw
 have hlx:xs.length = ps.length:=Paired.length pp
 have hu:=jb8 hr
 have hu0:_ < PySem.cLine:=Nat.lt_of_succ_lt hu
 refine ⟨_,(ja4 (jco (i:=1) sc.nd rfl (Or.inl rfl) (CpScope.of (N:=["_law_place","_law_price"]) (src:=[none,none]) (by rfl)) rfl (jau (jam q_ix (qv 0) ja5 (fun _ _=>rfl))) (fun _ _ _ _=>(jc9 (n:=2) rfl (jat (jad (i:=0) (jac (l:=["_law_place","_law_price"]) (by rfl)) rfl (Or.inl rfl)) (jat (jad (i:=1) (jac (l:=["_law_place","_law_price"]) (by rfl)) rfl (Or.inl rfl)) jbr)))) (fun _ _ _ _=>jbj) (fun _ _ _ _=>(qv 0))) (ja4 (jak (i:=2) sc.nd rfl (Or.inl rfl) (jay jcv (jay jcv (jbb (CpScope.of (N:=["_law_v"]) (src:=[none]) (by rfl)) rfl (jau (qv 1)) (fun _ _ _ _=>(jad (i:=0) (jac (l:=["_law_v"]) (by rfl)) rfl (Or.inl rfl))) (fun _ _ _ _=>jbj) (fun _ _ _ _=>(jb4 (ja0 jb7 (ja0 (qv 0) ja3))))) (jbb (CpScope.of (N:=["_law_v"]) (src:=[none]) (by rfl)) rfl (jau (qv 1)) (fun _ _ _ _=>(jad (i:=0) (jac (l:=["_law_v"]) (by rfl)) rfl (Or.inl rfl))) (fun _ _ _ _=>jbj) (fun _ _ _ _=>(jb4 (ja0 jb7 (ja0 (qv 0) ja3)))))) (jbb (CpScope.of (N:=["_law_v"]) (src:=[none]) (by rfl)) rfl (jau (qv 1)) (fun _ _ _ _=>(jad (i:=0) (jac (l:=["_law_v"]) (by rfl)) rfl (Or.inl rfl))) (fun _ _ _ _=>jbj) (fun _ _ _ _=>(jb4 (ja0 jb7 (ja0 (qv 0) ja3))))))) (ja4 (jc5 PassesOwn.never rfl (jau (qv 1)) (jad (i:=3) sc.nd rfl (Or.inr rfl)) (ja4 (jak (i:=4) sc.nd rfl (Or.inr rfl) (ja8 Gqb (hr.mono (by decide)) rfl Dqb.m Dqb.F.kp Dqb.b .nil jan (ja0 (qv 0) (ja0 (qv 3) ja3)))) (ja4 (jak (i:=2) sc.nd rfl (Or.inl rfl) (jay jcv (qv 2) (jbb (CpScope.of (N:=["_law_v","_law_u"]) (src:=[none,some 3]) (by rfl)) rfl (jau (qv 4)) (fun _ _ _ _=>(jad (i:=0) (jac (l:=["_law_v","_law_u"]) (by rfl)) rfl (Or.inl rfl))) (fun _ _ _ _=>jbj) (fun _ _ _ _=>(jb4 (ja0 jb7 (ja0 (qv 1) (ja0 (qv 0) ja3)))))))) (ja7 (jak (i:=2) sc.nd rfl (Or.inl rfl) (jay jcv (qv 2) (jbb (CpScope.of (N:=["_law_v","_law_u","_law_mine"]) (src:=[none,some 3,some 4]) (by rfl)) rfl (jau (qv 1)) (fun _ _ _ _=>(jad (i:=0) (jac (l:=["_law_v","_law_u","_law_mine"]) (by rfl)) rfl (Or.inl rfl))) (fun _ _ _ _=>(jc1 (PW.pt (jcm (jal q_ne (qv 0) (qv 1) (jag _)) (jc0 (jal jcl (qv 0) (qv 2) (by with_unfolding_all rfl))))))) (fun _ _ _ _=>(jb4 (ja0 jb7 (ja0 (qv 1) (ja0 (qv 0) ja3)))))))))))) (ja7 (jah (jbb (CpScope.of (N:=["_law_step","_law_web_here"]) (src:=[none,some 0]) (by rfl)) rfl (jau (jay jcv (qv 2) (jbb (CpScope.of (N:=["_law_v"]) (src:=[none]) (by rfl)) rfl (jau (qv 1)) (fun _ _ _ _=>(jad (i:=0) (jac (l:=["_law_v"]) (by rfl)) rfl (Or.inl rfl))) (fun _ _ _ _=>jbj) (fun _ _ _ _=>(jb4 (ja0 jb7 (ja0 (qv 0) ja3))))))) (fun _ _ _ _=>(jad (i:=0) (jac (l:=["_law_step","_law_web_here"]) (by rfl)) rfl (Or.inl rfl))) (fun _ _ _ _=>(jc1 (jc8 (ja8 Gza (hr.mono (by decide)) rfl Dza.m Dza.F.kp Dza.b .nil jan (ja0 (qv 1) (ja0 (qv 0) ja3)))))) (fun _ _ _ _=>(qv 0)))))))),?_⟩
 obtain ⟨ks,hks⟩:∃ ks,ks = ps.map (·.1):=⟨_,rfl⟩
 have hkl:ks.length <= 8:=by rw [hks,List.length_map]; exact hl8
 refine ja6 fun R hR=>?_
 refine jap (Itl K pa) H (fun R2 hR2=>?_) (fun nl hnl=>jaw ps.length (fun j σ' Hc=>∃ w1 w2,σ' = [w1,w2]/\Same H Hc/\Hc nl = some (.lst (((ps.take j).map (·.1)).map V.int))) ⟨none,none,rfl,ja2 hnl _,ja1⟩ ?_ ?_)
 ·unfold jbd
  simp_arith [jai,eu,at0]
  exact ⟨pa,rfl,⟨_,SqL.of ep⟩,hR2⟩
 ·rintro j σ' Hc hj ⟨w1,w2,rfl,s4,ez⟩
  have z1:SqL K Hc pa xs:=SqL.of (s4 _ _ ep)
  have x1:xs[j]? = some (xs[j]'(by omega)):=gE _
  refine ⟨⟨_,_,z1,x1⟩,?_⟩
  rintro y H' ⟨rfl,hy⟩
  obtain ⟨q,hq,pq⟩:=jas pp (hy _ z1)
  obtain ⟨t,rfl,ht⟩:=pq.same s4
  simp_arith [ht]
  refine ⟨_,ez,?_,_,_,rfl,jao s4 hnl,?_⟩
  ·rw [List.length_map,List.length_map,List.length_take]; exact szl' (by omega)
  ·rw [ja1,jaq hq,List.map_append,List.map_append]; rfl
 rintro σ' H1 ⟨w1,w2,rfl,s1,enl⟩
 refine ⟨⟨_,SqL.of (s1 _ _ ep),by omega⟩,?_⟩
 rw [List.take_length,<- hks] at enl
 have kin:∀ n ∈ ks,n ∈ ps.map (·.1):=fun n hn=>by rw [<- hks]; exact hn
 walk_at "RD"
 subst hR
 refine ja6 fun R hR=>?_
 have sI:=Same.refl H1
 walk_at "RD"
 refine jap (Itl K nl) H1 (fun R' hR'=>?_) (fun y1 hy1=>jaw ks.length (fun j σ' Hc=>∃ w1,σ' = [w1]/\Same H1 Hc/\∃ vs,Hc y1 = some (.lst vs)/\Paired (Sl Hc) vs ((ks.take j).map fun n=>((("lone":String):Str),[n]))) ⟨none,rfl,ja2 hy1 _,[],ja1,.nil⟩ ?_ ?_)
 ·unfold jbd
  walk_at "RD"
  exact ⟨nl,rfl,⟨_,SqL.of (sI _ _ enl)⟩,hR'⟩
 ·rintro j σ' Hc hj ⟨w1,rfl,s5,vs,ez,pz⟩
  have z1:SqL K Hc nl (ks.map V.int):=SqL.of (s5 _ _ (sI _ _ enl))
  have x1:(ks.map V.int)[j]? = some ((ks.map V.int)[j]'(by rw [List.length_map]; omega)):=gE _
  refine ⟨⟨_,_,z1,x1⟩,?_⟩
  rintro y H' ⟨rfl,hy⟩
  obtain ⟨m,hm,rfl⟩:=jbt (hy _ z1)
  have hvl:vs.length <= 40:=by
   have:=Paired.length pz
   rw [List.length_map,List.length_take] at this
   omega
  walk_at "RD"
  intro tt htt
  have q5:=ja2 htt (.tup [.str (("lone":String):Str),.int m])
  have ett:upd H' tt (.tup [.str (("lone":String):Str),.int m]) tt = some (.tup [.str (("lone":String):Str),.int m]):=ja1
  have ev5:=q5 _ _ ez
  generalize upd H' tt (.tup [.str (("lone":String):Str),.int m]) = H5 at q5 ett ev5
  refine ⟨_,ev5,szl' (by omega),_,rfl,jao (s5.trans q5) hy1,vs ++ [.ref tt],ja1,?_⟩
  rw [jaq hm,List.map_append]
  have t6:=jba (ys:=vs ++ [.ref tt]) ev5
  exact jar (jb2 t6 (jb2 q5.tups pz)) (Sl.tups (l:=((("lone":String):Str),[m])) ⟨tt,rfl,ett⟩ t6)
 rintro σ' H2 ⟨w1,rfl,s2,v1,ez1,pz1⟩
 refine ⟨⟨_,SqL.of (s2 _ _ (sI _ _ enl)),by rw [List.length_map]; omega⟩,?_⟩
 rw [List.take_length] at pz1
 walk_at "RD"
 refine jap (Itl K nl) H2 (fun R' hR'=>?_) (fun y2 hy2=>jaw ks.length (fun j σ' Hc=>∃ w1,σ' = [w1]/\Same H2 Hc/\∃ vs,Hc y2 = some (.lst vs)/\Paired (Sl Hc) vs ((ks.take j).map fun n=>((("near":String):Str),[n]))) ⟨none,rfl,ja2 hy2 _,[],ja1,.nil⟩ ?_ ?_)
 ·unfold jbd
  walk_at "RD"
  exact ⟨nl,rfl,⟨_,SqL.of (s2 _ _ enl)⟩,hR'⟩
 ·rintro j σ' Hc hj ⟨w1,rfl,s5,vs,ez,pz⟩
  have z1:SqL K Hc nl (ks.map V.int):=SqL.of (s5 _ _ (s2 _ _ enl))
  have x1:(ks.map V.int)[j]? = some ((ks.map V.int)[j]'(by rw [List.length_map]; omega)):=gE _
  refine ⟨⟨_,_,z1,x1⟩,?_⟩
  rintro y H' ⟨rfl,hy⟩
  obtain ⟨m,hm,rfl⟩:=jbt (hy _ z1)
  have hvl:vs.length <= 40:=by
   have:=Paired.length pz
   rw [List.length_map,List.length_take] at this
   omega
  walk_at "RD"
  intro tt htt
  have q5:=ja2 htt (.tup [.str (("near":String):Str),.int m])
  have ett:upd H' tt (.tup [.str (("near":String):Str),.int m]) tt = some (.tup [.str (("near":String):Str),.int m]):=ja1
  have ev5:=q5 _ _ ez
  generalize upd H' tt (.tup [.str (("near":String):Str),.int m]) = H5 at q5 ett ev5
  refine ⟨_,ev5,szl' (by omega),_,rfl,jao (s5.trans q5) hy2,vs ++ [.ref tt],ja1,?_⟩
  rw [jaq hm,List.map_append]
  have t6:=jba (ys:=vs ++ [.ref tt]) ev5
  exact jar (jb2 t6 (jb2 q5.tups pz)) (Sl.tups (l:=((("near":String):Str),[m])) ⟨tt,rfl,ett⟩ t6)
 rintro σ' H3 ⟨w1,rfl,q3,v2,ez2,pz2⟩
 refine ⟨⟨_,SqL.of (q3 _ _ (s2 _ _ enl)),by rw [List.length_map]; omega⟩,?_⟩
 rw [List.take_length] at pz2
 have s3:=s2.trans q3
 have hv1:v1.length = ks.length:=by have:=Paired.length pz1; rw [List.length_map] at this; exact this
 have hv2:v2.length = ks.length:=by have:=Paired.length pz2; rw [List.length_map] at this; exact this
 simp_arith [q3 _ _ ez1,ez2]
 refine ⟨szl (by omega),?_⟩
 intro L1 hL1
 have q4:=ja2 hL1 (.lst (v1 ++ v2))
 have s4:=s3.trans q4
 have eL1:upd H3 L1 (.lst (v1 ++ v2)) L1 = some (.lst (v1 ++ v2)):=ja1
 generalize upd H3 L1 (.lst (v1 ++ v2)) = H4 at q4 s4 eL1
 have pL1:=jbx (jb2 (q3.trans q4).tups pz1) (jb2 q4.tups pz2)
 walk_at "RD"
 refine jap (Itl K nl) H4 (fun R' hR'=>?_) (fun y3 hy3=>jaw ks.length (fun j σ' Hc=>∃ w1,σ' = [w1]/\Same H4 Hc/\∃ vs,Hc y3 = some (.lst vs)/\Paired (Sl Hc) vs ((ks.take j).map fun n=>((("leaf":String):Str),[n]))) ⟨none,rfl,ja2 hy3 _,[],ja1,.nil⟩ ?_ ?_)
 ·unfold jbd
  walk_at "RD"
  exact ⟨nl,rfl,⟨_,SqL.of (s4 _ _ enl)⟩,hR'⟩
 ·rintro j σ' Hc hj ⟨w1,rfl,s5,vs,ez,pz⟩
  have z1:SqL K Hc nl (ks.map V.int):=SqL.of (s5 _ _ (s4 _ _ enl))
  have x1:(ks.map V.int)[j]? = some ((ks.map V.int)[j]'(by rw [List.length_map]; omega)):=gE _
  refine ⟨⟨_,_,z1,x1⟩,?_⟩
  rintro y H' ⟨rfl,hy⟩
  obtain ⟨m,hm,rfl⟩:=jbt (hy _ z1)
  have hvl:vs.length <= 40:=by
   have:=Paired.length pz
   rw [List.length_map,List.length_take] at this
   omega
  walk_at "RD"
  intro tt htt
  have q5:=ja2 htt (.tup [.str (("leaf":String):Str),.int m])
  have ett:upd H' tt (.tup [.str (("leaf":String):Str),.int m]) tt = some (.tup [.str (("leaf":String):Str),.int m]):=ja1
  have ev5:=q5 _ _ ez
  generalize upd H' tt (.tup [.str (("leaf":String):Str),.int m]) = H5 at q5 ett ev5
  refine ⟨_,ev5,szl' (by omega),_,rfl,jao (s5.trans q5) hy3,vs ++ [.ref tt],ja1,?_⟩
  rw [jaq hm,List.map_append]
  have t6:=jba (ys:=vs ++ [.ref tt]) ev5
  exact jar (jb2 t6 (jb2 q5.tups pz)) (Sl.tups (l:=((("leaf":String):Str),[m])) ⟨tt,rfl,ett⟩ t6)
 rintro σ' H6 ⟨w1,rfl,q6,v3,ez3,pz3⟩
 refine ⟨⟨_,SqL.of (q6 _ _ (s4 _ _ enl)),by rw [List.length_map]; omega⟩,?_⟩
 rw [List.take_length] at pz3
 have s6:=s4.trans q6
 have hv3:v3.length = ks.length:=by have:=Paired.length pz3; rw [List.length_map] at this; exact this
 simp_arith [q6 _ _ eL1,ez3]
 refine ⟨szl (by rw [List.length_append]; omega),?_⟩
 intro Lb hL2
 have q7:=ja2 hL2 (.lst (v1 ++ v2 ++ v3))
 have s7:=s6.trans q7
 have eL2:upd H6 Lb (.lst (v1 ++ v2 ++ v3)) Lb = some (.lst (v1 ++ v2 ++ v3)):=ja1
 generalize upd H6 Lb (.lst (v1 ++ v2 ++ v3)) = H7 at q7 s7 eL2
 have pL2:=jbx (jb2 (q6.trans q7).tups pL1) (jb2 q7.tups pz3)
 have cL2:∀ d ∈ ((ks.map fun n=>((("lone":String):Str),[n])) ++ (ks.map fun n=>((("near":String):Str),[n]))) ++ (ks.map fun n=>((("leaf":String):Str),[n])),CandS ps d:=fun d hd=>by
  rcases List.mem_append.mp hd with hd | hd
  ·rcases List.mem_append.mp hd with hd | hd
   ·obtain ⟨n,hn,rfl⟩:=List.mem_map.mp hd
    exact jqs (.inl rfl) (kin n hn)
   ·obtain ⟨n,hn,rfl⟩:=List.mem_map.mp hd
    exact jqs (.inr (.inl rfl)) (kin n hn)
  ·obtain ⟨n,hn,rfl⟩:=List.mem_map.mp hd
   exact jqs (.inr (.inr (.inl rfl))) (kin n hn)
 have lL2:(((ks.map fun n=>((("lone":String):Str),[n])) ++ (ks.map fun n=>((("near":String):Str),[n]))) ++ (ks.map fun n=>((("leaf":String):Str),[n]))).length <= 24:=by
  rw [List.length_append,List.length_append,List.length_map,List.length_map,List.length_map]
  omega
 generalize ((ks.map fun n=>((("lone":String):Str),[n])) ++ (ks.map fun n=>((("near":String):Str),[n]))) ++ (ks.map fun n=>((("leaf":String):Str),[n])) = d0 at pL2 cL2 lL2
 generalize v1 ++ v2 ++ v3 = z0 at eL2 pL2
 clear pL1 pz1 pz2 pz3 ez1 ez2 ez3 eL1 q3 q4 q6 q7 s2 s3 s4 s6 hv1 hv2 hv3
 have enl7:=s7 _ _ enl
 have s17:=s1.trans s7
 walk_at "RD"
 subst hR
 refine ja6 fun R hR=>?_
 refine jbq (Itl K nl) H7 (fun R' hR'=>?_) (jby (K:=K) (a:=nl) (xs:=ks.map V.int) (fun g σ H4=>∃ w4 w5 L zs ds,σ = [some (.ref u),some (.ref nl),some (.ref L),w4,w5]/\Same H7 H4/\H4 L = some (.lst zs)/\Paired (Sl H4) zs ds/\(∀ d ∈ ds,CandS ps d)/\ds.length <= 24 + 16 * g) ⟨_,_,Lb,z0,d0,rfl,Same.refl _,eL2,pL2,cL2,by omega⟩ (fun g σ H4 _ ⟨_,_,_,_,_,_,s4,_⟩=>SqL.of (s4 _ _ enl7)) ?_ ?_)
 ·unfold jbd
  walk_at "RD"
  exact ⟨nl,rfl,⟨_,SqL.of enl7⟩,hR'⟩
 ·rintro g x σ H4 hx ⟨w4,w5,L,zs,ds,rfl,s4,eL,pz,cd,hdl⟩
  have hzl:zs.length = ds.length:=Paired.length pz
  obtain ⟨n1,hn1,rfl⟩:=jbt hx
  have hn1k:=kin n1 (List.mem_of_getElem? hn1)
  have hgl:g < 8:=by
   have:=(List.getElem?_eq_some_iff.mp hn1).1
   omega
  have hnl8:(ja9 ts n1).length <= 8:=Nat.le_trans (jfy wok n1) hl8
  simp only [jeg,List.set_cons_zero,List.set_cons_succ]
  refine ja6 fun R8 hR8=>?_
  walk_at "RD"
  refine ⟨.ref u,n1,ps,ts,rfl,hw.same (s17.trans s4),wok,fun a H5 ha s5 ea=>?_⟩
  walk_at "RD"
  subst hR8
  refine ja6 fun R8 hR8=>?_
  have sI:=Same.refl H5
  walk_at "RD"
  refine jap (Itl K a) H5 (fun R' hR'=>?_) (fun y4 hy4=>jaw (ja9 ts n1).length (fun j σ' Hc=>∃ w1,σ' = [w1,some (.int n1)]/\Same H5 Hc/\∃ vs,Hc y4 = some (.lst vs)/\Paired (Sl Hc) vs (((ja9 ts n1).take j).map fun n=>((("over":String):Str),[n1,n]))) ⟨none,rfl,ja2 hy4 _,[],ja1,.nil⟩ ?_ ?_)
  ·unfold jbd
   walk_at "RD"
   exact ⟨a,rfl,⟨_,SqL.of (sI _ _ ea)⟩,hR'⟩
  ·rintro j σ' Hc hj ⟨w1,rfl,s5,vs,ez,pz⟩
   have z1:SqL K Hc a ((ja9 ts n1).map V.int):=SqL.of (s5 _ _ (sI _ _ ea))
   have x1:((ja9 ts n1).map V.int)[j]? = some (((ja9 ts n1).map V.int)[j]'(by rw [List.length_map]; omega)):=gE _
   refine ⟨⟨_,_,z1,x1⟩,?_⟩
   rintro y H' ⟨rfl,hy⟩
   obtain ⟨m,hm,rfl⟩:=jbt (hy _ z1)
   have hvl:vs.length <= 40:=by
    have:=Paired.length pz
    rw [List.length_map,List.length_take] at this
    omega
   walk_at "RD"
   intro tt htt
   have q5:=ja2 htt (.tup [.str (("over":String):Str),.int n1,.int m])
   have ett:upd H' tt (.tup [.str (("over":String):Str),.int n1,.int m]) tt = some (.tup [.str (("over":String):Str),.int n1,.int m]):=ja1
   have ev5:=q5 _ _ ez
   generalize upd H' tt (.tup [.str (("over":String):Str),.int n1,.int m]) = H5 at q5 ett ev5
   refine ⟨_,ev5,szl' (by omega),_,rfl,jao (s5.trans q5) hy4,vs ++ [.ref tt],ja1,?_⟩
   rw [jaq hm,List.map_append]
   have t6:=jba (ys:=vs ++ [.ref tt]) ev5
   exact jar (jb2 t6 (jb2 q5.tups pz)) (Sl.tups (l:=((("over":String):Str),[n1,m])) ⟨tt,rfl,ett⟩ t6)
  rintro σ' H6 ⟨w1,rfl,s6,v4,ez4,pz4⟩
  refine ⟨⟨_,SqL.of (s6 _ _ (sI _ _ ea)),by rw [List.length_map]; omega⟩,?_⟩
  rw [List.take_length] at pz4
  have hv4:v4.length = (ja9 ts n1).length:=by have:=Paired.length pz4; rw [List.length_map] at this; exact this
  have s56:=s5.trans s6
  simp_arith [s56 _ _ eL,ez4]
  refine ⟨szl (by omega),?_⟩
  intro L3 hL3
  have q7:=ja2 hL3 (.lst (zs ++ v4))
  have s7':=s56.trans q7
  have eL3:upd H6 L3 (.lst (zs ++ v4)) L3 = some (.lst (zs ++ v4)):=ja1
  have ea7:=q7 _ _ (s6 _ _ ea)
  have pL3:=jbx (jb2 s7'.tups pz) (jb2 q7.tups pz4)
  generalize upd H6 L3 (.lst (zs ++ v4)) = H8 at q7 s7' eL3 ea7 pL3
  have cL3:∀ d ∈ ds ++ ((ja9 ts n1).map fun n=>((("over":String):Str),[n1,n])),CandS ps d:=fun d hd=>by
   rcases List.mem_append.mp hd with hd | hd
   ·exact cd d hd
   ·obtain ⟨n,hn,rfl⟩:=List.mem_map.mp hd
    exact cand2 (.inl rfl) hn1k (jbc wok hn)
  have lL3:(ds ++ ((ja9 ts n1).map fun n=>((("over":String):Str),[n1,n]))).length <= 24 + 16 * g + 8:=by
   rw [List.length_append,List.length_map]
   omega
  have hz4:(zs ++ v4).length <= 24 + 16 * g + 8:=by rw [List.length_append]; omega
  generalize ds ++ ((ja9 ts n1).map fun n=>((("over":String):Str),[n1,n])) = d3 at pL3 cL3 lL3
  generalize zs ++ v4 = z3 at eL3 pL3 hz4
  walk_at "RD"
  subst hR8
  have enl8:=s7' _ _ (s4 _ _ enl7)
  walk_at "RD"
  refine jap (Itl K nl) H8 (fun R' hR'=>?_) (fun y5 hy5=>jaw ks.length (fun j σ' Hc=>∃ w1,σ' = [w1,some (.int n1),some (.ref a)]/\Same H8 Hc/\∃ vs es,Hc y5 = some (.lst vs)/\Paired (Sl Hc) vs es/\(∀ d ∈ es,CandS ps d)/\es.length <= j) ⟨none,rfl,ja2 hy5 _,[],[],ja1,.nil,(fun d hd=>by cases hd),Nat.le_refl _⟩ ?_ ?_)
  ·unfold jbd
   walk_at "RD"
   exact ⟨nl,rfl,⟨_,SqL.of enl8⟩,hR'⟩
  ·rintro j σ' Hc hj ⟨w1,rfl,s5,vs,es,ez,pe,ce,hel⟩
   have z1:SqL K Hc nl (ks.map V.int):=SqL.of (s5 _ _ enl8)
   have x1:(ks.map V.int)[j]? = some ((ks.map V.int)[j]'(by rw [List.length_map]; omega)):=gE _
   refine ⟨⟨_,_,z1,x1⟩,?_⟩
   rintro y H' ⟨rfl,hy⟩
   obtain ⟨m,hm,rfl⟩:=jbt (hy _ z1)
   have hvl:vs.length = es.length:=Paired.length pe
   walk_at "RD"
   by_cases c1:m = n1
   ·simp only [c1,decide_true,Bool.not_true,Bool.false_eq_true,if_false]
    exact ⟨_,rfl,s5,vs,es,ez,pe,ce,by omega⟩
   simp only [c1,decide_false,Bool.not_false,if_true]
   simp_arith [s5 _ _ ea7,jai,jbp,flat_ints,jcg]
   by_cases c2:m ∈ ja9 ts n1
   ·simp only [c2,decide_true,Bool.not_true,Bool.false_eq_true,if_false]
    exact ⟨_,rfl,s5,vs,es,ez,pe,ce,by omega⟩
   simp only [c2,decide_false,Bool.not_false,if_true]
   intro tt htt
   have q5:=ja2 htt (.tup [.str (("twins":String):Str),.int n1,.int m])
   have ett:upd H' tt (.tup [.str (("twins":String):Str),.int n1,.int m]) tt = some (.tup [.str (("twins":String):Str),.int n1,.int m]):=ja1
   have ev5:=q5 _ _ ez
   generalize upd H' tt (.tup [.str (("twins":String):Str),.int n1,.int m]) = H9 at q5 ett ev5
   have t6:=jba (ys:=vs ++ [.ref tt]) ev5
   refine ⟨_,ev5,szl' (by omega),_,rfl,jao (s5.trans q5) hy5,vs ++ [.ref tt],es ++ [((("twins":String):Str),[n1,m])],ja1,jar (jb2 t6 (jb2 q5.tups pe)) (Sl.tups ⟨tt,rfl,ett⟩ t6),fun d hd=>?_,by rw [List.length_append]; show _ + 1 <= _; omega⟩
   rcases List.mem_append.mp hd with hd | hd
   ·exact ce d hd
   ·rw [List.mem_singleton.mp hd]
    exact cand2 (.inr rfl) hn1k (kin m (List.mem_of_getElem? hm))
  rintro σ' H9 ⟨w1,rfl,s9,v5,es,ez5,pe,ce,hel⟩
  refine ⟨⟨_,SqL.of (s9 _ _ enl8),by rw [List.length_map]; omega⟩,?_⟩
  have hv5:v5.length = es.length:=Paired.length pe
  simp_arith [s9 _ _ eL3,ez5]
  refine ⟨szl (by omega),?_⟩
  intro L4 hL4
  have q10:=ja2 hL4 (.lst (z3 ++ v5))
  refine ⟨_,_,L4,_,d3 ++ es,rfl,s4.trans (s7'.trans (s9.trans q10)),ja1,jbx (jb2 (s9.trans q10).tups pL3) (jb2 q10.tups pe),fun d hd=>(List.mem_append.mp hd).elim (cL3 d) (ce d),?_⟩
  rw [List.length_append]
  omega
 ·rintro σ H4 ⟨w4,w5,L,zs,ds,rfl,s4,eL,pz,cd,hdl⟩
  rw [List.length_map] at hdl
  have hzl:zs.length = ds.length:=Paired.length pz
  have s14:=s17.trans s4
  have enl4:=s4 _ _ enl7
  walk_at "RD"
  subst hR
  walk_at "RD"
  refine jc6 (ι:=Addr × Hp) (fun q=>Itl K q.1) (fun q=>q.2) (fun q=>Same H4 q.2/\∃ zs ds,q.2 q.1 = some (.lst zs)/\Paired (Sl q.2) zs ds/\(∀ d ∈ ds,CandS ps d)/\ds.length <= 24 + 16 * 8 + 8) (fun R' hR'=>?_) (fun q0 ok0=>?_)
  ·unfold jbd
   have sI:=Same.refl H4
   walk_at "RD"
   refine jap (Itl K nl) H4 (fun R9 hR9=>?_) (fun y6 hy6=>jaw ks.length (fun j σ' Hc=>∃ w1,σ' = [w1]/\Same H4 Hc/\∃ vs,Hc y6 = some (.lst vs)/\Paired (Sl Hc) vs ((ks.take j).map fun n=>((("fold":String):Str),[n]))) ⟨none,rfl,ja2 hy6 _,[],ja1,.nil⟩ ?_ ?_)
   ·walk_at "RD"
    exact ⟨nl,rfl,⟨_,SqL.of (sI _ _ enl4)⟩,hR9⟩
   ·rintro j σ' Hc hj ⟨w1,rfl,s5,vs,ez,pz⟩
    have z1:SqL K Hc nl (ks.map V.int):=SqL.of (s5 _ _ (sI _ _ enl4))
    have x1:(ks.map V.int)[j]? = some ((ks.map V.int)[j]'(by rw [List.length_map]; omega)):=gE _
    refine ⟨⟨_,_,z1,x1⟩,?_⟩
    rintro y H' ⟨rfl,hy⟩
    obtain ⟨m,hm,rfl⟩:=jbt (hy _ z1)
    have hvl:vs.length <= 40:=by
     have:=Paired.length pz
     rw [List.length_map,List.length_take] at this
     omega
    walk_at "RD"
    intro tt htt
    have q5:=ja2 htt (.tup [.str (("fold":String):Str),.int m])
    have ett:upd H' tt (.tup [.str (("fold":String):Str),.int m]) tt = some (.tup [.str (("fold":String):Str),.int m]):=ja1
    have ev5:=q5 _ _ ez
    generalize upd H' tt (.tup [.str (("fold":String):Str),.int m]) = H5 at q5 ett ev5
    refine ⟨_,ev5,szl' (by omega),_,rfl,jao (s5.trans q5) hy6,vs ++ [.ref tt],ja1,?_⟩
    rw [jaq hm,List.map_append]
    have t6:=jba (ys:=vs ++ [.ref tt]) ev5
    exact jar (jb2 t6 (jb2 q5.tups pz)) (Sl.tups (l:=((("fold":String):Str),[m])) ⟨tt,rfl,ett⟩ t6)
   rintro σ' H6 ⟨w1,rfl,s6,v6,ez6,pz6⟩
   refine ⟨⟨_,SqL.of (s6 _ _ (sI _ _ enl4)),by rw [List.length_map]; omega⟩,?_⟩
   rw [List.take_length] at pz6
   have hv6:v6.length = ks.length:=by have:=Paired.length pz6; rw [List.length_map] at this; exact this
   simp_arith [s6 _ _ eL,ez6]
   refine ⟨szl (by omega),?_⟩
   intro L5 hL5
   have q7:=ja2 hL5 (.lst (zs ++ v6))
   refine ⟨L5,rfl,⟨_,SqL.of ja1⟩,hR' (L5,_) ⟨s6.trans q7,zs ++ v6,ds ++ (ks.map fun n=>((("fold":String):Str),[n])),ja1,jbx (jb2 (s6.trans q7).tups pz) (jb2 q7.tups pz6),fun d hd=>?_,?_⟩⟩
   ·rcases List.mem_append.mp hd with hd | hd
    ·exact cd d hd
    ·obtain ⟨n,hn,rfl⟩:=List.mem_map.mp hd
     exact jqs (.inr (.inr (.inr rfl))) (kin n hn)
   ·rw [List.length_append,List.length_map]
    omega
  obtain ⟨q,H5⟩:=q0
  obtain ⟨s5,zs,ds,eq,pz,cd,hdl⟩:=ok0
  dsimp only at s5 eq pz
  have s15:=s14.trans s5
  have hzl:zs.length = ds.length:=Paired.length pz
  refine fun z hz=>jaw zs.length (fun j σ' Hc=>∃ w1,σ' = [w1,some (.ref u)]/\Same H5 Hc/\∃ vs es,Hc z = some (.lst vs)/\Paired (Sl Hc) vs es/\(∀ d ∈ es,GoodS ps ts d)/\es.length <= j) ⟨none,rfl,ja2 hz _,[],[],ja1,.nil,(fun d hd=>by cases hd),Nat.le_refl _⟩ ?_ ?_
  ·rintro j σ' Hc hj ⟨w1,rfl,s6,vs,es,ez,pe,ge,hel⟩
   have z1:SqL K Hc q zs:=SqL.of (s6 _ _ eq)
   have x1:zs[j]? = some (zs[j]'(by omega)):=gE _
   refine ⟨⟨_,_,z1,x1⟩,?_⟩
   rintro y H' ⟨rfl,hy⟩
   obtain ⟨d,hd,sl⟩:=jas pz (hy _ z1)
   obtain ⟨tq,rfl,etq⟩:=sl.tups s6.tups
   have hc:=cd d (List.mem_of_getElem? hd)
   have hvl:vs.length = es.length:=Paired.length pe
   walk_at "RD"
   refine ⟨.ref u,tq,ps,ts,d.1,d.2,rfl,hw.same (s15.trans s6),wok,⟨etq,hc.form.ne.1,hc.ins⟩,hc.form,fun b H9 hb s9=>?_⟩
   walk_at "RD"
   refine ite2 (fun c=>?_) (fun c=>?_)
   ·have ez9:=s9 _ _ ez
    have t6:=jba (ys:=vs ++ [.ref tq]) ez9
    refine ⟨_,ez9,szl' (by omega),_,rfl,jao (s6.trans s9) hz,vs ++ [.ref tq],es ++ [d],ja1,jar (jb2 t6 (jb2 s9.tups pe)) (Sl.tups (Sl.tups ⟨tq,rfl,etq⟩ s9.tups) t6),fun d' hd'=>?_,by rw [List.length_append]; show _ + 1 <= _; omega⟩
    rcases List.mem_append.mp hd' with hd' | hd'
    ·exact ge d' hd'
    ·rw [List.mem_singleton.mp hd']
     exact ⟨hc.form,hc.ins,hb c⟩
   ·exact ⟨_,rfl,s6.trans s9,vs,es,s9 _ _ ez,jb2 s9.tups pe,ge,by omega⟩
  ·rintro σ' H9 ⟨w1,rfl,s9,vs,es,ez,pe,ge,hel⟩
   refine ⟨⟨_,SqL.of (s9 _ _ eq),Nat.le_refl _⟩,?_⟩
   exact h z H9 vs es (s15.trans s9) (s15.free hz) ez pe ge (by omega)
theorem jj4 (B:Blt mg) (D:DefAt K mg "_law_steps" (top 88) ["_law_state","_law_web_here","_law_first"] f fd) (Dq5:DefAt K mg "_law_all" (top 80) ["_law_web_here"] fq5 dq5) (Gq5:FnOk P w K mg base CX0 4 fq5 dq5 ["_law_web_here"] jrc) (Dqa:DefAt K mg "_law_take" (top 67) ["_law_state","_law_many"] fqa dqa) (Gqa:FnOk P w K mg base CX0 1 fqa dqa ["_law_state","_law_many"] jdm):FnOk P w K mg base CX0 5 f fd ["_law_state","_law_web_here","_law_first"] jll:=by
 have sc:FnScope ["_law_state","_law_web_here","_law_first","_law_steps_here","_law_at"] ["_law_state","_law_web_here","_law_first"] (jab (top 88)):=by walk_at "SC"
 refine D.F.ok sc (fun vs H Q E h=>?_) (fun cdv A outer s H vs Q E hr h=>?_)
 ·obtain ⟨st,o,v,b,ps,ts,rfl,_⟩:=h
  rfl
 obtain ⟨st,o,v,b,ps,ts,rfl,es,so,hw,wok,hl8,h⟩:=h
 have hu:=jb8 hr
 have hu0:_ < PySem.cLine:=Nat.lt_of_succ_lt hu
 refine ⟨_,(ja4 (jak (i:=3) sc.nd rfl (Or.inl rfl) (ja8 Gq5 (hr.mono (by decide)) rfl Dq5.m Dq5.F.kp Dq5.b .nil jan (ja0 (qv 1) ja3))) (ja4 (jb3 (jal (jfs hr.units) (qv 3) (jb6 ja3) (jag _)) (ja7 (jah (jb6 ja3))) jaj) (ja4 (jak (i:=4) sc.nd rfl (Or.inl rfl) (ja8 Gqa (hr.mono (by decide)) rfl Dqa.m Dqa.F.kp Dqa.b .nil jan (ja0 (qv 0) (ja0 (jaf jdl rfl B.len PySem.boot_len (ja0 (qv 3) ja3)) ja3)))) (ja4 (jb3 (jc8 (qv 2)) (ja7 (jah (jc3 jf3 (jay jcv (jc3 jf3 (qv 3) (jc4 (qv 4)) jd2) (jc3 jf3 (qv 3) jd2 (jc4 (qv 4)))) jd2 (jc4 ja5)))) jaj) (ja7 (jah (jb6 (ja0 (jam q_ix (qv 3) (qv 4) (fun _ _=>rfl)) ja3)))))))),?_⟩
 refine ja6 fun R hR=>?_
 walk_at "RD"
 refine ⟨v,ps,ts,rfl,hw,wok,hl8,fun r H1 zs ds s1 hr er pz gd hdl=>?_⟩
 have hzl:zs.length = ds.length:=Paired.length pz
 walk_at "RD"
 subst hR
 refine ja6 fun R hR=>?_
 walk_at "RD"
 intro e1 he1
 have t1:=ja2 he1 (.lst [])
 have ee1:upd H1 e1 (.lst []) e1 = some (.lst []):=ja1
 generalize upd H1 e1 (.lst []) = H2 at t1 ee1
 have s2:=s1.trans t1
 have pz2:=jb2 t1.tups pz
 have er2:=t1 _ _ er
 refine ⟨.lst (ds.map slD),.lst [],by rw [Rep]; exact ⟨_,_,rfl,er2,jln pz2⟩,jd1 ee1,by rw [depP]; have:=jm7 ds; omega,.inl ⟨_,_,rfl,rfl⟩,?_⟩
 rw [jsi]
 by_cases c0:ds = []
 ·rw [decide_eq_true c0]
  walk_at "RD"
  intro L hL
  exact h L _ o [] [] (fun b u nb q=>ja2 hL _ _ _ (s2 _ _ q)) (ja2 hL _ _ _ (s2 _ _ es)) so (s2.free hL) ja1 .nil (fun d hd=>by cases hd)
 rw [decide_eq_false c0]
 simp only [Bool.false_eq_true,if_false]
 subst hR
 refine ja6 fun R hR=>?_
 have hdp:0 < ds.length:=List.length_pos_iff.mpr c0
 simp_arith [jai,er2]
 refine ⟨st,o,(zs.length:Int),rfl,s2 _ _ es,so,by omega,by omega,fun g oA g0 g1 soA=>?_⟩
 have bA:But st H2 (upd H2 st oA):=But.at st H2 oA
 have tA:=bA.tups (s2 _ _ es) so.imm
 have eA:upd H2 st oA st = some oA:=ja1
 generalize upd H2 st oA = HA at bA tA eA
 have bHA:But st H HA:=fun b u nb q=>bA _ _ nb (s2 _ _ q)
 have nr:r ≠ st:=fun e=>by rw [e,es] at hr; cases hr
 have erA:=bA _ _ nr er2
 have pzA:=jb2 tA pz2
 have frA:∀ x,HA x = none->H x = none:=fun x hx=>by
  cases q:H x with
  | none=>rfl
  | some o9 =>
   by_cases c:x = st
   ·rw [c,eA] at hx; cases hx
   ·rw [bHA _ _ c q] at hx; cases hx
 walk_at "RD"
 subst hR
 refine ja6 fun R hR=>?_
 walk_at "RD"
 cases b with
 | true =>
  simp_arith [erA]
  intro l1 hl1
  rw [jej g0]
  have q1:=ja2 hl1 (.lst (zs.drop g.toNat))
  have el1:upd HA l1 (.lst (zs.drop g.toNat)) l1 = some (.lst (zs.drop g.toNat)):=ja1
  generalize upd HA l1 (.lst (zs.drop g.toNat)) = HB at q1 el1
  simp_arith [q1 _ _ erA]
  intro l2 hl2
  rw [ji2 g0]
  have q2:=ja2 hl2 (.lst (zs.take g.toNat))
  have el2:upd HB l2 (.lst (zs.take g.toNat)) l2 = some (.lst (zs.take g.toNat)):=ja1
  have el1':=q2 _ _ el1
  generalize upd HB l2 (.lst (zs.take g.toNat)) = HC at q2 el2 el1'
  simp_arith [el1',el2]
  refine ⟨szl (by rw [List.length_drop,List.length_take]; omega),?_⟩
  intro l3 hl3
  have q3:=ja2 hl3 (.lst (zs.drop g.toNat ++ zs.take g.toNat))
  have el3:upd HC l3 (.lst (zs.drop g.toNat ++ zs.take g.toNat)) l3 = some (.lst (zs.drop g.toNat ++ zs.take g.toNat)):=ja1
  generalize upd HC l3 (.lst (zs.drop g.toNat ++ zs.take g.toNat)) = HD at q3 el3
  have q13:=q1.trans (q2.trans q3)
  simp_arith [el3]
  intro l4 hl4
  rw [ji2 (by decide)]
  have q4:=q13.trans (ja2 hl4 (.lst ((zs.drop g.toNat ++ zs.take g.toNat).take (Int.toNat 6))))
  refine h l4 _ oA _ ((ds.drop g.toNat ++ ds.take g.toNat).take (Int.toNat 6)) (fun b u nb q=>q4 _ _ (bHA _ _ nb q)) (q4 _ _ eA) soA (frA _ (q13.free hl4)) ja1 (jb2 q4.tups (jdf _ (jbx (je3 _ pzA) (jdf _ pzA)))) (fun d hd=>gd d ?_)
  rcases List.mem_append.mp (List.mem_of_mem_take hd) with hd | hd
  ·exact List.mem_of_mem_drop hd
  ·exact List.mem_of_mem_take hd
 | false =>
  walk_at "RD"
  subst hR
  have hg:zs[g.toNat]? = some (zs[g.toNat]'(by omega)):=gE _
  obtain ⟨d,hd,fx⟩:=jas pzA hg
  have eg:=jcp hg
  rw [show ((g.toNat:Nat):Int) = g by omega] at eg
  simp_arith [jai,erA,eg]
  intro L9 hL9
  exact h L9 _ oA _ [d] (fun b u nb q=>ja2 hL9 _ _ _ (bHA _ _ nb q)) (ja2 hL9 _ _ _ eA) soA (frA _ hL9) ja1 (.cons (fx.tups (ja2 hL9 _).tups) .nil) (fun d' hd'=>by rw [List.mem_singleton.mp hd']; exact gd d (List.mem_of_getElem? hd))
def SeOk (kvs:List (Key × V)):Int->List Int->Prop
 | _,[]=>True
 | l,n :: r=>(hasK kvs n = true/\l < n)/\SeOk kvs n r
theorem SeOk.gt {kvs:List (Key × V)}:∀ {ss:List Int} {l:Int},SeOk kvs l ss->∀ n ∈ ss,l < n
 | [],_,_,_,h=>by cases h
 | q :: r,l,h,n,hn=>by
  rcases List.mem_cons.mp hn with e | hn
  ·rw [e]; exact h.1.2
  ·have:=SeOk.gt h.2 n hn
   have:=h.1.2
   omega
theorem SeOk.nodup {kvs:List (Key × V)}:∀ {ss:List Int} {l:Int},SeOk kvs l ss->ss.Nodup
 | [],_,_=>List.nodup_nil
 | q :: r,l,h=>List.nodup_cons.mpr ⟨fun hm=>by have:=SeOk.gt h.2 q hm; omega,SeOk.nodup h.2⟩
theorem jk3.same {H H':Hp} {v:V} {ss:List Int} (h:jk3 H v ss) (s:Same H H'):jk3 H' v ss:=let ⟨a,e,q⟩:=h; ⟨a,e,s _ _ q⟩
structure SetIn (ps:List (Int × Int)) (ss:List Int):Prop where
 len:ss.length <= 40
 ok:SeOk (jav ps) (-1) ss
def jnu:Sp:=fun vs H Q _=>∃ v u ps ts ss,vs = [v,u]/\jbg H v ps ts/\WebOk ps ts/\jk3 H u ss/\SetIn ps ss/\∀ H',Same H H'->Q (.bl true) H'
def jiq:Sp:=fun vs H Q _=>∃ v u ps ts ss,vs = [v,u]/\jbg H v ps ts/\WebOk ps ts/\jk3 H u ss/\SetIn ps ss/\∀ H',Same H H'->Q .non H'
def jjk (ss:List Int) (ts:List (Int × Int)):List (Int × Int):=ts.filter fun t=>!decide (t.1 ∈ ss) && !decide (t.2 ∈ ss)
def jlk:Sp:=fun vs H Q _=>∃ v u ps ts ss,vs = [v,u]/\jbg H v ps ts/\WebOk ps ts/\jk3 H u ss/\SetIn ps ss/\∀ l zs H',H l = none->Same H H'->H' l = some (.lst zs)->Prs H' zs (jjk ss ts)->Q (.ref l) H'
theorem jol (B:Blt mg) (D:DefAt K mg "is_set" (top 51) ["web","thing"] f fd) (Dqn:DefAt K mg "look_at_web" (top 29) ["thing"] fqn dqn) (Gqn:FnOk P w K mg base CX0 5 fqn dqn ["thing"] jfl) (Dqj:DefAt K mg "is_place" (top 30) ["prices","thing"] fqj dqj) (Gqj:FnOk P w K mg base CX0 2 fqj dqj ["prices","thing"] jfn):FnOk P w K mg base CX0 6 f fd ["web","thing"] jnu:=by
 have sc:FnScope ["web","thing","prices","last","place"] ["web","thing"] (jab (top 51)):=by walk_at "SC"
 refine D.F.ok sc (fun vs H Q E h=>?_) (fun cdv A outer s H vs Q E hr h=>?_)
 ·obtain ⟨v,u,ps,ts,ss,rfl,_⟩:=h
  rfl
 obtain ⟨v,u,ps,ts,ss,rfl,hw,wok,hset,sin,h⟩:=h
 obtain ⟨x,pa,ta,xs,ys,rfl,ex,ep,et,pp,pt⟩:=id hw
 obtain ⟨sa,rfl,es⟩:=id hset
 have hlx:xs.length = ps.length:=Paired.length pp
 have okl:=wok.pl
 have hu:=jb8 hr
 have hu0:_ < PySem.cLine:=Nat.lt_of_succ_lt hu
 refine ⟨_,(ja4 (jc7 (ja8 Gqn (hr.mono (by decide)) rfl Dqn.m Dqn.F.kp Dqn.b .nil jan (ja0 (qv 0) ja3))) (ja4 (jb3 (jcw (jc8 (jaf (jit .lst) rfl B.isinstance PyProof.Rows.boot_isinstance (ja0 (qv 1) (ja0 (jdr (v:=.ty "list") rfl B.list PyProof.Rows.boot_list rfl) ja3))))) (ja7 (jah jdd)) jaj) (ja4 (jak (i:=2) sc.nd rfl (Or.inl rfl) (jbf (jdq rfl) rfl B.dict PyProof.Rows.boot_dict (ja0 (jam q_ix (qv 0) ja5 (fun _ _=>rfl)) ja3))) (ja4 (jak (i:=3) sc.nd rfl (Or.inl rfl) (jfr jfp ja5)) (ja4 (jc5 PassesOwn.never rfl (jau (qv 1)) (jad (i:=4) sc.nd rfl (Or.inl rfl)) (ja4 (jb3 (PW.pt (jf4 (jcw (jc8 (ja8 Gqj (hr.mono (by decide)) rfl Dqj.m Dqj.F.kp Dqj.b .nil jan (ja0 (qv 2) (ja0 (qv 4) ja3))))) (je1 (jal q_le (qv 4) (qv 3) (jag _))))) (ja7 (jah jdd)) jaj) (ja7 (jak (i:=3) sc.nd rfl (Or.inl rfl) (qv 4))))) (ja7 (jah jdd))))))),?_⟩
 walk_at "RD"
 refine ⟨_,ps,ts,rfl,hw,wok,fun H1 s1=>?_⟩
 simp_arith [kd,s1 _ _ es,isi,jai,s1 _ _ ex,s1 _ _ ep,at0]
 refine ⟨jav ps,jde (Prs.same s1 pp),by omega,jcs wok.p.nodup,fun d hd=>?_⟩
 have s2:Same H (upd H1 d (.dK (jav ps))):=s1.trans (ja2 hd _)
 have ed:upd H1 d (.dK (jav ps)) d = some (.dK (jav ps)):=ja1
 generalize upd H1 d (.dK (jav ps)) = H2 at s2 ed
 refine jbq (Itl K sa) H2 (fun R hR=>?_) (jby (K:=K) (a:=sa) (xs:=ss.map V.int) (fun i σ H3=>∃ l pl,σ = [some (.ref x),some (.ref sa),some (.ref d),some (.int l),pl]/\Same H2 H3/\SeOk (jav ps) l (ss.drop i)) ⟨-1,none,rfl,Same.refl _,sin.ok⟩ (fun i σ H3 _ ⟨_,_,_,s3,_⟩=>SqL.of (s3 _ _ (s2 _ _ es))) ?_ ?_)
 ·unfold jbd
  walk_at "RD"
  exact ⟨sa,rfl,⟨_,SqL.of (s2 _ _ es)⟩,hR⟩
 ·rintro i y σ H3 hi ⟨l,pl,rfl,s3,ok3⟩
  rw [List.getElem?_map] at hi
  obtain ⟨n,hn,rfl⟩:=Option.map_eq_some_iff.mp hi
  rw [jhz hn] at ok3
  have hk:=ok3.1.1
  walk_at "RD"
  refine ⟨d,n,_,rfl,s3 _ _ ed,hk,?_⟩
  simp_arith [decide_eq_false (show ¬ n <= l by have:=ok3.1.2; omega)]
  exact ⟨_,_,rfl,s3,ok3.2⟩
 ·rintro σ H3 ⟨l,pl,rfl,s3,_⟩
  walk_at "RD"
  exact h H3 (s2.trans s3)
theorem jgd (B:Blt mg) (D:DefAt K mg "look_at_set" (top 52) ["web","thing"] f fd) (Dq3:DefAt K mg "is_set" (top 51) ["web","thing"] fq3 dq3) (Gq3:FnOk P w K mg base CX0 6 fq3 dq3 ["web","thing"] jnu):FnOk P w K mg base CX0 7 f fd ["web","thing"] jiq:=by
 have sc:FnScope ["web","thing"] ["web","thing"] (jab (top 52)):=by walk_at "SC"
 refine D.F.ok sc (fun vs H Q E h=>?_) (fun cdv A outer s H vs Q E hr h=>?_)
 ·obtain ⟨v,u,ps,ts,ss,rfl,_⟩:=h
  rfl
 obtain ⟨v,u,ps,ts,ss,rfl,hw,wok,hset,sin,h⟩:=h
 have hu:=jb8 hr
 have hu0:_ < PySem.cLine:=Nat.lt_of_succ_lt hu
 refine ⟨_,(ja7 (jb3 (jcw (jc8 (ja8 Gq3 (hr.mono (by decide)) rfl Dq3.m Dq3.F.kp Dq3.b .nil jan (ja0 (qv 0) (ja0 (qv 1) ja3))))) (ja7 jdc) jaj)),?_⟩
 walk_at "RD"
 refine ⟨_,_,ps,ts,ss,rfl,hw,wok,hset,sin,fun H1 s1=>?_⟩
 walk_at "RD"
 exact h H1 s1
theorem jmp (B:Blt mg) (D:DefAt K mg "left_by" (top 53) ["web","some"] f fd) (Dzm:DefAt K mg "look_at_set" (top 52) ["web","thing"] fzm dzm) (Gzm:FnOk P w K mg base CX0 7 fzm dzm ["web","thing"] jiq) (Dqo:DefAt K mg "marked" (top 19) ["places"] fqo dqo) (Gqo:FnOk P w K mg base CX0 1 fqo dqo ["places"] jhe):FnOk P w K mg base CX0 8 f fd ["web","some"] jlk:=by
 have sc:FnScope ["web","some","chosen"] ["web","some"] (jab (top 53)):=by walk_at "SC"
 refine D.F.ok sc (fun vs H Q E h=>?_) (fun cdv A outer s H vs Q E hr h=>?_)
 ·obtain ⟨v,u,ps,ts,ss,rfl,_⟩:=h
  rfl
 obtain ⟨v,u,ps,ts,ss,rfl,hw,wok,hset,sin,h⟩:=h
 obtain ⟨x,pa,ta,xs,ys,rfl,ex,ep,et,pp,pt⟩:=id hw
 have hly:ys.length = ts.length:=Paired.length pt
 have okl:=wok.tl
 have okq:=sin.len
 have hu:=jb8 hr
 have hu0:_ < PySem.cLine:=Nat.lt_of_succ_lt hu
 refine ⟨_,(ja4 (jc7 (ja8 Gzm (hr.mono (by decide)) rfl Dzm.m Dzm.F.kp Dzm.b .nil jan (ja0 (qv 0) (ja0 (qv 1) ja3)))) (ja4 (jak (i:=2) sc.nd rfl (Or.inr rfl) (ja8 Gqo (hr.mono (by decide)) rfl Dqo.m Dqo.F.kp Dqo.b .nil jan (ja0 (qv 1) ja3))) (ja7 (jah (jbb (CpScope.of (N:=["one","other","chosen"]) (src:=[none,none,some 2]) (by rfl)) rfl (jau (jam q_ix (qv 0) ja5 (fun _ _=>rfl))) (fun _ _ _ _=>(jc9 (n:=2) rfl (jat (jad (i:=0) (jac (l:=["one","other","chosen"]) (by rfl)) rfl (Or.inl rfl)) (jat (jad (i:=1) (jac (l:=["one","other","chosen"]) (by rfl)) rfl (Or.inl rfl)) jbr)))) (fun _ _ _ _=>(jc1 (PW.pt (jcm (jmk (jhj hu (qv 0) (qv 2))) (jc0 (jmk (jhj hu (qv 1) (qv 2)))))))) (fun _ _ _ _=>(jb4 (ja0 (qv 0) (ja0 (qv 1) ja3))))))))),?_⟩
 walk_at "RD"
 refine ⟨_,_,ps,ts,ss,rfl,hw,wok,hset,sin,fun H1 s1=>?_⟩
 walk_at "RD"
 refine ⟨_,ss,rfl,hset.same s1,sin.ok.nodup,by omega,fun d H2 hd s2 ed=>?_⟩
 have s3:=s1.trans s2
 walk_at "RD"
 refine jap (Itl K ta) H2 (fun R hR=>?_) (fun l hl0=>jaw ts.length (fun i σ' Hc=>∃ w1 w2 zs,σ' = [w1,w2,some (.ref d)]/\Same H2 Hc/\Hc l = some (.lst zs)/\Prs Hc zs (jjk ss (ts.take i))) ⟨none,none,[],rfl,ja2 hl0 _,ja1,.nil⟩ ?_ ?_)
 ·unfold jbd
  simp_arith [jai,s3 _ _ ex,at1]
  exact ⟨ta,rfl,⟨_,SqL.of (s3 _ _ et)⟩,hR⟩
 ·rintro i σ' Hc hi ⟨w1,w2,zs,rfl,s4,ez,pz⟩
  have x1:ys[i]? = some (ys[i]'(by omega)):=gE _
  have z1:SqL K Hc ta ys:=SqL.of (s4 _ _ (s3 _ _ et))
  have hlz:zs.length = (jjk ss (ts.take i)).length:=Paired.length pz
  have hlz2:zs.length <= i:=by
   rw [hlz]
   refine Nat.le_trans (List.length_filter_le _ _) ?_
   rw [List.length_take]
   omega
  refine ⟨⟨_,_,z1,x1⟩,?_⟩
  rintro y H' ⟨rfl,hy⟩
  obtain ⟨q,hq,pq⟩:=jas pt (hy _ z1)
  obtain ⟨t,rfl,ht⟩:=pq.same (s3.trans s4)
  have ft:=jbo (f:=fun t=>!decide (t.1 ∈ ss) && !decide (t.2 ∈ ss)) hq
  simp_arith [ht,s4 _ _ ed,jop]
  have no:∀ b:Bool,b = false->(∃ w1 w2 zs_1,[some (V.int q.1),some (V.int q.2),some (.ref d)] = [w1,w2,some (.ref d)]/\Same H2 H'/\H' l = some (.lst zs_1)/\Prs H' zs_1 (jjk ss (ts.take i) ++ if b = true then [q] else [])):=fun b hb=>by
   subst hb
   refine ⟨_,_,zs,rfl,s4,ez,?_⟩
   rw [if_neg Bool.false_ne_true,List.append_nil]
   exact pz
  unfold jjk
  rw [ft]
  by_cases c1:q.1 ∈ ss
  ·simp only [c1,decide_true,Bool.not_true,Bool.false_and,Bool.false_eq_true,if_false,if_true]
   exact no false rfl
  by_cases c2:q.2 ∈ ss
  ·simp only [c1,c2,decide_true,decide_false,Bool.not_true,Bool.not_false,Bool.and_false,Bool.false_eq_true,if_false,if_true]
   exact no false rfl
  simp only [c1,c2,decide_false,Bool.not_false,Bool.and_true,Bool.and_self,if_true]
  intro t2 ht2
  have ez2:=ja2 ht2 (.tup [.int q.1,.int q.2]) _ _ ez
  have t6:=jba (ys:=zs ++ [.ref t2]) ez2
  refine ⟨zs,ez2,szl' (by omega),_,_,zs ++ [.ref t2],rfl,jao (s4.trans (ja2 ht2 _)) hl0,(by first | rfl | exact ja1),?_⟩
  exact jar (Prs.tups ((jcz ht2).trans t6) pz) (Pr.tups ⟨t2,rfl,ja1⟩ t6)
 ·rintro σ' Hc ⟨w1,w2,zs,rfl,s4,ez,pz⟩
  refine ⟨⟨_,SqL.of (s4 _ _ (s3 _ _ et)),by omega⟩,?_⟩
  rw [List.take_length] at pz
  exact h l zs Hc (s3.free hl0) (s3.trans s4) ez pz
end
end My
namespace L2
open PySem PySem.Spec PyProof.Rows
section
variable {X:Cx} {o e:Expr} {es:List Expr} {to te:TE} {t:TA} {name:Str} {apos cpos pos:Pos} {id:String} {r:V->List V->Hp->VK->Prop}
def fTru (te:TE):TT:=fun σ H Q=>te σ H fun x H1=>match x with
 | .str z=>z.length <= sizeLine/\Q (decide (z.length ≠ 0)) H1
 | .ref a=>match H1 a with
  | some (.lst xs)=>Q (decide (xs.length ≠ 0)) H1
  | _=>False
 | _=>False
end
section
variable {X:Cx} {a:Expr} {ta:TE} {pos:Pos}
theorem qt_tru (ha:PE X a ta) (he:∀ whole,isTrue a X.env whole = (do let v <- whole; standAt a.pos; holding [v] (truthy v)):=by exact fun _=>rfl):PT X a (fTru ta):=by
 intro pins s σ H Q I h
 refine isTrue_plain (thn (ha pins s σ H _ I h) fun v s1 ⟨x,H1,I1,r1,q1⟩=>?_) (he _)
 cases x with
 | str z =>
  refine jr0 pins s1 σ H1 _ v Q I1 r1 ⟨_,⟨q1.1,rfl⟩,?_⟩
  have e:((z.length:Int) != 0) = decide (z.length ≠ 0):=by
   by_cases c:z.length = 0
   ·rw [c]; rfl
   ·rw [decide_eq_true c]
    simp only [bne_iff_ne,ne_eq]
    omega
  rw [e]
  exact q1.2
 | ref p =>
  dsimp only at q1
  split at q1
  ·rename_i xs e
   refine jr0 pins s1 σ H1 _ v Q I1 r1 ⟨decide (xs.length ≠ 0),?_,q1⟩
   exact .inl ⟨xs,SqL.of e,by cases xs <;> rfl⟩
  ·exact q1.elim
 | _=>exact q1.elim
end
section
variable {X:Cx} {tg:Expr}
end
end L2
namespace My
open PySem L2
section
variable {P:Program} {w:World} {K:PySem.W.Frag} {mg:Str->Option Value} {base:Heap} {c1 c2 c3 c4:Tok} {C_NoWeb fqq:Addr} {dI:FuncData}
theorem PlOk.lts:∀ {ps:List (Int × Int)} {l s:Int},PlOk l s ps->(ps.map (·.1)).Pairwise (· < ·)
 | [],_,_,_=>List.Pairwise.nil
 | p :: r,l,s,h=>by
  rw [List.map_cons,List.pairwise_cons]
  refine ⟨fun n hn=>?_,PlOk.lts h.2⟩
  obtain ⟨q,hq,rfl⟩:=List.mem_map.mp hn
  exact PlOk.gt h.2 q hq
theorem jqf {a b:Int × Int} (h:jee a b) (g:jee b a):a = b:=by
 unfold jee at h g
 obtain ⟨a1,a2⟩:=a
 obtain ⟨b1,b2⟩:=b
 dsimp only at h g
 have e1:a1 = b1:=by omega
 have e2:a2 = b2:=by omega
 rw [e1,e2]
theorem js9 {qs ts:List (Int × Int)} {w:Str} {ns:List Int} {a b:List (Int × Int)} (h:jlc qs ts w ns a) (g:jlc qs ts w ns b):a = b:=by
 rcases h with ⟨n1,e1⟩ | ⟨rfl,d1,k1,m1,p1,s1⟩
 ·rcases g with ⟨_,e2⟩ | ⟨e,_⟩
  ·rw [e1,e2]
  ·exact absurd e n1
 ·rcases g with ⟨n2,_⟩ | ⟨_,d2,k2,m2,p2,s2⟩
  ·exact absurd rfl n2
  ·have pd:d1.Perm d2:=(List.perm_ext_iff_of_nodup k1 k2).mpr fun n=>(m1 n).trans (m2 n).symm
   have pab:a.Perm b:=p1.trans ((List.Perm.append_left _ (pd.map _)).trans p2.symm)
   exact List.Perm.eq_of_pairwise (fun x y _ _ hx hy=>jqf hx hy) s1 s2 pab
theorem jrx {ps ts:List (Int × Int)} (wok:WebOk ps ts):ts.length <= ps.length * ps.length:=by
 have kge:∀ n ∈ ps.map (·.1),0 <= n/\n < 1000:=fun n hn=>by
  obtain ⟨q,hq,rfl⟩:=List.mem_map.mp hn
  have g1:=wok.p.gt q hq
  have g2:=(wok.p.pos q hq).2
  exact ⟨by omega,by omega⟩
 have tin:∀ t ∈ ts,t.1 ∈ ps.map (·.1)/\t.2 ∈ ps.map (·.1):=fun t ht=>by
  obtain ⟨_,a2,a3⟩:=TiOk.ats wok.t t ht
  rw [jbm] at a2 a3
  exact ⟨of_decide_eq_true a2,of_decide_eq_true a3⟩
 have h:=jd0 (a:=ts.map fun t=>1000 * t.1 + t.2) (b:=ps.flatMap fun p=>ps.map fun q=>1000 * p.1 + q.1) ?_ ?_
 ·rw [List.length_map,List.length_flatMap] at h
  have e:(ps.map fun p=>(ps.map fun q=>1000 * p.1 + q.1).length) = ps.map fun _=>ps.length:=by
   congr 1
   funext p
   rw [List.length_map]
  rw [e,List.map_const',List.sum_replicate_nat] at h
  exact h
 ·unfold List.Nodup
  rw [List.pairwise_map]
  refine List.Pairwise.imp_of_mem (fun {x y} hx hy hne e=>hne ?_) (TiOk.nodup wok.t)
  have gx:=kge _ (tin x hx).2
  have gy:=kge _ (tin y hy).2
  obtain ⟨x1,x2⟩:=x
  obtain ⟨y1,y2⟩:=y
  dsimp only at e gx gy
  have e1:x1 = y1:=by omega
  have e2:x2 = y2:=by omega
  rw [e1,e2]
 ·intro n hn
  obtain ⟨t,ht,rfl⟩:=List.mem_map.mp hn
  obtain ⟨g1,g2⟩:=tin t ht
  obtain ⟨p,hp,e1⟩:=List.mem_map.mp g1
  obtain ⟨q,hq,e2⟩:=List.mem_map.mp g2
  rw [List.mem_flatMap]
  exact ⟨p,hp,List.mem_map.mpr ⟨q,hq,by rw [e1,e2]⟩⟩
theorem PlOk.sum:∀ {ps:List (Int × Int)} {l s:Int},PlOk l s ps->ps ≠ []->s + sumP ps <= 1000000000000
 | [],_,_,_,h=>absurd rfl h
 | [p],l,s,h,_=>by
  have:=h.1.2.2.2
  rw [jb1,show sumP [] = 0 from rfl]
  omega
 | p :: q :: r,l,s,h,_=>by
  have:=PlOk.sum h.2 (fun z=>by cases z)
  rw [jb1]
  omega
theorem jfi (f:Int × Int->Bool):∀ (qs:List (Int × Int)),sumP qs = sumP (qs.filter f) + sumP (qs.filter fun q=>!(f q))
 | []=>rfl
 | q :: r=>by
  have ih:=jfi f r
  cases c:f q with
  | true=>rw [List.filter_cons_of_pos c,List.filter_cons_of_neg (by rw [c]; decide),jb1,jb1,ih]; omega
  | false=>rw [List.filter_cons_of_neg (by rw [c]; decide),List.filter_cons_of_pos (by rw [c]; rfl),jb1,jb1,ih]; omega
theorem jpz {a b:List Int} (h:a.Perm b):a.sum = b.sum:=by
 induction h with
 | nil=>rfl
 | cons x _ ih=>rw [List.sum_cons,List.sum_cons,ih]
 | swap x y l=>rw [List.sum_cons,List.sum_cons,List.sum_cons,List.sum_cons]; omega
 | trans _ _ i j=>exact i.trans j
theorem jl6 {qs:List (Int × Int)} {g:List Int} (hn:(qs.map (·.1)).Nodup) (hg:g.Nodup) (hin:∀ n ∈ g,n ∈ qs.map (·.1)):jbk qs g = sumP (qs.filter fun q=>decide (q.1 ∈ g)):=by
 have pm:g.Perm ((qs.filter fun q=>decide (q.1 ∈ g)).map (·.1)):=by
  refine (List.perm_ext_iff_of_nodup hg (List.Nodup.sublist (List.Sublist.map _ List.filter_sublist) hn)).mpr fun n=>⟨fun h=>?_,fun h=>?_⟩
  ·obtain ⟨q,hq,rfl⟩:=List.mem_map.mp (hin n h)
   exact List.mem_map_of_mem (f:=fun q:Int × Int=>q.1) (List.mem_filter.mpr ⟨hq,decide_eq_true h⟩)
  ·obtain ⟨q,hq,rfl⟩:=List.mem_map.mp h
   exact of_decide_eq_true (List.mem_filter.mp hq).2
 have e:(g.map (prc qs)).sum = (((qs.filter fun q=>decide (q.1 ∈ g)).map (·.1)).map (prc qs)).sum:=jpz (pm.map (prc qs))
 unfold jbk sumP
 rw [e,List.map_map]
 congr 1
 exact List.map_congr_left fun q hq=>joa hn (List.mem_filter.mp hq).1
theorem jo0 {u x:Int} {ps:List (Int × Int)} (h:u ∉ ps.map (·.1)):setP u x ps = ps:=by
 unfold setP
 refine (List.map_congr_left fun p hp=>?_).trans (List.map_id ps)
 rw [if_neg fun e=>h (by rw [<- e]; exact List.mem_map_of_mem (f:=fun q:Int × Int=>q.1) hp)]
 rfl
theorem jlo {u x y:Int}:∀ {ps:List (Int × Int)},(ps.map (·.1)).Nodup->(u,y) ∈ ps->sumP (setP u x ps) = sumP ps - y + x
 | [],_,h=>by cases h
 | p :: r,hn,h=>by
  rw [List.map_cons,List.nodup_cons] at hn
  have e:setP u x (p :: r) = (if p.1 = u then (p.1,x) else p) :: setP u x r:=rfl
  rw [e,jb1,jb1]
  by_cases c:p.1 = u
  ·rw [if_pos c,jo0 (by rw [<- c]; exact hn.1)]
   rcases List.mem_cons.mp h with h | h
   ·rw [<- h]
    show x + sumP r = y + sumP r - y + x
    omega
   ·exact absurd (List.mem_map_of_mem (f:=fun q:Int × Int=>q.1) h) (by show ¬ u ∈ _; rw [<- c]; exact hn.1)
  ·rw [if_neg c]
   rcases List.mem_cons.mp h with h | h
   ·exact absurd (by rw [<- h]) c
   ·rw [jlo hn.2 h]; omega
theorem jq6 {u x:Int} {ps:List (Int × Int)} {q:Int × Int} (h:q ∈ setP u x ps):q ∈ ps \/ (q.1 = u/\q.2 = x):=by
 unfold setP at h
 obtain ⟨p,hp,e⟩:=List.mem_map.mp h
 by_cases c:p.1 = u
 ·rw [if_pos c] at e
  exact .inr ⟨by rw [<- e]; exact c,by rw [<- e]⟩
 ·rw [if_neg c] at e
  exact .inl (by rw [<- e]; exact hp)
theorem jhk {ps:List (Int × Int)} {n:Int} (hn:(ps.map (·.1)).Nodup) (h:n ∈ ps.map (·.1)):(n,prc ps n) ∈ ps:=by
 obtain ⟨p,hp,rfl⟩:=List.mem_map.mp h
 rw [joa hn hp]
 exact hp
theorem jqq {ps:List (Int × Int)} {u x:Int} {g:List Int} (hn:(ps.map (·.1)).Nodup) (hin:∀ n ∈ g,n ∈ ps.map (·.1)) (hu:u ∉ g):jbk (setP u x ps) g = jbk ps g:=by
 unfold jbk
 congr 1
 refine List.map_congr_left fun n hg=>?_
 have hp:=jhk hn (hin n hg)
 have ne:n ≠ u:=fun e=>hu (by rw [<- e]; exact hg)
 have hq:(n,prc ps n) ∈ setP u x ps:=by
  unfold setP
  exact List.mem_map.mpr ⟨_,hp,if_neg ne⟩
 have hn2:((setP u x ps).map (·.1)).Nodup:=by rw [jdo]; exact hn
 exact joa hn2 hq
theorem jqr {ps ts:List (Int × Int)} {w:Str} {ns:List Int} (wok:WebOk ps ts) (hne:ns ≠ []) (hin:∀ n ∈ ns,n ∈ ps.map (·.1)) (ok:okS ps ts w ns) :
  (∀ n ∈ (chgF ps ts w ns).1,n ∈ ps.map (·.1))/\((chgF ps ts w ns).2.1 = [] \/ ∃ u x,(chgF ps ts w ns).2.1 = [(u,x)]/\u ∈ ps.map (·.1)/\u ∉ (chgF ps ts w ns).1/\1 <= x/\x <= prc ps u + jbk ps (chgF ps ts w ns).1):=by
 have lt:∀ t ∈ ts,t.1 < t.2:=fun t ht=>(TiOk.ats wok.t t ht).1
 have hnd:=wok.p.nodup
 have pos:∀ n ∈ ps.map (·.1),1 <= prc ps n:=fun n hn=>(wok.p.pos _ (jhk hnd hn)).1
 have hv:=hin _ (jdh hne)
 have cost0:∀ g:List Int,(∀ n ∈ g,n ∈ ps.map (·.1))->0 <= jbk ps g:=fun g hg=>by
  unfold jbk
  induction g with
  | nil=>exact Int.le_refl _
  | cons a r ih =>
   rw [List.map_cons,List.sum_cons]
   have:=ih fun n hn=>hg n (List.mem_cons_of_mem _ hn)
   have:=pos a (hg a (List.mem_cons_self ..))
   omega
 have one:∀ n:Int,jbk ps [n] = prc ps n:=fun n=>by unfold jbk; simp
 rcases ok with ⟨nf,ok⟩ | ⟨ef,v,rfl,ok⟩
 ·unfold chgF
  rw [if_neg nf]
  unfold chg
  by_cases c1:w = (("near":String):Str)
  ·rw [if_pos c1]
   refine ⟨fun n hn=>?_,.inl rfl⟩
   rcases List.mem_append.mp hn with hn | hn
   ·exact jbc wok hn
   ·rw [List.mem_singleton.mp hn]; exact hv
  rw [if_neg c1]
  by_cases c2:w = (("leaf":String):Str)
  ·rw [if_pos c2]
   refine ⟨fun n hn=>by rw [List.mem_singleton.mp hn]; exact hv,.inr ⟨_,_,rfl,?_⟩⟩
   match ns,ok,hv with
   | [m],ok,hv =>
    unfold jcu at ok
    dsimp only at ok
    rw [if_neg (by rw [c2]; decide),if_neg c1,Bool.and_eq_true] at ok
    have ok2:=ok.2
    unfold jf6 at ok2
    show jbv (ja9 ts m) ∈ _/\jbv (ja9 ts m) ∉ [m]/\1 <= prc ps (jbv (ja9 ts m)) - prc ps m/\prc ps (jbv (ja9 ts m)) - prc ps m <= prc ps (jbv (ja9 ts m)) + jbk ps [m]
    match q:ja9 ts m,ok2 with
    | [u],ok2 =>
     have ok2:=of_decide_eq_true ok2
     have hu:u ∈ ja9 ts m:=by rw [q]; exact List.mem_singleton.mpr rfl
     refine ⟨jbc wok hu,fun z=>?_,?_,?_⟩
     ·have e:u = m:=List.mem_singleton.mp z
      rw [e] at hu
      exact jfc lt hu
     ·show 1 <= prc ps u - prc ps m
      omega
     ·rw [one]
      show prc ps u - prc ps m <= prc ps u + prc ps m
      have:=pos m hv
      omega
   | [m,n],ok,hv =>
    unfold jcu at ok
    dsimp only at ok
    rw [if_neg (by rw [c2]; decide),decide_eq_false (by rw [c2]; decide),Bool.false_and] at ok
    cases ok
   | m :: n :: k :: r,ok,hv=>cases ok
   | [],ok,hv=>cases ok
  rw [if_neg c2]
  by_cases c3:w = (("over":String):Str)
  ·rw [if_pos c3]
   exact ⟨fun n hn=>by rw [List.mem_singleton.mp hn]; exact hv,.inl rfl⟩
  rw [if_neg c3]
  by_cases c4:w = (("twins":String):Str)
  ·rw [if_pos c4]
   refine ⟨fun n hn=>by rw [List.mem_singleton.mp hn]; exact hv,.inr ⟨_,_,rfl,hin _ (jdy hne),?_⟩⟩
   have h1:=pos _ (hin _ (jdy hne))
   have h2:=pos _ hv
   rw [one]
   refine ⟨fun z=>?_,by omega,by omega⟩
   have e:=List.mem_singleton.mp z
   match ns,ok,e with
   | [m,n],ok,e =>
    unfold jcu at ok
    dsimp only at ok
    rw [if_neg c3,Bool.and_eq_true] at ok
    have ok2:=ok.2
    unfold jfg at ok2
    rw [Bool.and_eq_true] at ok2
    exact of_decide_eq_true ok2.1 e
   | [m],ok,e =>
    unfold jcu at ok
    dsimp only at ok
    rw [if_neg (by rw [c4]; decide),if_neg c1,decide_eq_false c2,Bool.false_and] at ok
    cases ok
   | m :: n :: k :: r,ok,e=>cases ok
   | [],ok,e=>cases ok
  rw [if_neg c4]
  exact ⟨fun n hn=>by rw [List.mem_singleton.mp hn]; exact hv,.inl rfl⟩
 ·unfold chgF
  rw [if_pos ef]
  have hv:v ∈ ps.map (·.1):=hin v (List.mem_singleton.mpr rfl)
  refine ⟨fun n hn=>jbc wok hn,.inr ⟨_,_,rfl,hv,jfc lt,?_⟩⟩
  show 1 <= jbk ps (ja9 ts v) - prc ps v/\jbk ps (ja9 ts v) - prc ps v <= prc ps v + jbk ps (ja9 ts v)
  unfold jf7 at ok
  simp only [Bool.and_eq_true] at ok
  have:=of_decide_eq_true ok.2.2
  have:=pos v hv
  omega
theorem ji3 {ps ts:List (Int × Int)} {w:Str} {ns:List Int}:(afF ps ts w ns).map (·.1) = (ps.map (·.1)).filter fun n=>!decide (n ∈ (chgF ps ts w ns).1):=by
 unfold afF
 rw [<- jf9 (chgF ps ts w ns).2.1 ps,List.filter_map]
 rfl
theorem jen {v n:Int} (h:n ≠ v):(tieM v n).1 < (tieM v n).2/\(((tieM v n).1 = v/\(tieM v n).2 = n) \/ ((tieM v n).1 = n/\(tieM v n).2 = v)):=by
 rcases Int.lt_or_gt_of_ne h with c | c
 ·have e:tieM v n = (n,v):=by
   unfold tieM
   rw [if_pos c,if_neg (show ¬ v < n by omega)]
  rw [e]
  exact ⟨c,.inr ⟨rfl,rfl⟩⟩
 ·have c:v < n:=c
  have e:tieM v n = (v,n):=by
   unfold tieM
   rw [if_pos c,if_neg (show ¬ n < v by omega)]
  rw [e]
  exact ⟨c,.inl ⟨rfl,rfl⟩⟩
theorem TiOk.les {kvs:List (Key × V)}:∀ {ts:List (Int × Int)} {q:Int × Int},TiOk kvs q ts->ts.Pairwise jee
 | [],_,_=>List.Pairwise.nil
 | t :: r,q,h=>by
  rw [List.pairwise_cons]
  refine ⟨fun u hu=>?_,TiOk.les h.2⟩
  have:=TiOk.gt h.2 u hu
  unfold jee
  omega
theorem jqw {ps ts ts':List (Int × Int)} {w:Str} {ns:List Int} (wok:WebOk ps ts) (hp:ps.length <= 8) (ht:ts.length <= 100) (hne:ns ≠ []) (hin:∀ n ∈ ns,n ∈ ps.map (·.1)) (ok:okS ps ts w ns) (lf:jlc (afF ps ts w ns) ts w ns ts'):WebOk (afF ps ts w ns) ts'/\(afF ps ts w ns).length <= 8:=by
 obtain ⟨gin,frm⟩:=jqr wok hne hin ok
 have gnd:=(jh3 wok (w:=w) (ns:=ns)).1
 have hnd:=wok.p.nodup
 have lt:∀ t ∈ ts,t.1 < t.2:=fun t ht=>(TiOk.ats wok.t t ht).1
 have hkl:(afF ps ts w ns).length <= ps.length:=by
  have h1:=congrArg List.length (ji3 (ps:=ps) (ts:=ts) (w:=w) (ns:=ns))
  rw [List.length_map] at h1
  rw [h1]
  exact Nat.le_trans (List.length_filter_le _ _) (by rw [List.length_map]; exact Nat.le_refl _)
 have pos1:∀ p ∈ ps,1 <= p.2:=fun p hp=>(wok.p.pos p hp).1
 have nnf:∀ (qs:List (Int × Int)) (f:Int × Int->Bool),(∀ q ∈ qs,1 <= q.2)->0 <= sumP (qs.filter f):=fun qs f h=>jep fun q hq=>h q (List.mem_filter.mp hq).1
 have kin:∀ n,n ∈ (afF ps ts w ns).map (·.1) ↔ n ∈ ps.map (·.1)/\n ∉ (chgF ps ts w ns).1:=fun n=>by
  rw [ji3,List.mem_filter,Bool.not_eq_true',decide_eq_false_iff_not]
 have upos:(∀ q ∈ afF ps ts w ns,1 <= q.2)/\sumP (afF ps ts w ns) <= sumP ps:=by
  unfold afF
  rcases frm with e | ⟨u,x,e,hu,hug,hx1,hx2⟩
  ·rw [e]
   show (∀ q ∈ ps.filter _,1 <= q.2)/\sumP (ps.filter _) <= sumP ps
   refine ⟨fun q hq=>pos1 q (List.mem_filter.mp hq).1,?_⟩
   have:=jfi (fun p=>!decide (p.1 ∈ (chgF ps ts w ns).1)) ps
   have:=nnf ps (fun q=>!(!decide (q.1 ∈ (chgF ps ts w ns).1))) pos1
   omega
  ·rw [e]
   show (∀ q ∈ (setP u x ps).filter _,1 <= q.2)/\sumP ((setP u x ps).filter _) <= sumP ps
   refine ⟨fun q hq=>?_,?_⟩
   ·rcases jq6 (List.mem_filter.mp hq).1 with h | h
    ·exact pos1 q h
    ·rw [h.2]; exact hx1
   ·have k1:=jlo (x:=x) hnd (jhk hnd hu)
    have hn2:((setP u x ps).map (·.1)).Nodup:=by rw [jdo]; exact hnd
    have k2:=jl6 (qs:=setP u x ps) hn2 gnd (fun n hn=>by rw [jdo]; exact gin n hn)
    rw [jqq hnd gin hug] at k2
    have k3:=jfi (fun p=>decide (p.1 ∈ (chgF ps ts w ns).1)) (setP u x ps)
    omega
 have plok:PlOk (-1) 0 (afF ps ts w ns):=by
  refine PlOk.of (fun q hq=>?_) ?_ ?_
  ·have hk:=((kin q.1).mp (List.mem_map_of_mem (f:=fun q:Int × Int=>q.1) hq)).1
   obtain ⟨p,hp,e⟩:=List.mem_map.mp hk
   have g1:=wok.p.gt p hp
   have g2:=(wok.p.pos p hp).2
   exact ⟨by omega,by omega,upos.1 q hq⟩
  ·rw [ji3]
   exact List.Pairwise.sublist List.filter_sublist wok.p.lts
  ·have:=upos.2
   by_cases c:ps = []
   ·have e0:sumP ps = 0:=by rw [c]; rfl
    omega
   ·have:=wok.p.sum c
    omega
 have tink:∀ t ∈ inK (afF ps ts w ns) ts,t ∈ ts/\t.1 ∈ (afF ps ts w ns).map (·.1)/\t.2 ∈ (afF ps ts w ns).map (·.1):=fun t h=>by
  obtain ⟨h1,h2⟩:=List.mem_filter.mp h
  rw [Bool.and_eq_true] at h2
  exact ⟨h1,of_decide_eq_true h2.1,of_decide_eq_true h2.2⟩
 have hik:(inK (afF ps ts w ns) ts).length <= ts.length:=List.length_filter_le _ _
 have big:∀ (us:List (Int × Int)),us.Pairwise jee->us.Nodup->(∀ t ∈ us,t.1 < t.2/\t.1 ∈ (afF ps ts w ns).map (·.1)/\t.2 ∈ (afF ps ts w ns).map (·.1))->TiOk (jav (afF ps ts w ns)) (-1,-1) us:=fun us h1 h2 h3=>by
  refine TiOk.of (fun t ht=>.inl ?_) h1 h2 (fun t ht=>?_)
  ·obtain ⟨q,hq,e⟩:=List.mem_map.mp (h3 t ht).2.1
   have:=plok.gt q hq
   show -1 < t.1
   omega
  ·obtain ⟨a1,a2,a3⟩:=h3 t ht
   exact ⟨a1,by rw [jbm]; exact decide_eq_true a2,by rw [jbm]; exact decide_eq_true a3⟩
 refine ⟨⟨by omega,plok,?_,?_⟩,by omega⟩
 ·rcases lf with ⟨_,rfl⟩ | ⟨_,ds,nd,mem,pr,_⟩
  ·omega
  ·have hsub:∀ q ∈ ds,q ∈ ps.map (·.1):=fun q hq=>by
    obtain ⟨_,_,_,y⟩:=(mem q).mp hq
    exact jbc wok y
   have hl3:=jd0 nd hsub
   rw [List.length_map] at hl3
   rw [pr.length_eq,List.length_append,List.length_map]
   omega
 ·have nik:(inK (afF ps ts w ns) ts).Nodup:=List.Nodup.sublist List.filter_sublist (TiOk.nodup wok.t)
  rcases lf with ⟨_,rfl⟩ | ⟨ef,ds,nd,mem,pr,srt⟩
  ·exact big _ (List.Pairwise.sublist List.filter_sublist (TiOk.les wok.t)) nik fun t h=>⟨lt t (tink t h).1,(tink t h).2⟩
  ·have ge:(chgF ps ts w ns).1 = ja9 ts (jb9 ns):=by unfold chgF; rw [if_pos ef]
   have hv:=hin _ (jdh hne)
   have dk:∀ n ∈ ds,n ≠ jb9 ns/\n ∈ (afF ps ts w ns).map (·.1):=fun n hn=>by
    obtain ⟨h1,m,h2,h3⟩:=(mem n).mp hn
    refine ⟨h1,(kin n).mpr ⟨jbc wok h3,?_⟩⟩
    rw [ge]
    intro h4
    rcases ok with ⟨nf,_⟩ | ⟨_,v,rfl,ok⟩
    ·exact nf ef
    ·unfold jf7 at ok
     simp only [Bool.and_eq_true,Bool.not_eq_true'] at ok
     have ok2:=ok.1.2
     unfold jha at ok2
     rw [List.any_eq_false] at ok2
     have:=ok2 m h2
     rw [List.any_eq_true] at this
     exact this ⟨n,h4,decide_eq_true h3⟩
   have vk:jb9 ns ∈ (afF ps ts w ns).map (·.1):=(kin _).mpr ⟨hv,by rw [ge]; exact jfc lt⟩
   have tnew:∀ t ∈ ds.map (tieM (jb9 ns)),t.1 < t.2/\t.1 ∈ (afF ps ts w ns).map (·.1)/\t.2 ∈ (afF ps ts w ns).map (·.1)/\(t.1 = jb9 ns \/ t.2 = jb9 ns):=fun t h=>by
    obtain ⟨n,hn,rfl⟩:=List.mem_map.mp h
    obtain ⟨k1,k2⟩:=jen (dk n hn).1
    rcases k2 with ⟨e1,e2⟩ | ⟨e1,e2⟩ <;> rw [e1,e2] at k1 ⊢
    ·exact ⟨k1,vk,(dk n hn).2,.inl rfl⟩
    ·exact ⟨k1,(dk n hn).2,vk,.inr rfl⟩
   refine big _ srt (pr.nodup_iff.mpr (List.nodup_append.mpr ⟨nik,?_,fun a ha b hb e=>?_⟩)) fun t h=>?_
   ·unfold List.Nodup
    rw [List.pairwise_map]
    refine List.Pairwise.imp_of_mem (fun {x y} hx hy hne e=>hne ?_) nd
    obtain ⟨_,k2⟩:=jen (dk x hx).1
    obtain ⟨_,k4⟩:=jen (dk y hy).1
    rw [e] at k2
    have:=(dk x hx).1
    have:=(dk y hy).1
    rcases k2 with ⟨e1,e2⟩ | ⟨e1,e2⟩ <;> rcases k4 with ⟨e3,e4⟩ | ⟨e3,e4⟩ <;> omega
   ·subst e
    obtain ⟨b1,b2,b3⟩:=tink a ha
    obtain ⟨_,_,_,b4⟩:=tnew a hb
    rcases b4 with e | e
    ·have:a.2 ∈ ja9 ts (jb9 ns):=(jce lt).mpr (.inl (by rw [<- e]; exact b1))
     exact ((kin _).mp b3).2 (by rw [ge]; exact this)
    ·have:a.1 ∈ ja9 ts (jb9 ns):=(jce lt).mpr (.inr (by rw [<- e]; exact b1))
     exact ((kin _).mp b2).2 (by rw [ge]; exact this)
   ·rcases List.mem_append.mp (pr.mem_iff.mp h) with h | h
    ·exact ⟨lt t (tink t h).1,(tink t h).2⟩
    ·exact ⟨(tnew t h).1,(tnew t h).2.1,(tnew t h).2.2.1⟩
def jra:Sp:=fun vs H Q _=>∃ v u ps ts ss,vs = [v,u]/\jbg H v ps ts/\WebOk ps ts/\jk3 H u ss/\SetIn ps ss/\jjk ss ts = []/\∀ H',Same H H'->Q .non H'
theorem jsh {ps ts:List (Int × Int)} {w:Str} {ns:List Int} (h:okS ps ts w ns):fitW ps ts w ns = true:=by
 unfold fitW
 rcases h with ⟨nf,h⟩ | ⟨rfl,v,rfl,h⟩
 ·rw [if_neg nf]; exact h
 ·rw [if_pos rfl]; exact h
theorem okS_of {ps ts:List (Int × Int)} {w:Str} {ns:List Int} (h:fitW ps ts w ns = true) (hf:w = (("fold":String):Str)->ns.length = 1):okS ps ts w ns:=by
 unfold fitW at h
 by_cases c:w = (("fold":String):Str)
 ·rw [if_pos c] at h
  obtain ⟨n,rfl⟩:=List.length_eq_one_iff.mp (hf c)
  exact .inr ⟨c,n,rfl,h⟩
 ·rw [if_neg c] at h
  exact .inl ⟨c,h⟩
theorem Told.at {H H':Hp} {v:V} {ps ts:List (Int × Int)} (h:Told H ps ts v H'):jbg H' v ps ts:=by
 obtain ⟨a,pa,ta,zs,ws,e,n1,n2,n3,h1,h2,h3,h4,h5⟩:=h
 exact ⟨a,pa,ta,zs,ws,e,h1,h2,h4,h3,h5⟩
def bkR (ts:List (Int × Int)) (w:Str) (ns ss:List Int):List Int :=
 if w = (("near":String):Str) then ss ++ ja9 ts (jb9 ns)
 else if w = (("over":String):Str) \/ (w = (("leaf":String):Str)/\jbv (ja9 ts (jb9 ns)) ∉ ss) \/ (w = (("twins":String):Str)/\jbv ns ∈ ss) then ss ++ [jb9 ns]
 else ss
def bkF (ts:List (Int × Int)) (v:Int) (ss:List Int):List Int:=if v ∈ ss then (ss.filter fun p=>!decide (p = v)) ++ ja9 ts v else ss ++ [v]
def bkL (ts:List (Int × Int)) (w:Str) (ns ss:List Int):List Int:=if w = (("fold":String):Str) then bkF ts (jb9 ns) ss else bkR ts w ns ss
theorem jkw {ps ts:List (Int × Int)} {w:Str} {ns:List Int} (c:w = (("leaf":String):Str)) (h:okS ps ts w ns):ja9 ts (jb9 ns) ≠ []:=by
 rcases h with ⟨nf,ok⟩ | ⟨ef,_⟩
 ·match ns,ok with
  | [m],ok =>
   unfold jcu at ok
   dsimp only at ok
   rw [if_neg (by rw [c]; decide),if_neg (by rw [c]; decide),Bool.and_eq_true] at ok
   have ok2:=ok.2
   unfold jf6 at ok2
   show ja9 ts m ≠ []
   intro z
   rw [z] at ok2
   cases ok2
  | [m,n],ok =>
   unfold jcu at ok
   dsimp only at ok
   rw [if_neg (by rw [c]; decide),decide_eq_false (by rw [c]; decide),Bool.false_and] at ok
   cases ok
  | m :: n :: k :: r,ok=>cases ok
  | [],ok=>cases ok
 ·rw [c] at ef
  exact absurd ef (by decide)
def spRB:Sp:=fun vs H Q _=>∃ nd t l ps ts w,∃ ns ss:List Int,vs = [.ref nd,.ref t,.ref l]/\NrAt H nd ps ts/\WebOk ps ts/\StpO H t ps w ns/\(w = (("leaf":String):Str)->ja9 ts (jb9 ns) ≠ [])/\H l = some (.lst (ss.map V.int))/\ss.length <= 40/\∀ r H',Same H H'->H' r = some (.lst ((bkR ts w ns ss).map V.int))->Q (.ref r) H'
def spFB:Sp:=fun vs H Q _=>∃ nd v l ps ts,∃ ss:List Int,vs = [.ref nd,.int v,.ref l]/\NrAt H nd ps ts/\WebOk ps ts/\v ∈ ps.map (·.1)/\H l = some (.lst (ss.map V.int))/\ss.length <= 40/\∀ r H',Same H H'->H' r = some (.lst ((bkF ts v ss).map V.int))->Q (.ref r) H'
theorem jl8 {ps ts:List (Int × Int)} (wok:WebOk ps ts) (w:Str) (ns ss:List Int):(bkR ts w ns ss).length <= ss.length + ps.length + 1:=by
 have:=jfy wok (jb9 ns)
 unfold bkR
 split
 ·rw [List.length_append]; omega
 ·split
  ·rw [List.length_append]; show _ + 1 <= _; omega
  ·omega
theorem jl9 {ps ts:List (Int × Int)} (wok:WebOk ps ts) (v:Int) (ss:List Int):(bkF ts v ss).length <= ss.length + ps.length + 1:=by
 have:=jfy wok v
 unfold bkF
 split
 ·rw [List.length_append]
  have:(ss.filter fun p=>!decide (p = v)).length <= ss.length:=List.length_filter_le _ _
  omega
 ·rw [List.length_append]; show _ + 1 <= _; omega
def spBaK:Sp:=fun vs H Q _=>∃ v t l ps ts w,∃ ns ss:List Int,vs = [v,.ref t,.ref l]/\jbg H v ps ts/\WebOk ps ts/\ps.length <= 8/\StpO H t ps w ns/\w ≠ (("halves":String):Str)/\okS ps ts w ns/\H l = some (.lst (ss.map V.int))/\ss.length <= 40/\∀ r (ms:List Int) H',H r = none->Same H H'->H' r = some (.lst (ms.map V.int))->ms.Perm (bkL ts w ns ss)->ms.Pairwise (· <= ·)->Q (.ref r) H'
def jny:Sp:=fun vs H Q _=>∃ v t l ps ts w,∃ ns ss:List Int,vs = [v,.ref t,.ref l]/\jbg H v ps ts/\WebOk ps ts/\ps.length <= 8/\ts.length <= 50/\StpO H t ps w ns/\ns.length <= 900/\w ≠ (("halves":String):Str)/\okS ps ts w ns/\H l = some (.lst (ss.map V.int))/\ss.length <= 40/\(∀ ts',jlc (afF ps ts w ns) ts w ns ts'->WebOk (afF ps ts w ns) ts'/\SetIn (afF ps ts w ns) ss/\jjk ss ts' = [])/\∀ r (ms:List Int) H',H r = none->Same H H'->H' r = some (.lst (ms.map V.int))->ms.Perm (bkL ts w ns ss)->ms.Pairwise (· <= ·)->Q (.ref r) H'
theorem je4 (B:Blt mg) (D:DefAt K mg "look_at_touching" (top 63) ["web","thing"] f fd) (Dzk:DefAt K mg "left_by" (top 53) ["web","some"] fzk dzk) (Gzk:FnOk P w K mg base CX0 8 fzk dzk ["web","some"] jlk):FnOk P w K mg base CX0 9 f fd ["web","thing"] jra:=by
 have sc:FnScope ["web","thing"] ["web","thing"] (jab (top 63)):=by walk_at "SC"
 refine D.F.ok sc (fun vs H Q E h=>?_) (fun cdv A outer s H vs Q E hr h=>?_)
 ·obtain ⟨v,u,ps,ts,ss,rfl,_⟩:=h
  rfl
 obtain ⟨v,u,ps,ts,ss,rfl,hw,wok,hset,sin,hlt,h⟩:=h
 have hu:=jb8 hr
 have hu0:_ < PySem.cLine:=Nat.lt_of_succ_lt hu
 refine ⟨_,(ja7 (jb3 (qt_tru (ja8 Gzk (hr.mono (by decide)) rfl Dzk.m Dzk.F.kp Dzk.b .nil jan (ja0 (qv 0) (ja0 (qv 1) ja3)))) je9 jaj)),?_⟩
 simp_arith [fTru]
 refine ⟨v,u,ps,ts,ss,rfl,hw,wok,hset,sin,fun l zs H1 hl s1 el pz=>?_⟩
 rw [hlt] at pz
 cases pz
 simp_arith [el]
 simp only [List.length_nil,ne_eq,not_true_eq_false,decide_false,Bool.false_eq_true,if_false]
 exact h _ s1
theorem jiz (B:Blt mg) (D:DefAt K mg "rule_back" (top 13) ["nears","step","some"] f fd):FnOk P w K mg base CX0 1 f fd ["nears","step","some"] spRB:=by
 have sc:FnScope ["nears","step","some","word","v"] ["nears","step","some"] (jab (top 13)):=by walk_at "SC"
 refine D.F.ok sc (fun vs H Q E h=>?_) (fun cdv A outer s H vs Q E hr h=>?_)
 ·obtain ⟨nd,t,l,ps,ts,w,ns,ss,rfl,_⟩:=h
  rfl
 obtain ⟨nd,t,l,ps,ts,w,ns,ss,rfl,nr,wok,⟨et,hne,hin⟩,hlf,el,hsl,h⟩:=h
 have hv:=hin _ (jdh hne)
 obtain ⟨as,a,e1,e2,e3⟩:=nr.get wok.p.nodup hv
 have hla:=jbu wok (jb9 ns)
 have hat:=jg7 (w:=w) hne
 have hah:=jg8 (w:=w) hne
 have hu:=jb8 hr
 have hu0:_ < PySem.cLine:=Nat.lt_of_succ_lt hu
 refine ⟨_,(ja4 (jak (i:=3) sc.nd rfl (Or.inl rfl) (jam q_ix (qv 1) ja5 (fun _ _=>rfl))) (ja4 (jak (i:=4) sc.nd rfl (Or.inl rfl) (jam q_ix (qv 1) (jfr jfp ja5) (fun _ _=>rfl))) (ja4 (jb3 (jal q_eq (qv 3) jb7 (jag _)) (ja7 (jah (jay jcv (qv 2) (jaz hu (qv 0) (qv 4) (fun _ _=>rfl))))) jaj) (ja4 (jb3 (jal q_eq (qv 3) jb7 (jag _)) (ja7 (jah (jay jcv (qv 2) (jb6 (ja0 (qv 4) ja3))))) jaj) (ja4 (jb3 (PW.pt (jcm (jal q_eq (qv 3) jb7 (jag _)) (jc0 (jal jcl (jam q_ix (jaz hu (qv 0) (qv 4) (fun _ _=>rfl)) ja5 (fun _ _=>rfl)) (qv 2) (by with_unfolding_all rfl))))) (ja7 (jah (jay jcv (qv 2) (jb6 (ja0 (qv 4) ja3))))) jaj) (ja4 (jb3 (PW.pt (jcm (jal q_eq (qv 3) jb7 (jag _)) (jc0 (jal jhi (jam q_ix (qv 1) ja5 (fun _ _=>rfl)) (qv 2) (by with_unfolding_all rfl))))) (ja7 (jah (jay jcv (qv 2) (jb6 (ja0 (qv 4) ja3))))) jaj) (ja7 (jah (qv 2))))))))),?_⟩
 unfold bkR at h
 generalize jb9 ns = v at hv e2 e3 hla hat hlf h
 generalize jbv ns = u at hah h
 refine ja6 fun R hR=>?_
 simp_arith [jai,et,at0]
 subst hR
 refine ja6 fun R hR=>?_
 simp_arith [jai,et,hat]
 subst hR
 refine ja6 fun R hR=>?_
 walk_at "RD"
 by_cases c1:w = (("near":String):Str)
 ·rw [if_pos c1] at h
  simp only [decide_eq_true c1,if_true]
  simp_arith [e1,e2,el,e3]
  refine ⟨szl (by rw [List.length_map,List.length_map]; omega),?_⟩
  intro l2 hl2
  refine h l2 _ (ja2 hl2 _) ?_
  rw [ja1,List.map_append]
 rw [if_neg c1] at h
 simp only [c1,decide_false,Bool.false_eq_true,if_false]
 subst hR
 refine ja6 fun R hR=>?_
 walk_at "RD"
 by_cases c2:w = (("over":String):Str)
 ·rw [if_pos (.inl c2)] at h
  simp only [decide_eq_true c2,if_true]
  walk_at "RD"
  intro l1 hl1
  have q1:=ja2 hl1 (.lst [.int v])
  have el1:upd H l1 (.lst [.int v]) l1 = some (.lst [.int v]):=ja1
  generalize upd H l1 (.lst [.int v]) = H1 at q1 el1
  simp_arith [q1 _ _ el,el1]
  refine ⟨szl (by rw [List.length_map]; omega),?_⟩
  intro l2 hl2
  refine h l2 _ (q1.trans (ja2 hl2 _)) ?_
  rw [ja1,List.map_append]
  rfl
 simp only [c2,decide_false,Bool.false_eq_true,if_false]
 subst hR
 refine ja6 fun R hR=>?_
 walk_at "RD"
 by_cases c3:w = (("leaf":String):Str)
 ·simp only [decide_eq_true c3,if_true]
  obtain ⟨m,r,hm⟩:∃ m r,ja9 ts v = m :: r:=by
   cases q:ja9 ts v with
   | nil=>exact absurd q (hlf c3)
   | cons m r=>exact ⟨m,r,rfl⟩
  have e3':=e3
  rw [show jbv (ja9 ts v) = m by rw [hm]; rfl] at h
  rw [hm] at e3'
  simp only [List.map_cons] at e3'
  have nt:w ≠ (("twins":String):Str):=by rw [c3]; decide
  simp_arith [e1,e2,jai,e3',at0,el,jbp,flat_ints,jcg]
  by_cases c4:m ∈ ss
  ·rw [if_neg (fun z=>z.elim c2 fun z=>z.elim (fun z=>z.2 c4) fun z=>nt z.1)] at h
   simp only [c4,decide_true,Bool.not_true,Bool.false_eq_true,if_false]
   subst hR
   refine ja6 fun R hR=>?_
   walk_at "RD"
   simp only [nt,decide_false,Bool.false_eq_true,if_false]
   subst hR
   walk_at "RD"
   exact h l H (Same.refl _) el
  ·rw [if_pos (.inr (.inl ⟨c3,c4⟩))] at h
   simp only [c4,decide_false,Bool.not_false,if_true]
   intro l1 hl1
   have q1:=ja2 hl1 (.lst [.int v])
   have el1:upd H l1 (.lst [.int v]) l1 = some (.lst [.int v]):=ja1
   generalize upd H l1 (.lst [.int v]) = H1 at q1 el1
   simp_arith [q1 _ _ el,el1]
   refine ⟨szl (by rw [List.length_map]; omega),?_⟩
   intro l2 hl2
   refine h l2 _ (q1.trans (ja2 hl2 _)) ?_
   rw [ja1,List.map_append]
   rfl
 simp only [c3,decide_false,Bool.false_eq_true,if_false]
 subst hR
 refine ja6 fun R hR=>?_
 walk_at "RD"
 by_cases c5:w = (("twins":String):Str)
 ·simp only [decide_eq_true c5,if_true]
  simp_arith [jai,et,hah,el,jbp,flat_ints,jcg]
  by_cases c4:u ∈ ss
  ·rw [if_pos (.inr (.inr ⟨c5,c4⟩))] at h
   simp only [c4,decide_true,if_true]
   intro l1 hl1
   have q1:=ja2 hl1 (.lst [.int v])
   have el1:upd H l1 (.lst [.int v]) l1 = some (.lst [.int v]):=ja1
   generalize upd H l1 (.lst [.int v]) = H1 at q1 el1
   simp_arith [q1 _ _ el,el1]
   refine ⟨szl (by rw [List.length_map]; omega),?_⟩
   intro l2 hl2
   refine h l2 _ (q1.trans (ja2 hl2 _)) ?_
   rw [ja1,List.map_append]
   rfl
  ·rw [if_neg (fun z=>z.elim c2 fun z=>z.elim (fun z=>c3 z.1) fun z=>c4 z.2)] at h
   simp only [c4,decide_false,Bool.false_eq_true,if_false]
   subst hR
   walk_at "RD"
   exact h l H (Same.refl _) el
 rw [if_neg (fun z=>z.elim c2 fun z=>z.elim (fun z=>c3 z.1) fun z=>c5 z.1)] at h
 simp only [c5,decide_false,Bool.false_eq_true,if_false]
 subst hR
 walk_at "RD"
 exact h l H (Same.refl _) el
theorem jja (B:Blt mg) (D:DefAt K mg "fold_back" (top 40) ["nears","v","some"] f fd):FnOk P w K mg base CX0 1 f fd ["nears","v","some"] spFB:=by
 have sc:FnScope ["nears","v","some"] ["nears","v","some"] (jab (top 40)):=by walk_at "SC"
 refine D.F.ok sc (fun vs H Q E h=>?_) (fun cdv A outer s H vs Q E hr h=>?_)
 ·obtain ⟨nd,v,l,ps,ts,ss,rfl,_⟩:=h
  rfl
 obtain ⟨nd,v,l,ps,ts,ss,rfl,nr,wok,hv,el,hsl,h⟩:=h
 obtain ⟨as,a,e1,e2,e3⟩:=nr.get wok.p.nodup hv
 have hla:=jbu wok v
 have hu:=jb8 hr
 have hu0:_ < PySem.cLine:=Nat.lt_of_succ_lt hu
 refine ⟨_,(ja4 (jb3 (jal jhi (qv 1) (qv 2) (by with_unfolding_all rfl)) (ja7 (jah (jay jcv (jbb (CpScope.of (N:=["place","v"]) (src:=[none,some 1]) (by rfl)) rfl (jau (qv 2)) (fun _ _ _ _=>(jad (i:=0) (jac (l:=["place","v"]) (by rfl)) rfl (Or.inl rfl))) (fun _ _ _ _=>(jc1 (jal q_ne (qv 0) (qv 1) (jag _)))) (fun _ _ _ _=>(qv 0))) (jaz hu (qv 0) (qv 1) (fun _ _=>rfl))))) jaj) (ja7 (jah (jay jcv (qv 2) (jb6 (ja0 (qv 1) ja3)))))),?_⟩
 unfold bkF at h
 refine ja6 fun R hR=>?_
 simp_arith [el,jai,jbp,flat_ints,jcg]
 by_cases c:v ∈ ss
 ·rw [if_pos c] at h
  simp only [c,decide_true,if_true]
  refine jap (Itl K l) H (fun R hR=>?_) (fun z hz=>jaw ss.length (fun i σ' Hc=>∃ w1,σ' = [w1,some (.int v)]/\Same H Hc/\Hc z = some (.lst (((ss.take i).filter fun p=>!decide (p = v)).map V.int))) ⟨none,rfl,ja2 hz _,ja1⟩ ?_ ?_)
  ·unfold jbd
   walk_at "RD"
   exact ⟨l,rfl,⟨_,SqL.of el⟩,hR⟩
  ·rintro i σ' Hc hi ⟨w1,rfl,s4,ez⟩
   have z1:SqL K Hc l (ss.map V.int):=SqL.of (s4 _ _ el)
   have x1:(ss.map V.int)[i]? = some ((ss.map V.int)[i]'(by rw [List.length_map]; omega)):=gE _
   refine ⟨⟨_,_,z1,x1⟩,?_⟩
   rintro y H' ⟨rfl,hy⟩
   obtain ⟨n,hn,rfl⟩:=jbt (hy _ z1)
   have ft:=jbo (f:=fun p=>!decide (p = v)) hn
   have hcl:((ss.take i).filter fun p=>!decide (p = v)).length <= 40:=Nat.le_trans (List.length_filter_le _ _) (by rw [List.length_take]; omega)
   walk_at "RD"
   by_cases c1:n = v
   ·simp only [c1,decide_true,Bool.not_true,Bool.false_eq_true,if_false,List.append_nil] at ft ⊢
    exact ⟨_,rfl,s4,by rw [ft]; exact ez⟩
   ·simp only [c1,decide_false,Bool.not_false,if_true] at ft ⊢
    refine ⟨_,ez,by rw [List.length_map]; exact szl' (by omega),_,rfl,jao s4 hz,?_⟩
    rw [ja1,ft,List.map_append]
    rfl
  rintro σ' H1 ⟨w1,rfl,s1,ez⟩
  refine ⟨⟨_,SqL.of (s1 _ _ el),by rw [List.length_map]; omega⟩,?_⟩
  rw [List.take_length] at ez
  have hcl:(ss.filter fun p=>!decide (p = v)).length <= 40:=Nat.le_trans (List.length_filter_le _ _) hsl
  simp_arith [s1 _ _ e1,e2,ez,s1 _ _ e3]
  refine ⟨szl (by rw [List.length_map,List.length_map]; omega),?_⟩
  intro l2 hl2
  refine h l2 _ (s1.trans (ja2 hl2 _)) ?_
  rw [ja1,List.map_append]
 ·rw [if_neg c] at h
  simp only [c,decide_false,Bool.false_eq_true,if_false]
  subst hR
  walk_at "RD"
  intro l1 hl1
  have q1:=ja2 hl1 (.lst [.int v])
  have el1:upd H l1 (.lst [.int v]) l1 = some (.lst [.int v]):=ja1
  generalize upd H l1 (.lst [.int v]) = H1 at q1 el1
  simp_arith [q1 _ _ el,el1]
  refine ⟨szl (by rw [List.length_map]; omega),?_⟩
  intro l2 hl2
  refine h l2 _ (q1.trans (ja2 hl2 _)) ?_
  rw [ja1,List.map_append]
  rfl
theorem jhu (B:Blt mg) (D:DefAt K mg "back_known" (top 61) ["web","step","some"] f fd) (Dqc:DefAt K mg "nears_in" (top 32) ["web"] fqc dqc) (Gqc:FnOk P w K mg base CX0 1 fqc dqc ["web"] jdn) (Dqz:DefAt K mg "fold_back" (top 40) ["nears","v","some"] fqz dqz) (Gqz:FnOk P w K mg base CX0 1 fqz dqz ["nears","v","some"] spFB) (Dzt:DefAt K mg "rule_back" (top 13) ["nears","step","some"] fzt dzt) (Gzt:FnOk P w K mg base CX0 1 fzt dzt ["nears","step","some"] spRB):FnOk P w K mg base CX0 2 f fd ["web","step","some"] spBaK:=by
 have sc:FnScope ["web","step","some"] ["web","step","some"] (jab (top 61)):=by walk_at "SC"
 refine D.F.ok sc (fun vs H Q E h=>?_) (fun cdv A outer s H vs Q E hr h=>?_)
 ·obtain ⟨v,t,l,ps,ts,w,ns,ss,rfl,_⟩:=h
  rfl
 obtain ⟨v,t,l,ps,ts,w,ns,ss,rfl,hw,wok,hp8,stp,nh,ok,el,hsl,h⟩:=h
 obtain ⟨et,hne,hin⟩:=id stp
 have hah:=jg8 (w:=w) hne
 have hu:=jb8 hr
 have hu0:_ < PySem.cLine:=Nat.lt_of_succ_lt hu
 refine ⟨_,(ja4 (jb3 (jal q_eq (jam q_ix (qv 1) ja5 (fun _ _=>rfl)) jb7 (jag _)) je9 jaj) (ja4 (jb3 (jal q_eq (jam q_ix (qv 1) ja5 (fun _ _=>rfl)) jb7 (jag _)) (ja7 (jah (jaf jda rfl B.sorted PyProof.Rows.boot_sorted (ja0 (ja8 Gqz (hr.mono (by decide)) rfl Dqz.m Dqz.F.kp Dqz.b .nil jan (ja0 (ja8 Gqc (hr.mono (by decide)) rfl Dqc.m Dqc.F.kp Dqc.b .nil jan (ja0 (qv 0) ja3)) (ja0 (jam q_ix (qv 1) ja5 (fun _ _=>rfl)) (ja0 (qv 2) ja3)))) ja3)))) jaj) (ja7 (jah (jaf jda rfl B.sorted PyProof.Rows.boot_sorted (ja0 (ja8 Gzt (hr.mono (by decide)) rfl Dzt.m Dzt.F.kp Dzt.b .nil jan (ja0 (ja8 Gqc (hr.mono (by decide)) rfl Dqc.m Dqc.F.kp Dqc.b .nil jan (ja0 (qv 0) ja3)) (ja0 (qv 1) (ja0 (qv 2) ja3)))) ja3)))))),?_⟩
 unfold bkL at h
 refine ja6 fun R hR=>?_
 simp_arith [jai,et,at0]
 simp only [nh,decide_false,Bool.false_eq_true,if_false]
 subst hR
 refine ja6 fun R hR=>?_
 simp_arith [jai,et,at0]
 by_cases c1:w = (("fold":String):Str)
 ·rw [if_pos c1] at h
  simp only [decide_eq_true c1,if_true]
  obtain ⟨n,rfl⟩:∃ n,ns = [n]:=by
   rcases ok with ⟨nf,_⟩ | ⟨_,n,e,_⟩
   ·exact absurd c1 nf
   ·exact ⟨n,e⟩
  walk_at "RD"
  refine ⟨v,ps,ts,rfl,hw,wok,fun nd as H1 hnd0 s1 end2 hla hnr=>?_⟩
  simp_arith [jai,s1 _ _ et,hah]
  refine ⟨nd,n,l,ps,ts,ss,rfl,⟨as,end2,hla,hnr⟩,wok,hin n (List.mem_singleton.mpr rfl),s1 _ _ el,hsl,fun r H2 s2 er=>?_⟩
  refine ⟨r,_,rfl,er,?_,fun l2 ms hl2 pm pw=>?_⟩
  ·have:=jl9 wok n ss
   omega
  ·exact h l2 ms _ ((s1.trans s2).free hl2) ((s1.trans s2).trans (ja2 hl2 _)) ja1 pm pw
 ·rw [if_neg c1] at h
  simp only [c1,decide_false,Bool.false_eq_true,if_false]
  subst hR
  walk_at "RD"
  refine ⟨v,ps,ts,rfl,hw,wok,fun nd as H1 hnd0 s1 end2 hla hnr=>?_⟩
  walk_at "RD"
  refine ⟨nd,t,l,ps,ts,w,ns,ss,rfl,⟨as,end2,hla,hnr⟩,wok,⟨s1 _ _ et,hne,hin⟩,fun c=>jkw c ok,s1 _ _ el,hsl,fun r H2 s2 er=>?_⟩
  refine ⟨r,_,rfl,er,?_,fun l2 ms hl2 pm pw=>?_⟩
  ·have:=jl8 wok w ns ss
   omega
  ·exact h l2 ms _ ((s1.trans s2).free hl2) ((s1.trans s2).trans (ja2 hl2 _)) ja1 pm pw
theorem js6 (B:Blt mg) (D:DefAt K mg "back" (top 64) ["web","step","some"] f fd) (Dzn:DefAt K mg "look_at_step" (top 62) ["web","thing"] fzn dzn) (Gzn:FnOk P w K mg base CX0 6 fzn dzn ["web","thing"] jnp) (Dqs:DefAt K mg "after_known" (top 60) ["web","step"] fqs dqs) (Gqs:FnOk P w K mg base CX0 4 fqs dqs ["web","step"] spAfK) (Dzp:DefAt K mg "look_at_touching" (top 63) ["web","thing"] fzp dzp) (Gzp:FnOk P w K mg base CX0 9 fzp dzp ["web","thing"] jra) (Dqv:DefAt K mg "back_known" (top 61) ["web","step","some"] fqv dqv) (Gqv:FnOk P w K mg base CX0 2 fqv dqv ["web","step","some"] spBaK):FnOk P w K mg base CX0 10 f fd ["web","step","some"] jny:=by
 have sc:FnScope ["web","step","some"] ["web","step","some"] (jab (top 64)):=by walk_at "SC"
 refine D.F.ok sc (fun vs H Q E h=>?_) (fun cdv A outer s H vs Q E hr h=>?_)
 ·obtain ⟨v,t,l,ps,ts,w,ns,ss,rfl,_⟩:=h
  rfl
 obtain ⟨v,t,l,ps,ts,w,ns,ss,rfl,hw,wok,hp8,ht50,stp,h9,nh,ok,el,hsl,haf,h⟩:=h
 have hu:=jb8 hr
 have hu0:_ < PySem.cLine:=Nat.lt_of_succ_lt hu
 refine ⟨_,(ja4 (jc7 (ja8 Gzn (hr.mono (by decide)) rfl Dzn.m Dzn.F.kp Dzn.b .nil jan (ja0 (qv 0) (ja0 (qv 1) ja3)))) (ja4 (jc7 (ja8 Gzp (hr.mono (by decide)) rfl Dzp.m Dzp.F.kp Dzp.b .nil jan (ja0 (jam q_ix (ja8 Gqs (hr.mono (by decide)) rfl Dqs.m Dqs.F.kp Dqs.b .nil jan (ja0 (qv 0) (ja0 (qv 1) ja3))) ja5 (fun _ _=>rfl)) (ja0 (qv 2) ja3)))) (ja7 (jah (ja8 Gqv (hr.mono (by decide)) rfl Dqv.m Dqv.F.kp Dqv.b .nil jan (ja0 (qv 0) (ja0 (qv 1) (ja0 (qv 2) ja3)))))))),?_⟩
 refine ja6 fun R hR=>?_
 walk_at "RD"
 refine ⟨v,t,ps,ts,w,ns,rfl,hw,wok,stp,h9,nh,jsh ok,fun H1 s1=>?_⟩
 walk_at "RD"
 subst hR
 refine ja6 fun R hR=>?_
 walk_at "RD"
 refine ⟨v,t,ps,ts,w,ns,rfl,hw.same s1,wok,by omega,by omega,⟨s1 _ _ stp.1,stp.2⟩,nh,ok,fun r v' H2 ts' s2 er lef tol=>?_⟩
 obtain ⟨wok2,sin,hlt⟩:=haf ts' lef
 have s12:=s1.trans s2
 simp_arith [jai,er,at0]
 refine ⟨v',.ref l,afF ps ts w ns,ts',ss,rfl,tol.at,wok2,⟨l,rfl,s12 _ _ el⟩,sin,hlt,fun H3 s3=>?_⟩
 have s13:=s12.trans s3
 walk_at "RD"
 subst hR
 walk_at "RD"
 exact ⟨v,t,l,ps,ts,w,ns,ss,rfl,hw.same s13,wok,hp8,⟨s13 _ _ stp.1,stp.2⟩,nh,ok,s13 _ _ el,hsl,fun r ms H' hr s er pm pw=>h r ms H' (s13.free hr) (s13.trans s) er pm pw⟩
theorem jio:∀ {ss:List Int},ss.Pairwise (· <= ·)->ss.Nodup->ss.Pairwise (· < ·)
 | [],_,_=>List.Pairwise.nil
 | n :: r,h1,h2=>by
  rw [List.pairwise_cons] at h1
  rw [List.nodup_cons] at h2
  rw [List.pairwise_cons]
  refine ⟨fun m hm=>?_,jio h1.2 h2.2⟩
  have:=h1.1 m hm
  have:n ≠ m:=fun e=>h2.1 (by rw [e]; exact hm)
  omega
theorem jo1 {kvs:List (Key × V)}:∀ {ss:List Int} {l:Int},ss.Pairwise (· < ·)->(∀ n ∈ ss,hasK kvs n = true)->(∀ n ∈ ss,l < n)->SeOk kvs l ss
 | [],_,_,_,_=>trivial
 | n :: r,l,h1,h2,h3=>by
  rw [List.pairwise_cons] at h1
  exact ⟨⟨h2 n (List.mem_cons_self ..),h3 n (List.mem_cons_self ..)⟩,jo1 h1.2 (fun m hm=>h2 m (List.mem_cons_of_mem _ hm)) h1.1⟩
theorem jfo:∀ {a b:List Int},a.Perm b->a.Pairwise (· <= ·)->b.Pairwise (· <= ·)->a = b
 | [],b,p,_,_=>(List.nil_perm.mp p).symm
 | x :: r,[],p,_,_=>by cases (List.perm_nil.mp p)
 | x :: r,y :: t,p,ha,hb=>by
  rw [List.pairwise_cons] at ha hb
  have e:x = y:=by
   have h1:x ∈ y :: t:=p.mem_iff.mp (List.mem_cons_self ..)
   have h2:y ∈ x :: r:=p.mem_iff.mpr (List.mem_cons_self ..)
   rcases List.mem_cons.mp h1 with e | h1
   ·exact e
   ·rcases List.mem_cons.mp h2 with e | h2
    ·exact e.symm
    ·have:=ha.1 y h2
     have:=hb.1 x h1
     omega
  subst e
  rw [jfo ((List.perm_cons x).mp p) ha.2 hb.2]
structure TouchS (ps ts:List (Int × Int)) (ss:List Int):Prop where
 set:SetIn ps ss
 left:jjk ss ts = []
 le:ss.Pairwise (· <= ·)
 len:ss.length <= 8
def spTou:Sp:=fun vs H Q _=>∃ st o v ps ts,vs = [.ref st,v]/\H st = some o/\StO o/\jbg H v ps ts/\WebOk ps ts/\ps.length <= 8 /\
 ∀ r (ss:List Int) H' o',H r = none->But st H H'->H' st = some o'->StO o'->H' r = some (.lst (ss.map V.int))->TouchS ps ts ss->Q (.ref r) H'
theorem two_at {a b d:Int} (h0:0 <= d) (h1:d < 2):∃ m,atI [V.int a,.int b] d = some (.int m)/\(m = a \/ m = b):=by
 have:d = 0 \/ d = 1:=by omega
 rcases this with rfl | rfl
 ·exact ⟨a,at0,.inl rfl⟩
 ·exact ⟨b,at1,.inr rfl⟩
theorem jsf {ps ts:List (Int × Int)} (wok:WebOk ps ts) {qs:List (Int × Int)} {gs:List Int} (hk:qs.map (·.1) = ps.map (·.1)):ts.filter (fun t=>!decide (t.1 ∈ gs) && !decide (t.2 ∈ gs)) = inK (qs.filter fun p=>!decide (p.1 ∈ gs)) ts:=by
 unfold inK
 refine List.filter_congr fun t ht=>?_
 obtain ⟨_,a2,a3⟩:=TiOk.ats wok.t t ht
 rw [jbm,<- hk] at a2 a3
 have k1:=of_decide_eq_true a2
 have k2:=of_decide_eq_true a3
 have e:∀ n,n ∈ qs.map (·.1)->decide (n ∈ (qs.filter fun p=>!decide (p.1 ∈ gs)).map (·.1)) = !decide (n ∈ gs):=fun n hn=>by
  by_cases c:n ∈ gs
  ·rw [decide_eq_true c,decide_eq_false]
   ·rfl
   ·intro z
    obtain ⟨p,hp,rfl⟩:=List.mem_map.mp z
    have:=(List.mem_filter.mp hp).2
    simp [c] at this
  ·rw [decide_eq_false c,decide_eq_true]
   ·rfl
   ·obtain ⟨p,hp,rfl⟩:=List.mem_map.mp hn
    exact List.mem_map.mpr ⟨p,List.mem_filter.mpr ⟨hp,by simp [c]⟩,rfl⟩
 rw [e _ k1,e _ k2]
theorem joo {ts:List (Int × Int)} (h:∀ t ∈ ts,t.1 < t.2) {n m:Int} (q:m ∈ ja9 ts n):n ∈ ja9 ts m:=(jce h).mpr ((jce h).mp q).symm
theorem jp9 (a b:Int × Int):eqP (jd3 a) (jd3 b) = decide (a = b):=by
 obtain ⟨a1,a2⟩:=a
 obtain ⟨b1,b2⟩:=b
 unfold jd3
 simp only [eqP,eqPs,Bool.and_true,Prod.mk.injEq]
 by_cases c1:a1 = b1 <;> by_cases c2:a2 = b2 <;> simp [c1,c2]
theorem jk1 (t:Int × Int):∀ (us:List (Int × Int)),(us.map jd3).any (fun c=>eqP c (jd3 t)) = decide (t ∈ us)
 | []=>rfl
 | u :: r=>by
  rw [List.map_cons,List.any_cons,jk1 t r,jp9]
  by_cases c:u = t
  ·simp [c]
  ·have:¬ t = u:=fun e=>c e.symm
   by_cases d:t ∈ r <;> simp [c,d,this]
def lesP (gs:List Int) (ps:List (Int × Int)):List (Int × Int):=ps.filter fun p=>!decide (p.1 ∈ gs)
def lesT (gs:List Int) (ts:List (Int × Int)):List (Int × Int):=ts.filter fun t=>!decide (t.1 ∈ gs) && !decide (t.2 ∈ gs)
def jka:Sp:=fun vs H Q _=>∃ v g ps ts,∃ gs:List Int,vs = [v,.ref g]/\jbg H v ps ts/\ps.length <= 40/\ts.length <= 120/\H g = some (.lst (gs.map V.int))/\∀ r a b zs ws H',Same H H'->H' r = some (.tup [.ref a,.ref b])->H' a = some (.lst zs)->Prs H' zs (lesP gs ps)->H' b = some (.lst ws)->Prs H' ws (lesT gs ts)->Q (.ref r) H'
def jnq:Sp:=fun vs H Q _=>∃ v n x ps ts,vs = [v,.int n,.int x]/\jbg H v ps ts/\ps.length <= 40/\∀ r H',Same H H'->jbg H' r (setP n x ps) ts->Q r H'
def jrb:Sp:=fun vs H Q _=>∃ v n a x ps ts,vs = [v,.int n,.ref a,.int x]/\jbg H v ps ts/\WebOk ps ts/\ps.length <= 8/\ts.length <= 50/\H a = some (.lst ((ja9 ts n).map V.int))/\∀ r H' ts' (ds:List Int),Same H H'->jbg H' r (lesP (ja9 ts n) (setP n x ps)) ts'->ds.Nodup->(∀ k,k ∈ ds ↔ jga ts n k)->ts'.Perm (lesT (ja9 ts n) ts ++ ds.map (tieM n))->ts'.Pairwise jee->Q r H'
def jrd:Sp:=fun vs H Q _=>∃ v t ps ts w ns,vs = [v,.ref t]/\jbg H v ps ts/\WebOk ps ts/\ps.length <= 8/\ts.length <= 50/\StpO H t ps w ns/\jf8 w ns/\okS ps ts w ns/\∀ r v' y H' ts',Same H H'->H' r = some (.tup [v',y])->jlc (afF ps ts w ns) ts w ns ts'->jbg H' v' (afF ps ts w ns) ts'->Q (.ref r) H'
def jnt:Sp:=fun vs H Q _=>∃ v t l ps ts w,∃ ns ss:List Int,vs = [v,.ref t,.ref l]/\jbg H v ps ts/\WebOk ps ts/\ps.length <= 8/\StpO H t ps w ns/\(w = (("leaf":String):Str)->ja9 ts (jb9 ns) ≠ [])/\H l = some (.lst (ss.map V.int))/\ss.length <= 8 /\
 ∀ r (ms:List Int) H',H r = none->Same H H'->H' r = some (.lst (ms.map V.int))->ms.Perm (bkL ts w ns ss)->ms.Pairwise (· <= ·)->Q (.ref r) H'
theorem jry {k n:Int} (h:k ≠ n):((if n < k then n else k,if n > k then n else k):Int × Int) = tieM n k:=by
 unfold tieM
 rcases Int.lt_or_gt_of_ne h with c | c
 ·rw [if_neg (show ¬ n < k by omega),if_pos (show n > k from c),if_pos c,if_neg (show ¬ n < k by omega)]
 ·have c:n < k:=c
  rw [if_pos c,if_neg (show ¬ n > k by omega),if_neg (show ¬ k < n by omega),if_pos c]
theorem jfw (B:Blt mg) (D:DefAt K mg "_law_touching" (top 86) ["_law_state","_law_web_here"] f fd) (Dqa:DefAt K mg "_law_take" (top 67) ["_law_state","_law_many"] fqa dqa) (Gqa:FnOk P w K mg base CX0 1 fqa dqa ["_law_state","_law_many"] jdm):FnOk P w K mg base CX0 2 f fd ["_law_state","_law_web_here"] spTou:=by
 have sc:FnScope ["_law_state","_law_web_here","_law_some","_law_one","_law_other"] ["_law_state","_law_web_here"] (jab (top 86)):=by walk_at "SC"
 refine D.F.ok sc (fun vs H Q E h=>?_) (fun cdv A outer s H vs Q E hr h=>?_)
 ·obtain ⟨st,o,v,ps,ts,rfl,_⟩:=h
  rfl
 obtain ⟨st,o,v,ps,ts,rfl,es,so,hw,wok,hl8,h⟩:=h
 obtain ⟨u,pa,ta,xs,ys,rfl,eu,ep,et,pp,pt⟩:=id hw
 have hlx:xs.length = ps.length:=Paired.length pp
 have hly:ys.length = ts.length:=Paired.length pt
 have hnd:=wok.p.nodup
 have nps:pa ≠ st:=jmw ep pp es so
 have nts:ta ≠ st:=jmw et pt es so
 have hu:=jb8 hr
 have hu0:_ < PySem.cLine:=Nat.lt_of_succ_lt hu
 refine ⟨_,(ja4 (jco (i:=2) sc.nd rfl (Or.inl rfl) (CpScope.of (N:=["_law_place","_law_price","_law_state"]) (src:=[none,none,some 0]) (by rfl)) rfl (jau (jam q_ix (qv 1) ja5 (fun _ _=>rfl))) (fun _ _ _ _=>(jc9 (n:=2) rfl (jat (jad (i:=0) (jac (l:=["_law_place","_law_price","_law_state"]) (by rfl)) rfl (Or.inl rfl)) (jat (jad (i:=1) (jac (l:=["_law_place","_law_price","_law_state"]) (by rfl)) rfl (Or.inl rfl)) jbr)))) (fun _ _ _ _=>(jc1 (jal q_eq (ja8 Gqa (hr.mono (by decide)) rfl Dqa.m Dqa.F.kp Dqa.b .nil jan (ja0 (qv 2) (ja0 ja5 ja3))) ja5 (jag _)))) (fun _ _ _ _=>(qv 0))) (ja4 (jc5 PassesOwn.never rfl (jau (jam q_ix (qv 1) ja5 (fun _ _=>rfl))) (jc9 (n:=2) rfl (jat (jad (i:=3) sc.nd rfl (Or.inl rfl)) (jat (jad (i:=4) sc.nd rfl (Or.inl rfl)) jbr))) (ja7 (jb3 (PW.pt (jcm (jal jcl (qv 3) (qv 2) (by with_unfolding_all rfl)) (jc0 (jal jcl (qv 4) (qv 2) (by with_unfolding_all rfl))))) (ja7 (jak (i:=2) sc.nd rfl (Or.inl rfl) (jay jcv (qv 2) (jb6 (ja0 (jam q_ix (jb6 (ja0 (qv 3) (ja0 (qv 4) ja3))) (ja8 Gqa (hr.mono (by decide)) rfl Dqa.m Dqa.F.kp Dqa.b .nil jan (ja0 (qv 0) (ja0 ja5 ja3))) (fun _ _=>rfl)) ja3))))) jaj))) (ja7 (jah (jaf jda rfl B.sorted PyProof.Rows.boot_sorted (ja0 (qv 2) ja3)))))),?_⟩
 refine ja6 fun R hR=>?_
 refine jap (Itl K pa) H (fun R2 hR2=>?_) (fun z hz=>jaw ps.length (fun j σ' Hc=>∃ w1 w2 o',σ' = [w1,w2,some (.ref st)]/\But st H Hc/\Hc st = some o'/\StO o'/\∃ ms:List Int,Hc z = some (.lst (ms.map V.int))/\ms.Sublist ((ps.take j).map (·.1))) ⟨none,none,o,rfl,But.new hz,by rw [jae (jaa es hz)]; exact es,so,[],ja1,List.Sublist.refl _⟩ ?_ ?_)
 ·unfold jbd
  simp_arith [jai,eu,at0]
  exact ⟨pa,rfl,⟨_,SqL.of ep⟩,hR2⟩
 ·rintro j σ' Hc hj ⟨w1,w2,o',rfl,b4,e4,so4,ms,ez,sb⟩
  have z1:SqL K Hc pa xs:=SqL.of (b4 _ _ nps ep)
  have x1:xs[j]? = some (xs[j]'(by omega)):=gE _
  refine ⟨⟨_,_,z1,x1⟩,?_⟩
  rintro y H' ⟨rfl,hy⟩
  obtain ⟨q,hq,pq⟩:=jas pp (hy _ z1)
  obtain ⟨t,rfl,ht⟩:=pq.tups (b4.tups es so.imm)
  have nz:z ≠ st:=(jaa es hz).symm
  have hml:ms.length <= 8:=by
   have:=sb.length_le
   rw [List.length_map,List.length_take] at this
   omega
  simp_arith [ht]
  refine ⟨st,o',2,rfl,e4,so4,by decide,by decide,fun d oD d0 d1 soD=>?_⟩
  have b5:=b4.trans (But.at st H' oD)
  have e5:upd H' st oD st = some oD:=ja1
  have ez5:=But.at st H' oD _ _ nz ez
  generalize upd H' st oD = H5 at b5 e5 ez5
  walk_at "RD"
  refine ite2 (fun _=>?_) (fun _=>?_)
  ·refine ⟨_,ez5,by rw [List.length_map]; exact szl' (by omega),_,_,oD,rfl,fun b x nb q9=>?_,by rw [jae nz.symm]; exact e5,soD,ms ++ [q.1],by rw [ja1,List.map_append]; rfl,?_⟩
   ·rw [jae (jaa q9 hz)]
    exact b5 _ _ nb q9
   ·rw [jaq hq,List.map_append]
    exact sb.append (List.Sublist.refl _)
  ·refine ⟨_,_,oD,rfl,b5,e5,soD,ms,ez5,?_⟩
   rw [jaq hq,List.map_append]
   exact sb.trans (List.sublist_append_left _ _)
 rintro σ' H1 ⟨w1,w2,o1,rfl,b1,e1,so1,m0,ez,sb⟩
 refine ⟨⟨_,SqL.of (b1 _ _ nps ep),by omega⟩,?_⟩
 rw [List.take_length] at sb
 have nz:z ≠ st:=(jaa es hz).symm
 walk_at "RD"
 subst hR
 refine ja6 fun R hR=>?_
 have t1:=b1.tups es so.imm
 have tin:∀ t ∈ ts,t.1 ∈ ps.map (·.1)/\t.2 ∈ ps.map (·.1):=fun t ht=>by
  obtain ⟨a1,a2,a3⟩:=TiOk.ats wok.t t ht
  rw [jbm] at a2 a3
  exact ⟨of_decide_eq_true a2,of_decide_eq_true a3⟩
 have h8:∀ ms:List Int,ms.Nodup->(∀ m ∈ ms,m ∈ ps.map (·.1))->ms.length <= 8:=fun ms n1 n2=>by
  have:=jd0 n1 n2
  rw [List.length_map] at this
  omega
 refine jbq (Itl K ta) H1 (fun R' hR'=>?_) (jby (K:=K) (a:=ta) (xs:=ys) (fun i σ H2=>∃ w1 w2 L o2,∃ ms:List Int,σ = [some (.ref st),some (.ref u),some (.ref L),w1,w2]/\But st H H2/\H2 st = some o2/\StO o2/\L ≠ st/\H2 L = some (.lst (ms.map V.int))/\ms.Nodup/\(∀ m ∈ ms,m ∈ ps.map (·.1))/\∀ t ∈ ts.take i,t.1 ∈ ms \/ t.2 ∈ ms) ⟨_,_,z,o1,m0,rfl,b1,e1,so1,nz,ez,sb.nodup hnd,fun m hm=>sb.subset hm,fun t ht=>by rw [List.take_zero] at ht; cases ht⟩ (fun i σ H2 _ ⟨_,_,_,_,_,_,b2,_⟩=>SqL.of (b2 _ _ nts et)) ?_ ?_)
 ·unfold jbd
  simp_arith [jai,t1 _ _ rfl eu,at1]
  exact ⟨ta,rfl,⟨_,SqL.of (b1 _ _ nts et)⟩,hR'⟩
 ·rintro i x σ H2 hx ⟨w1,w2,L,o2,ms,rfl,b2,e2,so2,nL,eL,nd,hin,hto⟩
  obtain ⟨q,hq,pq⟩:=jas pt hx
  obtain ⟨tq,rfl,htq⟩:=pq.tups (b2.tups es so.imm)
  have hqt:=tin q (List.mem_of_getElem? hq)
  have hml:=h8 ms nd hin
  have nx:∀ ms':List Int,(∀ m ∈ ms,m ∈ ms')->(q.1 ∈ ms' \/ q.2 ∈ ms')->∀ t ∈ ts.take (i + 1),t.1 ∈ ms' \/ t.2 ∈ ms':=fun ms' h1 h2 t ht=>by
   rw [jaq hq] at ht
   rcases List.mem_append.mp ht with ht | ht
   ·exact (hto t ht).imp (h1 _) (h1 _)
   ·rw [List.mem_singleton.mp ht]; exact h2
  simp_arith [htq,jai,eL,jbp,flat_ints,jcg]
  by_cases c1:q.1 ∈ ms
  ·simp only [c1,decide_true,Bool.not_true,Bool.false_eq_true,if_false]
   exact ⟨_,_,L,o2,ms,rfl,b2,e2,so2,nL,eL,nd,hin,nx ms (fun _ h=>h) (.inl c1)⟩
  by_cases c2:q.2 ∈ ms
  ·simp only [c1,c2,decide_true,decide_false,Bool.not_true,Bool.not_false,Bool.false_eq_true,if_false,if_true]
   exact ⟨_,_,L,o2,ms,rfl,b2,e2,so2,nL,eL,nd,hin,nx ms (fun _ h=>h) (.inr c2)⟩
  simp only [c1,c2,decide_false,Bool.not_false,if_true]
  intro l1 hl1
  have q3:=ja2 hl1 (.lst [.int q.1,.int q.2])
  have el1:upd H2 l1 (.lst [.int q.1,.int q.2]) l1 = some (.lst [.int q.1,.int q.2]):=ja1
  have n1:l1 ≠ st:=(jaa e2 hl1).symm
  generalize upd H2 l1 (.lst [.int q.1,.int q.2]) = H3 at q3 el1
  refine ⟨st,o2,2,rfl,q3 _ _ e2,so2,by decide,by decide,fun d oD d0 d1 soD=>?_⟩
  have b4:But st H (upd H3 st oD):=fun b x nb q9=>by rw [jae nb]; exact q3 _ _ (b2 _ _ nb q9)
  have e4:upd H3 st oD st = some oD:=ja1
  have el4:=But.at st H3 oD _ _ n1 el1
  have eL4:=But.at st H3 oD _ _ nL (q3 _ _ eL)
  generalize upd H3 st oD = H4 at b4 e4 el4 eL4
  obtain ⟨m,hm,hmq⟩:=two_at (a:=q.1) (b:=q.2) d0 d1
  simp only [jai,el4,hm]
  intro l2 hl2
  have q5:=ja2 hl2 (.lst [.int m])
  have el2:upd H4 l2 (.lst [.int m]) l2 = some (.lst [.int m]):=ja1
  generalize upd H4 l2 (.lst [.int m]) = H5 at q5 el2
  simp_arith [q5 _ _ eL4,el2]
  refine ⟨szl (by rw [List.length_map]; omega),?_⟩
  intro l3 hl3
  have q6:=ja2 hl3 (.lst (ms.map V.int ++ [.int m]))
  have hmn:m ∉ ms:=by rcases hmq with e | e <;> rw [e] <;> assumption
  refine ⟨_,_,l3,oD,ms ++ [m],rfl,fun b x nb q9=>q6 _ _ (q5 _ _ (b4 _ _ nb q9)),q6 _ _ (q5 _ _ e4),soD,(jaa (q5 _ _ e4) hl3).symm,by rw [ja1,List.map_append]; rfl,?_,?_,?_⟩
  ·rw [List.nodup_append]
   refine ⟨nd,List.nodup_cons.mpr ⟨(fun z=>by cases z),List.nodup_nil⟩,fun a ha b hb e=>?_⟩
   rw [List.mem_singleton.mp hb] at e
   exact hmn (by rw [<- e]; exact ha)
  ·intro k hk
   rcases List.mem_append.mp hk with hk | hk
   ·exact hin k hk
   ·rw [List.mem_singleton.mp hk]
    rcases hmq with e | e <;> rw [e]
    ·exact hqt.1
    ·exact hqt.2
  ·refine nx _ (fun k hk=>List.mem_append_left _ hk) ?_
   rcases hmq with e | e
   ·exact .inl (List.mem_append_right _ (by rw [e]; exact List.mem_singleton.mpr rfl))
   ·exact .inr (List.mem_append_right _ (by rw [e]; exact List.mem_singleton.mpr rfl))
 ·rintro σ H2 ⟨w1,w2,L,o2,ms,rfl,b2,e2,so2,nL,eL,nd,hin,hto⟩
  rw [hly,List.take_length] at hto
  have hml:=h8 ms nd hin
  walk_at "RD"
  subst hR
  walk_at "RD"
  refine ⟨L,ms,rfl,eL,by omega,fun r ss hr pm pw=>?_⟩
  have q7:=ja2 hr (.lst (ss.map V.int))
  have fr:H r = none:=by
   cases q:H r with
   | none=>rfl
   | some o9 =>
    by_cases c:r = st
    ·rw [c,e2] at hr; cases hr
    ·rw [b2 _ _ c q] at hr; cases hr
  have sin:∀ n ∈ ss,n ∈ ps.map (·.1):=fun n hn=>hin n (pm.mem_iff.mp hn)
  have ss8:ss.length <= 8:=by rw [pm.length_eq]; exact hml
  refine h r ss _ o2 fr (fun b x nb q9=>q7 _ _ (b2 _ _ nb q9)) (q7 _ _ e2) so2 ja1 ⟨⟨by omega,jo1 (jio pw (pm.nodup_iff.mpr nd)) (fun n hn=>by rw [jbm]; exact decide_eq_true (sin n hn)) (fun n hn=>?_)⟩,?_,pw,ss8⟩
  ·obtain ⟨p,hp,rfl⟩:=List.mem_map.mp (sin n hn)
   exact wok.p.gt p hp
  ·refine List.filter_eq_nil_iff.mpr fun t ht z=>?_
   rw [Bool.and_eq_true,Bool.not_eq_true',Bool.not_eq_true',decide_eq_false_iff_not,decide_eq_false_iff_not] at z
   rcases hto t ht with e | e
   ·exact z.1 (pm.mem_iff.mpr e)
   ·exact z.2 (pm.mem_iff.mpr e)
theorem jkl (B:Blt mg) (D:DefAt K mg "_law_less" (top 81) ["_law_web_here","_law_gone"] f fd):FnOk P w K mg base CX0 1 f fd ["_law_web_here","_law_gone"] jka:=by
 have sc:FnScope ["_law_web_here","_law_gone","_law_places_here"] ["_law_web_here","_law_gone"] (jab (top 81)):=by walk_at "SC"
 refine D.F.ok sc (fun vs H Q E h=>?_) (fun cdv A outer s H vs Q E hr h=>?_)
 ·obtain ⟨v,g,ps,ts,gs,rfl,_⟩:=h
  rfl
 obtain ⟨v,g,ps,ts,gs,rfl,hw,hp40,ht120,eg,h⟩:=h
 obtain ⟨u,pa,ta,xs,ys,rfl,eu,ep,et,pp,pt⟩:=id hw
 have hlx:xs.length = ps.length:=Paired.length pp
 have hly:ys.length = ts.length:=Paired.length pt
 have hu:=jb8 hr
 have hu0:_ < PySem.cLine:=Nat.lt_of_succ_lt hu
 refine ⟨_,(ja4 (jco (i:=2) sc.nd rfl (Or.inl rfl) (CpScope.of (N:=["_law_row","_law_gone"]) (src:=[none,some 1]) (by rfl)) rfl (jau (jam q_ix (qv 0) ja5 (fun _ _=>rfl))) (fun _ _ _ _=>(jad (i:=0) (jac (l:=["_law_row","_law_gone"]) (by rfl)) rfl (Or.inl rfl))) (fun _ _ _ _=>(jc1 (jal jcl (jam q_ix (qv 0) ja5 (fun _ _=>rfl)) (qv 1) (by with_unfolding_all rfl)))) (fun _ _ _ _=>(qv 0))) (ja7 (jah (jb4 (ja0 (qv 2) (ja0 (jbb (CpScope.of (N:=["_law_tie_here","_law_gone"]) (src:=[none,some 1]) (by rfl)) rfl (jau (jam q_ix (qv 0) ja5 (fun _ _=>rfl))) (fun _ _ _ _=>(jad (i:=0) (jac (l:=["_law_tie_here","_law_gone"]) (by rfl)) rfl (Or.inl rfl))) (fun _ _ _ _=>(jc1 (PW.pt (jcm (jal jcl (jam q_ix (qv 0) ja5 (fun _ _=>rfl)) (qv 1) (by with_unfolding_all rfl)) (jc0 (jal jcl (jam q_ix (qv 0) ja5 (fun _ _=>rfl)) (qv 1) (by with_unfolding_all rfl))))))) (fun _ _ _ _=>(qv 0))) ja3)))))),?_⟩
 refine ja6 fun R hR=>?_
 refine jap (Itl K pa) H (fun R' hR'=>?_) (fun z hz=>jaw ps.length (fun i σ' Hc=>∃ w1,σ' = [w1,some (.ref g)]/\Same H Hc/\∃ zs,Hc z = some (.lst zs)/\Prs Hc zs (lesP gs (ps.take i))) ⟨none,rfl,ja2 hz _,[],ja1,.nil⟩ ?_ ?_)
 ·unfold jbd
  simp_arith [jai,eu,at0]
  exact ⟨pa,rfl,⟨_,SqL.of ep⟩,hR'⟩
 ·rintro i σ' Hc hi ⟨w1,rfl,s4,zs,ez,pz⟩
  have z1:SqL K Hc pa xs:=SqL.of (s4 _ _ ep)
  have x1:xs[i]? = some (xs[i]'(by omega)):=gE _
  refine ⟨⟨_,_,z1,x1⟩,?_⟩
  rintro y H' ⟨rfl,hy⟩
  obtain ⟨q,hq,pq⟩:=jas pp (hy _ z1)
  obtain ⟨t,rfl,ht⟩:=pq.same s4
  have hzl:zs.length <= 40:=by
   rw [show zs.length = _ from Paired.length pz]
   exact Nat.le_trans (List.length_filter_le _ _) (by rw [List.length_take]; omega)
  have ft:=jbo (f:=fun p:Int × Int=>!decide (p.1 ∈ gs)) hq
  have t6:=jba (ys:=zs ++ [.ref t]) ez
  simp_arith [jai,ht,at0,s4 _ _ eg,jbp,flat_ints,jcg]
  unfold lesP at pz ⊢
  by_cases c:q.1 ∈ gs
  ·simp only [c,decide_true,Bool.not_true,Bool.false_eq_true,if_false,List.append_nil] at ft ⊢
   exact ⟨_,rfl,s4,zs,ez,by rw [ft]; exact pz⟩
  ·simp only [c,decide_false,Bool.not_false,if_true] at ft ⊢
   refine ⟨zs,ez,szl' (by omega),_,rfl,jao s4 hz,zs ++ [.ref t],(by first | rfl | exact ja1),?_⟩
   rw [ft]
   exact jar (Prs.tups t6 pz) (Pr.tups ⟨t,rfl,ht⟩ t6)
 rintro σ' H1 ⟨w1,rfl,s1,zs,ez,pz⟩
 refine ⟨⟨_,SqL.of (s1 _ _ ep),by omega⟩,?_⟩
 rw [List.take_length] at pz
 walk_at "RD"
 subst hR
 walk_at "RD"
 refine jap (Itl K ta) H1 (fun R' hR'=>?_) (fun y hy=>jaw ts.length (fun i σ' Hc=>∃ w1,σ' = [w1,some (.ref g)]/\Same H1 Hc/\∃ ws,Hc y = some (.lst ws)/\Prs Hc ws (lesT gs (ts.take i))) ⟨none,rfl,ja2 hy _,[],ja1,.nil⟩ ?_ ?_)
 ·unfold jbd
  simp_arith [jai,s1 _ _ eu,at1]
  exact ⟨ta,rfl,⟨_,SqL.of (s1 _ _ et)⟩,hR'⟩
 ·rintro i σ' Hc hi ⟨w1,rfl,s4,ws,ew,pw⟩
  have z1:SqL K Hc ta ys:=SqL.of (s4 _ _ (s1 _ _ et))
  have x1:ys[i]? = some (ys[i]'(by omega)):=gE _
  refine ⟨⟨_,_,z1,x1⟩,?_⟩
  rintro yy H' ⟨rfl,hyy⟩
  obtain ⟨q,hq,pq⟩:=jas pt (hyy _ z1)
  obtain ⟨t,rfl,ht⟩:=pq.same (s1.trans s4)
  have hzl:ws.length <= 120:=by
   rw [show ws.length = _ from Paired.length pw]
   exact Nat.le_trans (List.length_filter_le _ _) (by rw [List.length_take]; omega)
  have ft:=jbo (f:=fun t:Int × Int=>!decide (t.1 ∈ gs) && !decide (t.2 ∈ gs)) hq
  have t6:=jba (ys:=ws ++ [.ref t]) ew
  simp_arith [jai,ht,at0,at1,s4 _ _ (s1 _ _ eg),jbp,flat_ints,jcg]
  unfold lesT at pw ⊢
  by_cases c:q.1 ∈ gs
  ·simp only [c,decide_true,Bool.not_true,Bool.false_and,Bool.false_eq_true,if_false,List.append_nil] at ft ⊢
   exact ⟨_,rfl,s4,ws,ew,by rw [ft]; exact pw⟩
  by_cases c2:q.2 ∈ gs
  ·simp only [c,c2,decide_true,decide_false,Bool.not_true,Bool.not_false,Bool.and_false,Bool.false_eq_true,if_false,if_true,List.append_nil] at ft ⊢
   exact ⟨_,rfl,s4,ws,ew,by rw [ft]; exact pw⟩
  ·simp only [c,c2,decide_false,Bool.not_false,Bool.and_self,if_true] at ft ⊢
   refine ⟨ws,ew,szl' (by omega),_,rfl,jao s4 hy,ws ++ [.ref t],(by first | rfl | exact ja1),?_⟩
   rw [ft]
   exact jar (Prs.tups t6 pw) (Pr.tups ⟨t,rfl,ht⟩ t6)
 rintro σ' H2 ⟨w1,rfl,s2,ws,ew,pw⟩
 refine ⟨⟨_,SqL.of (s2 _ _ (s1 _ _ et)),by omega⟩,?_⟩
 rw [List.take_length] at pw
 intro r hr
 have q3:=ja2 hr (.tup [.ref z,.ref y])
 exact h r z y zs ws _ (s1.trans (s2.trans q3)) ja1 (q3 _ _ (s2 _ _ ez)) (Prs.same (s2.trans q3) pz) (q3 _ _ ew) (Prs.same q3 pw)
theorem jhq (B:Blt mg) (D:DefAt K mg "_law_priced" (top 82) ["_law_web_here","_law_place","_law_price"] f fd):FnOk P w K mg base CX0 1 f fd ["_law_web_here","_law_place","_law_price"] jnq:=by
 have sc:FnScope ["_law_web_here","_law_place","_law_price"] ["_law_web_here","_law_place","_law_price"] (jab (top 82)):=by walk_at "SC"
 refine D.F.ok sc (fun vs H Q E h=>?_) (fun cdv A outer s H vs Q E hr h=>?_)
 ·obtain ⟨v,n,x,ps,ts,rfl,_⟩:=h
  rfl
 obtain ⟨v,n,x,ps,ts,rfl,hw,hp40,h⟩:=h
 obtain ⟨u,pa,ta,xs,ys,rfl,eu,ep,et,pp,pt⟩:=id hw
 have hlx:xs.length = ps.length:=Paired.length pp
 have hu:=jb8 hr
 have hu0:_ < PySem.cLine:=Nat.lt_of_succ_lt hu
 refine ⟨_,(ja7 (jah (jb4 (ja0 (jbb (CpScope.of (N:=["_law_one","_law_cost","_law_price","_law_place"]) (src:=[none,none,some 2,some 1]) (by rfl)) rfl (jau (jam q_ix (qv 0) ja5 (fun _ _=>rfl))) (fun _ _ _ _=>(jc9 (n:=2) rfl (jat (jad (i:=0) (jac (l:=["_law_one","_law_cost","_law_price","_law_place"]) (by rfl)) rfl (Or.inl rfl)) (jat (jad (i:=1) (jac (l:=["_law_one","_law_cost","_law_price","_law_place"]) (by rfl)) rfl (Or.inl rfl)) jbr)))) (fun _ _ _ _=>jbj) (fun _ _ _ _=>(jb4 (ja0 (qv 0) (ja0 (jam q_ix (jb6 (ja0 (qv 1) (ja0 (qv 2) ja3))) (jbf jo8 rfl B.int PyProof.Rows.boot_int (ja0 (jb0 q_eq (qv 0) (qv 3) (jag _)) ja3)) (fun _ _=>rfl)) ja3))))) (ja0 (jam q_ix (qv 0) ja5 (fun _ _=>rfl)) ja3))))),?_⟩
 walk_at "RD"
 refine jap (Itl K pa) H (fun R' hR'=>?_) (fun z hz=>jaw ps.length (fun i σ' Hc=>∃ w1 w2,σ' = [w1,w2,some (.int x),some (.int n)]/\Same H Hc/\∃ zs,Hc z = some (.lst zs)/\Prs Hc zs (setP n x (ps.take i))) ⟨none,none,rfl,ja2 hz _,[],ja1,.nil⟩ ?_ ?_)
 ·unfold jbd
  simp_arith [jai,eu,at0]
  exact ⟨pa,rfl,⟨_,SqL.of ep⟩,hR'⟩
 ·rintro i σ' Hc hi ⟨w1,w2,rfl,s4,zs,ez,pz⟩
  have z1:SqL K Hc pa xs:=SqL.of (s4 _ _ ep)
  have x1:xs[i]? = some (xs[i]'(by omega)):=gE _
  refine ⟨⟨_,_,z1,x1⟩,?_⟩
  rintro y H' ⟨rfl,hy⟩
  obtain ⟨q,hq,pq⟩:=jas pp (hy _ z1)
  obtain ⟨t,rfl,ht⟩:=pq.same s4
  have hzl:zs.length <= 40:=by
   rw [show zs.length = _ from Paired.length pz]
   unfold setP
   rw [List.length_map,List.length_take]
   omega
  have es:setP n x (ps.take (i + 1)) = setP n x (ps.take i) ++ [if q.1 = n then (q.1,x) else q]:=by
   unfold setP
   rw [jaq hq,List.map_append]
   rfl
  simp_arith [ht]
  intro m hm
  have q5:=ja2 hm (.lst [.int q.2,.int x])
  have em:upd H' m (.lst [.int q.2,.int x]) m = some (.lst [.int q.2,.int x]):=ja1
  have ez5:=q5 _ _ ez
  have pz5:=Prs.same q5 pz
  generalize upd H' m (.lst [.int q.2,.int x]) = H5 at q5 em ez5 pz5
  have fin:∀ k:Int,(if q.1 = n then (q.1,x) else q) = (q.1,k)->∀ p,H5 p = none->∃ xs,upd H5 p (.tup [.int q.1,.int k]) z = some (.lst xs)/\xs.length < sizeLine/\∃ w1 w2,([some (.int q.1),some (.int q.2),some (.int x),some (.int n)]:St) = [w1,w2,some (.int x),some (.int n)]/\Same H (upd (upd H5 p (.tup [.int q.1,.int k])) z (.lst (xs ++ [.ref p])))/\∃ zs,upd (upd H5 p (.tup [.int q.1,.int k])) z (.lst (xs ++ [.ref p])) z = some (.lst zs)/\Prs (upd (upd H5 p (.tup [.int q.1,.int k])) z (.lst (xs ++ [.ref p]))) zs (setP n x (ps.take (i + 1))):=fun k ek p hp=>by
   have q6:=ja2 hp (.tup [.int q.1,.int k])
   have ep6:upd H5 p (.tup [.int q.1,.int k]) p = some (.tup [.int q.1,.int k]):=ja1
   have ez6:=q6 _ _ ez5
   have pz6:=Prs.same q6 pz5
   generalize upd H5 p (.tup [.int q.1,.int k]) = H6 at q6 ep6 ez6 pz6
   have t6:=jba (ys:=zs ++ [.ref p]) ez6
   refine ⟨zs,ez6,szl' (by omega),_,_,rfl,jao (s4.trans (q5.trans q6)) hz,zs ++ [.ref p],ja1,?_⟩
   rw [es,ek]
   exact jar (Prs.tups t6 pz6) (Pr.tups (p:=(q.1,k)) ⟨p,rfl,ep6⟩ t6)
  walk_at "RD"
  by_cases c:q.1 = n
  ·simp only [decide_eq_true c,if_true]
   simp_arith [jai,em,at1]
   exact fin x (if_pos c)
  ·simp only [c,decide_false,Bool.false_eq_true,if_false]
   simp_arith [jai,em,at0]
   exact fin q.2 (if_neg c)
 rintro σ' H1 ⟨w1,w2,rfl,s1,zs,ez,pz⟩
 refine ⟨⟨_,SqL.of (s1 _ _ ep),by omega⟩,?_⟩
 rw [List.take_length] at pz
 simp_arith [jai,s1 _ _ eu,at1]
 intro r hr
 have q3:=ja2 hr (.tup [.ref z,.ref ta])
 exact h _ _ (s1.trans q3) ⟨r,z,ta,zs,ys,rfl,ja1,q3 _ _ ez,q3 _ _ (s1 _ _ et),Prs.same q3 pz,Prs.same (s1.trans q3) pt⟩
theorem jk2 {ps ts qs:List (Int × Int)} {w:Str} {ns gs:List Int} (wok:WebOk ps ts) (hg:∀ n,n ∈ gs ↔ n ∈ (chgF ps ts w ns).1) (hq:qs = upP ps (chgF ps ts w ns).2.1):lesP gs qs = afF ps ts w ns/\lesT gs ts = inK (afF ps ts w ns) ts:=by
 have e:lesP gs qs = afF ps ts w ns:=by
  unfold lesP afF
  rw [hq]
  refine List.filter_congr fun p _=>?_
  by_cases c:p.1 ∈ gs
  ·rw [decide_eq_true c,decide_eq_true ((hg _).mp c)]
  ·rw [decide_eq_false c,decide_eq_false fun z=>c ((hg _).mpr z)]
 refine ⟨e,?_⟩
 rw [<- e]
 exact jsf wok (by rw [hq,jf9])
theorem jhs (B:Blt mg) (D:DefAt K mg "_law_folded" (top 83) ["_law_web_here","_law_v","_law_some","_law_price"] f fd) (Dqb:DefAt K mg "_law_near" (top 77) ["_law_web_here","_law_place"] fqb dqb) (Gqb:FnOk P w K mg base CX0 1 fqb dqb ["_law_web_here","_law_place"] je2) (Dqe:DefAt K mg "_law_less" (top 81) ["_law_web_here","_law_gone"] fqe dqe) (Gqe:FnOk P w K mg base CX0 1 fqe dqe ["_law_web_here","_law_gone"] jka) (Dqg:DefAt K mg "_law_priced" (top 82) ["_law_web_here","_law_place","_law_price"] fqg dqg) (Gqg:FnOk P w K mg base CX0 1 fqg dqg ["_law_web_here","_law_place","_law_price"] jnq):FnOk P w K mg base CX0 3 f fd ["_law_web_here","_law_v","_law_some","_law_price"] jrb:=by
 have sc:FnScope ["_law_web_here","_law_v","_law_some","_law_price","_law_ties","_law_one","_law_far","_law_tie_here"] ["_law_web_here","_law_v","_law_some","_law_price"] (jab (top 83)):=by walk_at "SC"
 refine D.F.ok sc (fun vs H Q E h=>?_) (fun cdv A outer s H vs Q E hr h=>?_)
 ·obtain ⟨v,n,a,x,ps,ts,rfl,_⟩:=h
  rfl
 obtain ⟨v,n,a,x,ps,ts,rfl,hw,wok,hp8,ht50,ea,h⟩:=h
 obtain ⟨u,pa,ta,xs,ys,rfl,eu,ep,et,pp,pt⟩:=id hw
 have lt:∀ t ∈ ts,t.1 < t.2:=fun t ht=>(TiOk.ats wok.t t ht).1
 have hu:=jb8 hr
 have hu0:_ < PySem.cLine:=Nat.lt_of_succ_lt hu
 refine ⟨_,(ja4 (jak (i:=4) sc.nd rfl (Or.inl rfl) (jam q_ix (ja8 Gqe (hr.mono (by decide)) rfl Dqe.m Dqe.F.kp Dqe.b .nil jan (ja0 (qv 0) (ja0 (qv 2) ja3))) ja5 (fun _ _=>rfl))) (ja4 (jc5 PassesOwn.never rfl (jau (qv 2)) (jad (i:=5) sc.nd rfl (Or.inl rfl)) (ja7 (jc5 PassesOwn.never rfl (jau (ja8 Gqb (hr.mono (by decide)) rfl Dqb.m Dqb.F.kp Dqb.b .nil jan (ja0 (qv 0) (ja0 (qv 5) ja3)))) (jad (i:=6) sc.nd rfl (Or.inl rfl)) (ja4 (jak (i:=7) sc.nd rfl (Or.inl rfl) (jb4 (ja0 (jaf (jqa rfl) rfl B.min PyProof.Rows.boot_min (ja0 (qv 6) (ja0 (qv 1) ja3))) (ja0 (jaf (jml rfl) rfl B.max PyProof.Rows.boot_max (ja0 (qv 6) (ja0 (qv 1) ja3))) ja3)))) (ja7 (jb3 (PW.pt (jcm (jal q_ne (qv 6) (qv 1) (jag _)) (jc0 (jal (jog hr.units) (qv 7) (qv 4) (by with_unfolding_all rfl))))) (ja7 (jak (i:=4) sc.nd rfl (Or.inl rfl) (jay jcv (qv 4) (jb6 (ja0 (qv 7) ja3))))) jaj)))))) (ja7 (jah (jb4 (ja0 (jam q_ix (ja8 Gqe (hr.mono (by decide)) rfl Dqe.m Dqe.F.kp Dqe.b .nil jan (ja0 (ja8 Gqg (hr.mono (by decide)) rfl Dqg.m Dqg.F.kp Dqg.b .nil jan (ja0 (qv 0) (ja0 (qv 1) (ja0 (qv 3) ja3)))) (ja0 (qv 2) ja3))) ja5 (fun _ _=>rfl)) (ja0 (jaf jd9 rfl B.sorted PyProof.Rows.boot_sorted (ja0 (qv 4) ja3)) ja3))))))),?_⟩
 have kge:∀ k ∈ ps.map (·.1),0 <= k/\k < 1000:=fun k hk=>by
  obtain ⟨q,hq,rfl⟩:=List.mem_map.mp hk
  have g1:=wok.p.gt q hq
  have g2:=(wok.p.pos q hq).2
  exact ⟨by omega,by omega⟩
 have tin:∀ t ∈ ts,t.1 ∈ ps.map (·.1)/\t.2 ∈ ps.map (·.1):=fun t ht=>by
  obtain ⟨_,a2,a3⟩:=TiOk.ats wok.t t ht
  rw [jbm] at a2 a3
  exact ⟨of_decide_eq_true a2,of_decide_eq_true a3⟩
 have dkey:∀ k,jga ts n k->k ∈ ps.map (·.1):=fun k hk=>by
  obtain ⟨_,m,_,h3⟩:=hk
  exact jbc wok h3
 have d8:∀ ds:List Int,ds.Nodup->(∀ k ∈ ds,jga ts n k)->ds.length <= 8:=fun ds n1 n2=>by
  have:=jd0 n1 (fun k hk=>dkey k (n2 k hk))
  rw [List.length_map] at this
  omega
 have hlt:(lesT (ja9 ts n) ts).length <= 50:=Nat.le_trans (List.length_filter_le _ _) ht50
 have pl:=wok.pl
 have tl:=wok.tl
 refine ja6 fun R hR=>?_
 walk_at "RD"
 refine ⟨.ref u,a,ps,ts,ja9 ts n,rfl,hw,pl,tl,ea,fun r0 p0 b0 z0 w0 H1 s1 er0 ep0 pz0 eb0 pw0=>?_⟩
 simp_arith [jai,er0,at1]
 subst hR
 refine ja6 fun R hR=>?_
 have ea1:=s1 _ _ ea
 have hw1:=hw.same s1
 refine jbq (Itl K a) H1 (fun R' hR'=>?_) (jby (K:=K) (a:=a) (xs:=(ja9 ts n).map V.int) (fun g σ H4=>∃ w5 w6 w7 L zs ds,σ = [some (.ref u),some (.int n),some (.ref a),some (.int x),some (.ref L),w5,w6,w7]/\Same H1 H4/\H4 L = some (.lst zs)/\Prs H4 zs (lesT (ja9 ts n) ts ++ ds.map (tieM n))/\ds.Nodup/\(∀ k ∈ ds,jga ts n k)/\(∀ m ∈ (ja9 ts n).take g,∀ k ∈ ja9 ts m,k ≠ n->k ∈ ds)) ⟨_,_,_,b0,w0,[],rfl,Same.refl _,eb0,by rw [List.map_nil,List.append_nil]; exact pw0,List.nodup_nil,(fun k hk=>by cases hk),(fun m hm=>by rw [List.take_zero] at hm; cases hm)⟩ (fun g σ H4 _ ⟨_,_,_,_,_,_,_,s4,_⟩=>SqL.of (s4 _ _ ea1)) ?_ ?_)
 ·unfold jbd
  walk_at "RD"
  exact ⟨a,rfl,⟨_,SqL.of ea1⟩,hR'⟩
 ·rintro g y σ H4 hy ⟨w5,w6,w7,L,zs,ds,rfl,s4,eL,pz,nd,dr,cov⟩
  obtain ⟨m,hm,rfl⟩:=jbt hy
  have hmn:m ∈ ja9 ts n:=List.mem_of_getElem? hm
  simp only [jeg,List.set_cons_zero,List.set_cons_succ]
  refine jd4 (ι:=Addr × Hp) (fun q=>Itl K q.1) (fun q=>q.2) (fun q=>Same H4 q.2/\q.2 q.1 = some (.lst ((ja9 ts m).map V.int))) (fun R' hR'=>?_) (fun q0 ok0=>?_)
  ·unfold jbd
   walk_at "RD"
   refine ⟨.ref u,m,ps,ts,rfl,hw1.same s4,wok,fun c H5 hc s5 ec=>?_⟩
   exact ⟨c,rfl,⟨_,SqL.of ec⟩,hR' (c,H5) ⟨s5,ec⟩⟩
  obtain ⟨c,H5⟩:=q0
  obtain ⟨s5,ec⟩:=ok0
  dsimp only at s5 ec
  refine jby (K:=K) (a:=c) (xs:=(ja9 ts m).map V.int) (fun j σ H6=>∃ w6 w7 L zs ds,σ = [some (.ref u),some (.int n),some (.ref a),some (.int x),some (.ref L),some (.int m),w6,w7]/\Same H5 H6/\H6 L = some (.lst zs)/\Prs H6 zs (lesT (ja9 ts n) ts ++ ds.map (tieM n))/\ds.Nodup/\(∀ k ∈ ds,jga ts n k)/\(∀ m ∈ (ja9 ts n).take g,∀ k ∈ ja9 ts m,k ≠ n->k ∈ ds)/\∀ k ∈ (ja9 ts m).take j,k ≠ n->k ∈ ds) ⟨_,_,L,zs,ds,rfl,Same.refl _,s5 _ _ eL,Prs.same s5 pz,nd,dr,cov,(fun k hk=>by rw [List.take_zero] at hk; cases hk)⟩ (fun j σ H6 _ ⟨_,_,_,_,_,_,s6,_⟩=>SqL.of (s6 _ _ ec)) ?_ ?_
  ·rintro j y σ H6 hy ⟨w6,w7,L,zs,ds,rfl,s6,eL,pz,nd,dr,cov,cv⟩
   obtain ⟨k,hk,rfl⟩:=jbt hy
   have hkm:k ∈ ja9 ts m:=List.mem_of_getElem? hk
   have hdl:=d8 ds nd dr
   have hzl:zs.length <= 58:=by
    rw [show zs.length = _ from Paired.length pz,List.length_append,List.length_map]
    omega
   have nx:∀ ds':List Int,(∀ k ∈ ds,k ∈ ds')->(k ≠ n->k ∈ ds')->∀ k ∈ (ja9 ts m).take (j + 1),k ≠ n->k ∈ ds':=fun ds' h1 h2 q hq hqn=>by
    rw [jaq hk] at hq
    rcases List.mem_append.mp hq with hq | hq
    ·exact h1 _ (cv q hq hqn)
    ·rw [List.mem_singleton.mp hq] at hqn ⊢
     exact h2 hqn
   simp only [jeg,List.set_cons_zero,List.set_cons_succ]
   refine ja6 fun R7 hR7=>?_
   walk_at "RD"
   intro tp htp
   by_cases ckn:k = n
   ·have q7:=ja2 htp (.tup [.int (if n < k then n else k),.int (if n > k then n else k)])
    have eL7:=q7 _ _ eL
    have pz7:=Prs.same q7 pz
    generalize upd H6 tp (.tup [.int (if n < k then n else k),.int (if n > k then n else k)]) = H7 at q7 eL7 pz7
    subst hR7
    walk_at "RD"
    simp only [decide_eq_true ckn,Bool.not_true,Bool.false_eq_true,if_false]
    exact ⟨_,_,L,zs,ds,rfl,s6.trans q7,eL7,pz7,nd,dr,cov,nx ds (fun _ h=>h) (fun e=>absurd ckn e)⟩
   have etm:=jry ckn
   have e1:(if n < k then n else k) = (tieM n k).1:=congrArg Prod.fst etm
   have e2:(if n > k then n else k) = (tieM n k).2:=congrArg Prod.snd etm
   rw [e1,e2]
   have q7:=ja2 htp (.tup [.int (tieM n k).1,.int (tieM n k).2])
   have eL7:=q7 _ _ eL
   have pz7:=Prs.same q7 pz
   have etp:upd H6 tp (.tup [.int (tieM n k).1,.int (tieM n k).2]) tp = some (.tup [.int (tieM n k).1,.int (tieM n k).2]):=ja1
   generalize upd H6 tp (.tup [.int (tieM n k).1,.int (tieM n k).2]) = H7 at q7 eL7 pz7 etp
   have s7:=s6.trans q7
   have ptp:Pr H7 (.ref tp) (tieM n k):=⟨tp,rfl,etp⟩
   have dk:jga ts n k:=⟨ckn,m,hmn,hkm⟩
   obtain ⟨_,tk⟩:=jen ckn
   have nob:tieM n k ∉ lesT (ja9 ts n) ts:=fun z=>by
    obtain ⟨z1,z2⟩:=List.mem_filter.mp z
    rw [Bool.and_eq_true,Bool.not_eq_true',Bool.not_eq_true',decide_eq_false_iff_not,decide_eq_false_iff_not] at z2
    rcases tk with ⟨f1,f2⟩ | ⟨f1,f2⟩
    ·rw [f1,f2] at z2
     exact z2.2 ((jce lt).mpr (.inl (by rw [show tieM n k = (n,k) from Prod.ext f1 f2] at z1; exact z1)))
    ·rw [f1,f2] at z2
     exact z2.1 ((jce lt).mpr (.inr (by rw [show tieM n k = (k,n) from Prod.ext f1 f2] at z1; exact z1)))
   have inj:tieM n k ∈ ds.map (tieM n)->k ∈ ds:=fun z=>by
    obtain ⟨q,hq,e⟩:=List.mem_map.mp z
    obtain ⟨_,tq⟩:=jen (dr q hq).1
    have:=(dr q hq).1
    rw [e] at tq
    have:q = k:=by rcases tk with ⟨f1,f2⟩ | ⟨f1,f2⟩ <;> rcases tq with ⟨f3,f4⟩ | ⟨f3,f4⟩ <;> omega
    rw [<- this]
    exact hq
   subst hR7
   walk_at "RD"
   simp only [ckn,decide_false,Bool.not_false,if_true]
   refine ⟨jd3 (tieM n k),L,zs,(lesT (ja9 ts n) ts ++ ds.map (tieM n)).map jd3,ptp.rep,rfl,eL7,Prs.reps pz7,by have:=jch (lesT (ja9 ts n) ts ++ ds.map (tieM n)); omega,?_⟩
   rw [jk1]
   by_cases ci:tieM n k ∈ lesT (ja9 ts n) ts ++ ds.map (tieM n)
   ·simp only [decide_eq_true ci,if_true,Bool.not_true,Bool.false_eq_true,if_false]
    have hkd:k ∈ ds:=(List.mem_append.mp ci).elim (fun z=>absurd z nob) inj
    exact ⟨_,_,L,zs,ds,rfl,s7,eL7,pz7,nd,dr,cov,nx ds (fun _ h=>h) (fun _=>hkd)⟩
   ·simp only [decide_eq_false ci,if_true,Bool.not_false]
    have hkd:k ∉ ds:=fun z=>ci (List.mem_append_right _ (List.mem_map_of_mem z))
    intro l1 hl1
    have q8:=ja2 hl1 (.lst [.ref tp])
    have el1:upd H7 l1 (.lst [.ref tp]) l1 = some (.lst [.ref tp]):=ja1
    generalize upd H7 l1 (.lst [.ref tp]) = H8 at q8 el1
    simp_arith [q8 _ _ eL7,el1]
    refine ⟨szl (by omega),?_⟩
    intro l2 hl2
    have q9:=ja2 hl2 (.lst (zs ++ [.ref tp]))
    have q79:=q8.trans q9
    refine ⟨_,_,l2,zs ++ [.ref tp],ds ++ [k],rfl,s7.trans q79,ja1,?_,?_,?_,?_,?_⟩
    ·rw [List.map_append,<- List.append_assoc]
     exact jar (Prs.same q79 pz7) (ptp.same q79)
    ·rw [List.nodup_append]
     refine ⟨nd,List.nodup_cons.mpr ⟨(fun z=>by cases z),List.nodup_nil⟩,fun b hb d hd e=>?_⟩
     rw [List.mem_singleton.mp hd] at e
     exact hkd (by rw [<- e]; exact hb)
    ·intro q hq
     rcases List.mem_append.mp hq with hq | hq
     ·exact dr q hq
     ·rw [List.mem_singleton.mp hq]; exact dk
    ·exact fun m hm q hq hqn=>List.mem_append_left _ (cov m hm q hq hqn)
    ·exact nx _ (fun q hq=>List.mem_append_left _ hq) (fun _=>List.mem_append_right _ (List.mem_singleton.mpr rfl))
  ·rintro σ H6 ⟨w6,w7,L,zs,ds,rfl,s6,eL,pz,nd,dr,cov,cv⟩
   rw [List.length_map,List.take_length] at cv
   refine ⟨_,_,_,L,zs,ds,rfl,s4.trans (s5.trans s6),eL,pz,nd,dr,fun m' hm' k hk hkn=>?_⟩
   rw [jaq hm] at hm'
   rcases List.mem_append.mp hm' with hm' | hm'
   ·exact cov m' hm' k hk hkn
   ·rw [List.mem_singleton.mp hm'] at hk
    exact cv k hk hkn
 ·rintro σ H4 ⟨w5,w6,w7,L,zs,ds,rfl,s4,eL,pz,nd,dr,cov⟩
  rw [List.length_map,List.take_length] at cov
  have hdl:=d8 ds nd dr
  have hzl:zs.length <= 58:=by
   rw [show zs.length = _ from Paired.length pz,List.length_append,List.length_map]
   omega
  have s14:=s1.trans s4
  walk_at "RD"
  subst hR
  walk_at "RD"
  refine ⟨.ref u,n,x,ps,ts,rfl,hw.same s14,pl,fun r5 H5 s5 hw5=>?_⟩
  have s15:=s14.trans s5
  walk_at "RD"
  refine ⟨r5,a,setP n x ps,ts,ja9 ts n,rfl,hw5,by unfold setP; rw [List.length_map]; exact pl,tl,s15 _ _ ea,fun r6 p6 b6 z6 w6' H6 s6 er6 ep6 pz6 eb6 pw6=>?_⟩
  have s46:=s5.trans s6
  have s16:=s14.trans s46
  simp_arith [jai,er6,at0]
  refine ⟨L,zs,_,1000,rfl,s46 _ _ eL,Prs.same s46 pz,by omega,fun q hq=>?_,fun l4 zs4 qs hl4 pq prm srt=>?_⟩
  ·rcases List.mem_append.mp hq with hq | hq
   ·have:=kge _ (tin q (List.mem_filter.mp hq).1).2
    omega
   ·obtain ⟨k,hk,rfl⟩:=List.mem_map.mp hq
    obtain ⟨kne,m,hm,hkm⟩:=dr k hk
    have g1:=kge _ (jbc wok hkm)
    have g2:=kge _ (jbc wok (joo lt hm))
    obtain ⟨_,tk⟩:=jen kne
    rcases tk with ⟨f1,f2⟩ | ⟨f1,f2⟩ <;> rw [f2]
    ·omega
    ·omega
  have q7:=ja2 hl4 (.lst zs4)
  have el4:upd H6 l4 (.lst zs4) l4 = some (.lst zs4):=ja1
  generalize upd H6 l4 (.lst zs4) = H7 at q7 el4
  walk_at "RD"
  intro wv hwv
  have q8:=ja2 hwv (.tup [.ref p6,.ref l4])
  have q68:=q7.trans q8
  refine h _ _ qs ds (s16.trans q68) ⟨wv,p6,l4,z6,zs4,rfl,ja1,q68 _ _ ep6,q8 _ _ el4,Prs.same q68 pz6,Prs.same q68 pq⟩ nd (fun k=>⟨dr k,fun hk=>?_⟩) prm srt
  obtain ⟨h1,m,h2,h3⟩:=hk
  exact cov m h2 k h3 h1
theorem jj7 (B:Blt mg) (D:DefAt K mg "_law_after" (top 84) ["_law_web_here","_law_step"] f fd) (Dqm:DefAt K mg "_law_prices" (top 76) ["_law_web_here"] fqm dqm) (Gqm:FnOk P w K mg base CX0 1 fqm dqm ["_law_web_here"] jfm) (Dqb:DefAt K mg "_law_near" (top 77) ["_law_web_here","_law_place"] fqb dqb) (Gqb:FnOk P w K mg base CX0 1 fqb dqb ["_law_web_here","_law_place"] je2) (Dqe:DefAt K mg "_law_less" (top 81) ["_law_web_here","_law_gone"] fqe dqe) (Gqe:FnOk P w K mg base CX0 1 fqe dqe ["_law_web_here","_law_gone"] jka) (Dqg:DefAt K mg "_law_priced" (top 82) ["_law_web_here","_law_place","_law_price"] fqg dqg) (Gqg:FnOk P w K mg base CX0 1 fqg dqg ["_law_web_here","_law_place","_law_price"] jnq) (Dzb:DefAt K mg "_law_folded" (top 83) ["_law_web_here","_law_v","_law_some","_law_price"] fzb dzb) (Gzb:FnOk P w K mg base CX0 3 fzb dzb ["_law_web_here","_law_v","_law_some","_law_price"] jrb):FnOk P w K mg base CX0 4 f fd ["_law_web_here","_law_step"] jrd:=by
 have sc:FnScope ["_law_web_here","_law_step","_law_prices_here","_law_v","_law_some","_law_total"] ["_law_web_here","_law_step"] (jab (top 84)):=by walk_at "SC"
 refine D.F.ok sc (fun vs H Q E h=>?_) (fun cdv A outer s H vs Q E hr h=>?_)
 ·obtain ⟨x,t,ps,ts,w,ns,rfl,_⟩:=h
  rfl
 obtain ⟨x,t,ps,ts,w,ns,rfl,hw,wok,hp8,ht50,⟨et,hne,hin⟩,form,ok,h⟩:=h
 obtain ⟨xr,pa,ta,xs,ys,rfl,eu,ep,ett,pp,pt⟩:=id hw
 have hvk:=hin _ (jdh hne)
 have hla:=jbu wok (jb9 ns)
 have hat:=jg7 (w:=w) hne
 have hah:=jg8 (w:=w) hne
 have hhk:=hin _ (jdy hne)
 have pl:=wok.pl
 have tl:=wok.tl
 have lne:=fun c=>jkw (w:=w) c ok
 have hu:=jb8 hr
 have hu0:_ < PySem.cLine:=Nat.lt_of_succ_lt hu
 refine ⟨_,(ja4 (jak (i:=2) sc.nd rfl (Or.inr rfl) (ja8 Gqm (hr.mono (by decide)) rfl Dqm.m Dqm.F.kp Dqm.b .nil jan (ja0 (qv 0) ja3))) (ja4 (jak (i:=3) sc.nd rfl (Or.inl rfl) (jam q_ix (qv 1) (jfr jfp ja5) (fun _ _=>rfl))) (ja4 (jak (i:=4) sc.nd rfl (Or.inl rfl) (ja8 Gqb (hr.mono (by decide)) rfl Dqb.m Dqb.F.kp Dqb.b .nil jan (ja0 (qv 0) (ja0 (qv 3) ja3)))) (ja4 (jak (i:=5) sc.nd rfl (Or.inl rfl) (jaf (jhh rfl) rfl B.sum PyProof.Rows.boot_sum (ja0 (jbb (CpScope.of (N:=["_law_one","_law_prices_here"]) (src:=[none,some 2]) (by rfl)) rfl (jau (qv 4)) (fun _ _ _ _=>(jad (i:=0) (jac (l:=["_law_one","_law_prices_here"]) (by rfl)) rfl (Or.inl rfl))) (fun _ _ _ _=>jbj) (fun _ _ _ _=>(jaz hu (qv 1) (qv 0) (fun _ _=>rfl)))) ja3))) (ja4 (jb3 (jal q_eq (jam q_ix (qv 1) ja5 (fun _ _=>rfl)) jb7 (jag _)) (ja7 (jah (jb4 (ja0 (ja8 Gqe (hr.mono (by decide)) rfl Dqe.m Dqe.F.kp Dqe.b .nil jan (ja0 (qv 0) (ja0 (jay jcv (jb6 (ja0 (qv 3) ja3)) (qv 4)) ja3))) (ja0 (qv 5) ja3))))) jaj) (ja4 (jb3 (jal q_eq (jam q_ix (qv 1) ja5 (fun _ _=>rfl)) jb7 (jag _)) (ja7 (jah (jb4 (ja0 (ja8 Gqe (hr.mono (by decide)) rfl Dqe.m Dqe.F.kp Dqe.b .nil jan (ja0 (ja8 Gqg (hr.mono (by decide)) rfl Dqg.m Dqg.F.kp Dqg.b .nil jan (ja0 (qv 0) (ja0 (jam q_ix (qv 4) ja5 (fun _ _=>rfl)) (ja0 (jay jdp (qv 5) (jaz hu (qv 2) (qv 3) (fun _ _=>rfl))) ja3)))) (ja0 (jb6 (ja0 (qv 3) ja3)) ja3))) (ja0 (jaz hu (qv 2) (qv 3) (fun _ _=>rfl)) ja3))))) jaj) (ja4 (jb3 (jal q_eq (jam q_ix (qv 1) ja5 (fun _ _=>rfl)) jb7 (jag _)) (ja7 (jah (jb4 (ja0 (ja8 Gqe (hr.mono (by decide)) rfl Dqe.m Dqe.F.kp Dqe.b .nil jan (ja0 (ja8 Gqg (hr.mono (by decide)) rfl Dqg.m Dqg.F.kp Dqg.b .nil jan (ja0 (qv 0) (ja0 (jam q_ix (qv 1) ja5 (fun _ _=>rfl)) (ja0 (jay jcc (jaz hu (qv 2) (jam q_ix (qv 1) ja5 (fun _ _=>rfl)) (fun _ _=>rfl)) (jaz hu (qv 2) (qv 3) (fun _ _=>rfl))) ja3)))) (ja0 (jb6 (ja0 (qv 3) ja3)) ja3))) (ja0 ja5 ja3))))) jaj) (ja4 (jb3 (jal q_eq (jam q_ix (qv 1) ja5 (fun _ _=>rfl)) jb7 (jag _)) (ja7 (jah (jb4 (ja0 (ja8 Gzb (hr.mono (by decide)) rfl Dzb.m Dzb.F.kp Dzb.b .nil jan (ja0 (qv 0) (ja0 (qv 3) (ja0 (qv 4) (ja0 (jay jdp (qv 5) (jaz hu (qv 2) (qv 3) (fun _ _=>rfl))) ja3))))) (ja0 (jaz hu (qv 2) (qv 3) (fun _ _=>rfl)) ja3))))) jaj) (ja7 (jah (jb4 (ja0 (ja8 Gqe (hr.mono (by decide)) rfl Dqe.m Dqe.F.kp Dqe.b .nil jan (ja0 (qv 0) (ja0 (jb6 (ja0 (qv 3) ja3)) ja3))) (ja0 (jay jkb (jaz hu (qv 2) (qv 3) (fun _ _=>rfl)) (jbf jo8 rfl B.int PyProof.Rows.boot_int (ja0 (jb0 q_eq (jam q_ix (qv 1) ja5 (fun _ _=>rfl)) jb7 (jag _)) ja3))) ja3))))))))))))),?_⟩
 have pls:∀ n x,(setP n x ps).length <= 40:=fun n x=>by unfold setP; rw [List.length_map]; exact pl
 generalize hvl:jb9 ns = v at hvk hla hat lne
 generalize huh:jbv ns = u at hah hhk
 refine ja6 fun R hR=>?_
 walk_at "RD"
 refine ⟨.ref xr,ps,ts,rfl,hw,wok,fun pd H1 hpd s1 epd=>?_⟩
 walk_at "RD"
 subst hR
 refine ja6 fun R hR=>?_
 simp_arith [jai,s1 _ _ et,hat]
 subst hR
 refine ja6 fun R hR=>?_
 walk_at "RD"
 refine ⟨.ref xr,v,ps,ts,rfl,hw.same s1,wok,fun a H2 ha s2 ea=>?_⟩
 walk_at "RD"
 subst hR
 refine ja6 fun R hR=>?_
 replace epd:=s2 _ _ epd
 have s12:=s1.trans s2
 have sI:=Same.refl H2
 walk_at "RD"
 refine jap (Itl K a) H2 (fun R' hR'=>?_) (fun z hz=>jaw (ja9 ts v).length (fun i σ' Hc=>∃ w1,σ' = [w1,some (.ref pd)]/\Same H2 Hc/\Hc z = some (.lst ((((ja9 ts v).take i).map (prc ps)).map V.int))) ⟨none,rfl,ja2 hz _,ja1⟩ ?_ ?_)
 ·unfold jbd
  walk_at "RD"
  exact ⟨a,rfl,⟨_,SqL.of (sI _ _ ea)⟩,hR'⟩
 ·rintro i σ' Hc hi ⟨w1,rfl,s6,ez⟩
  have z1:SqL K Hc a ((ja9 ts v).map V.int):=SqL.of (s6 _ _ (sI _ _ ea))
  have x1:((ja9 ts v).map V.int)[i]? = some (((ja9 ts v).map V.int)[i]'(by rw [List.length_map]; omega)):=gE _
  refine ⟨⟨_,_,z1,x1⟩,?_⟩
  rintro y H' ⟨rfl,hy⟩
  obtain ⟨m,hm,rfl⟩:=jbt (hy _ z1)
  have hp:=jb5 (jbc wok (List.mem_of_getElem? hm))
  simp_arith [s6 _ _ (sI _ _ epd),hp]
  refine ⟨_,ez,?_,_,rfl,jao s6 hz,?_⟩
  ·rw [List.length_map,List.length_map,List.length_take]
   exact szl' (by omega)
  ·rw [ja1,jaq hm,List.map_append,List.map_append]
   rfl
 rintro σ' H3 ⟨w1,rfl,s23,ez⟩
 refine ⟨⟨_,SqL.of (s23 _ _ ea),by rw [List.length_map]; omega⟩,?_⟩
 rw [List.take_length] at ez
 have s3:=s12.trans s23
 refine ⟨z,_,rfl,ez,?_⟩
 have ea3:=s23 _ _ ea
 have epd3:=s23 _ _ epd
 rw [show ((ja9 ts v).map (prc ps)).sum = jbk ps (ja9 ts v) from rfl]
 walk_at "RD"
 subst hR
 clear ez hz
 refine ja6 fun R hR=>?_
 simp_arith [jai,s3 _ _ et,at0]
 by_cases c1:w = (("near":String):Str)
 ·simp only [decide_eq_true c1,if_true]
  have nf:w ≠ (("fold":String):Str):=by rw [c1]; decide
  have hcF:chgF ps ts w ns = (ja9 ts v ++ [v],[],jbk ps (ja9 ts v)):=by
   unfold chgF
   rw [if_neg nf]
   unfold chg
   rw [if_pos c1,hvl]
  walk_at "RD"
  intro l1 hl1
  have q4:=ja2 hl1 (.lst [.int v])
  have el1:upd H3 l1 (.lst [.int v]) l1 = some (.lst [.int v]):=ja1
  generalize upd H3 l1 (.lst [.int v]) = H4 at q4 el1
  simp_arith [el1,q4 _ _ ea3]
  refine ⟨szl (by rw [List.length_map]; omega),?_⟩
  intro l2 hl2
  have q5:=q4.trans (ja2 hl2 (.lst (V.int v :: (ja9 ts v).map V.int)))
  have el2:upd H4 l2 (.lst (V.int v :: (ja9 ts v).map V.int)) l2 = some (.lst ((v :: ja9 ts v).map V.int)):=ja1
  generalize upd H4 l2 (.lst (V.int v :: (ja9 ts v).map V.int)) = H5 at q5 el2
  have s5:=s3.trans q5
  refine ⟨.ref xr,l2,ps,ts,v :: ja9 ts v,rfl,hw.same s5,pl,tl,el2,fun r1 a1 b1 z1 w1 H9 s9 er1 ea1 pz1 eb1 pw1=>?_⟩
  have S9:=s5.trans s9
  obtain ⟨k1,k2⟩:=jk2 (w:=w) (ns:=ns) (gs:=v :: ja9 ts v) (qs:=ps) wok (by rw [hcF]; exact fun k=>by rw [List.mem_cons,List.mem_append,List.mem_singleton]; exact ⟨fun q=>q.symm,fun q=>q.symm⟩) (by rw [hcF]; rfl)
  rw [k1] at pz1
  rw [k2] at pw1
  walk_at "RD"
  intro r9 hr9
  have q9:=ja2 hr9 (.tup [.ref r1,.int (jbk ps (ja9 ts v))])
  exact h r9 _ _ _ _ (S9.trans q9) ja1 (.inl ⟨nf,rfl⟩) ⟨r1,a1,b1,z1,w1,rfl,q9 _ _ er1,q9 _ _ ea1,q9 _ _ eb1,Prs.same q9 pz1,Prs.same q9 pw1⟩
 simp only [c1,decide_false,Bool.false_eq_true,if_false]
 subst hR
 refine ja6 fun R hR=>?_
 simp_arith [jai,s3 _ _ et,at0]
 by_cases c2:w = (("leaf":String):Str)
 ·simp only [decide_eq_true c2,if_true]
  have nf:w ≠ (("fold":String):Str):=by rw [c2]; decide
  obtain ⟨m,hm⟩:∃ m,ja9 ts v = [m]:=by
   rcases ok with ⟨_,ok⟩ | ⟨ef,_⟩
   ·obtain ⟨k,rfl⟩:=form.one (by rw [c2]; decide) (by rw [c2]; decide)
    have hk:k = v:=hvl
    unfold jcu at ok
    dsimp only at ok
    rw [if_neg (by rw [c2]; decide),if_neg c1,Bool.and_eq_true,hk] at ok
    have ok2:=ok.2
    unfold jf6 at ok2
    match q:ja9 ts v,ok2 with
    | [u],_=>exact ⟨u,rfl⟩
   ·exact absurd ef nf
  have ec:jbk ps (ja9 ts v) = prc ps m:=by rw [hm]; unfold jbk; simp
  have hcF:chgF ps ts w ns = ([v],[(m,prc ps m - prc ps v)],prc ps v):=by
   unfold chgF
   rw [if_neg nf]
   unfold chg
   rw [if_neg c1,if_pos c2,hvl,hm]
   rfl
  rw [ec]
  have ea4:=ea3
  rw [hm] at ea4
  simp only [List.map_cons,List.map_nil] at ea4
  simp_arith [jai,ea4,at0,epd3,jb5 hvk]
  refine ⟨.ref xr,m,prc ps m - prc ps v,ps,ts,rfl,hw.same s3,pl,fun r5 H5 s5 hw5=>?_⟩
  have s35:=s3.trans s5
  walk_at "RD"
  intro l1 hl1
  have q6:=ja2 hl1 (.lst [.int v])
  have el1:upd H5 l1 (.lst [.int v]) l1 = some (.lst ([v].map V.int)):=ja1
  generalize upd H5 l1 (.lst [.int v]) = H6 at q6 el1
  have s6:=s35.trans q6
  refine ⟨r5,l1,setP m (prc ps m - prc ps v) ps,ts,[v],rfl,hw5.same q6,pls _ _,tl,el1,fun r1 a1 b1 z1 w1 H9 s9 er1 ea1 pz1 eb1 pw1=>?_⟩
  have S9:=s6.trans s9
  obtain ⟨k1,k2⟩:=jk2 (w:=w) (ns:=ns) (gs:=[v]) (qs:=setP m (prc ps m - prc ps v) ps) wok (by rw [hcF]; exact fun k=>Iff.rfl) (by rw [hcF]; rfl)
  rw [k1] at pz1
  rw [k2] at pw1
  simp_arith [s9 _ _ (q6 _ _ (s5 _ _ epd3)),jb5 hvk]
  intro r9 hr9
  have q9:=ja2 hr9 (.tup [.ref r1,.int (prc ps v)])
  exact h r9 _ _ _ _ (S9.trans q9) ja1 (.inl ⟨nf,rfl⟩) ⟨r1,a1,b1,z1,w1,rfl,q9 _ _ er1,q9 _ _ ea1,q9 _ _ eb1,Prs.same q9 pz1,Prs.same q9 pw1⟩
 simp only [c2,decide_false,Bool.false_eq_true,if_false]
 subst hR
 refine ja6 fun R hR=>?_
 simp_arith [jai,s3 _ _ et,at0]
 by_cases c3:w = (("twins":String):Str)
 ·simp only [decide_eq_true c3,if_true]
  have nf:w ≠ (("fold":String):Str):=by rw [c3]; decide
  have hcF:chgF ps ts w ns = ([v],[(u,prc ps u + prc ps v)],0):=by
   unfold chgF
   rw [if_neg nf]
   unfold chg
   rw [if_neg c1,if_neg c2,if_neg (by rw [c3]; decide),if_pos c3,hvl,huh]
  simp_arith [jai,s3 _ _ et,hah,epd3,jb5 hhk,jb5 hvk]
  refine ⟨.ref xr,u,prc ps u + prc ps v,ps,ts,rfl,hw.same s3,pl,fun r5 H5 s5 hw5=>?_⟩
  have s35:=s3.trans s5
  walk_at "RD"
  intro l1 hl1
  have q6:=ja2 hl1 (.lst [.int v])
  have el1:upd H5 l1 (.lst [.int v]) l1 = some (.lst ([v].map V.int)):=ja1
  generalize upd H5 l1 (.lst [.int v]) = H6 at q6 el1
  have s6:=s35.trans q6
  refine ⟨r5,l1,setP u (prc ps u + prc ps v) ps,ts,[v],rfl,hw5.same q6,pls _ _,tl,el1,fun r1 a1 b1 z1 w1 H9 s9 er1 ea1 pz1 eb1 pw1=>?_⟩
  have S9:=s6.trans s9
  obtain ⟨k1,k2⟩:=jk2 (w:=w) (ns:=ns) (gs:=[v]) (qs:=setP u (prc ps u + prc ps v) ps) wok (by rw [hcF]; exact fun k=>Iff.rfl) (by rw [hcF]; rfl)
  rw [k1] at pz1
  rw [k2] at pw1
  walk_at "RD"
  intro r9 hr9
  have q9:=ja2 hr9 (.tup [.ref r1,.int 0])
  exact h r9 _ _ _ _ (S9.trans q9) ja1 (.inl ⟨nf,rfl⟩) ⟨r1,a1,b1,z1,w1,rfl,q9 _ _ er1,q9 _ _ ea1,q9 _ _ eb1,Prs.same q9 pz1,Prs.same q9 pw1⟩
 simp only [c3,decide_false,Bool.false_eq_true,if_false]
 subst hR
 refine ja6 fun R hR=>?_
 simp_arith [jai,s3 _ _ et,at0]
 by_cases c4:w = (("fold":String):Str)
 ·simp only [decide_eq_true c4,if_true]
  have hcF:chgF ps ts w ns = (ja9 ts v,[(v,jbk ps (ja9 ts v) - prc ps v)],prc ps v):=by
   unfold chgF
   rw [if_pos c4,hvl]
  simp_arith [epd3,jb5 hvk]
  refine ⟨.ref xr,v,a,jbk ps (ja9 ts v) - prc ps v,ps,ts,rfl,hw.same s3,wok,hp8,ht50,ea3,fun r1 H9 ts' ds s9 hw9 nd mem prm srt=>?_⟩
  have S9:=s3.trans s9
  obtain ⟨k1,k2⟩:=jk2 (w:=w) (ns:=ns) (gs:=ja9 ts v) (qs:=setP v (jbk ps (ja9 ts v) - prc ps v) ps) wok (by rw [hcF]; exact fun k=>Iff.rfl) (by rw [hcF]; rfl)
  rw [k1] at hw9
  rw [k2] at prm
  simp_arith [s9 _ _ epd3,jb5 hvk]
  intro r9 hr9
  have q9:=ja2 hr9 (.tup [r1,.int (prc ps v)])
  refine h r9 _ _ _ ts' (S9.trans q9) ja1 (.inr ⟨c4,ds,nd,?_,?_,srt⟩) (hw9.same q9)
  ·rw [hvl]; exact mem
  ·rw [hvl]; exact prm
 simp only [c4,decide_false,Bool.false_eq_true,if_false]
 subst hR
 have nf:w ≠ (("fold":String):Str):=c4
 have hcF:(chgF ps ts w ns).1 = [v]/\(chgF ps ts w ns).2.1 = []:=by
  unfold chgF
  rw [if_neg nf]
  unfold chg
  rw [if_neg c1,if_neg c2,hvl]
  by_cases c5:w = (("over":String):Str)
  ·rw [if_pos c5]; exact ⟨rfl,rfl⟩
  ·rw [if_neg c5,if_neg c3]; exact ⟨rfl,rfl⟩
 walk_at "RD"
 intro l1 hl1
 have q6:=ja2 hl1 (.lst [.int v])
 have el1:upd H3 l1 (.lst [.int v]) l1 = some (.lst ([v].map V.int)):=ja1
 generalize upd H3 l1 (.lst [.int v]) = H6 at q6 el1
 have s6:=s3.trans q6
 refine ⟨.ref xr,l1,ps,ts,[v],rfl,hw.same s6,pl,tl,el1,fun r1 a1 b1 z1 w1 H9 s9 er1 ea1 pz1 eb1 pw1=>?_⟩
 have S9:=s6.trans s9
 obtain ⟨k1,k2⟩:=jk2 (w:=w) (ns:=ns) (gs:=[v]) (qs:=ps) wok (by rw [hcF.1]; exact fun k=>Iff.rfl) (by rw [hcF.2]; rfl)
 rw [k1] at pz1
 rw [k2] at pw1
 simp_arith [jai,S9 _ _ et,at0,s9 _ _ (q6 _ _ epd3),jb5 hvk]
 have fin:∀ y:Int,∀ r9,H9 r9 = none->Q (.ref r9) (upd H9 r9 (.tup [.ref r1,.int y])):=fun y r9 hr9=>by
  have q9:=ja2 hr9 (.tup [.ref r1,.int y])
  exact h r9 _ _ _ _ (S9.trans q9) ja1 (.inl ⟨nf,rfl⟩) ⟨r1,a1,b1,z1,w1,rfl,q9 _ _ er1,q9 _ _ ea1,q9 _ _ eb1,Prs.same q9 pz1,Prs.same q9 pw1⟩
 by_cases c5:w = (("over":String):Str)
 ·simp only [decide_eq_true c5,if_true]
  exact ⟨cmR (by decide) (by decide),fin _⟩
 ·simp only [c5,decide_false,Bool.false_eq_true,if_false]
  exact ⟨cmR (by decide) (by decide),fin _⟩
theorem jms (B:Blt mg) (D:DefAt K mg "_law_due" (top 87) ["_law_web_here","_law_step","_law_some"] f fd) (Dqb:DefAt K mg "_law_near" (top 77) ["_law_web_here","_law_place"] fqb dqb) (Gqb:FnOk P w K mg base CX0 1 fqb dqb ["_law_web_here","_law_place"] je2):FnOk P w K mg base CX0 2 f fd ["_law_web_here","_law_step","_law_some"] jnt:=by
 have sc:FnScope ["_law_web_here","_law_step","_law_some","_law_v","_law_flank","_law_more"] ["_law_web_here","_law_step","_law_some"] (jab (top 87)):=by walk_at "SC"
 refine D.F.ok sc (fun vs H Q E h=>?_) (fun cdv A outer s H vs Q E hr h=>?_)
 ·obtain ⟨v,t,l,ps,ts,w,ns,ss,rfl,_⟩:=h
  rfl
 obtain ⟨v,t,l,ps,ts,w,ns,ss,rfl,hw,wok,hp8,⟨et,hne,hin⟩,lne,el,hsl,h⟩:=h
 have hat:=jg7 (w:=w) hne
 have hah:=jg8 (w:=w) hne
 have hle:=jfy wok (jb9 ns)
 have hu:=jb8 hr
 have hu0:_ < PySem.cLine:=Nat.lt_of_succ_lt hu
 refine ⟨_,(ja4 (jak (i:=3) sc.nd rfl (Or.inr rfl) (jam q_ix (qv 1) (jfr jfp ja5) (fun _ _=>rfl))) (ja4 (jak (i:=4) sc.nd rfl (Or.inl rfl) (ja8 Gqb (hr.mono (by decide)) rfl Dqb.m Dqb.F.kp Dqb.b .nil jan (ja0 (qv 0) (ja0 (qv 3) ja3)))) (ja4 (jak (i:=5) sc.nd rfl (Or.inl rfl) (jb6 ja3)) (ja4 (jb3 (jal q_eq (jam q_ix (qv 1) ja5 (fun _ _=>rfl)) jb7 (jag _)) (ja7 (jak (i:=5) sc.nd rfl (Or.inl rfl) (qv 4))) jaj) (ja4 (jb3 (PW.pt (jf4 (jal q_eq (jam q_ix (qv 1) ja5 (fun _ _=>rfl)) jb7 (jag _)) (je1 (PW.pt (jcm (jal q_eq (jam q_ix (qv 1) ja5 (fun _ _=>rfl)) jb7 (jag _)) (jc0 (jal jcl (jam q_ix (qv 4) ja5 (fun _ _=>rfl)) (qv 2) (by with_unfolding_all rfl)))))))) (ja7 (jak (i:=5) sc.nd rfl (Or.inl rfl) (jb6 (ja0 (qv 3) ja3)))) jaj) (ja4 (jb3 (PW.pt (jcm (jal q_eq (jam q_ix (qv 1) ja5 (fun _ _=>rfl)) jb7 (jag _)) (jc0 (jal jhi (jam q_ix (qv 1) ja5 (fun _ _=>rfl)) (qv 2) (by with_unfolding_all rfl))))) (ja7 (jak (i:=5) sc.nd rfl (Or.inl rfl) (jb6 (ja0 (qv 3) ja3)))) jaj) (ja4 (jb3 (jal q_eq (jam q_ix (qv 1) ja5 (fun _ _=>rfl)) jb7 (jag _)) (ja4 (jak (i:=5) sc.nd rfl (Or.inl rfl) (jb6 (ja0 (qv 3) ja3))) (ja7 (jb3 (jal jhi (qv 3) (qv 2) (by with_unfolding_all rfl)) (ja4 (jco (i:=2) sc.nd rfl (Or.inl rfl) (CpScope.of (N:=["_law_one","_law_v"]) (src:=[none,some 3]) (by rfl)) rfl (jau (qv 2)) (fun _ _ _ _=>(jad (i:=0) (jac (l:=["_law_one","_law_v"]) (by rfl)) rfl (Or.inl rfl))) (fun _ _ _ _=>(jc1 (jal q_ne (qv 0) (qv 1) (jag _)))) (fun _ _ _ _=>(qv 0))) (ja7 (jak (i:=5) sc.nd rfl (Or.inl rfl) (qv 4)))) jaj))) jaj) (ja7 (jah (jaf jda rfl B.sorted PyProof.Rows.boot_sorted (ja0 (jay jcv (qv 2) (qv 5)) ja3))))))))))),?_⟩
 have f0:w = (("near":String):Str)->bkL ts w ns ss = ss ++ ja9 ts (jb9 ns):=fun e=>by
  unfold bkL
  rw [if_neg (by rw [e]; decide)]
  unfold bkR
  rw [if_pos e]
 have f1:w ≠ (("fold":String):Str)->w ≠ (("near":String):Str)->(w = (("over":String):Str) \/ (w = (("leaf":String):Str)/\jbv (ja9 ts (jb9 ns)) ∉ ss) \/ (w = (("twins":String):Str)/\jbv ns ∈ ss))->bkL ts w ns ss = ss ++ [jb9 ns]:=fun e1 e2 e3=>by
  unfold bkL
  rw [if_neg e1]
  unfold bkR
  rw [if_neg e2,if_pos e3]
 have f2:w ≠ (("fold":String):Str)->w ≠ (("near":String):Str)->¬ (w = (("over":String):Str) \/ (w = (("leaf":String):Str)/\jbv (ja9 ts (jb9 ns)) ∉ ss) \/ (w = (("twins":String):Str)/\jbv ns ∈ ss))->bkL ts w ns ss = ss:=fun e1 e2 e3=>by
  unfold bkL
  rw [if_neg e1]
  unfold bkR
  rw [if_neg e2,if_neg e3]
 have f3:w = (("fold":String):Str)->bkL ts w ns ss = bkF ts (jb9 ns) ss:=fun e=>by
  unfold bkL
  rw [if_pos e]
 have hbl:(bkL ts w ns ss).length <= 20:=by
  unfold bkL
  split
  ·have:=jl9 wok (jb9 ns) ss
   omega
  ·have:=jl8 wok w ns ss
   omega
 generalize bkL ts w ns ss = fr at f0 f1 f2 f3 hbl h
 generalize jb9 ns = n at hat hle f0 f1 f2 f3 lne
 generalize jbv ns = u at hah f1 f2
 refine ja6 fun R hR=>?_
 simp_arith [jai,et,hat]
 subst hR
 refine ja6 fun R hR=>?_
 walk_at "RD"
 refine ⟨v,n,ps,ts,rfl,hw,wok,fun a H1 ha s1 ea=>?_⟩
 walk_at "RD"
 subst hR
 refine ja6 fun R hR=>?_
 walk_at "RD"
 intro k0 hk0
 have q3:=ja2 hk0 (.lst [])
 have s3:=s1.trans q3
 have ek0:upd H1 k0 (.lst []) k0 = some (.lst (([]:List Int).map V.int)):=ja1
 have ea3:=q3 _ _ ea
 generalize upd H1 k0 (.lst []) = H3 at q3 s3 ek0 ea3
 subst hR
 clear ea q3
 refine ja6 fun R1 hR1=>?_
 have F1:∀ (k:Addr) (ks:List Int) (H5:Hp),Same H3 H5->H5 k = some (.lst (ks.map V.int))->ks.length <= 10->(w = (("near":String):Str)->ks = ja9 ts n)->(w ≠ (("near":String):Str)->ks = [])->R1 { nx:=fun _ H'=>Q .non H',rt:=Q } [some v,some (.ref t),some (.ref l),some (.int n),some (.ref a),some (.ref k)] H5:=by
  intro k ks H5 s5 ek hkl g1 g2
  subst hR1
  refine ja6 fun R2 hR2=>?_
  have F2:∀ (k:Addr) (ks:List Int) (H5:Hp),Same H3 H5->H5 k = some (.lst (ks.map V.int))->ks.length <= 10->(w ≠ (("fold":String):Str)->w ≠ (("twins":String):Str)->fr = ss ++ ks)->(w = (("twins":String):Str)->ks = [])->R2 { nx:=fun _ H'=>Q .non H',rt:=Q } [some v,some (.ref t),some (.ref l),some (.int n),some (.ref a),some (.ref k)] H5:=by
   intro k ks H5 s5 ek hkl g1 g2
   subst hR2
   refine ja6 fun R3 hR3=>?_
   have F3:∀ (k:Addr) (ks:List Int) (H5:Hp),Same H3 H5->H5 k = some (.lst (ks.map V.int))->ks.length <= 10->(w ≠ (("fold":String):Str)->fr = ss ++ ks)->R3 { nx:=fun _ H'=>Q .non H',rt:=Q } [some v,some (.ref t),some (.ref l),some (.int n),some (.ref a),some (.ref k)] H5:=by
    intro k ks H5 s5 ek hkl g1
    subst hR3
    refine ja6 fun R4 hR4=>?_
    have F4:∀ (l k:Addr) (ss ks:List Int) (H5:Hp),Same H3 H5->H5 l = some (.lst (ss.map V.int))->H5 k = some (.lst (ks.map V.int))->ss.length <= 8->ks.length <= 10->fr = ss ++ ks->R4 { nx:=fun _ H'=>Q .non H',rt:=Q } [some v,some (.ref t),some (.ref l),some (.int n),some (.ref a),some (.ref k)] H5:=by
     intro l k ss ks H5 s5 el ek hsl hkl hfr
     subst hR4
     have sH5:=s3.trans s5
     simp_arith [el,ek]
     refine ⟨szl (by rw [List.length_map,List.length_map]; omega),?_⟩
     intro l3 hl3
     rw [<- List.map_append,<- hfr]
     have q7:=ja2 hl3 (.lst (fr.map V.int))
     refine ⟨l3,fr,rfl,ja1,by omega,fun r ms hr pm pw=>?_⟩
     exact h r ms _ ((sH5.trans q7).free hr) ((sH5.trans q7).trans (ja2 hr _)) ja1 pm pw
    have sH5:=s3.trans s5
    simp_arith [jai,sH5 _ _ et,at0]
    by_cases c:w = (("fold":String):Str)
    ·simp only [decide_eq_true c,if_true]
     have f3':=f3 c
     unfold bkF at f3'
     intro l1 hl1
     have q6:=ja2 hl1 (.lst [.int n])
     have el1:upd H5 l1 (.lst [.int n]) l1 = some (.lst ([n].map V.int)):=ja1
     generalize upd H5 l1 (.lst [.int n]) = H6 at q6 el1
     have s6:=s5.trans q6
     have sH6:=s3.trans s6
     simp_arith [sH6 _ _ el,jai,jbp,flat_ints,jcg]
     by_cases c2:n ∈ ss
     ·rw [if_pos c2] at f3'
      simp only [c2,decide_true,if_true]
      refine jap (Itl K l) H6 (fun R hR=>?_) (fun z hz=>jaw ss.length (fun i σ' Hc=>∃ w1,σ' = [w1,some (.int n)]/\Same H6 Hc/\Hc z = some (.lst (((ss.take i).filter fun p=>!decide (p = n)).map V.int))) ⟨none,rfl,ja2 hz _,ja1⟩ ?_ ?_)
      ·unfold jbd
       walk_at "RD"
       exact ⟨l,rfl,⟨_,SqL.of (sH6 _ _ el)⟩,hR⟩
      ·rintro i σ' Hc hi ⟨w1,rfl,s7,ez⟩
       have z1:SqL K Hc l (ss.map V.int):=SqL.of (s7 _ _ (sH6 _ _ el))
       have x1:(ss.map V.int)[i]? = some ((ss.map V.int)[i]'(by rw [List.length_map]; omega)):=gE _
       refine ⟨⟨_,_,z1,x1⟩,?_⟩
       rintro y H' ⟨rfl,hy⟩
       obtain ⟨m,hm,rfl⟩:=jbt (hy _ z1)
       have ft:=jbo (f:=fun p=>!decide (p = n)) hm
       have hcl:((ss.take i).filter fun p=>!decide (p = n)).length <= 40:=Nat.le_trans (List.length_filter_le _ _) (by rw [List.length_take]; omega)
       walk_at "RD"
       by_cases c1:m = n
       ·simp only [c1,decide_true,Bool.not_true,Bool.false_eq_true,if_false,List.append_nil] at ft ⊢
        exact ⟨_,rfl,s7,by rw [ft]; exact ez⟩
       ·simp only [c1,decide_false,Bool.not_false,if_true] at ft ⊢
        refine ⟨_,ez,by rw [List.length_map]; exact szl' (by omega),_,rfl,jao s7 hz,?_⟩
        rw [ja1,ft,List.map_append]
        rfl
      rintro σ' H7 ⟨w1,rfl,s7,ez⟩
      refine ⟨⟨_,SqL.of (s7 _ _ (sH6 _ _ el)),by rw [List.length_map]; omega⟩,?_⟩
      rw [List.take_length] at ez
      walk_at "RD"
      exact F4 z a _ (ja9 ts n) H7 (s6.trans s7) ez (s7 _ _ (s6 _ _ ea3)) (Nat.le_trans (List.length_filter_le _ _) hsl) (by omega) f3'
     ·rw [if_neg c2] at f3'
      simp only [c2,decide_false,Bool.false_eq_true,if_false]
      exact F4 l l1 ss [n] H6 s6 (sH6 _ _ el) el1 hsl (show (1:Nat) <= 10 by decide) f3'
    ·simp only [c,decide_false,Bool.false_eq_true,if_false]
     exact F4 l k ss ks H5 s5 (sH5 _ _ el) ek hsl hkl (g1 c)
   have sH5:=s3.trans s5
   simp_arith [jai,sH5 _ _ et,at0]
   by_cases c:w = (("twins":String):Str)
   ·simp only [decide_eq_true c,if_true]
    simp_arith [jai,sH5 _ _ et,hah,sH5 _ _ el,jbp,flat_ints,jcg]
    have nn:w ≠ (("near":String):Str):=by rw [c]; decide
    by_cases c2:u ∈ ss
    ·simp only [c2,decide_true,if_true]
     intro l1 hl1
     exact F3 l1 [n] _ (s5.trans (ja2 hl1 _)) ja1 (show (1:Nat) <= 10 by decide) (fun e=>f1 e nn (.inr (.inr ⟨c,c2⟩)))
    ·simp only [c2,decide_false,Bool.false_eq_true,if_false]
     refine F3 k ks H5 s5 ek hkl (fun e=>?_)
     rw [g2 c,List.append_nil]
     exact f2 e nn fun z=>z.elim (fun z=>by rw [c] at z; exact absurd z (by decide)) fun z=>z.elim (fun z=>by rw [c] at z; exact absurd z.1 (by decide)) fun z=>c2 z.2
   ·simp only [c,decide_false,Bool.false_eq_true,if_false]
    exact F3 k ks H5 s5 ek hkl (fun e=>g1 e c)
  have sH5:=s3.trans s5
  have big:(w = (("over":String):Str) \/ (w = (("leaf":String):Str)/\jbv (ja9 ts n) ∉ ss))->∀ l1,H5 l1 = none->R2 { nx:=fun _ H'=>Q .non H',rt:=Q } [some v,some (.ref t),some (.ref l),some (.int n),some (.ref a),some (.ref l1)] (upd H5 l1 (.lst [.int n])):=fun e l1 hl1=>by
   have nt:w ≠ (("twins":String):Str):=by
    rcases e with e | e
    ·rw [e]; decide
    ·rw [e.1]; decide
   have nn:w ≠ (("near":String):Str):=by
    rcases e with e | e
    ·rw [e]; decide
    ·rw [e.1]; decide
   exact F2 l1 [n] _ (s5.trans (ja2 hl1 _)) ja1 (show (1:Nat) <= 10 by decide) (fun e1 _=>f1 e1 nn (e.imp id .inl)) (fun z=>absurd z nt)
  have low:w ≠ (("over":String):Str)->¬ (w = (("leaf":String):Str)/\jbv (ja9 ts n) ∉ ss)->∀ H6,Same H5 H6->R2 { nx:=fun _ H'=>Q .non H',rt:=Q } [some v,some (.ref t),some (.ref l),some (.int n),some (.ref a),some (.ref k)] H6:=fun e1 e2 H6 q6=>by
   refine F2 k ks H6 (s5.trans q6) (q6 _ _ ek) hkl (fun e3 e4=>?_) (fun e=>g2 (by rw [e]; decide))
   by_cases c1:w = (("near":String):Str)
   ·rw [g1 c1]; exact f0 c1
   ·rw [g2 c1,List.append_nil]
    exact f2 e3 c1 fun z=>z.elim e1 fun z=>z.elim e2 fun z=>e4 z.1
  simp_arith [jai,sH5 _ _ et,at0]
  by_cases c:w = (("over":String):Str)
  ·simp only [decide_eq_true c,if_true]
   intro l1 hl1
   exact big (.inl c) l1 hl1
  ·simp only [c,decide_false,Bool.false_eq_true,if_false]
   by_cases c2:w = (("leaf":String):Str)
   ·simp only [decide_eq_true c2,if_true]
    obtain ⟨m,r,hm⟩:∃ m r,ja9 ts n = m :: r:=by
     cases q:ja9 ts n with
     | nil=>exact absurd q (lne c2)
     | cons m r=>exact ⟨m,r,rfl⟩
    have ea5:=s5 _ _ ea3
    rw [hm] at ea5
    simp only [List.map_cons] at ea5
    have hh:jbv (ja9 ts n) = m:=by rw [hm]; rfl
    simp_arith [jai,ea5,at0,sH5 _ _ el,jbp,flat_ints,jcg]
    by_cases c3:m ∈ ss
    ·simp only [c3,decide_true,Bool.not_true,Bool.false_eq_true,if_false]
     exact low c (fun z=>z.2 (by rw [hh]; exact c3)) H5 (Same.refl _)
    ·simp only [c3,decide_false,Bool.not_false,if_true]
     intro l1 hl1
     exact big (.inr ⟨c2,by rw [hh]; exact c3⟩) l1 hl1
   ·simp only [c2,decide_false,Bool.false_eq_true,if_false]
    exact low c (fun z=>c2 z.1) H5 (Same.refl _)
 simp_arith [jai,s3 _ _ et,at0]
 by_cases c:w = (("near":String):Str)
 ·simp only [decide_eq_true c,if_true]
  walk_at "RD"
  exact F1 a (ja9 ts n) H3 (Same.refl _) ea3 (by omega) (fun _=>rfl) (fun z=>absurd c z)
 ·simp only [c,decide_false,Bool.false_eq_true,if_false]
  exact F1 k0 [] H3 (Same.refl _) ek0 (Nat.zero_le _) (fun z=>absurd z c) (fun _=>rfl)
theorem jlh {H:Hp} {v:V} {ps ts:List (Int × Int)} (h:jbg H v ps ts):Rep H (webD ps ts) v:=by
 obtain ⟨u,pa,ta,xs,ys,rfl,h1,h2,h3,h4,h5⟩:=h
 unfold webD prsD
 rw [Rep]
 refine ⟨u,_,rfl,h1,?_⟩
 rw [Reps]
 refine ⟨_,_,rfl,?_,?_⟩
 ·rw [Rep]
  exact ⟨pa,xs,rfl,h2,Prs.reps h4⟩
 ·rw [Reps]
  refine ⟨_,_,rfl,?_,by rw [Reps]⟩
  rw [Rep]
  exact ⟨ta,ys,rfl,h3,Prs.reps h5⟩
def jq2 (K:PySem.W.Frag):Sp:=fun vs H Q _=>∃ a ns,vs = [.ref a]/\Scr K H a ns/\∀ H',Q (.bl true) H'
theorem ok_law (B:Blt mg) (D:DefAt K mg "law" (top 89) ["_law_script"] f fd) (Dq6:DefAt K mg "_law_begun" (top 66) ["_law_script","_law_k"] fq6 dq6) (Gq6:FnOk P w K mg base CX0 1 fq6 dq6 ["_law_script","_law_k"] (jnx K)) (Dqa:DefAt K mg "_law_take" (top 67) ["_law_state","_law_many"] fqa dqa) (Gqa:FnOk P w K mg base CX0 1 fqa dqa ["_law_state","_law_many"] jdm) (Dze:DefAt K mg "_law_star" (top 75) ["_law_state","_law_most"] fze dze) (Gze:FnOk P w K mg base CX0 4 fze dze ["_law_state","_law_most"] jr7) (Dzd:DefAt K mg "_law_shape" (top 72) ["_law_state","_law_most"] fzd dzd) (Gzd:FnOk P w K mg base CX0 4 fzd dzd ["_law_state","_law_most"] jnn) (Dzf:DefAt K mg "_law_steps" (top 88) ["_law_state","_law_web_here","_law_first"] fzf dzf) (Gzf:FnOk P w K mg base CX0 5 fzf dzf ["_law_state","_law_web_here","_law_first"] jll) (Dq4:DefAt K mg "_law_after" (top 84) ["_law_web_here","_law_step"] fq4 dq4) (Gq4:FnOk P w K mg base CX0 4 fq4 dq4 ["_law_web_here","_law_step"] jrd) (Dzg:DefAt K mg "_law_touching" (top 86) ["_law_state","_law_web_here"] fzg dzg) (Gzg:FnOk P w K mg base CX0 2 fzg dzg ["_law_state","_law_web_here"] spTou) (Dq8:DefAt K mg "_law_due" (top 87) ["_law_web_here","_law_step","_law_some"] fq8 dq8) (Gq8:FnOk P w K mg base CX0 2 fq8 dq8 ["_law_web_here","_law_step","_law_some"] jnt) (Dqr:DefAt K mg "back" (top 64) ["web","step","some"] fqr dqr) (Gqr:FnOk P w K mg base CX0 10 fqr dqr ["web","step","some"] jny):FnOk P w K mg base CX0 11 f fd ["_law_script"] (jq2 K):=by
 have sc:FnScope ["_law_script","_law_k","_law_state","_law_web_here","_law_handed","_law_step","_law_some","_law_due_here","_law_given","_law_found"] ["_law_script"] (jab (top 89)):=by walk_at "SC"
 refine D.F.ok sc (fun vs H Q E h=>?_) (fun cdv A outer s H vs Q E hr h=>?_)
 ·obtain ⟨a,ns,rfl,_⟩:=h
  rfl
 obtain ⟨a,ns,rfl,hs,h⟩:=h
 have hu:=jb8 hr
 have hu0:_ < PySem.cLine:=Nat.lt_of_succ_lt hu
 refine ⟨_,(ja4 (jc5 PassesOwn.never rfl (jea rfl B.range (ja0 (jaf (jml rfl) rfl B.max PyProof.Rows.boot_max (ja0 ja5 (ja0 (jaf (jqa rfl) rfl B.min PyProof.Rows.boot_min (ja0 (jaf jdv rfl B.len PySem.boot_len (ja0 (qv 0) ja3)) (ja0 ja5 ja3))) ja3))) ja3)) (jad (i:=1) sc.nd rfl (Or.inl rfl)) (ja4 (jak (i:=2) sc.nd rfl (Or.inl rfl) (ja8 Gq6 (hr.mono (by decide)) rfl Dq6.m Dq6.F.kp Dq6.b .nil jan (ja0 (qv 0) (ja0 (qv 1) ja3)))) (ja4 (jb3 (jal q_eq (ja8 Gqa (hr.mono (by decide)) rfl Dqa.m Dqa.F.kp Dqa.b .nil jan (ja0 (qv 2) (ja0 ja5 ja3))) ja5 (jag _)) (ja7 (jak (i:=3) sc.nd rfl (Or.inl rfl) (ja8 Gze (hr.mono (by decide)) rfl Dze.m Dze.F.kp Dze.b .nil jan (ja0 (qv 2) (ja0 ja5 ja3))))) (ja7 (jak (i:=3) sc.nd rfl (Or.inl rfl) (ja8 Gzd (hr.mono (by decide)) rfl Dzd.m Dzd.F.kp Dzd.b .nil jan (ja0 (qv 2) (ja0 (jay jcc ja5 (jbf jo8 rfl B.int PyProof.Rows.boot_int (ja0 (jb0 q_eq (qv 1) ja5 (jag _)) ja3))) ja3)))))) (ja4 (jak (i:=4) sc.nd rfl (Or.inl rfl) (jb4 (ja0 (jbf jfb rfl B.list PyProof.Rows.boot_list (ja0 (jam q_ix (qv 3) ja5 (fun _ _=>rfl)) ja3)) (ja0 (jbf jfb rfl B.list PyProof.Rows.boot_list (ja0 (jam q_ix (qv 3) ja5 (fun _ _=>rfl)) ja3)) ja3)))) (ja7 (jc5 PassesOwn.never rfl (jau (ja8 Gzf (hr.mono (by decide)) rfl Dzf.m Dzf.F.kp Dzf.b .nil jan (ja0 (qv 2) (ja0 (qv 3) (ja0 (jb0 q_eq (qv 1) ja5 (jag _)) ja3))))) (jad (i:=5) sc.nd rfl (Or.inl rfl)) (ja4 (jak (i:=6) sc.nd rfl (Or.inl rfl) (ja8 Gzg (hr.mono (by decide)) rfl Dzg.m Dzg.F.kp Dzg.b .nil jan (ja0 (qv 2) (ja0 (jam q_ix (ja8 Gq4 (hr.mono (by decide)) rfl Dq4.m Dq4.F.kp Dq4.b .nil jan (ja0 (qv 3) (ja0 (qv 5) ja3))) ja5 (fun _ _=>rfl)) ja3)))) (ja4 (jak (i:=7) sc.nd rfl (Or.inl rfl) (ja8 Gq8 (hr.mono (by decide)) rfl Dq8.m Dq8.F.kp Dq8.b .nil jan (ja0 (qv 3) (ja0 (qv 5) (ja0 (qv 6) ja3))))) (ja4 (jak (i:=8) sc.nd rfl (Or.inl rfl) (jbf jfb rfl B.list PyProof.Rows.boot_list (ja0 (qv 6) ja3))) (ja4 (jak (i:=9) sc.nd rfl (Or.inl rfl) (ja8 Gqr (hr.mono (by decide)) rfl Dqr.m Dqr.F.kp Dqr.b .nil jan (ja0 (qv 4) (ja0 (qv 5) (ja0 (qv 8) ja3))))) (ja4 (jb3 (PW.pt (jf4 (jcw (jc8 (jaf (jit .lst) rfl B.isinstance PyProof.Rows.boot_isinstance (ja0 (qv 9) (ja0 (jdr (v:=.ty "list") rfl B.list PyProof.Rows.boot_list rfl) ja3))))) (je1 (jal (jec hr.units) (qv 9) (qv 7) (jag _))))) (ja7 (jah jdd)) jaj) (ja4 (jc7 (q_bm PySem.F.plainAttrs_list PySem.F.slot_list_append PySem.F.type_list_append jdb (qv 9) (ja0 ja5 ja3))) (ja7 (jb3 (PW.pt (jf4 (jal (jec hr.units) (ja8 Gqr (hr.mono (by decide)) rfl Dqr.m Dqr.F.kp Dqr.b .nil jan (ja0 (qv 4) (ja0 (qv 5) (ja0 (qv 8) ja3)))) (qv 7) (jag _)) (jf4 (jal (jec hr.units) (qv 8) (qv 6) (jag _)) (je1 (jal (jec hr.units) (qv 4) (qv 3) (jag _)))))) (ja7 (jah jdd)) jaj)))))))))))))) (ja7 (jah jdd))),?_⟩
 refine ja6 fun R hR=>?_
 obtain ⟨N,hN,hN2⟩:∃ N:Nat,N = (if (1:Int) < (if (63:Int) < (ns.length:Int) then 63 else (ns.length:Int)) then (if (63:Int) < (ns.length:Int) then 63 else (ns.length:Int)) else 1).toNat/\N < 70:=⟨_,rfl,by split <;> split <;> omega⟩
 refine jbq (Itr 0 N) H (fun R' hR'=>?_) (jdt (n:=N) (fun i σ H1=>∃ v1 v2 v3 v4 v5 v6 v7 v8 v9,σ = [some (.ref a),v1,v2,v3,v4,v5,v6,v7,v8,v9]/\Scr K H1 a ns) ⟨none,none,none,none,none,none,none,none,none,rfl,hs⟩ ?_ ?_)
 ·unfold jqi
  walk_at "RD"
  refine ⟨a,_,rfl,.inl hs.sq,?_⟩
  simp_arith [List.length_map]
  refine ⟨_,rfl,?_,?_,?_⟩
  ·split <;> split <;> omega
  ·split <;> split <;> omega
  ·rw [<- hN]
   exact hR'
 ·rintro i σ H1 hi ⟨v1,v2,v3,v4,v5,v6,v7,v8,v9,rfl,hs1⟩
  simp only [jeg,List.set_cons_zero,List.set_cons_succ]
  refine ja6 fun R9 hR9=>?_
  walk_at "RD"
  refine ⟨a,0 + (i:Int),ns,rfl,hs1,by omega,by omega,fun st o hst so=>?_⟩
  have s2:=ja2 hst o
  have e2:upd H1 st o st = some o:=ja1
  have hs2:=hs1.tups s2.tups
  generalize upd H1 st o = H2 at s2 e2 hs2
  walk_at "RD"
  subst hR9
  refine ja6 fun R9 hR9=>?_
  have F:∀ (v:V) (H3:Hp) (o3:HO) (ps ts:List (Int × Int)),But st H2 H3->H3 st = some o3->StO o3->jbg H3 v ps ts->WebOk ps ts->ps.length <= 8->ts.length <= 50->R9 { nx:=fun σ H1=>∃ v1 v2 v3 v4 v5 v6 v7 v8 v9,σ = [some (.ref a),v1,v2,v3,v4,v5,v6,v7,v8,v9]/\Scr K H1 a ns,rt:=Q,bk:=R { nx:=fun x H'=>Q .non H',rt:=Q },ct:=fun σ H1=>∃ v1 v2 v3 v4 v5 v6 v7 v8 v9,σ = [some (.ref a),v1,v2,v3,v4,v5,v6,v7,v8,v9]/\Scr K H1 a ns } [some (.ref a),some (.int (0 + (i:Int))),some (.ref st),some v,v4,v5,v6,v7,v8,v9] H3:=by
   intro v H3 o3 ps ts b3 e3 so3 hw wok hp8 ht50
   have hs3:=hs2.tups (b3.tups e2 so.imm)
   obtain ⟨u,pa,ta,xs,ys,rfl,eu,ep,et,pp,pt⟩:=id hw
   subst hR9
   refine ja6 fun R8 hR8=>?_
   simp_arith [jai,eu,at0,ep]
   intro l1 hl1
   have q4:=ja2 hl1 (.lst xs)
   have el1:upd H3 l1 (.lst xs) l1 = some (.lst xs):=ja1
   generalize upd H3 l1 (.lst xs) = H4 at q4 el1
   simp_arith [jai,q4 _ _ eu,at1,q4 _ _ et]
   intro l2 hl2
   have q5:=q4.trans (ja2 hl2 (.lst ys))
   have el2:upd H4 l2 (.lst ys) l2 = some (.lst ys):=ja1
   have el1':=ja2 hl2 (.lst ys) _ _ el1
   generalize upd H4 l2 (.lst ys) = H5 at q5 el2 el1'
   intro hd hhd
   have q6:=ja2 hhd (.tup [.ref l1,.ref l2])
   have s6:=q5.trans q6
   have ehd:upd H5 hd (.tup [.ref l1,.ref l2]) hd = some (.tup [.ref l1,.ref l2]):=ja1
   generalize upd H5 hd (.tup [.ref l1,.ref l2]) = H6 at q6 s6 ehd
   have hh6:jbg H6 (.ref hd) ps ts:=⟨hd,l1,l2,xs,ys,rfl,ehd,q6 _ _ el1',q6 _ _ el2,Prs.same s6 pp,Prs.same s6 pt⟩
   have hw6:=hw.same s6
   have e6:=s6 _ _ e3
   have hs6:=hs3.tups s6.tups
   clear el1 el2 el1' ehd q4 q5 q6
   walk_at "RD"
   subst hR8
   refine jd4 (ι:=Addr × Hp × List V × List (Str × List Int)) (fun q=>Itl K q.1) (fun q=>q.2.1) (fun q=>But st H6 q.2.1/\(∃ o',q.2.1 st = some o'/\StO o')/\q.1 ≠ st/\q.2.1 q.1 = some (.lst q.2.2.1)/\Paired (Sl q.2.1) q.2.2.1 q.2.2.2/\∀ d ∈ q.2.2.2,GoodS ps ts d) (fun R' hR'=>?_) (fun q0 ok0=>?_)
   ·unfold jbd
    walk_at "RD"
    refine ⟨st,o3,.ref u,_,ps,ts,rfl,e6,so3,hw6,wok,hp8,fun r H7 o7 zs ds b7 e7 so7 hr er pz gd=>?_⟩
    exact ⟨r,rfl,⟨_,SqL.of er⟩,hR' (r,H7,zs,ds) ⟨b7,⟨o7,e7,so7⟩,(fun e=>by have e:r = st:=e; rw [e,e6] at hr; cases hr),er,pz,gd⟩⟩
   obtain ⟨q,H7,zs,ds⟩:=q0
   obtain ⟨b7,⟨o7,e7,so7⟩,nq,eq,pz,gd⟩:=ok0
   dsimp only at b7 e7 nq eq pz gd
   have hw7:=hw6.but e6 so3 b7
   have hh7:=hh6.but e6 so3 b7
   have hs7:=hs6.tups (b7.tups e6 so3.imm)
   refine jby (K:=K) (a:=q) (xs:=zs) (fun j σ H9=>∃ w1 w2 w3 w4 w5 o9,σ = [some (.ref a),some (.int (0 + (i:Int))),some (.ref st),some (.ref u),some (.ref hd),w1,w2,w3,w4,w5]/\But st H7 H9/\H9 st = some o9/\StO o9) ⟨_,_,_,_,_,o7,rfl,But.refl _ _,e7,so7⟩ (fun j σ H9 _ ⟨_,_,_,_,_,_,_,b9,_⟩=>SqL.of (b9 _ _ nq eq)) ?_ ?_
   ·rintro j x σ H9 hx ⟨w1,w2,w3,w4,w5,o9,rfl,b9,e9,so9⟩
    obtain ⟨d,hd9,fx⟩:=jas pz hx
    have t9:=b9.tups e7 so7.imm
    obtain ⟨t,rfl,ett⟩:=fx.tups t9
    have hg:=gd d (List.mem_of_getElem? hd9)
    obtain ⟨w,ms0⟩:=d
    obtain ⟨hne,hn2,nh,hf⟩:=hg.form.ne
    dsimp only at ett hne hn2 nh hf
    have hw9:=hw7.but e7 so7 b9
    have hh9:=hh7.but e7 so7 b9
    simp only [jeg,List.set_cons_zero,List.set_cons_succ]
    refine ja6 fun R7 hR7=>?_
    walk_at "RD"
    have oks:=okS_of hg.ok hf
    refine ⟨.ref u,t,ps,ts,w,ms0,rfl,hw9,wok,hp8,ht50,⟨ett,hne,hg.ins⟩,hg.form,oks,fun rx vx yx HX tsx sX erx lef hwX=>?_⟩
    obtain ⟨wokX,hX8⟩:=jqw wok hp8 (by omega) hne hg.ins oks lef
    simp_arith [jai,erx,at0]
    refine ⟨st,o9,vx,afF ps ts w ms0,tsx,rfl,sX _ _ e9,so9,hwX,wokX,hX8,fun r ss HA oA hr bA eA soA er tou=>?_⟩
    have tA:TupS H9 HA:=sX.tups.trans (bA.tups (sX _ _ e9) so9.imm)
    have hwA:=(hw9.same sX).but (sX _ _ e9) so9 bA
    have hhA:=(hh9.same sX).but (sX _ _ e9) so9 bA
    have ettA:=tA _ _ rfl ett
    have bA7:But st H7 HA:=fun b x nb q9=>bA _ _ nb (sX _ _ (b9 _ _ nb q9))
    walk_at "RD"
    subst hR7
    refine ja6 fun R7 hR7=>?_
    walk_at "RD"
    refine ⟨.ref u,t,r,ps,ts,w,ms0,ss,rfl,hwA,wok,hp8,⟨ettA,hne,hg.ins⟩,fun c=>jkw c oks,er,tou.len,fun r2 ms HB hr2 sB er2 pm pw=>?_⟩
    walk_at "RD"
    subst hR7
    refine ja6 fun R7 hR7=>?_
    simp_arith [jai,sB _ _ er]
    intro l3 hl3
    have qC:=ja2 hl3 (.lst (ss.map V.int))
    have sC:=sB.trans qC
    have el3:upd HB l3 (.lst (ss.map V.int)) l3 = some (.lst (ss.map V.int)):=ja1
    have er2C:=qC _ _ er2
    generalize upd HB l3 (.lst (ss.map V.int)) = HC at qC sC el3 er2C
    walk_at "RD"
    subst hR7
    refine ja6 fun R7 hR7=>?_
    have GF:∀ HX (Q2:VK),Same HC HX->(∀ r4 HY,HX r4 = none->Same HX HY->HY r4 = some (.lst (ms.map V.int))->Q2 (.ref r4) HY)->jny [.ref hd,.ref t,.ref l3] HX Q2 E0:=fun HX Q2 sX k=>⟨.ref hd,t,l3,ps,ts,w,ms0,ss,rfl,hhA.same (sC.trans sX),wok,hp8,ht50,⟨(sC.trans sX) _ _ ettA,hne,hg.ins⟩,by omega,nh,oks,sX _ _ el3,by have:=tou.len; omega,fun ts' lf=>by rw [js9 lf lef]; exact ⟨wokX,tou.set,tou.left⟩,fun r4 ms4 HY hr4 sY er4 pm4 pw4=>k r4 HY hr4 sY (by rw [er4,jfo (pm4.trans pm.symm) pw4 pw])⟩
    walk_at "RD"
    refine GF HC _ (Same.refl _) fun r4 HD hr4 sD er4=>?_
    have hml:ms.length <= 100:=by
     rw [pm.length_eq]
     have:=tou.len
     unfold bkL
     split
     ·have:=jl9 wok (jb9 ms0) ss
      omega
     ·have:=jl8 wok w ms0 ss
      omega
    have hkr:kd HD (.ref r4) = some .lst:=by unfold kd; dsimp only; rw [er4]
    walk_at "RD"
    subst hR7
    refine ja6 fun R7 hR7=>?_
    simp_arith [hkr,isi]
    refine ⟨_,_,jbl er4,jbl (sD _ _ er2C),jbw _,.inl ⟨_,_,rfl,rfl⟩,?_⟩
    rw [jdi]
    walk_at "RD"
    subst hR7
    refine ja6 fun R7 hR7=>?_
    walk_at "RD"
    refine ⟨⟨r4,_,rfl,er4⟩,?_⟩
    simp_arith [er4]
    refine ⟨by rw [List.length_map]; exact szl' (by omega),?_⟩
    have sE:Same HC (upd HD r4 (.lst (ms.map V.int ++ [.int 1000]))):=jao sD hr4
    generalize upd HD r4 (.lst (ms.map V.int ++ [.int 1000])) = HE at sE
    subst hR7
    walk_at "RD"
    refine GF HE _ sE fun r5 HF hr5 sF er5=>?_
    have sCF:=sE.trans sF
    have sAF:=sC.trans sCF
    refine ⟨_,_,jbl er5,jbl (sCF _ _ er2C),jbw _,.inl ⟨_,_,rfl,rfl⟩,?_⟩
    rw [jdi]
    walk_at "RD"
    refine ⟨_,_,jbl (sCF _ _ el3),jbl (sAF _ _ er),jbw _,.inl ⟨_,_,rfl,rfl⟩,?_⟩
    rw [jdi]
    walk_at "RD"
    refine ⟨_,_,jlh (hhA.same sAF),jlh (hwA.same sAF),by have:=jsj ps ts; omega,.inr ⟨_,_,rfl,rfl⟩,?_⟩
    rw [jdi]
    walk_at "RD"
    exact ⟨_,_,_,_,_,oA,rfl,fun b x nb q9=>sAF _ _ (bA7 _ _ nb q9),sAF _ _ eA,soA⟩
   ·rintro σ H9 ⟨w1,w2,w3,w4,w5,o9,rfl,b9,e9,so9⟩
    exact ⟨_,_,_,_,_,_,_,_,_,rfl,hs7.tups (b9.tups e7 so7.imm)⟩
  walk_at "RD"
  refine ⟨st,o,3,rfl,e2,so,by decide,by decide,fun d oD d0 d1 soD=>?_⟩
  have bD:=But.at st H2 oD
  have eD:upd H2 st oD st = some oD:=ja1
  generalize upd H2 st oD = HD at bD eD
  walk_at "RD"
  by_cases cd:d = 0
  ·rw [decide_eq_true cd]
   walk_at "RD"
   exact ⟨st,oD,5,rfl,eD,soD,by decide,by decide,fun v H3 o3 ps ts b3 e3 so3 hw wok h8 h16=>F v H3 o3 ps ts (bD.trans b3) e3 so3 hw wok h8 (by omega)⟩
  ·rw [decide_eq_false cd]
   walk_at "RD"
   refine ⟨st,oD,_,rfl,eD,soD,?_,?_,fun v H3 o3 ps ts b3 e3 so3 hw wok h7=>F v H3 o3 ps ts (bD.trans b3) e3 so3 hw wok (by omega) (Nat.le_trans (jrx wok) (Nat.le_trans (Nat.mul_le_mul h7 h7) (by decide)))⟩
   ·first | omega | decide | (split <;> omega)
   ·first | omega | decide | (split <;> omega)
 ·rintro σ H1 ⟨v1,v2,v3,v4,v5,v6,v7,v8,v9,rfl,hs1⟩
  subst hR
  walk_at "RD"
  exact h _
end
end My
set_option autoImplicit true
namespace My
open PySem L2
abbrev aT (K:PySem.W.Frag) (x:Str) (f:Addr):Prop:=PySem.W.nsIn K mainGlobals x = some (some (.ref f))
abbrev lT (K:PySem.W.Frag) (x q:Str) (st:Stmt) (f:Addr) (oc:Value) (od an:Option Addr) (sl:Array (Option Value)) (kV dc pm cd ct:Value):Prop:=K.lookup f = some ⟨oc,od,.func (PySem.W.fnOf x q (jdu st) (jdk st) (jab st) .none kV dc pm an cd ct),sl⟩
abbrev cT (K:PySem.W.Frag) (cd:Value) (x:Str):Prop:=PySem.W.codeIn K cd x = true
abbrev kT (K:PySem.W.Frag) (f:Addr):Prop:=PySem.W.keepIn K (.ref f) = true
abbrev zT (K:PySem.W.Frag) (x:Str):Prop:=PySem.W.nsIn K mainGlobals x = some none
theorem dmk {K:PySem.W.Frag} {h:Heap} {mg:Str->Option Value} (X:K.In h) (G:h.Ns mainGlobals mg) {x:Str} {st:Stmt} {f:Addr} {oc:Value} {od an:Option Addr} {sl:Array (Option Value)} {kV dc pm cd ct:Value} (a:aT K x f) (l:lT K x x st f oc od an sl kV dc pm cd ct) (c:cT K cd x) (k:kT K f) (ps:List Str)
  (b:jld K (PySem.W.fnOf x x (jdu st) (jdk st) (jab st) .none kV dc pm an cd ct) ps []):DefAt K mg x st ps f (PySem.W.fnOf x x (jdu st) (jdk st) (jab st) .none kV dc pm an cd ct):=⟨jax l c k,b,PySem.W.mg_of X G a⟩
theorem all_mk {l:PySem.W.OpenLaw} {w:World} {K:PySem.W.Frag} {h:Heap} {mg:Str->Option Value} {fa:Addr} (X:K.In h) (G:h.Ns mainGlobals mg) (hfa:mg "law" = some (.ref fa)) (a0:aT K "is_whole" f0) (l0:lT K "is_whole" "is_whole" (top 15) f0 oc0 od0 an0 sq0 kV0 dc0 pm0 cd0 ct0) (g0:cT K cd0 "is_whole") (k0:kT K f0) (a1:aT K "is_tuple_of" f1) (l1:lT K "is_tuple_of" "is_tuple_of" (top 16) f1 oc1 od1 an1 sq1 kV1 dc1 pm1 cd1 ct1) (g1:cT K cd1 "is_tuple_of") (k1:kT K f1) (a2:aT K "is_pair_of_wholes" f2) (l2:lT K "is_pair_of_wholes" "is_pair_of_wholes" (top 17) f2 oc2 od2 an2 sq2 kV2 dc2 pm2 cd2 ct2) (g2:cT K cd2 "is_pair_of_wholes") (k2:kT K f2) (a3:aT K "is_list_up_to" f3) (l3:lT K "is_list_up_to" "is_list_up_to" (top 18) f3 oc3 od3 an3 sq3 kV3 dc3 pm3 cd3 ct3) (g3:cT K cd3 "is_list_up_to") (k3:kT K f3) (a4:aT K "marked" f4) (l4:lT K "marked" "marked" (top 19) f4 oc4 od4 an4 sq4 kV4 dc4 pm4 cd4 ct4) (g4:cT K cd4 "marked") (k4:kT K f4) (a5:aT K "place_stands" f5) (l5:lT K "place_stands" "place_stands" (top 25) f5 oc5 od5 an5 sq5 kV5 dc5 pm5 cd5 ct5) (g5:cT K cd5 "place_stands") (k5:kT K f5) (a6:aT K "tie_stands" f6) (l6:lT K "tie_stands" "tie_stands" (top 26) f6 oc6 od6 an6 sq6 kV6 dc6 pm6 cd6 ct6) (g6:cT K cd6 "tie_stands") (k6:kT K f6) (a7:aT K "look_at_places" f7) (l7:lT K "look_at_places" "look_at_places" (top 27) f7 oc7 od7 an7 sq7 kV7 dc7 pm7 cd7 ct7) (g7:cT K cd7 "look_at_places") (k7:kT K f7) (a8:aT K "look_at_ties" f8) (l8:lT K "look_at_ties" "look_at_ties" (top 28) f8 oc8 od8 an8 sq8 kV8 dc8 pm8 cd8 ct8) (g8:cT K cd8 "look_at_ties") (k8:kT K f8) (a9:aT K "look_at_web" f9) (l9:lT K "look_at_web" "look_at_web" (top 29) f9 oc9 od9 an9 sq9 kV9 dc9 pm9 cd9 ct9) (g9:cT K cd9 "look_at_web") (k9:kT K f9) (a10:aT K "nears_in" f10) (l10:lT K "nears_in" "nears_in" (top 32) f10 oc10 od10 an10 sq10 kV10 dc10 pm10 cd10 ct10) (g10:cT K cd10 "nears_in") (k10:kT K f10) (a11:aT K "is_place" f11) (l11:lT K "is_place" "is_place" (top 30) f11 oc11 od11 an11 sq11 kV11 dc11 pm11 cd11 ct11) (g11:cT K cd11 "is_place") (k11:kT K f11) (a12:aT K "are_places" f12) (l12:lT K "are_places" "are_places" (top 31) f12 oc12 od12 an12 sq12 kV12 dc12 pm12 cd12 ct12) (g12:cT K cd12 "are_places") (k12:kT K f12) (a13:aT K "cost_near" f13) (l13:lT K "cost_near" "cost_near" (top 6) f13 oc13 od13 an13 sq13 kV13 dc13 pm13 cd13 ct13) (g13:cT K cd13 "cost_near") (k13:kT K f13) (a14:aT K "near_fits" f14) (l14:lT K "near_fits" "near_fits" (top 7) f14 oc14 od14 an14 sq14 kV14 dc14 pm14 cd14 ct14) (g14:cT K cd14 "near_fits") (k14:kT K f14) (a15:aT K "leaf_fits" f15) (l15:lT K "leaf_fits" "leaf_fits" (top 8) f15 oc15 od15 an15 sq15 kV15 dc15 pm15 cd15 ct15) (g15:cT K cd15 "leaf_fits") (k15:kT K f15) (a16:aT K "over_fits" f16) (l16:lT K "over_fits" "over_fits" (top 9) f16 oc16 od16 an16 sq16 kV16 dc16 pm16 cd16 ct16) (g16:cT K cd16 "over_fits") (k16:kT K f16) (a17:aT K "twins_fit" f17) (l17:lT K "twins_fit" "twins_fit" (top 10) f17 oc17 od17 an17 sq17 kV17 dc17 pm17 cd17 ct17) (g17:cT K cd17 "twins_fit") (k17:kT K f17) (a18:aT K "rule_fits" f18) (l18:lT K "rule_fits" "rule_fits" (top 11) f18 oc18 od18 an18 sq18 kV18 dc18 pm18 cd18 ct18) (g18:cT K cd18 "rule_fits") (k18:kT K f18) (a19:aT K "any_tied" f19) (l19:lT K "any_tied" "any_tied" (top 35) f19 oc19 od19 an19 sq19 kV19 dc19 pm19 cd19 ct19) (g19:cT K cd19 "any_tied") (k19:kT K f19) (a20:aT K "fold_fits" f20) (l20:lT K "fold_fits" "fold_fits" (top 36) f20 oc20 od20 an20 sq20 kV20 dc20 pm20 cd20 ct20) (g20:cT K cd20 "fold_fits") (k20:kT K f20) (a21:aT K "fits_known" f21) (l21:lT K "fits_known" "fits_known" (top 56) f21 oc21 od21 an21 sq21 kV21 dc21 pm21 cd21 ct21) (g21:cT K cd21 "fits_known") (k21:kT K f21) (a22:aT K "look_at_step" f22) (l22:lT K "look_at_step" "look_at_step" (top 62) f22 oc22 od22 an22 sq22 kV22 dc22 pm22 cd22 ct22) (g22:cT K cd22 "look_at_step") (k22:kT K f22) (a23:aT K "is_set" f23) (l23:lT K "is_set" "is_set" (top 51) f23 oc23 od23 an23 sq23 kV23 dc23 pm23 cd23 ct23) (g23:cT K cd23 "is_set") (k23:kT K f23) (a24:aT K "look_at_set" f24) (l24:lT K "look_at_set" "look_at_set" (top 52) f24 oc24 od24 an24 sq24 kV24 dc24 pm24 cd24 ct24) (g24:cT K cd24 "look_at_set") (k24:kT K f24) (a25:aT K "left_by" f25) (l25:lT K "left_by" "left_by" (top 53) f25 oc25 od25 an25 sq25 kV25 dc25 pm25 cd25 ct25) (g25:cT K cd25 "left_by") (k25:kT K f25) (a26:aT K "look_at_touching" f26) (l26:lT K "look_at_touching" "look_at_touching" (top 63) f26 oc26 od26 an26 sq26 kV26 dc26 pm26 cd26 ct26) (g26:cT K cd26 "look_at_touching") (k26:kT K f26) (a27:aT K "rule_change" f27) (l27:lT K "rule_change" "rule_change" (top 12) f27 oc27 od27 an27 sq27 kV27 dc27 pm27 cd27 ct27) (g27:cT K cd27 "rule_change") (k27:kT K f27) (a28:aT K "tie_of" f28) (l28:lT K "tie_of" "tie_of" (top 33) f28 oc28 od28 an28 sq28 kV28 dc28 pm28 cd28 ct28) (g28:cT K cd28 "tie_of") (k28:kT K f28) (a29:aT K "drawn_to" f29) (l29:lT K "drawn_to" "drawn_to" (top 37) f29 oc29 od29 an29 sq29 kV29 dc29 pm29 cd29 ct29) (g29:cT K cd29 "drawn_to") (k29:kT K f29) (a30:aT K "fold_change" f30) (l30:lT K "fold_change" "fold_change" (top 38) f30 oc30 od30 an30 sq30 kV30 dc30 pm30 cd30 ct30) (g30:cT K cd30 "fold_change") (k30:kT K f30) (a31:aT K "fold_ties" f31) (l31:lT K "fold_ties" "fold_ties" (top 39) f31 oc31 od31 an31 sq31 kV31 dc31 pm31 cd31 ct31) (g31:cT K cd31 "fold_ties") (k31:kT K f31) (a32:aT K "change_by" f32) (l32:lT K "change_by" "change_by" (top 59) f32 oc32 od32 an32 sq32 kV32 dc32 pm32 cd32 ct32) (g32:cT K cd32 "change_by") (k32:kT K f32) (a33:aT K "web_of" f33) (l33:lT K "web_of" "web_of" (top 49) f33 oc33 od33 an33 sq33 kV33 dc33 pm33 cd33 ct33) (g33:cT K cd33 "web_of") (k33:kT K f33) (a34:aT K "after_known" f34) (l34:lT K "after_known" "after_known" (top 60) f34 oc34 od34 an34 sq34 kV34 dc34 pm34 cd34 ct34) (g34:cT K cd34 "after_known") (k34:kT K f34) (a35:aT K "rule_back" f35) (l35:lT K "rule_back" "rule_back" (top 13) f35 oc35 od35 an35 sq35 kV35 dc35 pm35 cd35 ct35) (g35:cT K cd35 "rule_back") (k35:kT K f35) (a36:aT K "fold_back" f36) (l36:lT K "fold_back" "fold_back" (top 40) f36 oc36 od36 an36 sq36 kV36 dc36 pm36 cd36 ct36) (g36:cT K cd36 "fold_back") (k36:kT K f36) (a37:aT K "back_known" f37) (l37:lT K "back_known" "back_known" (top 61) f37 oc37 od37 an37 sq37 kV37 dc37 pm37 cd37 ct37) (g37:cT K cd37 "back_known") (k37:kT K f37) (a38:aT K "back" f38) (l38:lT K "back" "back" (top 64) f38 oc38 od38 an38 sq38 kV38 dc38 pm38 cd38 ct38) (g38:cT K cd38 "back") (k38:kT K f38) (a39:aT K "_law_begun" f39) (l39:lT K "_law_begun" "_law_begun" (top 66) f39 oc39 od39 an39 sq39 kV39 dc39 pm39 cd39 ct39) (g39:cT K cd39 "_law_begun") (k39:kT K f39) (a40:aT K "_law_take" f40) (l40:lT K "_law_take" "_law_take" (top 67) f40 oc40 od40 an40 sq40 kV40 dc40 pm40 cd40 ct40) (g40:cT K cd40 "_law_take") (k40:kT K f40) (a41:aT K "_law_places" f41) (l41:lT K "_law_places" "_law_places" (top 68) f41 oc41 od41 an41 sq41 kV41 dc41 pm41 cd41 ct41) (g41:cT K cd41 "_law_places") (k41:kT K f41) (a42:aT K "_law_web" f42) (l42:lT K "_law_web" "_law_web" (top 69) f42 oc42 od42 an42 sq42 kV42 dc42 pm42 cd42 ct42) (g42:cT K cd42 "_law_web") (k42:kT K f42) (a43:aT K "_law_bent" f43) (l43:lT K "_law_bent" "_law_bent" (top 70) f43 oc43 od43 an43 sq43 kV43 dc43 pm43 cd43 ct43) (g43:cT K cd43 "_law_bent") (k43:kT K f43) (a44:aT K "_law_twinned" f44) (l44:lT K "_law_twinned" "_law_twinned" (top 71) f44 oc44 od44 an44 sq44 kV44 dc44 pm44 cd44 ct44) (g44:cT K cd44 "_law_twinned") (k44:kT K f44) (a45:aT K "_law_shape" f45) (l45:lT K "_law_shape" "_law_shape" (top 72) f45 oc45 od45 an45 sq45 kV45 dc45 pm45 cd45 ct45) (g45:cT K cd45 "_law_shape") (k45:kT K f45) (a46:aT K "_law_tie" f46) (l46:lT K "_law_tie" "_law_tie" (top 73) f46 oc46 od46 an46 sq46 kV46 dc46 pm46 cd46 ct46) (g46:cT K cd46 "_law_tie") (k46:kT K f46) (a47:aT K "_law_edge" f47) (l47:lT K "_law_edge" "_law_edge" (top 74) f47 oc47 od47 an47 sq47 kV47 dc47 pm47 cd47 ct47) (g47:cT K cd47 "_law_edge") (k47:kT K f47) (a48:aT K "_law_star" f48) (l48:lT K "_law_star" "_law_star" (top 75) f48 oc48 od48 an48 sq48 kV48 dc48 pm48 cd48 ct48) (g48:cT K cd48 "_law_star") (k48:kT K f48) (a49:aT K "_law_prices" f49) (l49:lT K "_law_prices" "_law_prices" (top 76) f49 oc49 od49 an49 sq49 kV49 dc49 pm49 cd49 ct49) (g49:cT K cd49 "_law_prices") (k49:kT K f49) (a50:aT K "_law_near" f50) (l50:lT K "_law_near" "_law_near" (top 77) f50 oc50 od50 an50 sq50 kV50 dc50 pm50 cd50 ct50) (g50:cT K cd50 "_law_near") (k50:kT K f50) (a51:aT K "_law_over" f51) (l51:lT K "_law_over" "_law_over" (top 78) f51 oc51 od51 an51 sq51 kV51 dc51 pm51 cd51 ct51) (g51:cT K cd51 "_law_over") (k51:kT K f51) (a52:aT K "_law_fits" f52) (l52:lT K "_law_fits" "_law_fits" (top 79) f52 oc52 od52 an52 sq52 kV52 dc52 pm52 cd52 ct52) (g52:cT K cd52 "_law_fits") (k52:kT K f52) (a53:aT K "_law_all" f53) (l53:lT K "_law_all" "_law_all" (top 80) f53 oc53 od53 an53 sq53 kV53 dc53 pm53 cd53 ct53) (g53:cT K cd53 "_law_all") (k53:kT K f53) (a54:aT K "_law_less" f54) (l54:lT K "_law_less" "_law_less" (top 81) f54 oc54 od54 an54 sq54 kV54 dc54 pm54 cd54 ct54) (g54:cT K cd54 "_law_less") (k54:kT K f54) (a55:aT K "_law_priced" f55) (l55:lT K "_law_priced" "_law_priced" (top 82) f55 oc55 od55 an55 sq55 kV55 dc55 pm55 cd55 ct55) (g55:cT K cd55 "_law_priced") (k55:kT K f55) (a56:aT K "_law_folded" f56) (l56:lT K "_law_folded" "_law_folded" (top 83) f56 oc56 od56 an56 sq56 kV56 dc56 pm56 cd56 ct56) (g56:cT K cd56 "_law_folded") (k56:kT K f56) (a57:aT K "_law_after" f57) (l57:lT K "_law_after" "_law_after" (top 84) f57 oc57 od57 an57 sq57 kV57 dc57 pm57 cd57 ct57) (g57:cT K cd57 "_law_after") (k57:kT K f57) (a58:aT K "_law_touching" f58) (l58:lT K "_law_touching" "_law_touching" (top 86) f58 oc58 od58 an58 sq58 kV58 dc58 pm58 cd58 ct58) (g58:cT K cd58 "_law_touching") (k58:kT K f58) (a59:aT K "_law_due" f59) (l59:lT K "_law_due" "_law_due" (top 87) f59 oc59 od59 an59 sq59 kV59 dc59 pm59 cd59 ct59) (g59:cT K cd59 "_law_due") (k59:kT K f59) (a60:aT K "_law_steps" f60) (l60:lT K "_law_steps" "_law_steps" (top 88) f60 oc60 od60 an60 sq60 kV60 dc60 pm60 cd60 ct60) (g60:cT K cd60 "_law_steps") (k60:kT K f60) (a61:aT K "law" f61) (l61:lT K "law" "law" (top 89) f61 oc61 od61 an61 sq61 kV61 dc61 pm61 cd61 ct61) (g61:cT K cd61 "law") (k61:kT K f61) (z_len:zT K "len") (z_isinstance:zT K "isinstance") (z_all:zT K "all") (z_min:zT K "min") (z_list:zT K "list") (z_dict:zT K "dict") (z_int:zT K "int") (z_bool:zT K "bool") (z_str:zT K "str") (z_tuple:zT K "tuple") (z_range:zT K "range") (z_enumerate:zT K "enumerate") (z_zip:zT K "zip") (z_max:zT K "max") (z_any:zT K "any") (z_sum:zT K "sum") (z_sorted:zT K "sorted") (z_set:zT K "set") (n_MOST_PLACES:PySem.W.nsIn K mainGlobals "MOST_PLACES" = some (some (.int 40 c1))) (n_MOST_TIES:PySem.W.nsIn K mainGlobals "MOST_TIES" = some (some (.int 120 c2))) (n_LAST_PLACE:PySem.W.nsIn K mainGlobals "LAST_PLACE" = some (some (.int 999 c3))) (n_MOST_PRICE:PySem.W.nsIn K mainGlobals "MOST_PRICE" = some (some (.int 1000000000000 c4)))
 :∃ fd:FuncData,(∀ (s:Shared) (v:Value),BindsTo s fd ⟨[v],[]⟩ [("_law_script",v)])/\∀ base:Heap,K.In base->base.Ns mainGlobals mg->FnOk l.prog w K mg base CX0 11 fa fd ["_law_script"] (jq2 K):=by
 have e:=hfa.symm.trans (PySem.W.mg_of X G a61)
 cases e
 have B:Blt mg:=⟨PySem.W.mg_none_of X G z_len,PySem.W.mg_none_of X G z_isinstance,PySem.W.mg_none_of X G z_all,PySem.W.mg_none_of X G z_min,PySem.W.mg_none_of X G z_list,PySem.W.mg_none_of X G z_dict,PySem.W.mg_none_of X G z_int,PySem.W.mg_none_of X G z_bool,PySem.W.mg_none_of X G z_str,PySem.W.mg_none_of X G z_tuple,PySem.W.mg_none_of X G z_range,PySem.W.mg_none_of X G z_enumerate,PySem.W.mg_none_of X G z_zip,PySem.W.mg_none_of X G z_max,PySem.W.mg_none_of X G z_any,PySem.W.mg_none_of X G z_sum,PySem.W.mg_none_of X G z_sorted,PySem.W.mg_none_of X G z_set⟩
 have C:Cst mg c1 c2 c3 c4:=⟨PySem.W.mg_of X G n_MOST_PLACES,PySem.W.mg_of X G n_MOST_TIES,PySem.W.mg_of X G n_LAST_PLACE,PySem.W.mg_of X G n_MOST_PRICE⟩
 have Dqf:=dmk X G a0 l0 g0 k0 ["thing"] ((jax l0 g0 k0).binds fun _ _ _ _ _ _ us hl=>match us,hl with | [_],_=>rfl)
 have Dqk:=dmk X G a1 l1 g1 k1 ["thing","many"] ((jax l1 g1 k1).binds fun _ _ _ _ _ _ us hl=>match us,hl with | [_,_],_=>rfl)
 have Dqi:=dmk X G a2 l2 g2 k2 ["thing"] ((jax l2 g2 k2).binds fun _ _ _ _ _ _ us hl=>match us,hl with | [_],_=>rfl)
 have Dqh:=dmk X G a3 l3 g3 k3 ["thing","most"] ((jax l3 g3 k3).binds fun _ _ _ _ _ _ us hl=>match us,hl with | [_,_],_=>rfl)
 have Dqo:=dmk X G a4 l4 g4 k4 ["places"] ((jax l4 g4 k4).binds fun _ _ _ _ _ _ us hl=>match us,hl with | [_],_=>rfl)
 have Dzs:=dmk X G a5 l5 g5 k5 ["thing","last","spent"] ((jax l5 g5 k5).binds fun _ _ _ _ _ _ us hl=>match us,hl with | [_,_,_],_=>rfl)
 have Dzx:=dmk X G a6 l6 g6 k6 ["thing","last","prices"] ((jax l6 g6 k6).binds fun _ _ _ _ _ _ us hl=>match us,hl with | [_,_,_],_=>rfl)
 have Dzl:=dmk X G a7 l7 g7 k7 ["places"] ((jax l7 g7 k7).binds fun _ _ _ _ _ _ us hl=>match us,hl with | [_],_=>rfl)
 have Dzo:=dmk X G a8 l8 g8 k8 ["ties","prices"] ((jax l8 g8 k8).binds fun _ _ _ _ _ _ us hl=>match us,hl with | [_,_],_=>rfl)
 have Dqn:=dmk X G a9 l9 g9 k9 ["thing"] ((jax l9 g9 k9).binds fun _ _ _ _ _ _ us hl=>match us,hl with | [_],_=>rfl)
 have Dqc:=dmk X G a10 l10 g10 k10 ["web"] ((jax l10 g10 k10).binds fun _ _ _ _ _ _ us hl=>match us,hl with | [_],_=>rfl)
 have Dqj:=dmk X G a11 l11 g11 k11 ["prices","thing"] ((jax l11 g11 k11).binds fun _ _ _ _ _ _ us hl=>match us,hl with | [_,_],_=>rfl)
 have Dqu:=dmk X G a12 l12 g12 k12 ["prices","things"] ((jax l12 g12 k12).binds fun _ _ _ _ _ _ us hl=>match us,hl with | [_,_],_=>rfl)
 have Dqd:=dmk X G a13 l13 g13 k13 ["prices","nears","v"] ((jax l13 g13 k13).binds fun _ _ _ _ _ _ us hl=>match us,hl with | [_,_,_],_=>rfl)
 have Dzq:=dmk X G a14 l14 g14 k14 ["prices","nears","v"] ((jax l14 g14 k14).binds fun _ _ _ _ _ _ us hl=>match us,hl with | [_,_,_],_=>rfl)
 have Dzj:=dmk X G a15 l15 g15 k15 ["prices","nears","v"] ((jax l15 g15 k15).binds fun _ _ _ _ _ _ us hl=>match us,hl with | [_,_,_],_=>rfl)
 have Dzr:=dmk X G a16 l16 g16 k16 ["prices","nears","u","v"] ((jax l16 g16 k16).binds fun _ _ _ _ _ _ us hl=>match us,hl with | [_,_,_,_],_=>rfl)
 have Dzy:=dmk X G a17 l17 g17 k17 ["nears","u","v"] ((jax l17 g17 k17).binds fun _ _ _ _ _ _ us hl=>match us,hl with | [_,_,_],_=>rfl)
 have Dzv:=dmk X G a18 l18 g18 k18 ["prices","nears","step"] ((jax l18 g18 k18).binds fun _ _ _ _ _ _ us hl=>match us,hl with | [_,_,_],_=>rfl)
 have Dqt:=dmk X G a19 l19 g19 k19 ["nears","places"] ((jax l19 g19 k19).binds fun _ _ _ _ _ _ us hl=>match us,hl with | [_,_],_=>rfl)
 have Dq1:=dmk X G a20 l20 g20 k20 ["prices","nears","v"] ((jax l20 g20 k20).binds fun _ _ _ _ _ _ us hl=>match us,hl with | [_,_,_],_=>rfl)
 have Dqy:=dmk X G a21 l21 g21 k21 ["web","thing"] ((jax l21 g21 k21).binds fun _ _ _ _ _ _ us hl=>match us,hl with | [_,_],_=>rfl)
 have Dzn:=dmk X G a22 l22 g22 k22 ["web","thing"] ((jax l22 g22 k22).binds fun _ _ _ _ _ _ us hl=>match us,hl with | [_,_],_=>rfl)
 have Dq3:=dmk X G a23 l23 g23 k23 ["web","thing"] ((jax l23 g23 k23).binds fun _ _ _ _ _ _ us hl=>match us,hl with | [_,_],_=>rfl)
 have Dzm:=dmk X G a24 l24 g24 k24 ["web","thing"] ((jax l24 g24 k24).binds fun _ _ _ _ _ _ us hl=>match us,hl with | [_,_],_=>rfl)
 have Dzk:=dmk X G a25 l25 g25 k25 ["web","some"] ((jax l25 g25 k25).binds fun _ _ _ _ _ _ us hl=>match us,hl with | [_,_],_=>rfl)
 have Dzp:=dmk X G a26 l26 g26 k26 ["web","thing"] ((jax l26 g26 k26).binds fun _ _ _ _ _ _ us hl=>match us,hl with | [_,_],_=>rfl)
 have Dzu:=dmk X G a27 l27 g27 k27 ["prices","nears","step"] ((jax l27 g27 k27).binds fun _ _ _ _ _ _ us hl=>match us,hl with | [_,_,_],_=>rfl)
 have Dzw:=dmk X G a28 l28 g28 k28 ["one","other"] ((jax l28 g28 k28).binds fun _ _ _ _ _ _ us hl=>match us,hl with | [_,_],_=>rfl)
 have Dqx:=dmk X G a29 l29 g29 k29 ["nears","v"] ((jax l29 g29 k29).binds fun _ _ _ _ _ _ us hl=>match us,hl with | [_,_],_=>rfl)
 have Dq0:=dmk X G a30 l30 g30 k30 ["prices","nears","v"] ((jax l30 g30 k30).binds fun _ _ _ _ _ _ us hl=>match us,hl with | [_,_,_],_=>rfl)
 have Dq2:=dmk X G a31 l31 g31 k31 ["nears","v"] ((jax l31 g31 k31).binds fun _ _ _ _ _ _ us hl=>match us,hl with | [_,_],_=>rfl)
 have Dqw:=dmk X G a32 l32 g32 k32 ["web","step"] ((jax l32 g32 k32).binds fun _ _ _ _ _ _ us hl=>match us,hl with | [_,_],_=>rfl)
 have Dzz:=dmk X G a33 l33 g33 k33 ["web","kept"] ((jax l33 g33 k33).binds fun _ _ _ _ _ _ us hl=>match us,hl with | [_,_],_=>rfl)
 have Dqs:=dmk X G a34 l34 g34 k34 ["web","step"] ((jax l34 g34 k34).binds fun _ _ _ _ _ _ us hl=>match us,hl with | [_,_],_=>rfl)
 have Dzt:=dmk X G a35 l35 g35 k35 ["nears","step","some"] ((jax l35 g35 k35).binds fun _ _ _ _ _ _ us hl=>match us,hl with | [_,_,_],_=>rfl)
 have Dqz:=dmk X G a36 l36 g36 k36 ["nears","v","some"] ((jax l36 g36 k36).binds fun _ _ _ _ _ _ us hl=>match us,hl with | [_,_,_],_=>rfl)
 have Dqv:=dmk X G a37 l37 g37 k37 ["web","step","some"] ((jax l37 g37 k37).binds fun _ _ _ _ _ _ us hl=>match us,hl with | [_,_,_],_=>rfl)
 have Dqr:=dmk X G a38 l38 g38 k38 ["web","step","some"] ((jax l38 g38 k38).binds fun _ _ _ _ _ _ us hl=>match us,hl with | [_,_,_],_=>rfl)
 have Dq6:=dmk X G a39 l39 g39 k39 ["_law_script","_law_k"] ((jax l39 g39 k39).binds fun _ _ _ _ _ _ us hl=>match us,hl with | [_,_],_=>rfl)
 have Dqa:=dmk X G a40 l40 g40 k40 ["_law_state","_law_many"] ((jax l40 g40 k40).binds fun _ _ _ _ _ _ us hl=>match us,hl with | [_,_],_=>rfl)
 have Dql:=dmk X G a41 l41 g41 k41 ["_law_state","_law_count"] ((jax l41 g41 k41).binds fun _ _ _ _ _ _ us hl=>match us,hl with | [_,_],_=>rfl)
 have Dzi:=dmk X G a42 l42 g42 k42 ["_law_state","_law_most"] ((jax l42 g42 k42).binds fun _ _ _ _ _ _ us hl=>match us,hl with | [_,_],_=>rfl)
 have Dq7:=dmk X G a43 l43 g43 k43 ["_law_state","_law_web_here"] ((jax l43 g43 k43).binds fun _ _ _ _ _ _ us hl=>match us,hl with | [_,_],_=>rfl)
 have Dzh:=dmk X G a44 l44 g44 k44 ["_law_state","_law_web_here"] ((jax l44 g44 k44).binds fun _ _ _ _ _ _ us hl=>match us,hl with | [_,_],_=>rfl)
 have Dzd:=dmk X G a45 l45 g45 k45 ["_law_state","_law_most"] ((jax l45 g45 k45).binds fun _ _ _ _ _ _ us hl=>match us,hl with | [_,_],_=>rfl)
 have Dqp:=dmk X G a46 l46 g46 k46 ["_law_one","_law_other"] ((jax l46 g46 k46).binds fun _ _ _ _ _ _ us hl=>match us,hl with | [_,_],_=>rfl)
 have Dq9:=dmk X G a47 l47 g47 k47 ["_law_state","_law_prices_here"] ((jax l47 g47 k47).binds fun _ _ _ _ _ _ us hl=>match us,hl with | [_,_],_=>rfl)
 have Dze:=dmk X G a48 l48 g48 k48 ["_law_state","_law_most"] ((jax l48 g48 k48).binds fun _ _ _ _ _ _ us hl=>match us,hl with | [_,_],_=>rfl)
 have Dqm:=dmk X G a49 l49 g49 k49 ["_law_web_here"] ((jax l49 g49 k49).binds fun _ _ _ _ _ _ us hl=>match us,hl with | [_],_=>rfl)
 have Dqb:=dmk X G a50 l50 g50 k50 ["_law_web_here","_law_place"] ((jax l50 g50 k50).binds fun _ _ _ _ _ _ us hl=>match us,hl with | [_,_],_=>rfl)
 have Dzc:=dmk X G a51 l51 g51 k51 ["_law_web_here","_law_u","_law_v","_law_prices_here"] ((jax l51 g51 k51).binds fun _ _ _ _ _ _ us hl=>match us,hl with | [_,_,_,_],_=>rfl)
 have Dza:=dmk X G a52 l52 g52 k52 ["_law_web_here","_law_step"] ((jax l52 g52 k52).binds fun _ _ _ _ _ _ us hl=>match us,hl with | [_,_],_=>rfl)
 have Dq5:=dmk X G a53 l53 g53 k53 ["_law_web_here"] ((jax l53 g53 k53).binds fun _ _ _ _ _ _ us hl=>match us,hl with | [_],_=>rfl)
 have Dqe:=dmk X G a54 l54 g54 k54 ["_law_web_here","_law_gone"] ((jax l54 g54 k54).binds fun _ _ _ _ _ _ us hl=>match us,hl with | [_,_],_=>rfl)
 have Dqg:=dmk X G a55 l55 g55 k55 ["_law_web_here","_law_place","_law_price"] ((jax l55 g55 k55).binds fun _ _ _ _ _ _ us hl=>match us,hl with | [_,_,_],_=>rfl)
 have Dzb:=dmk X G a56 l56 g56 k56 ["_law_web_here","_law_v","_law_some","_law_price"] ((jax l56 g56 k56).binds fun _ _ _ _ _ _ us hl=>match us,hl with | [_,_,_,_],_=>rfl)
 have Dq4:=dmk X G a57 l57 g57 k57 ["_law_web_here","_law_step"] ((jax l57 g57 k57).binds fun _ _ _ _ _ _ us hl=>match us,hl with | [_,_],_=>rfl)
 have Dzg:=dmk X G a58 l58 g58 k58 ["_law_state","_law_web_here"] ((jax l58 g58 k58).binds fun _ _ _ _ _ _ us hl=>match us,hl with | [_,_],_=>rfl)
 have Dq8:=dmk X G a59 l59 g59 k59 ["_law_web_here","_law_step","_law_some"] ((jax l59 g59 k59).binds fun _ _ _ _ _ _ us hl=>match us,hl with | [_,_,_],_=>rfl)
 have Dzf:=dmk X G a60 l60 g60 k60 ["_law_state","_law_web_here","_law_first"] ((jax l60 g60 k60).binds fun _ _ _ _ _ _ us hl=>match us,hl with | [_,_,_],_=>rfl)
 have Dz1:=dmk X G a61 l61 g61 k61 ["_law_script"] ((jax l61 g61 k61).binds fun _ _ _ _ _ _ us hl=>match us,hl with | [_],_=>rfl)
 refine ⟨PySem.W.fnOf "law" "law" (jdu (top 89)) (jdk (top 89)) (jab (top 89)) .none kV61 dc61 pm61 an61 cd61 ct61,fun s v=>.of_eq rfl,fun base _ _=>?_⟩
 have Gqf:=jkp (P:=l.prog) (w:=w) (base:=base) B Dqf
 have Gqk:=jgf (P:=l.prog) (w:=w) (base:=base) B Dqk
 have Gqh:=jf5 (P:=l.prog) (w:=w) (base:=base) B Dqh
 have Gqi:=je0 (P:=l.prog) (w:=w) (base:=base) B Dqi Dqk Gqk Dqf Gqf
 have Gzs:=jft (P:=l.prog) (w:=w) (base:=base) B C Dzs Dqi Gqi
 have Gzx:=jho (P:=l.prog) (w:=w) (base:=base) B Dzx Dqi Gqi
 have Gzl:=jet (P:=l.prog) (w:=w) (base:=base) B C Dzl Dqh Gqh Dzs Gzs
 have Gzo:=jfu (P:=l.prog) (w:=w) (base:=base) B C Dzo Dqh Gqh Dzx Gzx
 have Gqn:=jgc (P:=l.prog) (w:=w) (base:=base) B Dqn Dqk Gqk Dzl Gzl Dzo Gzo
 have Gqc:=jkg (P:=l.prog) (w:=w) (base:=base) B Dqc
 have Gqj:=jkq (P:=l.prog) (w:=w) (base:=base) B Dqj Dqf Gqf
 have Gqu:=jhv (P:=l.prog) (w:=w) (base:=base) B Dqu Dqj Gqj
 have Gqd:=jjb (P:=l.prog) (w:=w) (base:=base) B Dqd
 have Gzq:=jj1 (P:=l.prog) (w:=w) (base:=base) B Dzq Dqd Gqd
 have Gzj:=jj3 (P:=l.prog) (w:=w) (base:=base) B Dzj
 have Gzr:=jj0 (P:=l.prog) (w:=w) (base:=base) B Dzr
 have Gzy:=jix (P:=l.prog) (w:=w) (base:=base) B Dzy
 have Gzv:=jiy (P:=l.prog) (w:=w) (base:=base) B Dzv Dzq Gzq Dzj Gzj Dzr Gzr Dzy Gzy
 have Gqt:=jks (P:=l.prog) (w:=w) (base:=base) B Dqt
 have Gq1:=jj9 (P:=l.prog) (w:=w) (base:=base) B Dq1 Dqt Gqt Dqd Gqd
 have Gqy:=jht (P:=l.prog) (w:=w) (base:=base) B Dqy Dqu Gqu Dqc Gqc Dq1 Gq1 Dzv Gzv
 have Gzn:=jfv (P:=l.prog) (w:=w) (base:=base) B Dzn Dqn Gqn Dqy Gqy
 have Gq3:=jol (P:=l.prog) (w:=w) (base:=base) B Dq3 Dqn Gqn Dqj Gqj
 have Gzm:=jgd (P:=l.prog) (w:=w) (base:=base) B Dzm Dq3 Gq3
 have Gqo:=jok (P:=l.prog) (w:=w) (base:=base) B Dqo
 have Gzk:=jmp (P:=l.prog) (w:=w) (base:=base) B Dzk Dzm Gzm Dqo Gqo
 have Gzp:=je4 (P:=l.prog) (w:=w) (base:=base) B Dzp Dzk Gzk
 have Gzw:=joj (P:=l.prog) (w:=w) (base:=base) B Dzw
 have Gqx:=jkr (P:=l.prog) (w:=w) (base:=base) B Dqx
 have Gq0:=jgg (P:=l.prog) (w:=w) (base:=base) B Dq0 Dqd Gqd
 have Gq2:=jj8 (P:=l.prog) (w:=w) (base:=base) B Dq2 Dzw Gzw Dqx Gqx
 have Gzz:=joi (P:=l.prog) (w:=w) (base:=base) B Dzz
 have Gzu:=jgb (P:=l.prog) (w:=w) (base:=base) B Dzu Dqd Gqd
 have Gqw:=jjc (P:=l.prog) (w:=w) (base:=base) B Dqw Dqc Gqc Dzu Gzu Dq0 Gq0
 have Gqs:=jgh (P:=l.prog) (w:=w) (base:=base) B Dqs Dqc Gqc Dq2 Gq2 Dqw Gqw Dqo Gqo Dzz Gzz
 have Gzt:=jiz (P:=l.prog) (w:=w) (base:=base) B Dzt
 have Gqz:=jja (P:=l.prog) (w:=w) (base:=base) B Dqz
 have Gqv:=jhu (P:=l.prog) (w:=w) (base:=base) B Dqv Dqc Gqc Dqz Gqz Dzt Gzt
 have Gqr:=js6 (P:=l.prog) (w:=w) (base:=base) B Dqr Dzn Gzn Dqs Gqs Dzp Gzp Dqv Gqv
 have Gq6:=jj6 (P:=l.prog) (w:=w) (base:=base) B Dq6
 have Gqa:=jkh (P:=l.prog) (w:=w) (base:=base) B Dqa
 have Gql:=jhr (P:=l.prog) (w:=w) (base:=base) B Dql Dqa Gqa
 have Gzi:=jmq (P:=l.prog) (w:=w) (base:=base) B Dzi Dqa Gqa Dql Gql
 have Gq7:=jko (P:=l.prog) (w:=w) (base:=base) B Dq7 Dqa Gqa
 have Gzh:=jge (P:=l.prog) (w:=w) (base:=base) B Dzh Dqa Gqa
 have Gzd:=jj5 (P:=l.prog) (w:=w) (base:=base) B Dzd Dqa Gqa Dzi Gzi Dzh Gzh Dq7 Gq7
 have Gqp:=jmr (P:=l.prog) (w:=w) (base:=base) B Dqp
 have Gq9:=jkn (P:=l.prog) (w:=w) (base:=base) B Dq9 Dqa Gqa
 have Gze:=jki (P:=l.prog) (w:=w) (base:=base) B Dze Dqa Gqa Dql Gql Dq9 Gq9 Dqp Gqp
 have Gqm:=jhp (P:=l.prog) (w:=w) (base:=base) B Dqm
 have Gqb:=jkk (P:=l.prog) (w:=w) (base:=base) B Dqb
 have Gzc:=jkj (P:=l.prog) (w:=w) (base:=base) B Dzc Dqb Gqb
 have Gza:=jkm (P:=l.prog) (w:=w) (base:=base) B Dza Dqm Gqm Dqb Gqb Dzc Gzc
 have Gq5:=jmt (P:=l.prog) (w:=w) (base:=base) B Dq5 Dqb Gqb Dza Gza
 have Gqe:=jkl (P:=l.prog) (w:=w) (base:=base) B Dqe
 have Gqg:=jhq (P:=l.prog) (w:=w) (base:=base) B Dqg
 have Gzb:=jhs (P:=l.prog) (w:=w) (base:=base) B Dzb Dqb Gqb Dqe Gqe Dqg Gqg
 have Gq4:=jj7 (P:=l.prog) (w:=w) (base:=base) B Dq4 Dqm Gqm Dqb Gqb Dqe Gqe Dqg Gqg Dzb Gzb
 have Gzg:=jfw (P:=l.prog) (w:=w) (base:=base) B Dzg Dqa Gqa
 have Gq8:=jms (P:=l.prog) (w:=w) (base:=base) B Dq8 Dqb Gqb
 have Gzf:=jj4 (P:=l.prog) (w:=w) (base:=base) B Dzf Dq5 Gq5 Dqa Gqa
 exact ok_law B Dz1 Dq6 Gq6 Dqa Gqa Dze Gze Dzd Gzd Dzf Gzf Dq4 Gq4 Dzg Gzg Dq8 Gq8 Dqr Gqr
theorem walk {l:PySem.W.OpenLaw} {q:Program} {loose:List Str} {XP:(Str->Option Value)->Heap->Prop} {YP:World->Heap->Prop} {d:DefRec} {K:Params->PySem.W.Frag} (hn:l.most = some 63) (hdf:d.params.defaults = [])
  (hY:∀ (w:World) (h:Heap),YP w h->(K w.params).In h)
  (F:∀ (w:World) (mg:Str->Option Value) (fa:Addr) (h:Heap),(K w.params).In h->h.Ns mainGlobals mg->mg d.name = some (.ref fa) ->
   ∃ fd:FuncData,(∀ (s:Shared) (u:Value),BindsTo s fd ⟨[u],[]⟩ [("_law_script",u)])/\∀ base:Heap,(K w.params).In base->base.Ns mainGlobals mg->FnOk l.prog w (K w.params) mg base CX0 11 fa fd ["_law_script"] (jq2 (K w.params))) :
  PySem.W.WalkO q loose XP YP l.row.toRowW d [] (fun f vs=>PySem.call f vs) :=
 L2.jnb (n:=63) (k:=11) (x:="_law_script") (CX:=fun _=>CX0) (sp:=fun w=>jq2 (K w.params)) hn (by decide) hdf ⟨rfl,by decide,by decide,rfl⟩ hY F (fun _ _ a ns hl hO hS=>⟨a,ns,rfl,Scr.of hS hO,fun _=>rfl⟩) fun _ _ _ _ _ z=>z
end My
open PySem PySem.W PyProof.Rows
set_option maxRecDepth 100000 in
set_option maxHeartbeats 0 in
theorem PySem.Challenge.cw_touchall_k41_sets_go_back_holds : PySem.Challenge.rw_touchall_k41_sets_go_back.Holds := by
 refine MyHead ?_
 k_fill
 refine My.walk (l:=PySem.Challenge.rw_touchall_k41_sets_go_back) rfl rfl (fun w h Y=>PySem.W.kIn_of Y) ?F
 case F =>
  intro w mg fa h KX G hmg
  refine' My.all_mk KX G hmg ?_ ?_ ?_ ?_ ?_ ?_ ?_ ?_ ?_ ?_ ?_ ?_ ?_ ?_ ?_ ?_ ?_ ?_ ?_ ?_ ?_ ?_ ?_ ?_ ?_ ?_ ?_ ?_ ?_ ?_ ?_ ?_ ?_ ?_ ?_ ?_ ?_ ?_ ?_ ?_ ?_ ?_ ?_ ?_ ?_ ?_ ?_ ?_ ?_ ?_ ?_ ?_ ?_ ?_ ?_ ?_ ?_ ?_ ?_ ?_ ?_ ?_ ?_ ?_ ?_ ?_ ?_ ?_ ?_ ?_ ?_ ?_ ?_ ?_ ?_ ?_ ?_ ?_ ?_ ?_ ?_ ?_ ?_ ?_ ?_ ?_ ?_ ?_ ?_ ?_ ?_ ?_ ?_ ?_ ?_ ?_ ?_ ?_ ?_ ?_ ?_ ?_ ?_ ?_ ?_ ?_ ?_ ?_ ?_ ?_ ?_ ?_ ?_ ?_ ?_ ?_ ?_ ?_ ?_ ?_ ?_ ?_ ?_ ?_ ?_ ?_ ?_ ?_ ?_ ?_ ?_ ?_ ?_ ?_ ?_ ?_ ?_ ?_ ?_ ?_ ?_ ?_ ?_ ?_ ?_ ?_ ?_ ?_ ?_ ?_ ?_ ?_ ?_ ?_ ?_ ?_ ?_ ?_ ?_ ?_ ?_ ?_ ?_ ?_ ?_ ?_ ?_ ?_ ?_ ?_ ?_ ?_ ?_ ?_ ?_ ?_ ?_ ?_ ?_ ?_ ?_ ?_ ?_ ?_ ?_ ?_ ?_ ?_ ?_ ?_ ?_ ?_ ?_ ?_ ?_ ?_ ?_ ?_ ?_ ?_ ?_ ?_ ?_ ?_ ?_ ?_ ?_ ?_ ?_ ?_ ?_ ?_ ?_ ?_ ?_ ?_ ?_ ?_ ?_ ?_ ?_ ?_ ?_ ?_ ?_ ?_ ?_ ?_ ?_ ?_ ?_ ?_ ?_ ?_ ?_ ?_ ?_ ?_ ?_ ?_ ?_ ?_ ?_ ?_ ?_ ?_ ?_ ?_ ?_ ?_ ?_ ?_ ?_ ?_ ?_ ?_ ?_ ?_ ?_ ?_ ?_ ?_ ?_ ?_ ?_ ?_ ?_ ?_ ?_ ?_
  any_goals first | k_is | (delta My.aT; k_is) | (delta My.lT; k_is) | (delta My.cT; k_is) | (delta My.kT; k_is) | (delta My.zT; k_is) | kernel_rfl | rfl
#print axioms PySem.Challenge.cw_touchall_k41_sets_go_back_holds
