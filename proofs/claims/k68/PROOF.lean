import PyProof.Rows.All
import Wide.All
import OpenK.AllK
import Wide.FinOn
import Lean
import PyProof.EqAt
import PyProof.EqKinds
import PyProof.TupleCall
import PyProof.NeKinds
import PyProof.NeData
import PySem.Challenge.RW_touchall_k68_all_cheapest_listed
import PyProof.Rows.SortRuns
import PyProof.Rows.SortShell
import KE.KSortTup
import PyProof.Rows.SumAny
import PyProof.DictWalks
import PyProof.DictUpdate
import KE.KDictList
import PyProof.AutoSeq1
import PyProof.StationsW
import PyProof.ExcInit
import PyProof.InstStoreFacts
import PyProof.NsDelKeeps
import PyProof.RulesAs
import PyProof.ExcAttrAll.ValueError
import KE.KIsAll
section
open PySem PySem.W PyProof.Rows
set_option Elab.async false
set_option maxRecDepth 100000
set_option maxHeartbeats 0
namespace PySem.W.Fast
def tw17466442663117526080:=0
def tw12453367155401658144:=0
def tw2159119821719427904:=0
def tw15532309387576204033:=0
def tw14003624851733227555:=0
def tw15653633978426420516:=0
def tw15825925762956422596:=0
def tw1858690375550146053:=0
def tw13496944402150345576:=0
def tw8231419126862576778:=0
def tw16833496319421343370:=0
def tw4703168091081038538:=0
def tw14739457178586872043:=0
def tw10706823588308158572:=0
def tw14781562103584300300:=0
def tw15115611200341931661:=0
def tw4936925503692193262:=0
def tw10059015589193298992:=0
def tw16415575197111496048:=0
def tw16599119404929089777:=0
def tw280475905095942100:=0
def tw9538555604096107638:=0
def tw17883986908372840214:=0
def tw9627907853633374296:=0
def tw5176045635511778904:=0
def tw3532348617687762170:=0
def tw6056037136498861503:=0
def tw70276811403584750:=0
def tw9681200975112078774:=0
def tw1737246431181032404:=0
def tw13685720977465617265:=0
def tw1316074485764608157:=0
def tw3898517711134442070:=0
def tw15857502192387367969:=0
def tw6376167675725413591:=0
def tw10525292513683483856:=0
def tw2512024136958751727:=0
def tw18442223865690583646:=0
def tw4673817054520041322:=0
def tw6941360264914264350:=0
def tw5875658566950336651:=0
def tw760989484626043395:=0
def tw4475783039337762679:=0
def tw6519328337491754423:=0
def tw3486982314713671077:=0
def tw17746213073180106855:=0
def tw1091965374379183110:=0
def tw2226409028757608052:=0
def tw581349142403053212:=0
def tw7624242104556474799:=0
def tw13149991164589372472:=0
def tw17507916543043632276:=0
def tw12316767630284491118:=0
def tw1997146288437303143:=0
def tw12485154272163604117:=0
def tw14126711560844903301:=0
def tw10013146292578147414:=0
def tw577511202878901248:=0
def tw12575522010223430397:=0
def tw6767992148904401710:=0
def tw7778351183166847979:=0
def tw12891034086693011851:=0
def tw7920918034698477316:=0
def tw6799717253033202974:=0
def tw1895321614831293481:=0
def tw3173564464523249195:=0
def tw5799083521025948683:=0
def tw1918055074506891545:=0
def tw9889466166480676946:=0
def tw11033941645859556090:=0
def tw8515696569937148607:=0
def tw16556699998316864137:=0
def tw2651795019890988695:=0
def tw12318616130052019632:=0
def tw13329394933971460430:=0
def tw13808704403035830490:=0
def tw4201631821231720520:=0
def tw6894150892059932758:=0
def tw14003406518076274850:=0
def tw9126420540817064729:=0
def tw3202980715671287772:=0
def tw16820706419618605093:=0
def tw11356725666335218339:=0
def tw17267946316602242962:=0
def tw12964706684179383832:=0
def tw979620047834340929:=0
def tw974156796107087720:=0
def tw4806713800931563128:=0
def tw12691963235023780960:=0
def tw5954876327221452193:=0
def tw5022786933995038812:=0
def tw4968051335381740535:=0
def tw3098120796785755855:=0
def tw13651674943635200488:=0
def tw3800031167238124430:=0
def tw6512687985697625712:=0
def tw3902602399963370953:=0
def tw850951039455432525:=0
def tw10201828110927262002:=0
def tw11471597116747857881:=0
def tw18406394319825488089:=0
def tw12161247644915218626:=0
def tw13242178929776231284:=0
def tw3778727204222080899:=0
def tw2724078706041113679:=0
def tw13277132962383359998:=0
def tw11824123218254500343:=0
def tw7003519226956061694:=0
def tw10700271039751537509:=0
def tw12933365590964484303:=0
def tw8763891767021397862:=0
def tw1118109838406661019:=0
def tw73319614458739980:=0
def tw2418372970533406711:=0
def tw2198618278216875009:=0
def tw13151865297690540629:=0
def tw4463166748007049108:=0
def tw8950122196792752529:=0
def tw17899455434026235383:=0
def tw11959568091775926953:=0
def tw8621388438937737624:=0
def tw12203803291387290520:=0
def tw1349672064394165113:=0
def tw2602146445750235360:=0
def tw12132980992469370520:=0
def tw4833422015602957473:=0
def tw5101450760185418553:=0
def tw9748736633980905991:=0
def tw7547061875069642281:=0
def tw3768600909522892029:=0
def tw8513872578731894556:=0
def tw7302255707742330111:=0
def tw16215111772012673247:=0
def tw8656658807441475152:=0
def tw7256320092020649421:=0
def tw12075151322258804447:=0
def tw13478289464576461938:=0
def tw7049479801314898729:=0
def tw1946033789281374818:=0
def tw6360256080385430035:=0
def tw4050195896515264206:=0
def tw2964791611958249955:=0
def tw13777678184960627923:=0
def tw16796720730094985939:=0
def tw5334054416050327835:=0
def tw5741868628440793479:=0
def tw6639290469552472542:=0
def tw8549602738571025238:=0
def tw16791619873351760374:=0
def tw6822298609184292527:=0
def tw6590878139351659348:=0
def tw3436040953348231904:=0
def tw4014273260406839204:=0
def tw12743296696899658274:=0
def tw5729776457698541901:=0
def tw10092061177874551457:=0
def tw5628239392963815495:=0
def tw4236509271967091553:=0
def tw1349069014647357223:=0
def tw12343798008286848705:=0
def tw17953295521274581375:=0
def tw9297663727785247985:=0
def tw4138906688310454386:=0
def tw4099536522057323857:=0
def tw2204380585850004632:=0
def tw15514634696500728796:=0
def tw18438347639502009901:=0
def tw8871029021759738552:=0
def tw9000492280638625789:=0
def tw10606784113705308633:=0
def tw15693294657385995021:=0
def tw5755817227132875237:=0
def tw1092231837839737871:=0
def tw530684274474814442:=0
def tw1459643596898847606:=0
def tw8112447074107057508:=0
def tw2374692894874826008:=0
def tw16086166043349708051:=0
def tw11247763399507659385:=0
def tw6362411546396139974:=0
def tw9619610745294895768:=0
def tw741491041883484307:=0
def tw7232841066116858783:=0
def tw6494762443452080514:=0
def tw2932883342372343814:=0
def tw18111414595329612538:=0
def tw17135590481203170121:=0
def tw12306747795182409104:=0
def tw12021910400016799448:=0
def tw10510421878787067241:=0
def tw4040663737483218468:=0
def tw12992367483169920845:=0
def tw17040265546129833713:=0
def tw9016929935483840578:=0
def tw5103485604028916769:=0
def tw142088678007582525:=0
def tw5099301408519554050:=0
def tw11906391868283360964:=0
def tw14248016213943530440:=0
def tw12084875070278405943:=0
def tw7388612275661505989:=0
def tw6014219777646665041:=0
def tw14566061343962206368:=0
def tw5017822626531976574:=0
def tw13058793742947418118:=0
def tw13189186031560189405:=0
def tw13137356214971139692:=0
def tw17658068361143100475:=0
def tw14483856630567087015:=0
def tw14229602632353992099:=0
def tw12855419698269193786:=0
def tw11930511757121121756:=0
def tw10073281139201949855:=0
def tw6356490350672987232:=0
def tw9578137325174995177:=0
def tw9360046480592557864:=0
def tw7182748549700119884:=0
def tw16595222665725666158:=0
def tw1104458783644820503:=0
def tw13281483970742848924:=0
def tw17784476363750532300:=0
def tw13810174693335883931:=0
def tw14046072485561619853:=0
def tw15118457964073289629:=0
def tw5729796969671028974:=0
def tw16324814204724335033:=0
def tw14079483211463739728:=0
def tw7862102932997402818:=0
def tw5193228197388695436:=0
def tw9307431955463701274:=0
def tw5774174942400694725:=0
def tw8706593751649875096:=0
def tw11674071771355242830:=0
def tw11550877504187698619:=0
def tw13990930123094078712:=0
def tw2994093840504715005:=0
def tw12838189731587688999:=0
def tw9762787882097571856:=0
def tw6834151149484527781:=0
def tw6730875953044847916:=0
def tw2766017732037652418:=0
def tw2269460933442521542:=0
def tw16962657549081138568:=0
def tw5860442181038395455:=0
def tw14527855219218812963:=0
def tw17481501184410151347:=0
def tw7274126500948458556:=0
def tw18065466543452598238:=0
def tw8682437142321256184:=0
def tw11182244786485069041:=0
def tw2223659537357957670:=0
def tw10792147902805684486:=0
def tw8268261425892872904:=0
def tw13165309558172459987:=0
def tw13569509383360899128:=0
def tw10245680170958307654:=0
def tw17617909281238425753:=0
def tw6846886145866863381:=0
def tw5300736341620111946:=0
def tw4197135564957649545:=0
def tw5648131811466563170:=0
def tw16435145116260540403:=0
def tw990867878896235716:=0
def tw5996640756864297579:=0
def tw4871235832867041519:=0
def tw14647584736299735658:=0
def tw10335151410886579110:=0
def tw3608832781865509178:=0
end PySem.W.Fast
open_top MyHead for PySem.Challenge.rw_touchall_k68_all_cheapest_listed
end
-- CHANGE: your row's module here, as the last of these rows
set_option Elab.async false
set_option linter.all false
set_option maxRecDepth 100000
namespace L2
open PySem PySem.Spec PyProof.Rows
noncomputable abbrev Key:=Sum Int Str
noncomputable def jie : Key→Value→Bool
 | .inl k,v=>Value.isInt k v
 | .inr x,v=>Value.isStrOf x v
noncomputable def keyH (w : World) : Key→Int
 | .inl k=>hashInt k
 | .inr x=>hashStr w x
theorem jb0 : ∀ {k : Key} {v : Value},jie k v = true→(∃ i t,k = Sum.inl i∧v = Value.int i t) ∨ (∃ x t,k = Sum.inr x∧v = Value.str x t)
 | .inl i,v,h=>by
  obtain ⟨t,e⟩:=Value.isInt_shape (k:=i) (v:=v) h
  exact .inl ⟨i,t,rfl,e⟩
 | .inr x,v,h=>by
  obtain ⟨t,e⟩:=Value.isStrOf_shape (x:=x) (v:=v) h
  exact .inr ⟨x,t,rfl,e⟩
theorem jmk (i : Int) (t : Tok) : jie (.inl i) (.int i t) = true:=by simp [jie,Value.isInt]
theorem jmj (x : Str) (t : Tok) : jie (.inr x) (.str x t) = true:=by simp [jie,Value.isStrOf]
theorem key_ll (a b : Int) : decide ((Sum.inl a : Key) = Sum.inl b) = (a == b):=by
 by_cases e : a = b
 ·subst e; simp
 ·have h : ¬ (Sum.inl a : Key) = Sum.inl b:=fun q=>e (Sum.inl.inj q)
  rw [decide_eq_false h]
  exact (beq_eq_false_iff_ne.mpr e).symm
theorem key_rr (a b : Str) : decide ((Sum.inr a : Key) = Sum.inr b) = decide (a = b):=by
 by_cases e : a = b
 ·subst e; simp
 ·have h : ¬ (Sum.inr a : Key) = Sum.inr b:=fun q=>e (Sum.inr.inj q)
  rw [decide_eq_false h,decide_eq_false e]
theorem key_lr (a : Int) (b : Str) : decide ((Sum.inl a : Key) = Sum.inr b) = false:=decide_eq_false (fun q=>nomatch q)
theorem key_rl (a : Str) (b : Int) : decide ((Sum.inr a : Key) = Sum.inl b) = false:=decide_eq_false (fun q=>nomatch q)
noncomputable def jbh (prog : Program) (w : World) : PySem.KeyKind prog w Key where
 is:=jie
 hash:=keyH w
 inj:=fun v a b ha hb=>by
  rcases jb0 ha with ⟨i,t,rfl,rfl⟩ | ⟨x,t,rfl,rfl⟩
  ·rcases jb0 hb with ⟨j,u,rfl,e⟩ | ⟨y,u,rfl,e⟩
   ·injection e with e1 _; rw [e1]
   ·exact nomatch e
  ·rcases jb0 hb with ⟨j,u,rfl,e⟩ | ⟨y,u,rfl,e⟩
   ·exact nomatch e
   ·injection e with e1 _; rw [e1]
 byValue:=fun k v h=>by
  rcases jb0 h with ⟨i,t,rfl,rfl⟩ | ⟨x,t,rfl,rfl⟩ <;> rfl
 pyHash:=fun hv h=>by
  rcases jb0 hv with ⟨i,t,rfl,rfl⟩ | ⟨x,t,rfl,rfl⟩
  ·exact wpAny_pyHash_int h
  ·exact wpAny_pyHash_str h
 eqBool:=fun hu hv h=>by
  rcases jb0 hu with ⟨i,t,rfl,rfl⟩ | ⟨x,t,rfl,rfl⟩
  ·rcases jb0 hv with ⟨j,u,rfl,rfl⟩ | ⟨y,u,rfl,rfl⟩
   ·rw [key_ll] at h; exact wpAny_eqBool_int h
   ·rw [key_lr] at h; exact SeqAt.EqAt.int_str i t y u _ _ _ _ h
  ·rcases jb0 hv with ⟨j,u,rfl,rfl⟩ | ⟨y,u,rfl,rfl⟩
   ·rw [key_rl] at h; exact SeqAt.EqAt.str_int x t j u _ _ _ _ h
   ·rw [key_rr] at h; exact wpAny_eqBool_str h
 «strs»:=fun k x t v h=>by
  rcases jb0 h with ⟨i,u,rfl,e⟩ | ⟨y,u,rfl,e⟩
  ·exact nomatch e
  ·injection e with e1 _
   subst e1
   cases v <;> rfl
theorem ji9 (prog : Program) (w : World) (i : Int) (t : Tok) : (jbh prog w).is (.inl i) (.int i t) = true:=jmk i t
theorem ji8 (prog : Program) (w : World) (x : Str) (t : Tok) : (jbh prog w).is (.inr x) (.str x t) = true:=jmj x t
end L2
namespace L2
open PySem PySem.Spec PyProof.Rows
inductive V where
 | non | bl (b : Bool) | int (i : Int) | str (x : Str) | byt (b : Array UInt8) | flt (b : UInt64) | ref (a : Addr) | ty (n : String)
 deriving DecidableEq
noncomputable def RelV : V→Value→Prop
 | .non,u=>u = Value.none
 | .bl b,u=>u = Value.bool b
 | .int i,u=>∃ t,u = Value.int i t
 | .str x,u=>∃ t,u = Value.str x t
 | .byt b,u=>∃ t,u = Value.bytes b t
 | .flt b,u=>∃ t,u = Value.float b t
 | .ref a,u=>u = Value.ref a
 | .ty n,u=>u = Value.type n
noncomputable abbrev Vals : List V→List Value→Prop:=Paired RelV
theorem Vals.length {xs : List V} {us : List Value} (r : Vals xs us) : xs.length = us.length:=Paired.length r
theorem Vals.get : ∀ {xs : List V} {us : List Value} {i : Nat} {x : V},Vals xs us→xs[i]? = some x→∃ u,us[i]? = some u∧RelV x u
 | _,_,_,_,.nil,e=>by simp at e
 | _,_,0,_,.cons r _,e=>by simp at e; subst e; exact ⟨_,rfl,r⟩
 | _,_,i + 1,x,.cons _ t,e=>by
  obtain ⟨u,h1,h2⟩:=Vals.get (i:=i) (x:=x) t (by simpa using e)
  exact ⟨u,by simpa using h1,h2⟩
theorem Vals.set {x : V} {u : Value} (r : RelV x u) : ∀ {xs : List V} {us : List Value} (i : Nat),Vals xs us→Vals (xs.set i x) (us.set i u)
 | _,_,_,.nil=>.nil
 | _,_,0,.cons _ t=>.cons r t
 | _,_,i + 1,.cons q t=>.cons q (Vals.set r i t)
theorem Vals.append : ∀ {xs ys : List V} {us ws : List Value},Vals xs us→Vals ys ws→Vals (xs ++ ys) (us ++ ws)
 | _,_,_,_,.nil,s=>s
 | _,_,_,_,.cons r t,s=>.cons r (Vals.append t s)
theorem Vals.take : ∀ {xs : List V} {us : List Value} (n : Nat),Vals xs us→Vals (xs.take n) (us.take n)
 | _,_,0,_=>.nil
 | _,_,_ + 1,.nil=>.nil
 | _,_,n + 1,.cons r t=>.cons r (Vals.take n t)
theorem Vals.drop : ∀ {xs : List V} {us : List Value} (n : Nat),Vals xs us→Vals (xs.drop n) (us.drop n)
 | _,_,0,r=>r
 | _,_,_ + 1,.nil=>.nil
 | _,_,n + 1,.cons _ t=>Vals.drop n t
noncomputable def RelO : Option V→Option Value→Prop
 | some v,some u=>RelV v u
 | none,none=>True
 | _,_=>False
noncomputable def KV {κ : Type} : List (κ × V)→List (κ × Value)→Prop:=Paired fun (p : κ × V) (q : κ × Value)=>p.1 = q.1∧RelV p.2 q.2
noncomputable def kV : Key→V
 | .inl i=>.int i
 | .inr x=>.str x
inductive HO where
 | lst (xs : List V)
 | tup (xs : List V)
 | dK (kvs : List (Key × V)) | dT (kvs : List (List Key × V))
 | set (S : Int→Bool) (n : Nat)
 | ins (C dx : Addr) (fs : List (Str × V))
 | own (x : Addr)
 | xd (fs : List (Str × V))
 | met (f x : Addr)
 | rng (lo hi : Int)
 | frz (o : Obj) (u : HO)
 | tbl (ps : Array Value)
 | ext (φ : Heap→Prop)
noncomputable abbrev Hp:=Addr→Option HO
noncomputable def upd (H : Hp) (a : Addr) (o : HO) : Hp:=fun b=>if b = a then some o else H b
theorem ja1 {H : Hp} {a : Addr} {o : HO} : upd H a o a = some o:=by unfold upd; rw [if_pos rfl]
theorem ja8 {H : Hp} {a b : Addr} {o : HO} (h : b ≠ a) : upd H a o b = H b:=by unfold upd; rw [if_neg h]
theorem jhq {H : Hp} {a : Addr} {o u : HO} : upd (upd H a o) a u = upd H a u:=by
 funext b; unfold upd; split <;> rfl
theorem ne_of {H : Hp} {a b : Addr} {o u : HO} (h : H a = some o) (h' : H b = some u) (d : o ≠ u) : a ≠ b:=by
 intro e; subst e; rw [h] at h'; exact d (Option.some.inj h')
theorem ja9 {H : Hp} {a b : Addr} {o : HO} (h : H a = some o) (h' : H b = none) : a ≠ b:=by
 intro e; subst e; rw [h] at h'; cases h'
section
variable (P : Program) (w : World)
noncomputable def jb8 (H : Hp) (h : Heap) (a : Addr) : HO→Prop
 | .lst xs=>xs.length ≤ sizeLine∧∃ (its : List Value) (n : Nat),Vals xs its∧h.get? a = some { cls:=.type "list",data:=.seq its.toArray n }
 | .tup xs=>xs.length ≤ sizeLine∧∃ its : List Value,Vals xs its∧IsTup h a its.toArray
 | .dK kvs=>kvs.length ≤ sizeLine∧(a == sysModules) = false∧∃ vs,KV kvs vs∧h.DictOf (jbh P w) a vs
 | .dT kvs=>kvs.length ≤ sizeLine∧(a == sysModules) = false∧∃ xs : List (List Key × Addr × Value),
   Paired (fun (p : List Key × V) (q : List Key × Addr × Value)=>p.1 = q.1∧H q.2.1 = some (.tup (p.1.map kV))∧RelV p.2 q.2.2) kvs xs ∧
   ∃ o es ep,h.get? a = some o∧o.ExactDict∧o.data = .dict es ep∧es.toList = xs.map (entryOfKey (tupleKind (jbh P w)))∧(xs.map (·.1)).Nodup
 | .set S n=>h.SetOf (intKind P w) a S n
 | .ins C dx fs=>H dx = some (.own a)∧fs.length ≤ 1000∧dx ≠ a∧h.get? a = some (PySem.W.instObj C dx) ∧
   ∃ mA,h.Ns1 dx mA∧(∀ f,RelO (fs.lookup f) (mA f))∧PySem.Within mA (fs.map (·.1))
 | .own _=>∃ o,h.get? a = some o
 | .xd fs=>∃ mA,h.Ns1 a mA∧∀ f,RelO (fs.lookup f) (mA f)
 | .rng lo hi=>∃ t u v,h.get? a = some { cls:=.type "range",data:=.fields #[.int lo t,.int hi u,.int 1 v] }
 | .frz o u=>h.get? a = some o∧jb8 H h a u
 | .tbl ps=>h.get? a = some { cls:=.none,data:=.fields ps }
 | .met f x=>h.get? a = some (PySem.W.methodObj (.ref f) (.ref x))
 | .ext φ=>φ h∧(∃ o,h.get? a = some o)∧∀ h1 h2 : Heap,φ h1→(∀ o,h1.get? a = some o→h2.get? a = some o)→φ h2
noncomputable def HOk (H : Hp) (h : Heap) : Prop:=∀ a o,H a = some o→jb8 P w H h a o
end
section
variable {P : Program} {w : World} {H H' : Hp} {h h' : Heap} {a : Addr} {o : HO}
theorem jb8.lt (x : jb8 P w H h a o) : a < h.objs.size:=by
 cases o with
 | lst xs=>obtain ⟨_,_,_,_,e⟩:=x; exact Heap.lt_size e
 | tup xs=>obtain ⟨_,_,_,p⟩:=x; exact p.lt
 | dK kvs=>obtain ⟨_,_,_,_,o,_,_,e,_⟩:=x; exact Heap.lt_size e
 | dT kvs=>obtain ⟨_,_,_,_,o,_,_,e,_⟩:=x; exact Heap.lt_size e
 | set S n=>obtain ⟨o,_,_,_,e,_⟩:=x; exact Heap.lt_size e
 | ins C dx fs=>obtain ⟨_,_,_,e,_⟩:=x; exact Heap.lt_size e
 | own y=>obtain ⟨_,e⟩:=x; exact Heap.lt_size e
 | xd fs=>obtain ⟨_,⟨_,_,_,e,_⟩,_⟩:=x; exact Heap.lt_size e
 | rng lo hi=>obtain ⟨_,_,_,e⟩:=x; exact Heap.lt_size e
 | frz ob u=>obtain ⟨e,_⟩:=x; exact Heap.lt_size e
 | tbl ps=>exact Heap.lt_size (show h.get? a = some _ from x)
 | met f y=>exact Heap.lt_size (show h.get? a = some _ from x)
 | ext φ=>obtain ⟨_,⟨_,e⟩,_⟩:=x; exact Heap.lt_size e
theorem Paired.mapP {α β : Type} {F G : α→β→Prop} : ∀ {l₁ : List α} {l₂ : List β},Paired F l₁ l₂→(∀ a b,F a b→G a b)→Paired G l₁ l₂
 | _,_,.nil,_=>.nil
 | _,_,.cons r t,f=>.cons (f _ _ r) (Paired.mapP t f)
theorem jb8.stay (x : jb8 P w H h a o) (k : ∀ b u,(b = a ∨ H b = some (.own a))→h.get? b = some u→h'.get? b = some u)
  (ho : ∀ b,H b = some (.own a)→H' b = some (.own a)) (ht : ∀ b xs,H b = some (.tup xs)→H' b = some (.tup xs)) : jb8 P w H' h' a o:=by
 induction o with
 | lst xs=>obtain ⟨z,its,n,r,e⟩:=x; exact ⟨z,its,n,r,k _ _ (.inl rfl) e⟩
 | tup xs=>obtain ⟨z,its,r,ob,e,c⟩:=x; exact ⟨z,its,r,ob,k _ _ (.inl rfl) e,c⟩
 | dK kvs=>obtain ⟨z,y,vs,r,ob,es,ep,e,c⟩:=x; exact ⟨z,y,vs,r,ob,es,ep,k _ _ (.inl rfl) e,c⟩
 | dT kvs =>
  obtain ⟨z,y,xs,r,ob,es,ep,e,c⟩:=x
  exact ⟨z,y,xs,Paired.mapP r fun p q z=>⟨z.1,ht _ _ z.2.1,z.2.2⟩,ob,es,ep,k _ _ (.inl rfl) e,c⟩
 | set S n=>obtain ⟨ob,es,ep,t,e,c⟩:=x; exact ⟨ob,es,ep,t,k _ _ (.inl rfl) e,c⟩
 | ins C dx fs =>
  obtain ⟨d,z,ne,e,mA,⟨od,es,ep,e2,c⟩,r⟩:=x
  exact ⟨ho _ d,z,ne,k _ _ (.inl rfl) e,mA,⟨od,es,ep,k _ _ (.inr d) e2,c⟩,r⟩
 | own y=>obtain ⟨ob,e⟩:=x; exact ⟨ob,k _ _ (.inl rfl) e⟩
 | xd fs=>obtain ⟨mA,⟨od,es,ep,e,c⟩,r⟩:=x; exact ⟨mA,⟨od,es,ep,k _ _ (.inl rfl) e,c⟩,r⟩
 | rng lo hi=>obtain ⟨t,u,v,e⟩:=x; exact ⟨t,u,v,k _ _ (.inl rfl) e⟩
 | frz ob u ih=>obtain ⟨e,q⟩:=x; exact ⟨k _ _ (.inl rfl) e,ih q⟩
 | tbl ps =>
  have e : h.get? a = some { cls:=.none,data:=.fields ps }:=x
  show h'.get? a = some { cls:=.none,data:=.fields ps }
  exact k a _ (.inl rfl) e
 | met f y =>
  have e : h.get? a = some (PySem.W.methodObj (.ref f) (.ref y)):=x
  show h'.get? a = some (PySem.W.methodObj (.ref f) (.ref y))
  exact k a _ (.inl rfl) e
 | ext φ=>obtain ⟨p,⟨o,e⟩,st⟩:=x; exact ⟨st _ _ p fun o q=>k _ _ (.inl rfl) q,⟨o,k _ _ (.inl rfl) e⟩,st⟩
theorem HOk.lt (x : HOk P w H h) (e : H a = some o) : a < h.objs.size:=(x a o e).lt
theorem HOk.fresh (x : HOk P w H h) (e : h.objs.size ≤ a) : H a = none:=by
 cases q : H a with
 | none=>rfl
 | some u=>exact absurd (Nat.lt_of_lt_of_le (x.lt q) e) (Nat.lt_irrefl _)
theorem HOk.kept (x : HOk P w H h) (k : ∀ b u,h.get? b = some u→h'.get? b = some u) : HOk P w H h':=fun a o e =>
 (x a o e).stay (fun b u _ q=>k b u q) (fun _ q=>q) fun _ _ q=>q
theorem HOk.laid (x : HOk P w H h) (k : ∀ b u,h.get? b = some u→h'.get? b = some u) (hp : h.objs.size ≤ a) (new : jb8 P w (upd H a o) h' a o) : HOk P w (upd H a o) h':=fun b u e=>by
 have hn:=x.fresh hp
 by_cases hb : b = a
 ·subst hb; rw [ja1] at e; cases e; exact new
 ·rw [ja8 hb] at e
  exact (x b u e).stay (fun c v _ q=>k c v q) (fun c q=>by rw [ja8 (ja9 q hn)]; exact q) fun c xs q=>by rw [ja8 (ja9 q hn)]; exact q
end
noncomputable def Rd (H : Hp) (a : Addr) (u : HO) : Prop:=H a = some u ∨ ∃ o,H a = some (.frz o u)
theorem Rd.of {H : Hp} {a : Addr} {u : HO} (h : H a = some u) : Rd H a u:=.inl h
theorem Rd.ok {P : Program} {w : World} {H : Hp} {h : Heap} {a : Addr} {u : HO} (r : Rd H a u) (x : HOk P w H h) : jb8 P w H h a u:=by
 rcases r with r | ⟨o,r⟩
 ·exact x a u r
 ·obtain ⟨_,q⟩:=x a _ r
  exact q
noncomputable def Mut : Option HO→Prop
 | some (.lst _)=>True
 | some (.dK _)=>True
 | some (.dT _)=>True
 | some (.set _ _)=>True
 | some (.ins _ _ _)=>True
 | some (.ext _)=>True
 | _=>False
section
variable {P : Program} {w : World} {H : Hp} {h h' : Heap} {x e : Addr} {o' : HO}
theorem HOk.write (ok : HOk P w H h) (mu : Mut (H x)) (he : e = x ∨ H e = some (.own x)) (k : ∀ b u,b ≠ e→h.get? b = some u→h'.get? b = some u) (heo : ∃ u,h'.get? e = some u)
  (new : jb8 P w (upd H x o') h' x o') : HOk P w (upd H x o') h':=fun b u q=>by
 have nown : ∀ c y,H c = some (.own y)→c ≠ x:=fun c y r z=>by subst z; rw [r] at mu; exact mu
 have ntup : ∀ c xs,H c = some (.tup xs)→c ≠ x:=fun c xs r z=>by subst z; rw [r] at mu; exact mu
 by_cases hb : b = x
 ·subst hb; rw [ja1] at q; cases q; exact new
 ·rw [ja8 hb] at q
  by_cases hbe : b = e
  ·have q' : H b = some (.own x):=by
    rcases he with z | z
    ·exact absurd (hbe.trans z) hb
    ·rw [hbe]; exact z
   rw [q] at q'; cases q'
   obtain ⟨v,hv⟩:=heo
   exact ⟨v,by rw [hbe]; exact hv⟩
  ·refine (ok b u q).stay (fun c v hc r=>k c v ?_ r) (fun c r=>by rw [ja8 (nown c b r)]; exact r) fun c xs r=>by rw [ja8 (ntup c xs r)]; exact r
   rcases hc with rfl | hc
   ·exact hbe
   ·rintro rfl
    rcases he with z | z
    ·exact nown c b hc z
    ·rw [hc] at z; cases z; exact hb rfl
end
structure Un (fs ex : List Addr) (H H' : Hp) (h h' : Heap) : Prop where
 keep : ∀ b o,h.get? b = some o→H b = none→b ∉ fs→b ∉ ex→h'.get? b = some o
 slot : ∀ b o,h.get? b = some o→H b = none→b ∈ fs→b ∉ ex→∃ sl,h'.get? b = some { o with slots:=sl }
 free : ∀ b o,h.get? b = some o→H b = none→b ∉ ex→H' b = none
 there : ∀ b o,h.get? b = some o→b ∉ ex→∃ o',h'.get? b = some o'
 tups : ∀ b xs,H b = some (.tup xs)→H' b = some (.tup xs)
 frzs : ∀ b o u,H b = some (.frz o u)→H' b = some (.frz o u)
 tbls : ∀ b ps,H b = some (.tbl ps)→∃ more,H' b = some (.tbl (ps ++ more))
section
variable {fs fs' ex ex' : List Addr} {H H1 H2 : Hp} {h h1 h2 h' : Heap} {a x e : Addr} {o : HO}
theorem Un.any (u : Un fs ex H H1 h h1) {b : Addr} {ob : Obj} (q : h.get? b = some ob) (n : H b = none) (hx : b ∉ ex) : ∃ sl,h1.get? b = some { ob with slots:=sl }:=by
 by_cases hb : b ∈ fs
 ·exact u.slot b ob q n hb hx
 ·exact ⟨ob.slots,u.keep b ob q n hb hx⟩
theorem Un.trans (a : Un fs ex H H1 h h1) (b : Un fs ex H1 H2 h1 h2) : Un fs ex H H2 h h2 where
 keep:=fun c ob q n hc hx=>b.keep c ob (a.keep c ob q n hc hx) (a.free c ob q n hx) hc hx
 slot:=fun c ob q n hc hx=>by
  obtain ⟨sl,e1⟩:=a.slot c ob q n hc hx
  obtain ⟨sl',e2⟩:=b.slot c _ e1 (a.free c ob q n hx) hc hx
  exact ⟨sl',e2⟩
 free:=fun c ob q n hx=>by
  obtain ⟨o',e1⟩:=a.there c ob q hx
  exact b.free c o' e1 (a.free c ob q n hx) hx
 there:=fun c ob q hx=>by
  obtain ⟨o',e1⟩:=a.there c ob q hx
  exact b.there c o' e1 hx
 tups:=fun c xs q=>b.tups c xs (a.tups c xs q)
 frzs:=fun c ob xs q=>b.frzs c ob xs (a.frzs c ob xs q)
 tbls:=fun c ps q=>by
  obtain ⟨m1,e1⟩:=a.tbls c ps q
  obtain ⟨m2,e2⟩:=b.tbls c _ e1
  exact ⟨m1 ++ m2,by rw [e2,Array.append_assoc]⟩
theorem Un.kept (k : ∀ b u,h.get? b = some u→h'.get? b = some u) : Un fs ex H H h h' :=
 ⟨fun b ob q _ _ _=>k b ob q,fun b ob q _ _ _=>⟨ob.slots,k b ob q⟩,fun _ _ _ n _=>n,fun b ob q _=>⟨ob,k b ob q⟩,fun _ _ q=>q,fun _ _ _ q=>q,fun _ ps q=>⟨#[],by rw [q]; simp⟩⟩
theorem Un.refl : Un fs ex H H h h:=Un.kept fun _ _ q=>q
theorem Un.laid (k : ∀ b u,h.get? b = some u→h'.get? b = some u) (hp : h.objs.size ≤ a) (hn : H a = none) : Un fs ex H (upd H a o) h h' where
 keep:=fun b u q _ _ _=>k b u q
 slot:=fun b u q _ _ _=>⟨u.slots,k b u q⟩
 free:=fun b u q n _=>by rw [ja8 (Nat.ne_of_lt (Nat.lt_of_lt_of_le (Heap.lt_size q) hp))]; exact n
 there:=fun b u q _=>⟨u,k b u q⟩
 tups:=fun b xs q=>by rw [ja8 (ja9 q hn)]; exact q
 frzs:=fun b u xs q=>by rw [ja8 (ja9 q hn)]; exact q
 tbls:=fun b ps q=>⟨#[],by rw [ja8 (ja9 q hn),q]; simp⟩
theorem Un.write (mu : Mut (H x)) (he : e = x ∨ H e = some (.own x)) (k : ∀ b u,b ≠ e→h.get? b = some u→h'.get? b = some u) (heo : ∃ u,h'.get? e = some u) : Un fs ex H (upd H x o) h h':=by
 have hx : ∀ b,H b = none→b ≠ x:=fun b n z=>by subst z; rw [n] at mu; exact mu
 have hb : ∀ b,H b = none→b ≠ e:=fun b n z=>by
  subst z
  rcases he with r | r
  ·exact hx b n r
  ·rw [n] at r; cases r
 have hm : ∀ b u,H b = some u→¬ Mut (some u)→b ≠ x:=fun b u q nm z=>by subst z; rw [q] at mu; exact nm mu
 refine ⟨fun b u q n _ _=>k b u (hb b n) q,fun b u q n _ _=>⟨u.slots,k b u (hb b n) q⟩,fun b u q n _=>by rw [ja8 (hx b n)]; exact n,fun b u q _=>?_,
  fun b xs q=>by rw [ja8 (hm b _ q fun z=>z)]; exact q,fun b u xs q=>by rw [ja8 (hm b _ q fun z=>z)]; exact q,fun b ps q=>⟨#[],by rw [ja8 (hm b _ q fun z=>z),q]; simp⟩⟩
 by_cases hbe : b = e
 ·subst hbe; exact heo
 ·exact ⟨u,k b u hbe q⟩
theorem Un.mono (u : Un fs ex H H1 h h1) (hs : ∀ b ∈ fs,b ∈ fs') (hx : ∀ b ∈ ex,b ∈ ex') : Un fs' ex' H H1 h h1 :=
 ⟨fun b ob q n hb he=>u.keep b ob q n (fun z=>hb (hs b z)) fun z=>he (hx b z),fun _ _ q n _ he=>u.any q n fun z=>he (hx _ z),fun b ob q n he=>u.free b ob q n fun z=>he (hx b z),fun b ob q he=>u.there b ob q fun z=>he (hx b z),u.tups,u.frzs,u.tbls⟩
end
noncomputable def trk (h : Heap) (H : Hp) : List Addr:=(List.range h.objs.size).filter fun a=>(H a).isSome
noncomputable def hidT (h : Heap) (H : Hp) : Heap:=PySem.W.hideAll h (trk h H)
theorem jmv (h : Heap) (H : Hp) : (hidT h H).objs.size = h.objs.size:=PySem.W.hideAll_size _ _
theorem jom {h : Heap} {H : Hp} {b : Addr} {o : Obj} (e : h.get? b = some o) (n : H b = none) : (hidT h H).get? b = some o :=
 PySem.W.hideAll_get _ e fun hm=>by
  have q : (H b).isSome = true:=(List.mem_filter.mp hm).2
  rw [n] at q; simp at q
theorem jqx {h : Heap} {H : Hp} {b : Addr} {o : Obj} (e : (hidT h H).get? b = some o) : h.get? b = some o∧H b = none:=by
 have e' : h.get? b = some o:=PySem.W.of_hideAll (trk h H) e
 refine ⟨e',?_⟩
 cases q : H b with
 | none=>rfl
 | some x =>
  have hm : b ∈ trk h H:=List.mem_filter.mpr ⟨List.mem_range.mpr (Heap.lt_size e'),by simp [q]⟩
  have z : (hidT h H).get? b = none:=PySem.W.hideAll_none (trk h H) hm
  rw [z] at e; cases e
end L2
namespace L2
open PySem PySem.Spec PyProof.Rows
structure Mod (K : PySem.W.Frag) (mg : Str→Option Value) (base : Heap) : Prop where
 kin : K.In base
 glob : base.Ns mainGlobals mg
 blt : ∃ mb,base.Ns builtinsNs mb∧∀ x : Str,x ≠ "__name__"→mb x = bootBuiltins x
 nolimit : base.NoLimit
structure Cx where
 prog : Program
 w : World
 K : PySem.W.Frag
 mg : Str→Option Value
 base : Heap
 A : Around
 N : List Str
 s₀ : Shared
 H₀ : Hp
 env : Env
 outer : List Env
 stack : List Env
 ex : List Addr
 fn : Str→Bool
 calm : Bool
 pn : List (Addr × Obj)
 xe : Value→Shared→Prop
noncomputable def frs (l : List Env) : List Addr:=l.filterMap (·.frame)
noncomputable abbrev Cx.fs (X : Cx) : List Addr:=frs X.outer
noncomputable def Vis (sc : Scope) (x : Str) : Prop:=sc.names.lookup x = some .local ∨ sc.names.lookup x = some .cell ∨ sc.names.lookup x = some .free
noncomputable def Loc (sc : Scope) (x : Str) : Prop:=sc.names.lookup x = some .local ∨ sc.names.lookup x = some .cell
noncomputable def Look (env : Env) (h : Heap) (m : Str→Option Value) (x : Str) (u : Value) : Prop :=
 (env.kindOf x = some .local∧m x = some u) ∨ ((env.kindOf x = some .cell ∨ env.kindOf x = some .free)∧∃ c,env.cells.lookup x = some c∧h.IsCell c (some u))
structure Cx.Ok (X : Cx) : Prop where
 mod : Mod X.K X.mg X.base
 kind : X.env.scope.kind = .function
 glob : X.env.globals = mainGlobals
 blt : X.env.builtins = builtinsNs
 above : X.s₀.heap.objs.size ≤ X.env.locals
 inj : ∀ x y c,X.env.cells.lookup x = some c→X.env.cells.lookup y = some c→x = y
 has : ∀ x,(X.env.kindOf x = some .cell ∨ X.env.kindOf x = some .free)→∃ c,X.env.cells.lookup x = some c
 cab : ∀ x c,X.fn x = true→X.env.cells.lookup x = some c→X.s₀.heap.objs.size ≤ c
 hd : X.calm = true→X.A.handled = none
 frames : X.A.frames = some X.stack
 stk : X.stack = X.outer ∨ (X.stack = X.env :: X.outer∧X.env.frame = some X.env.locals)
 exf : ∀ b ∈ X.ex,b ≠ X.env.locals∧∀ x c,X.env.cells.lookup x = some c→c ≠ b
 bs : ∀ b o,X.base.get? b = some o→X.s₀.heap.get? b = some o∧X.H₀ b = none
 bsz : X.base.objs.size ≤ X.s₀.heap.objs.size
 noex : ∀ b o,X.base.get? b = some o→b ∉ X.ex
 exfs : ∀ b ∈ X.ex,b ∉ X.fs
 funs : X.s₀.heap.FunFrames X.base X.outer
 frf : ∀ b ∈ X.fs,X.H₀ b = none
structure Inv (X : Cx) (pins : List (Addr × Obj)) (σ : List (Option V)) (H : Hp) (s : Shared) : Prop where
 ok : X.Ok
 os : s.os = X.s₀.os
 bare : AllBare s.gens
 base : Un X.fs X.ex X.H₀ H X.s₀.heap s.heap
 loc : ∃ m,s.heap.Ns X.env.locals m∧∀ (i : Nat) (x : Str) (v : V),X.N[i]? = some x→σ[i]? = some (some v)→Vis X.env.scope x→∃ u,RelV v u∧Look X.env s.heap m x u
 cell : ∀ x c,X.env.cells.lookup x = some c→∃ v,s.heap.IsCell c v
 free : H X.env.locals = none
 freeC : ∀ x c,X.env.cells.lookup x = some c→H c = none
 pin : ∀ p ∈ X.pn ++ pins,s.heap.get? p.1 = some p.2∧H p.1 = none∧p.1 ≠ X.env.locals∧p.1 ∉ X.fs∧∀ v,p.2.data ≠ .cell v
 hok : HOk X.prog X.w H s.heap
 len : σ.length = X.N.length
section
variable {X : Cx} {pins : List (Addr × Obj)} {σ : List (Option V)} {H H' : Hp} {s : Shared} {h' : Heap}
theorem Cx.Ok.nofr (ok : X.Ok) {b : Addr} {o : Obj} (e : X.base.get? b = some o) : b ∉ X.fs:=fun hb=>by
 have:=(ok.funs.mem hb).1
 rw [e] at this; cases this
theorem Inv.bs (I : Inv X pins σ H s) : ∀ b o,X.base.get? b = some o→s.heap.get? b = some o∧H b = none:=fun b o e =>
 ⟨I.base.keep b o (I.ok.bs b o e).1 (I.ok.bs b o e).2 (I.ok.nofr e) (I.ok.noex b o e),I.base.free b o (I.ok.bs b o e).1 (I.ok.bs b o e).2 (I.ok.noex b o e)⟩
theorem Inv.bk (I : Inv X pins σ H s) : ∀ b o,X.base.get? b = some o→s.heap.get? b = some o:=fun b o e=>(I.bs b o e).1
theorem Inv.mod (I : Inv X pins σ H s) : Mod X.K X.mg X.base:=I.ok.mod
theorem Inv.kIn (I : Inv X pins σ H s) : X.K.In s.heap:=I.ok.mod.kin.keeps I.bk
theorem Inv.lt (I : Inv X pins σ H s) : X.env.locals < s.heap.objs.size:=let ⟨_,hn,_⟩:=I.loc; hn.lt
theorem Inv.sz (I : Inv X pins σ H s) : X.s₀.heap.objs.size ≤ s.heap.objs.size:=Nat.le_trans I.ok.above (Nat.le_of_lt I.lt)
theorem Inv.nofs (I : Inv X pins σ H s) {a : Addr} (h : s.heap.objs.size ≤ a) : a ∉ X.fs:=fun hb=>by
 obtain ⟨_,o,ho,_⟩:=I.ok.funs.mem hb
 exact absurd (Nat.lt_of_lt_of_le (Heap.lt_size ho) (Nat.le_trans I.sz h)) (Nat.lt_irrefl _)
theorem Inv.cne (I : Inv X pins σ H s) : ∀ x c,X.env.cells.lookup x = some c→c ≠ X.env.locals:=fun x c e z=>by
 obtain ⟨v,o,ho,hd⟩:=I.cell x c e
 obtain ⟨m,⟨o',es,ep,ho',hd',_⟩,_⟩:=I.loc
 rw [z,ho'] at ho; cases ho; rw [hd'] at hd; cases hd
theorem Inv.funs (I : Inv X pins σ H s) : s.heap.FunFrames X.base X.outer:=by
 have all : ∀ (l : List Env),(∀ b ∈ frs l,b ∈ X.fs)→X.s₀.heap.FunFrames X.base l→s.heap.FunFrames X.base l:=by
  intro l
  induction l with
  | nil=>intro _ _; trivial
  | cons env r ih =>
   intro hs hl
   obtain ⟨hk,⟨L,o,hf,hn,ho,hd⟩,hr⟩:=hl
   have hL : L ∈ X.fs:=hs L (by unfold frs; rw [List.filterMap_cons,hf]; exact List.mem_cons_self)
   obtain ⟨sl,e⟩:=I.base.slot L o ho (I.ok.frf L hL) hL fun z=>I.ok.exfs L z hL
   exact ⟨hk,⟨L,_,hf,hn,e,hd⟩,ih (fun b hb=>hs b (by unfold frs; rw [List.filterMap_cons,hf]; exact List.mem_cons_of_mem _ hb)) hr⟩
 exact all X.outer (fun _ hb=>hb) I.ok.funs
theorem Inv.stack (I : Inv X pins σ H s) : s.heap.FunFrames X.base X.stack:=by
 rcases I.ok.stk with e | ⟨e,hf⟩
 ·rw [e]; exact I.funs
 ·rw [e]
  obtain ⟨m,hn,_⟩:=I.loc
  refine .cons (by rw [I.ok.kind]; decide) hf hn ?_ I.funs
  exact Heap.get?_none_of_le (Nat.le_trans I.ok.bsz I.ok.above)
theorem Inv.stkSub (I : Inv X pins σ H s) : ∀ b ∈ frs X.stack,b ∈ X.env.locals :: X.fs:=fun b hb=>by
 rcases I.ok.stk with e | ⟨e,hf⟩
 ·rw [e] at hb; exact List.mem_cons_of_mem _ hb
 ·rw [e] at hb
  unfold frs at hb
  rw [List.filterMap_cons,hf] at hb
  exact hb
theorem Inv.stkFree (I : Inv X pins σ H s) : ∀ b ∈ frs X.stack,H b = none:=fun b hb=>by
 rcases List.mem_cons.mp (I.stkSub b hb) with e | hb
 ·rw [e]; exact I.free
 ·obtain ⟨_,o,ho,_⟩:=I.ok.funs.mem hb
  exact I.base.free b o ho (I.ok.frf b hb) fun z=>I.ok.exfs b z hb
theorem Inv.step {g' : Array GenState} {t' : Nat} {d' : Drawn} {ch : List Addr} (I : Inv X pins σ H s)
  (hch : ∀ b ∈ ch,(b ∈ X.ex ∨ X.s₀.heap.objs.size ≤ b)∧b ≠ X.env.locals∧(∀ x c,X.env.cells.lookup x = some c→c ≠ b)∧∀ p ∈ X.pn ++ pins,p.1 ≠ b)
  (keep : ∀ b o,b ≠ X.env.locals→b ∉ X.fs→b ∉ ch→s.heap.get? b = some o→H b = none→h'.get? b = some o)
  (slot : ∀ b o,b ≠ X.env.locals→b ∈ X.fs→b ∉ ch→s.heap.get? b = some o→H b = none→∃ sl,h'.get? b = some { o with slots:=sl }) (free : ∀ b o,b ∉ ch→s.heap.get? b = some o→H b = none→H' b = none)
  (there : ∀ b o,b ∉ ch→s.heap.get? b = some o→∃ o',h'.get? b = some o')
  (tups : ∀ b xs,H b = some (.tup xs)→H' b = some (.tup xs)) (frzs : ∀ b o u,H b = some (.frz o u)→H' b = some (.frz o u)) (tbls : ∀ b ps,H b = some (.tbl ps)→∃ more,H' b = some (.tbl (ps ++ more)))
  (ns : ∀ m,s.heap.Ns X.env.locals m→h'.Ns X.env.locals m) (hok : HOk X.prog X.w H' h') (hg : AllBare g') :
  Inv X pins σ H' { s with heap:=h',gens:=g',drawn:=d',toks:=t' }:=by
 have neL : ∀ b o,X.s₀.heap.get? b = some o→b ≠ X.env.locals:=fun b o e=>Nat.ne_of_lt (Nat.lt_of_lt_of_le (Heap.lt_size e) I.ok.above)
 have neC : ∀ b o,X.s₀.heap.get? b = some o→b ∉ X.ex→b ∉ ch:=fun b o e hx hb=>by
  rcases (hch b hb).1 with z | z
  ·exact hx z
  ·exact absurd (Nat.lt_of_lt_of_le (Heap.lt_size e) z) (Nat.lt_irrefl _)
 have cellK : ∀ x c,X.env.cells.lookup x = some c→∀ v,s.heap.IsCell c v→h'.IsCell c v:=fun x c e v ⟨o,ho,hd⟩=>by
  have nch : c ∉ ch:=fun z=>(hch c z).2.2.1 x c e rfl
  by_cases hc : c ∈ X.fs
  ·obtain ⟨sl,q⟩:=slot c o (I.cne x c e) hc nch ho (I.freeC x c e)
   exact ⟨_,q,hd⟩
  ·exact ⟨o,keep c o (I.cne x c e) hc nch ho (I.freeC x c e),hd⟩
 refine ⟨I.ok,I.os,hg,⟨fun b o e n hb hx=>?_,fun b o e n hb hx=>?_,fun b o e n hx=>?_,fun b o e hx=>?_,fun b xs e=>tups b xs (I.base.tups b xs e),fun b o xs e=>frzs b o xs (I.base.frzs b o xs e),fun b ps e=>?_⟩,?_,fun x c e=>?_,?_,fun x c e=>?_,fun p hp=>?_,hok,I.len⟩
 ·exact keep b o (neL b o e) hb (neC b o e hx) (I.base.keep b o e n hb hx) (I.base.free b o e n hx)
 ·obtain ⟨sl,e1⟩:=I.base.slot b o e n hb hx
  obtain ⟨sl',e2⟩:=slot b _ (neL b o e) hb (neC b o e hx) e1 (I.base.free b o e n hx)
  exact ⟨sl',e2⟩
 ·obtain ⟨o',e1⟩:=I.base.there b o e hx
  exact free b o' (neC b o e hx) e1 (I.base.free b o e n hx)
 ·obtain ⟨o',e1⟩:=I.base.there b o e hx
  exact there b o' (neC b o e hx) e1
 ·obtain ⟨m1,e1⟩:=I.base.tbls b ps e
  obtain ⟨m2,e2⟩:=tbls b _ e1
  exact ⟨m1 ++ m2,by rw [e2,Array.append_assoc]⟩
 ·obtain ⟨m,hn,hl⟩:=I.loc
  refine ⟨m,ns m hn,fun i x v e1 e2 e3=>?_⟩
  obtain ⟨u,r,l⟩:=hl i x v e1 e2 e3
  refine ⟨u,r,?_⟩
  rcases l with l | ⟨k,c,e,z⟩
  ·exact .inl l
  ·exact .inr ⟨k,c,e,cellK x c e _ z⟩
 ·obtain ⟨v,z⟩:=I.cell x c e
  exact ⟨v,cellK x c e v z⟩
 ·obtain ⟨m,⟨o,_,_,ho,_⟩,_⟩:=I.loc
  exact free _ o (fun z=>(hch _ z).2.1 rfl) ho I.free
 ·obtain ⟨v,o,ho,hd⟩:=I.cell x c e
  exact free c o (fun z=>(hch c z).2.2.1 x c e rfl) ho (I.freeC x c e)
 ·obtain ⟨e,n,ne,nf,d⟩:=I.pin p hp
  have nch : p.1 ∉ ch:=fun z=>(hch p.1 z).2.2.2 p hp rfl
  exact ⟨keep p.1 p.2 ne nf nch e n,free p.1 p.2 nch e n,ne,nf,d⟩
theorem Inv.un {t' : Nat} (I : Inv X pins σ H s) (u : Un X.fs [] H H' s.heap h') (hok : HOk X.prog X.w H' h') : Inv X pins σ H' { s with heap:=h',toks:=t' }:=by
 obtain ⟨m,⟨o,es,ep,ho,r⟩,_⟩:=id I.loc
 obtain ⟨sl,hL⟩:=u.any ho I.free (by simp)
 exact I.step (g':=s.gens) (d':=s.drawn) (ch:=[]) (fun _ z=>nomatch z) (fun b o _ hb _ e n=>u.keep b o e n hb (by simp)) (fun b o _ hb _ e n=>u.slot b o e n hb (by simp)) (fun b o _ e n=>u.free b o e n (by simp)) (fun b o _ e=>u.there b o e (by simp)) u.tups u.frzs u.tbls (fun m' hm=>by
  obtain ⟨o',es',ep',ho',r'⟩:=hm
  rw [ho] at ho'; cases ho'
  exact ⟨_,es',ep',hL,r'⟩) hok I.bare
theorem Inv.call {g' : Array GenState} {t' : Nat} {d' : Drawn} {ch : List Addr} (I : Inv X pins σ H s) (u : Un (frs X.stack) ch H H' s.heap h') (hok : HOk X.prog X.w H' h') (hg : AllBare g')
  (hch : ∀ b ∈ ch,(b ∈ X.ex ∨ X.s₀.heap.objs.size ≤ b)∧b ≠ X.env.locals∧(∀ x c,X.env.cells.lookup x = some c→c ≠ b)∧∀ p ∈ X.pn ++ pins,p.1 ≠ b) :
  Inv X pins σ H' { s with heap:=h',gens:=g',drawn:=d',toks:=t' }:=by
 obtain ⟨m,⟨o,es,ep,ho,r⟩,_⟩:=id I.loc
 obtain ⟨sl,hL⟩:=u.any ho I.free fun z=>(hch _ z).2.1 rfl
 exact I.step (ch:=ch) hch (fun b o hL hb hc e n=>u.keep b o e n (fun z=>(List.mem_cons.mp (I.stkSub b z)).elim hL hb) hc) (fun b o _ _ hc e n=>u.any e n hc) (fun b o hc e n=>u.free b o e n hc) (fun b o hc e=>u.there b o e hc) u.tups u.frzs u.tbls (fun m' hm=>by
  obtain ⟨o',es',ep',ho',r'⟩:=hm
  rw [ho] at ho'; cases ho'
  exact ⟨_,es',ep',hL,r'⟩) hok hg
theorem Inv.turned {t' : Nat} {it : Addr} (I : Inv X pins σ H s) (k : ∀ b o,b ≠ it→s.heap.get? b = some o→h'.get? b = some o) (hn : H it = none) (hL : it ≠ X.env.locals)
  (h1 : it ∈ X.ex ∨ X.s₀.heap.objs.size ≤ it) (h2 : ∀ x c,X.env.cells.lookup x = some c→c ≠ it) (h3 : ∀ p ∈ X.pn ++ pins,p.1 ≠ it) : Inv X pins σ H { s with heap:=h',toks:=t' }:=by
 have nit : ∀ b u,H b = some u→b ≠ it:=fun b u e z=>by rw [z,hn] at e; cases e
 refine I.step (g':=s.gens) (d':=s.drawn) (ch:=[it]) (fun b hb=>?_) (fun b o _ _ hc e _=>k b o (fun z=>hc (by simp [z])) e) (fun b o _ _ hc e _=>⟨o.slots,k b o (fun z=>hc (by simp [z])) e⟩) (fun _ _ _ _ n=>n)
  (fun b o hc e=>⟨o,k b o (fun z=>hc (by simp [z])) e⟩) (fun _ _ e=>e) (fun _ _ _ e=>e) (fun b ps e=>⟨#[],by rw [e]; simp⟩) (fun m hm=>?_) (fun b u e=>?_) I.bare
 ·have e : b = it:=by simpa using hb
  subst e
  exact ⟨h1,hL,h2,h3⟩
 ·obtain ⟨o,es,ep,ho,r⟩:=hm
  exact ⟨o,es,ep,k _ o (Ne.symm hL) ho,r⟩
 ·refine (I.hok b u e).stay (fun c v hc q=>k c v ?_ q) (fun _ q=>q) fun _ _ q=>q
  rcases hc with z | z
  ·rw [z]; exact nit b u e
  ·exact nit c _ z
theorem Inv.tok (I : Inv X pins σ H s) (t : Nat) : Inv X pins σ H { s with toks:=t }:=I.un (h':=s.heap) (t':=t) Un.refl I.hok
theorem Inv.kept {t' : Nat} (I : Inv X pins σ H s) (k : ∀ b u,s.heap.get? b = some u→h'.get? b = some u) : Inv X pins σ H { s with heap:=h',toks:=t' }:=I.un (Un.kept k) (I.hok.kept k)
theorem Inv.laid {a : Addr} {o : HO} {t' : Nat} (I : Inv X pins σ H s) (k : ∀ b u,s.heap.get? b = some u→h'.get? b = some u) (hp : s.heap.objs.size ≤ a) (new : jb8 X.prog X.w (upd H a o) h' a o) :
  Inv X pins σ (upd H a o) { s with heap:=h',toks:=t' }:=I.un (Un.laid k hp (I.hok.fresh hp)) (I.hok.laid k hp new)
theorem Inv.write {x e : Addr} {o : HO} {t' : Nat} (I : Inv X pins σ H s) (mu : Mut (H x)) (he : e = x ∨ H e = some (.own x)) (k : ∀ b u,b ≠ e→s.heap.get? b = some u→h'.get? b = some u) (heo : ∃ u,h'.get? e = some u)
  (new : jb8 X.prog X.w (upd H x o) h' x o) : Inv X pins σ (upd H x o) { s with heap:=h',toks:=t' }:=I.un (Un.write mu he k heo) (I.hok.write mu he k heo new)
theorem Inv.pins_of {pins' : List (Addr × Obj)} (I : Inv X pins σ H s) (h : ∀ p ∈ pins',s.heap.get? p.1 = some p.2∧H p.1 = none∧p.1 ≠ X.env.locals∧p.1 ∉ X.fs∧∀ v,p.2.data ≠ .cell v) : Inv X pins' σ H s :=
 ⟨I.ok,I.os,I.bare,I.base,I.loc,I.cell,I.free,I.freeC,fun p hp=>(List.mem_append.mp hp).elim (fun z=>I.pin p (List.mem_append_left _ z)) (h p),I.hok,I.len⟩
theorem jg7 {N : List Str} (hN : N.Nodup) {i j : Nat} {x : Str} (a : N[i]? = some x) (b : N[j]? = some x) : i = j:=by
 obtain ⟨h1,e1⟩:=List.getElem?_eq_some_iff.mp a
 obtain ⟨h2,e2⟩:=List.getElem?_eq_some_iff.mp b
 exact (List.getElem_inj hN).mp (e1.trans e2.symm)
theorem jgq {M : Model} {A : Around} {E : Value→Shared→Prop} {i : Nat} {x : Str} {v : V} {u : Value} {Q : Unit→Shared→Prop} (I : Inv X pins σ H s) (hN : X.N.Nodup) (hi : X.N[i]? = some x) (hx : Loc X.env.scope x) (r : RelV v u)
  (h : ∀ s',Inv X pins (σ.set i (some v)) H s'→(∃ a,Heap.SameBut a s.heap s'.heap∧(a = X.env.locals ∨ X.env.cells.lookup x = some a))→Q () s') (hf : X.fn x = true ∨ X.env.scope.names.lookup x = some .local:=by first | exact .inl rfl | exact .inr rfl | assumption) : wpAny M A (storeName X.env x u) Q E s:=by
 obtain ⟨m,hn,hl⟩:=id I.loc
 have hcls : (X.env.scope.kind == .class || (X.env.scope.kind == .module && X.env.locals != X.env.globals)) = false:=by rw [I.ok.kind]; rfl
 have hiσ : i < σ.length:=by rw [I.len]; exact (List.getElem?_eq_some_iff.mp hi).1
 have cne:=I.cne
 have tracked : ∀ {a : Addr} {h' : Heap},(∃ o,s.heap.get? a = some o∧H a = none)→Heap.SameBut a s.heap h'→HOk X.prog X.w H h':=fun {a h'} ha hs b ob e=>by
  obtain ⟨_,_,hfree⟩:=ha
  refine (I.hok b ob e).stay (fun c w' hc q=>(hs.2 c ?_).trans q) (fun _ q=>q) fun _ _ q=>q
  rintro rfl
  rcases hc with rfl | hc
  ·rw [hfree] at e; cases e
  ·rw [hfree] at hc; cases hc
 rcases hx with hk | hk
 ·refine wpAny_storeName_local hk hn (fun h' hn' hs=>?_) hcls
  obtain ⟨oL,_,_,hoL,_⟩:=id hn
  refine h _ ⟨I.ok,I.os,I.bare,⟨fun b o e n hb hx=>?_,fun b o e n hb hx=>?_,I.base.free,fun b o e hx=>?_,I.base.tups,I.base.frzs,I.base.tbls⟩,⟨_,hn',fun j y v' e1 e2 e3=>?_⟩,fun y c e=>?_,I.free,I.freeC,fun p hp=>?_,tracked ⟨oL,hoL,I.free⟩ hs,by simpa using I.len⟩ ⟨_,hs,.inl rfl⟩
  ·exact (hs.2 b (Nat.ne_of_lt (Nat.lt_of_lt_of_le (Heap.lt_size e) I.ok.above))).trans (I.base.keep b o e n hb hx)
  ·obtain ⟨sl,e1⟩:=I.base.slot b o e n hb hx
   exact ⟨sl,(hs.2 b (Nat.ne_of_lt (Nat.lt_of_lt_of_le (Heap.lt_size e) I.ok.above))).trans e1⟩
  ·obtain ⟨o',e1⟩:=I.base.there b o e hx
   exact ⟨o',(hs.2 b (Nat.ne_of_lt (Nat.lt_of_lt_of_le (Heap.lt_size e) I.ok.above))).trans e1⟩
  ·by_cases hj : j = i
   ·subst hj
    rw [hi] at e1; cases e1
    rw [List.getElem?_set_self hiσ] at e2
    cases e2
    exact ⟨u,r,.inl ⟨hk,by simp⟩⟩
   ·rw [List.getElem?_set_ne (Ne.symm hj)] at e2
    obtain ⟨u',r',q⟩:=hl j y v' e1 e2 e3
    refine ⟨u',r',?_⟩
    rcases q with ⟨k,e⟩ | ⟨k,c,e,z⟩
    ·refine .inl ⟨k,?_⟩
     have : y ≠ x:=fun e=>hj (jg7 hN e1 (e ▸ hi))
     simp [this,e]
    ·exact .inr ⟨k,c,e,z.sameBut hs (cne y c e)⟩
  ·obtain ⟨w',z⟩:=I.cell y c e
   exact ⟨w',z.sameBut hs (cne y c e)⟩
  ·obtain ⟨e,n,ne,nf,d⟩:=I.pin p hp
   exact ⟨(hs.2 p.1 ne).trans e,n,ne,nf,d⟩
 ·have hfn : X.fn x = true:=by
   rcases hf with z | z
   ·exact z
   ·rw [z] at hk; cases hk
  obtain ⟨c,hc⟩:=I.ok.has x (.inl hk)
  obtain ⟨w',z⟩:=I.cell x c hc
  refine wpAny_storeName_cell I.ok.kind hk hc z (fun h' hc' hs=>?_)
  obtain ⟨oc,hoc,hocd⟩:=id z
  refine h { s with heap:=h' } ⟨I.ok,I.os,I.bare,⟨fun b o e n hb hx=>?_,fun b o e n hb hx=>?_,I.base.free,fun b o e hx=>?_,I.base.tups,I.base.frzs,I.base.tbls⟩,⟨m,hn.sameBut hs (Ne.symm (cne x c hc)),fun j y v' e1 e2 e3=>?_⟩,fun y c' e=>?_,I.free,I.freeC,fun p hp=>?_,tracked ⟨oc,hoc,I.freeC x c hc⟩ hs,by simpa using I.len⟩ ⟨c,hs,.inr hc⟩
  ·exact (hs.2 b (Nat.ne_of_lt (Nat.lt_of_lt_of_le (Heap.lt_size e) (I.ok.cab x c hfn hc)))).trans (I.base.keep b o e n hb hx)
  ·obtain ⟨sl,e1⟩:=I.base.slot b o e n hb hx
   exact ⟨sl,(hs.2 b (Nat.ne_of_lt (Nat.lt_of_lt_of_le (Heap.lt_size e) (I.ok.cab x c hfn hc)))).trans e1⟩
  ·obtain ⟨o',e1⟩:=I.base.there b o e hx
   exact ⟨o',(hs.2 b (Nat.ne_of_lt (Nat.lt_of_lt_of_le (Heap.lt_size e) (I.ok.cab x c hfn hc)))).trans e1⟩
  ·by_cases hj : j = i
   ·subst hj
    rw [hi] at e1; cases e1
    rw [List.getElem?_set_self hiσ] at e2
    cases e2
    exact ⟨u,r,.inr ⟨.inl hk,c,hc,hc'⟩⟩
   ·rw [List.getElem?_set_ne (Ne.symm hj)] at e2
    obtain ⟨u',r',q⟩:=hl j y v' e1 e2 e3
    refine ⟨u',r',?_⟩
    rcases q with q | ⟨k,c',e,z'⟩
    ·exact .inl q
    ·refine .inr ⟨k,c',e,z'.sameBut hs ?_⟩
     rintro rfl
     exact hj (jg7 hN e1 (I.ok.inj _ _ _ e hc ▸ hi))
  ·by_cases hcc : c' = c
   ·subst hcc; exact ⟨_,hc'⟩
   ·obtain ⟨w2,z2⟩:=I.cell y c' e
    exact ⟨w2,z2.sameBut hs hcc⟩
  ·obtain ⟨e,n,ne,nf,d⟩:=I.pin p hp
   refine ⟨(hs.2 p.1 ?_).trans e,n,ne,nf,d⟩
   intro q
   rw [q,hoc] at e
   have q' : oc = p.2:=Option.some.inj e
   exact d w' (by rw [← q']; exact hocd)
theorem je6 {M : Model} {A : Around} {E : Value→Shared→Prop} {i : Nat} {x : Str} {v : V} {u : Value} {Q : Unit→Shared→Prop} (I : Inv X pins σ H s) (hN : X.N.Nodup) (hi : X.N[i]? = some x) (hx : Loc X.env.scope x) (r : RelV v u)
  (h : ∀ s',Inv X pins (σ.set i (some v)) H s'→Q () s') (hf : X.fn x = true ∨ X.env.scope.names.lookup x = some .local:=by first | exact .inl rfl | exact .inr rfl | assumption) : wpAny M A (storeName X.env x u) Q E s :=
 jgq I hN hi hx r (fun s' I' _=>h s' I') hf
theorem Inv.call' {s' : Shared} {ch : List Addr} (I : Inv X pins σ H s) (ho : s'.os = s.os) (u : Un (frs X.stack) ch H H' s.heap s'.heap) (hok : HOk X.prog X.w H' s'.heap) (hg : AllBare s'.gens)
  (hch : ∀ b ∈ ch,(b ∈ X.ex ∨ X.s₀.heap.objs.size ≤ b)∧b ≠ X.env.locals∧(∀ x c,X.env.cells.lookup x = some c→c ≠ b)∧∀ p ∈ X.pn ++ pins,p.1 ≠ b) : Inv X pins σ H' s':=by
 obtain ⟨h',g',d',t',o'⟩:=s'
 have e : o' = s.os:=ho
 subst e
 exact I.call (g':=g') (t':=t') (d':=d') u hok hg hch
end
noncomputable abbrev XK:=Value→Option Addr→Hp→Prop
noncomputable abbrev St:=List (Option V)
noncomputable abbrev VK:=V→Hp→Prop
noncomputable abbrev TE:=St→Hp→VK→Prop
noncomputable abbrev TT:=St→Hp→(Bool→Hp→Prop)→Prop
noncomputable abbrev TA:=St→Hp→(List V→Hp→Prop)→Prop
structure Ends where
 nx : St→Hp→Prop
 rt : VK
 bk : St→Hp→Prop:=fun _ _=>False
 ct : St→Hp→Prop:=fun _ _=>False
noncomputable abbrev TS:=Ends→St→Hp→Prop
noncomputable def EP (X : Cx) (pins : List (Addr × Obj)) (σ : St) (Q : VK) (u : Value) (s' : Shared) : Prop:=∃ v H',Inv X pins σ H' s'∧RelV v u∧Q v H'
noncomputable def TP (X : Cx) (pins : List (Addr × Obj)) (σ : St) (Q : Bool→Hp→Prop) (b : Bool) (s' : Shared) : Prop:=∃ H',Inv X pins σ H' s'∧Q b H'
noncomputable def AP (X : Cx) (pins : List (Addr × Obj)) (σ : St) (Q : List V→Hp→Prop) (us : List Value) (s' : Shared) : Prop:=∃ vs H',Inv X pins σ H' s'∧Vals vs us∧Q vs H'
noncomputable def SP (X : Cx) (pins : List (Addr × Obj)) (D : Ends) (f : Flow) (s' : Shared) : Prop :=
 match f with
 | .next=>∃ σ' H',Inv X pins σ' H' s'∧D.nx σ' H'
 | .brk=>∃ σ' H',Inv X pins σ' H' s'∧D.bk σ' H'
 | .cont=>∃ σ' H',Inv X pins σ' H' s'∧D.ct σ' H'
 | .ret u=>∃ v σ' H',Inv X pins σ' H' s'∧RelV v u∧D.rt v H'
noncomputable def PE (X : Cx) (e : Expr) (t : TE) : Prop :=
 ∀ (pins : List (Addr × Obj)) (s : Shared) (σ : St) (H : Hp) (Q : VK),Inv X pins σ H s→t σ H Q→wpAny (model X.prog X.w) X.A (eval e X.env) (EP X pins σ Q) X.xe s
noncomputable def PT (X : Cx) (e : Expr) (t : TT) : Prop :=
 ∀ (pins : List (Addr × Obj)) (s : Shared) (σ : St) (H : Hp) (Q : Bool→Hp→Prop),Inv X pins σ H s→t σ H Q→wpAny (model X.prog X.w) X.A (isTrue e X.env (eval e X.env)) (TP X pins σ Q) X.xe s
noncomputable def PW (X : Cx) (e : Expr) (t : TT) : Prop :=
 ∀ (whole : Sem Value) (pins : List (Addr × Obj)) (s : Shared) (σ : St) (H : Hp) (Q : Bool→Hp→Prop),Inv X pins σ H s→t σ H Q→wpAny (model X.prog X.w) X.A (isTrue e X.env whole) (TP X pins σ Q) X.xe s
theorem PW.pt {X : Cx} {e : Expr} {t : TT} (h : PW X e t) : PT X e t:=h _
noncomputable def PA (X : Cx) (es : List Expr) (t : TA) : Prop :=
 ∀ (pos : Pos) (pins : List (Addr × Obj)) (s : Shared) (σ : St) (H : Hp) (Q : List V→Hp→Prop),Inv X pins σ H s→t σ H Q→wpAny (model X.prog X.w) X.A (spliced (backTo pos (starEach es X.env))) (AP X pins σ Q) X.xe s
noncomputable def PS (X : Cx) (st : Stmt) (t : TS) : Prop :=
 ∀ (pins : List (Addr × Obj)) (s : Shared) (σ : St) (H : Hp) (D : Ends),Inv X pins σ H s→t D σ H→wpAny (model X.prog X.w) X.A (exec st X.env) (SP X pins D) X.xe s
noncomputable def PSs (X : Cx) (st : List Stmt) (t : TS) : Prop :=
 ∀ (pins : List (Addr × Obj)) (s : Shared) (σ : St) (H : Hp) (D : Ends),Inv X pins σ H s→t D σ H→wpAny (model X.prog X.w) X.A (execs st X.env) (SP X pins D) X.xe s
theorem thn {α : Type} {t : Sem α} {Q Q' : α→Shared→Prop} {M : Model} {A : Around} {E : Value→Shared→Prop} {s : Shared} (h : wpAny M A t Q E s) (hQ : ∀ a s,Q a s→Q' a s) : wpAny M A t Q' E s:=wpAny_mono h hQ fun _ _ x=>x
end L2
namespace L2
open PySem PySem.Spec PyProof.Rows
section
variable {X : Cx}
noncomputable def tVar (i : Nat) : TE:=fun σ H Q=>∃ v,σ[i]? = some (some v)∧Q v H
noncomputable def tC (v : V) : TE:=fun _ H Q=>Q v H
theorem pe_var {i : Nat} {x : Str} {pos : Pos} (hN : X.N[i]? = some x) (hv : Vis X.env.scope x) (hd : (x == ("__debug__" : Str)) = false:=by decide) (hcd : (x == ("__classdict__" : Str)) = false:=by decide) : PE X (.Name x pos) (tVar i):=by
 intro pins s σ H Q I h
 obtain ⟨v,e,h⟩:=h
 obtain ⟨m,hn,hl⟩:=I.loc
 obtain ⟨u,r,l⟩:=hl i x v hN e hv
 have fin : EP X pins σ Q u s:=⟨v,H,I,r,h⟩
 rcases l with ⟨hk,hm⟩ | ⟨hk,c,hc,hcell⟩
 ·exact wpAny_Name (wpAny_loadName_local I.ok.kind hk hn hm fin) hd
 ·rcases hk with hk | hk
  ·exact wpAny_Name (wpAny_loadName_cell I.ok.kind hk hc hcell fin) hd
  ·exact wpAny_Name (wpAny_loadName_free I.ok.kind hk hc hcell fin hcd) hd
theorem ja5 {i j pos} : PE X (.Constant (.int i) j pos) (tC (.int i)):=fun _ _ _ H _ I h=>wpAny_Constant_int ⟨.int i,H,I.tok _,⟨_,rfl⟩,h⟩
theorem jd8 {b j pos} : PE X (.Constant (.bool b) j pos) (tC (.bl b)):=fun _ _ _ H _ I h=>Constant_bool ⟨.bl b,H,I,rfl,h⟩
theorem jjf {j pos} : PE X (.Constant .none j pos) (tC .non):=fun _ _ _ H _ I h=>Constant_none ⟨.non,H,I,rfl,h⟩
theorem pe_str {x j pos} : PE X (.Constant (.str x) j pos) (tC (.str x)):=fun _ _ _ H _ I h=>Calls.Constant_str ⟨.str x,H,I.tok _,⟨_,rfl⟩,h⟩
noncomputable def Gl (X : Cx) (x : Str) : Prop:=X.env.kindOf x = some .globalImplicit
theorem jda {E : Value→Shared→Prop} {pins : List (Addr × Obj)} {s : Shared} {σ : St} {H : Hp} {x : Str} {u : Value} {pos : Pos} {Q : Value→Shared→Prop} (I : Inv X pins σ H s) (hg : Gl X x) (hm : X.mg x = some u) (h : Q u s)
  (hd : (x == ("__debug__" : Str)) = false:=by decide) : wpAny (model X.prog X.w) X.A (eval (.Name x pos) X.env) Q E s :=
 Calls.Name_function_global I.ok.kind hg (Calls.loadGlobal_global (by rw [I.ok.glob]; exact I.mod.glob.keeps I.bk) hm h) hd
theorem jf3 {E : Value→Shared→Prop} {pins : List (Addr × Obj)} {s : Shared} {σ : St} {H : Hp} {x : Str} {u : Value} {pos : Pos} {Q : Value→Shared→Prop} (I : Inv X pins σ H s) (hg : Gl X x) (hm : X.mg x = none) (hv : bootBuiltins x = some u) (h : Q u s)
  (hn : x ≠ "__name__":=by decide) (hd : (x == ("__debug__" : Str)) = false:=by decide) : wpAny (model X.prog X.w) X.A (eval (.Name x pos) X.env) Q E s:=by
 obtain ⟨mb,h1,h2⟩:=I.mod.blt
 exact Calls.Name_function_global I.ok.kind hg (Calls.loadGlobal_builtin (by rw [I.ok.glob]; exact I.mod.glob.keeps I.bk) hm (by rw [I.ok.blt]; exact h1.keeps I.bk) ((h2 x hn).trans hv) h) hd
theorem jem {x : Str} {v : V} {u : Value} {pos : Pos} (hg : Gl X x) (hm : X.mg x = some u) (r : RelV v u) (hd : (x == ("__debug__" : Str)) = false:=by decide) : PE X (.Name x pos) (tC v) :=
 fun _ _ _ H _ I h=>jda I hg hm ⟨v,H,I,r,h⟩ hd
theorem jbg {x : Str} {v : V} {u : Value} {pos : Pos} (hg : Gl X x) (hm : X.mg x = none) (hv : bootBuiltins x = some u) (r : RelV v u) (hn : x ≠ "__name__":=by decide) (hd : (x == ("__debug__" : Str)) = false:=by decide) : PE X (.Name x pos) (tC v) :=
 fun _ _ _ H _ I h=>jf3 I hg hm hv ⟨v,H,I,r,h⟩ hn hd
variable {a b : Expr} {ta tb : TE} {pos : Pos}
noncomputable def PC (X : Cx) (op : CmpOp) (a b : Expr) (t : TE) : Prop :=
 ∀ (pins : List (Addr × Obj)) (s : Shared) (σ : St) (H : Hp) (Q : VK),Inv X pins σ H s→t σ H Q →
  wpAny (model X.prog X.w) X.A (eval a X.env) (fun v s₁=>wpAny (model X.prog X.w) X.A (eval b X.env) (fun u s₂=>wpAny (model X.prog X.w) X.A (compareOp op v u) (EP X pins σ Q) X.xe s₂) X.xe s₁) X.xe s
theorem jjk (b : Expr) {op : CmpOp} (h : op ≠ .In) (h2 : op ≠ .NotIn) : behindInMarks op b = false:=by
 have e1 : (op == CmpOp.In) = false:=by cases op <;> first | rfl | exact absurd rfl h
 have e2 : (op == CmpOp.NotIn) = false:=by cases op <;> first | rfl | exact absurd rfl h2
 cases b <;> simp [behindInMarks,e1,e2]
noncomputable def tB (t : TE) : TT:=fun σ H Q=>t σ H fun x H1=>∃ c,x = .bl c∧Q c H1
theorem jpq {op : CmpOp} {t : TE} (h : PC X op a b t) (h1 : behindInMarks op b = false:=by first | exact jjk _ (by decide) (by decide) | rfl) : PE X (.Compare a [op] [b] pos) t:=fun pins s σ H Q I hw=>wpAny_Compare1 (h pins s σ H Q I hw) h1
theorem pt_cmp {op : CmpOp} {t : TE} (h : PC X op a b t) (h1 : behindInMarks op b = false:=by first | exact jjk _ (by decide) (by decide) | rfl) : PT X (.Compare a [op] [b] pos) (tB t):=by
 intro pins s σ H Q I hw
 refine wpAny_isTrue_Compare1 (thn (h pins s σ H _ I hw) fun v s1 h1=>thn h1 fun u s2 h2=>thn h2 fun c s3 ⟨x,H1,I1,r1,q1⟩=>?_) h1
 obtain ⟨d,rfl,q⟩:=q1
 cases r1
 exact wpAny_truthy_bool ⟨H1,I1,q⟩
variable {tA tB' : TT} {rest : List Expr}
noncomputable def tAnd (t u : TT) : TT:=fun σ H Q=>t σ H fun c H1=>if c = true then u σ H1 Q else Q false H1
noncomputable def tOr (t u : TT) : TT:=fun σ H Q=>t σ H fun c H1=>if c = true then Q true H1 else u σ H1 Q
noncomputable def tNot (t : TT) : TT:=fun σ H Q=>t σ H fun c H1=>Q (!c) H1
theorem jd7 (ha : PT X a tA) : PW X (.BoolOp .And [a] pos) tA:=by
 intro wh pins s σ H Q I h
 refine isTrue_and (thn (ha pins s σ H Q I h) fun c s1 e=>?_)
 cases c with
 | true=>exact isTrue_and_nil e
 | false=>exact e
theorem jgu (ha : PT X a tA) : PW X (.BoolOp .Or [a] pos) tA:=by
 intro wh pins s σ H Q I h
 refine isTrue_or (thn (ha pins s σ H Q I h) fun c s1 e=>?_)
 cases c with
 | false=>exact isTrue_or_nil e
 | true=>exact e
theorem jek (ha : PT X a tA) (hb : PW X (.BoolOp .And (b :: rest) pos) tB') : PW X (.BoolOp .And (a :: b :: rest) pos) (tAnd tA tB'):=by
 intro wh pins s σ H Q I h
 refine isTrue_and (thn (ha pins s σ H _ I h) fun c s1 ⟨H1,I1,q1⟩=>?_)
 cases c with
 | true=>exact hb wh pins s1 σ H1 Q I1 q1
 | false=>exact ⟨H1,I1,q1⟩
theorem jls (ha : PT X a tA) (hb : PW X (.BoolOp .Or (b :: rest) pos) tB') : PW X (.BoolOp .Or (a :: b :: rest) pos) (tOr tA tB'):=by
 intro wh pins s σ H Q I h
 refine isTrue_or (thn (ha pins s σ H _ I h) fun c s1 ⟨H1,I1,q1⟩=>?_)
 cases c with
 | true=>exact ⟨H1,I1,q1⟩
 | false=>exact hb wh pins s1 σ H1 Q I1 q1
theorem jc6 (ha : PT X a tA) : PT X (.UnaryOp .Not a pos) (tNot tA):=by
 intro pins s σ H Q I h
 exact isTrue_not (ha pins s σ H (fun c H1=>Q (!c) H1) I h)
theorem jd6 {op} {t : TE} (h : PE X a t) : PE X (.BoolOp op [a] pos) t:=fun pins s σ H Q I hw=>BoolOp_one (h pins s σ H Q I hw)
noncomputable def tIf (t : TT) (ta tb : TE) : TE:=fun σ H Q=>t σ H fun c H1=>if c = true then ta σ H1 Q else tb σ H1 Q
theorem je9 {c : Expr} (hc : PT X c tA) (ha : PE X a ta) (hb : PE X b tb) : PE X (.IfExp c a b pos) (tIf tA ta tb):=by
 intro pins s σ H Q I h
 refine wpAny_IfExp (thn (hc pins s σ H _ I h) fun d s1 ⟨H1,I1,q1⟩=>?_)
 cases d with
 | true=>exact ha pins s1 σ H1 Q I1 q1
 | false=>exact hb pins s1 σ H1 Q I1 q1
end
end L2
namespace L2
open PySem PySem.Spec PyProof.Rows
noncomputable def SqL (K : PySem.W.Frag) (H : Hp) (a : Addr) (xs : List V) : Prop :=
 Rd H a (.lst xs) ∨
  ∃ (o : Obj) (its : Array Value) (n : Nat),K.lookup a = some o∧o.cls = .type "list"∧o.dict = none∧o.data = .seq its n∧its.size ≤ sizeLine∧Vals xs its.toList
noncomputable def SqT (K : PySem.W.Frag) (H : Hp) (a : Addr) (xs : List V) : Prop :=
 Rd H a (.tup xs) ∨
  ∃ (o : Obj) (its : Array Value) (n : Nat),K.lookup a = some o∧o.cls = .type "tuple"∧o.data = .seq its n∧its.size ≤ sizeLine∧Vals xs its.toList
noncomputable def absV : Value→Option V
 | .none=>some .non
 | .bool b=>some (.bl b)
 | .int i _=>some (.int i)
 | .str x _=>some (.str x)
 | .bytes b _=>some (.byt b)
 | .float b _=>some (.flt b)
 | .ref a=>some (.ref a)
 | .type n=>some (.ty n)
 | _=>none
theorem RelV.abs {x : V} {u : Value} (r : RelV x u) : absV u = some x:=by
 cases x with
 | non=>cases r; rfl
 | bl _=>cases r; rfl
 | int _=>obtain ⟨t,rfl⟩:=r; rfl
 | str _=>obtain ⟨t,rfl⟩:=r; rfl
 | byt _=>obtain ⟨t,rfl⟩:=r; rfl
 | flt _=>obtain ⟨t,rfl⟩:=r; rfl
 | ref _=>cases r; rfl
 | ty _=>cases r; rfl
theorem RelV.inj {x y : V} {u : Value} (r : RelV x u) (q : RelV y u) : x = y:=Option.some.inj (r.abs.symm.trans q.abs)
theorem Vals.inj : ∀ {xs ys : List V} {us : List Value},Vals xs us→Vals ys us→xs = ys
 | _,_,_,.nil,.nil=>rfl
 | _,_,_,.cons r t,.cons r' t'=>by rw [r.inj r',Vals.inj t t']
section
variable {X : Cx} {pins : List (Addr × Obj)} {σ : St} {H : Hp} {s : Shared} {a : Addr} {xs ys : List V}
theorem SqL.of {K : PySem.W.Frag} (h : H a = some (.lst xs)) : SqL K H a xs:=.inl (.inl h)
theorem SqT.of {K : PySem.W.Frag} (h : H a = some (.tup xs)) : SqT K H a xs:=.inl (.inl h)
theorem Inv.list (I : Inv X pins σ H s) (h : SqL X.K H a xs) : ∃ its : List Value,Vals xs its∧PlainL s.heap a its.toArray∧xs.length ≤ sizeLine:=by
 rcases h with h | ⟨o,its,n,hk,hc,hd,hs,hz,r⟩
 ·obtain ⟨z,its,n,r,e⟩:=h.ok I.hok
  exact ⟨its,r,⟨_,n,e,rfl,rfl,rfl⟩,z⟩
 ·refine ⟨its.toList,r,⟨o,n,I.kIn a o hk,hc,hd,by simpa using hs⟩,?_⟩
  have e:=r.length
  simp only [Array.length_toList] at e
  omega
theorem Inv.tuple (I : Inv X pins σ H s) (h : SqT X.K H a xs) : ∃ its : List Value,Vals xs its∧IsTup s.heap a its.toArray∧xs.length ≤ sizeLine:=by
 rcases h with h | ⟨o,its,n,hk,hc,hs,hz,r⟩
 ·obtain ⟨z,its,r,p⟩:=h.ok I.hok
  exact ⟨its,r,p,z⟩
 ·refine ⟨its.toList,r,⟨o,I.kIn a o hk,hc,n,by simpa using hs⟩,?_⟩
  have e:=r.length
  simp only [Array.length_toList] at e
  omega
theorem Inv.list_inj (I : Inv X pins σ H s) (h : SqL X.K H a xs) (h' : SqL X.K H a ys) : xs = ys:=by
 obtain ⟨its,r,⟨o,n,e,_,_,d⟩,_⟩:=I.list h
 obtain ⟨its',r',⟨o',n',e',_,_,d'⟩,_⟩:=I.list h'
 rw [e] at e'; cases e'
 rw [d] at d'
 injection d' with d1 _
 have : its = its':=by simpa using congrArg Array.toList d1
 subst this
 exact r.inj r'
theorem Inv.tuple_inj (I : Inv X pins σ H s) (h : SqT X.K H a xs) (h' : SqT X.K H a ys) : xs = ys:=by
 obtain ⟨its,r,⟨o,e,_,n,d⟩,_⟩:=I.tuple h
 obtain ⟨its',r',⟨o',e',_,n',d'⟩,_⟩:=I.tuple h'
 rw [e] at e'; cases e'
 rw [d] at d'
 injection d' with d1 _
 have : its = its':=by simpa using congrArg Array.toList d1
 subst this
 exact r.inj r'
end
noncomputable abbrev Cx.wish (X : Cx) (E : Value→Shared→Prop) : Cx:={ X with xe:=E }
noncomputable abbrev Cx.nox (X : Cx) : Cx:=X.wish fun _ _=>False
theorem Cx.Ok.wish {X : Cx} (ok : X.Ok) (E : Value→Shared→Prop) : (X.wish E).Ok :=
 ⟨ok.mod,ok.kind,ok.glob,ok.blt,ok.above,ok.inj,ok.has,ok.cab,ok.hd,ok.frames,ok.stk,ok.exf,ok.bs,ok.bsz,ok.noex,ok.exfs,ok.funs,ok.frf⟩
theorem Cx.Ok.unwish {X : Cx} {E : Value→Shared→Prop} (ok : (X.wish E).Ok) : X.Ok :=
 ⟨ok.mod,ok.kind,ok.glob,ok.blt,ok.above,ok.inj,ok.has,ok.cab,ok.hd,ok.frames,ok.stk,ok.exf,ok.bs,ok.bsz,ok.noex,ok.exfs,ok.funs,ok.frf⟩
section
variable {X : Cx} {pins : List (Addr × Obj)} {σ : St} {H : Hp} {s : Shared} {E : Value→Shared→Prop}
theorem Inv.wish (I : Inv X pins σ H s) (E : Value→Shared→Prop) : Inv (X.wish E) pins σ H s:=⟨I.ok.wish E,I.os,I.bare,I.base,I.loc,I.cell,I.free,I.freeC,I.pin,I.hok,I.len⟩
theorem Inv.unwish (I : Inv (X.wish E) pins σ H s) : Inv X pins σ H s:=⟨I.ok.unwish,I.os,I.bare,I.base,I.loc,I.cell,I.free,I.freeC,I.pin,I.hok,I.len⟩
theorem SP.unwish {D : Ends} {f : Flow} {s' : Shared} (h : SP (X.wish E) pins D f s') : SP X pins D f s':=by
 cases f with
 | next=>obtain ⟨σ',H',I,q⟩:=h; exact ⟨σ',H',I.unwish,q⟩
 | brk=>obtain ⟨σ',H',I,q⟩:=h; exact ⟨σ',H',I.unwish,q⟩
 | cont=>obtain ⟨σ',H',I,q⟩:=h; exact ⟨σ',H',I.unwish,q⟩
 | ret u=>obtain ⟨v,σ',H',I,r,q⟩:=h; exact ⟨v,σ',H',I.unwish,r,q⟩
theorem PSs.nox {st : List Stmt} {t : TS} (h : PSs X.nox st t) : PSs X st t:=fun pins s σ H D I hw =>
 wpAny_mono (h pins s σ H D (I.wish _) hw) (fun _ _ q=>q.unwish) fun _ _ z=>False.elim z
end
section
variable {X : Cx} {st : Stmt} {rest : List Stmt} {t u : TS} {e : Expr} {te : TE} {pos : Pos}
noncomputable def jqd : TS:=fun D σ H=>D.nx σ H
noncomputable def tSeq (t u : TS) : TS:=fun D σ H=>t { D with nx:=u D } σ H
theorem jai : PSs X [] jqd:=fun _ _ σ H _ I h=>wpAny_execs_nil ⟨σ,H,I,h⟩
theorem ja4 (h1 : PS X st t) (h2 : PSs X rest u) : PSs X (st :: rest) (tSeq t u):=by
 intro pins s σ H D I h
 refine wpAny_execs_cons (thn (h1 pins s σ H { D with nx:=u D } I h) fun f s1 q=>?_)
 cases f with
 | next =>
  obtain ⟨σ',H',I',q⟩:=q
  exact h2 pins s1 σ' H' D I' q
 | ret v=>exact q
 | brk=>exact q
 | cont=>exact q
theorem ja6 (h1 : PS X st t) : PSs X [st] t:=by
 intro pins s σ H D I h
 refine wpAny_execs_cons (thn (h1 pins s σ H D I h) fun f s1 q=>?_)
 cases f with
 | next=>exact wpAny_execs_nil q
 | ret v=>exact q
 | brk=>exact q
 | cont=>exact q
theorem Inv.quiet {pins : List (Addr × Obj)} {σ : St} {H : Hp} {s : Shared} (I : Inv X pins σ H s) : interactive X.env = false:=by simp [interactive,I.ok.kind]
noncomputable def jqe (te : TE) : TS:=fun D σ H=>te σ H fun _ H1=>D.nx σ H1
theorem jbm (he : PE X e te) (hs : swapsWith e none pos.line X.env = pure false:=by rfl) : PS X (.Expr e pos) (jqe te):=by
 intro pins s σ H D I h
 exact wpAny_Expr_any (thn (he pins s σ H _ I h) fun v s1 ⟨x,H1,I1,r1,q1⟩=>⟨σ,H1,I1,q1⟩) I.quiet hs
noncomputable def tRet (te : TE) : TS:=fun D σ H=>te σ H D.rt
theorem jag (he : PE X e te) : PS X (.Return (some e) pos) (tRet te):=by
 intro pins s σ H D I h
 exact wpAny_Return_some (thn (he pins s σ H _ I h) fun v s1 ⟨x,H1,I1,r1,q1⟩=>⟨x,σ,H1,I1,r1,q1⟩)
noncomputable def tRetN : TS:=fun D _ H=>D.rt .non H
noncomputable def tIfS (c : TT) (t u : TS) : TS:=fun D σ H=>c σ H fun b H1=>if b = true then t D σ H1 else u D σ H1
theorem jbf {c : Expr} {a b : List Stmt} {tc : TT} (hc : PT X c tc) (ha : PSs X a t) (hb : PSs X b u) : PS X (.If c a b pos) (tIfS tc t u):=by
 intro pins s σ H D I h
 refine wpAny_If (thn (hc pins s σ H _ I h) fun d s1 ⟨H1,I1,q1⟩=>?_)
 cases d with
 | true=>exact ha pins s1 σ H1 D I1 q1
 | false=>exact hb pins s1 σ H1 D I1 q1
noncomputable def tNever : TS:=fun _ _ _=>False
theorem jcz : PS X st tNever:=fun _ _ _ _ _ _ h=>h.elim
end
noncomputable abbrev TG:=V→St→Hp→(St→Hp→Prop)→Prop
noncomputable abbrev TGs:=List V→St→Hp→(St→Hp→Prop)→Prop
noncomputable def PG (X : Cx) (target : Expr) (t : TG) : Prop :=
 ∀ (pins : List (Addr × Obj)) (s : Shared) (σ : St) (H : Hp) (v : V) (u : Value) (Q : St→Hp→Prop),Inv X pins σ H s→RelV v u→t v σ H Q →
  wpAny (model X.prog X.w) X.A (assign target X.env u) (fun _ s'=>∃ σ' H',Inv X pins σ' H' s'∧Q σ' H') X.xe s
noncomputable def PGs (X : Cx) (ts : List Expr) (t : TGs) : Prop :=
 ∀ (pins : List (Addr × Obj)) (s : Shared) (σ : St) (H : Hp) (vs : List V) (us : List Value) (Q : St→Hp→Prop),Inv X pins σ H s→Vals vs us→t vs σ H Q →
  wpAny (model X.prog X.w) X.A (assignInOrder ((assignEach ts X.env).map (·.2)) us) (fun _ s'=>∃ σ' H',Inv X pins σ' H' s'∧Q σ' H') X.xe s
noncomputable abbrev TSet:=V→V→V→Hp→(Hp→Prop)→Prop
noncomputable def PSet (X : Cx) (t : TSet) : Prop :=
 ∀ (pins : List (Addr × Obj)) (s : Shared) (σ : St) (H : Hp) (o i v : V) (ov iv u : Value) (Q : Hp→Prop),Inv X pins σ H s→RelV o ov→RelV i iv→RelV v u→t o i v H Q →
  wpAny (model X.prog X.w) X.A (setItem ov iv u) (fun _ s'=>∃ H',Inv X pins σ H' s'∧Q H') X.xe s
noncomputable abbrev TIp:=V→V→Hp→VK→Prop
noncomputable def PIp (X : Cx) (op : Operator) (t : TIp) : Prop :=
 ∀ (pins : List (Addr × Obj)) (s : Shared) (σ : St) (H : Hp) (x y : V) (v u : Value) (Q : VK),Inv X pins σ H s→RelV x v→RelV y u→t x y H Q →
  wpAny (model X.prog X.w) X.A (inplaceOp op v u) (EP X pins σ Q) X.xe s
section
variable {X : Cx} {pos : Pos}
noncomputable def jf7 (i : Nat) : TG:=fun v σ H Q=>Q (σ.set i (some v)) H
theorem jab {i : Nat} {x : Str} (hN : X.N.Nodup) (hi : X.N[i]? = some x) (hx : Loc X.env.scope x) (hf : X.fn x = true ∨ X.env.scope.names.lookup x = some .local:=by first | exact .inl rfl | exact .inr rfl | assumption) : PG X (.Name x pos) (jf7 i):=by
 intro pins s σ H v u Q I r h
 exact wpAny_assign_Name (je6 I hN hi hx r (fun s' I'=>⟨_,H,I',h⟩) hf)
noncomputable def gNil : TGs:=fun vs σ H Q=>vs = []∧Q σ H
noncomputable def gCons (t : TG) (u : TGs) : TGs:=fun vs σ H Q=>∃ v r,vs = v :: r∧t v σ H fun σ' H'=>u r σ' H' Q
theorem jqt : PGs X [] gNil:=by
 intro pins s σ H vs us Q I r h
 obtain ⟨e,h⟩:=h
 subst e
 cases r
 exact assignInOrder_nil ⟨σ,H,I,h⟩
theorem jo9 {e : Expr} {es : List Expr} {t : TG} {u : TGs} (h1 : PG X e t) (h2 : PGs X es u)
  (hs : (assignEach (e :: es) X.env).map (·.2) = assign e X.env :: (assignEach es X.env).map (·.2):=by rfl) : PGs X (e :: es) (gCons t u):=by
 intro pins s σ H vs us Q I r h
 obtain ⟨v,vr,e1,h⟩:=h
 subst e1
 cases r with
 | cons r rr =>
  rw [hs]
  refine assignInOrder_cons (thn (h1 pins s σ H _ _ _ I r h) fun _ s1 ⟨σ1,H1,I1,q1⟩=>?_)
  exact h2 pins s1 σ1 H1 _ _ Q I1 rr q1
noncomputable def gTup (K : PySem.W.Frag) (n : Nat) (t : TGs) : TG:=fun v σ H Q=>∃ a xs,v = .ref a∧SqT K H a xs∧xs.length = n∧t xs σ H Q
theorem pg_tup {es : List Expr} {k : Nat} {t : TGs} {n : Nat} (hc : X.calm = true) (h : PGs X es t)
  (hn : (assignEach es X.env).length = n:=by rfl) (hst : (assignEach es X.env).findIdx? (·.1) = none:=by rfl) : PG X (.Tuple es k pos) (gTup X.K n t):=by
 intro pins s σ H v u Q I r hw
 obtain ⟨a,xs,e1,hq,hl,hw⟩:=hw
 subst e1
 cases r
 obtain ⟨its,rv,ht,hz⟩:=I.tuple hq
 refine assign_Tuple_tuple (I.ok.hd hc) ht (by simp [hn,← hl,rv.length]) hst fun h' hx=>?_
 have I1 : Inv X pins σ H { s with heap:=h' }:=I.kept (t':=s.toks) fun b o e=>hx b o (Nat.ne_of_lt (Heap.lt_size e)) e
 exact h pins _ σ H xs _ Q I1 (by simpa using rv) hw
noncomputable def gSub (to ti : TE) (t : TSet) : TG:=fun v σ H Q=>to σ H fun o H1=>ti σ H1 fun i H2=>t o i v H2 fun H3=>Q σ H3
theorem jje {o i : Expr} {to ti : TE} {t : TSet} (ho : PE X o to) (hi : PE X i ti) (hs : PSet X t)
  (ha : ∀ v,assign (.Subscript o i pos) X.env v = (do
   let ov ← holding [v] (eval o X.env)
   let iv ← holding [v,ov] (eval i X.env)
   standAt pos
   holding [v,ov,iv] (setItem ov iv v)
   release [v,ov,iv] []):=by intro _; rfl) : PG X (.Subscript o i pos) (gSub to ti t):=by
 intro pins s σ H v u Q I r h
 rw [ha]
 refine wpAny_bind (wpAny_holding (thn (ho pins s σ H _ I h) fun ov s1 ⟨x,H1,I1,r1,q1⟩=>?_))
 refine wpAny_bind (wpAny_holding (thn (hi pins s1 σ H1 _ I1 q1) fun iv s2 ⟨y,H2,I2,r2,q2⟩=>?_))
 refine wpAny_bind (wpAny_standAt (wpAny_bind (wpAny_holding (thn (hs pins s2 σ H2 x y v ov iv u _ I2 r1 r2 r q2) fun _ s3 ⟨H3,I3,q3⟩=>?_))))
 exact wpAny_release ⟨σ,H3,I3,q3⟩
noncomputable def tAsg (te : TE) (g : TG) : TS:=fun D σ H=>te σ H fun x H1=>g x σ H1 D.nx
theorem jjd {tg e : Expr} {te : TE} {g : TG} (he : PE X e te) (hg : PG X tg g) (hs : swapsWithSole [tg] e pos.line X.env = pure false:=by rfl) (hw : swappedStores [tg] e X.env = pure none:=by rfl)
  (h1 : (assignEach [tg] X.env).map (·.2) = [assign tg X.env]:=by rfl) : PS X (.Assign [tg] e pos) (tAsg te g):=by
 intro pins s σ H D I h
 refine wpAny_Assign_stores (thn (he pins s σ H _ I h) fun v s1 ⟨x,H1,I1,r1,q1⟩=>?_) hs hw
 rw [h1]
 exact thn (hg pins s1 σ H1 x v _ I1 r1 q1) fun _ s2 q=>q
theorem jaj {i : Nat} {x : Str} {e : Expr} {te : TE} {pos' : Pos} (hN : X.N.Nodup) (hi : X.N[i]? = some x) (hx : Loc X.env.scope x) (he : PE X e te) (hs : swapsWith e (some (.Name x pos')) pos.line X.env = pure false:=by rfl) (hf : X.fn x = true ∨ X.env.scope.names.lookup x = some .local:=by first | exact .inl rfl | exact .inr rfl | assumption) :
  PS X (.Assign [.Name x pos'] e pos) (tAsg te (jf7 i)):=by
 intro pins s σ H D I h
 refine wpAny_Assign_Name (thn (he pins s σ H _ I h) fun v s1 ⟨y,H1,I1,r1,q1⟩=>?_) hs
 exact je6 I1 hN hi hx r1 (fun s2 I2=>⟨_,H1,I2,q1⟩) hf
noncomputable def tAug (i : Nat) (te : TE) (ti : TIp) : TS:=fun D σ H=>∃ x,σ[i]? = some (some x)∧te σ H fun y H1=>ti x y H1 fun z H2=>D.nx (σ.set i (some z)) H2
theorem ps_aug {i : Nat} {x : Str} {e : Expr} {te : TE} {op : Operator} {ti : TIp} {pos' : Pos} (hN : X.N.Nodup) (hi : X.N[i]? = some x) (hx : Loc X.env.scope x) (he : PE X e te) (ho : PIp X op ti) (hf : X.fn x = true ∨ X.env.scope.names.lookup x = some .local:=by first | exact .inl rfl | exact .inr rfl | assumption) :
  PS X (.AugAssign (.Name x pos') op e pos) (tAug i te ti):=by
 intro pins s σ H D I h
 obtain ⟨v,e1,h⟩:=h
 obtain ⟨m,hn,hl⟩:=I.loc
 have vis : Vis X.env.scope x:=by rcases hx with k | k; exact .inl k; exact .inr (.inl k)
 obtain ⟨u,r,l⟩:=hl i x v hi e1 vis
 refine wpAny_AugAssign_Name ?_
 have go : wpAny (model X.prog X.w) X.A (eval e X.env) (fun w s₂=>wpAny (model X.prog X.w) X.A (inplaceOp op u w) (fun r s₃=>wpAny (model X.prog X.w) X.A (storeName X.env x r) (fun _=>SP X pins D .next) X.xe s₃) X.xe s₂) X.xe s:=by
  refine thn (he pins s σ H _ I h) fun w s1 ⟨y,H1,I1,r1,q1⟩=>?_
  refine thn (ho pins s1 σ H1 v y u w _ I1 r r1 q1) fun z s2 ⟨zv,H2,I2,r2,q2⟩=>?_
  exact je6 I2 hN hi hx r2 (fun s3 I3=>⟨_,H2,I3,q2⟩) hf
 rcases l with ⟨hk,hm⟩ | ⟨hk,c,hc,hcell⟩
 ·exact wpAny_loadName_local I.ok.kind hk hn hm go
 ·rcases hk with hk | hk
  ·exact wpAny_loadName_cell I.ok.kind hk hc hcell go
  ·rcases hx with k | k
   ·have : X.env.scope.names.lookup x = some .free:=hk
    rw [k] at this; cases this
   ·have : X.env.scope.names.lookup x = some .free:=hk
    rw [k] at this; cases this
end
section
variable {X : Cx} {pos : Pos}
end
structure It where
 go : Nat→Hp→Prop
 yld : Nat→Hp→V→Hp→Prop
 stop : Nat→Hp→Prop
noncomputable def FpOk (X : Cx) (pins : List (Addr × Obj)) (H : Hp) (b : Addr) : Prop :=
 H b = none∧b ≠ X.env.locals∧b ∉ X.fs∧(b ∈ X.ex ∨ X.s₀.heap.objs.size ≤ b)∧(∀ x c,X.env.cells.lookup x = some c→c ≠ b)∧∀ p ∈ X.pn ++ pins,p.1 ≠ b
theorem Inv.fpOk {X : Cx} {pins : List (Addr × Obj)} {σ : St} {H H' : Hp} {s : Shared} {b : Addr} (I : Inv X pins σ H s) (hb : s.heap.objs.size ≤ b) (hn : H' b = none) : FpOk X pins H' b:=by
 refine ⟨hn,Nat.ne_of_gt (Nat.lt_of_lt_of_le I.lt hb),I.nofs hb,.inr (Nat.le_trans I.sz hb),fun x c e z=>?_,fun p hp z=>?_⟩
 ·obtain ⟨v,q⟩:=I.cell x c e
  exact absurd (Nat.lt_of_lt_of_le q.lt (by rw [z]; exact hb)) (Nat.lt_irrefl _)
 ·exact absurd (Nat.lt_of_lt_of_le (Heap.lt_size (I.pin p hp).1) (by rw [z]; exact hb)) (Nat.lt_irrefl _)
structure Turn (P : Program) (w : World) (K : PySem.W.Frag) (tg : Expr) (J : It) (fp : List Addr) (it : Addr) (tn : Nat→Heap→Prop) : Prop where
 mem : it ∈ fp
 obj : ∀ i h,tn i h→∀ b ∈ fp,∃ o,h.get? b = some o∧∀ v,o.data ≠ .cell v
 keep : ∀ i h h',tn i h→(∀ b ∈ fp,∀ o,h.get? b = some o→h'.get? b = some o)→tn i h'
 item : ∀ (X : Cx),X.prog = P→X.w = w→X.K = K→X.calm = true→∀ (i : Nat) (pins : List (Addr × Obj)) (s : Shared) (σ : St) (H : Hp) (E : Value→Shared→Prop),Inv X pins σ H s→(∀ b ∈ fp,FpOk X pins H b)→tn i s.heap→J.go i H →
  wpAny (model P w) X.A (pyNext (.ref it)) (fun r s1=>∃ u,r = some u ∧
   wpAny (model P w) X.A (letOwnedTupleGo tg (.ref it) u) (fun _ s2=>∃ x H',Inv X pins σ H' s2∧RelV x u∧J.yld i H x H'∧tn (i + 1) s2.heap∧∀ b ∈ fp,H' b = none) E s1) E s
 done : ∀ (X : Cx),X.prog = P→X.w = w→X.K = K→X.calm = true→∀ (i : Nat) (pins : List (Addr × Obj)) (s : Shared) (σ : St) (H : Hp) (E : Value→Shared→Prop),Inv X pins σ H s→(∀ b ∈ fp,FpOk X pins H b)→tn i s.heap→J.stop i H →
  wpAny (model P w) X.A (pyNext (.ref it)) (fun r s1=>r = none∧Inv X pins σ H s1) E s
 self : ∀ (A : Around) (i : Nat) (s : Shared) (Q : Value→Shared→Prop) (E : Value→Shared→Prop),tn i s.heap→Q (.ref it) s→wpAny (model P w) A (pyIter (.ref it)) Q E s
noncomputable abbrev TI:=St→Hp→(It→Hp→Prop)→Prop
noncomputable def PIE (X : Cx) (pins : List (Addr × Obj)) (σ : St) (tg : Expr) (R : It→Hp→Prop) (itv : Value) (s2 : Shared) : Prop :=
 ∃ (it : Addr) (fp : List Addr) (tn : Nat→Heap→Prop) (J : It) (H' : Hp),itv = .ref it∧Inv X pins σ H' s2∧Turn X.prog X.w X.K tg J fp it tn∧tn 0 s2.heap∧(∀ b ∈ fp,FpOk X pins H' b)∧R J H'
noncomputable def PI (X : Cx) (tg iter : Expr) (wi : TI) : Prop :=
 ∀ (pins : List (Addr × Obj)) (s : Shared) (σ : St) (H : Hp) (R : It→Hp→Prop),Inv X pins σ H s→wi σ H R →
  wpAny (model X.prog X.w) X.A (eval iter X.env) (fun v s1=>wpAny (model X.prog X.w) X.A (pyIter v) (PIE X pins σ tg R) X.xe s1) X.xe s
theorem jmw {M : Model} {A : Around} {E : Value→Shared→Prop} {s : Shared} {tg : Expr} {it : Addr} {u : Value} {o : Obj} {n : String} {vs : Array Value} {Q : Unit→Shared→Prop} (ho : s.heap.get? it = some o) (hc : o.cls = .type n) (hd : o.data = .fields vs)
    (hn : ["enumerate","zip","dict_itemiterator","dict_reverseitemiterator","odict_iterator","itertools.zip_longest","itertools.pairwise"].contains n = false) (hQ : Q () s) : wpAny M A (letOwnedTupleGo tg (.ref it) u) Q E s:=by
  unfold letOwnedTupleGo
  cases tg <;> first
    | exact wpAny_pure hQ
    | (cases u <;> first
        | exact wpAny_pure hQ
        | (refine wpAny_bind (wpAny_load ho ?_)
           rw [hc,hd]
           show wpAny M A (if (["enumerate","zip","dict_itemiterator","dict_reverseitemiterator","odict_iterator","itertools.zip_longest","itertools.pairwise"].contains n && vs[0]? == some (rawInt _)) = true then _ else _) Q E s
           rw [if_neg (by intro h; rw [hn,Bool.false_and] at h; cases h)]
           exact wpAny_pure hQ))
noncomputable def Itl (K : PySem.W.Frag) (a : Addr) : It :=
 ⟨fun i H=>∃ xs x,SqL K H a xs∧xs[i]? = some x,fun i H x H'=>H' = H∧∀ xs,SqL K H a xs→xs[i]? = some x,fun i H=>∃ xs,SqL K H a xs∧xs.length ≤ i⟩
noncomputable def Itt (K : PySem.W.Frag) (a : Addr) : It :=
 ⟨fun i H=>∃ xs x,SqT K H a xs∧xs[i]? = some x,fun i H x H'=>H' = H∧∀ xs,SqT K H a xs→xs[i]? = some x,fun i H=>∃ xs,SqT K H a xs∧xs.length ≤ i⟩
noncomputable def Itr (lo : Int) (n : Nat) : It:=⟨fun i _=>i < n,fun i H x H'=>H' = H∧x = .int (lo + i),fun i _=>n ≤ i⟩
theorem jky {P : Program} {w : World} {K : PySem.W.Frag} {tg : Expr} (a it : Addr) : Turn P w K tg (Itl K a) [it] it (fun i h=>h.IsListIter it a i) where
 mem:=by simp
 obj:=fun i h st b hb=>by
  have e : b = it:=by simpa using hb
  subst e
  obtain ⟨o,e,c,d⟩:=st
  exact ⟨o,e,fun v z=>by rw [d] at z; cases z⟩
 keep:=fun i h h' st k=>st.at fun o e=>k it (by simp) o e
 item:=by
  intro X hP hw hK hc i pins s σ H E I hf st hg
  subst hP hw hK
  obtain ⟨xs,x,hq,hx⟩:=hg
  obtain ⟨its,rv,p,hz⟩:=I.list hq
  obtain ⟨u,hu,ru⟩:=rv.get hx
  obtain ⟨f0,f1,f2,f3,f4,f5⟩:=hf it (by simp)
  refine wpAny_pyNext_list_item st p.isList (x:=u) (by simpa using hu) fun h' st' sb=>?_
  have I1 : Inv X pins σ H { s with heap:=h' }:=I.turned (t':=s.toks) (fun b o hb e=>(sb.2 b hb).trans e) f0 f1 f3 f4 f5
  obtain ⟨o,e,c,d⟩:=id st'
  exact ⟨u,rfl,jmw (s:={ s with heap:=h' }) e c d (by decide) ⟨x,H,I1,ru,⟨rfl,fun ys hy=>by rw [I.list_inj hy hq]; exact hx⟩,st',fun b hb=>(hf b hb).1⟩⟩
 done:=by
  intro X hP hw hK hc i pins s σ H E I hf st hg
  subst hP hw hK
  obtain ⟨xs,hq,hx⟩:=hg
  obtain ⟨its,rv,p,hz⟩:=I.list hq
  obtain ⟨f0,f1,f2,f3,f4,f5⟩:=hf it (by simp)
  have hl:=rv.length
  exact wpAny_pyNext_list_end (I.ok.hd hc) st p.isList (by simp; omega) fun h' eb=>⟨rfl,I.turned (t':=s.toks) (fun b o hb e=>eb b o hb e) f0 f1 f3 f4 f5⟩
 self:=fun _ _ _ _ _ st h=>wpAny_pyIter_listiter st h
theorem jk0 {P : Program} {w : World} {K : PySem.W.Frag} {tg : Expr} (a it : Addr) : Turn P w K tg (Itt K a) [it] it (fun i h=>h.IsTupleIter it a i) where
 mem:=by simp
 obj:=fun i h st b hb=>by
  have e : b = it:=by simpa using hb
  subst e
  obtain ⟨o,e,c,d⟩:=st
  exact ⟨o,e,fun v z=>by rw [d] at z; cases z⟩
 keep:=fun i h h' st k=>st.at fun o e=>k it (by simp) o e
 item:=by
  intro X hP hw hK hc i pins s σ H E I hf st hg
  subst hP hw hK
  obtain ⟨xs,x,hq,hx⟩:=hg
  obtain ⟨its,rv,p,hz⟩:=I.tuple hq
  obtain ⟨u,hu,ru⟩:=rv.get hx
  obtain ⟨f0,f1,f2,f3,f4,f5⟩:=hf it (by simp)
  refine wpAny_pyNext_tuple_item st (show s.heap.IsTuple a its.toArray from p) (x:=u) (by simpa using hu) fun h' st' sb=>?_
  have I1 : Inv X pins σ H { s with heap:=h' }:=I.turned (t':=s.toks) (fun b o hb e=>(sb.2 b hb).trans e) f0 f1 f3 f4 f5
  obtain ⟨o,e,c,d⟩:=id st'
  exact ⟨u,rfl,jmw (s:={ s with heap:=h' }) e c d (by decide) ⟨x,H,I1,ru,⟨rfl,fun ys hy=>by rw [I.tuple_inj hy hq]; exact hx⟩,st',fun b hb=>(hf b hb).1⟩⟩
 done:=by
  intro X hP hw hK hc i pins s σ H E I hf st hg
  subst hP hw hK
  obtain ⟨xs,hq,hx⟩:=hg
  obtain ⟨its,rv,p,hz⟩:=I.tuple hq
  obtain ⟨f0,f1,f2,f3,f4,f5⟩:=hf it (by simp)
  have hl:=rv.length
  exact wpAny_pyNext_tuple_end (I.ok.hd hc) st (show s.heap.IsTuple a its.toArray from p) (by simp; omega) fun h' eb=>⟨rfl,I.turned (t':=s.toks) (fun b o hb e=>eb b o hb e) f0 f1 f3 f4 f5⟩
 self:=fun _ _ _ _ _ st h=>wpAny_pyIter_tupleiter st h
theorem jk1 {P : Program} {w : World} {K : PySem.W.Frag} {tg : Expr} (it : Addr) (lo : Int) (n : Nat) : Turn P w K tg (Itr lo n) [it] it (fun i h=>IsRangeIter h it (lo + (i : Nat) * 1) ((n : Int) - (i : Nat)) 1) where
 mem:=by simp
 obj:=fun i h st b hb=>by
  have e : b = it:=by simpa using hb
  subst e
  exact ⟨_,st,fun v z=>by
   have z' : Data.fields _ = Data.cell v:=z
   cases z'⟩
 keep:=fun i h h' st k=>k it (by simp) _ st
 item:=by
  intro X hP hw hK hc i pins s σ H E I hf st hg
  subst hP hw hK
  obtain ⟨f0,f1,f2,f3,f4,f5⟩:=hf it (by simp)
  have W:=Walks.range (prog:=X.prog) (w:=X.w) (I.ok.hd hc) it lo 1 n
  refine W.item i s _ _ hg st fun v h' tk hv st' kk=>?_
  obtain ⟨t,rfl⟩:=hv
  have I1 : Inv X pins σ H { s with heap:=h',toks:=tk }:=I.turned (fun b o hb e=>kk b o (by simpa using hb) e) f0 f1 f3 f4 f5
  refine ⟨_,rfl,jmw (s:={ s with heap:=h',toks:=tk }) (n:="range_iterator") st' rfl rfl (by decide) ⟨.int (lo + i),H,I1,⟨t,?_⟩,⟨rfl,rfl⟩,st',fun b hb=>(hf b hb).1⟩⟩
  rw [Int.mul_one]
 done:=by
  intro X hP hw hK hc i pins s σ H E I hf st hg
  subst hP hw hK
  obtain ⟨f0,f1,f2,f3,f4,f5⟩:=hf it (by simp)
  exact wpAny_pyNext_range_end (I.ok.hd hc) st (by have : n ≤ i:=hg; omega) fun h' eb=>⟨rfl,I.turned (t':=s.toks) (fun b o hb e=>eb b o hb e) f0 f1 f3 f4 f5⟩
 self:=fun _ _ _ _ _ st h=>wpAny_pyIter_rangeiter st h
end L2
namespace L2
open PySem PySem.Spec PyProof.Rows
section
variable {X : Cx} {tg : Expr}
noncomputable def jcb (K : PySem.W.Frag) (tl : TE) : TI:=fun σ H R=>tl σ H fun x H1=>∃ a,x = .ref a∧(∃ xs,SqL K H1 a xs)∧R (Itl K a) H1
noncomputable def iTup (K : PySem.W.Frag) (tl : TE) : TI:=fun σ H R=>tl σ H fun x H1=>∃ a,x = .ref a∧(∃ xs,SqT K H1 a xs)∧R (Itt K a) H1
theorem jb7 {l : Expr} {tl : TE} (hl : PE X l tl) : PI X tg l (jcb X.K tl):=by
 intro pins s σ H R I h
 refine thn (hl pins s σ H _ I h) fun v s1 ⟨x,H1,I1,r1,q1⟩=>?_
 obtain ⟨a,e,⟨xs,hq⟩,q⟩:=q1
 subst e
 cases r1
 obtain ⟨its,rv,p,hz⟩:=I1.list hq
 refine wpAny_pyIter_list p.isList ?_
 refine ⟨s1.heap.objs.size,[s1.heap.objs.size],_,_,H1,rfl,I1.kept (t':=s1.toks) fun b o e=>Heap.get?_push_of_some _ e,jky a _,⟨_,Heap.get?_push_size _ rfl,rfl,rfl⟩,fun b hb=>?_,q⟩
 have e : b = s1.heap.objs.size:=by simpa using hb
 subst e
 exact I1.fpOk (Nat.le_refl _) (I1.hok.fresh (Nat.le_refl _))
theorem jpp {l : Expr} {tl : TE} (hl : PE X l tl) : PI X tg l (iTup X.K tl):=by
 intro pins s σ H R I h
 refine thn (hl pins s σ H _ I h) fun v s1 ⟨x,H1,I1,r1,q1⟩=>?_
 obtain ⟨a,e,⟨xs,hq⟩,q⟩:=q1
 subst e
 cases r1
 obtain ⟨its,rv,p,hz⟩:=I1.tuple hq
 refine wpAny_pyIter_tuple (show s1.heap.IsTuple a its.toArray from p) ?_
 refine ⟨s1.heap.objs.size,[s1.heap.objs.size],_,_,H1,rfl,I1.kept (t':=s1.toks) fun b o e=>Heap.get?_push_of_some _ e,jk0 a _,⟨_,Heap.get?_push_size _ rfl,rfl,rfl⟩,fun b hb=>?_,q⟩
 have e : b = s1.heap.objs.size:=by simpa using hb
 subst e
 exact I1.fpOk (Nat.le_refl _) (I1.hok.fresh (Nat.le_refl _))
theorem jj9 {pins : List (Addr × Obj)} {σ : St} {H : Hp} {s : Shared} {R : It→Hp→Prop} {E : Value→Shared→Prop} {lo hi : Int} {t u v : Tok} {tk : Nat} (I : Inv X pins σ H s) (h1 : -(2 ^ 62) ≤ lo) (h2 : lo < 2 ^ 62) (h3 : -(2 ^ 62) ≤ hi) (h4 : hi < 2 ^ 62)
  (q : R (Itr lo (hi - lo).toNat) H) : wpAny (model X.prog X.w) X.A (pyIter (.ref s.heap.objs.size)) (PIE X pins σ tg R) E { s with heap:=s.heap.push { cls:=.type "range",data:=.fields #[.int lo t,.int hi u,.int 1 v] },toks:=tk }:=by
 refine wpAny_pyIter_range (IsRange.new ..) (small_one h1 h2 h3 h4) ?_
 have I1 : Inv X pins σ H { s with heap:=s.heap.push { cls:=.type "range",data:=.fields #[.int lo t,.int hi u,.int 1 v] },toks:=tk }:=I.kept fun b o e=>Heap.get?_push_of_some _ e
 refine ⟨(s.heap.push { cls:=.type "range",data:=.fields #[.int lo t,.int hi u,.int 1 v] }).objs.size,[(s.heap.push { cls:=.type "range",data:=.fields #[.int lo t,.int hi u,.int 1 v] }).objs.size],_,_,H,rfl,
  I1.kept (t':=tk) fun b o e=>Heap.get?_push_of_some _ e,jk1 _ lo (hi - lo).toNat,?_,fun b hb=>?_,q⟩
 ·have e1 : lo + ((0 : Nat) : Int) * 1 = lo:=by simp
  have e2 : (((hi - lo).toNat : Nat) : Int) - ((0 : Nat) : Int) = Builtin.Range.rangeSize lo hi 1:=by rw [rangeSize_one]; split <;> omega
  show IsRangeIter _ _ (lo + ((0 : Nat) : Int) * 1) ((((hi - lo).toNat : Nat) : Int) - ((0 : Nat) : Int)) 1
  rw [e1,e2]
  exact Heap.get?_push_size _ rfl
 ·have e : b = (s.heap.push { cls:=.type "range",data:=.fields #[.int lo t,.int hi u,.int 1 v] }).objs.size:=by simpa using hb
  subst e
  exact I1.fpOk (Nat.le_refl _) (I1.hok.fresh (Nat.le_refl _))
noncomputable def jol (ta : TA) : TI:=fun σ H R=>ta σ H fun vs H1=>∃ j : Int,vs = [.int j]∧-(2 ^ 62) ≤ j∧j < 2 ^ 62∧R (Itr 0 j.toNat) H1
noncomputable def iRng2 (ta : TA) : TI:=fun σ H R=>ta σ H fun vs H1=>∃ i j : Int,vs = [.int i,.int j]∧(-(2 ^ 62) ≤ i∧i < 2 ^ 62∧-(2 ^ 62) ≤ j∧j < 2 ^ 62)∧R (Itr i (j - i).toNat) H1
theorem jdh {a : Expr} {ta : TA} {p pos : Pos} (hg : Gl X "range") (hm : X.mg "range" = none) (ha : PA X [a] ta) (hs : starEach [a] X.env = [(false,eval a X.env)]:=by rfl) : PI X tg (.Call (.Name "range" p) [a] [] pos) (jol ta):=by
 intro pins s σ H R I h
 refine Call_ (jf3 I hg hm boot_range (PyProof.Rows.callWith_type1 (thn (ha pos pins s σ H _ I h) fun us s1 ⟨vs,H1,I1,r1,q1⟩=>?_) hs rfl))
 obtain ⟨j,e,q1,q2,q⟩:=q1
 subst e
 cases r1 with
 | cons r rr =>
  cases rr
  obtain ⟨t,rfl⟩:=r
  exact call_range_1 (jj9 I1 (by omega) (by omega) q1 q2 (by simpa using q))
theorem jlv {a b : Expr} {ta : TA} {p pos : Pos} (hg : Gl X "range") (hm : X.mg "range" = none) (ha : PA X [a,b] ta) (hs : starEach [a,b] X.env = [(false,eval a X.env),(false,eval b X.env)]:=by rfl) (hs2 : starEach [b] X.env = [(false,eval b X.env)]:=by rfl) :
  PI X tg (.Call (.Name "range" p) [a,b] [] pos) (iRng2 ta):=by
 intro pins s σ H R I h
 refine Call_ (jf3 I hg hm boot_range (PyProof.Rows.callWith_type1 (thn (ha pos pins s σ H _ I h) fun us s1 ⟨vs,H1,I1,r1,q1⟩=>?_) (by rw [hs,hs2]) (by rw [hs2]; rfl)))
 obtain ⟨i,j,e,⟨q1,q2,q3,q4⟩,q⟩:=q1
 subst e
 cases r1 with
 | cons r rr =>
  cases rr with
  | cons r' rr =>
   cases rr
   obtain ⟨t,rfl⟩:=r
   obtain ⟨t',rfl⟩:=r'
   exact call_range_2 (jj9 I1 q1 q2 q3 q4 q)
noncomputable def tFor (wi : TI) (g : TG) (tb : TS) : TS:=fun D σ H=>wi σ H fun J H1=>∃ W : Nat→Nat→St→Hp→Prop,(∃ m,W 0 m σ H1)∧∀ i m σ H,W i m σ H →
 (J.stop i H∧D.nx σ H) ∨ (J.go i H∧∃ N : St→Hp→Prop,(∀ σ' H',N σ' H'→∃ m',m' < m∧W (i + 1) m' σ' H')∧∀ x H',J.yld i H x H'→g x σ H' fun σ2 H2=>tb { D with nx:=N,ct:=N,bk:=D.nx } σ2 H2)
noncomputable def jgv (fp : List Addr) (h : Heap) : List (Addr × Obj):=fp.filterMap fun b=>(h.get? b).map fun o=>(b,o)
theorem jd0 {fp : List Addr} {h : Heap} {b : Addr} {o : Obj} (hb : b ∈ fp) (e : h.get? b = some o) : (b,o) ∈ jgv fp h:=List.mem_filterMap.mpr ⟨b,hb,by rw [e]; rfl⟩
theorem jm0 {fp : List Addr} {h : Heap} {p : Addr × Obj} (hp : p ∈ jgv fp h) : p.1 ∈ fp∧h.get? p.1 = some p.2:=by
 obtain ⟨b,hb,e⟩:=List.mem_filterMap.mp hp
 cases q : h.get? b with
 | none=>rw [q] at e; cases e
 | some o =>
  rw [q] at e
  have e' : (b,o) = p:=Option.some.inj e
  subst e'
  exact ⟨hb,q⟩
theorem Inv.pinned {pins : List (Addr × Obj)} {σ : St} {H : Hp} {s : Shared} {fp : List Addr} (I : Inv X pins σ H s) (hf : ∀ b ∈ fp,FpOk X pins H b) (ho : ∀ b ∈ fp,∃ o,s.heap.get? b = some o∧∀ v,o.data ≠ .cell v) : Inv X (pins ++ jgv fp s.heap) σ H s :=
 I.pins_of fun p hp=>(List.mem_append.mp hp).elim (fun z=>I.pin p (List.mem_append_right _ z)) fun z=>by
  obtain ⟨hb,e⟩:=jm0 z
  obtain ⟨f0,f1,f2,_⟩:=hf p.1 hb
  obtain ⟨o,e',d⟩:=ho p.1 hb
  rw [e] at e'; cases e'
  exact ⟨e,f0,f1,f2,d⟩
theorem Inv.unpinned {pins pl : List (Addr × Obj)} {σ : St} {H : Hp} {s : Shared} (I : Inv X (pins ++ pl) σ H s) : Inv X pins σ H s:=I.pins_of fun p hp=>I.pin p (List.mem_append_right _ (List.mem_append_left _ hp))
theorem jbl {iter : Expr} {body : List Stmt} {wi : TI} {g : TG} {tb : TS} {pos : Pos} (hp : PassesOwn (model X.prog X.w) X.A X.env X.xe) (hc : X.calm = true) (hi : PI X tg iter wi) (hg : PG X tg g) (hb : PSs X body tb)
  (hs : ∀ x,foldedSetIterable iter X.env x = pure x:=by intro _; rfl) : PS X (.For tg iter body [] pos) (tFor wi g tb):=by
 intro pins s σ H D I h
 refine wpAny_For (thn (hi pins s σ H _ I h) fun v s1 h1=>thn h1 fun itv s2 h2=>?_) hs
 obtain ⟨it,fp,tn,J,H2,e,I2,T,st2,f2,W,⟨m0,w0⟩,turn⟩:=h2
 subst e
  -- what stays true of the iterator's objects through the loop
 have stat : ∀ {H' : Hp},(∀ b ∈ fp,H' b = none)→∀ b ∈ fp,FpOk X pins H' b:=fun hn b hb=>⟨hn b hb,(f2 b hb).2⟩
 refine codeAny_forLoop_any (fun n s'=>∃ i σ' H',Inv X pins σ' H' s'∧tn i s'.heap∧(∀ b ∈ fp,H' b = none)∧W i n σ' H') ?_ m0 ⟨0,σ,H2,I2,st2,fun b hb=>(f2 b hb).1,w0⟩
 rintro n s3 ⟨i,σ3,H3,I3,st3,fr3,w3⟩
 rcases turn i n σ3 H3 w3 with ⟨stop,qn⟩ | ⟨go,N,hN,step⟩
 ·refine wpAny_passesOwn hp (thn (T.done X rfl rfl rfl hc i pins s3 σ3 H3 X.xe I3 (stat fr3) st3 stop) fun r s4 ⟨hr,I4⟩=>?_)
  subst hr
  exact wpAny_execs_nil ⟨σ3,H3,I4,qn⟩
 ·refine wpAny_passesOwn hp (thn (T.item X rfl rfl rfl hc i pins s3 σ3 H3 X.xe I3 (stat fr3) st3 go) fun r s4 ⟨u,hr,h4⟩=>?_)
  subst hr
  refine wpAny_passesOwn hp (thn h4 fun _ s5 ⟨x,H5,I5,r5,y5,st5,fr5⟩=>?_)
  have I5':=I5.pinned (stat fr5) (T.obj _ _ st5)
  refine wpAny_passesOwn hp (thn (hg _ s5 σ3 H5 x u _ I5' r5 (step x H5 y5)) fun _ s6 ⟨σ6,H6,I6,q6⟩=>?_)
  refine wpAny_passesOwn hp (thn (hb _ s6 σ6 H6 _ I6 q6) fun f s7 q7=>?_)
  have again : ∀ {σ7 : St} {H7 : Hp},Inv X (pins ++ jgv fp s5.heap) σ7 H7 s7→N σ7 H7→∃ m,m < n∧∃ i σ' H',Inv X pins σ' H' s7∧tn i s7.heap∧(∀ b ∈ fp,H' b = none)∧W i m σ' H':=fun {σ7 H7} I7 n7=>by
   obtain ⟨m',hm,w7⟩:=hN σ7 H7 n7
   refine ⟨m',hm,i + 1,σ7,H7,I7.unpinned,T.keep _ _ _ st5 fun b hb o e=>(I7.pin (b,o) (List.mem_append_right _ (List.mem_append_right _ (jd0 hb e)))).1,fun b hb=>?_,w7⟩
   obtain ⟨o,e,d⟩:=T.obj _ _ st5 b hb
   exact (I7.pin (b,o) (List.mem_append_right _ (List.mem_append_right _ (jd0 hb e)))).2.1
  cases f with
  | next=>obtain ⟨σ7,H7,I7,n7⟩:=q7; exact again I7 n7
  | cont=>obtain ⟨σ7,H7,I7,n7⟩:=q7; exact again I7 n7
  | brk=>obtain ⟨σ7,H7,I7,q7⟩:=q7; exact ⟨σ7,H7,I7.unpinned,q7⟩
  | ret v=>obtain ⟨x7,σ7,H7,I7,r7,q7⟩:=q7; exact ⟨x7,σ7,H7,I7.unpinned,r7,q7⟩
end
theorem jbx {K : PySem.W.Frag} {a : Addr} {xs : List V} {g : TG} {tb : TS} {D : Ends} {σ : St} {H : Hp} (Pv : Nat→St→Hp→Prop) (h0 : Pv 0 σ H) (hl : ∀ i σ H,i ≤ xs.length→Pv i σ H→SqL K H a xs)
  (hs : ∀ i x σ H,xs[i]? = some x→Pv i σ H→g x σ H fun σ2 H2=>tb { D with nx:=Pv (i + 1),ct:=Pv (i + 1),bk:=D.nx } σ2 H2) (hd : ∀ σ H,Pv xs.length σ H→D.nx σ H) :
  ∃ W : Nat→Nat→St→Hp→Prop,(∃ m,W 0 m σ H)∧∀ i m σ H,W i m σ H →
   ((Itl K a).stop i H∧D.nx σ H) ∨ ((Itl K a).go i H∧∃ N : St→Hp→Prop,(∀ σ' H',N σ' H'→∃ m',m' < m∧W (i + 1) m' σ' H')∧∀ x H',(Itl K a).yld i H x H'→g x σ H' fun σ2 H2=>tb { D with nx:=N,ct:=N,bk:=D.nx } σ2 H2):=by
 refine ⟨fun i m σ H=>m = xs.length - i∧i ≤ xs.length∧Pv i σ H,⟨xs.length,by simp,Nat.zero_le _,h0⟩,?_⟩
 rintro i m σ H ⟨rfl,hi,p⟩
 have q:=hl i σ H hi p
 by_cases hlt : i < xs.length
 ·refine .inr ⟨⟨xs,xs[i],q,by simp [hlt]⟩,Pv (i + 1),fun σ' H' p'=>⟨xs.length - (i + 1),by omega,rfl,hlt,p'⟩,fun x H' y=>?_⟩
  obtain ⟨e,y⟩:=y
  subst e
  exact hs i x σ _ (y xs q) p
 ·have e : i = xs.length:=by omega
  subst e
  exact .inl ⟨⟨xs,q,Nat.le_refl _⟩,hd σ H p⟩
theorem jre {K : PySem.W.Frag} {a : Addr} {xs : List V} {g : TG} {tb : TS} {D : Ends} {σ : St} {H : Hp} (Pv : Nat→St→Hp→Prop) (h0 : Pv 0 σ H) (hl : ∀ i σ H,i ≤ xs.length→Pv i σ H→SqT K H a xs)
  (hs : ∀ i x σ H,xs[i]? = some x→Pv i σ H→g x σ H fun σ2 H2=>tb { D with nx:=Pv (i + 1),ct:=Pv (i + 1),bk:=D.nx } σ2 H2) (hd : ∀ σ H,Pv xs.length σ H→D.nx σ H) :
  ∃ W : Nat→Nat→St→Hp→Prop,(∃ m,W 0 m σ H)∧∀ i m σ H,W i m σ H →
   ((Itt K a).stop i H∧D.nx σ H) ∨ ((Itt K a).go i H∧∃ N : St→Hp→Prop,(∀ σ' H',N σ' H'→∃ m',m' < m∧W (i + 1) m' σ' H')∧∀ x H',(Itt K a).yld i H x H'→g x σ H' fun σ2 H2=>tb { D with nx:=N,ct:=N,bk:=D.nx } σ2 H2):=by
 refine ⟨fun i m σ H=>m = xs.length - i∧i ≤ xs.length∧Pv i σ H,⟨xs.length,by simp,Nat.zero_le _,h0⟩,?_⟩
 rintro i m σ H ⟨rfl,hi,p⟩
 have q:=hl i σ H hi p
 by_cases hlt : i < xs.length
 ·refine .inr ⟨⟨xs,xs[i],q,by simp [hlt]⟩,Pv (i + 1),fun σ' H' p'=>⟨xs.length - (i + 1),by omega,rfl,hlt,p'⟩,fun x H' y=>?_⟩
  obtain ⟨e,y⟩:=y
  subst e
  exact hs i x σ _ (y xs q) p
 ·have e : i = xs.length:=by omega
  subst e
  exact .inl ⟨⟨xs,q,Nat.le_refl _⟩,hd σ H p⟩
theorem jcs {lo : Int} {n : Nat} {g : TG} {tb : TS} {D : Ends} {σ : St} {H : Hp} (Pv : Nat→St→Hp→Prop) (h0 : Pv 0 σ H)
  (hs : ∀ i σ H,i < n→Pv i σ H→g (.int (lo + i)) σ H fun σ2 H2=>tb { D with nx:=Pv (i + 1),ct:=Pv (i + 1),bk:=D.nx } σ2 H2) (hd : ∀ σ H,Pv n σ H→D.nx σ H) :
  ∃ W : Nat→Nat→St→Hp→Prop,(∃ m,W 0 m σ H)∧∀ i m σ H,W i m σ H →
   ((Itr lo n).stop i H∧D.nx σ H) ∨ ((Itr lo n).go i H∧∃ N : St→Hp→Prop,(∀ σ' H',N σ' H'→∃ m',m' < m∧W (i + 1) m' σ' H')∧∀ x H',(Itr lo n).yld i H x H'→g x σ H' fun σ2 H2=>tb { D with nx:=N,ct:=N,bk:=D.nx } σ2 H2):=by
 refine ⟨fun i m σ H=>m = n - i∧i ≤ n∧Pv i σ H,⟨n,by simp,Nat.zero_le _,h0⟩,?_⟩
 rintro i m σ H ⟨rfl,hi,p⟩
 by_cases hlt : i < n
 ·refine .inr ⟨hlt,Pv (i + 1),fun σ' H' p'=>⟨n - (i + 1),by omega,rfl,hlt,p'⟩,fun x H' y=>?_⟩
  obtain ⟨e,y⟩:=y
  subst e y
  exact hs i σ _ hlt p
 ·have e : i = n:=by omega
  subst e
  exact .inl ⟨Nat.le_refl _,hd σ H p⟩
end L2
namespace L2
open PySem PySem.Spec PyProof.Rows
noncomputable abbrev R2:=V→V→Hp→VK→Prop
noncomputable def OpR (X : Cx) (f : Value→Value→Sem Value) (r : R2) : Prop :=
 ∀ (pins : List (Addr × Obj)) (s : Shared) (σ : St) (H : Hp) (x y : V) (v u : Value) (Q : VK),Inv X pins σ H s→RelV x v→RelV y u→r x y H Q →
  wpAny (model X.prog X.w) X.A (f v u) (EP X pins σ Q) X.xe s
noncomputable def UnR (X : Cx) (f : Value→Sem Value) (r : V→Hp→VK→Prop) : Prop :=
 ∀ (pins : List (Addr × Obj)) (s : Shared) (σ : St) (H : Hp) (x : V) (v : Value) (Q : VK),Inv X pins σ H s→RelV x v→r x H Q →
  wpAny (model X.prog X.w) X.A (f v) (EP X pins σ Q) X.xe s
noncomputable def jbo (X : Cx) (f : Value) (r : List V→Hp→VK→Prop) : Prop :=
 ∀ (pins : List (Addr × Obj)) (s : Shared) (σ : St) (H : Hp) (xs : List V) (us : List Value) (Q : VK),Inv X pins σ H s→Vals xs us→r xs H Q →
  wpAny (model X.prog X.w) X.A (call f us) (EP X pins σ Q) X.xe s
noncomputable def tOp (r : R2) (ta tb : TE) : TE:=fun σ H Q=>ta σ H fun x H1=>tb σ H1 fun y H2=>r x y H2 Q
noncomputable def tUn (r : V→Hp→VK→Prop) (ta : TE) : TE:=fun σ H Q=>ta σ H fun x H1=>r x H1 Q
noncomputable def rI (C : Int→Int→Prop) (g : Int→Int→V) : R2:=fun x y H Q=>∃ i j,x = .int i∧y = .int j∧C i j∧Q (g i j) H
noncomputable def rI0 (g : Int→Int→V) : R2:=fun x y H Q=>∃ i j,x = .int i∧y = .int j∧Q (g i j) H
noncomputable def rU (g : Int→V) : V→Hp→VK→Prop:=fun x H Q=>∃ i,x = .int i∧Q (g i) H
section
variable {X : Cx} {a b c : Expr} {ta tb tc : TE} {pos : Pos}
theorem binT (ha : PE X a ta) (hb : PE X b tb) {pins : List (Addr × Obj)} {s : Shared} {σ : St} {H : Hp} {R : V→V→Hp→Prop} (I : Inv X pins σ H s)
  (h : ta σ H fun x H1=>tb σ H1 fun y H2=>R x y H2) {Q : Value→Shared→Prop} {f : Value→Value→Sem Value}
  (hf : ∀ v u s2 x y H2,Inv X pins σ H2 s2→RelV x v→RelV y u→R x y H2→wpAny (model X.prog X.w) X.A (f v u) Q X.xe s2) :
  wpAny (model X.prog X.w) X.A (eval a X.env) (fun v s₁=>wpAny (model X.prog X.w) X.A (eval b X.env) (fun u s₂=>wpAny (model X.prog X.w) X.A (f v u) Q X.xe s₂) X.xe s₁) X.xe s:=by
 refine thn (ha pins s σ H _ I h) fun v s1 ⟨x,H1,I1,r1,q1⟩=>?_
 refine thn (hb pins s1 σ H1 _ I1 q1) fun u s2 ⟨y,H2,I2,r2,q2⟩=>?_
 exact hf v u s2 x y H2 I2 r1 r2 q2
theorem jaw {op : Operator} {r : R2} (ho : OpR X (binaryOp op) r) (ha : PE X a ta) (hb : PE X b tb) : PE X (.BinOp a op b pos) (tOp r ta tb):=by
 intro pins s σ H Q I h
 exact wpAny_BinOp (binT ha hb I h fun v u s2 x y H2 I2 rx ry q=>ho pins s2 σ H2 x y v u Q I2 rx ry q)
theorem jlx {op : UnaryOp} {r : V→Hp→VK→Prop} (ho : UnR X (unaryOp op) r) (ha : PE X a ta) : PE X (.UnaryOp op a pos) (tUn r ta):=by
 intro pins s σ H Q I h
 exact UnaryOp_ (thn (ha pins s σ H _ I h) fun v s1 ⟨x,H1,I1,r1,q1⟩=>ho pins s1 σ H1 x v Q I1 r1 q1)
theorem opI {f : Value→Value→Sem Value} {C : Int→Int→Prop} {g : Int→Int→Int}
  (rule : ∀ (i j : Int) (t u : Tok) (s : Shared) (Q : Value→Shared→Prop) (E : Value→Shared→Prop),C i j→Q (.int (g i j) s.toks) { s with toks:=s.toks + 1 }→wpAny (model X.prog X.w) X.A (f (.int i t) (.int j u)) Q E s) :
  OpR X f (rI C fun i j=>.int (g i j)):=by
 intro pins s σ H x y v u Q I rx ry h
 obtain ⟨i,j,rfl,rfl,hc,q⟩:=h
 obtain ⟨t,rfl⟩:=rx
 obtain ⟨t',rfl⟩:=ry
 exact rule i j t t' s _ _ hc ⟨.int (g i j),H,I.tok _,⟨_,rfl⟩,q⟩
theorem opI0 {f : Value→Value→Sem Value} {g : Int→Int→Int}
  (rule : ∀ (i j : Int) (t u : Tok) (s : Shared) (Q : Value→Shared→Prop) (E : Value→Shared→Prop),Q (.int (g i j) s.toks) { s with toks:=s.toks + 1 }→wpAny (model X.prog X.w) X.A (f (.int i t) (.int j u)) Q E s) :
  OpR X f (rI0 fun i j=>.int (g i j)):=by
 intro pins s σ H x y v u Q I rx ry h
 obtain ⟨i,j,rfl,rfl,q⟩:=h
 obtain ⟨t,rfl⟩:=rx
 obtain ⟨t',rfl⟩:=ry
 exact rule i j t t' s _ _ ⟨.int (g i j),H,I.tok _,⟨_,rfl⟩,q⟩
theorem opB0 {f : Value→Value→Sem Value} {g : Int→Int→Bool}
  (rule : ∀ (i j : Int) (t u : Tok) (s : Shared) (Q : Value→Shared→Prop) (E : Value→Shared→Prop),Q (.bool (g i j)) s→wpAny (model X.prog X.w) X.A (f (.int i t) (.int j u)) Q E s) :
  OpR X f (rI0 fun i j=>.bl (g i j)):=by
 intro pins s σ H x y v u Q I rx ry h
 obtain ⟨i,j,rfl,rfl,q⟩:=h
 obtain ⟨t,rfl⟩:=rx
 obtain ⟨t',rfl⟩:=ry
 exact rule i j t t' s _ _ ⟨.bl (g i j),H,I,rfl,q⟩
noncomputable def CDiv (i j : Int) : Prop:=0 < j∧j < 1073741824
noncomputable def CPow (i j : Int) : Prop:=0 ≤ j∧j ≤ 1000000∧i.natAbs < 2 ^ 64
noncomputable def CMul (i j : Int) : Prop:=(-(2 ^ 64) < i∧i < 2 ^ 64) ∨ (-(2 ^ 64) < j∧j < 2 ^ 64)
theorem CMul.ok {i j : Int} (h : CMul i j) : IntMulOk i j:=by
 rcases h with ⟨h1,h2⟩ | ⟨h1,h2⟩
 ·exact .of_left (intBits_le_64 h1 h2)
 ·exact .of_right (intBits_le_64 h1 h2)
theorem op_add : OpR X (binaryOp .Add) (rI0 fun i j=>.int (i + j)):=opI0 fun _ _ _ _ _ _ _ q=>add_int q
theorem op_sub : OpR X (binaryOp .Sub) (rI0 fun i j=>.int (i - j)):=opI0 fun _ _ _ _ _ _ _ q=>sub_int q
theorem op_mul : OpR X (binaryOp .Mult) (rI CMul fun i j=>.int (i * j)):=opI fun _ _ _ _ _ _ _ hc q=>mul_int q hc.ok
theorem jqu : OpR X (binaryOp .FloorDiv) (rI CDiv fun i j=>.int (i / j)):=opI fun i j _ _ _ _ _ hc q=>by
 have h1 : (0 : Int) < j:=hc.1
 have h2 : j < 1073741824:=hc.2
 exact floordiv_int (by omega) (by rw [Int.fdiv_eq_ediv_of_nonneg i (by omega)]; exact q) (.inl (PyProof.noPylong_small (by omega)))
theorem op_mod : OpR X (binaryOp .Mod) (rI (fun _ j=>0 < j) fun i j=>.int (i % j)):=opI fun i j _ _ _ _ _ hc q=>by
 have h1 : (0 : Int) < j:=hc
 exact mod_int' (by omega) (by rw [Int.fmod_eq_emod_of_nonneg i (by omega)]; exact q)
theorem op_pow : OpR X (binaryOp .Pow) (rI CPow fun i j=>.int (i ^ j.toNat)):=opI fun _ _ _ _ _ _ _ hc q=>pow_int_small hc.1 hc.2.1 hc.2.2 q
theorem jrb : OpR X (inplaceOp .Add) (rI0 fun i j=>.int (i + j)):=opI0 fun _ _ _ _ _ _ _ q=>iadd_int q
theorem unI {f : Value→Sem Value} {g : Int→Int}
  (rule : ∀ (i : Int) (t : Tok) (s : Shared) (Q : Value→Shared→Prop) (E : Value→Shared→Prop),Q (.int (g i) s.toks) { s with toks:=s.toks + 1 }→wpAny (model X.prog X.w) X.A (f (.int i t)) Q E s) :
  UnR X f (rU fun i=>.int (g i)):=by
 intro pins s σ H x v Q I rx h
 obtain ⟨i,rfl,q⟩:=h
 obtain ⟨t,rfl⟩:=rx
 exact rule i t s _ _ ⟨.int (g i),H,I.tok _,⟨_,rfl⟩,q⟩
theorem un_neg : UnR X (unaryOp .USub) (rU fun i=>.int (-i)):=unI fun _ _ _ _ _ q=>neg_int q
end
noncomputable def scal : V→V→Bool
 | .non,.non=>true | .non,.int _=>true | .int _,.non=>true | .non,.bl _=>true | .bl _,.non=>true | .non,.str _=>true | .str _,.non=>true
 | .int _,.int _=>true | .bl _,.bl _=>true | .str _,.str _=>true | .byt _,.byt _=>true
 | .int _,.str _=>true | .str _,.int _=>true | .bl _,.str _=>true | .str _,.bl _=>true
 | _,_=>false
noncomputable def rEq : R2:=fun x y H Q=>scal x y = true∧Q (.bl (decide (x = y))) H
noncomputable def rNe : R2:=fun x y H Q=>scal x y = true∧Q (.bl (!decide (x = y))) H
theorem jn8 {i j : Int} : decide (V.int i = V.int j) = (i == j):=by
 rw [Bool.eq_iff_iff]
 simp
theorem jq4 {i j : Bool} : decide (V.bl i = V.bl j) = (i == j):=by
 rw [Bool.eq_iff_iff]
 simp
theorem jn7 {i j : Str} : decide (V.str i = V.str j) = (i == j):=by
 rw [Bool.eq_iff_iff]
 simp
theorem jn9 {i j : Array UInt8} : decide (V.byt i = V.byt j) = (i.toList == j.toList):=by
 rw [Bool.eq_iff_iff]
 cases i
 cases j
 simp
section
variable {X : Cx} {a b c : Expr} {ta tb tc : TE} {pos : Pos}
theorem jat {pins : List (Addr × Obj)} {σ : St} {H : Hp} {s : Shared} {Q : VK} {k k' : Bool} (I : Inv X pins σ H s) (q : Q (.bl k) H) (e : k = k') : EP X pins σ Q (.bool k') s:=by
 subst e
 exact ⟨.bl k,H,I,rfl,q⟩
theorem op_eq : OpR X (compareOp .Eq) rEq:=by
 intro pins s σ H x y v u Q I rx ry h
 obtain ⟨hs,q⟩:=h
 cases x with
 | non =>
  cases rx
  cases y with
  | non=>cases ry; exact PySem.EqNone.eq_none_none (jat I q (by simp))
  | bl j=>cases ry; exact PySem.EqNone.eq_none_bool (jat I q (by simp))
  | int j=>obtain ⟨t',rfl⟩:=ry; exact PySem.EqNone.eq_none_int (jat I q (by simp))
  | str j=>obtain ⟨t',rfl⟩:=ry; exact PySem.EqNone.eq_none_str (jat I q (by simp))
  | _=>exact absurd (show false = true from hs) Bool.false_ne_true
 | bl i =>
  cases rx
  cases y with
  | non=>cases ry; exact PySem.EqNone.eq_bool_none (jat I q (by simp))
  | bl j=>cases ry; exact eq_bool (jat I q jq4)
  | str j=>obtain ⟨t',rfl⟩:=ry; exact PySem.EqMixed.eq_bool_str (jat I q (by simp))
  | _=>exact absurd (show false = true from hs) Bool.false_ne_true
 | int i =>
  obtain ⟨t,rfl⟩:=rx
  cases y with
  | non=>cases ry; exact PySem.EqNone.eq_int_none (jat I q (by simp))
  | int j=>obtain ⟨t',rfl⟩:=ry; exact eq_int (jat I q jn8)
  | str j=>obtain ⟨t',rfl⟩:=ry; exact PySem.EqMixed.eq_int_str (jat I q (by simp))
  | _=>exact absurd (show false = true from hs) Bool.false_ne_true
 | str i =>
  obtain ⟨t,rfl⟩:=rx
  cases y with
  | non=>cases ry; exact PySem.EqNone.eq_str_none (jat I q (by simp))
  | bl j=>cases ry; exact PySem.EqMixed.eq_str_bool (jat I q (by simp))
  | int j=>obtain ⟨t',rfl⟩:=ry; exact PySem.EqMixed.eq_str_int (jat I q (by simp))
  | str j=>obtain ⟨t',rfl⟩:=ry; exact eq_str (jat I q jn7)
  | _=>exact absurd (show false = true from hs) Bool.false_ne_true
 | byt i =>
  obtain ⟨t,rfl⟩:=rx
  cases y with
  | byt j=>obtain ⟨t',rfl⟩:=ry; exact PySem.W.eq_bytes (jat I q jn9)
  | _=>exact absurd (show false = true from hs) Bool.false_ne_true
 | _=>cases y <;> exact absurd (show false = true from hs) Bool.false_ne_true
theorem op_ne : OpR X (compareOp .NotEq) rNe:=by
 intro pins s σ H x y v u Q I rx ry h
 obtain ⟨hs,q⟩:=h
 cases x with
 | non =>
  cases rx
  cases y with
  | non=>cases ry; exact PySem.EqNone.ne_none_none (jat I q (by simp))
  | bl j=>cases ry; exact PySem.EqNone.ne_none_bool (jat I q (by simp))
  | int j=>obtain ⟨t',rfl⟩:=ry; exact PySem.EqNone.ne_none_int (jat I q (by simp))
  | str j=>obtain ⟨t',rfl⟩:=ry; exact PySem.EqNone.ne_none_str (jat I q (by simp))
  | _=>exact absurd (show false = true from hs) Bool.false_ne_true
 | bl i =>
  cases rx
  cases y with
  | non=>cases ry; exact PySem.EqNone.ne_bool_none (jat I q (by simp))
  | bl j=>cases ry; exact ne_bool (jat I q (congrArg not jq4))
  | str j=>obtain ⟨t',rfl⟩:=ry; exact PySem.EqMixed.ne_bool_str (jat I q (by simp))
  | _=>exact absurd (show false = true from hs) Bool.false_ne_true
 | int i =>
  obtain ⟨t,rfl⟩:=rx
  cases y with
  | non=>cases ry; exact PySem.EqNone.ne_int_none (jat I q (by simp))
  | int j=>obtain ⟨t',rfl⟩:=ry; exact ne_int (jat I q (congrArg not jn8))
  | str j=>obtain ⟨t',rfl⟩:=ry; exact PySem.EqMixed.ne_int_str (jat I q (by simp))
  | _=>exact absurd (show false = true from hs) Bool.false_ne_true
 | str i =>
  obtain ⟨t,rfl⟩:=rx
  cases y with
  | non=>cases ry; exact PySem.EqNone.ne_str_none (jat I q (by simp))
  | bl j=>cases ry; exact PySem.EqMixed.ne_str_bool (jat I q (by simp))
  | int j=>obtain ⟨t',rfl⟩:=ry; exact PySem.EqMixed.ne_str_int (jat I q (by simp))
  | str j=>obtain ⟨t',rfl⟩:=ry; exact ne_str (jat I q (congrArg not jn7))
  | _=>exact absurd (show false = true from hs) Bool.false_ne_true
 | byt i =>
  obtain ⟨t,rfl⟩:=rx
  cases y with
  | byt j=>obtain ⟨t',rfl⟩:=ry; exact PySem.W.ne_bytes (jat I q (congrArg not jn9))
  | _=>exact absurd (show false = true from hs) Bool.false_ne_true
 | _=>cases y <;> exact absurd (show false = true from hs) Bool.false_ne_true
theorem op_lt : OpR X (compareOp .Lt) (rI0 fun i j=>.bl (decide (i < j))):=opB0 fun _ _ _ _ _ _ _ q=>lt_int q
theorem op_le : OpR X (compareOp .LtE) (rI0 fun i j=>.bl (decide (i ≤ j))):=opB0 fun _ _ _ _ _ _ _ q=>le_int q
theorem op_gt : OpR X (compareOp .Gt) (rI0 fun i j=>.bl (decide (j < i))):=opB0 fun _ _ _ _ _ _ _ q=>gt_int q
theorem op_ge : OpR X (compareOp .GtE) (rI0 fun i j=>.bl (decide (j ≤ i))):=opB0 fun _ _ _ _ _ _ _ q=>ge_int q
theorem op_isN : OpR X (compareOp .Is) (fun x y H Q=>y = .non∧Q (.bl (decide (x = .non))) H):=by
 intro pins s σ H x y v u Q I rx ry h
 obtain ⟨rfl,q⟩:=h
 cases ry
 refine is_none_gen (jat I q ?_)
 cases x <;> first
  | (cases rx; rfl)
  | (obtain ⟨t,rfl⟩:=rx; rfl)
theorem jap (b : Expr) {op : CmpOp} (h : op ≠ .In:=by decide) (h2 : op ≠ .NotIn:=by decide) : behindInMarks op b = false:=by
 have e1 : (op == CmpOp.In) = false:=by cases op <;> first | rfl | exact absurd rfl h
 have e2 : (op == CmpOp.NotIn) = false:=by cases op <;> first | rfl | exact absurd rfl h2
 cases b <;> simp [behindInMarks,e1,e2]
theorem jbq {op : CmpOp} {r : R2} (ho : OpR X (compareOp op) r) (ha : PE X a ta) (hb : PE X b tb) (hm : behindInMarks op b = false) : PE X (.Compare a [op] [b] pos) (tOp r ta tb):=by
 intro pins s σ H Q I h
 exact wpAny_Compare1 (binT ha hb I h fun v u s2 x y H2 I2 rx ry q=>ho pins s2 σ H2 x y v u Q I2 rx ry q) hm
theorem jjl : (sizeLine : Nat) < 2 ^ 63:=by rw [sizeLine_eq]; decide
theorem jhp {x : V} {us : List Value} (r : Vals [x] us) : ∃ u,us = [u]∧RelV x u:=by
 cases r with
 | cons r1 r2=>cases r2; exact ⟨_,rfl,r1⟩
theorem jqa {x y : V} {us : List Value} (r : Vals [x,y] us) : ∃ u w',us = [u,w']∧RelV x u∧RelV y w':=by
 cases r with
 | cons r1 r2 =>
  cases r2 with
  | cons r3 r4=>cases r4; exact ⟨_,_,rfl,r1,r3⟩
theorem jng (hc : X.calm = true) : jbo X (.builtin "max") (fun xs H Q=>∃ i j,xs = [.int i,.int j]∧Q (.int (if j > i then j else i)) H):=by
 intro pins s σ H xs us Q I r h
 obtain ⟨i,j,rfl,q⟩:=h
 obtain ⟨u,w',rfl,⟨t,rfl⟩,⟨t',rfl⟩⟩:=jqa r
 refine max_two_ints (I.ok.hd hc) fun h' tk k=>⟨_,H,I.kept k,?_,q⟩
 by_cases hj : j > i
 ·rw [if_pos hj,if_pos hj]; exact ⟨_,rfl⟩
 ·rw [if_neg hj,if_neg hj]; exact ⟨_,rfl⟩
theorem jnf (hc : X.calm = true) : jbo X (.builtin "min") (fun xs H Q=>∃ i j,xs = [.int i,.int j]∧Q (.int (if j < i then j else i)) H):=by
 intro pins s σ H xs us Q I r h
 obtain ⟨i,j,rfl,q⟩:=h
 obtain ⟨u,w',rfl,⟨t,rfl⟩,⟨t',rfl⟩⟩:=jqa r
 refine min_two_ints (I.ok.hd hc) fun h' tk k=>⟨_,H,I.kept k,?_,q⟩
 by_cases hj : j < i
 ·rw [if_pos hj,if_pos hj]; exact ⟨_,rfl⟩
 ·rw [if_neg hj,if_neg hj]; exact ⟨_,rfl⟩
theorem jnh : jbo X (.type "int") (fun xs H Q=>(∃ i,xs = [.int i]∧Q (.int i) H) ∨ ∃ k,xs = [.bl k]∧Q (.int (if k then 1 else 0)) H):=by
 intro pins s σ H xs us Q I r h
 rcases h with ⟨i,rfl,q⟩ | ⟨k,rfl,q⟩
 ·obtain ⟨u,rfl,t,rfl⟩:=jhp r
  exact call_int_int ⟨.int i,H,I,⟨_,rfl⟩,q⟩
 ·obtain ⟨u,rfl,r1⟩:=jhp r
  cases r1
  exact call_int_bool ⟨.int (if k then 1 else 0),H,I.tok _,⟨_,rfl⟩,q⟩
end
end L2
namespace L2
open PySem PySem.Spec PyProof.Rows
structure ObjM (h : Heap) (x dx C : Addr) (mA : Str→Option Value) : Prop where
 obj : h.get? x = some (PySem.W.instObj C dx)
 ns : h.Ns1 dx mA
 ne : dx ≠ x
theorem jmb {h : Heap} {dx : Addr} {mA : Str→Option Value} (n : h.Ns1 dx mA) : ∃ od,h.get? dx = some od∧∀ name,PySem.W.lookIn name od = some (mA name):=by
 obtain ⟨o,es,ep,ho,hd,hk,_,hm⟩:=n
 refine ⟨o,ho,fun name=>?_⟩
 have e:=hm name
 unfold nsFind findBy at e
 rw [← Array.find?_toList] at e
 unfold PySem.W.lookIn
 rw [hd]
 dsimp only
 split
 ·rename_i y q
  rw [q] at e
  exact congrArg some e
 ·rename_i q
  rw [q] at e
  have a : es.toList.any (·.refKey) = false:=by
   rw [List.any_eq_false]
   intro y hy
   obtain ⟨z,t,hkey⟩:=hk y (Array.mem_toList_iff.mp hy)
   simp [DictEntry.refKey,hkey]
  have a' : ¬ es.toList.any (·.refKey) = true:=by rw [a]; exact Bool.false_ne_true
  rw [if_neg a']
  exact congrArg some e
theorem ObjM.look {h : Heap} {x dx C : Addr} {mA : Str→Option Value} (I : ObjM h x dx C mA) : ∃ od,PySem.W.InstAt h x (PySem.W.instObj C dx) C (some od)∧∀ name,PySem.W.lookIn name od = some (mA name) :=
 let ⟨od,ho,hl⟩:=jmb I.ns
 ⟨od,⟨I.obj,rfl,rfl,ho⟩,hl⟩
section
variable {prog : Program} {w : World} {A : Around} {E : Value→Shared→Prop} {s : Shared} {K : PySem.W.Frag} {x dx C f : Addr} {mA : Str→Option Value} {name : Str} {v : Value}
end
theorem RelO.some_of {v : V} {o : Option Value} (r : RelO (some v) o) : ∃ u,o = some u∧RelV v u:=by
 cases o with
 | none=>exact (show False from r).elim
 | some u=>exact ⟨u,rfl,r⟩
section
variable {P : Program} {w : World} {H H' : Hp} {h h' : Heap} {a C dx : Addr} {fs fs' : List (Str × V)}
theorem jrc (hok : HOk P w H h) (e : H a = some (.ins C dx fs)) : ∃ mA,ObjM h a dx C mA∧(∀ f,RelO (fs.lookup f) (mA f))∧PySem.Within mA (fs.map (·.1))∧fs.length ≤ 1000∧H dx = some (.own a):=by
 obtain ⟨d,z,ne,ob,mA,n,r,q⟩:=(show jb8 P w H h a (.ins C dx fs) from hok a _ e)
 exact ⟨mA,⟨ob,n,ne⟩,r,q,z,d⟩
end
structure Cls (K : PySem.W.Frag) (C : Addr) : Prop where
 pg : PySem.W.plainGet K C Str.empty = true
 hd : PySem.W.hasDictIn K C = true
 po : PySem.W.plainOver K C = true
 sa : PySem.W.findIn K (.ref C) "__setattr__" = some (some (.builtin "object.__setattr__"))
theorem Cls.get {K : PySem.W.Frag} {C : Addr} (c : Cls K C) (f : Str) : PySem.W.plainGet K C f = true:=c.pg
section
variable {X : Cx} {pins : List (Addr × Obj)} {σ : St} {H : Hp} {s : Shared} {a C dx : Addr} {fs : List (Str × V)} {f : Str} {v : V} {A : Around} {E : Value→Shared→Prop}
end
section
variable {X : Cx} {o e value : Expr} {f : Str} {pos pos' tpos : Pos} {ta tv : TE}
end
section
variable {X : Cx} {pins : List (Addr × Obj)} {σ : St} {H : Hp} {s : Shared} {A : Around} {E : Value→Shared→Prop} {Q : Value→Shared→Prop} {c : Value} {b : Bool}
inductive TyOf (K : PySem.W.Frag) (H : Hp) : V→Value→Prop where
 | non : TyOf K H .non (.type "NoneType")
 | bl (x : Bool) : TyOf K H (.bl x) (.type "bool")
 | int (i : Int) : TyOf K H (.int i) (.type "int")
 | str (x : Str) : TyOf K H (.str x) (.type "str")
 | flt (x : UInt64) : TyOf K H (.flt x) (.type "float")
 | lst {a : Addr} {xs : List V} (e : H a = some (.lst xs)) : TyOf K H (.ref a) (.type "list")
 | frz {a : Addr} {o : Obj} {xs : List V} (e : H a = some (.frz o (.lst xs))) : TyOf K H (.ref a) (.type "list")
 | tup {a : Addr} {xs : List V} (e : H a = some (.tup xs)) : TyOf K H (.ref a) (.type "tuple")
 | dK {a : Addr} {kvs : List (Key × V)} (e : H a = some (.dK kvs)) : TyOf K H (.ref a) (.type "dict")
 | dT {a : Addr} {kvs : List (List Key × V)} (e : H a = some (.dT kvs)) : TyOf K H (.ref a) (.type "dict")
 | ins {a C dx : Addr} {fs : List (Str × V)} (e : H a = some (.ins C dx fs)) (cl : Cls K C) (ha : PySem.W.findIn K (.ref C) "__class__" = some (some (.builtin "object.__class__")))
   (hn : PySem.W.specialIn K (.builtin "object.__class__") "__get__" = some (some (.builtin "getset_descriptor.__get__"))) (htk : PySem.W.takesIn K (.builtin "object.__class__") = some true)
   (hm : PySem.W.mroIn K C (.type "object") = some true) : TyOf K H (.ref a) (.ref C)
theorem jmq {x : V} {u t : Value} (I : Inv X pins σ H s) (rx : RelV x u) (ty : TyOf X.K H x t) (e : PySem.W.kitOne X.K t c = some b) (h : ∀ tk,Q (.bool b) { s with toks:=tk }) :
  wpAny (model X.prog X.w) A (call (.builtin "isinstance") [u,c]) Q E s:=by
 cases ty with
 | non=>cases (show u = Value.none from rx); exact PySem.W.kia_one PySem.W.kitx_none I.kIn True.intro e (fun z=>nomatch z) h
 | bl y=>cases (show u = Value.bool y from rx); exact PySem.W.kia_one PySem.W.kitx_bool I.kIn True.intro e (fun z=>nomatch z) h
 | int i=>obtain ⟨t,q⟩:=(show ∃ t,u = Value.int i t from rx); cases q; exact PySem.W.kia_one PySem.W.kitx_int I.kIn True.intro e (fun z=>nomatch z) h
 | str y=>obtain ⟨t,q⟩:=(show ∃ t,u = Value.str y t from rx); cases q; exact PySem.W.kia_one PySem.W.kitx_str I.kIn True.intro e (fun z=>nomatch z) h
 | flt y=>obtain ⟨t,q⟩:=(show ∃ t,u = Value.float y t from rx); cases q; exact PySem.W.kia_one PySem.W.kitx_float I.kIn True.intro e (fun z=>nomatch z) h
 | @lst a xs ea =>
  cases (show u = Value.ref a from rx)
  obtain ⟨_,_,n,_,h1⟩:=(show jb8 X.prog X.w H s.heap a (.lst xs) from I.hok a _ ea)
  exact PySem.W.kia_one PySem.W.kitx_list I.kIn ⟨_,h1,rfl⟩ e (fun z=>nomatch z) h
 | @frz a ob xs ea =>
  cases (show u = Value.ref a from rx)
  obtain ⟨_,_,_,n,_,h1⟩:=(show jb8 X.prog X.w H s.heap a (.frz ob (.lst xs)) from I.hok a _ ea)
  exact PySem.W.kia_one PySem.W.kitx_list I.kIn ⟨_,h1,rfl⟩ e (fun z=>nomatch z) h
 | @tup a xs ea =>
  cases (show u = Value.ref a from rx)
  obtain ⟨_,_,_,p⟩:=(show jb8 X.prog X.w H s.heap a (.tup xs) from I.hok a _ ea)
  obtain ⟨o,h1,h2,_⟩:=p
  exact PySem.W.kia_one PySem.W.kitx_tuple I.kIn ⟨o,h1,h2⟩ e (fun z=>nomatch z) h
 | @dK a kvs ea =>
  cases (show u = Value.ref a from rx)
  obtain ⟨_,_,vs,_,p⟩:=(show jb8 X.prog X.w H s.heap a (.dK kvs) from I.hok a _ ea)
  obtain ⟨o,es,ep,h1,h2,_⟩:=p
  exact PySem.W.kia_one PySem.W.kitx_dict I.kIn ⟨o,h1,h2.1⟩ e (fun z=>nomatch z) h
 | @dT a kvs ea =>
  cases (show u = Value.ref a from rx)
  obtain ⟨_,_,xs,_,o,es,ep,h1,h2,_⟩:=(show jb8 X.prog X.w H s.heap a (.dT kvs) from I.hok a _ ea)
  exact PySem.W.kia_one PySem.W.kitx_dict I.kIn ⟨o,h1,h2.1⟩ e (fun z=>nomatch z) h
 | @ins a C dx fs ea cl ha hn htk hm =>
  cases (show u = Value.ref a from rx)
  obtain ⟨mA,O,_⟩:=jrc I.hok ea
  obtain ⟨od,J,_⟩:=O.look
  exact PySem.W.kia_one (PySem.W.kitx_own (cl.get _) cl.hd ha hn htk hm) I.kIn J e (fun z=>nomatch z) h
end
end L2
namespace L2
open PySem PySem.Spec PyProof.Rows
structure Room (k : Nat) (A : Around) : Prop where
 hd : A.handled = none
 dp : A.depth + 3 * k + 5 < recursionLimit
 un : A.units + 16 * k + 200 < cLine
theorem Room.mono {j k : Nat} {A : Around} (r : Room k A) (h : j ≤ k) : Room j A:=⟨r.hd,by have:=r.dp; omega,by have:=r.un; omega⟩
theorem Room.deeper {k : Nat} {A : Around} (r : Room (k + 1) A) (env : Env) : Room k (A.deeper env) :=
 ⟨r.hd,by have:=r.dp; show A.depth + 1 + 3 * k + 5 < _; omega,by have:=r.un; show A.units + 3 + 16 * k + 200 < _; omega⟩
theorem Room.depth {k : Nat} {A : Around} (r : Room k A) : A.depth < recursionLimit:=by have:=r.dp; omega
theorem Room.units {k : Nat} {A : Around} (r : Room k A) : A.units + 64 < cLine:=by have:=r.un; omega
noncomputable def tNil : TA:=fun _ H Q=>Q [] H
noncomputable def jqf (ta : TE) (tr : TA) : TA:=fun σ H Q=>ta σ H fun x H1=>tr σ H1 fun xs H2=>Q (x :: xs) H2
section
variable {X : Cx} {e : Expr} {es : List Expr} {te : TE} {t : TA} {pos : Pos}
theorem ja2 : PA X [] tNil:=fun _ _ _ _ H Q I h=>Calls.spliced_nil ⟨[],H,I,.nil,h⟩
theorem ja0 (ha : PE X e te) (hr : PA X es t) (hs : starEach (e :: es) X.env = (false,eval e X.env) :: starEach es X.env:=by rfl) : PA X (e :: es) (jqf te t):=by
 intro pos pins s σ H Q I h
 rw [hs]
 show wpAny _ _ (spliced ((false,eval e X.env) :: backTo pos (starEach es X.env))) _ _ s
 refine Calls.spliced_cons (thn (ha pins s σ H _ I h) fun u s1 ⟨x,H1,I1,r1,q1⟩=>?_)
 exact thn (hr pos pins s1 σ H1 _ I1 q1) fun us s2 ⟨xs,H2,I2,r2,q2⟩=>⟨x :: xs,H2,I2,.cons r1 r2,q2⟩
noncomputable def tTup (t : TA) : TE:=fun σ H Q=>t σ H fun xs H1=>xs.length ≤ sizeLine∧∀ p,H1 p = none→Q (.ref p) (upd H1 p (.tup xs))
noncomputable def tLst (t : TA) : TE:=fun σ H Q=>t σ H fun xs H1=>xs.length ≤ sizeLine∧∀ p,H1 p = none→Q (.ref p) (upd H1 p (.lst xs))
theorem jb4 {x1} (h : PA X es t) : PE X (.Tuple es x1 pos) (tTup t):=by
 intro pins s σ H Q I hq
 refine wpAny_Tuple_spliced (thn (h pos pins s σ H _ I hq) fun us s1 ⟨xs,H1,I1,r,z,q⟩=>⟨by rw [← r.length]; exact z,?_⟩)
 have hf : H1 s1.heap.objs.size = none:=I1.hok.fresh (Nat.le_refl _)
 refine ⟨.ref s1.heap.objs.size,upd H1 s1.heap.objs.size (.tup xs),I1.laid (t':=s1.toks) (fun b u e=>Heap.get?_push_of_some _ e) (Nat.le_refl _) ?_,rfl,q _ hf⟩
 exact ⟨z,us,r,⟨_,Heap.get?_push_size _ rfl,rfl,_,rfl⟩⟩
theorem jas (h : PA X es t) : PE X (.List es pos) (tLst t):=by
 intro pins s σ H Q I hq
 refine wpAny_List_spliced (thn (h pos pins s σ H _ I hq) fun us s1 ⟨xs,H1,I1,r,z,q⟩=>⟨by rw [← r.length]; exact z,?_⟩)
 have hf : H1 s1.heap.objs.size = none:=I1.hok.fresh (Nat.le_refl _)
 refine ⟨.ref s1.heap.objs.size,upd H1 s1.heap.objs.size (.lst xs),I1.laid (t':=s1.toks) (fun b u e=>Heap.get?_push_of_some _ e) (Nat.le_refl _) ?_,rfl,q _ hf⟩
 exact ⟨z,us,0,r,Heap.get?_push_size _ rfl⟩
end
noncomputable abbrev Sp:=List V→Hp→VK→XK→Prop
noncomputable abbrev CXT:=List Env→Hp→Shared→XK→Value→Shared→Prop
structure Env0 (P : Program) (w : World) (K : PySem.W.Frag) (mg : Str→Option Value) (base : Heap) (A : Around) (outer : List Env) (s : Shared) (H : Hp) : Prop where
 frames : A.frames = some outer
 mod : Mod K mg base
 bs : ∀ b o,base.get? b = some o→s.heap.get? b = some o∧H b = none
 bsz : base.objs.size ≤ s.heap.objs.size
 funs : s.heap.FunFrames base outer
 frf : ∀ b ∈ frs outer,H b = none
 hok : HOk P w H s.heap
 bare : AllBare s.gens
noncomputable def CE (outer : List Env) (P : Program) (w : World) (H : Hp) (s : Shared) (Q : VK) (u : Value) (s' : Shared) : Prop :=
 ∃ v H',s'.os = s.os∧AllBare s'.gens∧Un (frs outer) [] H H' s.heap s'.heap∧HOk P w H' s'.heap∧RelV v u∧Q v H'
noncomputable def CR (CX : CXT) (outer : List Env) (P : Program) (w : World) (H : Hp) (s : Shared) (Q : VK) (E : XK) (r : Result) (s' : Shared) : Prop :=
 match r with
 | .ok (.ret u)=>CE outer P w H s Q u s'
 | .ok _=>False
 | .error e=>CX outer H s E e s'
structure FnOk (P : Program) (w : World) (K : PySem.W.Frag) (mg : Str→Option Value) (base : Heap) (CX : CXT) (k : Nat) (f : Addr) (fd : FuncData) (ps : List Str) (sp : Sp) : Prop where
 len : ∀ vs H Q E,sp vs H Q E→vs.length = ps.length
 run : ∀ (A : Around) (outer : List Env) (s : Shared) (H : Hp) (args : Args) (us : List Value) (vs : List V) (Q : VK) (E : XK),Room k A→Env0 P w K mg base A outer s H→BindsTo s fd args (ps.zip us)→Vals vs us→sp vs H Q E →
  codeAny (model P w) A (.call (.ref f) args) (CR CX outer P w H s Q E) s
theorem FnOk.mono {P : Program} {w : World} {K : PySem.W.Frag} {mg : Str→Option Value} {base : Heap} {CX : CXT} {j k : Nat} {f : Addr} {fd : FuncData} {ps : List Str} {sp : Sp} (F : FnOk P w K mg base CX j f fd ps sp) (h : j ≤ k) :
  FnOk P w K mg base CX k f fd ps sp:=⟨F.len,fun A outer s H args us vs Q E hr=>F.run A outer s H args us vs Q E (hr.mono h)⟩
section
variable {X : Cx} {pins : List (Addr × Obj)} {σ : St} {H : Hp} {s s' : Shared}
theorem Inv.env0 (I : Inv X pins σ H s) : Env0 X.prog X.w X.K X.mg X.base X.A X.stack s H :=
 ⟨I.ok.frames,I.ok.mod,I.bs,Nat.le_trans I.ok.bsz I.sz,I.stack,I.stkFree,I.hok,I.bare⟩
theorem Inv.after {Q : VK} {u : Value} (I : Inv X pins σ H s) (h : CE X.stack X.prog X.w H s Q u s') : EP X pins σ Q u s':=by
 obtain ⟨v,H',os,bare,un,hok,r,q⟩:=h
 obtain ⟨hh,g,d,t,os'⟩:=s'
 obtain rfl : os' = s.os:=os
 exact ⟨v,H',I.call (h':=hh) (g':=g) (d':=d) (t':=t) (ch:=[]) un hok bare (fun b z=>absurd z (by simp)),r,q⟩
end
noncomputable def jnx (sp : Sp) (dvs : List V) (E : XK) (t : TA) : TE:=fun σ H Q=>t σ H fun vs H1=>sp (vs ++ dvs) H1 Q E
noncomputable def jff (K : PySem.W.Frag) (fd : FuncData) (ps : List Str) (ds : List Value) : Prop :=
 ∀ (s : Shared) (us : List Value),K.In s.heap→(us ++ ds).length = ps.length→BindsTo s fd ⟨us,[]⟩ (ps.zip (us ++ ds))
theorem jff.all {K : PySem.W.Frag} {fd : FuncData} {ps : List Str} (h : ∀ us : List Value,us.length = ps.length→bindArgs fd ⟨us,[]⟩ = pure (ps.zip us)) : jff K fd ps []:=fun s us _ hl=>by
 rw [List.append_nil] at hl ⊢
 exact .of_eq (h us hl)
noncomputable def jnq (CX : CXT) (X : Cx) (E : XK) : Prop:=∀ (pins : List (Addr × Obj)) (σ : St) (H : Hp) (s : Shared) (e : Value) (s' : Shared),Inv X pins σ H s→CX X.stack H s E e s'→X.xe e s'
section
variable {X : Cx} {CX : CXT} {k : Nat} {f C : Addr} {fd : FuncData} {ps : List Str} {sp : Sp} {dvs : List V} {ds : List Value} {E : XK} {x m : Str} {p pos apos : Pos} {e o : Expr} {es : List Expr} {ta : TE} {t : TA}
theorem jpl {pins : List (Addr × Obj)} {σ : St} {H : Hp} {s : Shared} {Q : VK} {us : List Value} {vs : List V} (F : FnOk X.prog X.w X.K X.mg X.base CX k f fd ps sp) (hr : Room k X.A) (hb : jff X.K fd ps ds) (hd : Vals dvs ds) (hx : jnq CX X E)
  (I : Inv X pins σ H s) (r : Vals vs us) (h : sp (vs ++ dvs) H Q E) : wpAny (model X.prog X.w) X.A (call (.ref f) us) (EP X pins σ Q) X.xe s:=by
 have r2 : Vals (vs ++ dvs) (us ++ ds):=r.append hd
 have hl : (us ++ ds).length = ps.length:=by rw [← r2.length]; exact F.len _ _ _ _ h
 refine wpAny_call (codeAny_mono (F.run X.A X.stack s H ⟨us,[]⟩ (us ++ ds) (vs ++ dvs) Q E hr I.env0 (hb s us I.kIn hl) r2 h) fun r s' hq=>?_)
 cases r with
 | error e=>exact hx pins σ H s e s' I hq
 | ok fl =>
  cases fl with
  | ret u=>exact I.after hq
  | next=>exact False.elim hq
  | brk=>exact False.elim hq
  | cont=>exact False.elim hq
theorem jac (F : FnOk X.prog X.w X.K X.mg X.base CX k f fd ps sp) (hr : Room k X.A) (hg : Gl X x) (hm : X.mg x = some (.ref f)) (hk : PySem.W.keepIn X.K (.ref f) = true) (hb : jff X.K fd ps ds) (hd : Vals dvs ds) (hx : jnq CX X E)
  (ha : PA X (e :: es) t) (hdb : (x == ("__debug__" : Str)) = false:=by decide) (he : starEach (e :: es) X.env = (false,eval e X.env) :: starEach es X.env:=by rfl) (hpl : (backTo pos (starEach es X.env)).any (·.1) = false:=by rfl) :
  PE X (.Call (.Name x p) (e :: es) [] pos) (jnx sp dvs E t):=by
 intro pins s σ H Q I h
 refine wpAny_Call_Name_kw (jda I hg hm ?_ hdb)
 refine PySem.W.callWith_K (h₀:=X.base) I.ok.mod.kin hk (thn (ha pos pins s σ H _ I h) fun us s1 ⟨vs,H1,I1,r,q⟩=>⟨I1.kIn,?_⟩) he hpl
 exact jpl F hr hb hd hx I1 r q
end
section
variable {X : Cx} {CX : CXT} {k : Nat} {f C : Addr} {fd : FuncData} {ps ks : List Str} {sp : Sp} {E : XK} {x m : Str} {p pos apos kpos : Pos} {e o : Expr} {es : List Expr} {kws : List Keyword} {te ta : TE} {t tk : TA} {nm : Option Str}
variable {g : List Value→List Value→List Value} {gV : List V→List V→List V}
end
structure FnScope (N P : List Str) (sc : Scope) : Prop where
 kind : sc.kind = .function
 co : sc.isCoroutine = false
 gen : sc.isGenerator = false
 nd : N.Nodup
 pre : N.take P.length = P
 par : ∀ x ∈ P,sc.names.lookup x = some .local ∨ sc.names.lookup x = some .cell
 nofree : ∀ y ∈ sc.names,y.2 ≠ .free
theorem jhh {kindOf : Str→Option NameKind} {x : Str} : ∀ {binds : List (Str × Value)} {m : Str→Option Value},(∀ v,(x,v) ∉ binds)→bindL kindOf binds m x = m x
 | [],_,_=>rfl
 | (n,v) :: r,m,h=>by
  unfold bindL
  rw [jhh fun w hw=>h w (List.mem_cons_of_mem _ hw)]
  split
  ·have : x ≠ n:=by rintro rfl; exact h v List.mem_cons_self
   simp [this]
  ·rfl
theorem jhj {kindOf : Str→Option NameKind} {x : Str} : ∀ {binds : List (Str × Value)} {m : Str→Option Value},(∀ v,(x,v) ∉ binds)→bindC kindOf binds m x = m x
 | [],_,_=>rfl
 | (n,v) :: r,m,h=>by
  unfold bindC
  rw [jhj fun w hw=>h w (List.mem_cons_of_mem _ hw)]
  split
  ·rfl
  ·have : x ≠ n:=by rintro rfl; exact h v List.mem_cons_self
   simp [this]
theorem jhi {kindOf : Str→Option NameKind} {x : Str} {v : Value} : ∀ {P : List Str} {vs : List Value} {i : Nat} {m : Str→Option Value},P.Nodup→P[i]? = some x→vs[i]? = some v→kindOf x = some .local →
  bindL kindOf (P.zip vs) m x = some v
 | [],_,_,_,_,h,_,_=>by simp at h
 | _ :: _,[],_,_,_,_,h,_=>by simp at h
 | p :: P,w :: vs,0,m,nd,h1,h2,hk=>by
  simp at h1 h2; subst h1; subst h2
  show bindL kindOf ((p,w) :: P.zip vs) m p = _
  unfold bindL
  rw [jhh fun v hv=>(List.nodup_cons.mp nd).1 (List.of_mem_zip hv).1,if_pos hk]
  simp
 | p :: P,w :: vs,i + 1,m,nd,h1,h2,hk=>by
  show bindL kindOf ((p,w) :: P.zip vs) m x = _
  unfold bindL
  exact jhi (i:=i) (List.nodup_cons.mp nd).2 (by simpa using h1) (by simpa using h2) hk
theorem jhk {kindOf : Str→Option NameKind} {x : Str} {v : Value} : ∀ {P : List Str} {vs : List Value} {i : Nat} {m : Str→Option Value},P.Nodup→P[i]? = some x→vs[i]? = some v→kindOf x ≠ some .local →
  bindC kindOf (P.zip vs) m x = some v
 | [],_,_,_,_,h,_,_=>by simp at h
 | _ :: _,[],_,_,_,_,h,_=>by simp at h
 | p :: P,w :: vs,0,m,nd,h1,h2,hk=>by
  simp at h1 h2; subst h1; subst h2
  show bindC kindOf ((p,w) :: P.zip vs) m p = _
  unfold bindC
  rw [jhj fun v hv=>(List.nodup_cons.mp nd).1 (List.of_mem_zip hv).1,if_neg hk]
  simp
 | p :: P,w :: vs,i + 1,m,nd,h1,h2,hk=>by
  show bindC kindOf ((p,w) :: P.zip vs) m x = _
  unfold bindC
  exact jhk (i:=i) (List.nodup_cons.mp nd).2 (by simpa using h1) (by simpa using h2) hk
noncomputable def start (N : List Str) (vs : List V) : St:=vs.map some ++ List.replicate (N.length - vs.length) none
noncomputable def cxOf (CX : CXT) (P : Program) (w : World) (K : PySem.W.Frag) (mg : Str→Option Value) (base : Heap) (N : List Str) (qual : Str) (scope : Scope) (f : Addr) (cd : Value) (A : Around) (outer : List Env) (s : Shared) (H : Hp) (E : XK) : Cx where
 prog:=P
 w:=w
 K:=K
 mg:=mg
 base:=base
 A:=A.deeper (envOfC qual scope s.heap.objs.size f cd)
 N:=N
 s₀:=s
 H₀:=H
 env:=envOfC qual scope s.heap.objs.size f cd
 outer:=outer
 stack:=envOfC qual scope s.heap.objs.size f cd :: outer
 ex:=[]
 calm:=true
 fn:=fun _=>true
 pn:=[]
 xe:=fun e s'=>wpAny (model P w) (A.deeper (envOfC qual scope s.heap.objs.size f cd)) (leaving (envOfC qual scope s.heap.objs.size f cd) e) (fun _ s''=>CX outer H s E e s'') (fun e' s''=>CX outer H s E e' s'') s'
theorem jjy {sc : Scope} {n : Nat} {x : Str} (h : sc.names.lookup x = some .cell) : ∃ c,(cellsFrom n sc.names []).lookup x = some c:=by
 have q:=PySem.W.cellsFrom_some sc.names n [] (.inl h)
 exact Option.isSome_iff_exists.mp q
theorem jhb {CX : CXT} {P : Program} {w : World} {K : PySem.W.Frag} {mg : Str→Option Value} {base : Heap} {N ps : List Str} {qual : Str} {scope : Scope} {f : Addr} {cd : Value} {A : Around} {outer : List Env} {s s1 : Shared} {H : Hp} {E : XK} {us : List Value} {vs : List V}
  (S : FnScope N ps scope) (hd : A.handled = none) (e0 : Env0 P w K mg base A outer s H) (hl : vs.length = ps.length) (r : Vals vs us)
  (x : InCallC s s.heap.objs.size (bindL (envOfC qual scope s.heap.objs.size f cd).kindOf (ps.zip us) fun _=>none) (cellsFrom (s.heap.objs.size + 1) scope.names []) (bindC (envOfC qual scope s.heap.objs.size f cd).kindOf (ps.zip us) fun _=>none) s1) :
  Inv (cxOf CX P w K mg base N qual scope f cd A outer s H E) [] (start N vs) H s1:=by
 have hpl : ps.length ≤ N.length:=by have:=congrArg List.length S.pre; rw [List.length_take] at this; omega
 obtain ⟨h1,tk,rfl,hk⟩:=x.done
 have noA : ∀ b : Addr,b ∉ (cxOf CX P w K mg base N qual scope f cd A outer s H E).ex:=fun b z=>absurd (show b ∈ ([] : List Addr) from z) (by simp)
 refine ⟨⟨e0.mod,S.kind,rfl,rfl,Nat.le_refl _,fun y z c h1 h2=>?_,fun y hy=>?_,fun y c _ h=>?_,fun _=>hd,Around.frames_deeper e0.frames,.inr ⟨rfl,rfl⟩,fun b z=>absurd z (noA b),e0.bs,e0.bsz,fun b _ _=>noA b,fun b z=>absurd z (noA b),e0.funs,e0.frf⟩,
  rfl,e0.bare,Un.kept hk,⟨_,x.toInCall.ns,fun i y v h1 h2 h3=>?_⟩,fun y c h=>⟨_,x.cell y c h⟩,e0.hok.fresh (Nat.le_refl _),fun y c h=>?_,fun p hp=>absurd (show p ∈ ([] : List (Addr × Obj)) from hp) (by simp),e0.hok.kept hk,?_⟩
 ·exact name_of_addr x.apart (PySem.mem_of_lookup h1) (PySem.mem_of_lookup h2)
 ·have hy : scope.names.lookup y = some .cell ∨ scope.names.lookup y = some .free:=hy
  rcases hy with hy | hy
  ·exact jjy hy
  ·exact absurd rfl (S.nofree _ (PySem.mem_of_lookup hy))
 ·exact Nat.le_of_lt (x.above y c (PySem.mem_of_lookup h))
 ·have hi : i < vs.length:=by
   unfold start at h2
   by_cases hi : i < vs.length
   ·exact hi
   ·rw [List.getElem?_append_right (by simpa using hi)] at h2
    rw [List.getElem?_replicate] at h2
    split at h2 <;> cases h2
  have ha : vs[i]? = some v:=by
   unfold start at h2
   rw [List.getElem?_append_left (by simpa using hi),List.getElem?_map] at h2
   cases e : vs[i]? with
   | none=>rw [e] at h2; cases h2
   | some a=>rw [e] at h2; cases h2; rfl
  obtain ⟨u,hu,rv⟩:=r.get ha
  have hp : ps[i]? = some y:=by
   rw [← S.pre,List.getElem?_take_of_lt (by omega)]; exact h1
  have ndP : ps.Nodup:=by rw [← S.pre]; exact S.nd.sublist (List.take_sublist _ _)
  refine ⟨u,rv,?_⟩
  rcases S.par y (List.mem_of_getElem? hp) with k | k
  ·exact .inl ⟨k,jhi ndP hp hu k⟩
  ·obtain ⟨c,e⟩:=jjy (n:=s.heap.objs.size + 1) k
   refine .inr ⟨.inl k,c,e,?_⟩
   have q:=x.cell y c e
   rw [jhk ndP hp hu (by show scope.names.lookup y ≠ _; rw [k]; decide)] at q
   exact q
 ·exact e0.hok.fresh (Nat.le_of_lt (x.above y c (PySem.mem_of_lookup h)))
 ·unfold start
  show _ = N.length
  rw [List.length_append,List.length_map,List.length_replicate]
  omega
theorem fn_of {CX : CXT} {P : Program} {w : World} {K : PySem.W.Frag} {mg : Str→Option Value} {base : Heap} {k : Nat} {f : Addr} {name qual : Str} {params : Arguments} {body : List Stmt} {scope : Scope} {dV kV doc pm cdv ct oc : Value} {an od : Option Addr}
  {osl : Array (Option Value)} {N ps : List Str} {sp : Sp} (lk : K.lookup f = some ⟨oc,od,.func (PySem.W.fnOf name qual params body scope dV kV doc pm an cdv ct),osl⟩) (hcd : PySem.W.codeIn K cdv qual = true) (S : FnScope N ps scope)
  (len : ∀ vs H Q E,sp vs H Q E→vs.length = ps.length)
  (hbody : ∀ (A : Around) (outer : List Env) (s : Shared) (H : Hp) (vs : List V) (Q : VK) (E : XK),Room k (A.deeper (envOfC qual scope s.heap.objs.size f cdv))→sp vs H Q E →
   ∃ t,PSs (cxOf CX P w K mg base N qual scope f cdv A outer s H E) body t∧t { nx:=fun _ H'=>Q .non H',rt:=Q } (start N vs) H) :
  FnOk P w K mg base CX (k + 1) f (PySem.W.fnOf name qual params body scope dV kV doc pm an cdv ct) ps sp:=by
 refine ⟨len,fun A outer s H args us vs Q E hr e0 hb r hsp=>?_⟩
 have hl:=len _ _ _ _ hsp
 have KX : K.In s.heap:=e0.mod.kin.keeps fun b o e=>(e0.bs b o e).1
 have lim : s.heap.NoLimit:=e0.mod.nolimit.keeps fun b o e=>(e0.bs b o e).1
 have hkind : ∀ y ∈ ps.zip us,scope.names.lookup y.1 = some .local ∨ (scope.names.lookup y.1 = some .cell∧((cellsFrom (s.heap.objs.size + 1) scope.names []).lookup y.1).isSome = true):=fun ⟨n,v⟩ hy=>by
  rcases S.par n (List.of_mem_zip hy).1 with q | q
  ·exact .inl q
  ·exact .inr ⟨q,PySem.W.cellsFrom_some _ _ _ (.inl q)⟩
 refine codeAny_call_function hr.depth (KX _ _ lk) rfl S.co S.gen rfl (PySem.W.codeRec_of KX hcd) (hb _ _ _ _ ?_)
 refine wpAny_newFunctionEnv_cells S.kind hkind fun env he s1 x=>?_
 subst he
 refine ⟨lim.keeps x.toInCall.keep,codeAny_func ?_⟩
 obtain ⟨t,ht,hq⟩:=hbody A outer s H vs Q E (hr.deeper _) hsp
 have I : Inv (cxOf CX P w K mg base N qual scope f cdv A outer s H E) [] (start N vs) H s1:=jhb S hr.hd e0 hl r x
 refine wpAny_mono (ht [] s1 (start N vs) H _ I hq) (fun fl s' hs=>?_) fun e s' hs=>hs
 have fin : ∀ {σ' : St} {H' : Hp} {v : V} {u : Value},Inv (cxOf CX P w K mg base N qual scope f cdv A outer s H E) [] σ' H' s'→RelV v u→Q v H'→CE outer P w H s Q u s' :=
  fun {σ' H' v u} J rv q=>⟨v,H',J.os,J.bare,J.base,J.hok,rv,q⟩
 cases fl with
 | ret u =>
  obtain ⟨v,σ',H',J,rv,q⟩:=hs
  exact fin J rv q
 | next =>
  obtain ⟨σ',H',J,q⟩:=hs
  exact fin (v:=V.non) (u:=Value.none) J rfl q
 | brk =>
  obtain ⟨_,_,_,q⟩:=hs
  exact False.elim q
 | cont =>
  obtain ⟨_,_,_,q⟩:=hs
  exact False.elim q
end L2
namespace L2
open PySem PySem.Spec PyProof.Rows
section
variable {X : Cx} {x : Str} {p pos : Pos} {e : Expr} {es : List Expr} {t : TA} {id T : String} {r : List V→Hp→VK→Prop}
noncomputable def tCB (r : List V→Hp→VK→Prop) (t : TA) : TE:=fun σ H Q=>t σ H fun vs H1=>r vs H1 Q
theorem jaa (hc : jbo X (.builtin id) r) (hg : Gl X x) (hm : X.mg x = none) (hv : bootBuiltins x = some (.builtin id)) (ha : PA X (e :: es) t) (hn : x ≠ "__name__":=by decide) (hdb : (x == ("__debug__" : Str)) = false:=by decide)
  (he : starEach (e :: es) X.env = (false,eval e X.env) :: starEach es X.env:=by rfl) (hpl : (backTo pos (starEach es X.env)).any (·.1) = false:=by rfl) : PE X (.Call (.Name x p) (e :: es) [] pos) (tCB r t):=by
 intro pins s σ H Q I h
 refine wpAny_Call_Name_kw (jf3 I hg hm hv ?_ hn hdb)
 exact PyProof.Rows.callWith_builtin1 (thn (ha pos pins s σ H _ I h) fun us s1 ⟨vs,H1,I1,r1,q1⟩=>hc pins s1 σ H1 vs us Q I1 r1 q1) he hpl
theorem jcc (hc : jbo X (.type T) r) (hg : Gl X x) (hm : X.mg x = none) (hv : bootBuiltins x = some (.type T)) (ha : PA X (e :: es) t) (hn : x ≠ "__name__":=by decide) (hdb : (x == ("__debug__" : Str)) = false:=by decide)
  (he : starEach (e :: es) X.env = (false,eval e X.env) :: starEach es X.env:=by rfl) (hpl : (backTo pos (starEach es X.env)).any (·.1) = false:=by rfl) : PE X (.Call (.Name x p) (e :: es) [] pos) (tCB r t):=by
 intro pins s σ H Q I h
 refine wpAny_Call_Name_kw (jf3 I hg hm hv ?_ hn hdb)
 exact PyProof.Rows.callWith_type1 (thn (ha pos pins s σ H _ I h) fun us s1 ⟨vs,H1,I1,r1,q1⟩=>hc pins s1 σ H1 vs us Q I1 r1 q1) he hpl
end
end L2
namespace HT
open PySem PyProof.Rows
noncomputable def lexLt : List Int→List Int→Bool
 | [],[]=>false
 | [],_ :: _=>true
 | _ :: _,[]=>false
 | x :: xs,y :: ys=>if x = y then lexLt xs ys else decide (x < y)
theorem lexLt_cons (x y : Int) (xs ys : List Int) : lexLt (x :: xs) (y :: ys) = if x = y then lexLt xs ys else decide (x < y):=rfl
theorem lexLt_nil_nil : lexLt [] [] = false:=rfl
theorem lexLt_nil_cons (y : Int) (ys : List Int) : lexLt [] (y :: ys) = true:=rfl
theorem lexLt_cons_nil (x : Int) (xs : List Int) : lexLt (x :: xs) [] = false:=rfl
theorem eqAt_int (A : Around) (s : Shared) (a : Int) (t : Tok) (c : Int) (u : Tok) : ∃ e,SeqAt.EqAt A s (.int a t) (.int c u) e∧(e = true ↔ a = c) :=
 ⟨(a == c),SeqAt.EqAt.int_int a t c u,by simp⟩
theorem rcLt_int (A : Around) (s : Shared) (a : Int) (t : Tok) (c : Int) (u : Tok) (prog : Program) (w : World) (E : Value→Shared→Prop) (Q : Value→Shared→Prop) (h : Q (.bool (decide (a < c))) s) :
  wpAny (model prog w) A (richCompare .Lt (.int a t) (.int c u)) Q E s :=
 (PyProof.Rows.lt_int h : wpAny (model prog w) A (compareOp .Lt (.int a t) (.int c u)) Q E s)
section
open PySem.SeqAt
open PySem.AutoSeq1 (wpAny_loadPart')
open PySem.MeetsSeq PySem.MeetsSeq2 PySem.MeetsSeq3
theorem jfz (l b : Addr) (items items2 : Array Value) (n n2 : Nat) (dd dd2 : Option Addr) (sl sl2 : Array (Option Value)) (ns ms : List Int) (hi : IntsAre items.toList ns) (hj : IntsAre items2.toList ms) :
  Meets (Builtin.«tuple.__lt__» ⟨[.ref l,.ref b],[]⟩)
   (fun _ R s=>s.heap.get? l = some { cls:=.type "tuple",dict:=dd,data:=.seq items n,slots:=sl }∧s.heap.get? b = some { cls:=.type "tuple",dict:=dd2,data:=.seq items2 n2,slots:=sl2 } ∧
    R (.ok (.ret (.bool (lexLt ns ms)))) s) :=
 .of_wp fun prog w A R s h=>by
  obtain ⟨hp,g,d,tk,os⟩:=s; obtain ⟨hl,hb,h⟩:=h
  have f2:=AutoSeq1.sub_tuple_tuple
  have z1 : items.size = ns.length:=by rw [← hi.length]; simp
  have z2 : items2.size = ms.length:=by rw [← hj.length]; simp
  wp_walk using wpAny_loadPart' hl,wpAny_loadPart' hb,wpAny_forIn_list _ (fun rest b s'=>b.1 = none∧s' = ⟨hp,g,d,tk,os⟩∧∃ (vs ws : List Value) (ns' ms' : List Int),rest = vs.zip ws ∧
   IntsAre vs ns'∧IntsAre ws ms'∧ns'.length + items2.size = ms'.length + items.size∧R (.ok (.ret (.bool (lexLt ns' ms')))) ⟨hp,g,d,tk,os⟩) _
  case turn =>
   rintro ⟨y,x⟩ rest b s' ⟨hb',rfl,vs,ws,ns',ms',hz,hvi,hwi,hlen,hR⟩
   cases hvi with
   | nil=>rw [List.zip_nil_left] at hz; cases hz
   | cons a t hvi' =>
    cases hwi with
    | nil=>rw [List.zip_nil_right] at hz; cases hz
    | cons c u hwi' =>
     rw [List.zip_cons_cons] at hz
     injection hz with hyx hrest
     injection hyx with hy hx
     subst hy hx
     rw [lexLt_cons] at hR
     simp only [List.length_cons] at hlen
     obtain ⟨e,he,hiff⟩:=eqAt_int A.in1 ⟨hp,g,d,tk,os⟩ a t c u
     refine wpAny_bind (he prog w _ _ ?_)
     cases e with
     | true =>
      rw [if_pos (hiff.mp rfl)] at hR
      wp_walk
      exact ⟨rfl,rfl,_,_,_,_,hrest,hvi',hwi',by omega,hR⟩
     | false =>
      rw [if_neg (fun q=>absurd (hiff.mpr q) Bool.false_ne_true)] at hR
      have hri:=rcLt_int A.in1 ⟨hp,g,d,tk,os⟩ a t c u prog w
      wp_walk using hri
      exact ⟨_,rfl,by simpa using hR⟩
  case fin =>
   rintro ⟨b1,b2⟩ s' ⟨hb',rfl,vs,ws,ns',ms',hz,hvi,hwi,hlen,hR⟩
   simp only at hb'
   subst hb'
   have hv : lexLt ns' ms' = decide (items.size < items2.size):=by
    cases hvi with
    | nil =>
     cases hwi with
     | nil =>
      simp only [List.length_nil] at hlen
      rw [lexLt_nil_nil]
      exact (decide_eq_false (by omega)).symm
     | cons c u hw =>
      simp only [List.length_nil,List.length_cons] at hlen
      rw [lexLt_nil_cons]
      exact (decide_eq_true (by omega)).symm
    | cons a t hv =>
     cases hwi with
     | nil =>
      simp only [List.length_nil,List.length_cons] at hlen
      rw [lexLt_cons_nil]
      exact (decide_eq_false (by omega)).symm
     | cons c u hw =>
      rw [List.zip_cons_cons] at hz
      cases hz
   rw [hv] at hR
   wp_walk
   exact ⟨_,rfl,by simpa [Builtin.Tuple.tupleCompareSizes] using hR⟩
  case h =>
   exact ⟨rfl,rfl,items.toList,items2.toList,ns,ms,rfl,hi,hj,by omega,h⟩
end
section
variable {prog : Program} {w : World} {A : Around} {E : Value→Shared→Prop} {s : Shared}
theorem lt_tupInts {l b : Addr} {items items2 : Array Value} {ns ms : List Int} {Q : Value→Shared→Prop} (hl : IsTup s.heap l items) (hb : IsTup s.heap b items2) (hi : IntsAre items.toList ns) (hj : IntsAre items2.toList ms)
  (hu : A.units < cLine) (h : Q (.bool (lexLt ns ms)) s) : wpAny (model prog w) A (compareOp .Lt (.ref l) (.ref b)) Q E s:=by
 obtain ⟨⟨cls,dd,data,sl⟩,ho,hc,n,hd⟩:=id hl
 obtain ⟨⟨cls2,dd2,data2,sl2⟩,ho2,hc2,n2,hd2⟩:=id hb
 simp only at hc hd hc2 hd2
 subst hc hd hc2 hd2
 exact richCompare_meets_room (op:=.Lt) ⟨_,ho,rfl⟩ ⟨_,ho2,rfl⟩ PySem.F.slot_tuple_lt PySem.F.entry_tuple_lt (PySem.F.args_tuple_lt_2 _ _) (jfz l b items items2 n n2 dd dd2 sl sl2 ns ms hi hj)
  ⟨ho,ho2,show Value.bool (lexLt ns ms) ≠ Value.notImplemented∧Q (.bool (lexLt ns ms)) s from ⟨(fun x=>nomatch x),h⟩⟩ hu
theorem cat_tup {t b : Addr} {vs ws : List Value} {Q : Value→Shared→Prop} (ht : IsTup s.heap t vs.toArray) (hb : IsTup s.heap b ws.toArray) (hv : vs ≠ [])
  (h1 : ws = []→Q (.ref t) s) (h2 : ws ≠ []→Q (.ref s.heap.objs.size) { s with heap:=s.heap.push { cls:=.type "tuple",data:=.seq (vs ++ ws).toArray } })
  (hsz : vs.length + ws.length ≤ sizeLine) : wpAny (model prog w) A (binaryOp .Add (.ref t) (.ref b)) Q E s:=by
 obtain ⟨⟨cls,dd,data,sl⟩,ho,hc,n,hd⟩:=id ht
 obtain ⟨⟨cls2,dd2,data2,sl2⟩,ho2,hc2,n2,hd2⟩:=id hb
 simp only at hc hd hc2 hd2
 subst hc hd hc2 hd2
 have e : vs.toArray ++ ws.toArray = (vs ++ ws).toArray:=by simp
 by_cases hw : ws = []
 ·exact concat_meets ⟨_,ho,rfl⟩ ⟨_,ho2,rfl⟩ noFill_tuple_add seq_tuple_add PySem.F.slot_tuple_add PySem.F.entry_tuple_add (PySem.F.args_tuple_add_2 _ _)
   (tuple_addW1 t b vs.toArray ws.toArray n n2 dd dd2 sl sl2 (by simpa using hv) (by simp [hw])) ⟨ho,ho2,h1 hw⟩
 ·refine concat_meets ⟨_,ho,rfl⟩ ⟨_,ho2,rfl⟩ noFill_tuple_add seq_tuple_add PySem.F.slot_tuple_add PySem.F.entry_tuple_add (PySem.F.args_tuple_add_2 _ _)
   (tuple_addW2 t b vs.toArray ws.toArray n n2 dd dd2 sl sl2 (by simpa using hv) (by simpa using hw) (by rw [List.size_toArray,List.size_toArray]; exact hsz)) ⟨ho,ho2,?_⟩
  rw [e]
  exact h2 hw
noncomputable def sIx (n d : Nat) : Option Int→Nat
 | none=>d
 | some v=>if v < 0 then (v + (n : Int)).toNat else min v.toNat n
end
end HT
namespace L2
open PySem PySem.Spec PyProof.Rows
noncomputable abbrev TO:=St→Hp→(Option Int→Hp→Prop)→Prop
noncomputable def jl2 : TO:=fun _ H Q=>Q none H
theorem jby {ns : List Int} : ∀ {us : List Value},Vals (ns.map V.int) us→IntsAre us ns:=by
 induction ns with
 | nil=>intro us r; rw [List.map_nil] at r; cases r; exact .nil
 | cons n ns ih =>
  intro us r
  rw [List.map_cons] at r
  cases r with
  | cons r1 r2 =>
   obtain ⟨t,e⟩:=r1
   subst e
   exact .cons n t (ih r2)
section
variable {X : Cx} {e : Expr} {te : TE} {lo hi : Option Expr} {tl th : TO} {pos p2 : Pos}
noncomputable def tSl (r : V→Option Int→Option Int→Hp→VK→Prop) (te : TE) (tl th : TO) : TE:=fun σ H Q=>te σ H fun x H1=>tl σ H1 fun l H2=>th σ H2 fun u H3=>r x l u H3 Q
noncomputable def cutV (xs : List V) (lo hi : Option Int) : List V:=(xs.drop (HT.sIx xs.length 0 lo)).take (HT.sIx xs.length xs.length hi - HT.sIx xs.length 0 lo)
noncomputable def rLtT (K : PySem.W.Frag) : R2:=fun x y H Q=>∃ a b ns ms,x = .ref a∧y = .ref b∧SqT K H a (ns.map V.int)∧SqT K H b (ms.map V.int)∧Q (.bl (HT.lexLt ns ms)) H
theorem op_ltT (hu : X.A.units < cLine) : OpR X (compareOp .Lt) (rLtT X.K):=by
 intro pins s σ H x y v u Q I rx ry h
 obtain ⟨a,b,ns,ms,rfl,rfl,ha,hb,q⟩:=h
 cases rx
 cases ry
 obtain ⟨its,r1,p1,_⟩:=I.tuple ha
 obtain ⟨its2,r2,p2,_⟩:=I.tuple hb
 have i1 : IntsAre its.toArray.toList ns:=jby r1
 have i2 : IntsAre its2.toArray.toList ms:=jby r2
 exact HT.lt_tupInts p1 p2 i1 i2 hu ⟨.bl (HT.lexLt ns ms),H,I,rfl,q⟩
noncomputable def rCatT (K : PySem.W.Frag) : R2:=fun x y H Q=>∃ a b xs ys,x = .ref a∧y = .ref b∧SqT K H a xs∧SqT K H b ys∧xs ≠ []∧xs.length + ys.length ≤ sizeLine ∧
 (ys = []→Q (.ref a) H)∧(ys ≠ []→∀ p,H p = none→Q (.ref p) (upd H p (.tup (xs ++ ys))))
theorem Vals.nil_iff {xs : List V} {us : List Value} (r : Vals xs us) : us = [] ↔ xs = []:=by
 cases r with
 | nil=>simp
 | cons _ _=>simp
theorem jqv : OpR X (binaryOp .Add) (rCatT X.K):=by
 intro pins s σ H x y v u Q I rx ry h
 obtain ⟨a,b,xs,ys,rfl,rfl,ha,hb,hx,hz,q1,q2⟩:=h
 cases rx
 cases ry
 obtain ⟨its,r1,p1,_⟩:=I.tuple ha
 obtain ⟨its2,r2,p2,_⟩:=I.tuple hb
 refine HT.cat_tup p1 p2 (fun z=>hx (r1.nil_iff.mp z)) (fun z=>⟨.ref a,H,I,rfl,q1 (r2.nil_iff.mp z)⟩) (fun z=>?_) (by rw [← r1.length,← r2.length]; exact hz)
 refine ⟨.ref s.heap.objs.size,_,I.laid (t':=s.toks) (o:=.tup (xs ++ ys)) (fun b ob q=>Heap.get?_push_of_some _ q) (Nat.le_refl _) ?_,rfl,q2 (fun w=>z (r2.nil_iff.mpr w)) _ (I.hok.fresh (Nat.le_refl _))⟩
 exact ⟨by rw [List.length_append]; exact hz,_,r1.append r2,IsTup.new _ _⟩
end
end L2
namespace L2
open PySem PySem.Spec PyProof.Rows
noncomputable def ixN (n : Nat) (i : Int) : Option Nat:=if 0 ≤ i then (if i < n then some i.toNat else none) else if -(n : Int) ≤ i then some (i + n).toNat else none
noncomputable def atI {α : Type} (xs : List α) (i : Int) : Option α:=(ixN xs.length i).bind fun j=>xs[j]?
theorem jmo {n : Nat} {i : Int} {j : Nat} (h : ixN n i = some j) : seqIndex? i n = some j∧j < n∧-(n : Int) ≤ i∧i < n:=by
 unfold ixN at h
 by_cases h0 : 0 ≤ i
 ·rw [if_pos h0] at h
  by_cases h1 : i < n
  ·rw [if_pos h1] at h
   have e : i.toNat = j:=Option.some.inj h
   exact ⟨by rw [seqIndex_of h0 h1,e],by omega,by omega,h1⟩
  ·rw [if_neg h1] at h; cases h
 ·rw [if_neg h0] at h
  by_cases h1 : -(n : Int) ≤ i
  ·rw [if_pos h1] at h
   have e : (i + n).toNat = j:=Option.some.inj h
   exact ⟨by rw [seqIndex_neg (by omega) h1,e],by omega,h1,by omega⟩
  ·rw [if_neg h1] at h; cases h
theorem jnk {α : Type} {xs : List α} {i : Int} {v : α} (h : atI xs i = some v) : ∃ j,seqIndex? i xs.length = some j∧xs[j]? = some v∧j < xs.length∧-(xs.length : Int) ≤ i∧i < xs.length:=by
 unfold atI at h
 cases e : ixN xs.length i with
 | none=>rw [e] at h; cases h
 | some j =>
  rw [e] at h
  obtain ⟨h1,h2,h3,h4⟩:=jmo e
  exact ⟨j,h1,h,h2,h3,h4⟩
theorem jcl {α : Type} {xs : List α} {j : Nat} {v : α} (h : xs[j]? = some v) : atI xs (j : Int) = some v:=by
 have hj : j < xs.length:=(List.getElem?_eq_some_iff.mp h).1
 have e : ixN xs.length (j : Int) = some j:=by
  unfold ixN
  rw [if_pos (by omega),if_pos (by omega)]; simp
 unfold atI; rw [e]; exact h
noncomputable def jrt (b : Expr) : Prop:=∀ o i,subscripted b false o i = operate [o,i] (getItem o i)
noncomputable def IxR (X : Cx) (r : R2) : Prop :=
 ∀ (value slice : Expr) (pins : List (Addr × Obj)) (s : Shared) (σ : St) (H : Hp) (x y : V) (v u : Value) (Q : VK),Inv X pins σ H s→RelV x v→RelV y u→r x y H Q →
  subscripted slice false v u = operate [v,u] (getItem v u)→wpAny (model X.prog X.w) X.A (subscriptTail value slice v u) (EP X pins σ Q) X.xe s
noncomputable def MtR (X : Cx) (id : String) (r : V→List V→Hp→VK→Prop) : Prop :=
 ∀ (pins : List (Addr × Obj)) (s : Shared) (σ : St) (H : Hp) (x : V) (xs : List V) (v : Value) (us : List Value) (Q : VK),Inv X pins σ H s→RelV x v→Vals xs us→r x xs H Q →
  wpAny (model X.prog X.w) X.A (call (.builtin id) (v :: us)) (EP X pins σ Q) X.xe s
section
variable {X : Cx} {a b : Expr} {ta tb : TE} {pos : Pos}
theorem IxR.or {r r' : R2} (h : IxR X r) (h' : IxR X r') : IxR X (fun x y H Q=>r x y H Q ∨ r' x y H Q):=by
 intro value slice pins s σ H x y v u Q I rx ry q hs
 rcases q with q | q
 ·exact h value slice pins s σ H x y v u Q I rx ry q hs
 ·exact h' value slice pins s σ H x y v u Q I rx ry q hs
theorem jaf {r : R2} (hr : IxR X r) (ha : PE X a ta) (hb : PE X b tb) (hs : jrt b) : PE X (.Subscript a b pos) (tOp r ta tb):=by
 intro pins s σ H Q I h
 exact Subscript_ (binT ha hb I h fun v u s2 x y H2 I2 rx ry q=>hr a b pins s2 σ H2 x y v u Q I2 rx ry q (hs _ _))
noncomputable def rIxL (K : PySem.W.Frag) : R2:=fun x y H Q=>∃ p xs i v,x = .ref p∧y = .int i∧SqL K H p xs∧atI xs i = some v∧Q v H
noncomputable def rIxT (K : PySem.W.Frag) : R2:=fun x y H Q=>∃ p xs i v,x = .ref p∧y = .int i∧SqT K H p xs∧atI xs i = some v∧Q v H
theorem jmn : IxR X (rIxL X.K):=by
 intro value slice pins s σ H x y v u Q I rx ry h hs
 obtain ⟨p,xs,i,z,rfl,rfl,hq,he,q⟩:=h
 cases rx
 obtain ⟨t,rfl⟩:=ry
 obtain ⟨its,r,pl,hz⟩:=I.list hq
 obtain ⟨j,h1,h2,h3,h4,h5⟩:=jnk he
 obtain ⟨w,ew,rw'⟩:=r.get h2
 have hl:=r.length
 have hn:=jjl
 have fin : EP X pins σ Q w s:=⟨z,H,I,rw',q⟩
 by_cases h0 : 0 ≤ i
 ·have hj : i.toNat = j:=by
   rw [seqIndex_of h0 h5] at h1
   exact Option.some.inj h1
  exact item_listR pl.isList h0 (by omega) (by rw [hj]; simpa using ew) fin hs
 ·have hj : (i + (its.toArray.size : Int)).toNat = j:=by
   rw [seqIndex_neg (by omega) h4] at h1
   rw [List.size_toArray,← hl]
   exact Option.some.inj h1
  exact subscriptTail_builtinR (x:=w) pl.isList.typeIs slot_list_getitem.lookup
   (wpAny_getItem_list_neg (Q:=fun r s'=>r = w∧EP X pins σ Q r s') pl.isList (by omega) (by rw [List.size_toArray] <;> omega) (by omega) (by rw [hj]; simpa using ew) ⟨rfl,fin⟩) hs
theorem ix_tup : IxR X (rIxT X.K):=by
 intro value slice pins s σ H x y v u Q I rx ry h hs
 obtain ⟨p,xs,i,z,rfl,rfl,hq,he,q⟩:=h
 cases rx
 obtain ⟨t,rfl⟩:=ry
 obtain ⟨its,r,pl,hz⟩:=I.tuple hq
 obtain ⟨j,h1,h2,h3,h4,h5⟩:=jnk he
 obtain ⟨w,ew,rw'⟩:=r.get h2
 have hl:=r.length
 have hn:=jjl
 have fin : EP X pins σ Q w s:=⟨z,H,I,rw',q⟩
 exact subscriptTail_builtinR (x:=w) pl.typeIs slot_tuple_getitem.lookup
  (getItem_tuple (j:=j) (Q:=fun r s'=>r = w∧EP X pins σ Q r s') pl (by omega) (by omega) (by rw [List.size_toArray,← hl]; exact h1) (by simpa using ew) ⟨rfl,fin⟩) hs
theorem jkd (its : List Value) (n j : Nat) (u : Value) : Obj.mapSeq (·.setIfInBounds j u) { cls:=.type "list",data:=.seq its.toArray n } = { cls:=.type "list",data:=.seq (its.set j u).toArray n }:=by
 simp [Obj.mapSeq]
theorem Inv.lst {pins : List (Addr × Obj)} {σ : St} {H : Hp} {s : Shared} {p : Addr} {xs : List V} (I : Inv X pins σ H s) (h : H p = some (.lst xs)) :
  ∃ (its : List Value) (n : Nat),Vals xs its∧s.heap.get? p = some { cls:=.type "list",data:=.seq its.toArray n }∧xs.length ≤ sizeLine:=by
 obtain ⟨z,its,n,r,e⟩:=I.hok p _ h
 exact ⟨its,n,r,e,z⟩
theorem Inv.lstUpd {pins : List (Addr × Obj)} {σ : St} {H : Hp} {s : Shared} {p : Addr} {xs ys : List V} {its its' : List Value} {n n' : Nat} {f : Obj→Obj} (I : Inv X pins σ H s) (h : H p = some (.lst xs))
  (ho : s.heap.get? p = some { cls:=.type "list",data:=.seq its.toArray n }) (hf : f { cls:=.type "list",data:=.seq its.toArray n } = { cls:=.type "list",data:=.seq its'.toArray n' }) (r : Vals ys its') (hz : ys.length ≤ sizeLine) (t : Nat) :
  Inv X pins σ (upd H p (.lst ys)) { s with heap:=s.heap.update p f,toks:=t }:=by
 have e : (s.heap.update p f).get? p = some { cls:=.type "list",data:=.seq its'.toArray n' }:=by
  rw [Heap.get?_update_self f ho (by rw [hf] <;> rfl),hf]
 refine I.write (x:=p) (e:=p) (by rw [h]; trivial) (.inl rfl) (fun b u hb q=>(Heap.get?_update_other _ _ (Ne.symm hb)).trans q) ⟨_,e⟩ ?_
 exact ⟨hz,its',n',r,e⟩
noncomputable def rSetL : V→V→V→Hp→(Hp→Prop)→Prop:=fun o i v H Q=>∃ p xs k j,o = .ref p∧i = .int k∧H p = some (.lst xs)∧ixN xs.length k = some j∧Q (upd H p (.lst (xs.set j v)))
theorem jo2 : PSet X rSetL:=by
 intro pins s σ H o i v ov iv u Q I ro ri rv h
 obtain ⟨p,xs,k,j,rfl,rfl,hp,hj,q⟩:=h
 cases ro
 obtain ⟨t,rfl⟩:=ri
 obtain ⟨its,n,r,ho,hz⟩:=I.lst hp
 obtain ⟨h1,h2,h3,h4⟩:=jmo hj
 have hl:=r.length
 have hn:=jjl
 have I' : Inv X pins σ (upd H p (.lst (xs.set j v))) { s with heap:=s.heap.update p (Obj.mapSeq (·.setIfInBounds j u)) } :=
  I.lstUpd hp ho (jkd its n j u) (r.set rv j) (by rw [List.length_set]; exact hz) s.toks
 by_cases h0 : 0 ≤ k
 ·have hk : k.toNat = j:=by
   rw [seqIndex_of h0 h4] at h1
   exact Option.some.inj h1
  exact PySem.W.ki_setAt ho h0 (by omega) (by rw [List.size_toArray,← hl]; exact h4) (by rw [hk]; exact ⟨_,I',q⟩)
 ·have hk : (k + (its.toArray.size : Int)).toNat = j:=by
   rw [seqIndex_neg (by omega) h3] at h1
   rw [List.size_toArray,← hl]
   exact Option.some.inj h1
  exact PySem.W.ki_setBack ho (by omega) (by rw [List.size_toArray,← hl]; exact h3) (by omega) (by rw [hk]; exact ⟨_,I',q⟩)
noncomputable def jd3 : V→Bool
 | .non=>true
 | .bl _=>true
 | .int _=>true
 | .str _=>true
 | _=>false
noncomputable def eqV : V→V→Bool
 | .non,.non=>true
 | .bl a,.bl b=>a == b
 | .bl a,.int b=>(if a then 1 else 0) == b
 | .int a,.bl b=>a == (if b then 1 else 0)
 | .int a,.int b=>a == b
 | .str a,.str b=>a == b
 | _,_=>false
theorem jq0 {A : Around} {s : Shared} {y x : V} {u v : Value} (ry : RelV y u) (rx : RelV x v) (fy : jd3 y = true) (fx : jd3 x = true) : SeqAt.EqAt A s u v (eqV y x):=by
 cases y with
 | non =>
  cases ry
  cases x with
  | non=>cases rx; exact SeqAt.EqAt.same _
  | bl b=>cases rx; exact SeqAt.EqAt.none_bool b
  | int b=>obtain ⟨t,rfl⟩:=rx; exact SeqAt.EqAt.none_int b t
  | str b=>obtain ⟨t,rfl⟩:=rx; exact SeqAt.EqAt.none_str b t
  | _=>exact absurd (show false = true from fx) Bool.false_ne_true
 | bl a =>
  cases ry
  cases x with
  | non=>cases rx; exact SeqAt.EqAt.bool_none a
  | bl b=>cases rx; exact SeqAt.EqAt.bool_bool a b
  | int b=>obtain ⟨t,rfl⟩:=rx; exact SeqAt.EqAt.bool_int a b t
  | str b=>obtain ⟨t,rfl⟩:=rx; exact SeqAt.EqAt.bool_str a b t
  | _=>exact absurd (show false = true from fx) Bool.false_ne_true
 | int a =>
  obtain ⟨t',rfl⟩:=ry
  cases x with
  | non=>cases rx; exact SeqAt.EqAt.int_none a t'
  | bl b=>cases rx; exact SeqAt.EqAt.int_bool a t' b
  | int b=>obtain ⟨t,rfl⟩:=rx; exact SeqAt.EqAt.int_int a t' b t
  | str b=>obtain ⟨t,rfl⟩:=rx; exact SeqAt.EqAt.int_str a t' b t
  | _=>exact absurd (show false = true from fx) Bool.false_ne_true
 | str a =>
  obtain ⟨t',rfl⟩:=ry
  cases x with
  | non=>cases rx; exact SeqAt.EqAt.str_none a t'
  | bl b=>cases rx; exact SeqAt.EqAt.str_bool a t' b
  | int b=>obtain ⟨t,rfl⟩:=rx; exact SeqAt.EqAt.str_int a t' b t
  | str b=>obtain ⟨t,rfl⟩:=rx; exact SeqAt.EqAt.str_str a t' b t
  | _=>exact absurd (show false = true from fx) Bool.false_ne_true
 | _=>exact absurd (show false = true from fy) Bool.false_ne_true
noncomputable def eqU (x : V) (u : Value) : Bool:=match u with
 | .none=>eqV .non x
 | .bool b=>eqV (.bl b) x
 | .int i _=>eqV (.int i) x
 | .str z _=>eqV (.str z) x
 | _=>false
theorem jpz {x y : V} {u : Value} (r : RelV y u) (f : jd3 y = true) : eqU x u = eqV y x:=by
 cases y with
 | non=>cases r; rfl
 | bl b=>cases r; rfl
 | int i=>obtain ⟨t,rfl⟩:=r; rfl
 | str z=>obtain ⟨t,rfl⟩:=r; rfl
 | _=>exact absurd (show false = true from f) Bool.false_ne_true
theorem jfe {x : V} : ∀ {xs : List V} {us : List Value},Vals xs us→xs.all jd3 = true→us.any (eqU x) = xs.any fun y=>eqV y x
 | _,_,.nil,_=>rfl
 | y :: xs,u :: us,.cons r t,f=>by
  rw [List.all_cons,Bool.and_eq_true] at f
  rw [List.any_cons,List.any_cons,jpz r f.1,jfe t f.2]
theorem jdk {A : Around} {s : Shared} {x : V} {v : Value} (rx : RelV x v) (fx : jd3 x = true) : ∀ {xs : List V} {us : List Value},Vals xs us→xs.all jd3 = true→∀ u ∈ us,SeqAt.EqAt A s u v (eqU x u)
 | _,_,.nil,_=>fun u hu=>by cases hu
 | y :: xs,u :: us,.cons r t,f=>fun u' hu=>by
  rw [List.all_cons,Bool.and_eq_true] at f
  rcases List.mem_cons.mp hu with rfl | hu
  ·rw [jpz r f.1]; exact jq0 r rx f.1 fx
  ·exact jdk rx fx t f.2 u' hu
noncomputable def inV (x : V) (xs : List V) : Bool:=xs.any fun y=>eqV y x
noncomputable def rIn (K : PySem.W.Frag) (neg : Bool) : R2:=fun x y H Q=>∃ p xs,y = .ref p∧(SqL K H p xs ∨ SqT K H p xs)∧jd3 x = true∧xs.all jd3 = true∧Q (.bl (if neg then !inV x xs else inV x xs)) H
theorem jlz : OpR X (compareOp .In) (rIn X.K false):=by
 intro pins s σ H x y v u Q I rx ry h
 obtain ⟨p,xs,rfl,hq,fx,fs,q⟩:=h
 cases ry
 rcases hq with hq | hq
 ·obtain ⟨its,r,pl,hz⟩:=I.list hq
  refine SeqAt.in_listAt (eqU x) pl.isList (fun w hw=>jdk rx fx r fs w (by simpa using hw)) ⟨.bl _,H,I,rfl,?_⟩
  rw [show its.toArray.any (eqU x) = its.any (eqU x) by simp,jfe r fs]
  exact q
 ·obtain ⟨its,r,pl,hz⟩:=I.tuple hq
  refine SeqAt.in_tupleAt (eqU x) pl (fun w hw=>jdk rx fx r fs w (by simpa using hw)) ⟨.bl _,H,I,rfl,?_⟩
  rw [show its.toArray.any (eqU x) = its.any (eqU x) by simp,jfe r fs]
  exact q
theorem jgw : OpR X (compareOp .NotIn) (rIn X.K true):=by
 intro pins s σ H x y v u Q I rx ry h
 obtain ⟨p,xs,rfl,hq,fx,fs,q⟩:=h
 cases ry
 rcases hq with hq | hq
 ·obtain ⟨its,r,pl,hz⟩:=I.list hq
  refine SeqAt.notIn_listAt (eqU x) pl.isList (fun w hw=>jdk rx fx r fs w (by simpa using hw)) ⟨.bl _,H,I,rfl,?_⟩
  rw [show its.toArray.any (eqU x) = its.any (eqU x) by simp,jfe r fs]
  exact q
 ·obtain ⟨its,r,pl,hz⟩:=I.tuple hq
  refine SeqAt.notIn_tupleAt (eqU x) pl (fun w hw=>jdk rx fx r fs w (by simpa using hw)) ⟨.bl _,H,I,rfl,?_⟩
  rw [show its.toArray.any (eqU x) = its.any (eqU x) by simp,jfe r fs]
  exact q
theorem jcu : jbo X (.builtin "len") (fun xs H Q=>∃ p ys,xs = [.ref p]∧(SqL X.K H p ys ∨ SqT X.K H p ys)∧Q (.int ys.length) H):=by
 intro pins s σ H xs us Q I r h
 obtain ⟨p,ys,rfl,hq,q⟩:=h
 obtain ⟨u,rfl,rx⟩:=jhp r
 cases rx
 have hn:=jjl
 rcases hq with hq | hq
 ·obtain ⟨its,r',pl,hz⟩:=I.list hq
  have hlen:=r'.length
  exact Calls.call_len_list pl.isList (by simp only [List.size_toArray] <;> omega) ⟨.int ys.length,H,I.tok _,⟨s.toks + 1,by rw [List.size_toArray,hlen]⟩,q⟩
 ·obtain ⟨its,r',pl,hz⟩:=I.tuple hq
  have hlen:=r'.length
  exact len_tuple pl (by simp only [List.size_toArray] <;> omega) ⟨.int ys.length,H,I.tok _,⟨s.toks + 1,by rw [List.size_toArray,hlen]⟩,q⟩
theorem jhg : jbo X (.type "list") (fun xs H Q=>∃ p ys,xs = [.ref p]∧(SqL X.K H p ys ∨ SqT X.K H p ys)∧∀ l,H l = none→Q (.ref l) (upd H l (.lst ys))):=by
 intro pins s σ H xs us Q I r h
 obtain ⟨p,ys,rfl,hq,q⟩:=h
 obtain ⟨u,rfl,rx⟩:=jhp r
 cases rx
 have fin : ∀ (its : List Value),Vals ys its→ys.length ≤ sizeLine→∀ (h' : Heap) (c' : Nat),(∀ b o',s.heap.get? b = some o'→h'.get? b = some o') →
   h'.get? s.heap.objs.size = some { cls:=.type "list",dict:=none,data:=.seq its.toArray c',slots:=#[] }→EP X pins σ Q (.ref s.heap.objs.size) { s with heap:=h' }:=fun its r' hz h' c' kp e =>
  ⟨.ref s.heap.objs.size,_,I.laid (t':=s.toks) kp (Nat.le_refl _) (show jb8 X.prog X.w _ h' _ (.lst ys) from ⟨hz,its,c',r',e⟩),rfl,q _ (I.hok.fresh (Nat.le_refl _))⟩
 rcases hq with hq | hq
 ·obtain ⟨its,r',pl,hz⟩:=I.list hq
  have hlen:=r'.length
  obtain ⟨o,ho,hc,n,hd⟩:=pl.isList
  exact call_list_seq p (.inl rfl) ho hc hd (fun h' c' kp e=>fin its r' hz h' c' kp e) (by simp only [List.size_toArray] <;> omega)
 ·obtain ⟨its,r',pl,hz⟩:=I.tuple hq
  have hlen:=r'.length
  obtain ⟨o,ho,hc,n,hd⟩:=pl
  exact call_list_seq p (.inr rfl) ho hc hd (fun h' c' kp e=>fin its r' hz h' c' kp e) (by simp only [List.size_toArray] <;> omega)
theorem jgh : jbo X (.type "tuple") (fun xs H Q=>∃ p ys,xs = [.ref p]∧((SqL X.K H p ys∧∀ l,H l = none→Q (.ref l) (upd H l (.tup ys))) ∨ (SqT X.K H p ys∧Q (.ref p) H))):=by
 intro pins s σ H xs us Q I r h
 obtain ⟨p,ys,rfl,h⟩:=h
 obtain ⟨u,rfl,rx⟩:=jhp r
 cases rx
 rcases h with ⟨hq,q⟩ | ⟨hq,q⟩
 ·obtain ⟨its,r',pl,hz⟩:=I.list hq
  have hlen:=r'.length
  refine call_tuple_list pl.isList (fun h' kp=>?_) (by simp only [List.size_toArray] <;> omega)
  have I1 : Inv X pins σ H { s with heap:=h' }:=I.kept (t':=s.toks) kp
  have I2 : Inv X pins σ (upd H h'.objs.size (.tup ys)) { s with heap:=h'.push { cls:=.type "tuple",data:=.seq its.toArray } } :=
   I1.laid (t':=s.toks) (fun b o e=>Heap.get?_push_of_some _ e) (Nat.le_refl _) (show jb8 X.prog X.w _ _ _ (.tup ys) from ⟨hz,its,r',IsTup.new _ _⟩)
  exact ⟨.ref h'.objs.size,_,I2,rfl,q _ (I1.hok.fresh (Nat.le_refl _))⟩
 ·obtain ⟨its,r',pl,hz⟩:=I.tuple hq
  exact call_tuple_same pl ⟨.ref p,H,I,rfl,q⟩
noncomputable def tyV (K : PySem.W.Frag) (T : String) (x : V) (H : Hp) : Prop:=match x with
 | .str _=>T = "str"
 | .int _=>T = "int"
 | .ref p=>(T = "list"∧∃ xs,SqL K H p xs) ∨ (T = "tuple"∧∃ o,K.lookup p = some o∧o.cls = .type "tuple"∧o.dict = none) ∨
   (T = "dict"∧((∃ kvs,H p = some (.dK kvs)) ∨ ∃ kvs,H p = some (.dT kvs))) ∨ (T = "set"∧∃ S n,H p = some (.set S n))
 | _=>False
theorem jp9 {pins : List (Addr × Obj)} {σ : St} {H : Hp} {s : Shared} {T : String} {x : V} {v : Value} (I : Inv X pins σ H s) (r : RelV x v) (ty : tyV X.K T x H) :
  s.TypeIs v T∧∀ a,v = .ref a→∃ ob,s.heap.get? a = some ob∧ob.dict = none:=by
 cases x with
 | str z =>
  obtain ⟨t,rfl⟩:=r
  cases (show T = "str" from ty)
  exact ⟨typeIs_str s z t,fun _ e=>nomatch e⟩
 | int i =>
  obtain ⟨t,rfl⟩:=r
  cases (show T = "int" from ty)
  exact ⟨typeIs_int s i t,fun _ e=>nomatch e⟩
 | ref p =>
  cases r
  rcases ty with ⟨rfl,xs,hq⟩ | ⟨rfl,o,hk,hc,hd⟩ | ⟨rfl,hk⟩ | ⟨rfl,S,n,hk⟩
  ·obtain ⟨its,_,pl,_⟩:=I.list hq
   refine ⟨pl.isList.typeIs,fun a e=>?_⟩
   cases e
   obtain ⟨o,n,e,c,hd,_⟩:=pl
   exact ⟨o,e,hd⟩
  ·refine ⟨⟨o,I.kIn p o hk,hc⟩,fun a e=>?_⟩
   cases e
   exact ⟨o,I.kIn _ o hk,hd⟩
  ·have z : ∃ o,s.heap.get? p = some o∧o.ExactDict:=by
    rcases hk with ⟨kvs,hk⟩ | ⟨kvs,hk⟩
    ·obtain ⟨_,_,_,_,o,_,_,e,ex,_⟩:=I.hok p _ hk
     exact ⟨o,e,ex⟩
    ·obtain ⟨_,_,_,_,o,_,_,e,ex,_⟩:=I.hok p _ hk
     exact ⟨o,e,ex⟩
   obtain ⟨o,e,ex⟩:=z
   refine ⟨⟨o,e,ex.1⟩,fun a e2=>?_⟩
   cases e2
   exact ⟨o,e,ex.2.1⟩
  ·obtain ⟨o,_,_,_,e,ex,_⟩:=I.hok p _ hk
   refine ⟨⟨o,e,ex.1⟩,fun a e2=>?_⟩
   cases e2
   exact ⟨o,e,ex.2.1⟩
 | _=>exact False.elim ty
variable {o e : Expr} {es : List Expr} {to : TE} {t : TA} {name : Str} {apos cpos : Pos} {T id : String} {r : V→List V→Hp→VK→Prop}
/- xs.append(e),list.index on a module's tuple .. are MtR facts of 06m -/
end
end L2
namespace L2
open PySem PySem.Spec PyProof.Rows
noncomputable def MtM (X : Cx) (id : String) (r : V→List V→Hp→VK→Prop) : Prop :=
 ∀ (pins : List (Addr × Obj)) (s : Shared) (σ : St) (H : Hp) (x : V) (xs : List V) (v : Value) (us : List Value) (Q : VK),Inv X pins σ H s→RelV x v→Vals xs us→r x xs H Q →
  wpAny (model X.prog X.w) X.A (call (.builtin id) (v :: us)) (EP X pins σ Q) X.xe s
theorem Vals.one : ∀ {x : V} {us : List Value},Vals [x] us→∃ u,us = [u]∧RelV x u
 | _,_,.cons r .nil=>⟨_,rfl,r⟩
theorem Vals.two : ∀ {x y : V} {us : List Value},Vals [x,y] us→∃ u v,us = [u,v]∧RelV x u∧RelV y v
 | _,_,_,.cons r (.cons q .nil)=>⟨_,_,rfl,r,q⟩
theorem Vals.zero : ∀ {us : List Value},Vals [] us→us = []
 | _,.nil=>rfl
section
variable {X : Cx} {pins : List (Addr × Obj)} {σ : St} {H : Hp} {s : Shared} {l b : Addr} {xs ys zs : List V}
theorem Inv.lset {its its' : List Value} {n : Nat} {f : Array Value→Array Value} {t' : Nat} (I : Inv X pins σ H s) (hH : H l = some (.lst xs))
  (e : s.heap.get? l = some { cls:=.type "list",data:=.seq its.toArray n }) (hf : f its.toArray = its'.toArray) (hv : Vals ys its') (hz : ys.length ≤ sizeLine) :
  Inv X pins σ (upd H l (.lst ys)) { s with heap:=s.heap.update l (Obj.mapSeq f),toks:=t' }:=by
 have q:=PySem.IsL.update e f
 rw [hf] at q
 refine I.write (x:=l) (e:=l) (by rw [hH]; exact trivial) (.inl rfl) (fun b' u hb hu=>(Heap.get?_update_other s.heap (Obj.mapSeq f) (Ne.symm hb)).trans hu) ⟨_,q⟩ ?_
 exact ⟨hz,its',_,hv,q⟩
theorem Inv.lnew {its : List Value} {t' : Nat} (I : Inv X pins σ H s) (hv : Vals ys its) (hz : ys.length ≤ sizeLine) :
  Inv X pins σ (upd H s.heap.objs.size (.lst ys)) { s with heap:=s.heap.push { cls:=.type "list",data:=.seq its.toArray },toks:=t' } :=
 I.laid (fun _ _ q=>Heap.get?_push_of_some _ q) (Nat.le_refl _) ⟨hz,its,0,hv,Heap.get?_push_size _ rfl⟩
theorem Inv.fresh (I : Inv X pins σ H s) : H s.heap.objs.size = none:=I.hok.fresh (Nat.le_refl _)
theorem Inv.lstM (I : Inv X pins σ H s) (hH : H l = some (.lst xs)) : xs.length ≤ sizeLine∧∃ (its : List Value) (n : Nat),Vals xs its∧xs.length = its.length∧s.heap.get? l = some { cls:=.type "list",data:=.seq its.toArray n }:=by
 obtain ⟨z,its,n,r,e⟩:=I.hok l _ hH
 exact ⟨z,its,n,r,r.length,e⟩
theorem joe {n : Nat} (h : n ≤ sizeLine) : Builtin.List.listTooLong n = false:=by
 unfold Builtin.List.listTooLong
 exact decide_eq_false (by omega)
end
section
variable {X : Cx}
noncomputable def jlm : V→List V→Hp→VK→Prop:=fun x vs H Q=>∃ l xs y,x = .ref l∧vs = [y]∧H l = some (.lst xs)∧xs.length < sizeLine∧Q .non (upd H l (.lst (xs ++ [y])))
theorem jh2 : MtM X "list.append" jlm:=by
 intro pins s σ H x vs v us Q I rx rv h
 obtain ⟨l,xs,y,rfl,rfl,hH,hz,q⟩:=h
 cases rx
 obtain ⟨u,rfl,ru⟩:=rv.one
 obtain ⟨z,its,n,r,hl,e⟩:=I.lstM hH
 refine call_meets F.slot_list_append ⟨_,e,rfl⟩ F.entry_list_append (F.args_list_append_2 _ _) (PySem.list_append l its.toArray n u (by rw [List.size_toArray]; omega)) ⟨e,?_⟩
 refine ⟨.non,_,I.lset (its':=its ++ [u]) hH e (by simp) (r.append (.cons ru .nil)) ?_,rfl,q⟩
 rw [List.length_append,List.length_singleton]
 omega
noncomputable def jpm : V→List V→Hp→VK→Prop:=fun x vs H Q=>∃ l xs,x = .ref l∧vs = []∧H l = some (.lst xs)∧Q .non (upd H l (.lst []))
theorem jof : MtM X "list.clear" jpm:=by
 intro pins s σ H x vs v us Q I rx rv h
 obtain ⟨l,xs,rfl,rfl,hH,q⟩:=h
 cases rx
 have hus:=rv.zero
 subst hus
 obtain ⟨z,its,n,r,hl,e⟩:=I.lstM hH
 refine call_meets F.slot_list_clear ⟨_,e,rfl⟩ F.entry_list_clear (F.args_list_clear_1 _) (AutoSeq1.list_clear_list_0 l its.toArray n (by rw [List.size_toArray]; omega)) ⟨e,?_⟩
 exact ⟨.non,_,I.lset (its':=[]) (ys:=[]) hH e rfl .nil (Nat.zero_le _),rfl,q⟩
noncomputable def rCat : R2:=fun x y H Q=>∃ l b xs zs,x = .ref l∧y = .ref b∧H l = some (.lst xs)∧H b = some (.lst zs)∧xs.length + zs.length ≤ sizeLine∧∀ p,H p = none→Q (.ref p) (upd H p (.lst (xs ++ zs)))
theorem op_cat : OpR X (binaryOp .Add) rCat:=by
 intro pins s σ H x y v u Q I rx ry h
 obtain ⟨l,b,xs,zs,rfl,rfl,hH,hB,hz,q⟩:=h
 cases rx
 cases ry
 obtain ⟨z,its,n,r,hl,e⟩:=I.lstM hH
 obtain ⟨z2,its2,n2,r2,hl2,e2⟩:=I.lstM hB
 refine PySem.P.add_list e e2 ?_ (by rw [List.size_toArray,List.size_toArray]; omega)
 have ea : its.toArray ++ its2.toArray = (its ++ its2).toArray:=by simp
 rw [ea]
 exact ⟨.ref _,_,I.lnew (t':=s.toks) (r.append r2) (by rw [List.length_append]; omega),rfl,q _ I.fresh⟩
end
section
variable {prog : Program} {w : World} {A : Around} {E : Value→Shared→Prop} {s : Shared}
end
section
variable {X : Cx}
end
end L2
namespace Att
open PySem PySem.W PySem.Calls PyProof.Rows
theorem jf5 {P : Params} {h : Heap} : ∀ (ns : List Int) (vs : List Value),WellAll P h vs (ns.map WData.int)→IntsAre vs ns:=by
 intro ns
 induction ns with
 | nil =>
  intro vs w
  rw [List.map_nil] at w
  cases w
  exact .nil
 | cons n ns ih =>
  intro vs w
  rw [List.map_cons] at w
  cases w with
  | cons a b =>
   cases a
   exact .cons _ _ (ih _ b)
theorem jli {l : OpenLaw} {n : Nat} (hn : l.most = some n) {P : Params} {h : Heap} {args : List WData} {vals : List Value}
  (hpre : l.row.toRowW.claim.pre args = true) (hwl : WellAll P h vals args) :
  ∃ a vs ns,vals = [Value.ref a]∧args = [WData.list (ns.map WData.int)]∧h.get? a = some { cls:=.type "list",data:=.seq vs.toArray }∧IntsAre vs ns∧ns.length ≤ n:=by
 have hsh : WShape.hasAll [] args [.list .int] = true:=(pre_splitW hpre).1
 have hc : l.pre.holds [] { args:=args } = true:=(pre_splitW hpre).2
 obtain ⟨d,r,rfl,h1,h2⟩:=hasAllW_cons hsh
 obtain rfl:=hasAllW_nil h2
 obtain ⟨xs,rfl,h3⟩:=hasW_list h1
 obtain ⟨ns,rfl⟩:=items_int h3
 have hlen : ns.length ≤ n:=by
  unfold OpenLaw.pre at hc
  have h4 : (WTm.not (.lt (.lit (.int (n : Int))) (.len (.arg 0)))).holds [] { args:=[.list (ns.map .int)] } = true:=by
   have h4:=(holds_andW hc).1
   rw [hn] at h4
   exact h4
  have h5:=condW_of h4 (w_not (w_lt w_lit (w_len_list (w_arg rfl))))
  rw [List.length_map] at h5
  refine Nat.le_of_not_lt fun q=>?_
  have q' : (n : Int) < ((ns.length : Nat) : Int):=by omega
  first
   | (rw [decide_eq_true q'] at h5; exact absurd h5 (by decide))
   | (simp at h5; omega)
 cases hwl with
 | cons w1 w2 =>
  cases w2
  cases w1 with
  | list ho hall=>exact ⟨_,_,ns,rfl,rfl,ho,jf5 ns _ hall,hlen⟩
theorem jlu (l : OpenLaw) (args : List WData) : l.row.toRowW.claim.post args (.bool true) args = true :=
 postW_of (r:=l.row.toRowW) (X:=(true == true))
  (show WShape.has [] (.bool true) .bool = true by first | rfl | decide | simp [WShape.has,WShape.arms,WShape.armsAll])
  (show (WTm.eq .res (.lit (.bool true))).value [] { args:=args,res:=some (.bool true),after:=args } = some (.bool (true == true)) from w_eq_bool (w_res rfl) w_lit) rfl
theorem attach_call {l : OpenLaw} {n : Nat} {q : Program} {loose : List Str} {XP : (Str→Option Value)→Heap→Prop} {YP : World→Heap→Prop} {d : DefRec}
  (hn : l.most = some n) (hdf : d.params.defaults = [])
  (call : ∀ (w : World) (s₀ s₁ : Shared) (mg mb : Str→Option Value) (fa : Addr) (o : Obj) (pm cd doc : Value) (a : Addr) (vs : List Value) (ns : List Int),
   Ground q loose [] XP w s₀ mg mb s₁.heap→YP w s₁.heap →
   s₁.heap.get? fa = some o→o.data = .func (docDef d.name d.params d.body d.scope pm cd doc)→s₁.heap.CodeRec cd d.name→mg d.name = some (.ref fa) →
   s₁.heap.get? a = some { cls:=.type "list",data:=.seq vs.toArray }→IntsAre vs ns→ns.length ≤ n→s₁.gens = #[] →
   codeAny (model l.prog w) callerA (.call (.ref fa) ⟨[.ref a],[]⟩) (fun r s'=>r = .ok (.ret (.bool true))∧OldK s₁.heap s'.heap∧s'.os = s₁.os∧AllBare s'.gens) s₁) :
  WalkO q loose XP YP l.row.toRowW d [] (fun f vs=>PySem.call f vs):=by
 intro w s₀ s₁ mg mb G Y fa o pm cd doc dV kV ho hd hcd hD hmg hg args vals as hpre hlay hrd hwl hlo
 obtain rfl : dV = .none:=Dflts.none hD hdf
 obtain rfl : kV = .none:=Dflts.noKw hD
 obtain ⟨a,vs,ns,rfl,rfl,hobj,hints,hlen⟩:=jli hn hpre hwl
 refine enter_call (codeAny_mono (call w s₀ s₁ mg mb fa o pm cd doc a vs ns G Y ho (fd_plain hd) hcd hmg hobj hints hlen hg) fun r s' hq=>?_)
 obtain ⟨rfl,h2,h3,h4⟩:=hq
 exact ⟨.inl ⟨.bool true,.bool true,[],rfl,fun _=>rfl,.bool true,jlu l _,fun _=>⟨List.Pairwise.nil,fun _ hm=>(nomatch hm)⟩⟩,h2,h3,h4⟩
section
variable {prog : Program} {w : World} {A : Around} {E : Value→Shared→Prop} {s : Shared} {K : Frag}
end
end Att
namespace L2
open PySem PySem.Spec PyProof.Rows
theorem jgo : ∀ {vs : List Value} {ns : List Int},IntsAre vs ns→Vals (ns.map V.int) vs
 | _,_,.nil=>.nil
 | _,_,.cons n t h=>.cons ⟨t,rfl⟩ (jgo h)
noncomputable def Only (H : Hp) : Prop:=∀ b,H b = none ∨ ∃ o xs,H b = some (.frz o (.lst xs))
theorem joh {P : Program} {w : World} {K : PySem.W.Frag} {mg mb : Str→Option Value} {CX : CXT} {k : Nat} {fa a : Addr} {fd : FuncData} {x : Str} {sp : Sp} {s₁ : Shared} {vs : List Value} {ns : List Int}
  (KX : K.In s₁.heap) (hns : s₁.heap.Ns mainGlobals mg) (hb : s₁.heap.Ns builtinsNs mb) (hbb : ∀ x : Str,x ≠ "__name__"→mb x = bootBuiltins x) (hlim : s₁.heap.NoLimit) (hg : s₁.gens = #[])
  (ha : s₁.heap.get? a = some { cls:=.type "list",data:=.seq vs.toArray }) (hi : IntsAre vs ns) (hl : ns.length ≤ sizeLine) (hr : Room k callerA)
  (F : ∀ base : Heap,K.In base→base.Ns mainGlobals mg→FnOk P w K mg base CX k fa fd [x] sp) (hbind : ∀ (s : Shared) (u : Value),BindsTo s fd ⟨[u],[]⟩ [(x,u)])
  (hsp : ∀ H : Hp,Only H→SqL K H a (ns.map V.int)→sp [.ref a] H (fun v _=>v = .bl true) fun _ _ _=>False)
  (hCX : ∀ H e s',CX [] H s₁ (fun _ _ _=>False) e s'→False) :
  codeAny (model P w) callerA (.call (.ref fa) ⟨[.ref a],[]⟩) (fun r s'=>r = .ok (.ret (.bool true))∧OldK s₁.heap s'.heap∧s'.os = s₁.os∧AllBare s'.gens) s₁:=by
 have rv:=jgo hi
 have lenV:=hi.length
  -- from an abstract heap in which nothing but the script may be tracked
 have core : ∀ H : Hp,Only H→SqL K H a (ns.map V.int)→HOk P w H s₁.heap→(∀ b,H b ≠ none→b = a)→(H a ≠ none→K.lookup a = none) →
   codeAny (model P w) callerA (.call (.ref fa) ⟨[.ref a],[]⟩) (fun r s'=>r = .ok (.ret (.bool true))∧OldK s₁.heap s'.heap∧s'.os = s₁.os∧AllBare s'.gens) s₁:=by
  intro H hO hS hok hA hK
  have base_of : ∀ {b : Addr} {o : Obj},s₁.heap.get? b = some o→H b = none→(hidT s₁.heap H).get? b = some o:=fun e n=>jom e n
  have noA : ∀ {b : Addr} {o : Obj} {es : Array DictEntry} {ep : Nat},s₁.heap.get? b = some o→o.data = .dict es ep→H b = none:=fun {b o es ep} e d=>by
   cases q : H b with
   | none=>rfl
   | some u =>
    have e' : b = a:=hA b (by rw [q]; simp)
    subst e'
    rw [ha] at e; cases e
    have d' : Data.seq vs.toArray _ = Data.dict es ep:=d
    cases d'
  have nsK : ∀ {b : Addr} {m : Str→Option Value},s₁.heap.Ns b m→(hidT s₁.heap H).Ns b m:=fun {b m} ⟨o,es,ep,e,d,r⟩=>⟨o,es,ep,base_of e (noA e d),d,r⟩
  have hKb : K.In (hidT s₁.heap H):=fun b o e=>base_of (KX b o e) (by
   cases q : H b with
   | none=>rfl
   | some u =>
    have e' : b = a:=hA b (by rw [q]; simp)
    subst e'
    rw [hK (by rw [q]; simp)] at e; cases e)
  have hM : Mod K mg (hidT s₁.heap H):=⟨hKb,nsK hns,⟨mb,nsK hb,hbb⟩,let ⟨mc,h1,h2⟩:=hlim; ⟨mc,nsK h1,h2⟩⟩
  have e0 : Env0 P w K mg (hidT s₁.heap H) callerA [] s₁ H:=⟨rfl,hM,fun b o e=>jqx e,Nat.le_of_eq (jmv _ _),trivial,fun b hb=>absurd (show b ∈ ([] : List Addr) from hb) (by simp),hok,.of_eq hg⟩
  refine codeAny_mono ((F _ hKb (nsK hns)).run callerA [] s₁ H ⟨[.ref a],[]⟩ [.ref a] [.ref a] _ _ hr e0 (hbind s₁ (.ref a)) (.cons rfl .nil) (hsp H hO hS)) fun r s' h=>?_
  cases r with
  | error e=>exact (hCX H e s' h).elim
  | ok fl =>
   cases fl with
   | next=>exact False.elim h
   | brk=>exact False.elim h
   | cont=>exact False.elim h
   | ret u =>
    obtain ⟨v,H',os,bare,un,hok',r',q⟩:=h
    have q' : v = .bl true:=q
    subst q'
    obtain rfl : u = Value.bool true:=r'
    refine ⟨rfl,OldK.of_keep fun b o e=>?_,os,bare⟩
    cases q : H b with
    | none=>exact un.keep b o e q (by intro z; exact absurd (show b ∈ ([] : List Addr) from z) (by simp)) (by simp)
    | some u =>
     rcases hO b with z | ⟨ob,xs,z⟩
     ·rw [q] at z; cases z
     ·have z2:=un.frzs b ob _ z
      obtain ⟨e1,_⟩:=hok b _ z
      obtain ⟨e2,_⟩:=hok' b _ z2
      rw [e] at e1; cases e1
      exact e2
 cases hk : K.lookup a with
 | some o =>
    -- the script is one of the module's own objects
  have e:=KX a o hk
  rw [ha] at e
  cases e
  refine core (fun _=>none) (fun _=>.inl rfl) (.inr ⟨_,vs.toArray,_,hk,rfl,rfl,rfl,by rw [List.size_toArray,lenV]; exact hl,by simpa using rv⟩) (fun b u z=>by have z' : (none : Option HO) = some u:=z; cases z') (fun b z=>absurd rfl z) fun z=>absurd rfl z
 | none =>
  refine core (fun b=>if b = a then some (.frz { cls:=.type "list",data:=.seq vs.toArray } (.lst (ns.map V.int))) else none) (fun b=>?_) (.inl (.inr ⟨{ cls:=.type "list",data:=.seq vs.toArray },if_pos rfl⟩)) (fun b u z=>?_) (fun b z=>?_) fun _=>hk
  ·by_cases hb : b = a
   ·exact .inr ⟨_,_,if_pos hb⟩
   ·exact .inl (if_neg hb)
  ·by_cases hb : b = a
   ·have z':=(if_pos hb).symm.trans z
    cases z'
    subst hb
    exact ⟨ha,by rw [List.length_map]; exact hl,vs,_,rv,ha⟩
   ·have z':=(if_neg hb).symm.trans z
    cases z'
  ·by_cases hb : b = a
   ·exact hb
   ·exact absurd (if_neg hb) z
end L2
namespace L2
open PySem PySem.Spec PyProof.Rows
noncomputable abbrev KOf {K : PySem.W.Frag} {h : Heap} (_ : K.In h) : PySem.W.Frag:=K
theorem jks {l : PySem.W.OpenLaw} {n k : Nat} {q : Program} {loose : List Str} {XP : (Str→Option Value)→Heap→Prop} {YP : World→Heap→Prop} {d : DefRec} {K : Params→PySem.W.Frag} {CX : World→CXT} {sp : World→Sp} {x : Str}
    (hn : l.most = some n) (hn2 : n ≤ sizeLine) (hdf : d.params.defaults = []) (hr : Room k callerA)
    (hY : ∀ (w : World) (h : Heap),YP w h→(K w.params).In h)
    (F : ∀ (w : World) (mg : Str→Option Value) (fa : Addr) (h : Heap),(K w.params).In h→h.Ns mainGlobals mg→mg d.name = some (.ref fa) →
      ∃ fd : FuncData,(∀ (s : Shared) (u : Value),BindsTo s fd ⟨[u],[]⟩ [(x,u)]) ∧
        ∀ base : Heap,(K w.params).In base→base.Ns mainGlobals mg→FnOk l.prog w (K w.params) mg base (CX w) k fa fd [x] (sp w))
    (hsp : ∀ (w : World) (H : Hp) (a : Addr) (ns : List Int),ns.length ≤ n→Only H→SqL (K w.params) H a (ns.map V.int)→sp w [.ref a] H (fun v _=>v = .bl true) fun _ _ _=>False)
    (hCX : ∀ (w : World) (H : Hp) (s : Shared) (e : Value) (s' : Shared),CX w [] H s (fun _ _ _=>False) e s'→False) :
    PySem.W.WalkO q loose XP YP l.row.toRowW d [] (fun f vs=>PySem.call f vs):=by
  refine Att.attach_call hn hdf fun w s₀ s₁ mg mb fa o pm cd doc a vs ns G Y ho hd hcd hmg hobj hints hlen hg=>?_
  have KX:=hY w _ Y
  obtain ⟨fd,hb,hF⟩:=F w mg fa _ KX G.T.g hmg
  exact joh KX G.T.g G.T.b G.T.builtins G.T.nolimit hg hobj hints (Nat.le_trans hlen hn2) hr hF hb (fun H hO hS=>hsp w H a ns hlen hO hS) fun H e s'=>hCX w H s₁ e s'
end L2
/- THE LAST THEOREM (shape; LID,My.* are yours):
   My.Adr: a structure of the addresses that your layer names (classes,functions); My.Txt K t: a structure (Prop) of the equations over K;
   My.txt_mk : {K} {implicit addresses ..} (e1 : nsIn K mainGlobals "law" = some (some (.ref f))) (e2 : K.lookup f = some ⟨oc,od,.func (fnOf "law" "law" params body scope dV kV doc pm an cdv ct),sl⟩) (e3 : codeIn K cdv "law" = true) .. : ∃ t,My.Txt K t
set_option maxRecDepth 100000 in
set_option maxHeartbeats 0 in
theorem PySem.Challenge.cw_LID_holds : PySem.Challenge.rw_LID.Holds := by
 w_on; o_law; k_head; (case hw=>w_witness2)
 k_fill
 refine L2.jks (l:=PySem.Challenge.rw_LID) (n:=63) (k:=40) (x:="script") (CX:=fun w=>..) (sp:=fun _=>My.sp_law) rfl (by decide) rfl ⟨rfl,by decide,by decide⟩ (fun w h Y=>PySem.W.kIn_of Y) ?F ?S ?C
 case F =>
  intro w mg fa h KX G hmg
  have T : ∃ t,My.Txt (L2.KOf KX) t:=by
   dsimp only [L2.KOf]                          -- K must stand as «<heap const> w.params» for k_is
   refine' My.txt_mk ?e1 ?e2 ?e3 ..
   (case e1=>PySem.W.k_is)                    -- in the order: a name -> its address -> its object -> its parts
   (case e2=>PySem.W.k_is)
   ..
  obtain ⟨t,T⟩:=T
  have e0:=hmg.symm.trans (PySem.W.mg_of KX G T.law)
  cases e0                                       -- fa is the law's own address
  exact ⟨_,fun s u=>.of_eq rfl,fun base kb nb=>My.law_fn T kb nb⟩     -- if «.of_eq rfl» comes too early: refine' ⟨_,?b,fun base kb nb=>My.law_fn T kb nb⟩; exact fun s u=>.of_eq rfl
 case S=>exact fun w H a ns hl hO hS=>..
 case C=>exact ..
(the tactic k_is has no namespace: write k_is) -/
namespace L2
open PySem PySem.Spec PyProof.Rows
noncomputable def jct (s : Stmt) : Arguments:=match s with
 | .FunctionDef _ a _ _ _ _ _ _ _ _=>a
 | _=>{ posonlyargs:=[],args:=[],vararg:=none,kwonlyargs:=[],kw_defaults:=[],kwarg:=none,defaults:=[] }
noncomputable def jc1 (s : Stmt) : List Stmt:=match s with
 | .FunctionDef _ _ b _ _ _ _ _ _ _=>b
 | _=>[]
noncomputable def ja7 (s : Stmt) : Scope:=match s with
 | .FunctionDef _ _ _ _ _ _ sc _ _ _=>sc
 | _=>{ kind:=.function,names:=[],isGenerator:=false,isCoroutine:=false }
noncomputable abbrev CX0 : CXT:=fun _ _ _ _ _ _=>False
noncomputable abbrev E0 : XK:=fun _ _ _=>False
theorem jar {X : Cx} : jnq CX0 X E0:=fun _ _ _ _ _ _ _ h=>h.elim
structure Fun (K : PySem.W.Frag) (x qual : Str) (st : Stmt) (f : Addr) (fd : FuncData) : Prop where
 ex : ∃ (oc : Value) (od : Option Addr) (kV doc pm : Value) (an : Option Addr) (cdv ct : Value) (osl : Array (Option Value)),
  fd = PySem.W.fnOf x qual (jct st) (jc1 st) (ja7 st) .none kV doc pm an cdv ct∧K.lookup f = some ⟨oc,od,.func fd,osl⟩∧PySem.W.codeIn K cdv qual = true
 kp : PySem.W.keepIn K (.ref f) = true
section
variable {P : Program} {w : World} {K : PySem.W.Frag} {mg : Str→Option Value} {base : Heap}
theorem Fun.ok {x qual : Str} {st : Stmt} {f : Addr} {fd : FuncData} {N ps : List Str} {k : Nat} {sp : Sp} (F : Fun K x qual st f fd) (S : FnScope N ps (ja7 st)) (len : ∀ vs H Q E,sp vs H Q E→vs.length = ps.length)
  (hbody : ∀ (cdv : Value) (A : Around) (outer : List Env) (s : Shared) (H : Hp) (vs : List V) (Q : VK) (E : XK),Room k (A.deeper (envOfC qual (ja7 st) s.heap.objs.size f cdv))→sp vs H Q E →
   ∃ t,PSs (cxOf CX0 P w K mg base N qual (ja7 st) f cdv A outer s H E).nox (jc1 st) t∧t { nx:=fun _ H'=>Q .non H',rt:=Q } (start N vs) H) : FnOk P w K mg base CX0 (k + 1) f fd ps sp:=by
 obtain ⟨oc,od,kV,doc,pm,an,cdv,ct,osl,rfl,lk,hcd⟩:=F.ex
 refine fn_of lk hcd S len fun A outer s H vs Q E hr hsp=>?_
 obtain ⟨t,h,q⟩:=hbody cdv A outer s H vs Q E hr hsp
 exact ⟨t,h.nox,q⟩
theorem Fun.binds {x qual : Str} {st : Stmt} {f : Addr} {fd : FuncData} {ps : List Str} (F : Fun K x qual st f fd)
  (h : ∀ (kV doc pm : Value) (an : Option Addr) (cdv ct : Value) (us : List Value),us.length = ps.length→bindArgs (PySem.W.fnOf x qual (jct st) (jc1 st) (ja7 st) .none kV doc pm an cdv ct) ⟨us,[]⟩ = pure (ps.zip us)) : jff K fd ps []:=by
 obtain ⟨oc,od,kV,doc,pm,an,cdv,ct,osl,rfl,lk,hcd⟩:=F.ex
 exact .all (h kV doc pm an cdv ct)
theorem jam {x qual : Str} {st : Stmt} {f : Addr} {oc : Value} {od an : Option Addr} {osl : Array (Option Value)} {kV doc pm cdv ct : Value} (l : K.lookup f = some ⟨oc,od,.func (PySem.W.fnOf x qual (jct st) (jc1 st) (ja7 st) .none kV doc pm an cdv ct),osl⟩)
  (c : PySem.W.codeIn K cdv qual = true) (k : PySem.W.keepIn K (.ref f) = true) : Fun K x qual st f (PySem.W.fnOf x qual (jct st) (jc1 st) (ja7 st) .none kV doc pm an cdv ct):=⟨⟨oc,od,kV,doc,pm,an,cdv,ct,osl,rfl,l,c⟩,k⟩
end
theorem jbi {A : Around} {k : Nat} (hr : Room k A) : A.units + 1 < cLine:=Nat.lt_of_le_of_lt (Nat.add_le_add_left (by decide : 1 ≤ 64) _) hr.units
section
variable {X : Cx}
end
theorem ite2 {c A B : Prop} [Decidable c] (h1 : c→A) (h2 : ¬ c→B) : if c then A else B:=by
 by_cases h : c
 ·rw [if_pos h]
  exact h1 h
 ·rw [if_neg h]
  exact h2 h
noncomputable def Same (H H' : Hp) : Prop:=∀ b o,H b = some o→H' b = some o
theorem Same.refl (H : Hp) : Same H H:=fun _ _ h=>h
theorem Same.trans {H H1 H2 : Hp} (a : Same H H1) (b : Same H1 H2) : Same H H2:=fun c o h=>b c o (a c o h)
theorem Same.free {H H' : Hp} (e : Same H H') {l : Addr} (h : H' l = Option.none) : H l = Option.none:=by
 cases q : H l with
 | none=>rfl
 | some o =>
  rw [e l o q] at h
  cases h
end L2
set_option maxHeartbeats 8000000
namespace L2
open PySem PySem.Spec PyProof.Rows
section
variable {κ : Type} [DecidableEq κ]
noncomputable def valV (kvs : List (κ × V)) (k : κ) : Option V:=(kvs.find? fun kv=>decide (kv.1 = k)).map (·.2)
noncomputable def putK (kvs : List (κ × V)) (k : κ) (v : V) : List (κ × V) :=
 if (kvs.any fun kv=>decide (kv.1 = k)) = true then kvs.map (fun kv=>if kv.1 = k then (kv.1,v) else kv) else kvs ++ [(k,v)]
noncomputable def dropK (kvs : List (κ × V)) (k : κ) : List (κ × V):=kvs.filter fun kv=>decide (kv.1 ≠ k)
theorem jdb {p : κ × V} {r : List (κ × V)} {k : κ} (e : p.1 = k) : valV (p :: r) k = some p.2:=by simp [valV,List.find?_cons,e]
theorem jdc {p : κ × V} {r : List (κ × V)} {k : κ} (e : ¬ p.1 = k) : valV (p :: r) k = valV r k:=by simp [valV,List.find?_cons,e]
theorem jit (k : κ) : ∀ kvs : List (κ × V),(kvs.any fun kv=>decide (kv.1 = k)) = (valV kvs k).isSome
 | []=>rfl
 | p :: r=>by
  rw [List.any_cons]
  by_cases e : p.1 = k
  ·simp only [jdb e,decide_eq_true e,Bool.true_or,Option.isSome_some]
  ·rw [jdc e,decide_eq_false e,Bool.false_or]; exact jit k r
theorem jf1 (kvs : List (κ × V)) (k : κ) (v : V) : (putK kvs k v).length ≤ kvs.length + 1:=by
 unfold putK
 split
 ·rw [List.length_map]; omega
 ·rw [List.length_append,List.length_cons,List.length_nil]; omega
theorem RelO.isSome_eq {o : Option V} {u : Option Value} (r : RelO o u) : o.isSome = u.isSome:=by
 cases o with
 | none=>cases u with
  | none=>rfl
  | some _=>exact (show False from r).elim
 | some _=>cases u with
  | none=>exact (show False from r).elim
  | some _=>rfl
theorem RelO.getD {o : Option V} {u : Option Value} {d : V} {d' : Value} (r : RelO o u) (rd : RelV d d') : RelV (o.getD d) (u.getD d'):=by
 cases o with
 | none=>cases u with
  | none=>exact rd
  | some _=>exact (show False from r).elim
 | some _=>cases u with
  | none=>exact (show False from r).elim
  | some _=>exact r
theorem KV.val {kvs : List (κ × V)} {vs : List (κ × Value)} (r : KV kvs vs) (k : κ) : RelO (valV kvs k) (valueAt vs k):=by
 unfold KV at r
 induction r with
 | nil=>exact True.intro
 | @cons p q ps qs h t ih =>
  obtain ⟨h1,h2⟩:=h
  by_cases e : p.1 = k
  ·have e' : q.1 = k:=h1.symm.trans e
   have b : valueAt (q :: qs) k = some q.2:=by simp [valueAt,List.find?_cons,e']
   rw [jdb e,b]; exact h2
  ·have e' : ¬ q.1 = k:=fun z=>e (h1.trans z)
   have b : valueAt (q :: qs) k = valueAt qs k:=by simp [valueAt,List.find?_cons,e']
   rw [jdc e,b]; exact ih
theorem KV.any {kvs : List (κ × V)} {vs : List (κ × Value)} (r : KV kvs vs) (k : κ) : (kvs.any fun kv=>decide (kv.1 = k)) = vs.any fun kv=>decide (kv.1 = k):=by
 unfold KV at r
 induction r with
 | nil=>rfl
 | cons h t ih=>rw [List.any_cons,List.any_cons,ih,h.1]
theorem KV.repl {kvs : List (κ × V)} {vs : List (κ × Value)} (r : KV kvs vs) (k : κ) {y : V} {u : Value} (ry : RelV y u) :
  KV (kvs.map fun kv=>if kv.1 = k then (kv.1,y) else kv) (vs.map fun kv=>if kv.1 = k then (kv.1,u) else kv):=by
 unfold KV at r ⊢
 induction r with
 | nil=>exact .nil
 | @cons p q ps qs h t ih =>
  rw [List.map_cons,List.map_cons]
  refine .cons ?_ ih
  obtain ⟨h1,h2⟩:=h
  by_cases e : p.1 = k
  ·rw [if_pos e,if_pos (h1.symm.trans e)]; exact ⟨h1,ry⟩
  ·rw [if_neg e,if_neg (fun z=>e (h1.trans z))]; exact ⟨h1,h2⟩
theorem KV.put {kvs : List (κ × V)} {vs : List (κ × Value)} (r : KV kvs vs) (k : κ) {y : V} {u : Value} (ry : RelV y u) : KV (putK kvs k y) (stored vs k u):=by
 unfold putK stored
 rw [r.any k]
 by_cases e : (vs.any fun kv=>decide (kv.1 = k)) = true
 ·rw [if_pos e,if_pos e]; exact r.repl k ry
 ·rw [if_neg e,if_neg e]; exact Paired.snoc r ⟨rfl,ry⟩
theorem KV.drop {kvs : List (κ × V)} {vs : List (κ × Value)} (r : KV kvs vs) (k : κ) : KV (dropK kvs k) (without vs k):=by
 unfold KV at r ⊢
 unfold dropK without
 induction r with
 | nil=>exact .nil
 | @cons p q ps qs h t ih =>
  obtain ⟨h1,h2⟩:=h
  rw [List.filter_cons,List.filter_cons]
  by_cases e : p.1 = k
  ·have a : ¬ decide (p.1 ≠ k) = true:=by simp [e]
   have b : ¬ decide (q.1 ≠ k) = true:=by simp [h1.symm.trans e]
   rw [if_neg a,if_neg b]; exact ih
  ·have e' : ¬ q.1 = k:=fun z=>e (h1.trans z)
   have a : decide (p.1 ≠ k) = true:=by simp [e]
   have b : decide (q.1 ≠ k) = true:=by simp [e']
   rw [if_pos a,if_pos b]; exact .cons ⟨h1,h2⟩ ih
theorem KV.keys {kvs : List (κ × V)} {vs : List (κ × Value)} (r : KV kvs vs) : kvs.map (·.1) = vs.map (·.1):=by
 unfold KV at r
 induction r with
 | nil=>rfl
 | cons h t ih=>rw [List.map_cons,List.map_cons,ih,h.1]
theorem KV.length {kvs : List (κ × V)} {vs : List (κ × Value)} (r : KV kvs vs) : kvs.length = vs.length:=Paired.length r
end
theorem jml {P : Program} {w : World} {k : Key} {u : Value} (r : RelV (kV k) u) : (jbh P w).is k u = true:=by
 cases k with
 | inl i=>obtain ⟨t,e⟩:=(show ∃ t,u = Value.int i t from r); subst e; exact ji9 P w i t
 | inr x=>obtain ⟨t,e⟩:=(show ∃ t,u = Value.str x t from r); subst e; exact ji8 P w x t
theorem jha {P : Program} {w : World} : ∀ {ks : List Key} {us : List Value},Vals (ks.map kV) us→ItemsAre (jbh P w) ks us
 | [],_,r=>by rw [List.map_nil] at r; cases r; exact .nil
 | k :: ks,_,r=>by
  rw [List.map_cons] at r
  cases r with
  | cons h t=>exact .cons (jml h) (jha t)
noncomputable abbrev KT (H : Hp) : List (List Key × V)→List (List Key × Addr × Value)→Prop:=Paired fun p q=>p.1 = q.1∧H q.2.1 = some (.tup (p.1.map kV))∧RelV p.2 q.2.2
theorem KT.val {H : Hp} {kvs : List (List Key × V)} {xs : List (List Key × Addr × Value)} (r : KT H kvs xs) (k : List Key) : RelO (valV kvs k) ((atKey xs k).map (·.2)):=by
 induction r with
 | nil=>exact True.intro
 | @cons p q ps qs h t ih =>
  obtain ⟨h1,_,h2⟩:=h
  by_cases e : p.1 = k
  ·have e' : q.1 = k:=h1.symm.trans e
   have b : atKey (q :: qs) k = some q.2:=by simp [atKey,List.find?_cons,e']
   rw [jdb e,b]; exact h2
  ·have e' : ¬ q.1 = k:=fun z=>e (h1.trans z)
   have b : atKey (q :: qs) k = atKey qs k:=by simp [atKey,List.find?_cons,e']
   rw [jdc e,b]; exact ih
theorem KT.repl {H : Hp} {kvs : List (List Key × V)} {xs : List (List Key × Addr × Value)} (r : KT H kvs xs) (k : List Key) {y : V} {u : Value} (ry : RelV y u) :
  KT H (kvs.map fun kv=>if kv.1 = k then (kv.1,y) else kv) (xs.map (putAt k u)):=by
 induction r with
 | nil=>exact .nil
 | @cons p q ps qs h t ih =>
  rw [List.map_cons,List.map_cons]
  refine .cons ?_ ih
  obtain ⟨h1,h2,h3⟩:=h
  unfold putAt
  by_cases e : p.1 = k
  ·rw [if_pos e,if_pos (h1.symm.trans e)]; exact ⟨h1,h2,ry⟩
  ·rw [if_neg e,if_neg (fun z=>e (h1.trans z))]; exact ⟨h1,h2,h3⟩
theorem KT.put {H : Hp} {kvs : List (List Key × V)} {xs : List (List Key × Addr × Value)} (r : KT H kvs xs) (k : List Key) {b : Addr} {y : V} {u : Value} (hb : H b = some (.tup (k.map kV))) (ry : RelV y u) :
  KT H (putK kvs k y) (storedH xs k b u):=by
 have e : (kvs.any fun kv=>decide (kv.1 = k)) = (atKey xs k).isSome:=by
  rw [jit,(r.val k).isSome_eq,Option.isSome_map]
 unfold putK storedH
 rw [e]
 by_cases q : (atKey xs k).isSome = true
 ·rw [if_pos q,if_pos q]; exact r.repl k ry
 ·rw [if_neg q,if_neg q]; exact Paired.snoc r ⟨rfl,hb,ry⟩
theorem KT.keeps {H H' : Hp} {kvs : List (List Key × V)} {xs : List (List Key × Addr × Value)} (r : KT H kvs xs) (ht : ∀ b ys,H b = some (.tup ys)→H' b = some (.tup ys)) : KT H' kvs xs :=
 Paired.mapP r fun _ _ z=>⟨z.1,ht _ _ z.2.1,z.2.2⟩
section
variable {P : Program} {w : World} {H : Hp} {h : Heap} {a : Addr}
theorem rd_of {u : HO} (ok : HOk P w H h) (e : Rd H a u) : jb8 P w H h a u:=e.ok ok
theorem jot {kvs : List (Key × V)} (ok : HOk P w H h) (e : Rd H a (.dK kvs)) : kvs.length ≤ sizeLine∧(a == sysModules) = false∧∃ vs,KV kvs vs∧h.DictOf (jbh P w) a vs :=
 show jb8 P w H h a (.dK kvs) from rd_of ok e
theorem jri {kvs : List (Key × V)} (ok : HOk P w H h) (e : H a = some (.dK kvs)) : kvs.length ≤ sizeLine∧(a == sysModules) = false∧∃ vs,KV kvs vs∧h.DictOf (jbh P w) a vs:=jot ok (.inl e)
theorem jh9 {ks : List Key} (ok : HOk P w H h) (e : H a = some (.tup (ks.map kV))) : (tupleKind (jbh P w)).is h ks a:=by
 obtain ⟨_,its,r,o,h1,h2,n,h3⟩:=(show jb8 P w H h a (.tup (ks.map kV)) from ok a _ e)
 exact ⟨o,its.toArray,n,h1,h2,h3,by simpa using jha r⟩
theorem jos {kvs : List (List Key × V)} (ok : HOk P w H h) (e : Rd H a (.dT kvs)) : kvs.length ≤ sizeLine∧(a == sysModules) = false ∧
  ∃ xs,KT H kvs xs∧h.DictOfH (tupleKind (jbh P w)) a xs:=by
 obtain ⟨z,y,xs,r,o,es,ep,h1,h2,h3,h4,h5⟩:=(show jb8 P w H h a (.dT kvs) from rd_of ok e)
 refine ⟨z,y,xs,r,o,es,ep,h1,h2,h3,h4,fun x hx=>?_,h5⟩
 have all : ∀ {l : List (List Key × V)} {m : List (List Key × Addr × Value)},KT H l m→∀ x ∈ m,(tupleKind (jbh P w)).is h x.1 x.2.1:=by
  intro l m q
  induction q with
  | nil=>intro x hx; exact nomatch hx
  | @cons p q ps qs hq t ih =>
   intro x hx
   rcases List.mem_cons.mp hx with e | hx
   ·subst e
    exact jh9 ok (by rw [← hq.1]; exact hq.2.1)
   ·exact ih x hx
 exact all r x hx
theorem dt_of {kvs : List (List Key × V)} (ok : HOk P w H h) (e : H a = some (.dT kvs)) : kvs.length ≤ sizeLine∧(a == sysModules) = false ∧
  ∃ xs,KT H kvs xs∧h.DictOfH (tupleKind (jbh P w)) a xs:=jos ok (.inl e)
end
noncomputable def DGet (H : Hp) (a : Addr) (y : V) (r : Option V) : Prop :=
 (∃ kvs k,Rd H a (.dK kvs)∧y = kV k∧r = valV kvs k) ∨ ∃ kvs k b,Rd H a (.dT kvs)∧y = .ref b∧H b = some (.tup (k.map kV))∧r = valV kvs k
noncomputable def DPut (H : Hp) (a : Addr) (y v : V) (H' : Hp) : Prop :=
 (∃ kvs k,H a = some (.dK kvs)∧y = kV k∧kvs.length < sizeLine∧H' = upd H a (.dK (putK kvs k v))) ∨
 ∃ kvs k b,H a = some (.dT kvs)∧y = .ref b∧H b = some (.tup (k.map kV))∧kvs.length < sizeLine∧H' = upd H a (.dT (putK kvs k v))
theorem DGet.k {H : Hp} {a : Addr} {kvs : List (Key × V)} {k : Key} (e : H a = some (.dK kvs)) : DGet H a (kV k) (valV kvs k):=.inl ⟨kvs,k,.inl e,rfl,rfl⟩
theorem DGet.t {H : Hp} {a b : Addr} {kvs : List (List Key × V)} {k : List Key} (e : H a = some (.dT kvs)) (eb : H b = some (.tup (k.map kV))) : DGet H a (.ref b) (valV kvs k):=.inr ⟨kvs,k,b,.inl e,rfl,eb,rfl⟩
theorem DPut.k {H : Hp} {a : Addr} {kvs : List (Key × V)} {k : Key} {v : V} (e : H a = some (.dK kvs)) (hl : kvs.length < sizeLine) : DPut H a (kV k) v (upd H a (.dK (putK kvs k v))):=.inl ⟨kvs,k,e,rfl,hl,rfl⟩
theorem DPut.t {H : Hp} {a b : Addr} {kvs : List (List Key × V)} {k : List Key} {v : V} (e : H a = some (.dT kvs)) (eb : H b = some (.tup (k.map kV))) (hl : kvs.length < sizeLine) :
  DPut H a (.ref b) v (upd H a (.dT (putK kvs k v))):=.inr ⟨kvs,k,b,e,rfl,eb,hl,rfl⟩
section
variable {X : Cx} {pins : List (Addr × Obj)} {σ : St} {H : Hp} {s : Shared} {a : Addr} {y v : V} {u r : Value} {o : Option V} {A : Around} {E : Value→Shared→Prop}
theorem Inv.big (I : Inv X pins σ H s) : sysModules < s.heap.objs.size:=by
 have h : mainGlobals < s.heap.objs.size:=(I.mod.glob.keeps I.bk).lt
 exact Nat.lt_trans (by decide) h
theorem jhc {Q : Value→Shared→Prop} (hu : A.units + 1 < cLine) (I : Inv X pins σ H s) (g : DGet H a y (some v)) (ry : RelV y u) (h : ∀ w' s',Inv X pins σ H s'→RelV v w'→Q w' s') :
  wpAny (model X.prog X.w) A (getItem (.ref a) u) Q E s:=by
 rcases g with ⟨kvs,k,e,ey,l⟩ | ⟨kvs,k,b,e,ey,eb,l⟩
 ·subst ey
  obtain ⟨z,hd,vs,rel,dd⟩:=jot I.hok e
  obtain ⟨w',hw,rw'⟩:=RelO.some_of (v:=v) (o:=valueAt vs k) (by rw [l]; exact rel.val k)
  exact wpAny_getItem_of (jml ry) dd.mapOf hw (h w' _ (I.tok _) rw')
 ·subst ey
  cases (show u = Value.ref b from ry)
  obtain ⟨z,hd,xs,rel,dd⟩:=jos I.hok e
  obtain ⟨w',hw,rw'⟩:=RelO.some_of (v:=v) (o:=(atKey xs k).map (·.2)) (by rw [l]; exact rel.val k)
  obtain ⟨p,hp,hp2⟩:=Option.map_eq_some_iff.mp hw
  refine wpAny_getItem_heap (tupleKind_room_in1 hu) (jh9 I.hok eb) dd hp ?_
  rw [hp2]
  exact h w' _ (I.tok _) rw'
theorem d_in {Q : Value→Shared→Prop} (hu : A.units + 1 < cLine) (I : Inv X pins σ H s) (g : DGet H a y o) (ry : RelV y u) (h : ∀ s',Inv X pins σ H s'→Q (.bool o.isSome) s') :
  wpAny (model X.prog X.w) A (compareOp .In u (.ref a)) Q E s:=by
 rcases g with ⟨kvs,k,e,ey,l⟩ | ⟨kvs,k,b,e,ey,eb,l⟩
 ·subst ey
  obtain ⟨z,hd,vs,rel,dd⟩:=jot I.hok e
  refine wpAny_in_of (jml ry) hd dd.mapOf ?_
  rw [← (rel.val k).isSome_eq,← l]
  exact h _ (I.tok _)
 ·subst ey
  cases (show u = Value.ref b from ry)
  obtain ⟨z,hd,xs,rel,dd⟩:=jos I.hok e
  refine wpAny_in_heap (tupleKind_room_in1 hu) (jh9 I.hok eb) hd dd ?_
  have q:=(rel.val k).isSome_eq
  rw [Option.isSome_map] at q
  rw [← q,← l]
  exact h _ (I.tok _)
theorem jim {h' : Heap} {t' : Nat} {ob : HO} (I : Inv X pins σ H s) (mu : Mut (H a)) (hs : Heap.SameBut a s.heap h') (he : ∃ q,h'.get? a = some q) (new : jb8 X.prog X.w (upd H a ob) h' a ob) :
  Inv X pins σ (upd H a ob) { s with heap:=h',toks:=t' } :=
 I.write (x:=a) (e:=a) mu (.inl rfl) (fun b q hb z=>(hs.2 b hb).trans z) he new
theorem jq2 {P : Program} {w : World} {H' : Hp} {h' : Heap} {kvs : List (Key × V)} {vs : List (Key × Value)} (z : kvs.length ≤ sizeLine) (hd : (a == sysModules) = false) (rel : KV kvs vs) (dd : h'.DictOf (jbh P w) a vs) :
  jb8 P w H' h' a (.dK kvs):=⟨z,hd,vs,rel,dd⟩
theorem jna {H' : Hp} {Q : Unit→Shared→Prop} (hu : A.units + 1 < cLine) (I : Inv X pins σ H s) (g : DPut H a y v H') (ry : RelV y u) (rv : RelV v r) (h : ∀ s',Inv X pins σ H' s'→Q () s') :
  wpAny (model X.prog X.w) A (setItem (.ref a) u r) Q E s:=by
 rcases g with ⟨kvs,k,e,ey,l,eH⟩ | ⟨kvs,k,b,e,ey,eb,l,eH⟩
 ·subst ey eH
  obtain ⟨z,hd,vs,rel,dd⟩:=jri I.hok e
  have hz : vs.length ≤ sizeLine:=by rw [← rel.length]; exact z
  have hl : (putK kvs k v).length ≤ sizeLine:=by have:=jf1 kvs k v; omega
  refine wpAny_setItem_pairs (hsz:=hz) (jml ry) dd fun h' dd' hs=>h _ ?_
  have he : ∃ q,h'.get? a = some q:=let ⟨q,_,_,hq,_⟩:=dd'; ⟨q,hq⟩
  exact jim I (by rw [e]; exact True.intro) hs he (jq2 hl hd (rel.put k rv) dd')
 ·subst ey eH
  cases (show u = Value.ref b from ry)
  obtain ⟨z,hd,xs,rel,dd⟩:=dt_of I.hok e
  have hz : xs.length ≤ sizeLine:=by rw [← Paired.length rel]; exact z
  have hl : (putK kvs k v).length ≤ sizeLine:=by have:=jf1 kvs k v; omega
  refine wpAny_setItem_heap (hsz:=hz) (tupleKind_room_in1 hu) (jh9 I.hok eb) dd fun h' dd' hs=>h _ ?_
  obtain ⟨q,es,ep,hq,h2,h3,h4,_,h5⟩:=dd'
  refine jim I (by rw [e]; exact True.intro) hs ⟨q,hq⟩ ⟨hl,hd,_,(rel.put k eb rv).keeps fun c ys ec=>?_,q,es,ep,hq,h2,h3,h4,h5⟩
  rw [ja8 (ne_of ec e (fun z=>nomatch z))]
  exact ec
end
section
variable {X : Cx} {pins : List (Addr × Obj)} {σ : St} {H : Hp} {s : Shared} {a : Addr} {kvs : List (Key × V)} {k : Key} {u : Value} {A : Around} {E : Value→Shared→Prop}
end
noncomputable def NoSl (i : Expr) : Prop:=∀ ov iv,subscripted i false ov iv = operate [ov,iv] (getItem ov iv)
theorem jl4 {prog : Program} {w : World} {A : Around} {E : Value→Shared→Prop} {s : Shared} {env : Env} {value slice : Expr} {pos : Pos} {T id : String} {Q : Value→Shared→Prop}
  (hl : typeLookup (.type T) "__getitem__" = pure (some (.builtin id))) (hs : NoSl slice)
  (h : wpAny (model prog w) A (eval value env) (fun o s₁=>wpAny (model prog w) A (eval slice env) (fun i s₂=>s₂.TypeIs o T∧wpAny (model prog w) A (getItem o i) Q E s₂) E s₁) E s) :
  wpAny (model prog w) A (eval (.Subscript value slice pos) env) Q E s:=by
 refine Subscript_ (wpAny_mono h (fun o s₁ h₁=>wpAny_mono h₁ (fun i s₂ h₂=>?_) fun _ _ x=>x) fun _ _ x=>x)
 obtain ⟨hT,h₂⟩:=h₂
 unfold subscriptTail
 refine wpAny_bind ?_
 rw [getitemInPython_of_ne hT.not_modules]
 refine wpAny_bind (wpAny_specialOf hT hl ?_)
 have fin : wpAny (model prog w) A (subscripted slice false o i) (fun r s₃=>wpAny (model prog w) A (letTemporaryGo value o r >>= fun _=>pure r) Q E s₃) E s₂:=by
  rw [hs o i]
  exact wpAny_operating (wpAny_mono h₂ (fun r s₃ h₃=>wpAny_bind (wpAny_letTemporaryGo (wpAny_pure h₃))) fun _ _ x=>x)
 first
  | exact wpAny_pure (wpAny_bind fin)
  | exact wpAny_bind (wpAny_pure (wpAny_bind fin))
  | exact wpAny_bind fin
theorem jfb {X : Cx} {pins : List (Addr × Obj)} {σ : St} {H : Hp} {s : Shared} {a : Addr} {y : V} {o : Option V} (I : Inv X pins σ H s) (g : DGet H a y o) : s.TypeIs (.ref a) "dict":=by
 rcases g with ⟨kvs,k,e,_,_⟩ | ⟨kvs,k,b,e,_,_,_⟩
 ·obtain ⟨_,_,vs,_,dd⟩:=jot I.hok e
  exact dd.typeIs
 ·obtain ⟨_,_,xs,_,dd⟩:=jos I.hok e
  exact dd.typeIs
noncomputable def jhr (td ty : TE) : TE:=fun σ H Q=>td σ H fun x H1=>ty σ H1 fun y H2=>∃ a v,x = .ref a∧DGet H2 a y (some v)∧Q v H2
noncomputable def tDIn (ty td : TE) : TE:=fun σ H Q=>ty σ H fun y H1=>td σ H1 fun x H2=>∃ a o,x = .ref a∧DGet H2 a y o∧Q (.bl o.isSome) H2
noncomputable def sDPut (td ty tv : TE) : TS:=fun D σ H=>tv σ H fun v H1=>td σ H1 fun x H2=>ty σ H2 fun y H3=>∃ a H4,x = .ref a∧DPut H3 a y v H4∧D.nx σ H4
section
variable {X : Cx} {o i e value : Expr} {pos pos' tpos : Pos} {td ty tv : TE}
theorem jen (hu : X.A.units + 1 < cLine) (ho : PE X o td) (hi : PE X i ty) (hs : NoSl i) : PE X (.Subscript o i pos) (jhr td ty):=by
 intro pins s σ H Q I h
 refine jl4 PySem.F.slot_dict_getitem.lookup hs (thn (ho pins s σ H _ I h) fun u s1 ⟨x,H1,I1,rx,q1⟩=>thn (hi pins s1 σ H1 _ I1 q1) fun iv s2 ⟨y,H2,I2,ry,a,v,ex,g,q2⟩=>?_)
 subst ex
 obtain rfl : u = Value.ref a:=rx
 exact ⟨jfb I2 g,jhc hu I2 g ry fun w' s3 I3 rw'=>⟨v,H2,I3,rw',q2⟩⟩
theorem pc_din (hu : X.A.units + 1 < cLine) (hi : PE X i ty) (ho : PE X o td) : PC X .In i o (tDIn ty td):=by
 intro pins s σ H Q I h
 refine thn (hi pins s σ H _ I h) fun iv s1 ⟨y,H1,I1,ry,q1⟩=>thn (ho pins s1 σ H1 _ I1 q1) fun u s2 ⟨x,H2,I2,rx,a,ov,ex,g,q2⟩=>?_
 subst ex
 obtain rfl : u = Value.ref a:=rx
 exact d_in hu I2 g ry fun s3 I3=>⟨.bl ov.isSome,H2,I3,rfl,q2⟩
theorem jqq (hu : X.A.units + 1 < cLine) (ho : PE X o td) (hi : PE X i ty) (hv : PE X value tv) (hs : swapsWith value (some (.Subscript o i pos')) pos.line X.env = pure false) :
  PS X (.Assign [.Subscript o i pos'] value pos) (sDPut td ty tv):=by
 intro pins s σ H D I h
 refine wpAny_Assign_Subscript (thn (hv pins s σ H _ I h) fun r s1 ⟨v,H1,I1,rv,q1⟩=>thn (ho pins s1 σ H1 _ I1 q1) fun u s2 ⟨x,H2,I2,rx,q2⟩=>thn (hi pins s2 σ H2 _ I2 q2) fun iv s3 ⟨y,H3,I3,ry,a,H4,ex,g,q3⟩=>?_) hs
 subst ex
 obtain rfl : u = Value.ref a:=rx
 exact jna hu I3 g ry rv fun s4 I4=>⟨σ,H4,I4,q3⟩
end
theorem jjv {P : Program} {w : World} {H : Hp} (h : Heap) (hb : sysModules < h.objs.size) : jb8 P w H (h.push { cls:=.type "dict",data:=.dict #[] }) h.objs.size (.dT []) :=
 ⟨Nat.zero_le _,beq_eq_false_iff_ne.mpr (Ne.symm (Nat.ne_of_lt hb)),[],.nil,_,#[],0,Heap.get?_push_size _ rfl,⟨rfl,rfl,rfl⟩,rfl,rfl,List.nodup_nil⟩
noncomputable def jpd : TE:=fun _ H Q=>∀ p,H p = none→Q (.ref p) (upd H p (.dK []))
noncomputable def jpc : TE:=fun _ H Q=>∀ p,H p = none→Q (.ref p) (upd H p (.dT []))
section
variable {X : Cx} {pos : Pos}
theorem joa : PE X (.Dict [] [] pos) jpc:=fun pins s σ H Q I h =>
 wpAny_Dict_empty ⟨.ref s.heap.objs.size,_,I.laid (a:=s.heap.objs.size) (o:=.dT []) (t':=s.toks) (fun _ _ q=>Heap.get?_push_of_some _ q) (Nat.le_refl _) (jjv s.heap I.big),rfl,h _ (I.hok.fresh (Nat.le_refl _))⟩
end
noncomputable def jpa : List (TE × TE)→St→Hp→(List (V × V)→Hp→Prop)→Prop
 | [],_,H,Q=>Q [] H
 | (tk,tv) :: r,σ,H,Q=>tk σ H fun x H1=>tv σ H1 fun y H2=>jpa r σ H2 fun ps H3=>Q ((x,y) :: ps) H3
noncomputable abbrev VV : List (V × V)→List (Value × Value)→Prop:=Paired fun p q=>RelV p.1 q.1∧RelV p.2 q.2
noncomputable def PPs (X : Cx) (pos : Pos) (keys : List (Option Expr)) (values : List Expr) (trs : List (TE × TE)) : Prop :=
 ∀ (pins : List (Addr × Obj)) (s : Shared) (σ : St) (H : Hp) (Q : List (V × V)→Hp→Prop),Inv X pins σ H s→jpa trs σ H Q →
  wpAny (model X.prog X.w) X.A (evalPairs (pairTrees keys values X.env pos)) (fun vs s'=>∃ ps H',Inv X pins σ H' s'∧VV ps vs∧Q ps H') X.xe s
theorem jqr {X : Cx} {pos : Pos} : PPs X pos [] [] []:=fun pins s σ H Q I h=>pairTrees_nil_walk ⟨[],H,I,.nil,h⟩
theorem jo5 {X : Cx} {pos : Pos} {k v : Expr} {ks : List (Option Expr)} {vs : List Expr} {tk tv : TE} {trs : List (TE × TE)} (hk : PE X k tk) (hv : PE X v tv) (hr : PPs X pos ks vs trs) :
  PPs X pos (some k :: ks) (v :: vs) ((tk,tv) :: trs):=fun pins s σ H Q I h =>
 pairTrees_cons_walk (thn (hk pins s σ H _ I h) fun u s1 ⟨x,H1,I1,rx,q1⟩=>thn (hv pins s1 σ H1 _ I1 q1) fun w2 s2 ⟨y,H2,I2,ry,q2⟩ =>
  thn (hr pins s2 σ H2 _ I2 q2) fun ws s3 ⟨ps,H3,I3,rel,q3⟩=>⟨(x,y) :: ps,H3,I3,.cons ⟨rx,ry⟩ rel,q3⟩)
structure M1 (X : Cx) (o : Expr) (m : Str) (apos : Pos) (e : Expr) (cpos : Pos) : Prop where
 base : attributeBase o m X.env (eval o X.env) = eval o X.env
 few : ((backTo cpos (starEach [e] X.env)).all (fun x=>!x.1) && (backToKw cpos (keywordEach [] X.env)).all (fun x=>x.1.isSome)
  && decide (([e] : List Expr).length + ([] : List Keyword).length + (if ([] : List Keyword).isEmpty then 0 else 1) < 30)) = true
 line : (apos.endLine == cpos.line) = true
 trees : backTo cpos (starEach [e] X.env) = [(false,eval e X.env)]
structure M2 (X : Cx) (o : Expr) (m : Str) (apos : Pos) (e f : Expr) (cpos : Pos) : Prop where
 base : attributeBase o m X.env (eval o X.env) = eval o X.env
 few : ((backTo cpos (starEach [e,f] X.env)).all (fun x=>!x.1) && (backToKw cpos (keywordEach [] X.env)).all (fun x=>x.1.isSome)
  && decide (([e,f] : List Expr).length + ([] : List Keyword).length + (if ([] : List Keyword).isEmpty then 0 else 1) < 30)) = true
 line : (apos.endLine == cpos.line) = true
 trees : backTo cpos (starEach [e,f] X.env) = [(false,eval e X.env),(false,eval f X.env)]
section
variable {X : Cx} {pins : List (Addr × Obj)} {σ : St} {H : Hp} {s : Shared} {a : Addr} {y d : V} {u r : Value} {o : Option V} {A : Around} {E : Value→Shared→Prop}
end
section
variable {X : Cx} {o e f : Expr} {apos cpos : Pos} {td ty tx : TE}
end
section
variable {X : Cx} {pins : List (Addr × Obj)} {σ : St} {H : Hp} {s : Shared} {a : Addr} {kvs : List (Key × V)} {A : Around} {E : Value→Shared→Prop}
end
section
variable {X : Cx} {pins : List (Addr × Obj)} {σ : St} {H : Hp} {s : Shared} {a : Addr} {y : V} {u : Value} {A : Around} {E : Value→Shared→Prop}
end
end L2
namespace L2
open PySem PySem.Spec PyProof.Rows
section
variable {κ : Type} [DecidableEq κ]
end
end L2
namespace L2
open PySem PySem.Spec PyProof.Rows
noncomputable def jbn (env : Env) : List (Str × NameKind)→List (Str × Addr)→List (Str × Addr)
 | [],acc=>acc
 | (n,k) :: r,acc=>jbn env r (if k == .free then (n,(env.cells.lookup n).getD 0) :: acc else acc)
theorem jcg {scope : Scope} {env : Env} (h : ∀ y ∈ scope.names,y.2 = .free→∃ c,env.cells.lookup y.1 = some c) :
    closureFor scope env = pure (jbn env scope.names []):=by
  have key : ∀ (l : List (Str × NameKind)) (acc : List (Str × Addr)),(∀ y ∈ l,y.2 = .free→∃ c,env.cells.lookup y.1 = some c) →
      (forIn l acc fun (x : Str × NameKind) (r : List (Str × Addr)) =>
        (if x.2 == NameKind.free then do
          let c ← cellOf env x.1
          pure (ForInStep.yield ((x.1,c) :: r))
        else pure (ForInStep.yield r) : Sem (ForInStep (List (Str × Addr))))) = pure (jbn env l acc):=by
    intro l
    induction l with
    | nil=>intro acc _; rfl
    | cons y r ih =>
      intro acc hy
      obtain ⟨n,k⟩:=y
      rw [List.forIn_cons]
      by_cases hk : k = .free
      · subst hk
        obtain ⟨c,hc⟩:=hy (n,.free) List.mem_cons_self rfl
        have e1 : cellOf env n = pure c:=by unfold cellOf; rw [hc]
        simp only [beq_self_eq_true,if_true]
        rw [e1]
        show (pure c >>= fun c=>pure (ForInStep.yield ((n,c) :: acc))) >>= _ = _
        have e2 : jbn env ((n,NameKind.free) :: r) acc = jbn env r ((n,c) :: acc):=by
          have hc' : env.cells.lookup n = some c:=hc
          show jbn env r (if (NameKind.free == NameKind.free) = true then (n,(env.cells.lookup n).getD 0) :: acc else acc) = _
          rw [hc']
          rfl
        rw [e2]
        exact ih _ fun z hz=>hy z (List.mem_cons_of_mem _ hz)
      · have hb : (k == NameKind.free) = false:=by simpa using hk
        simp only [hb,Bool.false_eq_true,if_false]
        have e2 : jbn env ((n,k) :: r) acc = jbn env r acc:=by
          show jbn env r (if (k == NameKind.free) = true then _ else acc) = _
          rw [hb]; rfl
        rw [e2]
        exact ih _ fun z hz=>hy z (List.mem_cons_of_mem _ hz)
  unfold closureFor
  have e:=key scope.names [] h
  have e3 : ∀ (f : Str × NameKind→List (Str × Addr)→Sem (ForInStep (List (Str × Addr)))),(f = fun x r=>(if x.2 == NameKind.free then do
          let c ← cellOf env x.1
          pure (ForInStep.yield ((x.1,c) :: r))
        else pure (ForInStep.yield r)))→(forIn scope.names [] f >>= fun r=>pure r) = (pure (jbn env scope.names []) : Sem (List (Str × Addr))):=by
    intro f hf
    rw [hf,e]
    rfl
  exact e3 _ rfl
theorem jdp {env : Env} {x : Str} : ∀ (l : List (Str × NameKind)) (acc : List (Str × Addr)) (c : Addr),(jbn env l acc).lookup x = some c →
  ((∃ y ∈ l,y.1 = x∧y.2 = .free)∧(env.cells.lookup x).getD 0 = c) ∨ acc.lookup x = some c
 | [],acc,c,h=>.inr h
 | (n,k) :: r,acc,c,h=>by
  rcases jdp r _ c h with ⟨⟨y,hy,e⟩,q⟩ | q
  ·exact .inl ⟨⟨y,List.mem_cons_of_mem _ hy,e⟩,q⟩
  ·by_cases hk : k = .free
   ·subst hk
    have q' : List.lookup x ((n,(env.cells.lookup n).getD 0) :: acc) = some c:=q
    rw [List.lookup_cons] at q'
    cases hx : x == n with
    | true =>
     rw [hx] at q'
     have hx' : x = n:=by simpa using hx
     subst hx'
     exact .inl ⟨⟨_,List.mem_cons_self,rfl,rfl⟩,Option.some.inj q'⟩
    | false=>rw [hx] at q'; exact .inr q'
   ·have hb : (k == NameKind.free) = false:=by simpa using hk
    rw [hb] at q
    exact .inr q
theorem je0 {env : Env} {x : Str} : ∀ (l : List (Str × NameKind)) (acc : List (Str × Addr)),((∃ y ∈ l,y.1 = x∧y.2 = .free) ∨ (acc.lookup x).isSome)→((jbn env l acc).lookup x).isSome
 | [],acc,h=>by
  rcases h with ⟨y,hy,_⟩ | h
  ·cases hy
  ·exact h
 | (n,k) :: r,acc,h=>by
  show ((jbn env r (if (k == NameKind.free) = true then _ else acc)).lookup x).isSome
  refine je0 r _ ?_
  rcases h with ⟨y,hy,e1,e2⟩ | h
  ·rcases List.mem_cons.mp hy with rfl | hy
   ·have e2' : k = .free:=e2
    have e1' : n = x:=e1
    subst e2' e1'
    refine .inr ?_
    simp [List.lookup_cons]
   ·exact .inl ⟨y,hy,e1,e2⟩
  ·refine .inr ?_
   split
   ·rw [List.lookup_cons]
    split
    ·rfl
    ·exact h
   ·exact h
structure CpScope (X : Cx) (scope : Scope) (N : List Str) (src : List (Option Nat)) : Prop where
 kind : scope.kind = .function
 nocell : ∀ y ∈ scope.names,y.2 ≠ .cell
 locs : ∀ y ∈ scope.names,y.2 = .local→scope.names.lookup y.1 = some .local
 frees : ∀ y ∈ scope.names,y.2 = .free→scope.names.lookup y.1 = some .free∧X.env.scope.names.lookup y.1 = some .cell
 nd : N.Nodup
 len : src.length = N.length
 cap : ∀ (i j : Nat),src[i]? = some (some j)→X.N[j]? = N[i]?∧(N[i]?).elim False (fun x=>scope.names.lookup x = some .free)
noncomputable def cst (src : List (Option Nat)) (σ : St) : St:=src.map fun o=>o.bind fun j=>(σ[j]?).join
theorem jbz {env : Env} (hk : env.scope.kind = .function) : ∀ {names : List (Str × NameKind)} {x : Str},names.lookup x = some .free→env.kindOf x = some .cell →
  (names.map fun (n,k)=>if (k == NameKind.free && env.scope.kind == .function && env.kindOf n == some .cell) then (n,NameKind.cell) else (n,k)).lookup x = some .cell
 | [],_,h,_=>by simp at h
 | (n,k) :: r,x,h,hc=>by
  have ih:=@jbz env hk r x
  show List.lookup x ((if (k == NameKind.free && env.scope.kind == .function && env.kindOf n == some .cell) = true then (n,NameKind.cell) else (n,k)) :: _) = _
  cases hx : x == n with
  | true =>
   simp only [List.lookup_cons,hx] at h
   cases h
   have hx' : x = n:=by simpa using hx
   subst hx'
   rw [if_pos (by rw [hk,hc]; rfl)]
   simp [List.lookup_cons]
  | false =>
   simp only [List.lookup_cons,hx] at h
   by_cases hq : (k == NameKind.free && env.scope.kind == .function && env.kindOf n == some .cell) = true
   ·rw [if_pos hq]; simp only [List.lookup_cons,hx]; exact ih h hc
   ·rw [if_neg hq]; simp only [List.lookup_cons,hx]; exact ih h hc
theorem jbk {env : Env} : ∀ {names : List (Str × NameKind)} {x : Str} {k' : NameKind},
  (names.map fun (n,k)=>if (k == NameKind.free && env.scope.kind == .function && env.kindOf n == some .cell) then (n,NameKind.cell) else (n,k)).lookup x = some k' →
   names.lookup x = some k' ∨ (names.lookup x = some .free∧k' = .cell)
 | [],_,_,h=>by simp at h
 | (n,k) :: r,x,k',h=>by
  have ih:=@jbk env r x k'
  have h : List.lookup x ((if (k == NameKind.free && env.scope.kind == .function && env.kindOf n == some .cell) = true then (n,NameKind.cell) else (n,k)) :: _) = _:=h
  cases hx : x == n with
  | true =>
   by_cases hq : (k == NameKind.free && env.scope.kind == .function && env.kindOf n == some .cell) = true
   ·rw [if_pos hq] at h
    have h1:=h
    simp only [List.lookup_cons,hx]
    have : k = .free:=by
     have:=(Bool.and_eq_true _ _ ▸ (Bool.and_eq_true _ _ ▸ hq).1).1
     simpa using this
    subst this
    refine .inr ⟨rfl,?_⟩
    have h2 : List.lookup x ((n,NameKind.cell) :: (r.map fun (n,k)=>if (k == NameKind.free && env.scope.kind == .function && env.kindOf n == some .cell) then (n,NameKind.cell) else (n,k))) = some k':=h1
    simp only [List.lookup_cons,hx] at h2
    exact (Option.some.inj h2).symm
   ·rw [if_neg hq] at h
    simp only [List.lookup_cons,hx] at h ⊢
    exact .inl h
  | false =>
   have h' : List.lookup x (r.map fun (n,k)=>if (k == NameKind.free && env.scope.kind == .function && env.kindOf n == some .cell) then (n,NameKind.cell) else (n,k)) = some k':=by
    by_cases hq : (k == NameKind.free && env.scope.kind == .function && env.kindOf n == some .cell) = true
    ·rw [if_pos hq] at h
     simpa only [List.lookup_cons,hx] using h
    ·rw [if_neg hq] at h
     simpa only [List.lookup_cons,hx] using h
   simp only [List.lookup_cons,hx]
   exact ih h'
noncomputable def Cx.block (X : Cx) (scope : Scope) (N : List Str) (fp : List Addr) (s₀ : Shared) (H₀ : Hp) (C : Addr) : Cx where
 prog:=X.prog
 w:=X.w
 K:=X.K
 mg:=X.mg
 base:=X.base
 A:=X.A
 N:=N
 s₀:=s₀
 H₀:=H₀
 env:=compEnvC scope (jbn X.env scope.names []) C X.env
 outer:=X.stack
 stack:=X.stack
 ex:=fp
 calm:=X.calm
 fn:=fun _=>false
 pn:=[]
 xe:=fun _ _=>False
theorem jmm {o : Option (Option V)} {v : V} (h : o.join = some v) : o = some (some v):=by
 cases o with
 | none=>cases h
 | some z=>cases z with
  | none=>cases h
  | some z=>rw [show z = v from Option.some.inj h]
theorem Inv.enter {X : Cx} {scope : Scope} {N : List Str} {src : List (Option Nat)} {pins : List (Addr × Obj)} {σ : St} {H : Hp} {s s4 : Shared} {fp : List Addr} (S : CpScope X scope N src) (I : Inv X pins σ H s)
  (f2 : ∀ b ∈ fp,FpOk X pins H b) (lt : ∀ b ∈ fp,b < s.heap.objs.size) (hns : s4.heap.Ns s.heap.objs.size fun _=>none) (hk : ∀ b o,s.heap.get? b = some o→s4.heap.get? b = some o) (hos : s4.os = s.os) (hg : s4.gens = s.gens) :
  Inv (X.block scope N fp s H s.heap.objs.size) [] (cst src σ) H s4:=by
 have cells : ∀ x c,(jbn X.env scope.names []).lookup x = some c→X.env.cells.lookup x = some c:=fun x c e=>by
  rcases jdp _ _ _ e with ⟨⟨y,hy,e1,e2⟩,q⟩ | q
  ·obtain ⟨c',hc'⟩:=I.ok.has y.1 (.inl (S.frees y hy e2).2)
   rw [e1] at hc'
   rw [hc'] at q ⊢
   exact congrArg some q
  ·cases q
 refine ⟨⟨I.mod,S.kind,I.ok.glob,I.ok.blt,Nat.le_refl _,fun x y c h1 h2=>I.ok.inj x y c (cells x c h1) (cells y c h2),fun x hx=>?_,fun x c h=>absurd (show false = true from h) Bool.false_ne_true,I.ok.hd,I.ok.frames,.inl rfl,fun b hb=>?_,I.bs,
   Nat.le_trans I.ok.bsz I.sz,fun b o e hb=>?_,fun b hb z=>?_,I.stack,I.stkFree⟩,hos,?_,Un.kept hk,⟨fun _=>none,hns,fun i x v h1 h2 h3=>?_⟩,fun x c e=>?_,I.fresh,fun x c e=>I.freeC x c (cells x c e),fun p hp=>?_,I.hok.kept hk,?_⟩
 ·have hx' : (scope.names.map fun (n,k)=>if (k == NameKind.free && X.env.scope.kind == .function && X.env.kindOf n == some .cell) then (n,NameKind.cell) else (n,k)).lookup x = some .cell ∨ (scope.names.map fun (n,k)=>if (k == NameKind.free && X.env.scope.kind == .function && X.env.kindOf n == some .cell) then (n,NameKind.cell) else (n,k)).lookup x = some .free:=hx
  have hf : scope.names.lookup x = some .free:=by
   rcases hx' with h | h
   ·rcases jbk h with h | h
    ·exact absurd rfl (S.nocell _ (PySem.mem_of_lookup h))
    ·exact h.1
   ·rcases jbk h with h | h
    ·exact h
    ·cases h.2
  have hsome:=je0 (env:=X.env) (x:=x) scope.names [] (.inl ⟨_,PySem.mem_of_lookup hf,rfl,rfl⟩)
  exact Option.isSome_iff_exists.mp hsome
 ·exact ⟨Nat.ne_of_lt (lt b hb),fun x c e=>(f2 b hb).2.2.2.2.1 x c (cells x c e)⟩
 ·have hb' : b ∈ fp:=hb
  rcases (f2 b hb').2.2.2.1 with z | z
  ·exact I.ok.noex b o e z
  ·exact absurd (Nat.lt_of_lt_of_le (Heap.lt_size e) (Nat.le_trans I.ok.bsz z)) (Nat.lt_irrefl _)
 ·have hb' : b ∈ fp:=hb
  have z' : b ∈ frs X.stack:=z
  rcases List.mem_cons.mp (I.stkSub b z') with e | e
  ·exact (f2 b hb').2.1 e
  ·exact (f2 b hb').2.2.1 e
 ·rw [hg]; exact I.bare
 ·have h2' : (src.map fun o=>o.bind fun j=>(σ[j]?).join)[i]? = some (some v):=h2
  rw [List.getElem?_map] at h2'
  cases e : src[i]? with
  | none=>rw [e] at h2'; cases h2'
  | some o =>
   rw [e] at h2'
   cases o with
   | none=>cases h2'
   | some j =>
    have h4 : (σ[j]?).join = some v:=Option.some.inj h2'
    have h5:=jmm h4
    obtain ⟨c1,c2⟩:=S.cap i j e
    have h1' : N[i]? = some x:=h1
    rw [h1'] at c1 c2
    have c2' : scope.names.lookup x = some .free:=c2
    have c3:=(S.frees _ (PySem.mem_of_lookup c2') rfl).2
    obtain ⟨m,hn,hl⟩:=I.loc
    obtain ⟨u,r,l⟩:=hl j x v c1 h5 (.inr (.inl c3))
    refine ⟨u,r,?_⟩
    have c3' : X.env.kindOf x = some .cell:=c3
    rcases l with ⟨k,_⟩ | ⟨_,c,e1,z⟩
    ·rw [c3'] at k; cases k
    ·refine .inr ⟨.inl (jbz I.ok.kind c2' c3'),c,?_,?_⟩
     ·have hs:=je0 (env:=X.env) (x:=x) scope.names [] (.inl ⟨_,PySem.mem_of_lookup c2',rfl,rfl⟩)
      obtain ⟨c',hc'⟩:=Option.isSome_iff_exists.mp hs
      have:=cells x c' hc'
      rw [e1] at this
      cases this
      exact hc'
     ·obtain ⟨o,ho,hd⟩:=z
      exact ⟨o,hk c o ho,hd⟩
 ·obtain ⟨v,o,ho,hd⟩:=I.cell x c (cells x c e)
  exact ⟨v,o,hk c o ho,hd⟩
 ·exact absurd (show p ∈ ([] : List (Addr × Obj)) from hp) (by simp)
 ·show (src.map _).length = N.length
  rw [List.length_map]
  exact S.len
noncomputable def PIf (X : Cx) (ifs : List Expr) (t : TT) : Prop :=
 ∀ (pins : List (Addr × Obj)) (s : Shared) (σ : St) (H : Hp) (Q : Bool→Hp→Prop),Inv X pins σ H s→t σ H Q →
  wpAny (model X.prog X.w) X.A (forIn ifs true fun c r=>if r = true then do let ok ← isTrue c X.env (eval c X.env); pure (ForInStep.yield ok) else pure (ForInStep.yield r)) (TP X pins σ Q) X.xe s
noncomputable def jqc : TT:=fun _ H Q=>Q true H
theorem jca {X : Cx} : PIf X [] jqc:=fun pins s σ H Q I h=>wpAny_tests_nil ⟨H,I,h⟩
theorem jel {X : Cx} {c : Expr} {t : TT} (h : PT X c t) : PIf X [c] t:=fun pins s σ H Q I hq=>wpAny_tests_one (h pins s σ H Q I hq)
noncomputable def jns (J : It) (src : List (Option Nat)) (g : TG) (tc : TT) (te : TE) (Q : VK) (σ : St) (H : Hp) (l : Addr) : Prop :=
 ∃ W : Nat→Nat→St→Hp→Prop,(∃ m,W 0 m (cst src σ) (upd H l (.lst [])))∧∀ i m σ' H,W i m σ' H →
  (J.stop i H∧Q (.ref l) H) ∨ (J.go i H∧∃ N : St→Hp→Prop,(∀ σ' H',N σ' H'→∃ m',m' < m∧W (i + 1) m' σ' H')∧∀ x H',J.yld i H x H'→g x σ' H' fun σ2 H2=>tc σ2 H2 fun b H3 =>
   if b = true then te σ2 H3 fun v H4=>∃ xs,H4 l = some (.lst xs)∧xs.length < sizeLine∧N σ2 (upd H4 l (.lst (xs ++ [v]))) else N σ2 H3)
theorem jb2 {J : It} {src : List (Option Nat)} {g : TG} {tc : TT} {te : TE} {Q : VK} {σ : St} {H : Hp} {l : Addr} (n : Nat) (Iv : Nat→St→Hp→Prop) (h0 : Iv 0 (cst src σ) (upd H l (.lst [])))
  (hs : ∀ i σ' Hc,i < n→Iv i σ' Hc→J.go i Hc∧∀ x H',J.yld i Hc x H'→g x σ' H' fun σ2 H2=>tc σ2 H2 fun b H3 =>
   if b = true then te σ2 H3 fun v H4=>∃ xs,H4 l = some (.lst xs)∧xs.length < sizeLine∧Iv (i + 1) σ2 (upd H4 l (.lst (xs ++ [v]))) else Iv (i + 1) σ2 H3)
  (hd : ∀ σ' Hc,Iv n σ' Hc→J.stop n Hc∧Q (.ref l) Hc) : jns J src g tc te Q σ H l:=by
 refine ⟨fun i m σ' Hc=>m = n - i∧i ≤ n∧Iv i σ' Hc,⟨n,by simp,Nat.zero_le _,h0⟩,?_⟩
 rintro i m σ' Hc ⟨rfl,hi,p⟩
 by_cases hlt : i < n
 ·obtain ⟨go,step⟩:=hs i σ' Hc hlt p
  exact .inr ⟨go,Iv (i + 1),fun σ2 H2 p'=>⟨n - (i + 1),by omega,rfl,hlt,p'⟩,step⟩
 ·have e : i = n:=by omega
  subst e
  exact .inl (hd σ' Hc p)
theorem jhf {X : Cx} {elt tg iter : Expr} {ifs : List Expr} {scope : Scope} {pos : Pos} {N : List Str} {src : List (Option Nat)} {g : TG} {tc : TT} {te : TE} {pins : List (Addr × Obj)} {σ : St} {H2 : Hp} {s2 : Shared}
  {fp : List Addr} {it : Addr} {tn : Nat→Heap→Prop} {J : It} {Q : VK} {E : Value→Shared→Prop} {RR : Value→Addr→Result→Shared→Prop} (S : CpScope X scope N src) (hc : X.calm = true)
  (hg : ∀ fp s₀ H₀ C,PG (X.block scope N fp s₀ H₀ C) tg g) (ht : ∀ fp s₀ H₀ C,PIf (X.block scope N fp s₀ H₀ C) ifs tc) (he : ∀ fp s₀ H₀ C,PE (X.block scope N fp s₀ H₀ C) elt te)
  (I2 : Inv X pins σ H2 s2) (T : Turn X.prog X.w X.K tg J fp it tn) (st2 : tn 0 s2.heap) (f2 : ∀ b ∈ fp,FpOk X pins H2 b) (hw : ∀ l,H2 l = none→jns J src g tc te Q σ H2 l)
  (hRR : ∀ l C H' s',Inv X pins σ H' s'→(∃ m,s'.heap.Ns C m)→FpOk X pins H' C→Q (.ref l) H'→RR (.ref l) C (.ok .next) s') :
  wpAny (model X.prog X.w) X.A (newList []) (fun acc s₃=>wpAny (model X.prog X.w) X.A (newFunctionEnv scope X.env.globals (jbn X.env scope.names []) [] X.env.qual none .none (some X.env)) (fun cenv s₄ =>
   codeAny (model X.prog X.w) X.A (.compStart (.ListComp elt [⟨tg,iter,ifs,0⟩] scope pos) 0 (.ref it) acc { cenv with scope:=relabel scope X.env }) (RR acc cenv.locals) s₄) E s₃) E s2:=by
 have hl0 : H2 s2.heap.objs.size = none:=I2.fresh
 have I3 : Inv X pins σ (upd H2 s2.heap.objs.size (.lst [])) { s2 with heap:=s2.heap.push { cls:=.type "list",data:=.seq ([] : List Value).toArray } }:=I2.lnew (ys:=[]) (its:=[]) (t':=s2.toks) .nil (Nat.zero_le _)
 have ltf : ∀ b ∈ fp,b < s2.heap.objs.size:=fun b hb=>by
  obtain ⟨o,e,_⟩:=T.obj _ _ st2 b hb
  exact Heap.lt_size e
 have f3 : ∀ b ∈ fp,FpOk X pins (upd H2 s2.heap.objs.size (.lst [])) b:=fun b hb=>⟨by rw [ja8 (Nat.ne_of_lt (ltf b hb))]; exact (f2 b hb).1,(f2 b hb).2⟩
 obtain ⟨W,⟨m0,w0⟩,turn⟩:=hw _ hl0
 refine wpAny_newObj_type (wpAny_newFunctionEnv S.nocell (by intro y hy; simp at hy) (fun h₁ hns₁ hsb₁=>?_) S.kind)
 dsimp only at hns₁ hsb₁ ⊢
 revert I3 f3
 intro I3 f3
 have st1 : tn 0 (s2.heap.push { cls:=.type "list",data:=.seq ([] : List Value).toArray }):=T.keep _ _ _ st2 fun b hb o e=>Heap.get?_push_of_some _ e
 have lt3 : ∀ b ∈ fp,b < (s2.heap.push { cls:=.type "list",data:=.seq ([] : List Value).toArray }).objs.size:=fun b hb=>by rw [Heap.size_push]; exact Nat.lt_succ_of_lt (ltf b hb)
 generalize hH : s2.heap.push { cls:=.type "list",data:=.seq ([] : List Value).toArray } = h3 at I3 st1 lt3 hns₁ hsb₁ ⊢
 have hk : ∀ b o,h3.get? b = some o→h₁.get? b = some o:=fun b o e=>hsb₁.extBut b o (Nat.ne_of_lt (Heap.lt_size e)) (Heap.get?_push_of_some _ e)
 have Ib : Inv (X.block scope N fp { s2 with heap:=h3 } (upd H2 s2.heap.objs.size (.lst [])) h3.objs.size) [] (cst src σ) (upd H2 s2.heap.objs.size (.lst [])) { s2 with heap:=h₁,toks:=s2.toks + ([] : List (Str × Value)).length } :=
  Inv.enter (s:={ s2 with heap:=h3 }) S I3 f3 lt3 hns₁ hk rfl rfl
 have fpB : ∀ {H' : Hp},(∀ b ∈ fp,H' b = none)→∀ b ∈ fp,FpOk (X.block scope N fp { s2 with heap:=h3 } (upd H2 s2.heap.objs.size (.lst [])) h3.objs.size) [] H' b:=fun hn b hb =>
  ⟨hn b hb,(Ib.ok.exf b hb).1,Ib.ok.exfs b hb,.inl hb,(Ib.ok.exf b hb).2,fun p hp=>absurd (show p ∈ ([] : List (Addr × Obj)) from hp) (by simp)⟩
 have tn1 : tn 0 h₁:=T.keep _ _ _ st1 fun b _ o e=>hk b o e
 have loop : ∀ s₃ : Shared,s₃ = { s2 with heap:=h₁,toks:=s2.toks + ([] : List (Str × Value)).length } →
   codeAny (model X.prog X.w) X.A (.compLoop (.ListComp elt [⟨tg,iter,ifs,0⟩] scope pos) 0 (.ref it) (.ref s2.heap.objs.size) (compEnvC scope (jbn X.env scope.names []) h3.objs.size X.env))
    (RR (.ref s2.heap.objs.size) h3.objs.size) s₃:=by
  rintro s₃ rfl
  refine codeAny_loop rfl (fun n s'=>∃ i σ' H',Inv (X.block scope N fp { s2 with heap:=h3 } (upd H2 s2.heap.objs.size (.lst [])) h3.objs.size) [] σ' H' s'∧tn i s'.heap∧(∀ b ∈ fp,H' b = none)∧W i n σ' H') ?_ m0
   ⟨0,_,_,Ib,tn1,fun b hb=>(f3 b hb).1,w0⟩
  rintro n s5 ⟨i,σ5,H5,I5,st5,fr5,w5⟩
  show wpAny _ X.A ((compTurn (.ListComp elt [⟨tg,iter,ifs,0⟩] scope pos) 0 (.ref it) (.ref s2.heap.objs.size) (compEnvC scope (jbn X.env scope.names []) h3.objs.size X.env)).onRaise (fun x=>do noteFrame x (compEnvC scope (jbn X.env scope.names []) h3.objs.size X.env); theTreesLotGoes x)) _ _ s5
  refine wpAny_noted ?_
  rw [compTurn_list]
  refine wpAny_bind (wpAny_standAt (wpAny_bind ?_))
  rcases turn i n σ5 H5 w5 with ⟨stop,qn⟩ | ⟨go,N',hN',step⟩
  ·refine thn (T.done (X.block scope N fp { s2 with heap:=h3 } (upd H2 s2.heap.objs.size (.lst [])) h3.objs.size) rfl rfl rfl hc i [] s5 σ5 H5 _ I5 (fpB fr5) st5 stop) fun r s6 ⟨hr,I6⟩=>?_
   subst hr
   refine wpAny_pure ?_
   have u6 : Un (frs X.stack) fp (upd H2 s2.heap.objs.size (.lst [])) H5 h3 s6.heap:=I6.base
   have hf6 : H5 h3.objs.size = none:=I6.free
   have I7 : Inv X pins σ H5 s6:=I3.call' (ch:=fp) I6.os u6 I6.hok I6.bare fun b hb=>⟨(f3 b hb).2.2.2.1,(f3 b hb).2.1,(f3 b hb).2.2.2.2.1,(f3 b hb).2.2.2.2.2⟩
   obtain ⟨m,hm,_⟩:=I6.loc
   exact hRR _ _ H5 s6 I7 ⟨m,hm⟩ (I3.fpOk (Nat.le_refl _) hf6) qn
  ·refine thn (T.item (X.block scope N fp { s2 with heap:=h3 } (upd H2 s2.heap.objs.size (.lst [])) h3.objs.size) rfl rfl rfl hc i [] s5 σ5 H5 _ I5 (fpB fr5) st5 go) fun r s6 ⟨u,hr,h6⟩=>?_
   subst hr
   refine wpAny_bind (thn h6 fun _ s7 ⟨x,H7,I7,r7,y7,st7,fr7⟩=>?_)
   have I7':=I7.pinned (fpB fr7) (T.obj _ _ st7)
   have fin : ∀ {σ9 : St} {H9 : Hp} {s9 : Shared},Inv (X.block scope N fp { s2 with heap:=h3 } (upd H2 s2.heap.objs.size (.lst [])) h3.objs.size) ([] ++ jgv fp s7.heap) σ9 H9 s9→N' σ9 H9 →
     ∃ m,m < n∧∃ i σ' H',Inv (X.block scope N fp { s2 with heap:=h3 } (upd H2 s2.heap.objs.size (.lst [])) h3.objs.size) [] σ' H' s9∧tn i s9.heap∧(∀ b ∈ fp,H' b = none)∧W i m σ' H':=fun {σ9 H9 s9} I9 n9=>by
    obtain ⟨m',hm,w9⟩:=hN' σ9 H9 n9
    refine ⟨m',hm,i + 1,σ9,H9,I9.unpinned,T.keep _ _ _ st7 fun b hb o e=>(I9.pin (b,o) (List.mem_append_right _ (List.mem_append_right _ (jd0 hb e)))).1,fun b hb=>?_,w9⟩
    obtain ⟨o,e,d⟩:=T.obj _ _ st7 b hb
    exact (I9.pin (b,o) (List.mem_append_right _ (List.mem_append_right _ (jd0 hb e)))).2.1
   refine wpAny_bind (wpAny_mono (hg fp _ _ _ _ s7 σ5 H7 x u _ I7' r7 (step x H7 y7)) (fun _ s8 ⟨σ8,H8,I8,q8⟩=>?_) fun _ _ z=>False.elim z)
   refine wpAny_bind (wpAny_mono (ht fp _ _ _ _ s8 σ8 H8 _ I8 q8) (fun ok s9 ⟨H9,I9,q9⟩=>?_) fun _ _ z=>False.elim z)
   cases ok with
   | false=>exact wpAny_pure ⟨rfl,fin I9 q9⟩
   | true =>
    refine wpAny_bind (wpAny_bind (wpAny_mono (he fp _ _ _ _ s9 σ8 H9 _ I9 q9) (fun v s10 ⟨y,H10,I10,r10,xs,hx,hz,q10⟩=>?_) fun _ _ z=>False.elim z))
    refine wpAny_bind (wpAny_mono (jh2 (X:=X.block scope N fp { s2 with heap:=h3 } (upd H2 s2.heap.objs.size (.lst [])) h3.objs.size) _ s10 σ8 H10 (.ref s2.heap.objs.size) [y] _ [v] (fun _ H11=>N' σ8 H11) I10 rfl (.cons r10 .nil) ⟨_,xs,y,rfl,rfl,hx,hz,q10⟩)
     (fun _ s11 ⟨_,H11,I11,_,q11⟩=>wpAny_pure (wpAny_pure ⟨rfl,fin I11 q11⟩)) fun _ _ z=>False.elim z)
 exact codeAny_compStart_list (loop _ rfl) (T.self _ 0 _ _ _ tn1 (loop _ rfl))
noncomputable def jnw (src : List (Option Nat)) (wi : TI) (g : TG) (tc : TT) (te : TE) : TE:=fun σ H Q=>wi σ H fun J H1=>∀ l,H1 l = none→jns J src g tc te Q σ H1 l
theorem jbv {X : Cx} {elt tg iter : Expr} {ifs : List Expr} {scope : Scope} {pos : Pos} {N : List Str} {src : List (Option Nat)} {wi : TI} {g : TG} {tc : TT} {te : TE} (S : CpScope X scope N src) (hc : X.calm = true)
  (hi : PI X tg iter wi) (hg : ∀ fp s₀ H₀ C,PG (X.block scope N fp s₀ H₀ C) tg g) (ht : ∀ fp s₀ H₀ C,PIf (X.block scope N fp s₀ H₀ C) ifs tc) (he : ∀ fp s₀ H₀ C,PE (X.block scope N fp s₀ H₀ C) elt te)
  (hs : ∀ x,foldedSetIterable iter X.env x = pure x:=by intro _; rfl) : PE X (.ListComp elt [⟨tg,iter,ifs,0⟩] scope pos) (jnw src wi g tc te):=by
 intro pins s σ H Q I h
 rw [eval_ListComp]
 refine wpAny_comprehension_free (use:=none) rfl hs (jcg fun y hy e=>I.ok.has y.1 (.inl (S.frees y hy e).2)) S.kind S.locs ?_
 refine thn (hi pins s σ H _ I h) fun v s1 h1=>thn h1 fun itv s2 h2=>?_
 obtain ⟨it,fp,tn,J,H2,e,I2,T,st2,f2,hw⟩:=h2
 subst e
 refine jhf (RR:=fun acc C=>compPost (model X.prog X.w) X.A X.xe none (EP X pins σ Q) acc C) S hc hg ht he I2 T st2 f2 hw ?_
 intro l C H' s' I' hm fC q
 obtain ⟨m,hm⟩:=hm
 refine ⟨m,hm,fun h' hs'=>?_⟩
 exact ⟨.ref l,H',I'.turned (t':=s'.toks) (fun b o hb e=>hs'.extBut b o hb e) fC.1 fC.2.1 fC.2.2.2.1 fC.2.2.2.2.1 fC.2.2.2.2.2,rfl,q⟩
theorem jhz {X : Cx} {i : Nat} {x : Str} {pos' spos : Pos} {elt tg iter : Expr} {ifs : List Expr} {scope : Scope} {pos : Pos} {N : List Str} {src : List (Option Nat)} {wi : TI} {g : TG} {tc : TT} {te : TE} (hN : X.N.Nodup) (hix : X.N[i]? = some x) (hx : Loc X.env.scope x)
  (S : CpScope X scope N src) (hc : X.calm = true)
  (hi : PI X tg iter wi) (hg : ∀ fp s₀ H₀ C,PG (X.block scope N fp s₀ H₀ C) tg g) (ht : ∀ fp s₀ H₀ C,PIf (X.block scope N fp s₀ H₀ C) ifs tc) (he : ∀ fp s₀ H₀ C,PE (X.block scope N fp s₀ H₀ C) elt te)
  (hsw : swapsWith (.ListComp elt [⟨tg,iter,ifs,0⟩] scope pos) (some (.Name x pos')) spos.line X.env = pure true:=by rfl)
  (hs : ∀ x,foldedSetIterable iter X.env x = pure x:=by intro _; rfl) (hf : X.fn x = true ∨ X.env.scope.names.lookup x = some .local:=by first | exact .inl rfl | exact .inr rfl | assumption) :
  PS X (.Assign [.Name x pos'] (.ListComp elt [⟨tg,iter,ifs,0⟩] scope pos) spos) (tAsg (jnw src wi g tc te) (jf7 i)):=by
 intro pins s σ H D I h
 rw [exec_Assign_Name_used _ _ _ _ hsw]
 refine wpAny_bind (wpAny_standAt (wpAny_bind ?_))
 show wpAny _ X.A (do let _ ← comprehension (.ListComp elt [⟨tg,iter,ifs,0⟩] scope pos) scope X.env _ (newList []) false (eval iter X.env) (some (assign (.Name x pos') X.env))) _ _ s
 refine wpAny_bind (wpAny_mono (wpAny_comprehension_free (use:=some (assign (.Name x pos') X.env)) (Q:=fun _ s'=>SP X pins D .next s') rfl hs (jcg fun y hy e=>I.ok.has y.1 (.inl (S.frees y hy e).2)) S.kind S.locs
  (thn (hi pins s σ H _ I h) fun v s1 h1=>thn h1 fun itv s2 h2=>?_)) (fun _ s' hq=>wpAny_pure (wpAny_pure hq)) fun _ _ e=>e)
 obtain ⟨it,fp,tn,J,H2,e,I2,T,st2,f2,hw⟩:=h2
 subst e
 refine jhf (Q:=fun v H'=>D.nx (σ.set i (some v)) H') (RR:=fun acc C=>compPost (model X.prog X.w) X.A X.xe (some (assign (.Name x pos') X.env)) (fun _ s'=>SP X pins D .next s') acc C) S hc hg ht he I2 T st2 f2 hw ?_
 intro l C H' s' I' hm fC q
 obtain ⟨m,hm⟩:=hm
 show wpAny _ X.A (assign (.Name x pos') X.env (.ref l)) _ _ _
 refine wpAny_assign_Name (jgq I' hN hix hx (v:=.ref l) rfl (fun s'' I'' ⟨a,sb,ha⟩=>?_) hf)
 have hCa : C ≠ a:=by
  rcases ha with rfl | ha
  ·exact fC.2.1
  ·exact fun z=>fC.2.2.2.2.1 x a ha z.symm
 refine ⟨m,hm.sameBut sb hCa,fun h' hs'=>?_⟩
 exact ⟨_,H',I''.turned (t':=s''.toks) (fun b o hb e=>hs'.extBut b o hb e) fC.1 fC.2.1 fC.2.2.2.1 fC.2.2.2.2.1 fC.2.2.2.2.2,q⟩
end L2
namespace L2
open PySem PySem.Spec PyProof.Rows
theorem Inv.turnedNew {X : Cx} {pins : List (Addr × Obj)} {σ : St} {H : Hp} {s : Shared} {h' : Heap} {ch : List Addr} {t : Addr} {o : HO} {t' : Nat} (I : Inv X pins σ H s) (hsz : s.heap.objs.size ≤ t)
  (k : ∀ b ob,b ∉ ch→s.heap.get? b = some ob→h'.get? b = some ob) (hch : ∀ b ∈ ch,FpOk X pins H b) (new : jb8 X.prog X.w (upd H t o) h' t o) :
  Inv X pins σ (upd H t o) { s with heap:=h',toks:=t' }:=by
 have hn : H t = none:=I.hok.fresh hsz
 have nt : ∀ {b ob},s.heap.get? b = some ob→b ≠ t:=fun q=>Nat.ne_of_lt (Nat.lt_of_lt_of_le (Heap.lt_size q) hsz)
 have u : Un (frs X.stack) ch H (upd H t o) s.heap h' :=
  ⟨fun b ob q _ _ hx=>k b ob hx q,fun b ob q _ _ hx=>⟨ob.slots,k b ob hx q⟩,fun b ob q n _=>by rw [ja8 (nt q)]; exact n,fun b ob q hx=>⟨ob,k b ob hx q⟩,
   fun b xs q=>by rw [ja8 (ja9 q hn)]; exact q,fun b ob xs q=>by rw [ja8 (ja9 q hn)]; exact q,fun b ps q=>⟨#[],by rw [ja8 (ja9 q hn),q]; simp⟩⟩
 refine I.call (g':=s.gens) (t':=t') (d':=s.drawn) u (fun b ob e=>?_) I.bare fun b hb=>⟨(hch b hb).2.2.2.1,(hch b hb).2.1,(hch b hb).2.2.2.2.1,(hch b hb).2.2.2.2.2⟩
 by_cases hb : b = t
 ·subst hb; rw [ja1] at e; cases e; exact new
 ·rw [ja8 hb] at e
  have ntr : ∀ {c u},H c = some u→c ∉ ch:=fun q z=>by rw [(hch _ z).1] at q; cases q
  refine (I.hok b ob e).stay (fun c v hc q=>k c v ?_ q) (fun c q=>by rw [ja8 (ja9 q hn)]; exact q) fun c xs q=>by rw [ja8 (ja9 q hn)]; exact q
  rcases hc with z | z
  ·rw [z]; exact ntr e
  ·exact ntr z
theorem Inv.turnedAll {X : Cx} {pins : List (Addr × Obj)} {σ : St} {H : Hp} {s : Shared} {h' : Heap} {ch : List Addr} {t' : Nat} (I : Inv X pins σ H s)
  (k : ∀ b ob,b ∉ ch→s.heap.get? b = some ob→h'.get? b = some ob) (hch : ∀ b ∈ ch,FpOk X pins H b) : Inv X pins σ H { s with heap:=h',toks:=t' }:=by
 have u : Un (frs X.stack) ch H H s.heap h' :=
  ⟨fun b ob q _ _ hx=>k b ob hx q,fun b ob q _ _ hx=>⟨ob.slots,k b ob hx q⟩,fun b ob q n _=>n,fun b ob q hx=>⟨ob,k b ob hx q⟩,fun b xs q=>q,fun b ob xs q=>q,fun b ps q=>⟨#[],by rw [q]; simp⟩⟩
 refine I.call (g':=s.gens) (t':=t') (d':=s.drawn) u (fun b ob e=>?_) I.bare fun b hb=>⟨(hch b hb).2.2.2.1,(hch b hb).2.1,(hch b hb).2.2.2.2.1,(hch b hb).2.2.2.2.2⟩
 have ntr : ∀ {c u},H c = some u→c ∉ ch:=fun q z=>by rw [(hch _ z).1] at q; cases q
 refine (I.hok b ob e).stay (fun c v hc q=>k c v ?_ q) (fun c q=>q) fun c xs q=>q
 rcases hc with z | z
 ·rw [z]; exact ntr e
 ·exact ntr z
noncomputable def Ite (K : PySem.W.Frag) (a : Addr) : It :=
 ⟨fun i H=>∃ xs x,SqL K H a xs∧xs[i]? = some x,fun i H x H'=>∃ t y,H t = none∧x = .ref t∧H' = upd H t (.tup [.int i,y])∧∀ xs,SqL K H a xs→xs[i]? = some y,fun i H=>∃ xs,SqL K H a xs∧xs.length ≤ i⟩
theorem jkz {P : Program} {w : World} {K : PySem.W.Frag} {elts : List Expr} {x1 : Nat} {pos : Pos} (a e it : Addr) (hne : e ≠ it) :
  Turn P w K (.Tuple elts x1 pos) (Ite K a) [e,it] e (fun i h=>(∃ old,IsEnum h e it i old)∧h.IsListIter it a i) where
 mem:=by simp
 obj:=fun i h st b hb=>by
  obtain ⟨⟨old,he⟩,hit⟩:=st
  have q : b = e ∨ b = it:=by simpa using hb
  rcases q with rfl | rfl
  ·exact ⟨_,he,fun v z=>by
    have z' : Data.fields _ = Data.cell v:=z
    cases z'⟩
  ·obtain ⟨o,e1,c,d⟩:=hit
   exact ⟨o,e1,fun v z=>by rw [d] at z; cases z⟩
 keep:=fun i h h' st k=>by
  obtain ⟨⟨old,he⟩,hit⟩:=st
  exact ⟨⟨old,k e (by simp) _ he⟩,hit.at fun o z=>k it (by simp) o z⟩
 item:=by
  intro X hP hw hK hc i pins s σ H E I hf st hg
  subst hP hw hK
  obtain ⟨⟨old,he⟩,hit⟩:=st
  obtain ⟨xs,x,hq,hx⟩:=hg
  obtain ⟨its,rv,p,hz⟩:=I.list hq
  obtain ⟨u,hu,ru⟩:=rv.get hx
  have elt : e < s.heap.objs.size:=Heap.lt_size he
  have ilt : it < s.heap.objs.size:=by obtain ⟨_,z,_⟩:=hit; exact Heap.lt_size z
  refine wpAny_pyNext_enum_item he hit p.isList (x:=u) (by simpa using hu) hne fun h1 ho hit1 hT hsz1 hk1=>?_
  refine ⟨_,rfl,wpAny_letOwnedTupleGo_enum ho fun h2 he2 hs2=>?_⟩
  replace hs2 : Heap.SameBut e h1 h2:=hs2
  have kk : ∀ b ob,b ∉ [e,it]→s.heap.get? b = some ob→h2.get? b = some ob:=fun b ob hb q=>by
   have hb' : b ≠ e∧b ≠ it:=by simpa using hb
   exact hs2.extBut b ob hb'.1 (hk1 b ob hb'.1 hb'.2 q)
  have hT2 : h2.get? s.heap.objs.size = some { cls:=.type "tuple",data:=.seq #[.int i s.toks,u] }:=(hs2.2 _ (Nat.ne_of_gt elt)).trans hT
  refine ⟨.ref s.heap.objs.size,upd H s.heap.objs.size (.tup [.int i,x]),I.turnedNew (ch:=[e,it]) (Nat.le_refl _) kk hf ?_,rfl,⟨_,x,I.fresh,rfl,rfl,fun ys hy=>by rw [I.list_inj hy hq]; exact hx⟩,⟨⟨u,by simpa using he2⟩,hit1.at fun o z=>(hs2.2 it hne.symm).trans z⟩,fun b hb=>?_⟩
  ·exact ⟨by show 2 ≤ sizeLine; decide,[.int i s.toks,u],.cons ⟨_,rfl⟩ (.cons ru .nil),⟨_,hT2,rfl,_,rfl⟩⟩
  ·have hb' : b = e ∨ b = it:=by simpa using hb
   have : b ≠ s.heap.objs.size:=by
    rcases hb' with rfl | rfl
    ·exact Nat.ne_of_lt elt
    ·exact Nat.ne_of_lt ilt
   rw [ja8 this]
   exact (hf b hb).1
 done:=by
  intro X hP hw hK hc i pins s σ H E I hf st hg
  subst hP hw hK
  obtain ⟨⟨old,he⟩,hit⟩:=st
  obtain ⟨xs,hq,hx⟩:=hg
  obtain ⟨its,rv,p,hz⟩:=I.list hq
  have hl:=rv.length
  refine wpAny_pyNext_enum_end (I.ok.hd hc) he hit p.isList (by simp; omega) fun h' eb=>⟨rfl,I.turnedAll (ch:=[e,it]) (t':=s.toks) (fun b o hb q=>eb b o (fun z=>hb (by simp [z])) q) hf⟩
 self:=fun _ _ _ _ _ st h=>by
  obtain ⟨⟨old,he⟩,_⟩:=st
  exact wpAny_pyIter_enum he h
noncomputable def iEnum (K : PySem.W.Frag) (ta : TA) : TI:=fun σ H R=>ta σ H fun vs H1=>∃ a,vs = [.ref a]∧(∃ xs,SqL K H1 a xs)∧R (Ite K a) H1
theorem jlw {X : Cx} {elts : List Expr} {x1 : Nat} {tpos : Pos} {a : Expr} {ta : TA} {p pos : Pos} (hg : Gl X "enumerate") (hm : X.mg "enumerate" = none) (ha : PA X [a] ta) (hs : starEach [a] X.env = [(false,eval a X.env)]:=by rfl) :
  PI X (.Tuple elts x1 tpos) (.Call (.Name "enumerate" p) [a] [] pos) (iEnum X.K ta):=by
 intro pins s σ H R I h
 refine Call_ (jf3 I hg hm boot_enumerate (PyProof.Rows.callWith_type1 (thn (ha pos pins s σ H _ I h) fun us s1 ⟨vs,H1,I1,r1,q1⟩=>?_) hs rfl))
 obtain ⟨a,e,⟨xs,hq⟩,q⟩:=q1
 subst e
 cases r1 with
 | cons r rr =>
  cases rr
  cases r
  obtain ⟨its,rv,pl,hz⟩:=I1.list hq
  refine call_enumerate_list pl.isList fun h' he hit hsz hk=>?_
  refine wpAny_pyIter_enum he ?_
  have I2 : Inv X pins σ H1 { s1 with heap:=h' }:=I1.kept (t':=s1.toks) fun b o q=>hk b o q
  refine ⟨_,[s1.heap.objs.size + 1,s1.heap.objs.size],_,_,H1,rfl,I2,jkz a _ _ (Nat.succ_ne_self _),⟨⟨_,he⟩,hit⟩,fun b hb=>?_,q⟩
  have hb' : b = s1.heap.objs.size + 1 ∨ b = s1.heap.objs.size:=by simpa using hb
  rcases hb' with rfl | rfl
  ·exact I1.fpOk (Nat.le_succ _) (I1.hok.fresh (Nat.le_succ _))
  ·exact I1.fpOk (Nat.le_refl _) (I1.hok.fresh (Nat.le_refl _))
end L2
namespace L2
open PySem PySem.Spec PyProof.Rows
section
variable {prog : Program} {w : World} {A : Around} {E : Value→Shared→Prop} {s : Shared}
theorem jka {j t : Addr} {k : Nat} {ar : Array Value} {x : Value} {Q : Value→Shared→Prop} (hj : s.heap.IsTupleIter j t k) (ht : s.heap.IsTuple t ar) (hx : ar[k]? = some x)
  (hQ : ∀ h',h'.IsTupleIter j t (k + 1)→Heap.SameBut j s.heap h'→Q x { s with heap:=h' }) : wpAny (model prog w) A (Builtin.SmallTypes.nextOf (.ref j)) Q E s:=by
 obtain ⟨ob,e0,hcl,hdt⟩:=id hj
 obtain ⟨ot,e1,_,nt,hdl⟩:=ht
 unfold Builtin.SmallTypes.nextOf
 refine wpAny_bind (wpAny_callSpecial?_slot (name:=Str.ofString "__next__") hj.typeIs F.slot_tuple_iterator_next (wpAny_call_entry F.slot_tuple_iterator_next hj.typeIs F.entry_tuple_iterator_next ?_ (F.args_tuple_iterator_next_1 _)))
 show wpAny _ _ (field (.ref j) 0 >>= _) _ _ s
 refine wpAny_bind (wpAny_field e0 hdt (x:=.ref t) rfl ?_)
 show wpAny _ _ (if (Value.ref t == Value.none) = true then _ else _) _ _ s
 rw [if_neg (show ¬ ((Value.ref t == Value.none) = true) from Bool.false_ne_true)]
 show wpAny _ _ (field (.ref j) 1 >>= _) _ _ s
 refine wpAny_bind (wpAny_field e0 hdt (x:=.int k 0) rfl ?_)
 show wpAny _ _ (seqItems? (.ref t) >>= _) _ _ s
 refine wpAny_bind (wpAny_seqItems e1 hdl ?_)
 simp only [Int.toNat_natCast,hx]
 refine wpAny_bind (wpAny_setField e0 hdt (by simp) (wpAny_pure ⟨x,rfl,wpAny_pure (hQ _ ?_ (Heap.SameBut.update ..))⟩))
 exact ⟨_,Heap.get?_update_self _ e0 (Obj.isFreed_of_fields (Obj.data_mapFields hdt _)),(Obj.cls_mapFields ..).trans hcl,by rw [Obj.data_mapFields hdt]; simp [rawInt]⟩
theorem jfn {j t : Addr} {k : Nat} {ar : Array Value} {Q : Value→Shared→Prop} (hh : A.handled = none) (hj : s.heap.IsTupleIter j t k) (ht : s.heap.IsTuple t ar) (hx : ar[k]? = none)
  (hE : ∀ h' e,Heap.ExtBut j s.heap h'→(∃ o,h'.get? e = some o∧o.cls = .type "StopIteration")→E (.ref e) { s with heap:=h' }) : wpAny (model prog w) A (Builtin.SmallTypes.nextOf (.ref j)) Q E s:=by
 obtain ⟨ob,e0,hcl,hdt⟩:=id hj
 obtain ⟨ot,e1,_,nt,hdl⟩:=ht
 unfold Builtin.SmallTypes.nextOf
 refine wpAny_bind (wpAny_callSpecial?_slot (name:=Str.ofString "__next__") hj.typeIs F.slot_tuple_iterator_next (wpAny_call_entry F.slot_tuple_iterator_next hj.typeIs F.entry_tuple_iterator_next ?_ (F.args_tuple_iterator_next_1 _)))
 show wpAny _ _ (field (.ref j) 0 >>= _) _ _ s
 refine wpAny_bind (wpAny_field e0 hdt (x:=.ref t) rfl ?_)
 show wpAny _ _ (if (Value.ref t == Value.none) = true then _ else _) _ _ s
 rw [if_neg (show ¬ ((Value.ref t == Value.none) = true) from Bool.false_ne_true)]
 show wpAny _ _ (field (.ref j) 1 >>= _) _ _ s
 refine wpAny_bind (wpAny_field e0 hdt (x:=.int k 0) rfl ?_)
 show wpAny _ _ (seqItems? (.ref t) >>= _) _ _ s
 refine wpAny_bind (wpAny_seqItems e1 hdl ?_)
 simp only [Int.toNat_natCast,hx]
 refine wpAny_bind (wpAny_rule (wpAny_bind (wpAny_setField e0 hdt (by simp) ?_)))
 show wpAny _ _ (newExc (.type "StopIteration") [] >>= _) _ _ _
 refine wpAny_bind ?_
 simp only [newExc,newTuple]
 refine wpAny_bind (wpAny_newObj_type ?_ (by size_fits))
 refine wpAny_bind (m:=firstArgMember _ _) (wpAny_of_eq (a:=Value.none) (by first | rfl | (simp only [firstArgMember]; rfl)) ?_)
 refine wpAny_newObj_type ?_ (by size_fits)
 simp only [raiseNew]
 refine wpAny_bind (wpAny_handled ?_)
 first | rw [show A.in1.handled = none from hh] | rw [hh]
 refine wpAny_bind (wpAny_pure (wpAny_throw ?_))
 exact hE _ _ (((Heap.SameBut.update ..).extBut.push _).push _) ⟨_,Heap.get?_push_size _ rfl,rfl⟩
noncomputable def IsSq (b : Bool) (h : Heap) (l : Addr) (ar : Array Value) : Prop:=if b = true then h.IsList l ar else h.IsTuple l ar
noncomputable def jbj (b : Bool) (h : Heap) (j l : Addr) (k : Nat) : Prop:=if b = true then h.IsListIter j l k else h.IsTupleIter j l k
theorem IsSq.at' {b : Bool} {h h' : Heap} {l : Addr} {ar : Array Value} (x : IsSq b h l ar) (k : ∀ o,h.get? l = some o→h'.get? l = some o) : IsSq b h' l ar:=by
 cases b with
 | true=>obtain ⟨o,e,r⟩:=(show h.IsList l ar from x); exact (show h'.IsList l ar from ⟨o,k o e,r⟩)
 | false=>obtain ⟨o,e,r⟩:=(show h.IsTuple l ar from x); exact (show h'.IsTuple l ar from ⟨o,k o e,r⟩)
theorem jbj.at' {b : Bool} {h h' : Heap} {j l : Addr} {i : Nat} (x : jbj b h j l i) (k : ∀ o,h.get? j = some o→h'.get? j = some o) : jbj b h' j l i:=by
 cases b with
 | true=>obtain ⟨o,e,r⟩:=(show h.IsListIter j l i from x); exact (show h'.IsListIter j l i from ⟨o,k o e,r⟩)
 | false=>obtain ⟨o,e,r⟩:=(show h.IsTupleIter j l i from x); exact (show h'.IsTupleIter j l i from ⟨o,k o e,r⟩)
theorem jbj.obj {b : Bool} {h : Heap} {j l : Addr} {i : Nat} (x : jbj b h j l i) : ∃ o,h.get? j = some o∧∀ v,o.data ≠ .cell v:=by
 cases b with
 | true=>obtain ⟨o,e,_,d⟩:=(show h.IsListIter j l i from x); exact ⟨o,e,fun v z=>by rw [d] at z; cases z⟩
 | false=>obtain ⟨o,e,_,d⟩:=(show h.IsTupleIter j l i from x); exact ⟨o,e,fun v z=>by rw [d] at z; cases z⟩
theorem jew {b : Bool} {j l : Addr} {k : Nat} {ar : Array Value} {x : Value} {Q : Value→Shared→Prop} (hj : jbj b s.heap j l k) (hl : IsSq b s.heap l ar) (hx : ar[k]? = some x)
  (hQ : ∀ h',jbj b h' j l (k + 1)→Heap.SameBut j s.heap h'→Q x { s with heap:=h' }) : wpAny (model prog w) A (Builtin.SmallTypes.nextOf (.ref j)) Q E s:=by
 cases b with
 | true=>exact wpAny_nextOf_list_item (show s.heap.IsListIter j l k from hj) (show s.heap.IsList l ar from hl) hx fun h' a b=>hQ h' a b
 | false=>exact jka (show s.heap.IsTupleIter j l k from hj) (show s.heap.IsTuple l ar from hl) hx fun h' a b=>hQ h' a b
theorem jdi {b : Bool} {j l : Addr} {k : Nat} {ar : Array Value} {Q : Value→Shared→Prop} (hh : A.handled = none) (hj : jbj b s.heap j l k) (hl : IsSq b s.heap l ar) (hx : ar[k]? = none)
  (hE : ∀ h' e,Heap.ExtBut j s.heap h'→(∃ o,h'.get? e = some o∧o.cls = .type "StopIteration")→E (.ref e) { s with heap:=h' }) : wpAny (model prog w) A (Builtin.SmallTypes.nextOf (.ref j)) Q E s:=by
 cases b with
 | true=>exact wpAny_nextOf_list_end hh (show s.heap.IsListIter j l k from hj) (show s.heap.IsList l ar from hl) hx hE
 | false=>exact jfn hh (show s.heap.IsTupleIter j l k from hj) (show s.heap.IsTuple l ar from hl) hx hE
theorem jgk {b : Bool} {z TI TO i1 i2 l1 l2 : Addr} {k1 k2 : Nat} {xs ys : Array Value} {x y v0 v1 : Value} {Q : Value→Shared→Prop} (D : ZipApart z TI TO i1 i2 l1 l2)
  (hz : IsZip s.heap z TI TO .none) (hTI : IsPair s.heap TI (.ref i1) (.ref i2)) (hTO : IsPair s.heap TO v0 v1)
  (h1 : jbj b s.heap i1 l1 k1) (h2 : jbj b s.heap i2 l2 k2) (hl1 : IsSq b s.heap l1 xs) (hl2 : IsSq b s.heap l2 ys) (hx : xs[k1]? = some x) (hy : ys[k2]? = some y)
  (hQ : ∀ h',IsZip h' z TI TO (rawInt s.heap.objs.size)→IsPair h' TO x y→jbj b h' i1 l1 (k1 + 1)→jbj b h' i2 l2 (k2 + 1)→IsPair h' s.heap.objs.size x y →
   (∀ c o,c ≠ z→c ≠ TO→c ≠ i1→c ≠ i2→s.heap.get? c = some o→h'.get? c = some o)→Q (.ref s.heap.objs.size) { s with heap:=h' }) :
  wpAny (model prog w) A (Builtin.«zip.__next__» ⟨[.ref z],[]⟩) (fun fin s'=>∃ v,fin = .done (.ret v)∧Q v s') E s:=by
 show wpAny _ _ (field (.ref z) 2 >>= _) _ _ _
 refine wpAny_bind (wpAny_field hz rfl (x:=.bool false) rfl ?_)
 show wpAny _ _ (field (.ref z) 3 >>= _) _ _ _
 refine wpAny_bind (wpAny_field hz rfl (x:=.ref TI) rfl ?_)
 refine wpAny_bind (wpAny_seqItems hTI rfl ?_)
 show wpAny _ _ (Builtin.SmallTypes.ownedTupleIsFree (.ref z) >>= _) _ _ _
 refine wpAny_bind ?_
 unfold Builtin.SmallTypes.ownedTupleIsFree
 refine wpAny_bind (wpAny_field hz rfl (x:=.none) rfl (wpAny_pure ?_))
 simp only [if_true]
 refine wpAny_bind (wpAny_rule ?_)
 refine wpAny_bind (wpAny_field hz rfl (x:=.ref TO) rfl ?_)
 refine wpAny_bind (wpAny_setField_rec hz (by simp) fun g1 hzA sA=>?_)
 replace hzA : IsZip g1 z TI TO .ellipsis:=hzA
 refine wpAny_bind ?_
 simp only [List.zipIdx_cons,List.zipIdx_nil,List.forIn_cons,List.forIn_nil]
 refine wpAny_bind (wpAny_bind (wpAny_onRaise ?_))
 show wpAny _ _ (Builtin.SmallTypes.nextOf (.ref i1) >>= _) _ _ _
 refine wpAny_bind (jew (b:=b) (h1.at' fun o e=>sA.extBut _ o D.i1z e) (hl1.at' fun o e=>sA.extBut _ o D.l1z e) hx fun g2 h1B sB=>wpAny_pure ?_)
 have TOB : IsPair g2 TO v0 v1:=sB.extBut _ _ D.TOi1 (sA.extBut _ _ D.TOz hTO)
 refine wpAny_bind (wpAny_seqItems TOB rfl ?_)
 refine wpAny_bind (wpAny_updateSeq_pair TOB fun g3 TOC sC=>?_)
 replace TOC : IsPair g3 TO x v1:=TOC
 refine wpAny_bind (wpAny_letGo (wpAny_pure ?_))
 refine wpAny_bind (wpAny_bind (wpAny_onRaise ?_))
 show wpAny _ _ (Builtin.SmallTypes.nextOf (.ref i2) >>= _) _ _ _
 refine wpAny_bind (jew (b:=b) (h2.at' fun o e=>sC.extBut _ o D.TOi2.symm (sB.extBut _ o D.i12.symm (sA.extBut _ o D.i2z e))) (hl2.at' fun o e=>sC.extBut _ o D.l2TO (sB.extBut _ o D.l2i1 (sA.extBut _ o D.l2z e))) hy fun g4 h2D sD=>wpAny_pure ?_)
 have TOD : IsPair g4 TO x v1:=sD.extBut _ _ D.TOi2 TOC
 refine wpAny_bind (wpAny_seqItems TOD rfl ?_)
 refine wpAny_bind (wpAny_updateSeq_pair TOD fun g5 TOE sE=>?_)
 replace TOE : IsPair g5 TO x y:=TOE
 refine wpAny_bind (wpAny_letGo (wpAny_pure (wpAny_pure ?_)))
 refine wpAny_bind (wpAny_seqItems TOE rfl ?_)
 refine wpAny_bind (wpAny_newTuple ?_)
 have hsz : g5.objs.size = s.heap.objs.size:=by rw [sE.1,sD.1,sC.1,sB.1,sA.1]
 have hzE : IsZip g5 z TI TO .ellipsis:=sE.extBut _ _ D.TOz.symm (sD.extBut _ _ D.i2z.symm (sC.extBut _ _ D.TOz.symm (sB.extBut _ _ D.i1z.symm hzA)))
 have hkE : ∀ c o,c ≠ z→c ≠ TO→c ≠ i1→c ≠ i2→s.heap.get? c = some o→g5.get? c = some o:=fun c o c1 c2 c3 c4 e=>sE.extBut _ _ c2 (sD.extBut _ _ c4 (sC.extBut _ _ c2 (sB.extBut _ _ c3 (sA.extBut _ _ c1 e))))
 have h1E : jbj b g5 i1 l1 (k1 + 1):=h1B.at' fun o e=>sE.extBut _ o D.TOi1.symm (sD.extBut _ o D.i12 (sC.extBut _ o D.TOi1.symm e))
 have h2E : jbj b g5 i2 l2 (k2 + 1):=h2D.at' fun o e=>sE.extBut _ o D.TOi2.symm e
 have zlt : z < g5.objs.size:=Heap.lt_size hzE
 show wpAny _ _ (Builtin.SmallTypes.ownedTupleHandOut (.ref z) (.ref g5.objs.size) >>= _) _ _ _
 refine wpAny_bind ?_
 unfold Builtin.SmallTypes.ownedTupleHandOut
 have hzF : IsZip (g5.push { cls:=.type "tuple",data:=.seq #[x,y] }) z TI TO .ellipsis:=Heap.get?_push_of_some _ hzE
 refine wpAny_bind (wpAny_setField_rec hzF (by simp) fun g7 hzG sG=>?_)
 replace hzG : IsZip g7 z TI TO (rawInt g5.objs.size):=hzG
 refine wpAny_setField_rec hzG (by simp) fun g8 hzI sI=>?_
 replace hzI : IsZip g8 z TI TO (rawInt g5.objs.size):=hzI
 have up : ∀ c o,c ≠ z→g5.get? c = some o→g8.get? c = some o:=fun c o c1 e=>sI.extBut _ _ c1 (sG.extBut _ _ c1 (Heap.get?_push_of_some _ e))
 have hTI8 : IsPair g8 g5.objs.size x y:=sI.extBut _ _ (Nat.ne_of_gt zlt) (sG.extBut _ _ (Nat.ne_of_gt zlt) (Heap.get?_push_size _ rfl))
 rw [hsz] at hzI hTI8
 refine wpAny_pure ⟨_,rfl,?_⟩
 show Q (.ref g5.objs.size) _
 rw [hsz]
 exact hQ g8 hzI (up _ _ D.TOz TOE) (h1E.at' fun o e=>up _ o D.i1z e) (h2E.at' fun o e=>up _ o D.i2z e) hTI8 fun c o c1 c2 c3 c4 e=>up c o c1 (hkE c o c1 c2 c3 c4 e)
theorem jhm {b : Bool} {z TI TO i1 i2 l1 l2 : Addr} {k1 k2 : Nat} {xs ys : Array Value} {v0 v1 : Value} {Q : Fin→Shared→Prop} (hh : A.handled = none) (D : ZipApart z TI TO i1 i2 l1 l2)
  (hz : IsZip s.heap z TI TO .none) (hTI : IsPair s.heap TI (.ref i1) (.ref i2)) (hTO : IsPair s.heap TO v0 v1)
  (h1 : jbj b s.heap i1 l1 k1) (h2 : jbj b s.heap i2 l2 k2) (hl1 : IsSq b s.heap l1 xs) (hl2 : IsSq b s.heap l2 ys) (hend : xs[k1]? = none ∨ ys[k2]? = none)
  (hE : ∀ h' e,(∀ c o,c ≠ z→c ≠ TO→c ≠ i1→c ≠ i2→s.heap.get? c = some o→h'.get? c = some o)→(∃ o,h'.get? e = some o∧o.cls = .type "StopIteration")→E (.ref e) { s with heap:=h' }) :
  wpAny (model prog w) A (Builtin.«zip.__next__» ⟨[.ref z],[]⟩) Q E s:=by
 show wpAny _ _ (field (.ref z) 2 >>= _) _ _ _
 refine wpAny_bind (wpAny_field hz rfl (x:=.bool false) rfl ?_)
 show wpAny _ _ (field (.ref z) 3 >>= _) _ _ _
 refine wpAny_bind (wpAny_field hz rfl (x:=.ref TI) rfl ?_)
 refine wpAny_bind (wpAny_seqItems hTI rfl ?_)
 show wpAny _ _ (Builtin.SmallTypes.ownedTupleIsFree (.ref z) >>= _) _ _ _
 refine wpAny_bind ?_
 unfold Builtin.SmallTypes.ownedTupleIsFree
 refine wpAny_bind (wpAny_field hz rfl (x:=.none) rfl (wpAny_pure ?_))
 simp only [if_true]
 refine wpAny_bind (wpAny_rule ?_)
 refine wpAny_bind (wpAny_field hz rfl (x:=.ref TO) rfl ?_)
 refine wpAny_bind (wpAny_setField_rec hz (by simp) fun g1 hzA sA=>?_)
 replace hzA : IsZip g1 z TI TO .ellipsis:=hzA
 refine wpAny_bind ?_
 simp only [List.zipIdx_cons,List.zipIdx_nil,List.forIn_cons,List.forIn_nil]
 refine wpAny_bind (wpAny_bind (wpAny_onRaise ?_))
 show wpAny _ _ (Builtin.SmallTypes.nextOf (.ref i1) >>= _) _ _ _
 cases hx : xs[k1]? with
 | none =>
  refine wpAny_bind (jdi (b:=b) hh (h1.at' fun o e=>sA.extBut _ o D.i1z e) (hl1.at' fun o e=>sA.extBut _ o D.l1z e) hx fun g2 ex sB he=>?_)
  obtain ⟨oe,hoe,hce⟩:=he
  have hzB : IsZip g2 z TI TO .ellipsis:=sB _ _ D.i1z.symm hzA
  have hez : ex ≠ z:=fun q=>by subst q; rw [hzB] at hoe; cases hoe; simp at hce
  refine wpAny_setField_rec hzB (by simp) fun g3 _ sC=>hE g3 ex (fun c o c1 _ c3 _ q=>sC.extBut _ _ c1 (sB _ _ c3 (sA.extBut _ _ c1 q))) ⟨oe,sC.extBut _ _ hez hoe,hce⟩
 | some x =>
  have hy : ys[k2]? = none:=by rcases hend with h | h; rw [hx] at h; cases h; exact h
  refine wpAny_bind (jew (b:=b) (h1.at' fun o e=>sA.extBut _ o D.i1z e) (hl1.at' fun o e=>sA.extBut _ o D.l1z e) hx fun g2 h1B sB=>wpAny_pure ?_)
  have TOB : IsPair g2 TO v0 v1:=sB.extBut _ _ D.TOi1 (sA.extBut _ _ D.TOz hTO)
  refine wpAny_bind (wpAny_seqItems TOB rfl ?_)
  refine wpAny_bind (wpAny_updateSeq_pair TOB fun g3 TOC sC=>?_)
  refine wpAny_bind (wpAny_letGo (wpAny_pure ?_))
  refine wpAny_bind (wpAny_bind (wpAny_onRaise ?_))
  show wpAny _ _ (Builtin.SmallTypes.nextOf (.ref i2) >>= _) _ _ _
  refine wpAny_bind (jdi (b:=b) hh (h2.at' fun o e=>sC.extBut _ o D.TOi2.symm (sB.extBut _ o D.i12.symm (sA.extBut _ o D.i2z e))) (hl2.at' fun o e=>sC.extBut _ o D.l2TO (sB.extBut _ o D.l2i1 (sA.extBut _ o D.l2z e))) hy fun g4 ex sD he=>?_)
  obtain ⟨oe,hoe,hce⟩:=he
  have hzD : IsZip g4 z TI TO .ellipsis:=sD _ _ D.i2z.symm (sC.extBut _ _ D.TOz.symm (sB.extBut _ _ D.i1z.symm hzA))
  have hez : ex ≠ z:=fun q=>by subst q; rw [hzD] at hoe; cases hoe; simp at hce
  refine wpAny_setField_rec hzD (by simp) fun g5 _ sE=>hE g5 ex (fun c o c1 c2 c3 c4 q=>sE.extBut _ _ c1 (sD _ _ c4 (sC.extBut _ _ c2 (sB.extBut _ _ c3 (sA.extBut _ _ c1 q))))) ⟨oe,sE.extBut _ _ hez hoe,hce⟩
end
noncomputable abbrev zpIt (b : Bool) (l : Addr) : Obj:={ cls:=.type (if b = true then "list_iterator" else "tuple_iterator"),data:=.fields #[.ref l,.int 0 0] }
noncomputable abbrev zp2 (b : Bool) (h : Heap) (l1 l2 : Addr) : Heap:=(h.push (zpIt b l1)).push (zpIt b l2)
noncomputable abbrev zp3 (b : Bool) (h : Heap) (l1 l2 : Addr) : Heap:=(zp2 b h l1 l2).push { cls:=.type "tuple",data:=.seq #[.ref h.objs.size,.ref (h.push (zpIt b l1)).objs.size] }
noncomputable abbrev zp4 (b : Bool) (h : Heap) (l1 l2 : Addr) : Heap:=(zp3 b h l1 l2).push { cls:=.type "tuple",data:=.seq #[.none,.none] }
noncomputable abbrev zp5 (b : Bool) (h : Heap) (l1 l2 : Addr) : Heap:=(zp4 b h l1 l2).push { cls:=.type "zip",data:=.fields #[.none,.bool false,.bool false,.ref (zp2 b h l1 l2).objs.size,.ref (zp3 b h l1 l2).objs.size] }
theorem jko (l1 l2 : Addr) (xs ys : Array Value) :
  Meets (Builtin.«zip.__new__» ⟨[.type "zip",.ref l1,.ref l2],[]⟩) (fun _ R s=>s.heap.IsTuple l1 xs∧s.heap.IsTuple l2 ys∧R (.ok (.ret (.ref (zp4 false s.heap l1 l2).objs.size))) { s with heap:=zp5 false s.heap l1 l2 }) :=
 .of_wp fun prog w A R s h=>by
  obtain ⟨hp,g,d,tk,os⟩:=s; obtain ⟨hl1,hl2,h⟩:=h
  have hsub:=sub_zip
  have hL1 : Heap.IsTuple (Shared.heap ⟨hp,g,d,tk,os⟩) l1 xs:=hl1
  have hL2 : Heap.IsTuple (Shared.heap ⟨hp.push { cls:=.type "tuple_iterator",data:=.fields #[.ref l1,.int 0 0] },g,d,tk,os⟩) l2 ys:=Heap.IsTuple.push hl2 _
  wp_walk using wpAny_pyIter_tuple hL1,wpAny_pyIter_tuple hL2
  exact ⟨_,rfl,h⟩
section
variable {prog : Program} {w : World} {A : Around} {E : Value→Shared→Prop} {s : Shared}
theorem jro {b : Bool} {l1 l2 : Addr} {xs ys : Array Value} {Q : Value→Shared→Prop} (hl1 : IsSq b s.heap l1 xs) (hl2 : IsSq b s.heap l2 ys)
  (h : ∀ h',IsZip h' (s.heap.objs.size + 4) (s.heap.objs.size + 2) (s.heap.objs.size + 3) .none→IsPair h' (s.heap.objs.size + 2) (.ref s.heap.objs.size) (.ref (s.heap.objs.size + 1)) →
   IsPair h' (s.heap.objs.size + 3) .none .none→jbj b h' s.heap.objs.size l1 0→jbj b h' (s.heap.objs.size + 1) l2 0→(∀ c o,s.heap.get? c = some o→h'.get? c = some o)→Q (.ref (s.heap.objs.size + 4)) { s with heap:=h' }) :
  wpAny (model prog w) A (call (.type "zip") [.ref l1,.ref l2]) Q E s:=by
 cases b with
 | true=>exact call_zip_2 (show s.heap.IsList l1 xs from hl1) (show s.heap.IsList l2 ys from hl2) fun h' a1 a2 a3 a4 a5 _ a7=>h h' a1 a2 a3 a4 a5 a7
 | false =>
  refine callType_new F.called_zip (by decide) (F.typeCall_zip_2 _ _) (F.newCall_zip_2 _ _) (fun obj=>F.args_object_init_3 obj _ _) F.entry_zip_new (jko l1 l2 xs ys) ⟨hl1,hl2,?_⟩
  have q1 : (s.heap.push (zpIt false l1)).objs.size = s.heap.objs.size + 1:=Heap.size_push ..
  have q2 : (zp2 false s.heap l1 l2).objs.size = s.heap.objs.size + 2:=by rw [Heap.size_push,q1]
  have q3 : (zp3 false s.heap l1 l2).objs.size = s.heap.objs.size + 3:=by rw [Heap.size_push,q2]
  have q4 : (zp4 false s.heap l1 l2).objs.size = s.heap.objs.size + 4:=by rw [Heap.size_push,q3]
  have p5 : (zp5 false s.heap l1 l2).get? (zp4 false s.heap l1 l2).objs.size = some _:=Heap.get?_push_size _ rfl
  have p4 : (zp5 false s.heap l1 l2).get? (zp3 false s.heap l1 l2).objs.size = some _:=Heap.get?_push_of_some _ (Heap.get?_push_size _ rfl)
  have p3 : (zp5 false s.heap l1 l2).get? (zp2 false s.heap l1 l2).objs.size = some _:=Heap.get?_push_of_some _ (Heap.get?_push_of_some _ (Heap.get?_push_size _ rfl))
  have p2 : (zp5 false s.heap l1 l2).get? (s.heap.push (zpIt false l1)).objs.size = some _:=Heap.get?_push_of_some _ (Heap.get?_push_of_some _ (Heap.get?_push_of_some _ (Heap.get?_push_size _ rfl)))
  have p1 : (zp5 false s.heap l1 l2).get? s.heap.objs.size = some _:=Heap.get?_push_of_some _ (Heap.get?_push_of_some _ (Heap.get?_push_of_some _ (Heap.get?_push_of_some _ (Heap.get?_push_size _ rfl))))
  show _∧_
  rw [q2,q3,q4] at p5
  rw [q1,q2] at p3
  rw [q3] at p4
  rw [q1] at p2
  rw [q4]
  exact ⟨⟨_,p5,rfl⟩,h _ p5 p3 p4 (show Heap.IsTupleIter _ _ _ _ from ⟨_,p1,rfl,rfl⟩) (show Heap.IsTupleIter _ _ _ _ from ⟨_,p2,rfl,rfl⟩) fun c o x =>
   Heap.get?_push_of_some _ (Heap.get?_push_of_some _ (Heap.get?_push_of_some _ (Heap.get?_push_of_some _ (Heap.get?_push_of_some _ x))))⟩
end
noncomputable def SqB (b : Bool) (K : PySem.W.Frag) (H : Hp) (a : Addr) (xs : List V) : Prop:=if b = true then SqL K H a xs else SqT K H a xs
theorem Inv.sqB {X : Cx} {pins : List (Addr × Obj)} {σ : St} {H : Hp} {s : Shared} {b : Bool} {a : Addr} {xs : List V} (I : Inv X pins σ H s) (h : SqB b X.K H a xs) : ∃ its : List Value,Vals xs its∧IsSq b s.heap a its.toArray∧xs.length ≤ sizeLine:=by
 cases b with
 | true =>
  obtain ⟨its,r,p,z⟩:=I.list (show SqL X.K H a xs from h)
  exact ⟨its,r,p.isList,z⟩
 | false =>
  obtain ⟨its,r,p,z⟩:=I.tuple (show SqT X.K H a xs from h)
  exact ⟨its,r,(show s.heap.IsTuple a its.toArray from p),z⟩
theorem Inv.sqB_inj {X : Cx} {pins : List (Addr × Obj)} {σ : St} {H : Hp} {s : Shared} {b : Bool} {a : Addr} {xs ys : List V} (I : Inv X pins σ H s) (h : SqB b X.K H a xs) (h' : SqB b X.K H a ys) : xs = ys:=by
 cases b with
 | true=>exact I.list_inj (show SqL X.K H a xs from h) (show SqL X.K H a ys from h')
 | false=>exact I.tuple_inj (show SqT X.K H a xs from h) (show SqT X.K H a ys from h')
noncomputable def Itz (b : Bool) (K : PySem.W.Frag) (a c : Addr) : It :=
  ⟨fun i H=>∃ xs ys x y,SqB b K H a xs∧SqB b K H c ys∧xs[i]? = some x∧ys[i]? = some y,
   fun i H v H'=>∃ t x y,H t = none∧v = .ref t∧H' = upd H t (.tup [x,y])∧(∀ xs,SqB b K H a xs→xs[i]? = some x)∧∀ ys,SqB b K H c ys→ys[i]? = some y,
   fun i H=>∃ xs ys,SqB b K H a xs∧SqB b K H c ys∧(xs.length ≤ i ∨ ys.length ≤ i)⟩
theorem jd5 {X : Cx} {pins : List (Addr × Obj)} {σ : St} {H : Hp} {s : Shared} {b : Bool} {a j : Addr} {xs : List V} (I : Inv X pins σ H s) (h : SqB b X.K H a xs) (f : FpOk X pins H j) : a ≠ j:=by
 intro e
 subst e
 have key : ∀ {o},X.K.lookup a = some o→False:=fun {o} q=>by
  have q1:=I.mod.kin a o q
  rcases f.2.2.2.1 with z | z
  ·exact I.ok.noex a o q1 z
  ·exact absurd (Nat.lt_of_lt_of_le (Heap.lt_size q1) (Nat.le_trans I.ok.bsz z)) (Nat.lt_irrefl _)
 cases b with
 | true =>
  rcases (show SqL X.K H a xs from h) with (h | ⟨o,h⟩) | ⟨o,its,n,hk,_⟩
  ·rw [f.1] at h; cases h
  ·rw [f.1] at h; cases h
  ·exact key hk
 | false =>
  rcases (show SqT X.K H a xs from h) with (h | ⟨o,h⟩) | ⟨o,its,n,hk,_⟩
  ·rw [f.1] at h; cases h
  ·rw [f.1] at h; cases h
  ·exact key hk
structure ZpA (z TI TO i1 i2 : Addr) : Prop where
 TIz : TI ≠ z
 TOz : TO ≠ z
 i1z : i1 ≠ z
 i2z : i2 ≠ z
 TITO : TI ≠ TO
 TIi1 : TI ≠ i1
 TIi2 : TI ≠ i2
 TOi1 : TO ≠ i1
 TOi2 : TO ≠ i2
 i12 : i1 ≠ i2
theorem jnv {P : Program} {w : World} {K : PySem.W.Frag} {elts : List Expr} {x1 : Nat} {pos : Pos} (b : Bool) (a c z TI TO i1 i2 : Addr) (D0 : ZpA z TI TO i1 i2) :
  Turn P w K (.Tuple elts x1 pos) (Itz b K a c) [z,TI,TO,i1,i2] z (fun i h=>IsZip h z TI TO .none∧IsPair h TI (.ref i1) (.ref i2)∧(∃ u v,IsPair h TO u v)∧jbj b h i1 a i∧jbj b h i2 c i) where
 mem:=by simp
 obj:=fun i h st d hd=>by
  obtain ⟨hz,hTI,⟨u,v,hTO⟩,h1,h2⟩:=st
  have q : d = z ∨ d = TI ∨ d = TO ∨ d = i1 ∨ d = i2:=by simpa using hd
  rcases q with rfl | rfl | rfl | rfl | rfl
  ·exact ⟨_,hz,fun v z=>by
    have z' : Data.fields _ = Data.cell v:=z
    cases z'⟩
  ·exact ⟨_,hTI,fun v z=>by
    have z' : Data.seq _ _ = Data.cell v:=z
    cases z'⟩
  ·exact ⟨_,hTO,fun v z=>by
    have z' : Data.seq _ _ = Data.cell v:=z
    cases z'⟩
  ·exact h1.obj
  ·exact h2.obj
 keep:=fun i h h' st k=>by
  obtain ⟨hz,hTI,⟨u,v,hTO⟩,h1,h2⟩:=st
  exact ⟨k z (by simp) _ hz,k TI (by simp) _ hTI,⟨u,v,k TO (by simp) _ hTO⟩,h1.at' fun o e=>k i1 (by simp) o e,h2.at' fun o e=>k i2 (by simp) o e⟩
 item:=by
  intro X hP hw hK hc i pins s σ H E I hf st hg
  subst hP hw hK
  obtain ⟨hz,hTI,⟨u0,v0,hTO⟩,h1,h2⟩:=st
  obtain ⟨xs,ys,x,y,hq1,hq2,hx,hy⟩:=hg
  obtain ⟨its1,rv1,p1,hz1⟩:=I.sqB hq1
  obtain ⟨its2,rv2,p2,hz2⟩:=I.sqB hq2
  obtain ⟨u1,hu1,ru1⟩:=rv1.get hx
  obtain ⟨u2,hu2,ru2⟩:=rv2.get hy
  have D : ZipApart z TI TO i1 i2 a c:=⟨D0.TIz,D0.TOz,D0.i1z,D0.i2z,D0.TITO,D0.TIi1,D0.TIi2,D0.TOi1,D0.TOi2,D0.i12,
   jd5 I hq1 (hf z (by simp)),jd5 I hq1 (hf TO (by simp)),jd5 I hq1 (hf i1 (by simp)),jd5 I hq1 (hf i2 (by simp)),jd5 I hq2 (hf z (by simp)),jd5 I hq2 (hf TO (by simp)),jd5 I hq2 (hf i1 (by simp)),jd5 I hq2 (hf i2 (by simp))⟩
  have zlt : z < s.heap.objs.size:=Heap.lt_size hz
  have hT : s.TypeIs (.ref z) "zip":=⟨_,hz,rfl⟩
  unfold pyNext
  refine wpAny_bind (wpAny_attempt (wpAny_callSpecial?_slot (name:=Str.ofString "__next__") hT F.slot_zip_next (wpAny_call_entry F.slot_zip_next hT F.entry_zip_next
   (jgk (b:=b) D hz hTI hTO h1 h2 p1 p2 (x:=u1) (y:=u2) (by simpa using hu1) (by simpa using hu2) fun h' a1 a2 a3 a4 a5 a7=>wpAny_pure ?_) (F.args_zip_next_1 _))))
  refine ⟨_,rfl,wpAny_letOwnedTupleGo_zip a1 fun g hz' hs'=>?_⟩
  replace hs' : Heap.SameBut z h' g:=hs'
  have kk : ∀ d ob,d ∉ [z,TI,TO,i1,i2]→s.heap.get? d = some ob→g.get? d = some ob:=fun d ob hd q=>by
   have hd' : d ≠ z∧d ≠ TI∧d ≠ TO∧d ≠ i1∧d ≠ i2:=by simpa using hd
   exact hs'.extBut _ _ hd'.1 (a7 d ob hd'.1 hd'.2.2.1 hd'.2.2.2.1 hd'.2.2.2.2 q)
  have hT2 : g.get? s.heap.objs.size = some { cls:=.type "tuple",data:=.seq #[u1,u2] }:=hs'.extBut _ _ (Nat.ne_of_gt zlt) a5
  refine ⟨.ref s.heap.objs.size,upd H s.heap.objs.size (.tup [x,y]),I.turnedNew (ch:=[z,TI,TO,i1,i2]) (t':=s.toks) (Nat.le_refl _) kk hf ?_,rfl,
   ⟨_,x,y,I.fresh,rfl,rfl,fun zs hq=>by rw [I.sqB_inj hq hq1]; exact hx,fun zs hq=>by rw [I.sqB_inj hq hq2]; exact hy⟩,
   ⟨hz',hs'.extBut _ _ D.TIz (a7 _ _ D.TIz D.TITO D.TIi1 D.TIi2 hTI),⟨_,_,hs'.extBut _ _ D.TOz a2⟩,a3.at' fun o e=>hs'.extBut _ _ D.i1z e,a4.at' fun o e=>hs'.extBut _ _ D.i2z e⟩,fun d hd=>?_⟩
  ·exact ⟨by show 2 ≤ sizeLine; decide,[u1,u2],.cons ru1 (.cons ru2 .nil),⟨_,hT2,rfl,_,rfl⟩⟩
  ·have dlt : d < s.heap.objs.size:=by
    have q : d = z ∨ d = TI ∨ d = TO ∨ d = i1 ∨ d = i2:=by simpa using hd
    rcases q with rfl | rfl | rfl | rfl | rfl
    ·exact zlt
    ·exact Heap.lt_size hTI
    ·exact Heap.lt_size hTO
    ·obtain ⟨o,e,_⟩:=h1.obj; exact Heap.lt_size e
    ·obtain ⟨o,e,_⟩:=h2.obj; exact Heap.lt_size e
   rw [ja8 (Nat.ne_of_lt dlt)]
   exact (hf d hd).1
 done:=by
  intro X hP hw hK hc i pins s σ H E I hf st hg
  subst hP hw hK
  obtain ⟨hz,hTI,⟨u0,v0,hTO⟩,h1,h2⟩:=st
  obtain ⟨xs,ys,hq1,hq2,hlen⟩:=hg
  obtain ⟨its1,rv1,p1,hz1⟩:=I.sqB hq1
  obtain ⟨its2,rv2,p2,hz2⟩:=I.sqB hq2
  have e1:=rv1.length
  have e2:=rv2.length
  have D : ZipApart z TI TO i1 i2 a c:=⟨D0.TIz,D0.TOz,D0.i1z,D0.i2z,D0.TITO,D0.TIi1,D0.TIi2,D0.TOi1,D0.TOi2,D0.i12,
   jd5 I hq1 (hf z (by simp)),jd5 I hq1 (hf TO (by simp)),jd5 I hq1 (hf i1 (by simp)),jd5 I hq1 (hf i2 (by simp)),jd5 I hq2 (hf z (by simp)),jd5 I hq2 (hf TO (by simp)),jd5 I hq2 (hf i1 (by simp)),jd5 I hq2 (hf i2 (by simp))⟩
  have hT : s.TypeIs (.ref z) "zip":=⟨_,hz,rfl⟩
  unfold pyNext
  refine wpAny_bind (wpAny_attempt (wpAny_callSpecial?_slot (name:=Str.ofString "__next__") hT F.slot_zip_next (wpAny_call_entry F.slot_zip_next hT F.entry_zip_next
   (jhm (b:=b) (I.ok.hd hc) D hz hTI hTO h1 h2 p1 p2 (by rcases hlen with h | h; exact .inl (by simp; omega); exact .inr (by simp; omega)) fun h' e hk he=>?_) (F.args_zip_next_1 _))))
  obtain ⟨o,ho,hcl⟩:=he
  refine wpAny_bind (wpAny_isInstance (T:="StopIteration") (b:=true) ⟨o,ho,hcl⟩ isSubtype_stop ?_)
  exact wpAny_pure ⟨rfl,I.turnedAll (ch:=[z,TI,TO,i1,i2]) (t':=s.toks) (fun d ob hd q=>by
   have hd' : d ≠ z∧d ≠ TI∧d ≠ TO∧d ≠ i1∧d ≠ i2:=by simpa using hd
   exact hk d ob hd'.1 hd'.2.2.1 hd'.2.2.2.1 hd'.2.2.2.2 q) hf⟩
 self:=fun _ _ _ _ _ st h=>wpAny_pyIter_zip st.1 h
theorem jhl {X : Cx} {b : Bool} {elts : List Expr} {x1 : Nat} {tpos : Pos} {pins : List (Addr × Obj)} {σ : St} {H1 : Hp} {s1 : Shared} {R : It→Hp→Prop} {a c : Addr} {xs ys : List V} (I1 : Inv X pins σ H1 s1) (hq1 : SqB b X.K H1 a xs) (hq2 : SqB b X.K H1 c ys) (q : R (Itz b X.K a c) H1) :
  wpAny (model X.prog X.w) X.A (call (.type "zip") [.ref a,.ref c]) (fun v s2=>wpAny (model X.prog X.w) X.A (pyIter v) (PIE X pins σ (.Tuple elts x1 tpos) R) X.xe s2) X.xe s1:=by
 obtain ⟨its1,rv1,p1,hz1⟩:=I1.sqB hq1
 obtain ⟨its2,rv2,p2,hz2⟩:=I1.sqB hq2
 refine jro p1 p2 fun h' a1 a2 a3 a4 a5 hk=>?_
 refine wpAny_pyIter_zip a1 ?_
 have I2 : Inv X pins σ H1 { s1 with heap:=h' }:=I1.kept (t':=s1.toks) fun b o q=>hk b o q
 have ne : ∀ i j : Nat,i ≠ j→s1.heap.objs.size + i ≠ s1.heap.objs.size + j:=fun i j h e=>h (Nat.add_left_cancel e)
 refine ⟨_,[s1.heap.objs.size + 4,s1.heap.objs.size + 2,s1.heap.objs.size + 3,s1.heap.objs.size,s1.heap.objs.size + 1],_,_,H1,rfl,I2,jnv b a c _ _ _ _ _ ⟨ne 2 4 (by decide),ne 3 4 (by decide),ne 0 4 (by decide),ne 1 4 (by decide),ne 2 3 (by decide),ne 2 0 (by decide),ne 2 1 (by decide),ne 3 0 (by decide),ne 3 1 (by decide),ne 0 1 (by decide)⟩,
  ⟨a1,a2,⟨_,_,a3⟩,a4,a5⟩,fun d hd=>?_,q⟩
 have hd' : d = s1.heap.objs.size + 4 ∨ d = s1.heap.objs.size + 2 ∨ d = s1.heap.objs.size + 3 ∨ d = s1.heap.objs.size ∨ d = s1.heap.objs.size + 1:=by simpa using hd
 have hle : s1.heap.objs.size ≤ d:=by
  rcases hd' with e | e | e | e | e <;> rw [e]
  ·exact Nat.le_add_right _ _
  ·exact Nat.le_add_right _ _
  ·exact Nat.le_add_right _ _
  ·exact Nat.le_refl _
  ·exact Nat.le_add_right _ _
 exact I1.fpOk hle (I1.hok.fresh hle)
noncomputable def jms (K : PySem.W.Frag) (ta : TA) : TI:=fun σ H R=>ta σ H fun vs H1=>∃ (b : Bool) (a c : Addr),vs = [.ref a,.ref c]∧(∃ xs,SqB b K H1 a xs)∧(∃ ys,SqB b K H1 c ys)∧R (Itz b K a c) H1
theorem ji0 {X : Cx} {elts : List Expr} {x1 : Nat} {tpos : Pos} {a c : Expr} {ta : TA} {p pos : Pos} (hg : Gl X "zip") (hm : X.mg "zip" = none) (ha : PA X [a,c] ta) (hs : starEach [a,c] X.env = [(false,eval a X.env),(false,eval c X.env)]:=by rfl) (hs2 : starEach [c] X.env = [(false,eval c X.env)]:=by rfl) :
  PI X (.Tuple elts x1 tpos) (.Call (.Name "zip" p) [a,c] [] pos) (jms X.K ta):=by
 intro pins s σ H R I h
 refine Call_ (jf3 I hg hm boot_zip (PyProof.Rows.callWith_type1 (thn (ha pos pins s σ H _ I h) fun us s1 ⟨vs,H1,I1,r1,q1⟩=>?_) (by rw [hs,hs2]) (by rw [hs2]; rfl)))
 obtain ⟨b,a,c,e,⟨xs,hq1⟩,⟨ys,hq2⟩,q⟩:=q1
 subst e
 cases r1 with
 | cons r rr =>
  cases rr with
  | cons r' rr =>
   cases rr
   cases r
   cases r'
   exact jhl I1 hq1 hq2 q
end L2
namespace L2
open PySem PySem.Spec PyProof.Rows
theorem jh3 : typeLookup (.type "list") "keys" = pure none:=by rw [typeLookup_type,builtinLookup_eq_fast]; kernel_rfl
theorem jez : typeLookup (.type "list") "__getattr__" = pure none:=by rw [typeLookup_type,builtinLookup_eq_fast]; kernel_rfl
theorem jg0 : isSubtype (.type "AttributeError") (.type "AttributeError") = pure true:=by rw [isSubtype_type]; kernel_rfl
section
variable {prog : Program} {w : World} {A : Around} {E : Value→Shared→Prop} {h : Heap} {g : Array GenState} {d : Drawn} {t : Nat} {os : OsState} {a : Addr} {o : Obj}
theorem jk7 {α : Type} {Q : α→Shared→Prop} {u : Value} {x msg : Str} (hh : A.handled = none) (hm : msg.length ≤ sizeLine)
  (hE : ∀ h' e tk,(∀ b o,h.get? b = some o→h'.get? b = some o)→(∃ o,h'.get? e = some o∧o.cls = .type "AttributeError")→E (.ref e) ⟨h',g,d,tk,os⟩) :
  wpAny (model prog w) A (raiseAttrError u x msg : Sem α) Q E ⟨h,g,d,t,os⟩:=by
 unfold raiseAttrError
 refine wpAny_bind (wpAny_mkStr ?_ hm)
 simp only [newExc,newTuple]
 refine wpAny_bind (wpAny_bind (wpAny_newObj_type ?_ (by size_fits)))
 refine wpAny_bind (m:=firstArgMember _ _) (wpAny_of_eq (a:=Value.none) (by first | rfl | (simp only [firstArgMember]; rfl)) ?_)
 refine wpAny_newObj_type ?_ (by size_fits)
 refine wpAny_bind (wpAny_mkText ?_)
 dsimp only
 refine wpAny_bind ?_
 unfold noteAttr
 generalize hh1 : h.push { cls:=.type "tuple",data:=.seq #[.str msg t] } = h1
 have k1 : ∀ b o,h.get? b = some o→h1.get? b = some o:=fun b o q=>by rw [← hh1]; exact Heap.get?_push_of_some _ q
 have hg : (h1.push { cls:=.type "AttributeError",data:=.fields #[.ref h.objs.size,.none,.none,.none,.bool false,.none,unsetMember,unsetMember] }).get? h1.objs.size = some _:=Heap.get?_push_size _ rfl
 have k2 : ∀ b o,h.get? b = some o→(h1.push { cls:=.type "AttributeError",data:=.fields #[.ref h.objs.size,.none,.none,.none,.bool false,.none,unsetMember,unsetMember] }).get? b = some o:=fun b o q=>Heap.get?_push_of_some _ (k1 b o q)
 have nb : ∀ b o,h.get? b = some o→b ≠ h1.objs.size:=fun b o q=>Nat.ne_of_lt (Heap.lt_size (k1 b o q))
 show wpAny _ _ (lacksNameAndObj (.ref h1.objs.size) >>= _) _ _ ⟨h1.push { cls:=.type "AttributeError",data:=.fields #[.ref h.objs.size,.none,.none,.none,.bool false,.none,unsetMember,unsetMember] },g,d,t + 1 + 1,os⟩
 generalize hh2 : h1.push { cls:=.type "AttributeError",data:=.fields #[.ref h.objs.size,.none,.none,.none,.bool false,.none,unsetMember,unsetMember] } = h2 at hg k2
 generalize h1.objs.size = e at hg nb
 clear hh2 k1 hh1
 have hT : (⟨h2,g,d,t + 1 + 1,os⟩ : Shared).TypeIs (.ref e) "AttributeError":=⟨_,hg,rfl⟩
 refine wpAny_bind ?_
 unfold lacksNameAndObj
 refine wpAny_bind (wpAny_isInstance hT jg0 ?_)
 simp only [Bool.not_true,Bool.false_eq_true,if_false]
 refine wpAny_bind (wpAny_load hg ?_)
 show wpAny _ _ (pure true) _ _ _
 refine wpAny_pure ?_
 simp only [if_true]
 refine wpAny_bind (wpAny_rule (wpAny_bind (wpAny_typeOf hT ?_)))
 show wpAny _ _ (layMembers e 6 #[_,u]) _ _ _
 unfold layMembers
 refine wpAny_bind (wpAny_load hg ?_)
 show wpAny _ _ (update e _) _ _ _
 refine wpAny_update hg ?_
 refine wpAny_raiseNew_none hh (hE _ _ _ (fun b o q=>?_) ⟨_,Heap.get?_update_self _ hg rfl,rfl⟩)
 exact (Heap.get?_update_other _ _ (nb b o q).symm).trans (k2 b o q)
theorem jh1 {tk : Tok} {Q : PySem.Fin→Shared→Prop} {its : Array Value} {n : Nat} (hx : h.get? a = some { cls:=.type "list",dict:=none,data:=.seq its n,slots:=#[] }) (hh : A.handled = none)
  (hE : ∀ h' e tk,(∀ b o,h.get? b = some o→h'.get? b = some o)→(∃ o,h'.get? e = some o∧o.cls = .type "AttributeError")→E (.ref e) ⟨h',g,d,tk,os⟩) :
  wpAny (model prog w) A (Builtin.«object.__getattribute__» ⟨[.ref a,.str "keys" tk],[]⟩) Q E ⟨h,g,d,t,os⟩:=by
 have hT : (⟨h,g,d,t,os⟩ : Shared).TypeIs (.ref a) "list":=⟨_,hx,rfl⟩
 have f4:=jh3
 repeat (any_goals (first | assumption | wp_step))
 refine jk7 hh (by decide +kernel) hE
theorem jm2 {tk : Tok} {Q : Value→Shared→Prop} {its : Array Value} {n : Nat} (hx : h.get? a = some { cls:=.type "list",dict:=none,data:=.seq its n,slots:=#[] }) (hh : A.handled = none)
  (hE : ∀ h' e tk,(∀ b o,h.get? b = some o→h'.get? b = some o)→(∃ o,h'.get? e = some o∧o.cls = .type "AttributeError")→E (.ref e) ⟨h',g,d,tk,os⟩) :
  wpAny (model prog w) A (getAttrBy (.ref a) (.str "keys" tk) false) Q E ⟨h,g,d,t,os⟩:=by
 have hT : (⟨h,g,d,t,os⟩ : Shared).TypeIs (.ref a) "list":=⟨_,hx,rfl⟩
 have f2:=F.slot_list_getattribute.lookup
 have f3:=F.slot_list_getattribute.bind (.ref a)
 repeat (any_goals (first | assumption | wp_step))
 refine codeAny_call_builtin F.slot_list_getattribute.plain F.entry_list_ga (F.slot_list_getattribute.check _ _ _ _ _ _ _ _ (show (⟨h,g,d,t,os⟩ : Shared).TypeIs (.ref a) "list" from ⟨_,hx,rfl⟩) (F.args_list_getattribute_2 _ _) (jh1 hx ?_ ?_))
 ·exact hh
 ·intro h' e tk k q
  obtain ⟨oe,he,hc⟩:=q
  have hT2 : (⟨h',g,d,tk,os⟩ : Shared).TypeIs (.ref e) "AttributeError":=⟨_,he,hc⟩
  have f5:=jg0
  have f6:=jez
  show wpAny _ A (getattributeRaised (Value.ref a) _ (Value.type "list") (.ref e) none false false) _ _ _
  have done:=hE h' e tk k ⟨oe,he,hc⟩
  unfold getattributeRaised
  repeat (any_goals (first | assumption | wp_step))
theorem nokeys {Q : Option Value→Shared→Prop} {its : Array Value} {n : Nat} (hx : h.get? a = some { cls:=.type "list",dict:=none,data:=.seq its n,slots:=#[] }) (hh : A.handled = none)
  (hq : ∀ h' tk,(∀ b o,h.get? b = some o→h'.get? b = some o)→Q none ⟨h',g,d,tk,os⟩) : wpAny (model prog w) A (getAttr? (.ref a) "keys") Q E ⟨h,g,d,t,os⟩:=by
 unfold getAttr? getAttrBy?
 refine wpAny_bind (wpAny_mkText (wpAny_bind (wpAny_attempt (jm2 hx hh fun h' e tk k q=>?_))))
 obtain ⟨oe,he,hc⟩:=q
 refine wpAny_bind (wpAny_isInstance (T:="AttributeError") (b:=true) ⟨_,he,hc⟩ jg0 ?_)
 exact wpAny_pure (hq h' tk k)
end
end L2
namespace L2
open PySem PySem.Spec PyProof.Rows
theorem jbp : entryFor table "dict.update.loop" = some Builtin.«dict.update.loop»:=entryFor_of_fast (by kernel_rfl)
theorem jau : plainId "dict.update.loop" = true:=by decide +kernel
theorem jk5 {K : Type} [DecidableEq K] (kvs : List (K × Value)) (k : K) (v : Value) : (stored kvs k v).length ≤ kvs.length + 1:=by
 unfold stored
 split
 ·rw [List.length_map]; omega
 ·rw [List.length_append]; exact Nat.le_refl _
section
variable {prog : Program} {w : World} {A : Around} {E : Value→Shared→Prop} {K : Type} [DecidableEq K] {knd : KeyKind prog w K} {R : Result→Shared→Prop}
theorem jn6 {d it l : Addr} {its : Array Value} {more : List (K × Value)} (hh : A.handled = none) (hlen : more.length = its.size) (hsz : its.size ≤ 1000) (hdl : l ≠ d) (hdi : it ≠ d) (hil : l ≠ it) :
  ∀ (k i : Nat) (tk0 : Tok) (s : Shared) (kvs : List (K × Value)),its.size - i = k→i ≤ its.size→kvs.length ≤ i→s.heap.IsListIter it l i→s.heap.IsList l its→s.heap.DictOf knd d kvs →
   (∀ (j : Nat) (q : K × Value),more[j]? = some q→∃ t kv,its[j]? = some (.ref t)∧s.heap.IsTuple t #[kv,q.2]∧knd.is q.1 kv = true) →
   (∀ h' tk,h'.DictOf knd d (merged kvs (more.drop i))→(∀ b o,b ≠ d→b ≠ it→s.heap.get? b = some o→h'.get? b = some o)→R (.ok (.ret .none)) { s with heap:=h',toks:=tk }) →
   codeAny (model prog w) A (.builtin "dict.update.loop" ⟨[.ref d,.ref it,.int i tk0,.none],[]⟩) R s:=by
 intro k
 induction k with
 | zero =>
  intro i tk0 s kvs hk hi hkl hit hl hd hp hR
  have e : i = its.size:=by omega
  subst e
  refine codeAny_builtin jbp ?_
  rw [Around.under_plainId jau _]
  show wpAny _ A.in1 (pyNext (.ref it) >>= _) _ _ s
  refine wpAny_bind (wpAny_pyNext_list_end hh hit hl (by simp) fun h' eb=>?_)
  show wpAny _ A.in1 (Builtin.Dict.addKeywords d [] >>= _) _ _ _
  refine wpAny_bind (wpAny_pure (wpAny_pure ?_))
  refine hR h' s.toks ?_ fun b o _ hb q=>eb b o hb q
  rw [List.drop_eq_nil_of_le (by omega)]
  exact hd.extBut eb hdi.symm
 | succ k ih =>
  intro i tk0 s kvs hk hi hkl hit hl hd hp hR
  have hlt : i < its.size:=by omega
  have hlm : i < more.length:=by omega
  obtain ⟨t,kv,hu,ht,hkey⟩:=hp i more[i] (by simp [hlm])
  refine codeAny_builtin jbp ?_
  rw [Around.under_plainId jau _]
  show wpAny _ A.in1 (pyNext (.ref it) >>= _) _ _ s
  refine wpAny_bind (wpAny_pyNext_list_item hit hl hu fun h1 hit1 sb1=>?_)
  have nti : t ≠ it:=fun z=>by
   subst z
   obtain ⟨o,e1,c1,_⟩:=ht
   obtain ⟨o',e2,c2,_⟩:=hit
   rw [e1] at e2; cases e2; rw [c1] at c2; exact absurd c2 (by decide)
  have ntd : t ≠ d:=fun z=>by
   subst z
   obtain ⟨o,e1,c1,_⟩:=ht
   obtain ⟨o',_,_,e2,c2,_⟩:=hd
   rw [e1] at e2; cases e2; rw [c2.1] at c1; exact absurd c1 (by decide)
  have ht1 : h1.IsTuple t #[kv,more[i].2]:=ht.extBut sb1.extBut nti
  have hd1 : h1.DictOf knd d kvs:=hd.extBut sb1.extBut hdi.symm
  show wpAny _ A.in1 (holding [.ref t] _ >>= _) _ _ _
  refine wpAny_bind (wpAny_holding ?_)
  refine wpAny_bind (m:=(Builtin.Dict.pairItems (.ref t)).tryCatch _) ?_
  refine wpAny_tryCatch ?_
  unfold Builtin.Dict.pairItems
  refine wpAny_bind (wpAny_typeOf ht1.typeIs ?_)
  obtain ⟨ot,e1,c1,n1,d1⟩:=id ht1
  rw [if_pos (by decide)]
  refine wpAny_bind (wpAny_seqItems e1 d1 ?_)
  refine wpAny_pure ?_
  show wpAny _ A.in1 (holding [kv,more[i].2] (dictSet d kv more[i].2)) _ _ _
  refine wpAny_holding (wpAny_dictSet_pairs hkey hd1 (fun h2 hd2 sb2=>?_) (by have:=(by decide : 1000 ≤ sizeLine); omega))
  replace sb2 : Heap.SameBut d h1 h2:=sb2
  have kk : ∀ b o,b ≠ d→b ≠ it→s.heap.get? b = some o→h2.get? b = some o:=fun b o b1 b2 q=>sb2.extBut b o b1 (sb1.extBut b o b2 q)
  refine wpAny_pure ⟨plainId_quiet jau _,?_⟩
  have hik : ((i : Int) + 1) = ((i + 1 : Nat) : Int):=by omega
  show codeAny _ _ (.builtin "dict.update.loop" ⟨[.ref d,.ref it,rawInt ((i : Int) + 1),.none],[]⟩) _ _
  rw [hik]
  refine ih (i + 1) 0 _ (stored kvs more[i].1 more[i].2) (by omega) (by omega) ?_ (hit1.extBut sb2.extBut hdi) ((hl.extBut sb1.extBut hil).extBut sb2.extBut hdl) hd2 ?_ ?_
  ·have:=jk5 kvs more[i].1 more[i].2
   omega
  ·intro j q hq
   obtain ⟨t',kv',a1,a2,a3⟩:=hp j q hq
   have n1 : t' ≠ it:=fun z=>by
    subst z
    obtain ⟨o,e1,c1,_⟩:=a2
    obtain ⟨o',e2,c2,_⟩:=hit
    rw [e1] at e2; cases e2; rw [c1] at c2; exact absurd c2 (by decide)
   have n2 : t' ≠ d:=fun z=>by
    subst z
    obtain ⟨o,e1,c1,_⟩:=a2
    obtain ⟨o',_,_,e2,c2,_⟩:=hd
    rw [e1] at e2; cases e2; rw [c2.1] at c1; exact absurd c1 (by decide)
   exact ⟨t',kv',a1,(a2.extBut sb1.extBut n1).extBut sb2.extBut n2,a3⟩
  ·intro h' tk hd' k'
   refine hR h' tk ?_ fun b o b1 b2 q=>k' b o b1 b2 (kk b o b1 b2 q)
   rw [List.drop_eq_getElem_cons hlm]
   exact hd'
theorem jfp {l : Addr} {its : Array Value} {c : Nat} {more : List (K × Value)} {s : Shared} {Q : Value→Shared→Prop} (hh : A.handled = none) (hl : s.heap.get? l = some { cls:=.type "list",dict:=none,data:=.seq its c,slots:=#[] }) (hlen : more.length = its.size) (hsz : its.size ≤ 1000)
  (hp : ∀ (j : Nat) (q : K × Value),more[j]? = some q→∃ t kv,its[j]? = some (.ref t)∧s.heap.IsTuple t #[kv,q.2]∧knd.is q.1 kv = true)
  (h : ∀ h' tk,h'.DictOf knd s.heap.objs.size (merged [] more)→(∀ b o,s.heap.get? b = some o→h'.get? b = some o)→Q (.ref s.heap.objs.size) { s with heap:=h',toks:=tk }) :
  wpAny (model prog w) A (call (.type "dict") [.ref l]) Q E s:=by
 refine callType_codes (Q₁:=fun obj s₁=>obj = .ref s.heap.objs.size∧s₁ = { s with heap:=s.heap.push { cls:=.type "dict",data:=.dict #[] } }) F.kt_called_dict (F.kt_typeCall_dict_1 _) F.entry_dict_init (kt_code_dict_new _ ⟨rfl,rfl⟩) ?_
 rintro obj s₁ ⟨rfl,rfl⟩
 have hnew : (s.heap.push { cls:=.type "dict",data:=.dict #[] }).DictOf knd s.heap.objs.size []:=Heap.DictOf.new s.heap
 have hl1 : (s.heap.push { cls:=.type "dict",data:=.dict #[] }).get? l = some { cls:=.type "list",dict:=none,data:=.seq its c,slots:=#[] }:=Heap.get?_push_of_some _ hl
 have k1 : ∀ b o,s.heap.get? b = some o→(s.heap.push { cls:=.type "dict",data:=.dict #[] }).get? b = some o:=fun b o q=>Heap.get?_push_of_some _ q
 have llt : l < s.heap.objs.size:=Heap.lt_size hl
 generalize s.heap.push { cls:=.type "dict",data:=.dict #[] } = h1 at hnew hl1 k1
 refine ⟨hnew.typeIs,F.args_dict_init_2 _ _,?_⟩
 unfold Builtin.«dict.__init__»
 refine wpAny_bind ?_
 unfold Builtin.Dict.selfAndRest
 refine wpAny_bind (wpAny_notOrdered_dict hnew.typeIs ?_)
 show wpAny _ _ (pure (s.heap.objs.size,[Value.ref l])) _ _ _
 refine wpAny_pure ?_
 show wpAny _ _ (Builtin.Dict.updateFrom "dict.__init__" s.heap.objs.size (.ref l) [] .none) _ _ _
 unfold Builtin.Dict.updateFrom
 refine wpAny_bind (wpAny_typeOf (T:="list") ⟨_,hl1,rfl⟩ ?_)
 rw [if_pos (by decide)]
 refine wpAny_bind (nokeys hl1 hh fun h2 tk2 k2=>?_)
 have hl2:=k2 _ _ hl1
 have hd2 : h2.DictOf knd s.heap.objs.size []:=let ⟨o,es,ep,ho,r⟩:=hnew; ⟨o,es,ep,k2 _ _ ho,r⟩
 have dlt : s.heap.objs.size < h2.objs.size:=by obtain ⟨_,_,_,ho,_⟩:=hd2; exact Heap.lt_size ho
 simp only [Option.isNone_none,if_true]
 refine wpAny_bind (wpAny_rule ?_)
 have hL : Heap.IsList h2 l its:=⟨_,hl2,rfl,_,rfl⟩
 refine wpAny_bind (wpAny_pyIter_list (s:={ s with heap:=h2,toks:=tk2 }) hL ?_)
 refine wpAny_pure ⟨plainId_quiet jau _,?_⟩
 have hit : (h2.push { cls:=.type "list_iterator",data:=.fields #[.ref l,.int 0 0] }).IsListIter h2.objs.size l 0:=⟨_,Heap.get?_push_size _ rfl,rfl,rfl⟩
 refine jn6 (A:=A.in1) (knd:=knd) (more:=more) hh hlen hsz (Nat.ne_of_lt llt) (Nat.ne_of_gt dlt) (Nat.ne_of_lt (Nat.lt_trans llt dlt)) its.size 0 0 { s with heap:=h2.push { cls:=.type "list_iterator",data:=.fields #[.ref l,.int 0 0] },toks:=tk2 } [] rfl (Nat.zero_le _) (Nat.le_refl _) hit (hL.push _) (hd2.push _) ?_ ?_
 ·intro j q hq
  obtain ⟨t,kv,a1,a2,a3⟩:=hp j q hq
  obtain ⟨o,e,r⟩:=a2
  exact ⟨t,kv,a1,⟨o,Heap.get?_push_of_some _ (k2 _ _ (k1 _ _ e)),r⟩,a3⟩
 ·intro h' tk hd' k'
  rw [List.drop_zero] at hd'
  refine ⟨rfl,h h' tk hd' fun b o q=>k' b o (Nat.ne_of_lt (Heap.lt_size q)) (Nat.ne_of_lt (Heap.lt_size (k2 _ _ (k1 _ _ q)))) (Heap.get?_push_of_some _ (k2 _ _ (k1 _ _ q)))⟩
end
noncomputable def PairAt (H : Hp) (v : V) (p : Key × V) : Prop:=∃ t,v = .ref t∧H t = some (.tup [kV p.1,p.2])
noncomputable def rDictL (K : PySem.W.Frag) : List V→Hp→VK→Prop:=fun vs H Q=>∃ l xs kvs,vs = [.ref l]∧H l = some (.lst xs)∧Paired (PairAt H) xs kvs∧xs.length ≤ 1000∧(kvs.map (·.1)).Nodup∧∀ d,H d = none→Q (.ref d) (upd H d (.dK kvs))
theorem jfr {X : Cx} {pins : List (Addr × Obj)} {σ : St} {H : Hp} {s : Shared} (I : Inv X pins σ H s) : ∀ {xs : List V} {kvs : List (Key × V)} {its : List Value},Paired (PairAt H) xs kvs→Vals xs its →
  ∃ more : List (Key × Value),KV kvs more∧∀ (j : Nat) (q : Key × Value),more[j]? = some q→∃ t kv,its[j]? = some (.ref t)∧s.heap.IsTuple t #[kv,q.2]∧(jbh X.prog X.w).is q.1 kv = true
 | _,_,_,.nil,.nil=>⟨[],.nil,fun j q h=>by simp at h⟩
 | _,_,_,.cons hp tp,.cons rv tr=>by
  obtain ⟨more,hk,hm⟩:=jfr I tp tr
  obtain ⟨t,rfl,ht⟩:=hp
  cases rv
  obtain ⟨_,its',rt,hi⟩:=I.hok t _ ht
  obtain ⟨u1,u2,rfl,r1,r2⟩:=rt.two
  refine ⟨(_,u2) :: more,.cons ⟨rfl,r2⟩ hk,fun j q h=>?_⟩
  cases j with
  | zero =>
   simp at h
   subst h
   exact ⟨t,u1,rfl,hi,jml r1⟩
  | succ j =>
   obtain ⟨t',kv,a1,a2,a3⟩:=hm j q (by simpa using h)
   exact ⟨t',kv,by simpa using a1,a2,a3⟩
theorem jkk {X : Cx} (hc : X.calm = true) : jbo X (.type "dict") (rDictL X.K):=by
 intro pins s σ H vs us Q I rv h
 obtain ⟨l,xs,kvs,rfl,hl,hp,hz,hn,q⟩:=h
 obtain ⟨u,rfl,ru⟩:=rv.one
 cases ru
 obtain ⟨z,its,n,r,hlen,e⟩:=I.lstM hl
 obtain ⟨more,hkv,hm⟩:=jfr I hp r
 have hlm : kvs.length = more.length:=Paired.length hkv
 have hlx : xs.length = kvs.length:=Paired.length hp
 refine jfp (knd:=jbh X.prog X.w) (more:=more) (I.ok.hd hc) e (by rw [List.size_toArray]; omega) (by rw [List.size_toArray]; omega) (fun j q hj=>?_) fun h' tk dd k=>?_
 ·obtain ⟨t,kv,a1,a2,a3⟩:=hm j q hj
  exact ⟨t,kv,by simpa using a1,a2,a3⟩
 ·refine ⟨.ref s.heap.objs.size,upd H s.heap.objs.size (.dK kvs),I.laid k (Nat.le_refl _) ?_,rfl,q _ I.fresh⟩
  rw [merged_nil_of_nodup more (by rw [← hkv.keys]; exact hn)] at dd
  exact jq2 (by have:=(by decide : 1000 ≤ sizeLine); omega) (by have:=I.big; exact beq_false_of_ne (Nat.ne_of_gt this)) hkv dd
end L2
namespace L2
open PySem PySem.Spec PyProof.Rows
noncomputable def jll (f : List Bool→Bool) : List V→Hp→VK→Prop:=fun vs H Q=>∃ l bs,vs = [.ref l]∧H l = some (.lst (bs.map V.bl))∧Q (.bl (f bs)) H
theorem jnm {bs : List Bool} {tr : Nat→Bool} (h : ∀ i b,bs[i]? = some b→tr i = b) : (List.range bs.length).all tr = bs.all id:=by
 rw [Bool.eq_iff_iff,List.all_eq_true,List.all_eq_true]
 constructor
 ·intro q b hb
  obtain ⟨i,hi,e⟩:=List.mem_iff_getElem.mp hb
  have:=q i (List.mem_range.mpr hi)
  rw [h i b (by rw [List.getElem?_eq_getElem hi,e])] at this
  exact this
 ·intro q i hi
  have hi':=List.mem_range.mp hi
  rw [h i bs[i] (List.getElem?_eq_getElem hi')]
  exact q _ (List.getElem_mem hi')
theorem jnl {bs : List Bool} {tr : Nat→Bool} (h : ∀ i b,bs[i]? = some b→tr i = b) : (List.range bs.length).any tr = bs.any id:=by
 rw [Bool.eq_iff_iff,List.any_eq_true,List.any_eq_true]
 constructor
 ·rintro ⟨i,hi,q⟩
  have hi':=List.mem_range.mp hi
  rw [h i bs[i] (List.getElem?_eq_getElem hi')] at q
  exact ⟨_,List.getElem_mem hi',q⟩
 ·rintro ⟨b,hb,q⟩
  obtain ⟨i,hi,e⟩:=List.mem_iff_getElem.mp hb
  exact ⟨i,List.mem_range.mpr hi,by rw [h i b (by rw [List.getElem?_eq_getElem hi,e])]; exact q⟩
theorem jho : ∀ {bs : List Bool} {us : List Value},Vals (bs.map V.bl) us→us = bs.map Value.bool
 | [],_,.nil=>rfl
 | b :: r,_,.cons q t=>by
  cases (show _ = Value.bool b from q)
  rw [jho t]
  rfl
theorem jp1 {X : Cx} (hc : X.calm = true) : jbo X (.builtin "all") (jll fun bs=>bs.all id):=by
 intro pins s σ H vs us Q I rv h
 obtain ⟨l,bs,rfl,hl,q⟩:=h
 obtain ⟨u,rfl,ru⟩:=rv.one
 cases ru
 obtain ⟨z,its,n,r,hlen,e⟩:=I.lstM hl
 have e2:=jho r
 subst e2
 have llt : l < s.heap.objs.size:=Heap.lt_size e
 have hL : s.heap.IsList l (bs.map Value.bool).toArray:=⟨_,e,rfl,_,rfl⟩
 refine call_all_walk (wpAny_pyIter_list hL ⟨s.heap.objs.size,[s.heap.objs.size,l],[s.heap.objs.size],_,_,_,fun i=>bs[i]?.getD true,rfl,Walks.list (A:=X.A.in1) (show X.A.in1.handled = none from I.ok.hd hc) s.heap.objs.size l (Nat.ne_of_lt llt) (bs.map Value.bool).toArray,
  (show Heap.IsListIter _ _ _ _∧Heap.IsList _ _ _ from ⟨⟨_,Heap.get?_push_size _ rfl,rfl,rfl⟩,hL.push _⟩),fun i v s' Q' E' hv hq=>?_,fun h' tk k=>?_⟩)
 ·have hv' : (bs.map Value.bool)[i]? = some v:=by simpa using hv
  rw [List.getElem?_map] at hv'
  cases eb : bs[i]? with
  | none=>rw [eb] at hv'; cases hv'
  | some b =>
   rw [eb] at hv'
   cases hv'
   have hq' : Q' b s':=by dsimp only at hq; rw [eb] at hq; exact hq
   exact wpAny_pure hq'
 ·have ez : ((bs.map Value.bool).toArray).size = bs.length:=by simp
  rw [ez,jnm (bs:=bs) (tr:=fun i=>bs[i]?.getD true) (fun i b hb=>by rw [hb]; rfl)]
  refine ⟨.bl _,H,I.kept fun b o qq=>k b o ?_ (Heap.get?_push_of_some _ qq),rfl,q⟩
  intro hb
  have : b = s.heap.objs.size:=by simpa using hb
  subst this
  exact absurd (Heap.lt_size qq) (Nat.lt_irrefl _)
theorem jp0 {X : Cx} (hc : X.calm = true) : jbo X (.builtin "any") (jll fun bs=>bs.any id):=by
 intro pins s σ H vs us Q I rv h
 obtain ⟨l,bs,rfl,hl,q⟩:=h
 obtain ⟨u,rfl,ru⟩:=rv.one
 cases ru
 obtain ⟨z,its,n,r,hlen,e⟩:=I.lstM hl
 have e2:=jho r
 subst e2
 have llt : l < s.heap.objs.size:=Heap.lt_size e
 have hL : s.heap.IsList l (bs.map Value.bool).toArray:=⟨_,e,rfl,_,rfl⟩
 refine call_any_walk (wpAny_pyIter_list hL ⟨s.heap.objs.size,[s.heap.objs.size,l],[s.heap.objs.size],_,_,_,fun i=>bs[i]?.getD true,rfl,Walks.list (A:=X.A.in1) (show X.A.in1.handled = none from I.ok.hd hc) s.heap.objs.size l (Nat.ne_of_lt llt) (bs.map Value.bool).toArray,
  (show Heap.IsListIter _ _ _ _∧Heap.IsList _ _ _ from ⟨⟨_,Heap.get?_push_size _ rfl,rfl,rfl⟩,hL.push _⟩),fun i v s' Q' E' hv hq=>?_,fun h' tk k=>?_⟩)
 ·have hv' : (bs.map Value.bool)[i]? = some v:=by simpa using hv
  rw [List.getElem?_map] at hv'
  cases eb : bs[i]? with
  | none=>rw [eb] at hv'; cases hv'
  | some b =>
   rw [eb] at hv'
   cases hv'
   have hq' : Q' b s':=by dsimp only at hq; rw [eb] at hq; exact hq
   exact wpAny_pure hq'
 ·have ez : ((bs.map Value.bool).toArray).size = bs.length:=by simp
  rw [ez,jnl (bs:=bs) (tr:=fun i=>bs[i]?.getD true) (fun i b hb=>by rw [hb]; rfl)]
  refine ⟨.bl _,H,I.kept fun b o qq=>k b o ?_ (Heap.get?_push_of_some _ qq),rfl,q⟩
  intro hb
  have : b = s.heap.objs.size:=by simpa using hb
  subst this
  exact absurd (Heap.lt_size qq) (Nat.lt_irrefl _)
inductive Knd (H : Hp) : V→String→Prop where
 | non : Knd H .non "NoneType"
 | bl {x : Bool} : Knd H (.bl x) "bool"
 | int {i : Int} : Knd H (.int i) "int"
 | str {x : Str} : Knd H (.str x) "str"
 | lst {a : Addr} {xs : List V} (e : H a = some (.lst xs)) : Knd H (.ref a) "list"
 | tup {a : Addr} {xs : List V} (e : H a = some (.tup xs)) : Knd H (.ref a) "tuple"
 | dK {a : Addr} {kvs : List (Key × V)} (e : H a = some (.dK kvs)) : Knd H (.ref a) "dict"
theorem Knd.ty {K : PySem.W.Frag} {H : Hp} {v : V} {n : String} (h : Knd H v n) : TyOf K H v (.type n):=by
 cases h with
 | non=>exact .non
 | bl=>exact .bl _
 | int=>exact .int _
 | str=>exact .str _
 | lst e=>exact .lst e
 | tup e=>exact .tup e
 | dK e=>exact .dK e
noncomputable def isiK (a b : String) : Bool:=a == b || (a == "bool" && b == "int")
noncomputable def jg8 : List String:=["NoneType","bool","int","str","list","tuple","dict"]
theorem jr5 {K : PySem.W.Frag} : ∀ a ∈ jg8,∀ b ∈ jg8,PySem.W.kitOne K (.type a) (.type b) = some (isiK a b):=by
 intro a ha b hb
 have ha' : a = "NoneType" ∨ a = "bool" ∨ a = "int" ∨ a = "str" ∨ a = "list" ∨ a = "tuple" ∨ a = "dict":=by simpa [jg8] using ha
 have hb' : b = "NoneType" ∨ b = "bool" ∨ b = "int" ∨ b = "str" ∨ b = "list" ∨ b = "tuple" ∨ b = "dict":=by simpa [jg8] using hb
 rcases ha' with rfl | rfl | rfl | rfl | rfl | rfl | rfl <;> rcases hb' with rfl | rfl | rfl | rfl | rfl | rfl | rfl <;> rfl
noncomputable def rIsi : List V→Hp→VK→Prop:=fun vs H Q=>∃ x n T,vs = [x,.ty T]∧Knd H x n∧T ∈ jg8∧Q (.bl (isiK n T)) H
theorem Knd.mem {H : Hp} {v : V} {n : String} (h : Knd H v n) : n ∈ jg8:=by cases h <;> simp [jg8]
theorem joz {X : Cx} : jbo X (.builtin "isinstance") rIsi:=by
 intro pins s σ H vs us Q I rv h
 obtain ⟨x,n,T,rfl,hk,hT,q⟩:=h
 obtain ⟨u1,u2,rfl,r1,r2⟩:=rv.two
 cases (show u2 = Value.type T from r2)
 exact jmq I r1 hk.ty (jr5 n hk.mem T hT) fun tk=>⟨.bl _,H,I.tok tk,rfl,q⟩
end L2
namespace L2
open PySem PySem.Spec PyProof.Rows
section
variable {X : Cx} {e a b c o i : Expr} {es : List Expr} {t t' ta tb tc td te : TE} {pos p p2 : Pos}
theorem PE.imp (h : PE X e t) (hi : ∀ σ H Q,t' σ H Q→t σ H Q) : PE X e t':=fun pins s σ H Q I q=>h pins s σ H Q I (hi σ H Q q)
theorem PG.imp {t t' : TG} (h : PG X e t) (hi : ∀ v σ H Q,t' v σ H Q→t v σ H Q) : PG X e t':=fun pins s σ H v u Q I r q=>h pins s σ H v u Q I r (hi v σ H Q q)
theorem PGs.imp {t t' : TGs} (h : PGs X es t) (hi : ∀ v σ H Q,t' v σ H Q→t v σ H Q) : PGs X es t':=fun pins s σ H v u Q I r q=>h pins s σ H v u Q I r (hi v σ H Q q)
theorem OpR.imp {f : Value→Value→Sem Value} {r r' : R2} (h : OpR X f r) (hi : ∀ x y H Q,r' x y H Q→r x y H Q) : OpR X f r':=fun pins s σ H x y v u Q I rx ry q=>h pins s σ H x y v u Q I rx ry (hi x y H Q q)
theorem jbo.imp {f : Value} {r r' : List V→Hp→VK→Prop} (h : jbo X f r) (hi : ∀ vs H Q,r' vs H Q→r vs H Q) : jbo X f r':=fun pins s σ H xs us Q I rv q=>h pins s σ H xs us Q I rv (hi xs H Q q)
theorem IxR.imp {r r' : R2} (h : IxR X r) (hi : ∀ x y H Q,r' x y H Q→r x y H Q) : IxR X r':=fun value slice pins s σ H x y v u Q I rx ry q hs=>h value slice pins s σ H x y v u Q I rx ry (hi x y H Q q) hs
theorem MtR.imp {id : String} {r r' : V→List V→Hp→VK→Prop} (h : MtR X id r) (hi : ∀ x vs H Q,r' x vs H Q→r x vs H Q) : MtR X id r':=fun pins s σ H x xs v us Q I rx rv q=>h pins s σ H x xs v us Q I rx rv (hi x xs H Q q)
theorem PSet.imp {t t' : TSet} (h : PSet X t) (hi : ∀ o i v H Q,t' o i v H Q→t o i v H Q) : PSet X t':=fun pins s σ H o i v ov iv u Q I r1 r2 r3 q=>h pins s σ H o i v ov iv u Q I r1 r2 r3 (hi o i v H Q q)
noncomputable def fVar (i : Nat) : TE:=fun σ H Q=>match σ[i]? with
 | some (some v)=>Q v H
 | _=>False
theorem qv (i : Nat) {x : Str} {pos : Pos} (hN : X.N[i]? = some x:=by rfl) (hv : Vis X.env.scope x:=by first | exact Or.inl rfl | exact Or.inr (Or.inl rfl) | exact Or.inr (Or.inr rfl)) (hd : (x == ("__debug__" : Str)) = false:=by decide)
  (hcd : (x == ("__classdict__" : Str)) = false:=by decide) : PE X (.Name x pos) (fVar i):=(pe_var hN hv hd hcd).imp fun σ H Q q=>by
 unfold fVar at q
 split at q
 ·rename_i v e; exact ⟨v,e,q⟩
 ·exact q.elim
noncomputable def fI (g : Int→Int→V) : R2:=fun x y H Q=>match x,y with
 | .int i,.int j=>Q (g i j) H
 | _,_=>False
noncomputable def fIC (C : Int→Int→Prop) (g : Int→Int→V) : R2:=fun x y H Q=>match x,y with
 | .int i,.int j=>C i j∧Q (g i j) H
 | _,_=>False
theorem fI.r {g : Int→Int→V} {x y : V} {H : Hp} {Q : VK} (h : fI g x y H Q) : rI0 g x y H Q:=by
 unfold fI at h
 split at h
 ·exact ⟨_,_,rfl,rfl,h⟩
 ·exact h.elim
theorem fIC.r {C : Int→Int→Prop} {g : Int→Int→V} {x y : V} {H : Hp} {Q : VK} (h : fIC C g x y H Q) : rI C g x y H Q:=by
 unfold fIC at h
 split at h
 ·exact ⟨_,_,rfl,rfl,h.1,h.2⟩
 ·exact h.elim
theorem jd1 : OpR X (binaryOp .Add) (fI fun i j=>.int (i + j)):=op_add.imp fun _ _ _ _=>fI.r
theorem q_sub : OpR X (binaryOp .Sub) (fI fun i j=>.int (i - j)):=op_sub.imp fun _ _ _ _=>fI.r
theorem jk8 : OpR X (binaryOp .Mult) (fIC CMul fun i j=>.int (i * j)):=op_mul.imp fun _ _ _ _=>fIC.r
theorem jhw : OpR X (binaryOp .Mod) (fIC (fun _ j=>0 < j) fun i j=>.int (i % j)):=op_mod.imp fun _ _ _ _=>fIC.r
theorem jlp : OpR X (binaryOp .FloorDiv) (fIC CDiv fun i j=>.int (i / j)):=jqu.imp fun _ _ _ _=>fIC.r
theorem jqk : OpR X (binaryOp .Pow) (fIC CPow fun i j=>.int (i ^ j.toNat)):=op_pow.imp fun _ _ _ _=>fIC.r
theorem q_lt : OpR X (compareOp .Lt) (fI fun i j=>.bl (decide (i < j))):=op_lt.imp fun _ _ _ _=>fI.r
theorem q_le : OpR X (compareOp .LtE) (fI fun i j=>.bl (decide (i ≤ j))):=op_le.imp fun _ _ _ _=>fI.r
theorem q_gt : OpR X (compareOp .Gt) (fI fun i j=>.bl (decide (i > j))):=op_gt.imp fun _ _ _ _=>fI.r
theorem q_ge : OpR X (compareOp .GtE) (fI fun i j=>.bl (decide (i ≥ j))):=op_ge.imp fun _ _ _ _=>fI.r
theorem q_iadd : PIp X .Add (fI fun i j=>.int (i + j)):=fun pins s σ H x y v u Q I rx ry q=>jrb pins s σ H x y v u Q I rx ry q.r
noncomputable def fNeg : V→Hp→VK→Prop:=fun x H Q=>match x with
 | .int i=>Q (.int (-i)) H
 | _=>False
theorem jlo : UnR X (unaryOp .USub) fNeg:=fun pins s σ H x v Q I rx q=>by
 cases x <;> first
  | exact False.elim q
  | exact un_neg pins s σ H _ v Q I rx ⟨_,rfl,q⟩
noncomputable def fEq : R2:=fun x y H Q=>match x,y with
 | .int i,.int j=>Q (.bl (decide (i = j))) H
 | .bl i,.bl j=>Q (.bl (decide (i = j))) H
 | .str i,.str j=>Q (.bl (decide (i = j))) H
 | _,_=>False
noncomputable def fNe : R2:=fun x y H Q=>match x,y with
 | .int i,.int j=>Q (.bl (!decide (i = j))) H
 | .bl i,.bl j=>Q (.bl (!decide (i = j))) H
 | .str i,.str j=>Q (.bl (!decide (i = j))) H
 | _,_=>False
theorem dI (i j : Int) : decide (V.int i = V.int j) = decide (i = j):=by simp
theorem dB (i j : Bool) : decide (V.bl i = V.bl j) = decide (i = j):=by simp
theorem dS (i j : Str) : decide (V.str i = V.str j) = decide (i = j):=by simp
theorem q_eq : OpR X (compareOp .Eq) fEq:=op_eq.imp fun x y H Q h=>by
 unfold fEq at h
 split at h
 ·exact ⟨rfl,by rw [dI]; exact h⟩
 ·exact ⟨rfl,by rw [dB]; exact h⟩
 ·exact ⟨rfl,by rw [dS]; exact h⟩
 ·exact h.elim
theorem q_ne : OpR X (compareOp .NotEq) fNe:=op_ne.imp fun x y H Q h=>by
 unfold fNe at h
 split at h
 ·exact ⟨rfl,by rw [dI]; exact h⟩
 ·exact ⟨rfl,by rw [dB]; exact h⟩
 ·exact ⟨rfl,by rw [dS]; exact h⟩
 ·exact h.elim
noncomputable def jmr : V→Bool
 | .non=>true
 | _=>false
noncomputable def fIsN (f : Bool→Bool) : R2:=fun x y H Q=>match y with
 | .non=>Q (.bl (f (jmr x))) H
 | _=>False
theorem dN (x : V) : decide (x = V.non) = jmr x:=by cases x <;> simp [jmr]
theorem jql : OpR X (compareOp .Is) (fIsN id):=op_isN.imp fun x y H Q h=>by
 unfold fIsN at h
 split at h
 ·exact ⟨rfl,by rw [dN]; exact h⟩
 ·exact h.elim
noncomputable def fAnd (ta tb : TE) : TE:=fun σ H Q=>ta σ H fun x H1=>match x with
 | .bl c=>if c = true then tb σ H1 Q else Q (.bl false) H1
 | _=>False
noncomputable def fOr (ta tb : TE) : TE:=fun σ H Q=>ta σ H fun x H1=>match x with
 | .bl c=>if c = true then Q (.bl true) H1 else tb σ H1 Q
 | _=>False
noncomputable def fNot (ta : TE) : TE:=fun σ H Q=>ta σ H fun x H1=>match x with
 | .bl c=>Q (.bl (!c)) H1
 | _=>False
noncomputable def fB (t : TE) : TT:=fun σ H Q=>t σ H fun x H1=>match x with
 | .bl c=>Q c H1
 | _=>False
variable {rest : List Expr}
theorem jdg (ha : PE X a ta) (hb : PE X (.BoolOp .And (b :: rest) pos) tb) : PE X (.BoolOp .And (a :: b :: rest) pos) (fAnd ta tb):=by
  intro pins s σ H Q I h
  refine BoolOp_and (thn (ha pins s σ H _ I h) fun v s1 ⟨x,H1,I1,r1,q1⟩=>?_)
  cases x <;> first
    | exact False.elim q1
    | (rename_i c
       cases r1
       refine wpAny_truthy_bool ?_
       cases c with
       | true=>exact hb pins s1 σ H1 Q I1 q1
       | false=>exact ⟨.bl false,H1,I1,rfl,q1⟩)
theorem q_not (ha : PE X a ta) : PE X (.UnaryOp .Not a pos) (fNot ta):=by
  intro pins s σ H Q I h
  refine UnaryOp_ (thn (ha pins s σ H _ I h) fun v s1 ⟨x,H1,I1,r1,q1⟩=>?_)
  cases x <;> first
    | exact False.elim q1
    | (rename_i c
       cases r1
       exact not_of (wpAny_truthy_bool ⟨.bl (!c),H1,I1,rfl,q1⟩))
theorem jb1 {t : TE} (h : PE X e t) (he : ∀ whole,isTrue e X.env whole = (do let v ← whole; standAt e.pos; holding [v] (truthy v)):=by intro _; rfl) : PT X e (fB t):=by
  intro pins s σ H Q I hw
  refine isTrue_plain (thn (h pins s σ H _ I hw) fun v s1 ⟨x,H1,I1,r1,q1⟩=>?_) (he _)
  cases x <;> first
    | exact False.elim q1
    | (cases r1
       exact wpAny_truthy_bool ⟨H1,I1,q1⟩)
theorem jb3 {op : CmpOp} {r : R2} (ho : OpR X (compareOp op) r) (ha : PE X a ta) (hb : PE X b tb) (hm : behindInMarks op b = false) : PT X (.Compare a [op] [b] pos) (fB (tOp r ta tb)):=by
  intro pins s σ H Q I h
  refine wpAny_isTrue_Compare1 (thn (ha pins s σ H _ I h) fun v s1 ⟨x,H1,I1,r1,q1⟩=>thn (hb pins s1 σ H1 _ I1 q1) fun u s2 ⟨y,H2,I2,r2,q2⟩ =>
    thn (ho pins s2 σ H2 x y v u _ I2 r1 r2 q2) fun c s3 ⟨z,H3,I3,r3,q3⟩=>?_) hm
  cases z <;> first
    | exact False.elim q3
    | (cases r3
       exact wpAny_truthy_bool ⟨H3,I3,q3⟩)
noncomputable def jn4 (r r' : R2) (ta tb tc : TE) : TE:=fun σ H Q=>ta σ H fun x H1=>tb σ H1 fun y H2=>r x y H2 fun z H3=>match z with
 | .bl k=>(if k = true then tc σ H3 fun w' H4=>r' y w' H4 Q else Q (.bl false) H3)
 | _=>False
theorem jlr {op op' : CmpOp} {g : Int→Int→Bool} {r' : R2} (ho : OpR X (compareOp op) (fI fun i j=>.bl (g i j))) (ho' : OpR X (compareOp op') r') (ha : PE X a ta) (hb : PE X b tb) (hc : PE X c tc)
  (hm : lastMarks [op,op'] [b,c] = false:=by with_unfolding_all rfl) : PE X (.Compare a [op,op'] [b,c] pos) (jn4 (fI fun i j=>.bl (g i j)) r' ta tb tc):=by
 intro pins s σ H Q I h
 refine Compare_chain (thn (ha pins s σ H _ I h) fun v s1 ⟨x,H1,I1,r1,q1⟩=>chain_link (thn (hb pins s1 σ H1 _ I1 q1) fun u s2 ⟨y,H2,I2,r2,q2⟩ =>
  thn (ho pins s2 σ H2 x y v u (fun z H3=>∃ k,z = .bl k∧(if k = true then tc σ H3 fun w' H4=>r' y w' H4 Q else Q (.bl false) H3)) I2 r1 r2 ?_) fun d s3 ⟨z,H3,I3,r3,k,e,q3⟩=>?_)) hm
 ·dsimp only at q2
  unfold fI at q2 ⊢
  cases x <;> cases y <;> first
   | exact q2.elim
   | exact ⟨_,rfl,q2⟩
 ·subst e
  cases r3
  refine wpAny_truthy_bool ?_
  cases k with
  | false=>exact ite_ff ⟨.bl false,H3,I3,rfl,q3⟩
  | true=>exact ite_tt (chain_last (thn (hc pins s3 σ H3 _ I3 q3) fun w' s4 ⟨z',H4,I4,r4,q4⟩=>ho' pins s4 σ H4 y z' u w' Q I4 r2 r4 q4))
noncomputable def jal (H : Hp) (p : Addr) : Option (List V):=match H p with
 | some (.lst xs)=>some xs
 | some (.tup xs)=>some xs
 | some (.frz _ (.lst xs))=>some xs
 | _=>none
theorem je7 {K : PySem.W.Frag} {H : Hp} {p : Addr} {xs : List V} (h : jal H p = some xs) : SqL K H p xs ∨ SqT K H p xs:=by
 unfold jal at h
 split at h
 ·rename_i ys e; cases h; exact .inl (.inl (.inl e))
 ·rename_i ys e; cases h; exact .inr (SqT.of e)
 ·rename_i o ys e; cases h; exact .inl (.inl (.inr ⟨_,e⟩))
 ·cases h
noncomputable def fIx : R2:=fun x y H Q=>match x,y with
 | .ref p,.int i=>match jal H p with
  | some xs=>match atI xs i with
   | some v=>Q v H
   | none=>False
  | none=>False
 | _,_=>False
theorem q_ix : IxR X fIx:=(jmn.or ix_tup).imp fun x y H Q h=>by
 unfold fIx at h
 split at h
 ·split at h
  ·rename_i xs e
   split at h
   ·rename_i v ev
    rcases je7 (K:=X.K) e with z | z
    ·exact .inl ⟨_,_,_,_,rfl,rfl,z,ev,h⟩
    ·exact .inr ⟨_,_,_,_,rfl,rfl,z,ev,h⟩
   ·exact h.elim
  ·exact h.elim
 ·exact h.elim
noncomputable def fLen : List V→Hp→VK→Prop:=fun vs H Q=>match vs with
 | [.ref p]=>match jal H p with
  | some xs=>Q (.int xs.length) H
  | none=>False
 | _=>False
theorem jej : jbo X (.builtin "len") fLen:=jcu.imp fun vs H Q h=>by
 unfold fLen at h
 split at h
 ·split at h
  ·rename_i xs e; exact ⟨_,xs,rfl,je7 e,h⟩
  ·exact h.elim
 ·exact h.elim
noncomputable def jgc : List V→Hp→VK→Prop:=fun vs H Q=>match vs with
 | [.ref p]=>match jal H p with
  | some xs=>∀ l,H l = none→Q (.ref l) (upd H l (.lst xs))
  | none=>False
 | _=>False
theorem jjc : jbo X (.type "list") jgc:=jhg.imp fun vs H Q h=>by
 unfold jgc at h
 split at h
 ·split at h
  ·rename_i xs e; exact ⟨_,xs,rfl,je7 e,h⟩
  ·exact h.elim
 ·exact h.elim
noncomputable def fMin : List V→Hp→VK→Prop:=fun vs H Q=>match vs with
 | [.int i,.int j]=>Q (.int (if j < i then j else i)) H
 | _=>False
theorem q_min (hc : X.calm = true) : jbo X (.builtin "min") fMin:=(jnf hc).imp fun vs H Q h=>by
 unfold fMin at h
 split at h
 ·exact ⟨_,_,rfl,h⟩
 ·exact h.elim
noncomputable def fSlL : V→Option Int→Option Int→Hp→VK→Prop:=fun x lo hi H Q=>match x with
 | .ref a=>match H a with
  | some (.lst xs)=>∀ p,H p = none→Q (.ref p) (upd H p (.lst (cutV xs lo hi)))
  | _=>False
 | _=>False
noncomputable def jgd : V→List V→Hp→VK→Prop:=fun x vs H Q=>match x,vs with
 | .ref l,[y]=>match H l with
  | some (.lst xs)=>xs.length < sizeLine∧Q .non (upd H l (.lst (xs ++ [y])))
  | _=>False
 | _,_=>False
theorem jc4 : MtR X "list.append" jgd:=MtR.imp (r:=jlm) (fun pins s σ H x xs v us Q I rx rv q=>jh2 pins s σ H x xs v us Q I rx rv q) fun x vs H Q h=>by
 unfold jgd at h
 split at h
 ·split at h
  ·rename_i xs e; exact ⟨_,xs,_,rfl,rfl,e,h.1,h.2⟩
  ·exact h.elim
 ·exact h.elim
noncomputable def fBM (r : V→List V→Hp→VK→Prop) (to : TE) (t : TA) : TE:=fun σ H Q=>to σ H fun x H1=>(∃ a xs,x = .ref a∧H1 a = some (.lst xs))∧t σ H1 fun xs H2=>r x xs H2 Q
noncomputable def joo : TSet:=fun o i v H Q=>match o,i with
 | .ref p,.int k=>match H p with
  | some (.lst xs)=>match ixN xs.length k with
   | some j=>Q (upd H p (.lst (xs.set j v)))
   | none=>False
  | _=>False
 | _,_=>False
theorem jja : PSet X joo:=jo2.imp fun o i v H Q h=>by
 unfold joo at h
 split at h
 ·split at h
  ·rename_i xs e
   split at h
   ·rename_i j ej; exact ⟨_,xs,_,j,rfl,rfl,e,ej,h⟩
   ·exact h.elim
  ·exact h.elim
 ·exact h.elim
noncomputable def jkj : TGs:=fun vs σ H Q=>match vs with
 | []=>Q σ H
 | _=>False
noncomputable def jfv (t : TG) (u : TGs) : TGs:=fun vs σ H Q=>match vs with
 | v :: r=>t v σ H fun σ' H'=>u r σ' H' Q
 | []=>False
theorem jbe : PGs X [] jkj:=jqt.imp fun v σ H Q h=>by
 unfold jkj at h
 split at h
 ·exact ⟨rfl,h⟩
 ·exact h.elim
theorem jae {t : TG} {u : TGs} (h1 : PG X e t) (h2 : PGs X es u) (hs : (assignEach (e :: es) X.env).map (·.2) = assign e X.env :: (assignEach es X.env).map (·.2):=by rfl) : PGs X (e :: es) (jfv t u):=(jo9 h1 h2 hs).imp fun v σ H Q h=>by
 unfold jfv at h
 split at h
 ·exact ⟨_,_,rfl,h⟩
 ·exact h.elim
noncomputable def jki (n : Nat) (t : TGs) : TG:=fun v σ H Q=>match v with
 | .ref a=>match H a with
  | some (.tup xs)=>xs.length = n∧t xs σ H Q
  | _=>False
 | _=>False
theorem jbs {k : Nat} {t : TGs} {n : Nat} (hc : X.calm = true) (h : PGs X es t) (hn : (assignEach es X.env).length = n:=by rfl) (hst : (assignEach es X.env).findIdx? (·.1) = none:=by rfl) : PG X (.Tuple es k pos) (jki n t) :=
 (pg_tup hc h hn hst).imp fun v σ H Q q=>by
  unfold jki at q
  split at q
  ·split at q
   ·rename_i xs e; exact ⟨_,xs,rfl,SqT.of e,q.1,q.2⟩
   ·exact q.elim
  ·exact q.elim
noncomputable def fDIn (f : Bool→Bool) (ty td : TE) : TE:=fun σ H Q=>ty σ H fun y H1=>td σ H1 fun x H2=>match y,x with
 | .int n,.ref a=>match H2 a with
  | some (.dK kvs)=>Q (.bl (f (valV kvs (Sum.inl n : Key)).isSome)) H2
  | _=>False
 | _,_=>False
noncomputable def jrg (td ty : TE) : TE:=fun σ H Q=>td σ H fun x H1=>ty σ H1 fun y H2=>match x,y with
 | .ref a,.int n=>match H2 a with
  | some (.dK kvs)=>match valV kvs (Sum.inl n : Key) with
   | some v=>Q v H2
   | none=>False
  | _=>False
 | _,_=>False
end
section
variable {X : Cx} {o i : Expr} {td ty : TE} {pos : Pos}
theorem fDIn_r {f : Bool→Bool} {H2 : Hp} {Q : VK} {y x : V} (h : (match y,x with
  | .int n,.ref a=>match H2 a with
    | some (.dK kvs)=>Q (.bl (f (valV kvs (Sum.inl n : Key)).isSome)) H2
    | _=>False
  | _,_=>False)) : ∃ a ov,x = .ref a∧DGet H2 a y ov∧Q (.bl (f ov.isSome)) H2:=by
  cases y <;> cases x <;> first
    | exact h.elim
    | (rename_i n a
       dsimp only at h
       split at h
       · rename_i kvs e; exact ⟨a,_,rfl,DGet.k (k:=Sum.inl n) e,h⟩
       · exact h.elim)
theorem q_din (hu : X.A.units + 1 < cLine) (hi : PE X i ty) (ho : PE X o td) : PC X .In i o (fDIn id ty td):=by
 intro pins s σ H Q I h
 refine thn (hi pins s σ H _ I h) fun iv s1 ⟨y,H1,I1,ry,q1⟩=>thn (ho pins s1 σ H1 _ I1 q1) fun u s2 ⟨x,H2,I2,rx,q2⟩=>?_
 obtain ⟨a,ov,ex,g,q3⟩:=fDIn_r q2
 subst ex
 obtain rfl : u = Value.ref a:=rx
 exact d_in hu I2 g ry fun s' I3=>⟨.bl ov.isSome,H2,I3,rfl,q3⟩
theorem jpo (hu : X.A.units + 1 < cLine) (ho : PE X o td) (hi : PE X i ty) (hs : NoSl i) : PE X (.Subscript o i pos) (jrg td ty):=by
  intro pins s σ H Q I h
  refine jl4 PySem.F.slot_dict_getitem.lookup hs (thn (ho pins s σ H _ I h) fun u s1 ⟨x,H1,I1,rx,q1⟩=>thn (hi pins s1 σ H1 _ I1 q1) fun iv s2 ⟨y,H2,I2,ry,q2⟩=>?_)
  cases x <;> cases y <;> first
    | exact False.elim q2
    | (dsimp only at q2
       split at q2
       · rename_i kvs e
         split at q2
         · rename_i v ev
           cases rx
           have g : ∀ {a : Addr} {n : Int},H2 a = some (.dK kvs)→valV kvs (Sum.inl n : Key) = some v→DGet H2 a (.int n) (some v):=fun e1 e2=>e2 ▸ DGet.k (k:=Sum.inl _) e1
           have g:=g e ev
           exact ⟨jfb I2 g,jhc hu I2 g ry fun w' s3 I3 rw'=>⟨v,H2,I3,rw',q2⟩⟩
         · exact q2.elim
       · exact q2.elim)
theorem q_bm {e : Expr} {es : List Expr} {to : TE} {t : TA} {name : Str} {apos cpos : Pos} {id : String} {r : V→List V→Hp→VK→Prop} (pa : PlainAttrs "list") (slot : Slot "list" name id) (hty : typeOf (.builtin id) = pure (.type "method_descriptor")) (hm : MtR X id r) (ho : PE X o to) (ha : PA X (e :: es) t)
  (hbase : attributeBase o name X.env (eval o X.env) = eval o X.env:=by rfl)
  (hfew : ((backTo cpos (starEach (e :: es) X.env)).all (fun x=>!x.1) && (backToKw cpos (keywordEach [] X.env)).all (fun x=>x.1.isSome)
   && decide ((e :: es).length + ([] : List Keyword).length + (if ([] : List Keyword).isEmpty then 0 else 1) < 30)) = true:=by rfl)
  (hline : (apos.endLine == cpos.line) = true:=by rfl) (hs : starEach (e :: es) X.env = (false,eval e X.env) :: starEach es X.env:=by rfl) (hplain : (backTo cpos (starEach es X.env)).any (·.1) = false:=by rfl) :
  PE X (.Call (.Attribute o name apos) (e :: es) [] cpos) (fBM r to t):=by
 intro pins s σ H Q I h
 refine wpAny_Call_method_late hbase hfew hline rfl (thn (ho pins s σ H _ I h) fun v s1 ⟨x,H1,I1,r1,⟨a,xs,ex,ea⟩,q1⟩=>?_)
 subst ex
 obtain ⟨h1,h2⟩:=jp9 (T:="list") I1 r1 (.inl ⟨rfl,_,SqL.of ea⟩)
 refine ⟨"list",id,pa,slot,hty,h1,h2,?_⟩
 have hA:=ha cpos pins s1 σ H1 _ I1 q1
 rw [hs] at hA ⊢
 refine Calls.callWith_builtin (by show (false || (backTo cpos (starEach es X.env)).any (·.1)) = false; rw [hplain] <;> rfl) (Calls.evalArgs_plain ?_)
 exact thn hA fun us s2 ⟨vs,H2,I2,r2,q2⟩=>hm pins s2 σ H2 _ vs v us Q I2 r1 r2 q2
end
inductive Kd where
 | non | bl | int | str | lst | tup | dct
 deriving DecidableEq
noncomputable def Kd.nm : Kd→String
 | .non=>"NoneType"
 | .bl=>"bool"
 | .int=>"int"
 | .str=>"str"
 | .lst=>"list"
 | .tup=>"tuple"
 | .dct=>"dict"
noncomputable def kd (H : Hp) (v : V) : Option Kd:=match v with
 | .non=>some .non
 | .bl _=>some .bl
 | .int _=>some .int
 | .str _=>some .str
 | .ref a=>match H a with
  | some (.lst _)=>some .lst
  | some (.tup _)=>some .tup
  | some (.dK _)=>some .dct
  | _=>none
 | _=>none
noncomputable def isi (a b : Kd) : Bool:=match a,b with
 | .bl,.int=>true
 | .non,.non=>true
 | .bl,.bl=>true
 | .int,.int=>true
 | .str,.str=>true
 | .lst,.lst=>true
 | .tup,.tup=>true
 | .dct,.dct=>true
 | _,_=>false
theorem kd_knd {H : Hp} {v : V} {k : Kd} (h : kd H v = some k) : Knd H v k.nm:=by
 unfold kd at h
 split at h
 ·cases h; exact .non
 ·cases h; exact .bl
 ·cases h; exact .int
 ·cases h; exact .str
 ·split at h
  ·rename_i e; cases h; exact .lst e
  ·rename_i e; cases h; exact .tup e
  ·rename_i e; cases h; exact .dK e
  ·cases h
 ·cases h
theorem isi_K (a b : Kd) : isiK a.nm b.nm = isi a b:=by cases a <;> cases b <;> rfl
theorem Kd.mem (b : Kd) : b.nm ∈ jg8:=by cases b <;> simp [jg8,Kd.nm]
noncomputable def fIsi (T : Kd) : List V→Hp→VK→Prop:=fun vs H Q=>match vs with
 | [x,y]=>y = .ty T.nm∧match kd H x with
  | some k=>Q (.bl (isi k T)) H
  | none=>False
 | _=>False
theorem jcm {X : Cx} (T : Kd) : jbo X (.builtin "isinstance") (fIsi T):=joz.imp fun vs H Q h=>by
 unfold fIsi at h
 split at h
 ·obtain ⟨rfl,h⟩:=h
  split at h
  ·rename_i k e
   exact ⟨_,_,_,rfl,kd_knd e,Kd.mem T,by rw [isi_K]; exact h⟩
  ·exact h.elim
 ·exact h.elim
noncomputable def fAug (i : Nat) (te : TE) (ti : TIp) : TS:=fun D σ H=>match σ[i]? with
 | some (some x)=>te σ H fun y H1=>ti x y H1 fun z H2=>D.nx (σ.set i (some z)) H2
 | _=>False
theorem jpn {X : Cx} {pos : Pos} {i : Nat} {x : Str} {e : Expr} {te : TE} {op : Operator} {ti : TIp} {pos' : Pos} (hN : X.N.Nodup) (hi : X.N[i]? = some x) (hx : Loc X.env.scope x) (he : PE X e te) (ho : PIp X op ti) (hf : X.fn x = true ∨ X.env.scope.names.lookup x = some .local:=by first | exact .inl rfl | exact .inr rfl | assumption) :
  PS X (.AugAssign (.Name x pos') op e pos) (fAug i te ti):=fun pins s σ H D I h=>ps_aug hN hi hx he ho hf pins s σ H D I (by
 unfold fAug at h
 split at h
 ·rename_i x e; exact ⟨x,e,h⟩
 ·exact h.elim)
noncomputable def fPart (t : TE) : TO:=fun σ H Q=>t σ H fun x H1=>match x with
 | .int i=>Q (some i) H1
 | _=>False
noncomputable def jfw (f : List Bool→Bool) : List V→Hp→VK→Prop:=fun vs H Q=>match vs with
 | [.ref l]=>match H l with
  | some (.lst xs)=>∃ bs : List Bool,xs = bs.map V.bl∧Q (.bl (f bs)) H
  | _=>False
 | _=>False
theorem jju {f : List Bool→Bool} {vs : List V} {H : Hp} {Q : VK} (h : jfw f vs H Q) : jll f vs H Q:=by
 unfold jfw at h
 split at h
 ·split at h
  ·rename_i xs e
   obtain ⟨bs,rfl,h⟩:=h
   exact ⟨_,bs,rfl,e,h⟩
  ·exact h.elim
 ·exact h.elim
theorem q_all {X : Cx} (hc : X.calm = true) : jbo X (.builtin "all") (jfw fun bs=>bs.all id):=(jp1 hc).imp fun _ _ _=>jju
theorem q_any {X : Cx} (hc : X.calm = true) : jbo X (.builtin "any") (jfw fun bs=>bs.any id):=(jp0 hc).imp fun _ _ _=>jju
noncomputable def jjs : List V→Hp→VK→Prop:=fun vs H Q=>match vs with
 | [.ref l]=>match H l with
  | some (.lst xs)=>∃ kvs : List (Key × V),Paired (PairAt H) xs kvs∧xs.length ≤ 1000∧(kvs.map (·.1)).Nodup∧∀ d,H d = none→Q (.ref d) (upd H d (.dK kvs))
  | _=>False
 | _=>False
theorem jlq {X : Cx} (hc : X.calm = true) : jbo X (.type "dict") jjs:=(jkk hc).imp fun vs H Q h=>by
 unfold jjs at h
 split at h
 ·split at h
  ·rename_i xs e
   obtain ⟨kvs,h1,h2,h3,h4⟩:=h
   exact ⟨_,xs,kvs,rfl,e,h1,h2,h3,h4⟩
  ·exact h.elim
 ·exact h.elim
noncomputable def fLtT : R2:=fun x y H Q=>match x,y with
 | .ref a,.ref b=>match H a,H b with
  | some (.tup [.int i,.int j]),some (.tup [.int k,.int l])=>Q (.bl (HT.lexLt [i,j] [k,l])) H
  | _,_=>False
 | _,_=>False
theorem q_ltT {X : Cx} (hu : X.A.units < cLine) : OpR X (compareOp .Lt) fLtT:=(op_ltT hu).imp fun x y H Q h=>by
 unfold fLtT at h
 split at h
 ·split at h
  ·rename_i a b _ _ i j k l e1 e2
   exact ⟨a,b,[i,j],[k,l],rfl,rfl,SqT.of e1,SqT.of e2,h⟩
  ·exact h.elim
 ·exact h.elim
noncomputable def capB (XN : List Str) (names : List (Str × NameKind)) : List Str→List (Option Nat)→Bool
 | [],[]=>true
 | x :: N,none :: r=>capB XN names N r
 | x :: N,some j :: r=>(XN[j]? == some x) && (names.lookup x == some .free) && capB XN names N r
 | _,_=>false
theorem jio {XN : List Str} {names : List (Str × NameKind)} : ∀ {N : List Str} {src : List (Option Nat)},capB XN names N src = true→src.length = N.length∧∀ (i j : Nat),src[i]? = some (some j)→XN[j]? = N[i]?∧(N[i]?).elim False (fun x=>names.lookup x = some .free)
 | [],[],_=>⟨rfl,fun i j e=>by simp at e⟩
 | x :: N,none :: r,h=>by
  obtain ⟨h1,h2⟩:=jio (N:=N) (src:=r) h
  refine ⟨by simp [h1],fun i j e=>?_⟩
  cases i with
  | zero=>simp at e
  | succ i=>exact h2 i j (by simpa using e)
 | x :: N,some k :: r,h=>by
  have h' : ((XN[k]? == some x) && (names.lookup x == some .free) && capB XN names N r) = true:=h
  rw [Bool.and_eq_true,Bool.and_eq_true] at h'
  obtain ⟨h1,h2⟩:=jio (N:=N) (src:=r) h'.2
  refine ⟨by simp [h1],fun i j e=>?_⟩
  cases i with
  | zero =>
   have e' : k = j:=by simpa using e
   subst e'
   exact ⟨by simpa using h'.1.1,by simpa using h'.1.2⟩
  | succ i=>exact h2 i j (by simpa using e)
noncomputable def jjj : List Str→Bool
 | []=>true
 | x :: r=>!(r.contains x) && jjj r
theorem jah : ∀ {l : List Str},jjj l = true→l.Nodup
 | [],_=>List.nodup_nil
 | x :: r,h=>by
  have h' : (!(r.contains x) && jjj r) = true:=h
  rw [Bool.and_eq_true] at h'
  exact List.nodup_cons.mpr ⟨by simpa using h'.1,jah h'.2⟩
noncomputable def cpB (XN : List Str) (outer : List (Str × NameKind)) (scope : Scope) (N : List Str) (src : List (Option Nat)) : Bool :=
 (scope.kind == .function) && scope.names.all (fun y=>y.2 != .cell) && scope.names.all (fun y=>y.2 != .local || scope.names.lookup y.1 == some .local) &&
  scope.names.all (fun y=>y.2 != .free || (scope.names.lookup y.1 == some .free && outer.lookup y.1 == some .cell)) && jjj N && capB XN scope.names N src
theorem CpScope.of {X : Cx} {scope : Scope} {N : List Str} {src : List (Option Nat)} (h : cpB X.N X.env.scope.names scope N src = true) : CpScope X scope N src:=by
 unfold cpB at h
 simp only [Bool.and_eq_true] at h
 obtain ⟨⟨⟨⟨⟨h1,h2⟩,h3⟩,h4⟩,h5⟩,h6⟩:=h
 rw [List.all_eq_true] at h2 h3 h4
 obtain ⟨l,c⟩:=jio h6
 refine ⟨by simpa using h1,fun y hy=>by simpa using h2 y hy,fun y hy e=>?_,fun y hy e=>?_,jah h5,l,c⟩
 ·have:=h3 y hy
  rw [e] at this
  simpa using this
 ·have:=h4 y hy
  rw [e] at this
  simpa using this
end L2
namespace L2
open PySem PySem.Spec PyProof.Rows
theorem jjq {K : PySem.W.Frag} {a : Addr} {xs : List V} {g : TG} {tb : TS} {D : Ends} {σ : St} {H : Hp} (Pv : Nat→St→Hp→Prop) (h0 : Pv 0 σ H) (hl : ∀ i σ H,i ≤ xs.length→Pv i σ H→SqL K H a xs)
  (hs : ∀ i x σ H t,xs[i]? = some x→Pv i σ H→H t = none→g (.ref t) σ (upd H t (.tup [.int i,x])) fun σ2 H2=>tb { D with nx:=Pv (i + 1),ct:=Pv (i + 1),bk:=D.nx } σ2 H2) (hd : ∀ σ H,Pv xs.length σ H→D.nx σ H) :
  ∃ W : Nat→Nat→St→Hp→Prop,(∃ m,W 0 m σ H)∧∀ i m σ H,W i m σ H →
   ((Ite K a).stop i H∧D.nx σ H) ∨ ((Ite K a).go i H∧∃ N : St→Hp→Prop,(∀ σ' H',N σ' H'→∃ m',m' < m∧W (i + 1) m' σ' H')∧∀ x H',(Ite K a).yld i H x H'→g x σ H' fun σ2 H2=>tb { D with nx:=N,ct:=N,bk:=D.nx } σ2 H2):=by
 refine ⟨fun i m σ H=>m = xs.length - i∧i ≤ xs.length∧Pv i σ H,⟨xs.length,by simp,Nat.zero_le _,h0⟩,?_⟩
 rintro i m σ H ⟨rfl,hi,p⟩
 have q:=hl i σ H hi p
 by_cases hlt : i < xs.length
 ·refine .inr ⟨⟨xs,xs[i],q,by simp [hlt]⟩,Pv (i + 1),fun σ' H' p'=>⟨xs.length - (i + 1),by omega,rfl,hlt,p'⟩,fun x H' y=>?_⟩
  obtain ⟨t,z,ht,e1,e2,y⟩:=y
  subst e1 e2
  exact hs i z σ _ t (y xs q) p ht
 ·have e : i = xs.length:=by omega
  subst e
  exact .inl ⟨⟨xs,q,Nat.le_refl _⟩,hd σ H p⟩
theorem jb9 {wi : TI} {g : TG} {tb : TS} {D : Ends} {σ : St} {H : Hp} (J : It) (H1 : Hp) (h1 : ∀ R : It→Hp→Prop,R J H1→wi σ H R)
  (h2 : ∃ W : Nat→Nat→St→Hp→Prop,(∃ m,W 0 m σ H1)∧∀ i m σ H,W i m σ H→(J.stop i H∧D.nx σ H) ∨ (J.go i H∧∃ N : St→Hp→Prop,(∀ σ' H',N σ' H'→∃ m',m' < m∧W (i + 1) m' σ' H')∧∀ x H',J.yld i H x H'→g x σ H' fun σ2 H2=>tb { D with nx:=N,ct:=N,bk:=D.nx } σ2 H2)) :
  tFor wi g tb D σ H:=h1 _ h2
theorem jan {src : List (Option Nat)} {wi : TI} {g : TG} {tc : TT} {te : TE} {Q : VK} {σ : St} {H : Hp} (J : It) (H1 : Hp) (h1 : ∀ R : It→Hp→Prop,R J H1→wi σ H R) (h2 : ∀ l,H1 l = none→jns J src g tc te Q σ H1 l) : jnw src wi g tc te σ H Q:=h1 _ h2
theorem ja3 {H : Hp} {p : Addr} (h : H p = none) (o : HO) : Same H (upd H p o):=fun b u q=>by rw [ja8 (ja9 q h)]; exact q
theorem jao {H H' : Hp} {p : Addr} {o : HO} (s : Same H H') (h : H p = none) : Same H (upd H' p o):=fun b u q=>by rw [ja8 (ja9 q h)]; exact s b u q
noncomputable def Pr (H : Hp) (v : V) (p : Int × Int) : Prop:=∃ t,v = .ref t∧H t = some (.tup [.int p.1,.int p.2])
theorem Pr.same {H H' : Hp} {v : V} {p : Int × Int} (h : Pr H v p) (s : Same H H') : Pr H' v p:=let ⟨t,e,q⟩:=h; ⟨t,e,s _ _ q⟩
noncomputable def jr9 : HO→Bool
 | .tup _=>true
 | .frz _ _=>true
 | _=>false
noncomputable def TupS (H H' : Hp) : Prop:=∀ b o,jr9 o = true→H b = some o→H' b = some o
theorem Same.tups {H H' : Hp} (s : Same H H') : TupS H H':=fun b o _ q=>s b _ q
theorem TupS.trans {H H1 H2 : Hp} (a : TupS H H1) (b : TupS H1 H2) : TupS H H2:=fun c o i q=>b c o i (a c o i q)
theorem jcw {H : Hp} {l : Addr} {xs ys : List V} (h : H l = some (.lst xs)) : TupS H (upd H l (.lst ys)):=fun b o i q=>by
 have : b ≠ l:=fun z=>by rw [z,h] at q; cases q; cases i
 rw [ja8 this]
 exact q
theorem jdd {H : Hp} {l : Addr} {o : HO} (h : H l = none) : TupS H (upd H l o):=(ja3 h o).tups
theorem Pr.tups {H H' : Hp} {v : V} {p : Int × Int} (h : Pr H v p) (s : TupS H H') : Pr H' v p:=let ⟨t,e,q⟩:=h; ⟨t,e,s _ _ rfl q⟩
noncomputable def Scr (K : PySem.W.Frag) (H : Hp) (a : Addr) (ns : List Int) : Prop :=
 (∃ o,H a = some (.frz o (.lst (ns.map V.int)))) ∨ ∃ (o : Obj) (its : Array Value) (n : Nat),K.lookup a = some o∧o.cls = .type "list"∧o.dict = none∧o.data = .seq its n∧its.size ≤ sizeLine∧Vals (ns.map V.int) its.toList
theorem Scr.sq {K : PySem.W.Frag} {H : Hp} {a : Addr} {ns : List Int} (h : Scr K H a ns) : SqL K H a (ns.map V.int):=h.elim (fun ⟨o,q⟩=>.inl (.inr ⟨o,q⟩)) .inr
theorem Scr.of {K : PySem.W.Frag} {H : Hp} {a : Addr} {ns : List Int} (h : SqL K H a (ns.map V.int)) (o : Only H) : Scr K H a ns:=by
 rcases h with (h | ⟨ob,h⟩) | h
 ·rcases o a with z | ⟨ob,xs,z⟩
  ·rw [h] at z; cases z
  ·rw [h] at z; cases z
 ·exact .inl ⟨ob,h⟩
 ·exact .inr h
theorem Scr.tups {K : PySem.W.Frag} {H H' : Hp} {a : Addr} {ns : List Int} (h : Scr K H a ns) (s : TupS H H') : Scr K H' a ns:=h.elim (fun ⟨o,q⟩=>.inl ⟨o,s _ _ rfl q⟩) .inr
noncomputable abbrev Prs (H : Hp) : List V→List (Int × Int)→Prop:=Paired (Pr H)
theorem Prs.tups {H H' : Hp} (s : TupS H H') {xs : List V} {ps : List (Int × Int)} (h : Prs H xs ps) : Prs H' xs ps:=Paired.mapP h fun _ _ q=>q.tups s
theorem Prs.same {H H' : Hp} (s : Same H H') {xs : List V} {ps : List (Int × Int)} (h : Prs H xs ps) : Prs H' xs ps:=Prs.tups s.tups h
theorem jad {α β : Type} {F : α→β→Prop} : ∀ {xs : List α} {ys : List β} {i : Nat} {x : α},Paired F xs ys→xs[i]? = some x→∃ y,ys[i]? = some y∧F x y
 | _,_,_,_,.nil,e=>by simp at e
 | _,_,0,_,.cons r _,e=>by simp at e; subst e; exact ⟨_,rfl,r⟩
 | _,_,i + 1,y,.cons _ t,e=>by
  obtain ⟨u,h1,h2⟩:=jad (i:=i) t (by simpa using e)
  exact ⟨u,by simpa using h1,h2⟩
theorem jbt {α β : Type} {F : α→β→Prop} : ∀ {xs : List α} {ys : List β} {i : Nat} {y : β},Paired F xs ys→ys[i]? = some y→∃ x,xs[i]? = some x∧F x y
 | _,_,_,_,.nil,e=>by simp at e
 | _,_,0,_,.cons r _,e=>by simp at e; subst e; exact ⟨_,rfl,r⟩
 | _,_,i + 1,y,.cons _ t,e=>by
  obtain ⟨u,h1,h2⟩:=jbt (i:=i) t (by simpa using e)
  exact ⟨u,by simpa using h1,h2⟩
theorem jaz {α β : Type} {F : α→β→Prop} {a : α} {b : β} {l₁ : List α} {l₂ : List β} (h : Paired F l₁ l₂) (r : F a b) : Paired F (l₁ ++ [a]) (l₂ ++ [b]):=Paired.snoc h r
theorem jjw {α : Type} {l : List α} {i : Nat} {x : α} (h : l[i]? = some x) : l.drop i = x :: l.drop (i + 1):=by
 obtain ⟨h1,h2⟩:=List.getElem?_eq_some_iff.mp h
 rw [List.drop_eq_getElem_cons h1,h2]
theorem jaq {α : Type} {l : List α} {i : Nat} {x : α} (h : l[i]? = some x) : l.take (i + 1) = l.take i ++ [x]:=by
 obtain ⟨h1,h2⟩:=List.getElem?_eq_some_iff.mp h
 rw [List.take_succ,h]
 rfl
inductive Dt where
 | non
 | bl (b : Bool)
 | int (i : Int)
 | str (x : Str)
 | tup (ds : List Dt)
 | lst (ds : List Dt)
mutual
noncomputable def Rep (H : Hp) : Dt→V→Prop
 | .non,v=>v = .non
 | .bl b,v=>v = .bl b
 | .int i,v=>v = .int i
 | .str x,v=>v = .str x
 | .tup ds,v=>∃ a vs,v = .ref a∧H a = some (.tup vs)∧Reps H ds vs
 | .lst ds,v=>∃ a vs,v = .ref a∧H a = some (.lst vs)∧Reps H ds vs
noncomputable def Reps (H : Hp) : List Dt→List V→Prop
 | [],vs=>vs = []
 | d :: ds,vs=>∃ v r,vs = v :: r∧Rep H d v∧Reps H ds r
end
mutual
theorem Rep.same {H H' : Hp} (s : Same H H') : ∀ (d : Dt) {v : V},Rep H d v→Rep H' d v
 | .non,_,h=>by rw [Rep] at *; exact h
 | .bl _,_,h=>by rw [Rep] at *; exact h
 | .int _,_,h=>by rw [Rep] at *; exact h
 | .str _,_,h=>by rw [Rep] at *; exact h
 | .tup ds,_,h=>by
  rw [Rep] at *
  obtain ⟨a,vs,e,q,r⟩:=h
  exact ⟨a,vs,e,s _ _ q,Reps.same s ds r⟩
 | .lst ds,_,h=>by
  rw [Rep] at *
  obtain ⟨a,vs,e,q,r⟩:=h
  exact ⟨a,vs,e,s _ _ q,Reps.same s ds r⟩
theorem Reps.same {H H' : Hp} (s : Same H H') : ∀ (ds : List Dt) {vs : List V},Reps H ds vs→Reps H' ds vs
 | [],_,h=>by rw [Reps] at *; exact h
 | d :: ds,_,h=>by
  rw [Reps] at *
  obtain ⟨v,r,e,h1,h2⟩:=h
  exact ⟨v,r,e,Rep.same s d h1,Reps.same s ds h2⟩
end
theorem Reps.len {H : Hp} : ∀ {ds : List Dt} {vs : List V},Reps H ds vs→vs.length = ds.length
 | [],_,h=>by rw [Reps] at h; subst h; rfl
 | d :: ds,_,h=>by
  rw [Reps] at h
  obtain ⟨v,r,e,h1,h2⟩:=h
  rw [e,List.length_cons,List.length_cons,Reps.len h2]
theorem Reps.at {H : Hp} : ∀ {ds : List Dt} {vs : List V} {i : Nat} {v : V},Reps H ds vs→vs[i]? = some v→∃ d,ds[i]? = some d∧Rep H d v
 | [],_,i,v,h,e=>by rw [Reps] at h; rw [h] at e; simp at e
 | d :: ds,_,i,v,h,e=>by
  rw [Reps] at h
  obtain ⟨w,r,e1,h1,h2⟩:=h
  subst e1
  cases i with
  | zero=>simp at e; subst e; exact ⟨d,rfl,h1⟩
  | succ i =>
   obtain ⟨d',q1,q2⟩:=Reps.at h2 (i:=i) (by simpa using e)
   exact ⟨d',by simpa using q1,q2⟩
noncomputable def jcn (p : Int × Int) : Dt:=.tup [.int p.1,.int p.2]
theorem Pr.rep {H : Hp} {v : V} {p : Int × Int} (h : Pr H v p) : Rep H (jcn p) v:=by
 obtain ⟨t,e,q⟩:=h
 rw [jcn,Rep]
 refine ⟨t,_,e,q,?_⟩
 rw [Reps]
 refine ⟨_,_,rfl,(by rw [Rep]),?_⟩
 rw [Reps]
 exact ⟨_,_,rfl,(by rw [Rep]),(by rw [Reps])⟩
theorem Prs.reps {H : Hp} : ∀ {xs : List V} {ps : List (Int × Int)},Prs H xs ps→Reps H (ps.map jcn) xs
 | _,_,.nil=>by rw [List.map_nil,Reps]
 | _,_,.cons r t=>by rw [List.map_cons,Reps]; exact ⟨_,_,rfl,r.rep,Prs.reps t⟩
end L2
namespace L2
open PySem PySem.Spec PyProof.Rows
noncomputable def fMax : List V→Hp→VK→Prop:=fun vs H Q=>match vs with
 | [.int i,.int j]=>Q (.int (if i < j then j else i)) H
 | _=>False
theorem q_max {X : Cx} (hc : X.calm = true) : jbo X (.builtin "max") fMax:=(jng hc).imp fun vs H Q h=>by
 unfold fMax at h
 split at h
 ·refine ⟨_,_,rfl,?_⟩
  first | exact h | (rename_i i j; by_cases c : i < j <;> simp_all)
 ·exact h.elim
noncomputable def fInL (neg : Bool) : R2:=fun x y H Q=>match y with
 | .ref p=>match jal H p with
  | some xs=>jd3 x = true∧xs.all jd3 = true∧Q (.bl (if neg = true then !inV x xs else inV x xs)) H
  | none=>False
 | _=>False
theorem jpx {K : PySem.W.Frag} {neg : Bool} {x y : V} {H : Hp} {Q : VK} (h : fInL neg x y H Q) : rIn K neg x y H Q:=by
 unfold fInL at h
 split at h
 ·split at h
  ·rename_i xs e
   obtain ⟨h1,h2,h3⟩:=h
   exact ⟨_,xs,rfl,je7 e,h1,h2,h3⟩
  ·exact h.elim
 ·exact h.elim
theorem jqm {X : Cx} : OpR X (compareOp .In) (fInL false):=jlz.imp fun _ _ _ _=>jpx
theorem jjb {X : Cx} : OpR X (compareOp .NotIn) (fInL true):=jgw.imp fun _ _ _ _=>jpx
theorem jn1 (ns : List Int) : (ns.map V.int).all jd3 = true:=by
 rw [List.all_eq_true]
 intro v hv
 obtain ⟨n,_,e⟩:=List.mem_map.mp hv
 rw [← e]
 rfl
theorem jjp (n : Int) (ns : List Int) : inV (.int n) (ns.map V.int) = decide (n ∈ ns):=by
 rw [Bool.eq_iff_iff,inV,List.any_eq_true,decide_eq_true_iff]
 constructor
 ·rintro ⟨v,hv,e⟩
  obtain ⟨m,hm,e2⟩:=List.mem_map.mp hv
  subst e2
  have : m = n:=by simpa [eqV] using e
  rw [← this]
  exact hm
 ·intro h
  exact ⟨.int n,List.mem_map_of_mem h,by simp [eqV]⟩
end L2
namespace L2
open PySem PySem.Spec PyProof.Rows
end L2
namespace L2
open PySem PySem.Spec PyProof.Rows
mutual
noncomputable def eqP : Dt→Dt→Bool
 | .non,.non=>true
 | .bl a,.bl b=>a == b
 | .bl a,.int b=>(if a then 1 else 0) == b
 | .int a,.bl b=>a == (if b then 1 else 0)
 | .int a,.int b=>a == b
 | .str a,.str b=>a == b
 | .tup a,.tup b=>eqPs a b
 | .lst a,.lst b=>eqPs a b
 | _,_=>false
noncomputable def eqPs : List Dt→List Dt→Bool
 | [],[]=>true
 | a :: r,b :: t=>eqP a b && eqPs r t
 | _,_=>false
end
mutual
noncomputable def depP : Dt→Nat
 | .tup a=>jd4 a + 1
 | .lst a=>jd4 a + 1
 | _=>0
noncomputable def jd4 : List Dt→Nat
 | []=>0
 | a :: r=>max (depP a) (jd4 r)
end
noncomputable def jfa (a b : List Dt) (j : Nat) : Bool:=match a[j]?,b[j]? with
 | some x,some y=>eqP x y
 | _,_=>false
theorem jdo : ∀ {a b : List Dt},a.length ≠ b.length→eqPs a b = false
 | [],[],h=>absurd rfl h
 | [],_ :: _,_=>by simp [eqPs]
 | _ :: _,[],_=>by simp [eqPs]
 | x :: a,y :: b,h=>by
  rw [eqPs,jdo (by simpa using h),Bool.and_false]
theorem jlk : ∀ (n : Nat) (f : Nat→Bool),(List.range (n + 1)).all f = (f 0 && (List.range n).all fun j=>f (j + 1)):=fun n f=>by
 rw [List.range_succ_eq_map,List.all_cons,List.all_map]
 rfl
theorem jce : ∀ {a b : List Dt},a.length = b.length→eqPs a b = (List.range a.length).all (jfa a b)
 | [],[],_=>by rw [eqPs]; rfl
 | [],_ :: _,h=>by simp at h
 | _ :: _,[],h=>by simp at h
 | x :: a,y :: b,h=>by
  rw [eqPs,jce (a:=a) (b:=b) (by simpa using h),List.length_cons,jlk]
  rfl
theorem jgg : ∀ {a : List Dt} {j : Nat} {d : Dt},a[j]? = some d→depP d ≤ jd4 a
 | [],_,_,h=>by simp at h
 | x :: a,0,d,h=>by
  simp at h; subst h
  rw [jd4]; omega
 | x :: a,j + 1,d,h=>by
  have:=jgg (a:=a) (j:=j) (by simpa using h)
  rw [jd4]; omega
noncomputable def jc3 : Dt→Option V
 | .non=>some .non
 | .bl b=>some (.bl b)
 | .int i=>some (.int i)
 | .str x=>some (.str x)
 | _=>none
theorem jor {d e : Dt} {x y : V} (hd : jc3 d = some x) (he : jc3 e = some y) : eqP d e = eqV x y:=by
 cases d <;> cases e <;> simp only [jc3,Option.some.injEq,reduceCtorEq] at hd he <;> subst hd <;> subst he <;> simp [eqP,eqV]
theorem rep_flat {H : Hp} {d : Dt} {x v : V} (hd : jc3 d = some x) (h : Rep H d v) : v = x∧jd3 x = true:=by
 cases d <;> simp only [jc3,Option.some.injEq,reduceCtorEq] at hd <;> subst hd <;> rw [Rep] at h <;> exact ⟨h,rfl⟩
section
variable {X : Cx} {pins : List (Addr × Obj)} {σ : St} {H : Hp} {s : Shared}
theorem Inv.tupE (I : Inv X pins σ H s) {a : Addr} {vs : List V} (e : H a = some (.tup vs)) : ∃ its : List Value,Vals vs its∧s.heap.IsTuple a its.toArray:=by
 obtain ⟨its,r,p,_⟩:=I.tuple (SqT.of e)
 exact ⟨its,r,p⟩
theorem Inv.lstE (I : Inv X pins σ H s) {a : Addr} {vs : List V} (e : H a = some (.lst vs)) : ∃ its : List Value,Vals vs its∧s.heap.IsList a its.toArray:=by
 obtain ⟨its,r,p,_⟩:=I.list (SqL.of e)
 exact ⟨its,r,p.isList⟩
mutual
theorem jgf : ∀ d : Dt,eqP d d = true
 | .non=>by simp [eqP]
 | .bl _=>by simp [eqP]
 | .int _=>by simp [eqP]
 | .str _=>by simp [eqP]
 | .tup a=>by rw [eqP]; exact jf9 a
 | .lst a=>by rw [eqP]; exact jf9 a
theorem jf9 : ∀ a : List Dt,eqPs a a = true
 | []=>by rw [eqPs]
 | d :: r=>by rw [eqPs,jgf d,jf9 r]; rfl
end
mutual
theorem Rep.inj {H : Hp} : ∀ {d e : Dt} {v : V},Rep H d v→Rep H e v→d = e
 | .non,e,v,h1,h2=>by rw [Rep] at h1; subst h1; cases e <;> simp [Rep] at h2 ⊢
 | .bl _,e,v,h1,h2=>by rw [Rep] at h1; subst h1; cases e <;> simp [Rep] at h2 ⊢; exact h2
 | .int _,e,v,h1,h2=>by rw [Rep] at h1; subst h1; cases e <;> simp [Rep] at h2 ⊢; exact h2
 | .str _,e,v,h1,h2=>by rw [Rep] at h1; subst h1; cases e <;> simp [Rep] at h2 ⊢; exact h2
 | .tup ds,e,v,h1,h2=>by
  rw [Rep] at h1
  obtain ⟨a,vs,rfl,q,r⟩:=h1
  cases e with
  | tup es =>
   rw [Rep] at h2
   obtain ⟨a',vs',e',q',r'⟩:=h2
   cases e'
   rw [q] at q'; cases q'
   rw [Reps.inj r r']
  | lst es =>
   rw [Rep] at h2
   obtain ⟨a',vs',e',q',r'⟩:=h2
   cases e'
   rw [q] at q'; cases q'
  | non=>rw [Rep] at h2; cases h2
  | bl _=>rw [Rep] at h2; cases h2
  | int _=>rw [Rep] at h2; cases h2
  | str _=>rw [Rep] at h2; cases h2
 | .lst ds,e,v,h1,h2=>by
  rw [Rep] at h1
  obtain ⟨a,vs,rfl,q,r⟩:=h1
  cases e with
  | lst es =>
   rw [Rep] at h2
   obtain ⟨a',vs',e',q',r'⟩:=h2
   cases e'
   rw [q] at q'; cases q'
   rw [Reps.inj r r']
  | tup es =>
   rw [Rep] at h2
   obtain ⟨a',vs',e',q',r'⟩:=h2
   cases e'
   rw [q] at q'; cases q'
  | non=>rw [Rep] at h2; cases h2
  | bl _=>rw [Rep] at h2; cases h2
  | int _=>rw [Rep] at h2; cases h2
  | str _=>rw [Rep] at h2; cases h2
theorem Reps.inj {H : Hp} : ∀ {ds es : List Dt} {vs : List V},Reps H ds vs→Reps H es vs→ds = es
 | [],es,vs,h1,h2=>by
  rw [Reps] at h1; subst h1
  cases es with
  | nil=>rfl
  | cons e es=>rw [Reps] at h2; obtain ⟨_,_,z,_⟩:=h2; cases z
 | d :: ds,es,vs,h1,h2=>by
  rw [Reps] at h1
  obtain ⟨v,r,rfl,q1,q2⟩:=h1
  cases es with
  | nil=>rw [Reps] at h2; cases h2
  | cons e es =>
   rw [Reps] at h2
   obtain ⟨v',r',z,p1,p2⟩:=h2
   cases z
   rw [Rep.inj q1 p1,Reps.inj q2 p2]
end
theorem je2 {d e : Dt} (hd : jc3 d = none) {y : V} (he : jc3 e = some y) : eqP d e = false∧eqP e d = false:=by
 cases d <;> cases e <;> simp only [jc3,Option.some.injEq,reduceCtorEq] at hd he <;> simp [eqP]
theorem eqAt_D : ∀ (n : Nat) {A : Around} (I : Inv X pins σ H s) {d e : Dt} {x y : V} {u v : Value},depP d ≤ n→A.units + n < cLine→Rep H d x→Rep H e y→RelV x u→RelV y v→SeqAt.EqAt A s u v (eqP d e):=by
 intro n
 induction n with
 | zero =>
  intro A I d e x y u v hn hu rd re rx ry
  have hf : ∃ z,jc3 d = some z:=by
   cases d <;> simp only [depP,jc3] at hn ⊢ <;> first | exact ⟨_,rfl⟩ | omega
  obtain ⟨z,hz⟩:=hf
  obtain ⟨rfl,fz⟩:=rep_flat hz rd
  cases he : jc3 e with
  | some y' =>
   obtain ⟨rfl,fy⟩:=rep_flat he re
   rw [jor hz he]
   exact jq0 rx ry fz fy
  | none =>
   rw [(je2 he hz).2]
   have hu0 : A.units < cLine:=by omega
   cases e <;> simp only [jc3,reduceCtorEq] at he
   ·rw [Rep] at re
    obtain ⟨a,vs,rfl,q,_⟩:=re
    cases ry
    obtain ⟨its,_,p⟩:=I.tupE q
    cases d <;> simp only [jc3,Option.some.injEq,reduceCtorEq] at hz <;> subst hz
    ·cases rx; exact SeqAt.EqAt.none_tuple p hu0
    ·cases rx; exact SeqAt.EqAt.bool_tuple _ p hu0
    ·obtain ⟨t,rfl⟩:=rx; exact SeqAt.EqAt.int_tuple _ _ p hu0
    ·obtain ⟨t,rfl⟩:=rx; exact SeqAt.EqAt.str_tuple _ _ p hu0
   ·rw [Rep] at re
    obtain ⟨a,vs,rfl,q,_⟩:=re
    cases ry
    obtain ⟨its,_,p⟩:=I.lstE q
    cases d <;> simp only [jc3,Option.some.injEq,reduceCtorEq] at hz <;> subst hz
    ·cases rx; exact SeqAt.EqAt.none_list p hu0
    ·cases rx; exact SeqAt.EqAt.bool_list _ p hu0
    ·obtain ⟨t,rfl⟩:=rx; exact SeqAt.EqAt.int_list _ _ p hu0
    ·obtain ⟨t,rfl⟩:=rx; exact SeqAt.EqAt.str_list _ _ p hu0
 | succ n ih =>
  intro A I d e x y u v hn hu rd re rx ry
  have hu0 : A.units < cLine:=by omega
  have items : ∀ {ds es : List Dt} {vs ws : List V} {its its2 : List Value},jd4 ds ≤ n→Reps H ds vs→Reps H es ws→Vals vs its→Vals ws its2 →
    ∀ j (h1 : j < its.toArray.size) (h2 : j < its2.toArray.size),SeqAt.EqAt A.in1 s its.toArray[j] its2.toArray[j] (jfa ds es j):=by
   intro ds es vs ws its its2 hdp r1 r2 w1 w2 j h1 h2
   rw [List.size_toArray] at h1 h2
   have l1:=w1.length
   have l2:=w2.length
   obtain ⟨u',e1,q1⟩:=w1.get (i:=j) (x:=vs[j]'(by omega)) (List.getElem?_eq_getElem _)
   obtain ⟨v',e2,q2⟩:=w2.get (i:=j) (x:=ws[j]'(by omega)) (List.getElem?_eq_getElem _)
   obtain ⟨d',f1,g1⟩:=r1.at (i:=j) (List.getElem?_eq_getElem (by omega))
   obtain ⟨e',f2,g2⟩:=r2.at (i:=j) (List.getElem?_eq_getElem (by omega))
   rw [List.getElem?_eq_getElem h1] at e1
   rw [List.getElem?_eq_getElem h2] at e2
   cases e1; cases e2
   have hj : jfa ds es j = eqP d' e':=by unfold jfa; rw [f1,f2]
   rw [hj]
   have:=jgg f1
   exact ih (A:=A.in1) I (by omega) (by show A.units + 1 + n < cLine; omega) g1 g2 q1 q2
  cases hf : jc3 d with
  | some z =>
   refine ih I ?_ (by omega) rd re rx ry
   cases d <;> simp only [jc3,reduceCtorEq] at hf <;> simp [depP]
  | none =>
   cases he : jc3 e with
   | some y' =>
    rw [(je2 hf he).1]
    obtain ⟨rfl,fy⟩:=rep_flat he re
    cases d <;> simp only [jc3,reduceCtorEq] at hf
    ·rw [Rep] at rd
     obtain ⟨a,vs,rfl,q,_⟩:=rd
     cases rx
     obtain ⟨its,_,p⟩:=I.tupE q
     cases e <;> simp only [jc3,Option.some.injEq,reduceCtorEq] at he <;> subst he
     ·cases ry; exact SeqAt.EqAt.tuple_none p hu0
     ·cases ry; exact SeqAt.EqAt.tuple_bool _ p hu0
     ·obtain ⟨t,rfl⟩:=ry; exact SeqAt.EqAt.tuple_int _ _ p hu0
     ·obtain ⟨t,rfl⟩:=ry; exact SeqAt.EqAt.tuple_str _ _ p hu0
    ·rw [Rep] at rd
     obtain ⟨a,vs,rfl,q,_⟩:=rd
     cases rx
     obtain ⟨its,_,p⟩:=I.lstE q
     cases e <;> simp only [jc3,Option.some.injEq,reduceCtorEq] at he <;> subst he
     ·cases ry; exact SeqAt.EqAt.list_none p hu0
     ·cases ry; exact SeqAt.EqAt.list_bool _ p hu0
     ·obtain ⟨t,rfl⟩:=ry; exact SeqAt.EqAt.list_int _ _ p hu0
     ·obtain ⟨t,rfl⟩:=ry; exact SeqAt.EqAt.list_str _ _ p hu0
   | none =>
    cases d <;> simp only [jc3,reduceCtorEq] at hf <;> cases e <;> simp only [jc3,reduceCtorEq] at he
    ·rename_i ds es
     have hn' : jd4 ds ≤ n:=by rw [depP] at hn; omega
     have rd0:=rd
     have re0:=re
     rw [Rep] at rd
     rw [Rep] at re
     obtain ⟨a,vs,rfl,q,r1⟩:=rd
     obtain ⟨b,ws,rfl,q2,r2⟩:=re
     cases rx; cases ry
     by_cases hab : a = b
     ·subst hab
      rw [Rep.inj rd0 re0,jgf]
      exact SeqAt.EqAt.same _
     ·obtain ⟨its,w1,p1⟩:=I.tupE q
      obtain ⟨its2,w2,p2⟩:=I.tupE q2
      have k:=SeqAt.RcAt.tuples p1 p2 hu0 (items hn' r1 r2 w1 w2)
      have e0 : ((List.range (min its.toArray.size its2.toArray.size)).all (jfa ds es) && its.toArray.size == its2.toArray.size) = eqP (.tup ds) (.tup es):=by
       have l1:=w1.length
       have l2:=w2.length
       have l3:=r1.len
       have l4:=r2.len
       rw [eqP,List.size_toArray,List.size_toArray]
       by_cases hl : ds.length = es.length
       ·rw [jce hl,← l1,← l2,l3,l4,hl,Nat.min_self]
        simp
       ·rw [jdo hl]
        have : (its.length == its2.length) = false:=by
         rw [beq_eq_false_iff_ne]; omega
        rw [this,Bool.and_false]
      rw [e0] at k
      exact .of_refs hab k
    ·rename_i ds es
     rw [Rep] at rd
     rw [Rep] at re
     obtain ⟨a,vs,rfl,q,r1⟩:=rd
     obtain ⟨b,ws,rfl,q2,r2⟩:=re
     cases rx; cases ry
     obtain ⟨its,w1,p1⟩:=I.tupE q
     obtain ⟨its2,w2,p2⟩:=I.lstE q2
     have : eqP (.tup ds) (.lst es) = false:=by simp [eqP]
     rw [this]
     exact SeqAt.EqAt.tuple_list p1 p2 hu0
    ·rename_i ds es
     rw [Rep] at rd
     rw [Rep] at re
     obtain ⟨a,vs,rfl,q,r1⟩:=rd
     obtain ⟨b,ws,rfl,q2,r2⟩:=re
     cases rx; cases ry
     obtain ⟨its,w1,p1⟩:=I.lstE q
     obtain ⟨its2,w2,p2⟩:=I.tupE q2
     have : eqP (.lst ds) (.tup es) = false:=by simp [eqP]
     rw [this]
     exact SeqAt.EqAt.list_tuple p1 p2 hu0
    ·rename_i ds es
     have hn' : jd4 ds ≤ n:=by rw [depP] at hn; omega
     have rd0:=rd
     have re0:=re
     rw [Rep] at rd
     rw [Rep] at re
     obtain ⟨a,vs,rfl,q,r1⟩:=rd
     obtain ⟨b,ws,rfl,q2,r2⟩:=re
     cases rx; cases ry
     by_cases hab : a = b
     ·subst hab
      rw [Rep.inj rd0 re0,jgf]
      exact SeqAt.EqAt.same _
     ·obtain ⟨its,w1,p1⟩:=I.lstE q
      obtain ⟨its2,w2,p2⟩:=I.lstE q2
      have l1:=w1.length
      have l2:=w2.length
      have l3:=r1.len
      have l4:=r2.len
      refine .of_refs hab ?_
      rw [eqP]
      by_cases hl : ds.length = es.length
      ·rw [jce hl]
       have k:=SeqAt.RcAt.lists p1 p2 (by rw [List.size_toArray,List.size_toArray]; omega) hu0 (items hn' r1 r2 w1 w2)
       rw [List.size_toArray,← l1,l3] at k
       exact k
      ·rw [jdo hl]
       exact SeqAt.RcAt.lists_lengths p1 p2 (by rw [List.size_toArray,List.size_toArray]; simp; omega) hu0
end
end L2
namespace L2
open PySem PySem.Spec PyProof.Rows
section
variable {prog : Program} {w : World} {A : Around} {R : Result→Shared→Prop} {I : Addr} {fp wr : List Addr} {n : Nat} {P : Nat→Value→Prop} {St : Nat→Heap→Prop}
noncomputable def Best (val : Nat→Int) (n : Nat) (m : Int) : Prop:=(∃ i,i < n∧m = val i)∧∀ i,i < n→val i ≤ m
theorem Best.keep {val : Nat→Int} {j : Nat} {m : Int} (h : Best val j m) (hb : ¬ val j > m) : Best val (j + 1) m :=
 ⟨let ⟨i,hi,e⟩:=h.1; ⟨i,Nat.lt_succ_of_lt hi,e⟩,fun i hi=>by
  rcases Nat.lt_succ_iff_lt_or_eq.mp hi with z | z
  ·exact h.2 i z
  ·rw [z]; omega⟩
end
section
variable {X : Cx}
noncomputable def tCBK (r : List V→List V→Hp→VK→Prop) (t tk : TA) : TE:=fun σ H Q=>t σ H fun vs H1=>tk σ H1 fun zs H2=>r vs zs H2 Q
end
end L2
namespace L2
open PySem PySem.Spec PyProof.Rows
section
variable {X : Cx} {pins : List (Addr × Obj)} {σ : St} {H : Hp} {s : Shared}
theorem jmp (n : Nat) {A : Around} (I : Inv X pins σ H s) {ds es : List Dt} {vs ws : List V} {its its2 : List Value} (hdp : jd4 ds ≤ n) (hu : A.units + n < cLine) (r1 : Reps H ds vs) (r2 : Reps H es ws) (w1 : Vals vs its) (w2 : Vals ws its2) :
  ∀ j (h1 : j < its.toArray.size) (h2 : j < its2.toArray.size),SeqAt.EqAt A s its.toArray[j] its2.toArray[j] (jfa ds es j):=by
 intro j h1 h2
 rw [List.size_toArray] at h1 h2
 have l1:=w1.length
 have l2:=w2.length
 obtain ⟨u',e1,q1⟩:=w1.get (i:=j) (x:=vs[j]'(by omega)) (List.getElem?_eq_getElem _)
 obtain ⟨v',e2,q2⟩:=w2.get (i:=j) (x:=ws[j]'(by omega)) (List.getElem?_eq_getElem _)
 obtain ⟨d',f1,g1⟩:=r1.at (i:=j) (List.getElem?_eq_getElem (by omega))
 obtain ⟨e',f2,g2⟩:=r2.at (i:=j) (List.getElem?_eq_getElem (by omega))
 rw [List.getElem?_eq_getElem h1] at e1
 rw [List.getElem?_eq_getElem h2] at e2
 cases e1; cases e2
 have hj : jfa ds es j = eqP d' e':=by unfold jfa; rw [f1,f2]
 rw [hj]
 have:=jgg f1
 exact eqAt_D n I (by omega) hu g1 g2 q1 q2
theorem jk3 {ds es : List Dt} {vs ws : List V} {its its2 : List Value} (r1 : Reps H ds vs) (r2 : Reps H es ws) (w1 : Vals vs its) (w2 : Vals ws its2) :
  ((List.range (min its.toArray.size its2.toArray.size)).all (jfa ds es) && its.toArray.size == its2.toArray.size) = eqPs ds es:=by
 have l1:=w1.length
 have l2:=w2.length
 have l3:=r1.len
 have l4:=r2.len
 rw [List.size_toArray,List.size_toArray]
 by_cases hl : ds.length = es.length
 ·rw [jce hl,← l1,← l2,l3,l4,hl,Nat.min_self]
  simp
 ·rw [jdo hl]
  have : (its.length == its2.length) = false:=by
   rw [beq_eq_false_iff_ne]; omega
  rw [this,Bool.and_false]
noncomputable def rEqD (neg : Bool) : R2:=fun x y H Q=>∃ d e,Rep H d x∧Rep H e y∧depP d ≤ 20∧((∃ ds es,d = .lst ds∧e = .lst es) ∨ ∃ ds es,d = .tup ds∧e = .tup es)∧Q (.bl (if neg = true then !eqP d e else eqP d e)) H
theorem op_neD (hu : X.A.units + 64 < cLine) : OpR X (compareOp .NotEq) (rEqD true):=by
 intro pins s σ H x y v u Q I rx ry h
 obtain ⟨d,e,rd,re,hd,hk,q⟩:=h
 have hu0 : X.A.units < cLine:=by omega
 rcases hk with ⟨ds,es,rfl,rfl⟩ | ⟨ds,es,rfl,rfl⟩
 ·have hn' : jd4 ds ≤ 20:=by rw [depP] at hd; omega
  rw [Rep] at rd re
  obtain ⟨a,vs,rfl,q1,r1⟩:=rd
  obtain ⟨b,ws,rfl,q2,r2⟩:=re
  cases rx; cases ry
  obtain ⟨its,w1,p1⟩:=I.lstE q1
  obtain ⟨its2,w2,p2⟩:=I.lstE q2
  have l1:=w1.length
  have l2:=w2.length
  have l3:=r1.len
  have l4:=r2.len
  by_cases hl : ds.length = es.length
  ·refine SeqAt.RcNeAt.lists (e:=jfa ds es) p1 p2 (by rw [List.size_toArray,List.size_toArray]; omega) hu0 (jmp 20 I hn' (by show X.A.units + 1 + 20 < cLine; omega) r1 r2 w1 w2) _ _ _ _ ⟨.bl _,H,I,rfl,?_⟩
   rw [List.size_toArray,← l1,l3,← jce hl]
   rw [eqP] at q
   exact q
  ·refine SeqAt.RcNeAt.lists_lengths p1 p2 (by rw [List.size_toArray,List.size_toArray]; simp; omega) hu0 _ _ _ _ ⟨.bl _,H,I,rfl,?_⟩
   rw [eqP,jdo hl] at q
   exact q
 ·have hn' : jd4 ds ≤ 20:=by rw [depP] at hd; omega
  rw [Rep] at rd re
  obtain ⟨a,vs,rfl,q1,r1⟩:=rd
  obtain ⟨b,ws,rfl,q2,r2⟩:=re
  cases rx; cases ry
  obtain ⟨its,w1,p1⟩:=I.tupE q1
  obtain ⟨its2,w2,p2⟩:=I.tupE q2
  refine SeqAt.RcNeAt.tuples (e:=jfa ds es) p1 p2 hu0 (jmp 20 I hn' (by show X.A.units + 1 + 20 < cLine; omega) r1 r2 w1 w2) _ _ _ _ ⟨.bl _,H,I,rfl,?_⟩
  rw [jk3 r1 r2 w1 w2]
  rw [eqP] at q
  exact q
end
end L2
namespace L2
open PySem PySem.Spec PyProof.Rows
section
variable {X : Cx} {o i e f value : Expr} {td ty tv tx : TE} {pos pos' apos cpos : Pos}
noncomputable def jpk (td ty tv : TE) : TS:=fun D σ H=>tv σ H fun v H1=>td σ H1 fun x H2=>ty σ H2 fun y H3=>match x,y with
 | .ref a,.int n=>match H3 a with
  | some (.dK kvs)=>kvs.length < sizeLine∧D.nx σ (upd H3 a (.dK (putK kvs (Sum.inl n : Key) v)))
  | _=>False
 | _,_=>False
noncomputable def jpy (td ty tx : TE) : TE:=fun σ H Q=>td σ H fun x H1=>match x with
 | .ref a=>(∃ kvs,H1 a = some (.dK kvs))∧ty σ H1 fun y H2=>tx σ H2 fun z H3=>match y with
  | .int n=>match H3 a with
   | some (.dK kvs)=>Q ((valV kvs (Sum.inl n : Key)).getD z) H3
   | _=>False
  | _=>False
 | _=>False
noncomputable def fCat : R2:=fun x y H Q=>match x,y with
 | .ref l,.ref b=>match H l,H b with
  | some (.lst xs),some (.lst zs)=>xs.length + zs.length ≤ sizeLine∧∀ p,H p = none→Q (.ref p) (upd H p (.lst (xs ++ zs)))
  | _,_=>False
 | _,_=>False
theorem jhx : OpR X (binaryOp .Add) fCat:=op_cat.imp fun x y H Q h=>by
 unfold fCat at h
 split at h
 ·split at h
  ·rename_i e1 e2; exact ⟨_,_,_,_,rfl,rfl,e1,e2,h.1,h.2⟩
  ·exact h.elim
 ·exact h.elim
noncomputable def jjt : V→List V→Hp→VK→Prop:=fun x vs H Q=>match x,vs with
 | .ref l,[]=>match H l with
  | some (.lst _)=>Q .non (upd H l (.lst []))
  | _=>False
 | _,_=>False
theorem jqn : MtR X "list.clear" jjt:=MtR.imp (r:=jpm) (fun pins s σ H x xs v us Q I rx rv q=>jof pins s σ H x xs v us Q I rx rv q) fun x vs H Q h=>by
 unfold jjt at h
 split at h
 ·split at h
  ·rename_i xs e; exact ⟨_,xs,rfl,rfl,e,h⟩
  ·exact h.elim
 ·exact h.elim
noncomputable def fBM0 (r : V→List V→Hp→VK→Prop) (to : TE) : TE:=fun σ H Q=>to σ H fun x H1=>(∃ a xs,x = .ref a∧H1 a = some (.lst xs))∧r x [] H1 Q
theorem q_bm0 {to : TE} {name : Str} {id : String} {r : V→List V→Hp→VK→Prop} (pa : PlainAttrs "list") (slot : Slot "list" name id) (hty : typeOf (.builtin id) = pure (.type "method_descriptor")) (hm : MtR X id r) (ho : PE X o to)
  (hbase : attributeBase o name X.env (eval o X.env) = eval o X.env:=by rfl) (hline : (apos.endLine == cpos.line) = true:=by rfl) : PE X (.Call (.Attribute o name apos) [] [] cpos) (fBM0 r to):=by
 intro pins s σ H Q I h
 refine wpAny_Call_method0_late hbase hline (thn (ho pins s σ H _ I h) fun v s1 ⟨x,H1,I1,r1,⟨a,xs,ex,ea⟩,q1⟩=>?_)
 subst ex
 obtain ⟨h1,h2⟩:=jp9 (T:="list") I1 r1 (.inl ⟨rfl,_,SqL.of ea⟩)
 exact ⟨"list",id,pa,slot,hty,h1,h2,Calls.callWith_builtin rfl (PySem.evalArgs_none (hm pins s1 σ H1 _ [] v [] Q I1 r1 .nil q1))⟩
noncomputable def fSlT : V→Option Int→Option Int→Hp→VK→Prop:=fun x lo hi H Q=>match x with
 | .ref a=>match H a with
  | some (.tup xs)=>¬ (HT.sIx xs.length 0 lo = 0∧HT.sIx xs.length xs.length hi = xs.length)∧∀ p,H p = none→Q (.ref p) (upd H p (.tup (cutV xs lo hi)))
  | _=>False
 | _=>False
noncomputable def jop : List V→Hp→VK→Prop:=fun vs H Q=>match vs with
 | [.bl k]=>Q (.int (if k = true then 1 else 0)) H
 | [.int i]=>Q (.int i) H
 | _=>False
theorem q_int1 : jbo X (.type "int") jop:=jnh.imp fun vs H Q h=>by
 unfold jop at h
 split at h
 ·exact .inr ⟨_,rfl,h⟩
 ·exact .inl ⟨_,rfl,h⟩
 ·exact h.elim
end
end L2
namespace L2
open PySem PySem.Spec PyProof.Rows
section
variable {prog : Program} {w : World} {A : Around} {E : Value→Shared→Prop}
end
section
variable {X : Cx} {es : List Expr} {pos : Pos}
noncomputable def fGLst (n : Nat) (t : TGs) : TG:=fun v σ H Q=>match v with
 | .ref a=>match H a with
  | some (.lst xs)=>xs.length = n∧t xs σ H Q
  | _=>False
 | _=>False
end
end L2
namespace So
open PySem PyProof.Rows
noncomputable def kv (R : Keyed→Int) (xs : Array Keyed) (i : Nat) : Int:=(xs[i]?.map R).getD 0
theorem jfo {R : Keyed→Int} {xs ys : Array Keyed} {i j : Nat} (h : xs[i]? = ys[j]?) : kv R xs i = kv R ys j:=by unfold kv; rw [h]
theorem kv_at {R : Keyed→Int} {xs : Array Keyed} {i : Nat} {x : Keyed} (h : xs[i]? = some x) : kv R xs i = R x:=by unfold kv; rw [h]; rfl
noncomputable def Up (R : Keyed→Int) (xs : Array Keyed) (a b : Nat) : Prop:=∀ i j,a ≤ i→i ≤ j→j < b→kv R xs i ≤ kv R xs j
noncomputable def Dn (R : Keyed→Int) (xs : Array Keyed) (a b : Nat) : Prop:=∀ i j,a ≤ i→i ≤ j→j < b→kv R xs j ≤ kv R xs i
noncomputable def Fore (lo : Nat) (xs ys : Array Keyed) : Prop:=∀ i,i < lo→ys[i]? = xs[i]?
theorem Fore.rfl' {lo : Nat} {xs : Array Keyed} : Fore lo xs xs:=fun _ _=>rfl
theorem Fore.tr {lo : Nat} {xs ys zs : Array Keyed} (a : Fore lo xs ys) (b : Fore lo ys zs) : Fore lo xs zs:=fun i h=>(b i h).trans (a i h)
theorem Up.one {R : Keyed→Int} {xs : Array Keyed} {a b : Nat} (h : b ≤ a + 1) : Up R xs a b:=fun i j h1 h2 h3=>by
 have e : i = j:=by omega
 rw [e]; exact Int.le_refl _
theorem Up.grow {R : Keyed→Int} {xs : Array Keyed} {a b : Nat} (h : Up R xs a b) (h2 : a < b) (hl : kv R xs (b - 1) ≤ kv R xs b) : Up R xs a (b + 1):=fun i j h3 h4 h5=>by
 by_cases hj : j < b
 ·exact h i j h3 h4 hj
 ·have e : j = b:=by omega
  rw [e] at h4 ⊢
  by_cases hi : i = b
  ·rw [hi]; exact Int.le_refl _
  ·exact Int.le_trans (h i (b - 1) h3 (by omega) (by omega)) hl
theorem Dn.grow {R : Keyed→Int} {xs : Array Keyed} {a b : Nat} (h : Dn R xs a b) (h2 : a < b) (hl : kv R xs b ≤ kv R xs (b - 1)) : Dn R xs a (b + 1):=fun i j h3 h4 h5=>by
 by_cases hj : j < b
 ·exact h i j h3 h4 hj
 ·have e : j = b:=by omega
  rw [e] at h4 ⊢
  by_cases hi : i = b
  ·rw [hi]; exact Int.le_refl _
  ·exact Int.le_trans hl (h i (b - 1) h3 (by omega) (by omega))
theorem Dn.like {R : Keyed→Int} {xs ys : Array Keyed} {a b : Nat} (h : Dn R xs a b) (e : ∀ k,kv R ys k = kv R xs k) : Dn R ys a b:=fun i j h1 h2 h3=>by rw [e,e]; exact h i j h1 h2 h3
theorem jid {R : Keyed→Int} {xs : Array Keyed} {i j : Nat} (hj : j ≤ xs.size) (k : Nat) :
  kv R (mirror xs i j ((j - i) / 2)) k = if i ≤ k∧k < j then kv R xs (i + j - 1 - k) else kv R xs k:=by
 have e:=getElem?_mirror_all (i:=i) hj k
 by_cases c : i ≤ k∧k < j
 ·rw [if_pos c] at e ⊢; exact jfo e
 ·rw [if_neg c] at e ⊢; exact jfo e
theorem jcq {R : Keyed→Int} {xs : Array Keyed} {i j : Nat} (hj : j ≤ xs.size) (q : ∀ k,i ≤ k→k < j→kv R xs k = kv R xs (j - 1)) (k : Nat) :
  kv R (mirror xs i j ((j - i) / 2)) k = kv R xs k:=by
 rw [jid hj]
 split
 ·rename_i c; rw [q _ (by omega) (by omega),q k c.1 c.2]
 ·rfl
theorem jdm {lo : Nat} {xs : Array Keyed} {i j : Nat} (hj : j ≤ xs.size) (hi : lo ≤ i) : Fore lo xs (mirror xs i j ((j - i) / 2)):=fun k hk=>by
 rw [getElem?_mirror_all hj,if_neg (by omega)]
theorem jmg {R : Keyed→Int} {xs : Array Keyed} {src d : Nat} (hs : src < xs.size) (hd : d ≤ src) (k : Nat) :
  kv R (bubble xs src d) k = if k = src - d then kv R xs src else if src - d < k∧k ≤ src then kv R xs (k - 1) else kv R xs k:=by
 have e:=getElem?_bubble hs d hd k
 by_cases c : k = src - d
 ·rw [if_pos c] at e ⊢; exact jfo e
 ·rw [if_neg c] at e ⊢
  by_cases c2 : src - d < k∧k ≤ src
  ·rw [if_pos c2] at e ⊢; exact jfo e
  ·rw [if_neg c2] at e ⊢; exact jfo e
theorem jmz {lo : Nat} {xs : Array Keyed} {src d : Nat} (hs : src < xs.size) (hd : lo + d ≤ src) : Fore lo xs (bubble xs src d):=fun k hk=>by
 rw [getElem?_bubble hs d (by omega),if_neg (by omega),if_neg (by omega)]
structure Bs (κ : SortKind) (a₀ : Array Keyed) (pd : Array (Nat × Nat × Nat)) (st : SortSt) : Prop where
 perm : (arrOf st).Perm a₀
 kind : kindOf st = κ
 ok : failedOf st = none
 pend : pendingOf st = pd
section
variable {prog : Program} {w : World} {A : Around} {E : Value→Shared→Prop} {s : Shared} {R : Keyed→Int} {κ : SortKind} {a₀ : Array Keyed} {pd : Array (Nat × Nat × Nat)}
theorem Bs.size {st : SortSt} (b : Bs κ a₀ pd st) : (arrOf st).size = a₀.size:=b.perm.size_eq
theorem Bs.put {st : SortSt} (b : Bs κ a₀ pd st) {xs : Array Keyed} (p : xs.Perm (arrOf st)) : Bs κ a₀ pd (setArr st xs):=⟨p.trans b.perm,b.kind,b.ok,b.pend⟩
theorem Bs.get {st : SortSt} (b : Bs κ a₀ pd st) {i : Nat} (hi : i < a₀.size) : ∃ x,(arrOf st)[i]? = some x∧x ∈ a₀.toList:=by
 have h1 : i < (arrOf st).size:=by rw [b.size]; exact hi
 exact ⟨(arrOf st)[i],getElem?_pos _ i h1,(Array.perm_iff_toList_perm.mp b.perm).mem_iff.mp (by simp)⟩
noncomputable def Cm (prog : Program) (w : World) (A : Around) (s : Shared) (R : Keyed→Int) (κ : SortKind) (a₀ : Array Keyed) : Prop :=
 ∀ x y,x ∈ a₀.toList→y ∈ a₀.toList→∀ (Q : Bool→Shared→Prop) (E : Value→Shared→Prop),Q (decide (R x < R y)) s→wpAny (model prog w) A (keyLt' κ x.1 y.1) Q E s
theorem w_lt (C : Cm prog w A s R κ a₀) {st : SortSt} {x y : Keyed} (hk : kindOf st = κ) (hx : x ∈ a₀.toList) (hy : y ∈ a₀.toList) {Q : Option Bool→SortSt→Prop} (h : Q (some (decide (R x < R y))) st) :
  wpS (model prog w) A E s (lt' x y) Q st:=by
 rw [lt'_eq]
 refine wpS_bind (wpS_get ?_)
 rw [hk]
 refine wpS_bind (wpS_lift (wpAny_attempt (C x y hx hy _ _ ⟨rfl,?_⟩)))
 exact wpS_pure h
theorem jbd {st : SortSt} {xs : Array Keyed} {i : Nat} {x : Keyed} (e : xs[i]? = some x) {Q : Keyed→SortSt→Prop} (h : Q x st) : wpS (model prog w) A E s (elem' xs i) Q st:=by
 rw [elem'_eq,e]; exact wpS_pure h
theorem jgm (C : Cm prog w A s R κ a₀) {st : SortSt} (b : Bs κ a₀ pd st) {i j : Nat} (hi : i < a₀.size) (hj : j < a₀.size) {Q : Option Bool→SortSt→Prop}
  (h : Q (some (decide (kv R (arrOf st) i < kv R (arrOf st) j))) st) : wpS (model prog w) A E s (ltAt' i j) Q st:=by
 obtain ⟨x,e1,m1⟩:=b.get hi
 obtain ⟨y,e2,m2⟩:=b.get hj
 rw [ltAt'_eq]
 refine wpS_bind (wpS_get (wpS_bind (jbd e1 (wpS_bind (jbd e2 (w_lt C b.kind m1 m2 ?_))))))
 rw [kv_at e1,kv_at e2] at h
 exact h
noncomputable abbrev UpSt:=Option (Option Nat) × Nat
noncomputable abbrev DnSt:=Option (Option Nat) × Nat × Nat
noncomputable def goUp (lo a nrem : Nat) : StateT SortSt Sem UpSt :=
 forIn [a:nrem] ((none,a) : UpSt) fun _ c=>do
  let z ← ltAt' (lo + c.snd) (lo + c.snd - 1)
  match z with
  | some less=>if less = true then pure (.done (none,c.snd)) else pure (.yield (none,c.snd + 1))
  | _=>pure (.done (some none,c.snd))
noncomputable def jh6 (lo n nrem : Nat) : StateT SortSt Sem (Option Nat):=do
 reverseSlice' lo (lo + n)
 let c ← goUp lo n nrem
 match c.fst with
 | some r=>pure r
 | none=>pure (some c.snd)
noncomputable def goDn (lo n nrem : Nat) : StateT SortSt Sem DnSt :=
 forIn [n:nrem] ((none,n,0) : DnSt) fun _ c=>do
  let z ← ltAt' (lo + c.snd.fst) (lo + c.snd.fst - 1)
  match z with
  | some less =>
   if less = true then
    if c.snd.snd > 0 then do
     reverseSlice' (lo + c.snd.fst - (c.snd.snd + 1)) (lo + c.snd.fst)
     pure (.yield (none,c.snd.fst + 1,0))
    else pure (.yield (none,c.snd.fst + 1,0))
   else do
    let y ← ltAt' (lo + c.snd.fst - 1) (lo + c.snd.fst)
    match y with
    | some more=>if more = true then pure (.done (none,c.snd.fst,c.snd.snd)) else pure (.yield (none,c.snd.fst + 1,c.snd.snd + 1))
    | _=>pure (.done (some none,c.snd.fst,c.snd.snd))
  | _=>pure (.done (some none,c.snd.fst,c.snd.snd))
noncomputable def jno (lo n nrem : Nat) : StateT SortSt Sem (Option Nat):=do
 liftM (rule "list.sort.descending-run")
 let c ← goDn lo (n + 1) nrem
 match c.fst with
 | some r=>pure r
 | none =>
  if c.snd.snd > 0 then do
   reverseSlice' (lo + c.snd.fst - (c.snd.snd + 1)) (lo + c.snd.fst)
   jh6 lo c.snd.fst nrem
  else jh6 lo c.snd.fst nrem
theorem joy (lo nrem : Nat) : countRun' lo nrem = (do
    let c ← goUp lo 1 nrem
    match c.fst with
    | some r=>pure r
    | none =>
      if (c.snd == nrem) = true then pure (some c.snd)
      else if c.snd > 1 then do
        let z ← ltAt' lo (lo + c.snd - 1)
        match z with
        | some rose=>if rose = true then pure (some c.snd) else do
            reverseSlice' lo (lo + c.snd)
            jno lo c.snd nrem
        | _=>pure none
      else jno lo c.snd nrem):=by
  rw [countRun'_eq]
  unfold jno jh6 goDn goUp
  dsimp only
  congr 1
  funext c
  obtain ⟨r,n⟩:=c
  cases r with
  | some r=>rfl
  | none =>
    dsimp only
    split
    · rfl
    · split
      · congr 1
        funext z
        cases z with
        | none=>rfl
        | some rose =>
          dsimp only
          split
          · rfl
          · congr 1
            funext _r
            (congr 1; funext _u; congr 1; congr 1; funext c2; obtain ⟨r2,n2,q2⟩:=c2; cases r2 with
            | some r2=>rfl
            | none =>
              dsimp only
              split
              · congr 1; funext _t; congr 1; funext _v; congr 1; funext c3; obtain ⟨r3,n3⟩:=c3; cases r3 <;> rfl
              · congr 1; funext _v; congr 1; funext c3; obtain ⟨r3,n3⟩:=c3; cases r3 <;> rfl)
      · (congr 1; funext _u; congr 1; congr 1; funext c2; obtain ⟨r2,n2,q2⟩:=c2; cases r2 with
            | some r2=>rfl
            | none =>
              dsimp only
              split
              · congr 1; funext _t; congr 1; funext _v; congr 1; funext c3; obtain ⟨r3,n3⟩:=c3; cases r3 <;> rfl
              · congr 1; funext _v; congr 1; funext c3; obtain ⟨r3,n3⟩:=c3; cases r3 <;> rfl)
theorem jiq {st : SortSt} {i j : Nat} {Q : Unit→SortSt→Prop} (h : Q () (setArr st (mirror (arrOf st) i j ((j - i) / 2)))) :
  wpS (model prog w) A E s (reverseSlice' i j) Q st:=by
 rw [reverseSlice'_eq]; exact wpS_modify h
theorem jp8 (C : Cm prog w A s R κ a₀) {st : SortSt} {lo a nrem : Nat} {Q : UpSt→SortSt→Prop} (hn : lo + nrem ≤ a₀.size) (ha : 1 ≤ a) (han : a ≤ nrem) (b : Bs κ a₀ pd st) (u : Up R (arrOf st) lo (lo + a))
  (h : ∀ n,a ≤ n→n ≤ nrem→Up R (arrOf st) lo (lo + n)→(n = nrem ∨ kv R (arrOf st) (lo + n) < kv R (arrOf st) (lo + n - 1))→Q (none,n) st) :
  wpS (model prog w) A E s (goUp lo a nrem) Q st:=by
 unfold goUp
 refine wpS_forRange (I:=fun x c st'=>st' = st∧c = (none,x)∧Up R (arrOf st) lo (lo + x)) ?step ?fin ⟨rfl,rfl,u⟩
 case fin =>
  rintro c st' ⟨rfl,rfl,u'⟩
  rw [show max a nrem = nrem by omega] at u' ⊢
  exact h nrem han (Nat.le_refl _) u' (.inl rfl)
 case step =>
  rintro x c st' hax hxn ⟨rfl,rfl,u'⟩
  dsimp only
  refine wpS_bind (jgm C b (by omega) (by omega) ?_)
  by_cases c : kv R (arrOf st') (lo + x) < kv R (arrOf st') (lo + x - 1)
  ·simp only [c,decide_true,if_true]
   exact wpS_pure (h x hax (by omega) u' (.inr c))
  ·simp only [c,decide_false,Bool.false_eq_true,if_false]
   exact wpS_pure ⟨rfl,rfl,u'.grow (by omega) (by omega)⟩
theorem jis (C : Cm prog w A s R κ a₀) {st : SortSt} {lo n nrem : Nat} {Q : Option Nat→SortSt→Prop} (hn : lo + nrem ≤ a₀.size) (h1 : 1 ≤ n) (hnn : n ≤ nrem) (b : Bs κ a₀ pd st) (d : Dn R (arrOf st) lo (lo + n))
  (h : ∀ m st',Bs κ a₀ pd st'→Fore lo (arrOf st) (arrOf st')→1 ≤ m→m ≤ nrem→Up R (arrOf st') lo (lo + m)→Q (some m) st') :
  wpS (model prog w) A E s (jh6 lo n nrem) Q st:=by
 unfold jh6
 have hsz : lo + n ≤ (arrOf st).size:=by rw [b.size]; omega
 refine wpS_bind (jiq ?_)
 have b':=b.put (mirror_perm (arrOf st) lo (lo + n) ((lo + n - lo) / 2))
 refine wpS_bind (jp8 C hn h1 hnn b' ?_ fun m hm1 hm2 u _=>wpS_pure (h m _ b' (jdm hsz (Nat.le_refl _)) (by omega) hm2 u))
 intro i j h3 h4 h5
 show kv R (mirror (arrOf st) lo (lo + n) _) i ≤ kv R (mirror (arrOf st) lo (lo + n) _) j
 rw [jid hsz,jid hsz,if_pos (by omega),if_pos (by omega)]
 exact d _ _ (by omega) (by omega) (by omega)
theorem w_goDn (C : Cm prog w A s R κ a₀) {st : SortSt} {lo n nrem : Nat} {Q : DnSt→SortSt→Prop} (hn : lo + nrem ≤ a₀.size) (h1 : 1 ≤ n) (hnn : n ≤ nrem) (b : Bs κ a₀ pd st) (d : Dn R (arrOf st) lo (lo + n))
  (h : ∀ m q st',Bs κ a₀ pd st'→Fore lo (arrOf st) (arrOf st')→n ≤ m→m ≤ nrem→Dn R (arrOf st') lo (lo + m)→q + 1 ≤ m→(∀ i,lo + m - (q + 1) ≤ i→i < lo + m→kv R (arrOf st') i = kv R (arrOf st') (lo + m - 1))→Q (none,m,q) st') :
  wpS (model prog w) A E s (goDn lo n nrem) Q st:=by
 unfold goDn
 refine wpS_forRange (I:=fun x c st'=>∃ q,c = (none,x,q)∧Bs κ a₀ pd st'∧Fore lo (arrOf st) (arrOf st')∧Dn R (arrOf st') lo (lo + x)∧q + 1 ≤ x ∧
   (∀ i,lo + x - (q + 1) ≤ i→i < lo + x→kv R (arrOf st') i = kv R (arrOf st') (lo + x - 1))) ?step ?fin ⟨0,rfl,b,Fore.rfl',d,by omega,fun i h1 h2=>by congr 1; omega⟩
 case fin =>
  rintro c st' ⟨q,rfl,b',f,d',hq,he⟩
  rw [show max n nrem = nrem by omega] at d' hq he ⊢
  exact h nrem q st' b' f hnn (Nat.le_refl _) d' hq he
 case step =>
  rintro x c st' hax hxn ⟨q,rfl,b',f,d',hq,he⟩
  dsimp only
  have hsz : lo + x ≤ (arrOf st').size:=by rw [b'.size]; omega
  refine wpS_bind (jgm C b' (by omega) (by omega) ?_)
  by_cases c : kv R (arrOf st') (lo + x) < kv R (arrOf st') (lo + x - 1)
  ·simp only [c,decide_true,if_true]
   have g:=d'.grow (by omega) (Int.le_of_lt c)
   by_cases hq0 : q > 0
   ·rw [if_pos hq0]
    exact wpS_bind (jiq (wpS_pure ⟨0,rfl,b'.put (mirror_perm _ _ _ _),f.tr (jdm hsz (by omega)),g.like (jcq hsz he),by omega,fun i h1 h2=>by congr 1; omega⟩))
   ·rw [if_neg hq0]
    exact wpS_pure ⟨0,rfl,b',f,g,by omega,fun i h1 h2=>by congr 1; omega⟩
  ·simp only [c,decide_false,Bool.false_eq_true,if_false]
   refine wpS_bind (jgm C b' (by omega) (by omega) ?_)
   by_cases c2 : kv R (arrOf st') (lo + x - 1) < kv R (arrOf st') (lo + x)
   ·simp only [c2,decide_true,if_true]
    exact wpS_pure (h x q st' b' f hax (by omega) d' hq he)
   ·simp only [c2,decide_false,Bool.false_eq_true,if_false]
    have e2 : kv R (arrOf st') (lo + x) = kv R (arrOf st') (lo + x - 1):=by omega
    refine wpS_pure ⟨q + 1,rfl,b',f,d'.grow (by omega) (by omega),by omega,fun i h1 h2=>?_⟩
    rw [show lo + (x + 1) - 1 = lo + x by omega]
    by_cases hix : i = lo + x
    ·rw [hix]
    ·rw [e2]; exact he i (by omega) (by omega)
theorem jku (C : Cm prog w A s R κ a₀) {st : SortSt} {lo n nrem : Nat} {Q : Option Nat→SortSt→Prop} (hn : lo + nrem ≤ a₀.size) (hnn : n + 1 ≤ nrem) (b : Bs κ a₀ pd st) (d : Dn R (arrOf st) lo (lo + (n + 1)))
  (h : ∀ m st',Bs κ a₀ pd st'→Fore lo (arrOf st) (arrOf st')→1 ≤ m→m ≤ nrem→Up R (arrOf st') lo (lo + m)→Q (some m) st') :
  wpS (model prog w) A E s (jno lo n nrem) Q st:=by
 unfold jno
 refine wpS_bind (wpS_lift (wpAny_rule ⟨rfl,?_⟩))
 refine wpS_bind (w_goDn C hn (by omega) hnn b d fun m q st' b' f hm1 hm2 d' hq he=>?_)
 dsimp only
 have hsz : lo + m ≤ (arrOf st').size:=by rw [b'.size]; omega
 by_cases hq0 : q > 0
 ·rw [if_pos hq0]
  exact wpS_bind (jiq (jis C hn (by omega) hm2 (b'.put (mirror_perm _ _ _ _)) (d'.like (jcq hsz he)) fun m2 st2 a1 a2=>h m2 st2 a1 ((f.tr (jdm hsz (by omega))).tr a2)))
 ·rw [if_neg hq0]
  exact jis C hn (by omega) hm2 b' d' fun m2 st2 a1 a2=>h m2 st2 a1 (f.tr a2)
theorem jq9 (C : Cm prog w A s R κ a₀) {st : SortSt} {lo nrem : Nat} {Q : Option Nat→SortSt→Prop} (hn : lo + nrem ≤ a₀.size) (h1 : 1 ≤ nrem) (b : Bs κ a₀ pd st)
  (h : ∀ m st',Bs κ a₀ pd st'→Fore lo (arrOf st) (arrOf st')→1 ≤ m→m ≤ nrem→Up R (arrOf st') lo (lo + m)→Q (some m) st') :
  wpS (model prog w) A E s (countRun' lo nrem) Q st:=by
 rw [joy]
 refine wpS_bind (jp8 C hn (Nat.le_refl 1) h1 b (Up.one (Nat.le_refl _)) fun n hn1 hn2 u hor=>?_)
 dsimp only
 by_cases c : n = nrem
 ·rw [if_pos (by simpa using c)]
  exact wpS_pure (h n st b Fore.rfl' hn1 hn2 u)
 ·rw [if_neg (by simpa using c)]
  have hlt:=hor.resolve_left c
  by_cases hgt : n > 1
  ·rw [if_pos hgt]
   refine wpS_bind (jgm C b (by omega) (by omega) ?_)
   by_cases c2 : kv R (arrOf st) lo < kv R (arrOf st) (lo + n - 1)
   ·simp only [c2,decide_true,if_true]
    exact wpS_pure (h n st b Fore.rfl' hn1 hn2 u)
   ·simp only [c2,decide_false,Bool.false_eq_true,if_false]
    have hsz : lo + n ≤ (arrOf st).size:=by rw [b.size]; omega
    have hall : ∀ k,lo ≤ k→k < lo + n→kv R (arrOf st) k = kv R (arrOf st) (lo + n - 1):=by
     intro k h2 h3
     have a1:=u lo k (Nat.le_refl _) h2 h3
     have a2:=u k (lo + n - 1) h2 (by omega) (by omega)
     omega
    have d : Dn R (arrOf st) lo (lo + n):=fun i j h3 h4 h5=>by rw [hall i h3 (by omega),hall j (by omega) h5]; exact Int.le_refl _
    have g : Dn R (arrOf st) lo (lo + (n + 1)):=d.grow (by omega) (Int.le_of_lt hlt)
    exact wpS_bind (jiq (jku C hn (by omega) (b.put (mirror_perm _ _ _ _)) (g.like (jcq hsz hall)) fun m st' a1 a2=>h m st' a1 ((jdm hsz (Nat.le_refl _)).tr a2)))
  ·rw [if_neg hgt]
   have e : n = 1:=by omega
   subst e
   have d : Dn R (arrOf st) lo (lo + 1):=fun i j h3 h4 h5=>by
    have e : i = j:=by omega
    rw [e]; exact Int.le_refl _
   exact jku C hn (by omega) b (d.grow (by omega) (Int.le_of_lt hlt)) h
theorem w_ins (C : Cm prog w A s R κ a₀) {st : SortSt} {lo n ok : Nat} {Q : Bool→SortSt→Prop} (hn : lo + n ≤ a₀.size) (hok : ok ≤ n) (b : Bs κ a₀ pd st) (u : Up R (arrOf st) lo (lo + ok))
  (h : ∀ st',Bs κ a₀ pd st'→Fore lo (arrOf st) (arrOf st')→Up R (arrOf st') lo (lo + n)→Q true st') : wpS (model prog w) A E s (binarySort' lo n ok) Q st:=by
 rw [binarySort'_eq]
 refine wpS_bind (wpS_mono (wpS_forRange (I:=fun k c st'=>c = (none,())∧Bs κ a₀ pd st'∧Fore lo (arrOf st) (arrOf st')∧Up R (arrOf st') lo (lo + min k n))
  (Q:=fun c st'=>c = (none,())∧Bs κ a₀ pd st'∧Fore lo (arrOf st) (arrOf st')∧Up R (arrOf st') lo (lo + n)) ?step ?fin ?init) ?post)
 case post =>
  rintro c st' ⟨rfl,b',f,u'⟩
  exact wpS_pure (h st' b' f u')
 case init =>
  refine ⟨rfl,b,Fore.rfl',fun i j h1 h2 h3=>?_⟩
  by_cases c : ok = 0
  ·have e : i = j:=by omega
   rw [e]; exact Int.le_refl _
  ·exact u i j h1 h2 (by omega)
 case fin =>
  rintro c st' ⟨hc,b',f,u'⟩
  rw [show min (max (max ok 1) n) n = n by omega] at u'
  exact ⟨hc,b',f,u'⟩
 case step =>
  rintro k c st' hak hkn ⟨rfl,b',f,u'⟩
  rw [show min k n = k by omega] at u'
  refine wpS_bind (wpS_mono (wpS_forRange (I:=fun x c st2=>st2 = st'∧∃ l r,c = (none,l,r)∧l ≤ r∧r ≤ k∧r - l ≤ k - x ∧
    (∀ i,i < l→kv R (arrOf st') (lo + i) ≤ kv R (arrOf st') (lo + k))∧(∀ i,r ≤ i→i < k→kv R (arrOf st') (lo + k) < kv R (arrOf st') (lo + i)))
   (Q:=fun c st2=>st2 = st'∧∃ l r,c = (none,l,r)∧l ≤ k ∧
    (∀ i,i < l→kv R (arrOf st') (lo + i) ≤ kv R (arrOf st') (lo + k))∧(∀ i,l ≤ i→i < k→kv R (arrOf st') (lo + k) < kv R (arrOf st') (lo + i))) ?istep ?ifin ?iinit) ?ipost)
  case iinit=>exact ⟨rfl,0,k,rfl,by omega,by omega,by omega,fun i hi=>by omega,fun i h1 h2=>by omega⟩
  case ifin =>
   rintro c st2 ⟨rfl,l,r,rfl,hlr,hrk,hm,hlo,hhi⟩
   have e : l = r:=by omega
   subst e
   exact ⟨rfl,l,l,rfl,hrk,hlo,hhi⟩
  case istep =>
   rintro x c st2 _ hxk ⟨rfl,l,r,rfl,hlr,hrk,hm,hlo,hhi⟩
   dsimp only
   by_cases hge : l ≥ r
   ·rw [if_pos hge]
    have e : l = r:=by omega
    subst e
    exact wpS_pure ⟨rfl,l,l,rfl,hrk,hlo,hhi⟩
   ·rw [if_neg hge]
    refine wpS_bind (jgm C b' (by omega) (by omega) ?_)
    by_cases c : kv R (arrOf st2) (lo + k) < kv R (arrOf st2) (lo + (l + r) / 2)
    ·simp only [c,decide_true,if_true]
     exact wpS_pure ⟨rfl,l,(l + r) / 2,rfl,by omega,by omega,by omega,hlo,fun i h1 h2=>Int.lt_of_lt_of_le c (u' _ _ (by omega) (by omega) (by omega))⟩
    ·simp only [c,decide_false,Bool.false_eq_true,if_false]
     exact wpS_pure ⟨rfl,(l + r) / 2 + 1,r,rfl,by omega,by omega,by omega,fun i h1=>Int.le_trans (u' (lo + i) (lo + (l + r) / 2) (by omega) (by omega) (by omega)) (Int.not_lt.mp c),hhi⟩
  case ipost =>
   rintro c st2 ⟨rfl,l,r,rfl,hlk,hlo,hhi⟩
   show wpS _ _ _ _ (do moveDown' (lo + k) (lo + l); pure (ForInStep.yield (none,()))) _ _
   rw [moveDown'_eq]
   have hks : lo + k < (arrOf st2).size:=by rw [b'.size]; omega
   refine wpS_bind (wpS_modify (wpS_pure ⟨rfl,b'.put (bubble_perm _ _ _),f.tr (jmz hks (by omega)),?_⟩))
   rw [show min (k + 1) n = k + 1 by omega]
   intro i j h1 h2 h3
   show kv R (bubble (arrOf st2) (lo + k) (lo + k - (lo + l))) i ≤ kv R (bubble (arrOf st2) (lo + k) (lo + k - (lo + l))) j
   rw [jmg hks (by omega),jmg hks (by omega),show lo + k - (lo + k - (lo + l)) = lo + l by omega]
   have lowof : ∀ i,lo ≤ i→i < lo + l→kv R (arrOf st2) i ≤ kv R (arrOf st2) (lo + k):=fun i a1 a2=>by
    have z:=hlo (i - lo) (by omega)
    rwa [show lo + (i - lo) = i by omega] at z
   have highof : ∀ i,lo + l ≤ i→i < lo + k→kv R (arrOf st2) (lo + k) < kv R (arrOf st2) i:=fun i a1 a2=>by
    have z:=hhi (i - lo) (by omega) (by omega)
    rwa [show lo + (i - lo) = i by omega] at z
   repeat' split
   all_goals first
    | (exfalso; omega)
    | exact Int.le_refl _
    | exact lowof _ (by omega) (by omega)
    | exact Int.le_of_lt (highof _ (by omega) (by omega))
    | exact u' _ _ (by omega) (by omega) (by omega)
end
end So
namespace So
open PySem PyProof.Rows
noncomputable def jmx : Bool→Keyed→Array Keyed→Nat→Nat→Nat→StateT SortSt Sem (Option Nat):=sortPriv% PySem.Builtin.gallop
noncomputable def gl (R : Keyed→Int) (left : Bool) (key : Keyed) (v : Int) : Bool:=if left = true then decide (v < R key) else !decide (R key < v)
theorem gl_le {R : Keyed→Int} {left : Bool} {key : Keyed} {u v : Int} (h : gl R left key v = true) (huv : u ≤ v) : gl R left key u = true:=by
 unfold gl at h ⊢
 cases left
 ·simp only [Bool.false_eq_true,if_false,Bool.not_eq_true',decide_eq_false_iff_not] at h ⊢; omega
 ·simp only [if_true,decide_eq_true_eq] at h ⊢; omega
section
variable {prog : Program} {w : World} {A : Around} {E : Value→Shared→Prop} {s : Shared} {R : Keyed→Int} {κ : SortKind} {a₀ : Array Keyed} {pd : Array (Nat × Nat × Nat)}
noncomputable abbrev BiSt:=Option (Option Nat) × Nat × Nat
theorem w_bis {st : SortSt} {n : Nat} {g : Nat→Bool} {M : Model} {f : Nat→BiSt→StateT SortSt Sem (ForInStep BiSt)} {z : BiSt→StateT SortSt Sem (Option Nat)}
  (up : ∀ i j,i ≤ j→j < n→g j = true→g i = true) {Q : Option Nat→SortSt→Prop} (h : ∀ k,k ≤ n→(∀ i,i < k→g i = true)→(∀ i,k ≤ i→i < n→g i = false)→Q (some k) st)
  (hf : ∀ x l r (Q' : ForInStep BiSt→SortSt→Prop),l < r→r ≤ n→(g (l + (r - l) / 2) = true→Q' (.yield (none,l + (r - l) / 2 + 1,r)) st)→(g (l + (r - l) / 2) = false→Q' (.yield (none,l,l + (r - l) / 2)) st)→wpS M A E s (f x (none,l,r)) Q' st)
  (hf0 : ∀ x l (Q' : ForInStep BiSt→SortSt→Prop),Q' (.done (none,l,l)) st→wpS M A E s (f x (none,l,l)) Q' st)
  (hz : ∀ l (Q' : Option Nat→SortSt→Prop),Q' (some l) st→wpS M A E s (z (none,l,l)) Q' st)
  {lo hi : Nat} (h1 : lo ≤ hi) (h2 : hi ≤ n) (h3 : ∀ i,i < lo→g i = true) (h4 : ∀ i,hi ≤ i→i < n→g i = false) :
  wpS M A E s (forIn [0:n] ((none,lo,hi) : BiSt) f >>= z) Q st:=by
 refine wpS_bind (wpS_mono (wpS_forRange (I:=fun x c st'=>st' = st∧∃ l r,c = (none,l,r)∧l ≤ r∧r ≤ n∧r - l ≤ n - x∧(∀ i,i < l→g i = true)∧(∀ i,r ≤ i→i < n→g i = false))
  (Q:=fun c st'=>st' = st∧∃ r,c = (none,r,r)∧r ≤ n∧(∀ i,i < r→g i = true)∧(∀ i,r ≤ i→i < n→g i = false)) ?step ?fin ⟨rfl,lo,hi,rfl,h1,h2,by omega,h3,h4⟩) ?post)
 case post =>
  rintro c st' ⟨rfl,r,rfl,a1,a2,a3⟩
  exact hz r Q (h r a1 a2 a3)
 case fin =>
  rintro c st' ⟨rfl,l,r,rfl,a1,a2,a3,a4,a5⟩
  have e : l = r:=by omega
  subst e
  exact ⟨rfl,l,rfl,a2,a4,a5⟩
 case step =>
  rintro x c st' _ hx ⟨rfl,l,r,rfl,a1,a2,a3,a4,a5⟩
  by_cases hge : l = r
  ·subst hge
   exact hf0 x l _ ⟨rfl,l,rfl,a2,a4,a5⟩
  ·refine hf x l r _ (by omega) a2 (fun hg=>?_) fun hg=>?_
   ·exact ⟨rfl,_,r,rfl,by omega,a2,by omega,fun i hi=>up i (l + (r - l) / 2) (by omega) (by omega) hg,a5⟩
   ·refine ⟨rfl,l,_,rfl,by omega,by omega,by omega,a4,fun i hi1 hi2=>?_⟩
    cases hgi : g i with
    | false=>rfl
    | true=>rw [up _ i hi1 hi2 hgi] at hg; cases hg
theorem jcv (C : Cm prog w A s R κ a₀) {st : SortSt} (hk : kindOf st = κ) {left : Bool} {key : Keyed} {arr : Array Keyed} {base n hint : Nat} (hkey : key ∈ a₀.toList) (harr : ∀ i,i < n→∃ x,arr[base + i]? = some x∧x ∈ a₀.toList)
  (hh : hint < n) (u : Up R arr base (base + n)) {Q : Option Nat→SortSt→Prop}
  (h : ∀ k,k ≤ n→(∀ i,i < k→gl R left key (kv R arr (base + i)) = true)→(∀ i,k ≤ i→i < n→gl R left key (kv R arr (base + i)) = false)→Q (some k) st) :
  wpS (model prog w) A E s (jmx left key arr base n hint) Q st:=by
 have bey : ∀ (i : Nat),i < n→∀ (Q' : Option Bool→SortSt→Prop),Q' (some (gl R left key (kv R arr (base + i)))) st →
   wpS (model prog w) A E s (do let x ← elem' arr (base + i); if left = true then lt' x key else do let z ← lt' key x; pure (z.map (!·))) Q' st:=by
  intro i hi Q' hq
  obtain ⟨x,e,m⟩:=harr i hi
  rw [kv_at e] at hq
  refine wpS_bind (jbd e ?_)
  unfold gl at hq
  cases left
  ·simp only [Bool.false_eq_true,if_false] at hq ⊢
   exact wpS_bind (w_lt C hk hkey m (wpS_pure hq))
  ·simp only [if_true] at hq ⊢
   exact w_lt C hk m hkey hq
 have up : ∀ i j,i ≤ j→j < n→gl R left key (kv R arr (base + j)) = true→gl R left key (kv R arr (base + i)) = true:=fun i j h1 h2 h3=>gl_le h3 (u _ _ (by omega) (by omega) (by omega))
 have dn : ∀ i j,i ≤ j→j < n→gl R left key (kv R arr (base + i)) = false→gl R left key (kv R arr (base + j)) = false:=fun i j h1 h2 h3=>by
  cases hj : gl R left key (kv R arr (base + j)) with
  | false=>rfl
  | true=>rw [up i j h1 h2 hj] at h3; cases h3
 clear u harr hkey
 generalize hg : (fun i=>gl R left key (kv R arr (base + i))) = g at *
 have hgi : ∀ i,gl R left key (kv R arr (base + i)) = g i:=fun i=>by rw [← hg]
 simp only [hgi] at h bey up dn
 unfold jmx
 refine wpS_bind (bey hint hh _ ?_)
 cases hgh : g hint with
 | true =>
  dsimp only
  rw [if_pos rfl]
  refine wpS_bind (wpS_mono (wpS_forRange (I:=fun x c st'=>st' = st∧∃ l o,c = (none,l,o)∧l < o∧x < o∧hint + l < n∧g (hint + l) = true)
   (Q:=fun c st'=>st' = st∧∃ l o,c = (none,l,o)∧l < o∧hint + l < n∧g (hint + l) = true∧(n - hint ≤ o ∨ g (hint + o) = false)) ?step ?fin ⟨rfl,0,1,rfl,by omega,by omega,by omega,hgh⟩) ?post)
  case fin =>
   rintro c st' ⟨rfl,l,o,rfl,a1,a2,a3,a4⟩
   exact ⟨rfl,l,o,rfl,a1,a3,a4,.inl (by omega)⟩
  case step =>
   rintro x c st' _ hx ⟨rfl,l,o,rfl,a1,a2,a3,a4⟩
   dsimp only
   by_cases hge : o ≥ n - hint
   ·rw [if_pos hge]
    exact wpS_pure ⟨rfl,l,o,rfl,a1,a3,a4,.inl hge⟩
   ·rw [if_neg hge]
    refine wpS_bind (bey _ (by omega) _ ?_)
    cases hgo : g (hint + o) with
    | true=>exact wpS_pure ⟨rfl,o,_,rfl,by omega,by omega,by omega,hgo⟩
    | false=>exact wpS_pure ⟨rfl,l,o,rfl,a1,a3,a4,.inr hgo⟩
  case post =>
   rintro c st' ⟨rfl,l,o,rfl,a1,a2,a3,a4⟩
   dsimp only
   refine w_bis up h (fun x l r Q' c1 c2 y1 y2=>?hf) (fun x l Q' q=>?hf0) (fun l Q' q=>wpS_pure q) (lo:=hint + l + 1) (hi:=hint + min o (n - hint)) (by omega) (by omega) (fun i hi=>up i (hint + l) (by omega) (by omega) a3) fun i hi1 hi2=>?_
   case hf =>
    dsimp only
    rw [if_neg (by omega)]
    refine wpS_bind (bey _ (by omega) _ ?_)
    cases hg : g (l + (r - l) / 2) with
    | true=>exact wpS_pure (y1 hg)
    | false=>exact wpS_pure (y2 hg)
   case hf0 =>
    dsimp only
    rw [if_pos (Nat.le_refl _)]
    exact wpS_pure q
   rcases a4 with a4 | a4
   ·omega
   ·exact dn _ i (by omega) hi2 a4
 | false =>
  dsimp only
  rw [if_neg (by simp)]
  refine wpS_bind (wpS_mono (wpS_forRange (I:=fun x c st'=>st' = st∧∃ l o,c = (none,l,o)∧l < o∧x < o∧l ≤ hint∧g (hint - l) = false)
   (Q:=fun c st'=>st' = st∧∃ l o,c = (none,l,o)∧l < o∧l ≤ hint∧g (hint - l) = false∧(hint + 1 ≤ o ∨ g (hint - o) = true)) ?step2 ?fin2 ⟨rfl,0,1,rfl,by omega,by omega,by omega,hgh⟩) ?post2)
  case fin2 =>
   rintro c st' ⟨rfl,l,o,rfl,a1,a2,a3,a4⟩
   exact ⟨rfl,l,o,rfl,a1,a3,a4,.inl (by omega)⟩
  case step2 =>
   rintro x c st' _ hx ⟨rfl,l,o,rfl,a1,a2,a3,a4⟩
   dsimp only
   by_cases hge : o ≥ hint + 1
   ·rw [if_pos hge]
    exact wpS_pure ⟨rfl,l,o,rfl,a1,a3,a4,.inl hge⟩
   ·rw [if_neg hge]
    refine wpS_bind (bey _ (by omega) _ ?_)
    cases hgo : g (hint - o) with
    | true=>exact wpS_pure ⟨rfl,l,o,rfl,a1,a3,a4,.inr hgo⟩
    | false=>exact wpS_pure ⟨rfl,o,_,rfl,by omega,by omega,by omega,hgo⟩
  case post2 =>
   rintro c st' ⟨rfl,l,o,rfl,a1,a2,a3,a4⟩
   dsimp only
   refine w_bis up h (fun x l r Q' c1 c2 y1 y2=>?hf2) (fun x l Q' q=>?hf02) (fun l Q' q=>wpS_pure q) (lo:=hint + 1 - min o (hint + 1)) (hi:=hint - l) (by omega) (by omega) (fun i hi=>?_) fun i hi1 hi2=>dn (hint - l) i (by omega) hi2 a3
   case hf2 =>
    dsimp only
    rw [if_neg (by omega)]
    refine wpS_bind (bey _ (by omega) _ ?_)
    cases hg : g (l + (r - l) / 2) with
    | true=>exact wpS_pure (y1 hg)
    | false=>exact wpS_pure (y2 hg)
   case hf02 =>
    dsimp only
    rw [if_pos (Nat.le_refl _)]
    exact wpS_pure q
   rcases a4 with a4 | a4
   ·omega
   ·exact up i (hint - o) (by omega) (by omega) a4
end
end So
namespace So
open PySem PyProof.Rows
noncomputable def Le (R : Keyed→Int) : Keyed→Keyed→Prop:=fun x y=>R x ≤ R y
noncomputable def MS (R : Keyed→Int) (o la lb tot : List Keyed) : Prop:=(o ++ la).Pairwise (Le R)∧(o ++ lb).Pairwise (Le R)∧(o ++ (la ++ lb)).Perm tot
noncomputable def Fi (R : Keyed→Int) (l tot : List Keyed) : Prop:=l.Pairwise (Le R)∧l.Perm tot
section
variable {R : Keyed→Int} {o la lb tot xs : List Keyed}
theorem MS.a (h : MS R o (xs ++ la) lb tot) (hx : ∀ x ∈ xs,∀ y ∈ lb,R x ≤ R y) : MS R (o ++ xs) la lb tot:=by
 obtain ⟨h1,h2,h3⟩:=h
 refine ⟨by rw [List.append_assoc]; exact h1,?_,by rw [List.append_assoc,← List.append_assoc xs]; exact h3⟩
 rw [List.append_assoc,List.pairwise_append]
 rw [List.pairwise_append] at h1 h2
 obtain ⟨o1,o2,o3⟩:=h1
 obtain ⟨p1,p2,p3⟩:=h2
 rw [List.pairwise_append] at o2
 refine ⟨o1,List.pairwise_append.mpr ⟨o2.1,p2,hx⟩,fun x m y n=>?_⟩
 rcases List.mem_append.mp n with n | n
 ·exact o3 x m y (List.mem_append_left _ n)
 ·exact p3 x m y n
theorem MS.b (h : MS R o la (xs ++ lb) tot) (hx : ∀ x ∈ xs,∀ y ∈ la,R x ≤ R y) : MS R (o ++ xs) la lb tot:=by
 have z : MS R o (xs ++ lb) la tot:=⟨h.2.1,h.1,(List.Perm.append_left _ List.perm_append_comm).trans h.2.2⟩
 have q:=z.a hx
 exact ⟨q.2.1,q.1,(List.Perm.append_left _ List.perm_append_comm).trans q.2.2⟩
theorem MS.endA (h : MS R o la [] tot) : Fi R (o ++ la) tot:=⟨h.1,by have z:=h.2.2; rwa [List.append_nil] at z⟩
theorem MS.endB (h : MS R o [] lb tot) : Fi R (o ++ lb) tot:=⟨h.2.1,h.2.2⟩
theorem MS.last (h : MS R o la lb tot) (hx : ∀ y ∈ lb,∀ x ∈ la,R y ≤ R x) : Fi R (o ++ lb ++ la) tot:=by
 obtain ⟨h1,h2,h3⟩:=h
 refine ⟨?_,?_⟩
 ·rw [List.append_assoc,List.pairwise_append]
  rw [List.pairwise_append] at h1 h2
  refine ⟨h1.1,List.pairwise_append.mpr ⟨h2.2.1,h1.2.1,hx⟩,fun x m y n=>?_⟩
  rcases List.mem_append.mp n with n | n
  ·exact h2.2.2 x m y n
  ·exact h1.2.2 x m y n
 ·rw [List.append_assoc]; exact (List.Perm.append_left _ List.perm_append_comm).trans h3
end
section
variable {a : Array Keyed} {R : Keyed→Int} {i k : Nat}
theorem jik {x : Keyed} (e : a[i]? = some x) : a.toList.drop i = x :: a.toList.drop (i + 1):=by
 have hi : i < a.toList.length:=by
  rw [Array.length_toList]
  exact (Array.getElem?_eq_some_iff.mp e).1
 rw [List.drop_eq_getElem_cons hi]
 congr 1
 obtain ⟨h1,h2⟩:=Array.getElem?_eq_some_iff.mp e
 rw [← h2,Array.getElem_toList]
theorem jc9 (a : Array Keyed) (i k : Nat) : (a.extract i k).toList = (a.toList.drop i).take (k - i):=by
 rw [Array.toList_extract]
theorem jge (a : Array Keyed) (i : Nat) : (a.extract i a.size).toList = a.toList.drop i:=by
 rw [jc9]
 apply List.take_of_length_le
 rw [List.length_drop,Array.length_toList]
 exact Nat.le_refl _
theorem jjx (a : Array Keyed) (i k : Nat) : a.toList.drop i = (a.extract i (i + k)).toList ++ a.toList.drop (i + k):=by
 rw [jc9,Nat.add_sub_cancel_left,← List.drop_drop,List.take_append_drop]
theorem jm5 {x : Keyed} (h : x ∈ (a.extract i (i + k)).toList) : ∃ j,j < k∧a[i + j]? = some x:=by
 rw [jc9,Nat.add_sub_cancel_left] at h
 obtain ⟨j,hj,e⟩:=List.getElem_of_mem h
 rw [List.getElem_take,List.getElem_drop] at e
 rw [List.length_take] at hj
 refine ⟨j,by omega,?_⟩
 rw [← e,← Array.getElem?_toList]
 exact List.getElem?_eq_getElem _
theorem jc8 {x : Keyed} (h : x ∈ a.toList.drop i) : ∃ j,i ≤ j∧j < a.size∧a[j]? = some x:=by
 obtain ⟨j,hj,e⟩:=List.getElem_of_mem h
 rw [List.getElem_drop] at e
 rw [List.length_drop,Array.length_toList] at hj
 refine ⟨i + j,by omega,by omega,?_⟩
 rw [← e,← Array.getElem?_toList]
 exact List.getElem?_eq_getElem _
theorem jba (h : i < a.size) : ∃ x,a[i]? = some x∧x ∈ a.toList:=⟨a[i],getElem?_pos _ i h,by simp⟩
theorem Up.le (u : Up R a 0 a.size) {j : Nat} {x y : Keyed} (hx : a[i]? = some x) (hy : a[j]? = some y) (h : i ≤ j) : R x ≤ R y:=by
 have z:=u i j (Nat.zero_le _) h (Array.getElem?_eq_some_iff.mp hy).1
 rwa [kv_at hx,kv_at hy] at z
end
theorem jih {R : Keyed→Int} {key : Keyed} {v : Int} (h : gl R true key v = true) : v < R key:=by unfold gl at h; simpa using h
theorem jga {R : Keyed→Int} {key : Keyed} {v : Int} (h : gl R true key v = false) : R key ≤ v:=by unfold gl at h; simpa using h
theorem jgb {R : Keyed→Int} {key : Keyed} {v : Int} (h : gl R false key v = true) : v ≤ R key:=by unfold gl at h; simpa using h
theorem jf6 {R : Keyed→Int} {key : Keyed} {v : Int} (h : gl R false key v = false) : R key < v:=by unfold gl at h; simpa using h
section
variable {M : Model} {A : Around} {E : Value→Shared→Prop} {s : Shared} {σ α : Type}
theorem jb5 {c : Prop} [Decidable c] {m n : StateT σ Sem α} {Q : α→σ→Prop} {st : σ} (h1 : c→wpS M A E s m Q st) (h2 : ¬ c→wpS M A E s n Q st) : wpS M A E s (if c then m else n) Q st:=by
 by_cases h : c
 ·rw [if_pos h]; exact h1 h
 ·rw [if_neg h]; exact h2 h
end
structure Lk (st st' : SortSt) : Prop where
 kind : kindOf st' = kindOf st
 arr : arrOf st' = arrOf st
 pend : pendingOf st' = pendingOf st
 ok : failedOf st' = failedOf st
theorem Lk.refl (st : SortSt) : Lk st st:=⟨rfl,rfl,rfl,rfl⟩
theorem Lk.setg {st st' : SortSt} (l : Lk st st') (g : Nat) : Lk st (SortSt.mk' (kindOf st') (arrOf st') (pendingOf st') g (failedOf st')):=⟨l.kind,l.arr,l.pend,l.ok⟩
noncomputable def setg : Nat→StateT SortSt Sem Unit:=sortPriv% PySem.Builtin.setMinGallop
section
variable {R : Keyed→Int} {a b out : Array Keyed} {ia ib k : Nat} {tot : List Keyed}
theorem pushB (m : MS R out.toList (a.toList.drop ia) (b.toList.drop ib) tot) {x : Keyed} (e : b[ib]? = some x) (h : ∀ y ∈ a.toList.drop ia,R x ≤ R y) : MS R (out.push x).toList (a.toList.drop ia) (b.toList.drop (ib + 1)) tot:=by
 rw [jik e] at m
 rw [Array.toList_push]
 refine MS.b (xs:=[x]) m fun z hz y hy=>?_
 rw [List.mem_singleton.mp hz]; exact h y hy
theorem pushA (m : MS R out.toList (a.toList.drop ia) (b.toList.drop ib) tot) {x : Keyed} (e : a[ia]? = some x) (h : ∀ y ∈ b.toList.drop ib,R x ≤ R y) : MS R (out.push x).toList (a.toList.drop (ia + 1)) (b.toList.drop ib) tot:=by
 rw [jik e] at m
 rw [Array.toList_push]
 refine MS.a (xs:=[x]) m fun z hz y hy=>?_
 rw [List.mem_singleton.mp hz]; exact h y hy
theorem appA (m : MS R out.toList (a.toList.drop ia) (b.toList.drop ib) tot) (h : ∀ x ∈ (a.extract ia (ia + k)).toList,∀ y ∈ b.toList.drop ib,R x ≤ R y) : MS R (out ++ a.extract ia (ia + k)).toList (a.toList.drop (ia + k)) (b.toList.drop ib) tot:=by
 rw [jjx a ia k] at m
 rw [Array.toList_append]
 exact MS.a m h
theorem appB (m : MS R out.toList (a.toList.drop ia) (b.toList.drop ib) tot) (h : ∀ x ∈ (b.extract ib (ib + k)).toList,∀ y ∈ a.toList.drop ia,R x ≤ R y) : MS R (out ++ b.extract ib (ib + k)).toList (a.toList.drop ia) (b.toList.drop (ib + k)) tot:=by
 rw [jjx b ib k] at m
 rw [Array.toList_append]
 exact MS.b m h
end
noncomputable def mLo : Array Keyed→Array Keyed→StateT SortSt Sem (Array Keyed):=sortPriv% PySem.Builtin.mergeLo
noncomputable def mHi : Array Keyed→Array Keyed→StateT SortSt Sem (Array Keyed):=sortPriv% PySem.Builtin.mergeHi
section
variable {prog : Program} {w : World} {A : Around} {E : Value→Shared→Prop} {s : Shared} {R : Keyed→Int} {κ : SortKind} {a₀ : Array Keyed} {pd : Array (Nat × Nat × Nat)}
theorem jir {st st' : SortSt} {g : Nat} {Q : Unit→SortSt→Prop} (l : Lk st st') (h : ∀ st2,Lk st st2→Q () st2) : wpS (model prog w) A E s (setg g) Q st':=wpS_modify (h _ (l.setg g))
noncomputable abbrev LoSt:=Option (Array Keyed) × Array Keyed × Nat × Nat × Nat
theorem w_mLo (C : Cm prog w A s R κ a₀) {st : SortSt} (hk : kindOf st = κ) {a b : Array Keyed} {tot : List Keyed} (ha : ∀ x ∈ a.toList,x ∈ a₀.toList) (hb : ∀ x ∈ b.toList,x ∈ a₀.toList) (ua : Up R a 0 a.size) (ub : Up R b 0 b.size)
  (na : 1 ≤ a.size) (nb : 1 ≤ b.size) (h0 : ∀ x y,b[0]? = some x→a[0]? = some y→R x < R y) (hl : ∀ x y,x ∈ b.toList→a[a.size - 1]? = some y→R x < R y) (ht : (a.toList ++ b.toList).Perm tot)
  {Q : Array Keyed→SortSt→Prop} (h : ∀ m st',Lk st st'→Fi R m.toList tot→Q m st') : wpS (model prog w) A E s (mLo a b) Q st:=by
 obtain ⟨b0,eb0,mb0⟩:=jba (a:=b) (i:=0) nb
 obtain ⟨a0,ea0,ma0⟩:=jba (a:=a) (i:=0) na
 have m0 : MS R [b0] (a.toList.drop 0) (b.toList.drop 1) tot:=by
  have e:=jik eb0
  have z : MS R [] (a.toList.drop 0) ([b0] ++ b.toList.drop 1) tot:=by
   refine ⟨?_,?_,?_⟩
   ·rw [List.nil_append,List.drop_zero,List.pairwise_iff_getElem]
    intro i j hi hj hij
    rw [Array.length_toList] at hi hj
    exact ua.le (getElem?_pos a i hi) (getElem?_pos a j hj) (Nat.le_of_lt hij)
   ·rw [List.nil_append,List.singleton_append,← e,List.drop_zero,List.pairwise_iff_getElem]
    intro i j hi hj hij
    rw [Array.length_toList] at hi hj
    exact ub.le (getElem?_pos b i hi) (getElem?_pos b j hj) (Nat.le_of_lt hij)
   ·rw [List.nil_append,List.singleton_append,← e,List.drop_zero,List.drop_zero]; exact ht
  refine z.b fun x hx y hy=>?_
  rw [List.mem_singleton] at hx
  subst hx
  obtain ⟨j,j1,j2,j3⟩:=jc8 hy
  exact Int.le_of_lt (Int.lt_of_lt_of_le (h0 _ _ eb0 ea0) (ua.le ea0 j3 (Nat.zero_le _)))
 have dn : ∀ (out : Array Keyed) (ia ib : Nat),MS R out.toList (a.toList.drop ia) (b.toList.drop ib) tot→(ia = a.size ∨ ib = b.size)→Fi R (out ++ a.extract ia a.size ++ b.extract ib b.size).toList tot:=by
  intro out ia ib m hor
  rw [Array.toList_append,Array.toList_append,jge,jge]
  rcases hor with e | e
  ·have e2 : a.toList.drop ia = []:=by rw [e]; apply List.drop_of_length_le; rw [Array.length_toList]; exact Nat.le_refl _
   rw [e2] at m ⊢
   rw [List.append_nil]; exact m.endB
  ·have e2 : b.toList.drop ib = []:=by rw [e]; apply List.drop_of_length_le; rw [Array.length_toList]; exact Nat.le_refl _
   rw [e2] at m ⊢
   rw [List.append_nil]; exact m.endA
 have ls : ∀ (out : Array Keyed) (ia ib : Nat),MS R out.toList (a.toList.drop ia) (b.toList.drop ib) tot→ia + 1 = a.size→Fi R (out ++ b.extract ib b.size ++ a.extract ia a.size).toList tot:=by
  intro out ia ib m e
  rw [Array.toList_append,Array.toList_append,jge,jge]
  refine m.last fun y hy x hx=>?_
  obtain ⟨j,j1,j2,j3⟩:=jc8 hx
  have ej : j = a.size - 1:=by omega
  rw [ej] at j3
  exact Int.le_of_lt (hl _ _ (List.mem_of_mem_drop hy) j3)
 unfold mLo
 refine wpS_bind (wpS_lift (wpAny_rule ⟨rfl,?_⟩))
 refine wpS_bind (jbd eb0 ?_)
 refine jb5 (fun c=>wpS_pure (h _ _ (.refl _) (dn _ _ _ m0 (.inr (by simpa using c))))) fun c1=>?_
 refine jb5 (fun c=>wpS_pure (h _ _ (.refl _) (ls _ _ _ m0 (by simpa using c)))) fun c2=>?_
 have c1' : 1 < b.size:=by simp at c1; omega
 have c2' : 1 < a.size:=by simp at c2; omega
 refine wpS_bind (wpS_get ?_)
 refine wpS_bind (wpS_mono (wpS_forRange (I:=fun x (c : LoSt) st'=>Lk st st'∧∃ out ia ib mg,c = (none,out,ia,ib,mg)∧MS R out.toList (a.toList.drop ia) (b.toList.drop ib) tot∧ia + 1 < a.size∧ib < b.size∧x < ia + ib)
  (Q:=fun (c : LoSt) st'=>Lk st st'∧∃ m out ia ib mg,c = (some m,out,ia,ib,mg)∧Fi R m.toList tot) ?step ?fin ⟨.refl _,#[b0],0,1,_,rfl,m0,by omega,by omega,by omega⟩) ?post)
 case fin =>
  rintro c st' ⟨l,out,ia,ib,mg,rfl,m,d1,d2,d3⟩
  omega
 case post =>
  rintro c st' ⟨l,m,out,ia,ib,mg,rfl,f⟩
  exact wpS_pure (h m st' l f)
 case step =>
  rintro x c st' _ hx ⟨l,out,ia,ib,mg,rfl,m,d1,d2,d3⟩
  refine wpS_bind (wpS_mono (wpS_forRange (I:=fun y (c : Option (Array Keyed) × Array Keyed × Nat × Nat × Nat × Nat) st2=>st2 = st'∧∃ out ia ib ac bc,c = (none,out,ia,ib,ac,bc)∧MS R out.toList (a.toList.drop ia) (b.toList.drop ib) tot∧ia + 1 < a.size∧ib < b.size∧x + min y 1 < ia + ib)
   (Q:=fun (c : Option (Array Keyed) × Array Keyed × Nat × Nat × Nat × Nat) st2=>st2 = st'∧((∃ m out ia ib ac bc,c = (some m,out,ia,ib,ac,bc)∧Fi R m.toList tot) ∨
    (∃ out ia ib ac bc,c = (none,out,ia,ib,ac,bc)∧MS R out.toList (a.toList.drop ia) (b.toList.drop ib) tot∧ia + 1 < a.size∧ib < b.size∧x + 1 < ia + ib))) ?s1 ?f1 ⟨rfl,out,ia,ib,0,0,rfl,m,d1,d2,by omega⟩) ?p1)
  case f1 =>
   rintro c st2 ⟨rfl,out,ia,ib,ac,bc,rfl,m,d1,d2,d3⟩
   exact ⟨rfl,.inr ⟨out,ia,ib,ac,bc,rfl,m,d1,d2,by omega⟩⟩
  case s1 =>
   rintro y c st2 _ hy ⟨rfl,out,ia,ib,ac,bc,rfl,m,d1,d2,d3⟩
   obtain ⟨bx,eb,mb⟩:=jba (a:=b) d2
   obtain ⟨ax,ea,ma⟩:=jba (a:=a) (i:=ia) (by omega)
   refine wpS_bind (jbd eb ?_)
   refine wpS_bind (jbd ea ?_)
   refine wpS_bind (w_lt C (l.kind.trans hk) (hb _ mb) (ha _ ma) ?_)
   by_cases hlt : R bx < R ax
   ·rw [decide_eq_true hlt]
    refine wpS_bind (jbd eb ?_)
    have m2:=pushB m eb fun z hz=>by
     obtain ⟨j,j1,j2,j3⟩:=jc8 hz
     exact Int.le_of_lt (Int.lt_of_lt_of_le hlt (ua.le ea j3 j1))
    refine jb5 (fun c=>wpS_pure ⟨rfl,.inl ⟨_,_,_,_,_,_,rfl,dn _ _ _ m2 (.inr (by simpa using c))⟩⟩) fun c=>?_
    have c' : ib + 1 < b.size:=by simp at c; omega
    have n1 : x + 1 < ia + (ib + 1):=by omega
    have n2 : x + min (y + 1) 1 < ia + (ib + 1):=by omega
    exact jb5 (fun _=>wpS_pure ⟨rfl,.inr ⟨_,_,_,_,_,rfl,m2,d1,c',n1⟩⟩) fun _=>wpS_pure ⟨rfl,_,_,_,_,_,rfl,m2,d1,c',n2⟩
   ·rw [decide_eq_false hlt]
    refine wpS_bind (jbd ea ?_)
    have m2:=pushA m ea fun z hz=>by
     obtain ⟨j,j1,j2,j3⟩:=jc8 hz
     exact Int.le_trans (Int.not_lt.mp hlt) (ub.le eb j3 j1)
    refine jb5 (fun c=>wpS_pure ⟨rfl,.inl ⟨_,_,_,_,_,_,rfl,ls _ _ _ m2 (by simpa using c)⟩⟩) fun c=>?_
    have c' : ia + 1 + 1 < a.size:=by simp at c; omega
    have n1 : x + 1 < ia + 1 + ib:=by omega
    have n2 : x + min (y + 1) 1 < ia + 1 + ib:=by omega
    exact jb5 (fun _=>wpS_pure ⟨rfl,.inr ⟨_,_,_,_,_,rfl,m2,c',d2,n1⟩⟩) fun _=>wpS_pure ⟨rfl,_,_,_,_,_,rfl,m2,c',d2,n2⟩
  case p1 =>
   rintro c st2 ⟨rfl,⟨m',out,ia,ib,ac,bc,rfl,f⟩ | ⟨out,ia,ib,ac,bc,rfl,m,d1,d2,d3⟩⟩
   ·exact wpS_pure ⟨l,m',_,_,_,_,rfl,f⟩
   ·refine wpS_bind (wpS_lift (wpAny_rule ⟨rfl,?_⟩))
    refine wpS_bind (wpS_mono (wpS_forRange (I:=fun y (c : Option (Array Keyed) × Array Keyed × Nat × Nat × Nat × Nat × Nat) st2=>Lk st st2∧∃ out ia ib mg ac bc,c = (none,out,ia,ib,mg,ac,bc)∧MS R out.toList (a.toList.drop ia) (b.toList.drop ib) tot∧ia + 1 < a.size∧ib < b.size∧x + 1 < ia + ib)
     (Q:=fun (c : Option (Array Keyed) × Array Keyed × Nat × Nat × Nat × Nat × Nat) st2=>Lk st st2∧((∃ m out ia ib mg ac bc,c = (some m,out,ia,ib,mg,ac,bc)∧Fi R m.toList tot) ∨
      (∃ out ia ib mg ac bc,c = (none,out,ia,ib,mg,ac,bc)∧MS R out.toList (a.toList.drop ia) (b.toList.drop ib) tot∧ia + 1 < a.size∧ib < b.size∧x + 1 < ia + ib))) ?s2 ?f2 ⟨l,out,ia,ib,_,ac,bc,rfl,m,d1,d2,d3⟩) ?p2)
    case f2 =>
     rintro c st3 ⟨l3,out,ia,ib,mg,ac,bc,rfl,m,d1,d2,d3⟩
     exact ⟨l3,.inr ⟨out,ia,ib,mg,ac,bc,rfl,m,d1,d2,d3⟩⟩
    case p2 =>
     rintro c st3 ⟨l3,⟨m',out,ia,ib,mg,ac,bc,rfl,f⟩ | ⟨out,ia,ib,mg,ac,bc,rfl,m,d1,d2,d3⟩⟩
     ·exact wpS_pure ⟨l3,m',_,_,_,_,rfl,f⟩
     ·exact wpS_bind (jir l3 fun st4 l4=>wpS_pure ⟨l4,_,_,_,_,rfl,m,d1,d2,d3⟩)
    case s2 =>
     rintro y c st3 _ hy ⟨l2,out,ia,ib,mg,ac,bc,rfl,m,d1,d2,d3⟩
     obtain ⟨bx,eb,mb⟩:=jba (a:=b) d2
     refine jb5 (fun _=>?_) fun _=>?_
     all_goals
      refine wpS_bind (jir l2 fun st4 l3=>?_)
      refine wpS_bind (jbd eb ?_)
      refine wpS_bind (jcv (base:=ia) (n:=a.size - ia) (hint:=0) C (l3.kind.trans hk) (hb _ mb) (fun i hi=>by
       obtain ⟨z,z1,z2⟩:=jba (a:=a) (i:=ia + i) (by omega)
       exact ⟨z,z1,ha _ z2⟩) (by omega) (fun i j q1 q2 q3=>ua i j (Nat.zero_le _) q2 (by omega)) fun k k1 k2 k3=>?_)
      have lowA : ∀ x ∈ (a.extract ia (ia + k)).toList,∀ y ∈ b.toList.drop ib,R x ≤ R y:=fun x hx y hy=>by
       obtain ⟨j,j1,j2⟩:=jm5 hx
       obtain ⟨i,i1,i2,i3⟩:=jc8 hy
       have q:=jgb (k2 j j1)
       rw [kv_at j2] at q
       exact Int.le_trans q (ub.le eb i3 i1)
      have upA : ∀ y ∈ a.toList.drop (ia + k),R bx ≤ R y:=fun y hy=>by
       obtain ⟨i,i1,i2,i3⟩:=jc8 hy
       have q:=jf6 (k3 (i - ia) (by omega) (by omega))
       rw [show ia + (i - ia) = i by omega,kv_at i3] at q
       exact Int.le_of_lt q
      have mk:=appA m lowA
      refine jb5 (fun ck=>?_) fun ck=>?_
      case' refine_1 =>
       refine jb5 (fun c=>wpS_pure ⟨l3,.inl ⟨_,_,_,_,_,_,_,rfl,ls _ _ _ mk (by simpa using c)⟩⟩) fun c3=>?_
       refine jb5 (fun c=>wpS_pure ⟨l3,.inl ⟨_,_,_,_,_,_,_,rfl,dn _ _ _ mk (.inl (by simpa using c))⟩⟩) fun c4=>?_
       have d4 : ia + k + 1 < a.size:=by simp at c3 c4; omega
       have n1 : ∀ z,x + 1 < ia + k + 1 + (ib + 1 + z):=fun z=>by omega
       obtain ⟨ax,ea,ma⟩:=jba (a:=a) (i:=ia + k) (by omega)
      case' refine_2 =>
       have e0 : k = 0:=by omega
       subst e0
       have d4 : ia + 0 + 1 < a.size:=d1
       have n1 : ∀ z,x + 1 < ia + 0 + 1 + (ib + 1 + z):=fun z=>by omega
       replace mk:=m
       obtain ⟨ax,ea,ma⟩:=jba (a:=a) (i:=ia + 0) (by omega)
      all_goals
       refine wpS_bind (jbd eb ?_)
       have m3:=pushB mk eb upA
       refine jb5 (fun c=>wpS_pure ⟨l3,.inl ⟨_,_,_,_,_,_,_,rfl,dn _ _ _ m3 (.inr (by simpa using c))⟩⟩) fun c5=>?_
       have d5 : ib + 1 < b.size:=by simp at c5; omega
       refine wpS_bind (jbd ea ?_)
       refine wpS_bind (jcv (base:=ib + 1) (n:=b.size - (ib + 1)) (hint:=0) C (l3.kind.trans hk) (ha _ ma) (fun i hi=>by
        obtain ⟨z,z1,z2⟩:=jba (a:=b) (i:=ib + 1 + i) (by omega)
        exact ⟨z,z1,hb _ z2⟩) (by omega) (fun i j q1 q2 q3=>ub i j (Nat.zero_le _) q2 (by omega)) fun k' j1 j2 j3=>?_)
       have m4:=appB (k:=k') m3 fun x hx y hy=>by
        obtain ⟨j,i1,i2⟩:=jm5 hx
        obtain ⟨i,i3,i4,i5⟩:=jc8 hy
        have q:=jih (j2 j i1)
        rw [kv_at i2] at q
        exact Int.le_of_lt (Int.lt_of_lt_of_le q (ua.le ea i5 i3))
       have upB : ∀ y ∈ b.toList.drop (ib + 1 + k'),R ax ≤ R y:=fun y hy=>by
        obtain ⟨i,i1,i2,i3⟩:=jc8 hy
        have q:=jga (j3 (i - (ib + 1)) (by omega) (by omega))
        rwa [show ib + 1 + (i - (ib + 1)) = i by omega,kv_at i3] at q
       refine jb5 (fun ck=>?_) fun ck=>?_
       case' refine_1 =>
        refine jb5 (fun c=>wpS_pure ⟨l3,.inl ⟨_,_,_,_,_,_,_,rfl,dn _ _ _ m4 (.inr (by simpa using c))⟩⟩) fun c6=>?_
        have d6 : ib + 1 + k' < b.size:=by simp at c6; omega
        have n2:=n1 k'
       case' refine_2 =>
        have e0 : k' = 0:=by omega
        subst e0
        have d6 : ib + 1 + 0 < b.size:=d5
        have n2:=n1 0
        replace m4:=m3
       all_goals
        refine wpS_bind (jbd ea ?_)
        have m5:=pushA m4 ea upB
        refine jb5 (fun c=>wpS_pure ⟨l3,.inl ⟨_,_,_,_,_,_,_,rfl,ls _ _ _ m5 (by simpa using c)⟩⟩) fun c7=>?_
        have d7:=Nat.lt_of_le_of_ne (Nat.succ_le_of_lt d4) (by simpa using c7)
        exact jb5 (fun _=>wpS_pure ⟨l3,.inr ⟨_,_,_,_,_,_,rfl,m5,d7,d6,n2⟩⟩) fun _=>wpS_pure ⟨l3,_,_,_,_,_,_,rfl,m5,d7,d6,n2⟩
end
end So
namespace So
open PySem PyProof.Rows
noncomputable def MH (R : Keyed→Int) (la lb o tot : List Keyed) : Prop:=(la ++ o).Pairwise (Le R)∧(lb ++ o).Pairwise (Le R)∧(la ++ (lb ++ o)).Perm tot
section
variable {R : Keyed→Int} {o la lb tot xs : List Keyed}
theorem MH.a (h : MH R (la ++ xs) lb o tot) (hx : ∀ x ∈ xs,∀ y ∈ lb,R y ≤ R x) : MH R la lb (xs ++ o) tot:=by
 obtain ⟨h1,h2,h3⟩:=h
 refine ⟨by rw [← List.append_assoc]; exact h1,?_,?_⟩
 ·rw [List.append_assoc,List.pairwise_append] at h1
  rw [List.pairwise_append] at h2 ⊢
  refine ⟨h2.1,h1.2.1,fun y hy x hx2=>?_⟩
  rcases List.mem_append.mp hx2 with n | n
  ·exact hx x n y hy
  ·exact h2.2.2 y hy x n
 ·refine List.Perm.trans ?_ h3
  rw [List.append_assoc]
  refine List.Perm.append_left _ ?_
  rw [← List.append_assoc,← List.append_assoc]
  exact List.Perm.append_right _ List.perm_append_comm
theorem MH.swap (h : MH R la lb o tot) : MH R lb la o tot:=by
 refine ⟨h.2.1,h.1,List.Perm.trans ?_ h.2.2⟩
 rw [← List.append_assoc,← List.append_assoc]
 exact List.Perm.append_right _ List.perm_append_comm
theorem MH.b (h : MH R la (lb ++ xs) o tot) (hx : ∀ x ∈ xs,∀ y ∈ la,R y ≤ R x) : MH R la lb (xs ++ o) tot:=(h.swap.a hx).swap
theorem MH.endB (h : MH R [] lb o tot) : Fi R (lb ++ o) tot:=⟨h.2.1,h.2.2⟩
theorem MH.endA (h : MH R la [] o tot) : Fi R (la ++ o) tot:=⟨h.1,h.2.2⟩
theorem MH.first (h : MH R la lb o tot) (hx : ∀ y ∈ lb,∀ x ∈ la,R y ≤ R x) : Fi R (lb ++ la ++ o) tot:=by
 obtain ⟨h1,h2,h3⟩:=h.swap
 refine ⟨?_,by rw [List.append_assoc]; exact h3⟩
 rw [List.append_assoc]
 rw [List.pairwise_append] at h1 h2 ⊢
 refine ⟨h1.1,List.pairwise_append.mpr h2,fun y hy x hx2=>?_⟩
 rcases List.mem_append.mp hx2 with n | n
 ·exact hx y hy x n
 ·exact h1.2.2 y hy x n
end
section
variable {a : Array Keyed} {R : Keyed→Int} {i k n : Nat}
theorem jl1 {x : Keyed} (h : 0 < n) (e : a[n - 1]? = some x) : a.toList.take n = a.toList.take (n - 1) ++ [x]:=by
 have e2 : a.toList[n - 1]? = some x:=by rw [Array.getElem?_toList]; exact e
 have z : a.toList.take (n - 1 + 1) = a.toList.take (n - 1) ++ a.toList[n - 1]?.toList:=List.take_succ
 rw [e2,Nat.sub_add_cancel h] at z
 exact z
theorem jix (h : i ≤ n) : a.toList.take n = a.toList.take i ++ (a.extract i n).toList:=by
 rw [jc9]
 have z : a.toList.take (i + (n - i)) = a.toList.take i ++ (a.toList.drop i).take (n - i):=List.take_add
 rwa [Nat.add_sub_cancel' h] at z
theorem ext0 (a : Array Keyed) (n : Nat) : (a.extract 0 n).toList = a.toList.take n:=by rw [jc9]; rfl
theorem jc7 {x : Keyed} (h : x ∈ a.toList.take n) : ∃ j,j < n∧j < a.size∧a[j]? = some x:=by
 obtain ⟨j,hj,e⟩:=List.getElem_of_mem h
 rw [List.getElem_take] at e
 rw [List.length_take,Array.length_toList] at hj
 refine ⟨j,by omega,by omega,?_⟩
 rw [← e,← Array.getElem?_toList]
 exact List.getElem?_eq_getElem _
theorem jcj {x : Keyed} (h : x ∈ (a.extract i n).toList) : ∃ j,i ≤ j∧j < n∧a[j]? = some x:=by
 rw [jc9] at h
 obtain ⟨j,hj,e⟩:=List.getElem_of_mem h
 rw [List.getElem_take,List.getElem_drop] at e
 rw [List.length_take] at hj
 refine ⟨i + j,by omega,by omega,?_⟩
 rw [← e,← Array.getElem?_toList]
 exact List.getElem?_eq_getElem _
end
section
variable {R : Keyed→Int} {a b out : Array Keyed} {na nb k : Nat} {tot : List Keyed}
noncomputable abbrev MHa (R : Keyed→Int) (a b : Array Keyed) (tot : List Keyed) (na nb : Nat) (out : Array Keyed) : Prop:=MH R (a.toList.take na) (b.toList.take nb) out.toList.reverse tot
theorem jmt (m : MHa R a b tot na nb out) (h : 0 < na) {x : Keyed} (e : a[na - 1]? = some x) (hx : ∀ y ∈ b.toList.take nb,R y ≤ R x) : MHa R a b tot (na - 1) nb (out.push x):=by
 unfold MHa at m ⊢
 rw [jl1 h e] at m
 rw [Array.toList_push,List.reverse_append]
 exact m.a (xs:=[x]) fun z hz=>by rw [List.mem_singleton.mp hz]; exact hx
theorem jpu (m : MHa R a b tot na nb out) (h : 0 < nb) {x : Keyed} (e : b[nb - 1]? = some x) (hx : ∀ y ∈ a.toList.take na,R y ≤ R x) : MHa R a b tot na (nb - 1) (out.push x):=by
 unfold MHa at m ⊢
 rw [jl1 h e] at m
 rw [Array.toList_push,List.reverse_append]
 exact m.b (xs:=[x]) fun z hz=>by rw [List.mem_singleton.mp hz]; exact hx
theorem happA (m : MHa R a b tot na nb out) (h : k ≤ na) (hx : ∀ x ∈ (a.extract k na).toList,∀ y ∈ b.toList.take nb,R y ≤ R x) : MHa R a b tot k nb (out ++ (a.extract k na).reverse):=by
 unfold MHa at m ⊢
 rw [jix h] at m
 rw [Array.toList_append,List.reverse_append,Array.toList_reverse,List.reverse_reverse]
 exact m.a hx
theorem happB (m : MHa R a b tot na nb out) (h : k ≤ nb) (hx : ∀ x ∈ (b.extract k nb).toList,∀ y ∈ a.toList.take na,R y ≤ R x) : MHa R a b tot na k (out ++ (b.extract k nb).reverse):=by
 unfold MHa at m ⊢
 rw [jix h] at m
 rw [Array.toList_append,List.reverse_append,Array.toList_reverse,List.reverse_reverse]
 exact m.b hx
end
section
variable {prog : Program} {w : World} {A : Around} {E : Value→Shared→Prop} {s : Shared} {R : Keyed→Int} {κ : SortKind} {a₀ : Array Keyed} {pd : Array (Nat × Nat × Nat)}
noncomputable abbrev HiSt:=Option (Array Keyed) × Nat × Nat × Array Keyed × Nat
theorem w_mHi (C : Cm prog w A s R κ a₀) {st : SortSt} (hk : kindOf st = κ) {a b : Array Keyed} {tot : List Keyed} (ha : ∀ x ∈ a.toList,x ∈ a₀.toList) (hb : ∀ x ∈ b.toList,x ∈ a₀.toList) (ua : Up R a 0 a.size) (ub : Up R b 0 b.size)
  (na1 : 1 ≤ a.size) (nb1 : 1 ≤ b.size) (h0 : ∀ x y,b[0]? = some x→a[0]? = some y→R x < R y) (hl : ∀ x y,x ∈ b.toList→a[a.size - 1]? = some y→R x < R y) (ht : (a.toList ++ b.toList).Perm tot)
  {Q : Array Keyed→SortSt→Prop} (h : ∀ m st',Lk st st'→Fi R m.toList tot→Q m st') : wpS (model prog w) A E s (mHi a b) Q st:=by
 obtain ⟨al,eal,mal⟩:=jba (a:=a) (i:=a.size - 1) (by omega)
 obtain ⟨b0,eb0,mb0⟩:=jba (a:=b) (i:=0) nb1
 obtain ⟨a0,ea0,ma0⟩:=jba (a:=a) (i:=0) na1
 have alla : a.toList.take a.size = a.toList:=List.take_of_length_le (by rw [Array.length_toList]; exact Nat.le_refl _)
 have allb : b.toList.take b.size = b.toList:=List.take_of_length_le (by rw [Array.length_toList]; exact Nat.le_refl _)
 have m0 : MHa R a b tot (a.size - 1) b.size #[al]:=by
  have z : MHa R a b tot a.size b.size #[]:=by
   refine ⟨?_,?_,?_⟩
   ·rw [show (#[] : Array Keyed).toList.reverse = [] from rfl,List.append_nil,alla,List.pairwise_iff_getElem]
    intro i j hi hj hij
    rw [Array.length_toList] at hi hj
    exact ua.le (getElem?_pos a i hi) (getElem?_pos a j hj) (Nat.le_of_lt hij)
   ·rw [show (#[] : Array Keyed).toList.reverse = [] from rfl,List.append_nil,allb,List.pairwise_iff_getElem]
    intro i j hi hj hij
    rw [Array.length_toList] at hi hj
    exact ub.le (getElem?_pos b i hi) (getElem?_pos b j hj) (Nat.le_of_lt hij)
   ·rw [show (#[] : Array Keyed).toList.reverse = [] from rfl,List.append_nil,alla,allb]; exact ht
  refine jmt z (by omega) eal fun y hy=>?_
  rw [allb] at hy
  exact Int.le_of_lt (hl _ _ hy eal)
 have dn : ∀ (na nb : Nat) (out : Array Keyed),MHa R a b tot na nb out→(na = 0 ∨ nb = 0)→Fi R (a.extract 0 na ++ b.extract 0 nb ++ out.reverse).toList tot:=by
  intro na nb out m hor
  unfold MHa at m
  rw [Array.toList_append,Array.toList_append,ext0,ext0,Array.toList_reverse]
  rcases hor with e | e
  ·rw [e,List.take_zero] at m ⊢
   exact m.endB
  ·rw [e,List.take_zero] at m ⊢
   rw [List.append_nil]; exact m.endA
 have fs : ∀ (na nb : Nat) (out : Array Keyed),MHa R a b tot na nb out→nb = 1→Fi R (b.extract 0 nb ++ a.extract 0 na ++ out.reverse).toList tot:=by
  intro na nb out m e
  unfold MHa at m
  rw [Array.toList_append,Array.toList_append,ext0,ext0,Array.toList_reverse]
  refine m.first fun y hy x hx=>?_
  obtain ⟨j,j1,j2,j3⟩:=jc7 hy
  obtain ⟨i,i1,i2,i3⟩:=jc7 hx
  have ej : j = 0:=by omega
  rw [ej] at j3
  exact Int.le_of_lt (Int.lt_of_lt_of_le (h0 _ _ j3 ea0) (ua.le ea0 i3 (Nat.zero_le _)))
 unfold mHi
 refine wpS_bind (wpS_lift (wpAny_rule ⟨rfl,?_⟩))
 refine wpS_bind (jbd eal ?_)
 refine jb5 (fun c=>wpS_pure (h _ _ (.refl _) (dn _ _ _ m0 (.inl (by simpa using c))))) fun c1=>?_
 refine jb5 (fun c=>wpS_pure (h _ _ (.refl _) (fs _ _ _ m0 (by simpa using c)))) fun c2=>?_
 have c1' : 0 < a.size - 1:=by
  rcases Nat.eq_zero_or_pos (a.size - 1) with z | z
  ·exact absurd (by rw [z]; rfl) c1
  ·exact z
 have c2' : 1 < b.size:=by simp at c2; omega
 refine wpS_bind (wpS_get ?_)
 refine wpS_bind (wpS_mono (wpS_forRange (I:=fun x (c : HiSt) st'=>Lk st st'∧∃ na nb out mg,c = (none,na,nb,out,mg)∧MHa R a b tot na nb out∧0 < na∧na ≤ a.size∧1 < nb∧nb ≤ b.size∧x + na + nb < a.size + b.size)
  (Q:=fun (c : HiSt) st'=>Lk st st'∧∃ m na nb out mg,c = (some m,na,nb,out,mg)∧Fi R m.toList tot) ?step ?fin ⟨.refl _,a.size - 1,b.size,#[al],_,rfl,m0,c1',by omega,c2',Nat.le_refl _,by omega⟩) ?post)
 case fin =>
  rintro c st' ⟨l,na,nb,out,mg,rfl,m,d1,d2,d3,d4,d5⟩
  omega
 case post =>
  rintro c st' ⟨l,m,na,nb,out,mg,rfl,f⟩
  exact wpS_pure (h m st' l f)
 case step =>
  rintro x c st' _ hx ⟨l,na,nb,out,mg,rfl,m,d1,d2,d3,d4,d5⟩
  refine wpS_bind (wpS_mono (wpS_forRange (I:=fun y (c : Option (Array Keyed) × Nat × Nat × Array Keyed × Nat × Nat) st2=>st2 = st'∧∃ na nb out ac bc,c = (none,na,nb,out,ac,bc)∧MHa R a b tot na nb out∧0 < na∧na ≤ a.size∧1 < nb∧nb ≤ b.size∧x + min y 1 + na + nb < a.size + b.size)
   (Q:=fun (c : Option (Array Keyed) × Nat × Nat × Array Keyed × Nat × Nat) st2=>st2 = st'∧((∃ m na nb out ac bc,c = (some m,na,nb,out,ac,bc)∧Fi R m.toList tot) ∨
    (∃ na nb out ac bc,c = (none,na,nb,out,ac,bc)∧MHa R a b tot na nb out∧0 < na∧na ≤ a.size∧1 < nb∧nb ≤ b.size∧x + 1 + na + nb < a.size + b.size))) ?s1 ?f1 ⟨rfl,na,nb,out,0,0,rfl,m,d1,d2,d3,d4,by omega⟩) ?p1)
  case f1 =>
   rintro c st2 ⟨rfl,na,nb,out,ac,bc,rfl,m,d1,d2,d3,d4,d5⟩
   exact ⟨rfl,.inr ⟨na,nb,out,ac,bc,rfl,m,d1,d2,d3,d4,by omega⟩⟩
  case s1 =>
   rintro y c st2 _ hy ⟨rfl,na,nb,out,ac,bc,rfl,m,d1,d2,d3,d4,d5⟩
   obtain ⟨bx,eb,mb⟩:=jba (a:=b) (i:=nb - 1) (by omega)
   obtain ⟨ax,ea,ma⟩:=jba (a:=a) (i:=na - 1) (by omega)
   refine wpS_bind (jbd eb ?_)
   refine wpS_bind (jbd ea ?_)
   refine wpS_bind (w_lt C (l.kind.trans hk) (hb _ mb) (ha _ ma) ?_)
   by_cases hlt : R bx < R ax
   ·rw [decide_eq_true hlt]
    refine wpS_bind (jbd ea ?_)
    have m2:=jmt m d1 ea fun z hz=>by
     obtain ⟨j,j1,j2,j3⟩:=jc7 hz
     exact Int.le_trans (ub.le j3 eb (by omega)) (Int.le_of_lt hlt)
    refine jb5 (fun c=>wpS_pure ⟨rfl,.inl ⟨_,_,_,_,_,_,rfl,dn _ _ _ m2 (.inl (by simpa using c))⟩⟩) fun c=>?_
    have c' : 0 < na - 1:=by
     rcases Nat.eq_zero_or_pos (na - 1) with z | z
     ·exact absurd (by rw [show (none,na,nb,out,ac,bc).snd.fst = na from rfl,z]; rfl) c
     ·exact z
    have n0 : na - 1 ≤ a.size:=by omega
    have n1 : x + 1 + (na - 1) + nb < a.size + b.size:=by omega
    have n2 : x + min (y + 1) 1 + (na - 1) + nb < a.size + b.size:=by omega
    exact jb5 (fun _=>wpS_pure ⟨rfl,.inr ⟨_,_,_,_,_,rfl,m2,c',n0,d3,d4,n1⟩⟩) fun _=>wpS_pure ⟨rfl,_,_,_,_,_,rfl,m2,c',n0,d3,d4,n2⟩
   ·rw [decide_eq_false hlt]
    refine wpS_bind (jbd eb ?_)
    have m2:=jpu m (by omega) eb fun z hz=>by
     obtain ⟨j,j1,j2,j3⟩:=jc7 hz
     exact Int.le_trans (ua.le j3 ea (by omega)) (Int.not_lt.mp hlt)
    refine jb5 (fun c=>wpS_pure ⟨rfl,.inl ⟨_,_,_,_,_,_,rfl,fs _ _ _ m2 (by simpa using c)⟩⟩) fun c=>?_
    have c' : 1 < nb - 1:=by
     have z : nb - 1 ≠ 1:=fun z=>c (by rw [show (none,na,nb,out,ac,bc).snd.snd.fst = nb from rfl,z]; rfl)
     omega
    have n0 : nb - 1 ≤ b.size:=by omega
    have n1 : x + 1 + na + (nb - 1) < a.size + b.size:=by omega
    have n2 : x + min (y + 1) 1 + na + (nb - 1) < a.size + b.size:=by omega
    exact jb5 (fun _=>wpS_pure ⟨rfl,.inr ⟨_,_,_,_,_,rfl,m2,d1,d2,c',n0,n1⟩⟩) fun _=>wpS_pure ⟨rfl,_,_,_,_,_,rfl,m2,d1,d2,c',n0,n2⟩
  case p1 =>
   rintro c st2 ⟨rfl,⟨m',na,nb,out,ac,bc,rfl,f⟩ | ⟨na,nb,out,ac,bc,rfl,m,d1,d2,d3,d4,d5⟩⟩
   ·exact wpS_pure ⟨l,m',_,_,_,_,rfl,f⟩
   ·refine wpS_bind (wpS_lift (wpAny_rule ⟨rfl,?_⟩))
    refine wpS_bind (wpS_mono (wpS_forRange (I:=fun y (c : Option (Array Keyed) × Nat × Nat × Array Keyed × Nat × Nat × Nat) st2=>Lk st st2∧∃ na nb out mg ac bc,c = (none,na,nb,out,mg,ac,bc)∧MHa R a b tot na nb out∧0 < na∧na ≤ a.size∧1 < nb∧nb ≤ b.size∧x + 1 + na + nb < a.size + b.size)
     (Q:=fun (c : Option (Array Keyed) × Nat × Nat × Array Keyed × Nat × Nat × Nat) st2=>Lk st st2∧((∃ m na nb out mg ac bc,c = (some m,na,nb,out,mg,ac,bc)∧Fi R m.toList tot) ∨
      (∃ na nb out mg ac bc,c = (none,na,nb,out,mg,ac,bc)∧MHa R a b tot na nb out∧0 < na∧na ≤ a.size∧1 < nb∧nb ≤ b.size∧x + 1 + na + nb < a.size + b.size))) ?s2 ?f2 ⟨l,na,nb,out,_,ac,bc,rfl,m,d1,d2,d3,d4,d5⟩) ?p2)
    case f2 =>
     rintro c st3 ⟨l3,na,nb,out,mg,ac,bc,rfl,m,d⟩
     exact ⟨l3,.inr ⟨na,nb,out,mg,ac,bc,rfl,m,d⟩⟩
    case p2 =>
     rintro c st3 ⟨l3,⟨m',na,nb,out,mg,ac,bc,rfl,f⟩ | ⟨na,nb,out,mg,ac,bc,rfl,m,d⟩⟩
     ·exact wpS_pure ⟨l3,m',_,_,_,_,rfl,f⟩
     ·exact wpS_bind (jir l3 fun st4 l4=>wpS_pure ⟨l4,_,_,_,_,rfl,m,d⟩)
    case s2 =>
     rintro y c st3 _ hy ⟨l2,na,nb,out,mg,ac,bc,rfl,m,d1,d2,d3,d4,d5⟩
     obtain ⟨bx,eb,mb⟩:=jba (a:=b) (i:=nb - 1) (by omega)
     refine jb5 (fun _=>?_) fun _=>?_
     all_goals
      refine wpS_bind (jir l2 fun st4 l3=>?_)
      refine wpS_bind (jbd eb ?_)
      refine wpS_bind (jcv (base:=0) (n:=na) (hint:=na - 1) C (l3.kind.trans hk) (hb _ mb) (fun i hi=>by
       obtain ⟨z,z1,z2⟩:=jba (a:=a) (i:=0 + i) (by omega)
       exact ⟨z,z1,ha _ z2⟩) (by omega) (fun i j q1 q2 q3=>ua i j (Nat.zero_le _) q2 (by omega)) fun k k1 k2 k3=>?_)
      have upA : ∀ y ∈ a.toList.take k,R y ≤ R bx:=fun y hy=>by
       obtain ⟨j,j1,j2,j3⟩:=jc7 hy
       have q:=jgb (k2 j j1)
       rwa [Nat.zero_add,kv_at j3] at q
      have mk:=happA m k1 fun x hx y hy=>by
       obtain ⟨j,j1,j2,j3⟩:=jcj hx
       obtain ⟨i,i1,i2,i3⟩:=jc7 hy
       have q:=jf6 (k3 j j1 j2)
       rw [Nat.zero_add,kv_at j3] at q
       exact Int.le_trans (ub.le i3 eb (by omega)) (Int.le_of_lt q)
      refine jb5 (fun ck=>?_) fun ck=>?_
      case' refine_1 =>
       refine jb5 (fun c=>wpS_pure ⟨l3,.inl ⟨_,_,_,_,_,_,_,rfl,dn _ _ _ mk (.inl (by simpa using c))⟩⟩) fun c3=>?_
       have e1 : 0 < k:=by simp at c3; omega
       have e2 : k ≤ a.size:=by omega
       have n1 : ∀ z,z ≤ nb - 1→x + 1 + (k - 1) + z < a.size + b.size:=fun z hz=>by omega
       obtain ⟨ax,ea,ma⟩:=jba (a:=a) (i:=k - 1) (by omega)
       have e3 : ∀ i,i < k→i ≤ k - 1:=fun i hi=>by omega
      case' refine_2 =>
       have e0 : k = na:=by
        have ck' : ¬ na - k > 0:=ck
        omega
       subst e0
       have e1:=d1
       have e2:=d2
       have n1 : ∀ z,z ≤ nb - 1→x + 1 + (k - 1) + z < a.size + b.size:=fun z hz=>by omega
       replace mk:=m
       obtain ⟨ax,ea,ma⟩:=jba (a:=a) (i:=k - 1) (by omega)
       have e3 : ∀ i,i < k→i ≤ k - 1:=fun i hi=>by omega
      all_goals
       refine wpS_bind (jbd eb ?_)
       have m3:=jpu mk (by omega) eb upA
       refine jb5 (fun c=>wpS_pure ⟨l3,.inl ⟨_,_,_,_,_,_,_,rfl,fs _ _ _ m3 (by simpa using c)⟩⟩) fun c5=>?_
       have d6 : 1 < nb - 1:=by
        have z : nb - 1 ≠ 1:=fun z=>c5 (by
         show (nb - 1 == 1) = true
         rw [z]; rfl)
        omega
       refine wpS_bind (jbd ea ?_)
       refine wpS_bind (jcv (base:=0) (n:=nb - 1) (hint:=nb - 1 - 1) C (l3.kind.trans hk) (ha _ ma) (fun i hi=>by
        obtain ⟨z,z1,z2⟩:=jba (a:=b) (i:=0 + i) (by omega)
        exact ⟨z,z1,hb _ z2⟩) (by omega) (fun i j q1 q2 q3=>ub i j (Nat.zero_le _) q2 (by omega)) fun k' j1 j2 j3=>?_)
       have upB : ∀ y ∈ b.toList.take k',R y ≤ R ax:=fun y hy=>by
        obtain ⟨i,i1,i2,i3⟩:=jc7 hy
        have q:=jih (j2 i i1)
        rw [Nat.zero_add,kv_at i3] at q
        exact Int.le_of_lt q
       have m4:=happB m3 j1 fun x hx y hy=>by
        obtain ⟨j,i1,i2,i3⟩:=jcj hx
        obtain ⟨i,i4,i5,i6⟩:=jc7 hy
        have q:=jga (j3 j i1 i2)
        rw [Nat.zero_add,kv_at i3] at q
        exact Int.le_trans (ua.le i6 ea (e3 i i4)) q
       refine jb5 (fun ck2=>?_) fun ck2=>?_
       case' refine_1 =>
        refine jb5 (fun c=>wpS_pure ⟨l3,.inl ⟨_,_,_,_,_,_,_,rfl,fs _ _ _ m4 (by simpa using c)⟩⟩) fun c6=>?_
        refine jb5 (fun c=>wpS_pure ⟨l3,.inl ⟨_,_,_,_,_,_,_,rfl,dn _ _ _ m4 (.inr (by simpa using c))⟩⟩) fun c7=>?_
        have d7 : 1 < k':=by simp at c6 c7; omega
        have d8 : k' ≤ b.size:=by omega
        have n2:=n1 k' j1
       case' refine_2 =>
        have e0 : k' = nb - 1:=by
         have ck' : ¬ nb - 1 - k' > 0:=ck2
         omega
        subst e0
        replace m4:=m3
        have d7:=d6
        have d8 : nb - 1 ≤ b.size:=by omega
        have n2:=n1 (nb - 1) (Nat.le_refl _)
       all_goals
        refine wpS_bind (jbd ea ?_)
        have m5:=jmt m4 e1 ea upB
        refine jb5 (fun c=>wpS_pure ⟨l3,.inl ⟨_,_,_,_,_,_,_,rfl,dn _ _ _ m5 (.inl (by simpa using c))⟩⟩) fun c8=>?_
        have d9 : 0 < k - 1:=by
         rcases Nat.eq_zero_or_pos (k - 1) with z | z
         ·refine absurd ?_ c8
          show (k - 1 == 0) = true
          rw [z]; rfl
         ·exact z
        have d10 : k - 1 ≤ a.size:=by omega
        exact jb5 (fun _=>wpS_pure ⟨l3,.inr ⟨_,_,_,_,_,_,rfl,m5,d9,d10,d7,d8,n2⟩⟩) fun _=>wpS_pure ⟨l3,_,_,_,_,_,_,rfl,m5,d9,d10,d7,d8,n2⟩
end
end So
namespace So
open PySem PyProof.Rows
noncomputable def jc5 (off : Nat) (l : List (Keyed × Nat)) (xs : Array Keyed) : Array Keyed:=l.foldl (fun a p=>a.setIfInBounds (off + p.2) p.1) xs
theorem jdv (off : Nat) : ∀ (m : List Keyed) (j : Nat) (xs : Array Keyed),off + j + m.length ≤ xs.size→∀ i,
  (jc5 off (m.zipIdx j) xs)[i]? = if off + j ≤ i∧i < off + j + m.length then m[i - (off + j)]? else xs[i]?
 | [],j,xs,_,i=>by rw [if_neg (by simp)]; rfl
 | p :: m,j,xs,h,i=>by
  rw [List.zipIdx_cons]
  show (jc5 off (m.zipIdx (j + 1)) (xs.setIfInBounds (off + j) p))[i]? = _
  rw [List.length_cons] at h ⊢
  rw [jdv off m (j + 1) _ (by rw [Array.size_setIfInBounds]; omega) i]
  by_cases c : i = off + j
  ·rw [if_neg (by omega),if_pos (by omega),c,Nat.sub_self,List.getElem?_cons_zero,Array.getElem?_setIfInBounds]
   rw [if_pos rfl,if_pos (by omega)]
  ·by_cases c2 : off + j ≤ i∧i < off + j + (m.length + 1)
   ·rw [if_pos (by omega),if_pos c2,show i - (off + j) = i - (off + (j + 1)) + 1 by omega,List.getElem?_cons_succ]
   ·rw [if_neg (by omega),if_neg c2,Array.getElem?_setIfInBounds,if_neg (by omega)]
theorem jhy {off : Nat} {m : List Keyed} {xs : Array Keyed} (h : off + m.length ≤ xs.size) (hp : m.Perm ((xs.toList.drop off).take m.length)) : (jc5 off (m.zipIdx 0) xs).Perm xs:=by
 rw [Array.perm_iff_toList_perm]
 have e : (jc5 off (m.zipIdx 0) xs).toList = xs.toList.take off ++ (m ++ xs.toList.drop (off + m.length)):=by
  apply List.ext_getElem?
  intro i
  have hlen : xs.toList.length = xs.size:=Array.length_toList
  rw [Array.getElem?_toList,jdv off m 0 xs (by omega),List.getElem?_append,List.length_take,hlen,Nat.min_eq_left (by omega)]
  by_cases c : i < off
  ·rw [if_neg (by omega),if_pos c,List.getElem?_take,if_pos c,Array.getElem?_toList]
  ·rw [if_neg c,List.getElem?_append]
   by_cases c2 : i < off + m.length
   ·rw [if_pos (by omega),if_pos (by omega),Nat.add_zero]
   ·rw [if_neg (by omega),if_neg (by omega),List.getElem?_drop,Array.getElem?_toList,show off + m.length + (i - off - m.length) = i by omega]
 rw [e]
 have e2 : xs.toList = xs.toList.take off ++ ((xs.toList.drop off).take m.length ++ xs.toList.drop (off + m.length)):=by
  rw [← List.drop_drop,List.take_append_drop,List.take_append_drop]
 conv=>rhs; rw [e2]
 exact List.Perm.append_left _ (List.Perm.append_right _ hp)
section
variable {prog : Program} {w : World} {A : Around} {E : Value→Shared→Prop} {s : Shared} {R : Keyed→Int} {κ : SortKind} {a₀ : Array Keyed} {pd : Array (Nat × Nat × Nat)}
theorem w_set {σ : Type} {M : Model} {st0 : σ} {Q : PUnit→σ→Prop} {st : σ} (h : Q ⟨⟩ st0) : wpS M A E s (set st0 : StateT σ Sem PUnit) Q st:=by
 unfold wpS; exact wpAny_pure ⟨rfl,h⟩
theorem Up.ext {xs : Array Keyed} {lo hi : Nat} (u : Up R xs lo hi) (h : hi ≤ xs.size) : Up R (xs.extract lo hi) 0 (xs.extract lo hi).size:=fun i j _ h2 h3=>by
 rw [Array.size_extract] at h3
 have e : ∀ k,k < hi - lo→(xs.extract lo hi)[k]? = xs[lo + k]?:=fun k hk=>by
  rw [Array.getElem?_extract]
  rw [if_pos (by omega)]
 rw [jfo (e i (by omega)),jfo (e j (by omega))]
 exact u _ _ (by omega) (by omega) (by omega)
theorem jkt (C : Cm prog w A s R κ a₀) {st : SortSt} (b : Bs κ a₀ pd st) {i : Nat} {sa na pa nb pb : Nat} (hp1 : pd[i]? = some (sa,na,pa)) (hp2 : pd[i + 1]? = some (sa + na,nb,pb))
  (h1 : 1 ≤ na) (h2 : 1 ≤ nb) (hs : sa + na + nb ≤ a₀.size) (ua : Up R (arrOf st) sa (sa + na)) (ub : Up R (arrOf st) (sa + na) (sa + na + nb)) {Q : Bool→SortSt→Prop}
  (h : ∀ st',Bs κ a₀ ((pd.setIfInBounds i (sa,na + nb,pa)).eraseIdxIfInBounds (i + 1)) st'→(∀ j,(j < sa ∨ sa + na + nb ≤ j)→(arrOf st')[j]? = (arrOf st)[j]?)→Up R (arrOf st') sa (sa + na + nb)→Q true st') :
  wpS (model prog w) A E s (mergeAt' i) Q st:=by
 rcases st with ⟨kd,xs,pn,mg,fl⟩
 have e1 : pn = pd:=b.pend
 have e2 : kd = κ:=b.kind
 have e3 : fl = none:=b.ok
 subst e1 e2 e3
 have hsz : xs.size = a₀.size:=b.size
 have hin : ∀ x,x ∈ xs.toList→x ∈ a₀.toList:=fun x hx=>(Array.perm_iff_toList_perm.mp (show xs.Perm a₀ from b.perm)).mem_iff.mp hx
 change Up R xs sa (sa + na) at ua
 change Up R xs (sa + na) (sa + na + nb) at ub
 change ∀ st',_→(∀ j,_→(arrOf st')[j]? = xs[j]?)→_ at h
 generalize hpd' : (pn.setIfInBounds i (sa,na + nb,pa)).eraseIdxIfInBounds (i + 1) = pd' at h
 have hle : ∀ {i j : Nat} {x y : Keyed},xs[i]? = some x→xs[j]? = some y→kv R xs i ≤ kv R xs j→R x ≤ R y:=fun q1 q2 q3=>by rwa [kv_at q1,kv_at q2] at q3
 unfold mergeAt'
 refine wpS_bind (wpS_get ?_)
 dsimp only
 rw [hp1,hp2]
 refine wpS_bind (w_set ?_)
 rw [hpd']
 have st1 : Bs kd a₀ pd' (SortSt.mk' kd xs pd' mg none):=⟨b.perm,rfl,rfl,rfl⟩
 obtain ⟨b0,eb0,mb0⟩:=jba (a:=xs) (i:=sa + na) (by omega)
 refine wpS_bind (jbd eb0 ?_)
 refine wpS_bind (jcv (base:=sa) (n:=na) (hint:=0) C rfl (hin _ mb0) (fun i hi=>by
  obtain ⟨z,z1,z2⟩:=jba (a:=xs) (i:=sa + i) (by omega)
  exact ⟨z,z1,hin _ z2⟩) (by omega) ua fun k k1 k2 k3=>?_)
 have lowk : ∀ j,sa ≤ j→j < sa + k→kv R xs j ≤ R b0:=fun j q1 q2=>by
  have q:=jgb (k2 (j - sa) (by omega))
  rwa [show sa + (j - sa) = j by omega] at q
 have upk : ∀ j,sa + k ≤ j→j < sa + na→R b0 < kv R xs j:=fun j q1 q2=>by
  have q:=jf6 (k3 (j - sa) (by omega) (by omega))
  rwa [show sa + (j - sa) = j by omega] at q
 have upb : ∀ j,sa + na ≤ j→j < sa + na + nb→R b0 ≤ kv R xs j:=fun j q1 q2=>by
  have q:=ub (sa + na) j (Nat.le_refl _) q1 q2
  rwa [kv_at eb0] at q
 refine jb5 (fun c=>wpS_pure (h _ st1 (fun _ _=>rfl) ?_)) fun c1=>?_
 ·have ek : k = na:=by
   have c' : na - k = 0:=by simpa using c
   omega
  intro i j q1 q2 q3
  show kv R xs i ≤ kv R xs j
  by_cases cj : j < sa + na
  ·exact ua i j q1 q2 cj
  ·by_cases ci : i < sa + na
   ·exact Int.le_trans (lowk i q1 (by omega)) (upb j (by omega) q3)
   ·exact ub i j (by omega) q2 q3
 have c1' : k < na:=by
  have c' : na - k ≠ 0:=by simpa using c1
  omega
 obtain ⟨al,eal,mal⟩:=jba (a:=xs) (i:=sa + k + (na - k) - 1) (by omega)
 refine wpS_bind (jbd eal ?_)
 refine wpS_bind (jcv (base:=sa + na) (n:=nb) (hint:=nb - 1) C rfl (hin _ mal) (fun i hi=>by
  obtain ⟨z,z1,z2⟩:=jba (a:=xs) (i:=sa + na + i) (by omega)
  exact ⟨z,z1,hin _ z2⟩) (by omega) ub fun n2 j1 j2 j3=>?_)
 rw [show sa + k + (na - k) - 1 = sa + na - 1 by omega] at eal
 have lastA : ∀ j,sa ≤ j→j < sa + na→kv R xs j ≤ R al:=fun j q1 q2=>by
  have q:=ua j (sa + na - 1) q1 (by omega) (by omega)
  rwa [kv_at eal] at q
 have lowB : ∀ j,sa + na ≤ j→j < sa + na + n2→kv R xs j < R al:=fun j q1 q2=>by
  have q:=jih (j2 (j - (sa + na)) (by omega))
  rwa [show sa + na + (j - (sa + na)) = j by omega] at q
 have upB : ∀ j,sa + na + n2 ≤ j→j < sa + na + nb→R al ≤ kv R xs j:=fun j q1 q2=>by
  have q:=jga (j3 (j - (sa + na)) (by omega) (by omega))
  rwa [show sa + na + (j - (sa + na)) = j by omega] at q
 refine jb5 (fun c=>wpS_pure (h _ st1 (fun _ _=>rfl) ?_)) fun c2=>?_
 ·have e2 : n2 = 0:=by simpa using c
  intro i j q1 q2 q3
  show kv R xs i ≤ kv R xs j
  by_cases cj : j < sa + na
  ·exact ua i j q1 q2 cj
  ·by_cases ci : i < sa + na
   ·exact Int.le_trans (lastA i q1 ci) (upB j (by omega) q3)
   ·exact ub i j (by omega) q2 q3
 have c2' : 1 ≤ n2:=by
  have c' : n2 ≠ 0:=by simpa using c2
  omega
 have hx : Up R (xs.extract (sa + k) (sa + na)) 0 (xs.extract (sa + k) (sa + na)).size:=Up.ext (fun i j q1 q2 q3=>ua i j (by omega) q2 q3) (by omega)
 have hy : Up R (xs.extract (sa + na) (sa + na + n2)) 0 (xs.extract (sa + na) (sa + na + n2)).size:=Up.ext (fun i j q1 q2 q3=>ub i j (by omega) q2 (by omega)) (by omega)
 have sx : (xs.extract (sa + k) (sa + na)).size = na - k:=by rw [Array.size_extract]; omega
 have sy : (xs.extract (sa + na) (sa + na + n2)).size = n2:=by rw [Array.size_extract]; omega
 have gx : ∀ j,j < na - k→(xs.extract (sa + k) (sa + na))[j]? = xs[sa + k + j]?:=fun j hj=>by rw [Array.getElem?_extract,if_pos (by omega)]
 have gy : ∀ j,j < n2→(xs.extract (sa + na) (sa + na + n2))[j]? = xs[sa + na + j]?:=fun j hj=>by rw [Array.getElem?_extract,if_pos (by omega)]
 have ix : ∀ z ∈ (xs.extract (sa + k) (sa + na)).toList,z ∈ a₀.toList:=fun z hz=>by
  obtain ⟨j,q1,q2,q3⟩:=jcj hz
  obtain ⟨v,v1,v2⟩:=jba (a:=xs) (i:=j) (by omega)
  rw [q3] at v1
  cases v1
  exact hin _ v2
 have iy : ∀ z ∈ (xs.extract (sa + na) (sa + na + n2)).toList,z ∈ a₀.toList:=fun z hz=>by
  obtain ⟨j,q1,q2,q3⟩:=jcj hz
  obtain ⟨v,v1,v2⟩:=jba (a:=xs) (i:=j) (by omega)
  rw [q3] at v1
  cases v1
  exact hin _ v2
 have p0 : ∀ x y,(xs.extract (sa + na) (sa + na + n2))[0]? = some x→(xs.extract (sa + k) (sa + na))[0]? = some y→R x < R y:=fun x y q1 q2=>by
  rw [gy 0 (by omega)] at q1
  rw [gx 0 (by omega)] at q2
  have q:=upk (sa + k + 0) (by omega) (by omega)
  rw [kv_at q2] at q
  have e : x = b0:=by
   rw [Nat.add_zero,eb0] at q1
   cases q1; rfl
  rw [e]; exact q
 have pl : ∀ x y,x ∈ (xs.extract (sa + na) (sa + na + n2)).toList→(xs.extract (sa + k) (sa + na))[(xs.extract (sa + k) (sa + na)).size - 1]? = some y→R x < R y:=fun x y q1 q2=>by
  rw [sx,gx _ (by omega),show sa + k + (na - k - 1) = sa + na - 1 by omega,eal] at q2
  cases q2
  obtain ⟨j,r1,r2,r3⟩:=jcj q1
  have q:=lowB j r1 r2
  rwa [kv_at r3] at q
 have fini : ∀ (m : Array Keyed) (st' : SortSt),Lk (SortSt.mk' kd xs pd' mg none) st'→Fi R m.toList ((xs.extract (sa + k) (sa + na)).toList ++ (xs.extract (sa + na) (sa + na + n2)).toList) →
   Q true (SortSt.mk' (kindOf st') (jc5 (sa + k) (m.toList.zipIdx 0) (arrOf st')) (pendingOf st') (gallopOf st') (failedOf st'))∧failedOf st' = none:=by
  intro m st' l f
  have ea : arrOf st' = xs:=l.arr
  have hml : m.toList.length = na - k + n2:=by
   rw [f.2.length_eq,List.length_append,Array.length_toList,Array.length_toList,sx,sy]
  have hmz : ∀ z ∈ m.toList,∃ j,sa + k ≤ j∧j < sa + na + n2∧xs[j]? = some z:=fun z hz=>by
   rcases List.mem_append.mp (f.2.mem_iff.mp hz) with q | q
   ·obtain ⟨j,q1,q2,q3⟩:=jcj q
    exact ⟨j,q1,by omega,q3⟩
   ·obtain ⟨j,q1,q2,q3⟩:=jcj q
    exact ⟨j,by omega,q2,q3⟩
  have hperm : (jc5 (sa + k) (m.toList.zipIdx 0) xs).Perm xs:=by
   refine jhy (by omega) (f.2.trans ?_)
   rw [hml,List.take_add,jc9,jc9,List.drop_drop,show sa + na - (sa + k) = na - k by omega,show sa + k + (na - k) = sa + na by omega,show sa + na + n2 - (sa + na) = n2 by omega]
  have hget:=jdv (sa + k) m.toList 0 xs (by omega)
  rw [hml] at hget
  refine ⟨h _ ⟨?_,l.kind,l.ok,l.pend⟩ ?_ ?_,l.ok⟩
  ·show (jc5 (sa + k) (m.toList.zipIdx 0) (arrOf st')).Perm a₀
   rw [ea]; exact hperm.trans b.perm
  ·intro j hj
   show (jc5 (sa + k) (m.toList.zipIdx 0) (arrOf st'))[j]? = xs[j]?
   rw [ea,hget,if_neg (by omega)]
  ·intro i j q1 q2 q3
   show kv R (jc5 (sa + k) (m.toList.zipIdx 0) (arrOf st')) i ≤ kv R (jc5 (sa + k) (m.toList.zipIdx 0) (arrOf st')) j
   rw [ea]
   have out : ∀ i,¬ (sa + k ≤ i∧i < sa + na + n2)→kv R (jc5 (sa + k) (m.toList.zipIdx 0) xs) i = kv R xs i:=fun i hi=>jfo (by rw [hget,if_neg (by omega)])
   have ins : ∀ i,sa + k ≤ i→i < sa + na + n2→∃ z,m.toList[i - (sa + k)]? = some z∧z ∈ m.toList∧kv R (jc5 (sa + k) (m.toList.zipIdx 0) xs) i = R z:=fun i hi1 hi2=>by
    have hlt : i - (sa + k) < m.toList.length:=by omega
    refine ⟨m.toList[i - (sa + k)],List.getElem?_eq_getElem hlt,List.getElem_mem _,kv_at ?_⟩
    rw [hget,if_pos (by omega),Nat.add_zero]
    exact List.getElem?_eq_getElem hlt
   by_cases ci : sa + k ≤ i∧i < sa + na + n2
   ·obtain ⟨z,z1,z2,z3⟩:=ins i ci.1 ci.2
    obtain ⟨iz,y1,y2,y3⟩:=hmz z z2
    by_cases cj : sa + k ≤ j∧j < sa + na + n2
    ·obtain ⟨v,v1,v2,v3⟩:=ins j cj.1 cj.2
     rw [z3,v3]
     by_cases eij : i = j
     ·rw [eij] at z1
      rw [z1] at v1
      cases v1
      exact Int.le_refl _
     ·have hlt1 : i - (sa + k) < m.toList.length:=by omega
      have hlt2 : j - (sa + k) < m.toList.length:=by omega
      have q:=List.pairwise_iff_getElem.mp f.1 (i - (sa + k)) (j - (sa + k)) hlt1 hlt2 (by omega)
      rw [List.getElem?_eq_getElem hlt1] at z1
      rw [List.getElem?_eq_getElem hlt2] at v1
      cases z1
      cases v1
      exact q
    ·rw [z3,out j cj,← kv_at (R:=R) y3]
     have hj2 : sa + na + n2 ≤ j:=by omega
     refine Int.le_trans ?_ (upB j hj2 q3)
     by_cases cz : iz < sa + na
     ·exact lastA iz (by omega) cz
     ·exact Int.le_of_lt (lowB iz (by omega) y2)
   ·rw [out i ci]
    by_cases cj : sa + k ≤ j∧j < sa + na + n2
    ·obtain ⟨v,v1,v2,v3⟩:=ins j cj.1 cj.2
     obtain ⟨iz,y1,y2,y3⟩:=hmz v v2
     rw [v3,← kv_at (R:=R) y3]
     refine Int.le_trans (lowk i q1 (by omega)) ?_
     by_cases cz : iz < sa + na
     ·exact Int.le_of_lt (upk iz y1 cz)
     ·exact upb iz (by omega) (by omega)
    ·rw [out j cj]
     by_cases c3 : j < sa + na
     ·exact ua i j q1 q2 c3
     ·by_cases c4 : i < sa + na
      ·exact Int.le_trans (lowk i q1 (by omega)) (upb j (by omega) q3)
      ·exact ub i j (by omega) q2 q3
 have close : ∀ (m : Array Keyed) (st' : SortSt),Lk (SortSt.mk' kd xs pd' mg none) st'→Fi R m.toList ((xs.extract (sa + k) (sa + na)).toList ++ (xs.extract (sa + na) (sa + na + n2)).toList) →
   Q (failedOf (SortSt.mk' (kindOf st') (jc5 (sa + k) (m.toList.zipIdx 0) (arrOf st')) (pendingOf st') (gallopOf st') (failedOf st'))).isNone (SortSt.mk' (kindOf st') (jc5 (sa + k) (m.toList.zipIdx 0) (arrOf st')) (pendingOf st') (gallopOf st') (failedOf st')):=by
  intro m st' l f
  obtain ⟨z1,z2⟩:=fini m st' l f
  show Q (failedOf st').isNone _
  rw [z2] at z1 ⊢
  exact z1
 refine jb5 (fun c=>?_) fun c=>?_
 ·exact wpS_bind (w_mLo C rfl ix iy hx hy (by omega) (by omega) p0 pl (List.Perm.refl _) fun m st' l f=>wpS_bind (wpS_modify (wpS_bind (wpS_get (wpS_pure (close m st' l f))))))
 ·exact wpS_bind (w_mHi C rfl ix iy hx hy (by omega) (by omega) p0 pl (List.Perm.refl _) fun m st' l f=>wpS_bind (wpS_modify (wpS_bind (wpS_get (wpS_pure (close m st' l f))))))
end
end So
namespace So
open PySem PyProof.Rows
noncomputable def two (pd : Array (Nat × Nat × Nat)) : List (Nat × Nat):=pd.toList.map fun t=>(t.1,t.2.1)
noncomputable def Ch (R : Keyed→Int) (xs : Array Keyed) : Nat→List (Nat × Nat)→Nat→Prop
 | p,[],q=>p = q
 | p,(s,n) :: r,q=>s = p∧1 ≤ n∧Up R xs s (s + n)∧Ch R xs (s + n) r q
section
variable {R : Keyed→Int} {xs ys : Array Keyed}
theorem Ch.app : ∀ {l1 l2 : List (Nat × Nat)} {p q : Nat},Ch R xs p (l1 ++ l2) q ↔ ∃ m,Ch R xs p l1 m∧Ch R xs m l2 q
 | [],l2,p,q=>⟨fun h=>⟨p,rfl,h⟩,fun ⟨m,e,h⟩=>by rw [show p = m from e]; exact h⟩
 | (s,n) :: l1,l2,p,q=>by
  show s = p∧1 ≤ n∧Up R xs s (s + n)∧Ch R xs (s + n) (l1 ++ l2) q ↔ _
  rw [Ch.app (l1:=l1)]
  exact ⟨fun ⟨a,b,c,m,d,e⟩=>⟨m,⟨a,b,c,d⟩,e⟩,fun ⟨m,⟨a,b,c,d⟩,e⟩=>⟨a,b,c,m,d,e⟩⟩
theorem Ch.le : ∀ {l : List (Nat × Nat)} {p q : Nat},Ch R xs p l q→p + l.length ≤ q
 | [],p,q,h=>by rw [show p = q from h]; exact Nat.le_refl _
 | (s,n) :: l,p,q,⟨a,b,c,d⟩=>by
  have z:=Ch.le d
  rw [List.length_cons]; omega
theorem Up.like {lo hi : Nat} (u : Up R xs lo hi) (h : ∀ i,lo ≤ i→i < hi→ys[i]? = xs[i]?) : Up R ys lo hi:=fun i j h1 h2 h3=>by
 rw [jfo (h i h1 (by omega)),jfo (h j (by omega) h3)]
 exact u i j h1 h2 h3
theorem Ch.like : ∀ {l : List (Nat × Nat)} {p q : Nat},Ch R xs p l q→(∀ i,p ≤ i→i < q→ys[i]? = xs[i]?)→Ch R ys p l q
 | [],p,q,h,_=>h
 | (s,n) :: l,p,q,⟨a,b,c,d⟩,e=>by
  have z:=Ch.le d
  exact ⟨a,b,c.like fun i h1 h2=>e i (by omega) (by omega),d.like fun i h1 h2=>e i (by omega) h2⟩
end
theorem split2 {α : Type} {l : List α} {i : Nat} (h : i + 1 < l.length) : ∃ P x y S,l = P ++ x :: y :: S∧P.length = i∧l[i]? = some x∧l[i + 1]? = some y:=by
 refine ⟨l.take i,l[i],l[i + 1],l.drop (i + 2),?_,by rw [List.length_take]; omega,List.getElem?_eq_getElem _,List.getElem?_eq_getElem _⟩
 rw [← List.drop_eq_getElem_cons,← List.drop_eq_getElem_cons,List.take_append_drop]
theorem mid {α : Type} {P S : List α} {x y v : α} : ((P ++ x :: y :: S).set P.length v).eraseIdx (P.length + 1) = P ++ v :: S:=by
 rw [List.set_append_right _ _ (Nat.le_refl _),Nat.sub_self,List.set_cons_zero,List.eraseIdx_append_of_length_le (Nat.le_succ _),show P.length.succ - P.length = 1 by omega]
 rfl
section
variable {prog : Program} {w : World} {A : Around} {E : Value→Shared→Prop} {s : Shared} {R : Keyed→Int} {κ : SortKind} {a₀ : Array Keyed} {pd : Array (Nat × Nat × Nat)}
theorem jgl (C : Cm prog w A s R κ a₀) {st : SortSt} (b : Bs κ a₀ pd st) {i lo : Nat} (ch : Ch R (arrOf st) 0 (two pd) lo) (hlo : lo ≤ a₀.size) (hi : i + 1 < pd.size) {Q : Bool→SortSt→Prop}
  (h : ∀ st' pd',Bs κ a₀ pd' st'→pd'.size + 1 = pd.size→Ch R (arrOf st') 0 (two pd') lo→(∀ j,lo ≤ j→(arrOf st')[j]? = (arrOf st)[j]?)→Q true st') : wpS (model prog w) A E s (mergeAt' i) Q st:=by
 obtain ⟨P,x,y,S,e1,e2,e3,e4⟩:=split2 (l:=pd.toList) (i:=i) (by rw [Array.length_toList]; exact hi)
 obtain ⟨s1,n1,p1⟩:=x
 obtain ⟨s2,n2,p2⟩:=y
 rw [Array.getElem?_toList] at e3 e4
 unfold two at ch
 rw [e1,List.map_append,Ch.app] at ch
 obtain ⟨m,c1,c2⟩:=ch
 rw [List.map_cons,List.map_cons] at c2
 obtain ⟨z1,z2,z3,z4,z5,z6,z7⟩:=c2
 have z1' : s1 = m:=z1
 have z4' : s2 = s1 + n1:=z4
 subst z1' z4'
 have z5' : 1 ≤ n2:=z5
 have le2:=Ch.le z7
 have le2' : s1 + n1 + n2 + (S.map fun t=>(t.1,t.2.1)).length ≤ lo:=le2
 have le1:=Ch.le c1
 refine jkt C b e3 e4 z2 z5' (by omega) z3 z6 fun st' b' hout u=>h st' _ b' ?_ ?_ fun j hj=>hout j (.inr (by omega))
 ·have q : ((pd.setIfInBounds i (s1,n1 + n2,p1)).eraseIdxIfInBounds (i + 1)).toList.length + 1 = pd.toList.length:=by
   rw [Array.toList_eraseIdxIfInBounds,Array.toList_setIfInBounds,e1,← e2,mid]
   simp only [List.length_append,List.length_cons]
   omega
  rwa [Array.length_toList,Array.length_toList] at q
 ·unfold two
  rw [Array.toList_eraseIdxIfInBounds,Array.toList_setIfInBounds,e1,← e2,mid,List.map_append,Ch.app]
  refine ⟨s1,c1.like fun k q1 q2=>hout k (.inl q2),rfl,by show 1 ≤ n1 + n2; omega,?_,?_⟩
  ·show Up R (arrOf st') s1 (s1 + (n1 + n2))
   rw [← Nat.add_assoc]; exact u
  ·show Ch R (arrOf st') (s1 + (n1 + n2)) _ lo
   rw [← Nat.add_assoc]
   exact z7.like fun k q1 q2=>hout k (.inr q1)
theorem jnu (x : Nat × Nat × Nat) : two (pd.push x) = two pd ++ [(x.1,x.2.1)]:=by
 unfold two; rw [Array.toList_push,List.map_append]; rfl
theorem jqb (i p : Nat) : two (pd.modify i fun x=>match x with | (a,n,_)=>(a,n,p)) = two pd:=by
 unfold two
 rw [Array.toList_modify]
 apply List.ext_getElem?
 intro j
 rw [List.getElem?_map,List.getElem?_map,List.getElem?_modify]
 cases pd.toList[j]? with
 | none=>rfl
 | some t =>
  obtain ⟨a,n,q⟩:=t
  by_cases c : i = j <;> simp [c]
theorem w_sort (C : Cm prog w A s R κ a₀) {st : SortSt} (b : Bs κ a₀ #[] st) (h1 : 1 ≤ a₀.size) {Q : Unit→SortSt→Prop}
  (h : ∀ st',(arrOf st').Perm a₀→failedOf st' = none→Up R (arrOf st') 0 a₀.size→Q () st') : wpS (model prog w) A E s sortRuns' Q st:=by
 have pn : ∀ {st : SortSt} {pd : Array (Nat × Nat × Nat)},Bs κ a₀ pd st→(sortPriv% PySem.Builtin.SortState.pending) st = pd:=fun b=>b.pend
 have sz : (sortPriv% PySem.Builtin.SortState.a) st = arrOf st:=rfl
 unfold sortRuns'
 refine wpS_bind (wpS_get ?_)
 rw [sz,b.size]
 refine wpS_bind (wpS_mono (wpS_forRange (I:=fun x (c : Option Unit × Nat) st'=>∃ lo pd,c = (none,lo)∧Bs κ a₀ pd st'∧Ch R (arrOf st') 0 (two pd) lo∧lo ≤ a₀.size∧min x a₀.size ≤ lo)
  (Q:=fun (c : Option Unit × Nat) st'=>∃ pd,c = (none,a₀.size)∧Bs κ a₀ pd st'∧Ch R (arrOf st') 0 (two pd) a₀.size) ?step ?fin ⟨0,#[],rfl,b,rfl,Nat.zero_le _,by omega⟩) ?post)
 case fin =>
  rintro c st' ⟨lo,pd,rfl,b',ch,q1,q2⟩
  have e : lo = a₀.size:=by omega
  subst e
  exact ⟨pd,rfl,b',ch⟩
 case post =>
  rintro c st' ⟨pd,rfl,b',ch⟩
  refine wpS_bind (wpS_mono (wpS_forRange (I:=fun x (c : Option Unit × Unit) st'=>∃ pd,c = (none,())∧Bs κ a₀ pd st'∧Ch R (arrOf st') 0 (two pd) a₀.size∧(pd.size + x ≤ a₀.size ∨ pd.size ≤ 1))
   (Q:=fun (c : Option Unit × Unit) st'=>∃ pd,c = (none,())∧Bs κ a₀ pd st'∧Ch R (arrOf st') 0 (two pd) a₀.size∧pd.size ≤ 1) ?s2 ?f2 ⟨pd,rfl,b',ch,?_⟩) ?p2)
  case f2 =>
   rintro c st2 ⟨pd,rfl,b2,ch2,q⟩
   exact ⟨pd,rfl,b2,ch2,by omega⟩
  case p2 =>
   rintro c st2 ⟨pd,rfl,b2,ch2,q⟩
   refine wpS_pure (h st2 b2.perm b2.ok ?_)
   match hl : two pd,ch2 with
   | [],e=>exact absurd (show 0 = a₀.size from e) (by omega)
   | [(p1,n1)],⟨e1,e2,e3,e4⟩ =>
    have e1' : p1 = 0:=e1
    have e4' : p1 + n1 = a₀.size:=e4
    rw [e4'] at e3
    rw [e1'] at e3
    exact e3
   | x :: y :: r,_ =>
    have z : (two pd).length = pd.size:=by unfold two; rw [List.length_map,Array.length_toList]
    rw [hl,List.length_cons,List.length_cons] at z
    omega
  case s2 =>
   rintro x c st2 _ hx ⟨pd,rfl,b2,ch2,q⟩
   refine wpS_bind (wpS_get ?_)
   rw [pn b2]
   refine jb5 (fun c=>wpS_pure ⟨pd,rfl,b2,ch2,c⟩) fun c=>?_
   refine wpS_bind (jgl C b2 ch2 (Nat.le_refl _) ?_ fun st3 pd3 b3 q3 ch3 _=>?_)
   ·exact (fun (c : Prop) [Decidable c]=>(by split <;> omega : (if c then pd.size - 2 - 1 else pd.size - 2) + 1 < pd.size)) _
   ·exact jb5 (fun c=>by cases c) fun _=>wpS_pure ⟨pd3,rfl,b3,ch3,by omega⟩
  ·have z:=Ch.le ch
   unfold two at z
   rw [List.length_map,Array.length_toList] at z
   omega
 case step =>
  rintro x c st' _ hx ⟨lo,pd,rfl,b',ch,q1,q2⟩
  refine jb5 (fun c=>?_) fun c=>?_
  ·have e : lo = a₀.size:=by
    have c' : lo ≥ a₀.size:=c
    omega
   subst e
   exact wpS_pure ⟨pd,rfl,b',ch⟩
  have c' : lo < a₀.size:=Nat.lt_of_not_le c
  refine wpS_bind (jq9 (lo:=lo) (nrem:=a₀.size - lo) C (by omega) (by omega) b' fun m st2 b2 f2 m1 m2 u2=>?_)
  have ch2 : Ch R (arrOf st2) 0 (two pd) lo:=ch.like fun i _ hi=>f2 i hi
  have push : ∀ (n : Nat) (st4 : SortSt) (pd4 : Array (Nat × Nat × Nat)),Bs κ a₀ pd4 st4→Ch R (arrOf st4) 0 (two pd4) lo→Up R (arrOf st4) lo (lo + n)→1 ≤ n→lo + n ≤ a₀.size →
    ∃ lo' pd',((none,lo + n) : Option Unit × Nat) = (none,lo')∧Bs κ a₀ pd' (SortSt.mk' (kindOf st4) (arrOf st4) ((pendingOf st4).push (lo,n,0)) (gallopOf st4) (failedOf st4))∧Ch R (arrOf st4) 0 (two pd') lo'∧lo' ≤ a₀.size∧min (x + 1) a₀.size ≤ lo':=by
   intro n st4 pd4 b4 ch4 u4 n1 n2
   refine ⟨lo + n,pd4.push (lo,n,0),rfl,⟨b4.perm,b4.kind,b4.ok,?_⟩,?_,n2,by omega⟩
   ·show (pendingOf st4).push (lo,n,0) = _
    rw [b4.pend]
   ·rw [jnu,Ch.app]
    exact ⟨lo,ch4,rfl,n1,u4,rfl⟩
  refine jb5 (fun cm=>?_) fun cm=>?_
  case' refine_1 =>
   refine wpS_bind (wpS_lift (wpAny_rule ⟨rfl,?_⟩))
   refine wpS_bind (w_ins (lo:=lo) (n:=min (a₀.size - lo) (minRun' a₀.size a₀.size 0)) (ok:=m) C (by omega) (by
    have cm' : m < minRun' a₀.size a₀.size 0:=cm
    omega) b2 u2 fun st3 b3 f3 u3=>?_)
   refine jb5 (fun c=>by cases c) fun _=>?_
   have ch3 : Ch R (arrOf st3) 0 (two pd) lo:=ch2.like fun i _ hi=>f3 i hi
   have n1 : 1 ≤ min (a₀.size - lo) (minRun' a₀.size a₀.size 0):=by
    have cm' : m < minRun' a₀.size a₀.size 0:=cm
    omega
   have n2 : lo + min (a₀.size - lo) (minRun' a₀.size a₀.size 0) ≤ a₀.size:=by omega
   obtain ⟨n,hn⟩ : ∃ n,n = min (a₀.size - lo) (minRun' a₀.size a₀.size 0):=⟨_,rfl⟩
  case' refine_2 =>
   have ch3:=ch2
   have b3:=b2
   have u3:=u2
   have n1:=m1
   have n2 : lo + m ≤ a₀.size:=by omega
   obtain ⟨n,hn⟩ : ∃ n,n = m:=⟨_,rfl⟩
  all_goals
   refine wpS_bind (wpS_get ?_)
   rw [pn b3]
   cases hb : pd.back? with
   | none=>exact wpS_bind (wpS_modify (wpS_pure (push _ _ _ b3 ch3 u3 n1 n2)))
   | some t =>
    obtain ⟨s1,k1,p1⟩:=t
    rw [← hn] at u3
    refine wpS_bind (wpS_mono (wpS_forRange (I:=fun y (c : Option Unit × Unit) st4=>c = (none,())∧∃ pd4,Bs κ a₀ pd4 st4∧Ch R (arrOf st4) 0 (two pd4) lo∧Up R (arrOf st4) lo (lo + n))
     (Q:=fun (c : Option Unit × Unit) st4=>c = (none,())∧∃ pd4,Bs κ a₀ pd4 st4∧Ch R (arrOf st4) 0 (two pd4) lo∧Up R (arrOf st4) lo (lo + n)) ?s4 (fun _ _ z=>z) ⟨rfl,pd,b3,ch3,u3⟩) ?p4)
    case s4 =>
     rintro y c st4 _ hy ⟨rfl,pd4,b4,ch4,u4⟩
     refine wpS_bind (wpS_get ?_)
     rw [pn b4]
     dsimp only
     by_cases c4 : pd4.size > 1
     ·have e : (if pd4.size > 1 then pd4[pd4.size - 2]? else none) = some (pd4[pd4.size - 2]'(by omega)):=by rw [if_pos c4]; exact getElem?_pos _ _ (by omega)
      rw [e]
      obtain ⟨v1,v2,v3⟩:=pd4[pd4.size - 2]'(by omega)
      refine jb5 (fun _=>wpS_pure ⟨rfl,pd4,b4,ch4,u4⟩) fun _=>?_
      refine wpS_bind (jgl C b4 ch4 (by omega) (by omega) fun st5 pd5 b5 _ ch5 o5=>?_)
      exact jb5 (fun c=>by cases c) fun _=>wpS_pure ⟨rfl,pd5,b5,ch5,u4.like fun i h1 _=>o5 i h1⟩
     ·rw [if_neg c4]
      exact wpS_pure ⟨rfl,pd4,b4,ch4,u4⟩
    case p4 =>
     rintro c st4 ⟨rfl,pd4,b4,ch4,u4⟩
     rw [hn] at u4
     refine wpS_bind (wpS_modify (wpS_bind (wpS_modify (wpS_pure ?_))))
     refine push _ _ _ ⟨b4.perm,b4.kind,b4.ok,rfl⟩ ?_ u4 n1 n2
     refine (congrArg (fun z=>Ch R (arrOf st4) 0 z lo) (jqb (pd:=pendingOf st4) _ _)).mpr ?_
     rw [b4.pend]
     exact ch4
end
end So
namespace So
open PySem PyProof.Rows
section
variable {prog : Program} {w : World} {A : Around} {E : Value→Shared→Prop} {s : Shared}
theorem jip (vs : List Value) : vs.zip vs = vs.map fun v=>(v,v):=by
 induction vs with
 | nil=>rfl
 | cons v vs ih=>rw [List.zip_cons_cons,ih,List.map_cons]
theorem Up.all {R : Keyed→Int} {xs : Array Keyed} (u : Up R xs 0 xs.size) : xs.toList.Pairwise (Le R):=by
 rw [List.pairwise_iff_getElem]
 intro i j hi hj hij
 rw [Array.length_toList] at hi hj
 exact u.le (getElem?_pos xs i hi) (getElem?_pos xs j hj) (Nat.le_of_lt hij)
theorem out_of {R : Keyed→Int} {vs : List Value} {xs : Array Keyed} (p : xs.Perm (pairsOf vs)) (u : Up R xs 0 xs.size) : (xs.map (·.2)).toList.Perm vs∧(xs.map (·.2)).toList.Pairwise fun a b=>R (a,a) ≤ R (b,b):=by
 have hp : xs.toList.Perm (vs.map fun v=>(v,v)):=by rw [← jip,← pairsOf_toList]; exact Array.perm_iff_toList_perm.mp p
 rw [Array.toList_map]
 refine ⟨?_,?_⟩
 ·have z:=hp.map (·.2)
  rw [List.map_map] at z
  have e : vs.map ((fun x : Keyed=>x.2) ∘ fun v=>(v,v)) = vs:=by
   rw [show ((fun x : Keyed=>x.2) ∘ fun v=>(v,v)) = id from rfl,List.map_id]
  rwa [e] at z
 ·rw [List.pairwise_map]
  refine List.Pairwise.imp_of_mem ?_ u.all
  intro a b ha hb hab
  obtain ⟨v,_,rfl⟩:=List.mem_map.mp (hp.mem_iff.mp ha)
  obtain ⟨u',_,rfl⟩:=List.mem_map.mp (hp.mem_iff.mp hb)
  exact hab
noncomputable def PairAt (h : Heap) (v : Value) (x y : Int) : Prop:=∃ a o t u n,v = .ref a∧h.get? a = some o∧o.cls = .type "tuple"∧o.data = .seq #[.int x t,.int y u] n
end
end So
namespace L2
open PySem PySem.Spec PyProof.Rows
noncomputable def tvOf : Value→V
 | .ref a=>.ref a
 | _=>.non
end L2
namespace L2
open PySem PySem.Spec PyProof.Rows
noncomputable def rSum : List V→Hp→VK→Prop:=fun vs H Q=>∃ (p : Addr) (ns : List Int),vs = [.ref p]∧H p = some (.lst (ns.map V.int))∧Q (.int ns.sum) H
theorem q_sum {X : Cx} (hc : X.calm = true) : jbo X (.builtin "sum") rSum:=by
 intro pins s σ H xs us Q I r h
 obtain ⟨p,ns,rfl,e,q⟩:=h
 obtain ⟨u,rfl,rx⟩:=jhp r
 cases rx
 obtain ⟨its,r',pl,_⟩:=I.list (SqL.of e)
 have hI:=jby r'
 obtain ⟨zs,hz⟩:=hI.allInts.items
 have hn:=hI.numsOf
 have hl:=pl.isList
 rw [hz] at hl
 refine sum_intListG (I.ok.hd hc) hl fun h' tk t' hk=>?_
 have e2 : preSum (numAt zs) zs.size = ns.sum:=by
  rw [preSum_eq,List.take_of_length_le (by simp),← hn,← nums_intItems,← hz]
 rw [e2]
 exact ⟨.int ns.sum,H,I.kept hk,⟨t',rfl⟩,q⟩
noncomputable def fIsB (f : Bool→Bool) : R2:=fun x y H Q=>match x,y with
 | .bl a,.bl b=>Q (.bl (f (a == b))) H
 | _,_=>False
end L2
namespace L2
open PySem PySem.Spec PyProof.Rows
noncomputable def Itd (d : Addr) (o : Obj) (kvs : List (Key × V)) : It :=
 ⟨fun i H=>H d = some (.frz o (.dK kvs))∧i < kvs.length,fun i H x H'=>H' = H∧∃ kv,kvs[i]? = some kv∧x = kV kv.1,fun i H=>H d = some (.frz o (.dK kvs))∧kvs.length ≤ i⟩
theorem jo3 {k : Key} {v : Value} (h : jie k v = true) : RelV (kV k) v:=by
 rcases jb0 h with ⟨i,t,rfl,rfl⟩ | ⟨x,t,rfl,rfl⟩
 ·exact ⟨t,rfl⟩
 ·exact ⟨t,rfl⟩
theorem kv_at {kvs : List (Key × V)} {vs : List (Key × Value)} (r : KV kvs vs) {i : Nat} {k : Key} {x : Value} (e : vs[i]? = some (k,x)) : ∃ kv,kvs[i]? = some kv∧kv.1 = k:=by
 obtain ⟨kv,e1,e2⟩:=jbt r e
 exact ⟨kv,e1,e2.1⟩
theorem jgp {P : Program} {w : World} {K : PySem.W.Frag} {tg : Expr} (d it : Addr) (o : Obj) (kvs : List (Key × V)) (vs : List (Key × Value)) (ep : Nat) (hne : d ≠ it) (rk : KV kvs vs)
  (hD : ∀ h : Heap,h.get? d = some o→h.DictAt (jbh P w) d vs ep) : Turn P w K tg (Itd d o kvs) [it] it (fun i h=>h.IsKeyIter it d i vs.length ep) where
 mem:=by simp
 obj:=fun i h st b hb=>by
  have e : b = it:=by simpa using hb
  subst e
  obtain ⟨o,e,c,d⟩:=st
  exact ⟨o,e,fun v z=>by rw [d] at z; cases z⟩
 keep:=fun i h h' st k=>st.at fun o e=>k it (by simp) o e
 item:=by
  intro X hP hw hK hc i pins s σ H E I hf st hg
  subst hP hw hK
  obtain ⟨hq,hx⟩:=hg
  obtain ⟨eo,_⟩:=(show s.heap.get? d = some o∧_ from I.hok _ _ hq)
  have hl:=rk.length
  obtain ⟨⟨k,x⟩,hx'⟩ : ∃ p,vs[i]? = some p:=⟨vs[i]'(by omega),List.getElem?_eq_getElem _⟩
  obtain ⟨f0,f1,f2,f3,f4,f5⟩:=hf it (by simp)
  refine wpAny_pyNext_dict_item st (hD _ eo) hx' fun key h' hkey st' sb=>?_
  have I1 : Inv X pins σ H { s with heap:=h' }:=I.turned (t':=s.toks) (fun b o hb e=>(sb.2 b hb).trans e) f0 f1 f3 f4 f5
  obtain ⟨kv,e1,e2⟩:=kv_at rk hx'
  obtain ⟨o',e,c,dd⟩:=id st'
  exact ⟨key,rfl,jmw (s:={ s with heap:=h' }) e c dd (by decide) ⟨kV k,H,I1,jo3 hkey,⟨rfl,kv,e1,by rw [e2]⟩,st',fun b hb=>(hf b hb).1⟩⟩
 done:=by
  intro X hP hw hK hc i pins s σ H E I hf st hg
  subst hP hw hK
  obtain ⟨hq,hx⟩:=hg
  obtain ⟨eo,_⟩:=(show s.heap.get? d = some o∧_ from I.hok _ _ hq)
  have hl:=rk.length
  obtain ⟨f0,f1,f2,f3,f4,f5⟩:=hf it (by simp)
  exact wpAny_pyNext_dict_end (I.ok.hd hc) st (hD _ eo) (List.getElem?_eq_none_iff.mpr (by omega)) fun h' eb=>⟨rfl,I.turned (t':=s.toks) (fun b o hb e=>eb b o hb e) f0 f1 f3 f4 f5⟩
 self:=fun _ _ _ _ _ st h=>wpAny_pyIter_keyiter st h
noncomputable def iDct (tl : TE) : TI:=fun σ H R=>tl σ H fun v H1=>∃ d kvs,v = .ref d∧H1 d = some (.dK kvs)∧∀ o,R (Itd d o kvs) (upd H1 d (.frz o (.dK kvs)))
theorem jqs {X : Cx} {tg l : Expr} {tl : TE} (hl : PE X l tl) : PI X tg l (iDct tl):=by
 intro pins s σ H R I h
 refine thn (hl pins s σ H _ I h) fun v s1 ⟨x,H1,I1,r1,q1⟩=>?_
 obtain ⟨d,kvs,e,hd,q⟩:=q1
 subst e
 cases r1
 obtain ⟨z,lo,vs,rel,dd⟩:=jri I1.hok hd
 obtain ⟨ep,hat⟩:=dd.dictAt
 obtain ⟨o,es,eo,rest⟩:=id hat
 have I2 : Inv X pins σ (upd H1 d (.frz o (.dK kvs))) { s1 with heap:=s1.heap,toks:=s1.toks } :=
  I1.write (x:=d) (e:=d) (by rw [hd]; exact True.intro) (.inl rfl) (fun b u _ q=>q) ⟨o,eo⟩ (show jb8 X.prog X.w _ s1.heap d (.frz o (.dK kvs)) from ⟨eo,z,lo,vs,rel,dd⟩)
 have I2 : Inv X pins σ (upd H1 d (.frz o (.dK kvs))) s1:=I2
 have hdl : d < s1.heap.objs.size:=Heap.lt_size eo
 refine wpAny_pyIter_dict lo hat ?_
 refine ⟨s1.heap.objs.size,[s1.heap.objs.size],_,_,_,rfl,I2.kept (t':=s1.toks) fun b o e=>Heap.get?_push_of_some _ e,jgp d _ o kvs vs ep (Nat.ne_of_lt hdl) rel fun h e=>⟨o,es,e,rest⟩,⟨_,Heap.get?_push_size _ rfl,rfl,rfl⟩,fun b hb=>?_,q o⟩
 have e : b = s1.heap.objs.size:=by simpa using hb
 subst e
 exact I2.fpOk (Nat.le_refl _) (I2.hok.fresh (Nat.le_refl _))
theorem jon {d : Addr} {o : Obj} {kvs : List (Key × V)} {g : TG} {tb : TS} {D : Ends} {σ : St} {H : Hp} (Pv : Nat→St→Hp→Prop) (h0 : Pv 0 σ H) (hl : ∀ i σ H,i ≤ kvs.length→Pv i σ H→H d = some (.frz o (.dK kvs)))
  (hs : ∀ i kv σ H,kvs[i]? = some kv→Pv i σ H→g (kV kv.1) σ H fun σ2 H2=>tb { D with nx:=Pv (i + 1),ct:=Pv (i + 1),bk:=D.nx } σ2 H2) (hd : ∀ σ H,Pv kvs.length σ H→D.nx σ H) :
  ∃ W : Nat→Nat→St→Hp→Prop,(∃ m,W 0 m σ H)∧∀ i m σ H,W i m σ H →
   ((Itd d o kvs).stop i H∧D.nx σ H) ∨ ((Itd d o kvs).go i H∧∃ N : St→Hp→Prop,(∀ σ' H',N σ' H'→∃ m',m' < m∧W (i + 1) m' σ' H')∧∀ x H',(Itd d o kvs).yld i H x H'→g x σ H' fun σ2 H2=>tb { D with nx:=N,ct:=N,bk:=D.nx } σ2 H2):=by
 refine ⟨fun i m σ H=>m = kvs.length - i∧i ≤ kvs.length∧Pv i σ H,⟨kvs.length,by simp,Nat.zero_le _,h0⟩,?_⟩
 rintro i m σ H ⟨rfl,hi,p⟩
 have q:=hl i σ H hi p
 by_cases hlt : i < kvs.length
 ·refine .inr ⟨⟨q,hlt⟩,Pv (i + 1),fun σ' H' p'=>⟨kvs.length - (i + 1),by omega,rfl,hlt,p'⟩,fun x H' y=>?_⟩
  obtain ⟨e,kv,e1,e2⟩:=y
  subst e e2
  exact hs i kv σ H' e1 p
 ·have e : i = kvs.length:=by omega
  subst e
  exact .inl ⟨⟨q,Nat.le_refl _⟩,hd σ H p⟩
end L2
namespace L2
open PySem PySem.Spec PyProof.Rows
section
variable {X : Cx}
noncomputable def fInsS : V→List V→Hp→VK→Prop:=fun x vs H Q=>match x,vs with
 | .ref l,[.int k,y]=>match H l with
  | some (.lst xs)=>(0 ≤ k∧k ≤ xs.length∧xs.length < 1000)∧Q .non (upd H l (.lst (xs.take k.toNat ++ y :: xs.drop k.toNat)))
  | _=>False
 | _,_=>False
end
end L2
namespace L2
open PySem PySem.Spec PyProof.Rows
theorem jif : ∀ {vs : List Value} {ns : List Int} {i : Nat},IntsAre vs ns→i < vs.length→∃ a t,vs[i]? = some (.int a t)∧ns[i]? = some a
 | _,_,i,.nil,h=>by simp at h
 | _,_,0,.cons n t _,_=>⟨n,t,rfl,rfl⟩
 | _,_,i + 1,.cons n t r,h=>by
  obtain ⟨a,u,h1,h2⟩:=jif (i:=i) r (by simpa using h)
  exact ⟨a,u,by simpa using h1,by simpa using h2⟩
section
open PySem.SeqAt
open PySem.AutoSeq1 (wpAny_loadPart')
open PySem.MeetsSeq PySem.MeetsSeq2 PySem.MeetsSeq3
theorem jm6 (l b : Addr) (items items2 : Array Value) (n n2 : Nat) (dd dd2 : Option Addr) (sl sl2 : Array (Option Value)) (ns ms : List Int) (hi : IntsAre items.toList ns) (hj : IntsAre items2.toList ms) (k : Nat) :
  ∀ i : Nat,items.size - i = k→i ≤ items.size→i ≤ items2.size→Meets (Builtin.«list.__eq__.loop» ⟨[.ref l,.ref b,rawInt i,rawInt 0],[]⟩)
   (fun A R s=>s.heap.get? l = some { cls:=.type "list",dict:=dd,data:=.seq items n,slots:=sl }∧s.heap.get? b = some { cls:=.type "list",dict:=dd2,data:=.seq items2 n2,slots:=sl2 } ∧
    R (.ok (.ret (.bool (HT.lexLt (ns.drop i) (ms.drop i))))) s):=by
 have z1 : items.size = ns.length:=by rw [← hi.length]; simp
 have z2 : items2.size = ms.length:=by rw [← hj.length]; simp
 induction k with
 | zero =>
  intro i hk hi1 hi2 prog w A R s h
  obtain ⟨hp,g,d,tk,os⟩:=s; obtain ⟨hl,hb,h⟩:=h
  wp_walk using wpAny_loadPart' hl,wpAny_loadPart' hb
  have e1 : items[((i : Nat) : Int).toNat]? = none:=by simp; omega
  have d1 : ns.drop i = []:=List.drop_of_length_le (by omega)
  rw [d1] at h
  rw [e1]
  wp_walk using wpAny_loadPart' hl,wpAny_loadPart' hb
  show R (.ok (.ret (.bool (decide (items.size < items2.size))))) _
  have : HT.lexLt [] (ms.drop i) = decide (items.size < items2.size):=by
   cases hm : ms.drop i with
   | nil =>
    have:=List.drop_eq_nil_iff.mp hm
    rw [HT.lexLt_nil_nil]
    exact (decide_eq_false (by omega)).symm
   | cons x r =>
    have : i < ms.length:=by
     have:=congrArg List.length hm
     rw [List.length_drop,List.length_cons] at this
     omega
    rw [HT.lexLt_nil_cons]
    exact (decide_eq_true (by omega)).symm
  rw [this] at h
  exact h
 | succ k ih =>
  intro i hk hi1 hi2 prog w A R s h
  obtain ⟨hp,g,d,tk,os⟩:=s; obtain ⟨hl,hb,h⟩:=h
  wp_walk using wpAny_loadPart' hl,wpAny_loadPart' hb
  have hlt : i < items.size:=by omega
  obtain ⟨x,t,hx,hnx⟩:=jif hi (i:=i) (by simpa using hlt)
  have e1 : items[((i : Nat) : Int).toNat]? = some (.int x t):=by simpa using hx
  have d1 : ns.drop i = x :: ns.drop (i + 1):=by
   obtain ⟨q1,q2⟩:=List.getElem?_eq_some_iff.mp hnx
   rw [List.drop_eq_getElem_cons q1,q2]
  rw [d1] at h
  rw [e1]
  by_cases hlt2 : i < items2.size
  ·obtain ⟨y,u,hy,hmy⟩:=jif hj (i:=i) (by simpa using hlt2)
   have e2 : items2[((i : Nat) : Int).toNat]? = some (.int y u):=by simpa using hy
   have d2 : ms.drop i = y :: ms.drop (i + 1):=by
    obtain ⟨q1,q2⟩:=List.getElem?_eq_some_iff.mp hmy
    rw [List.drop_eq_getElem_cons q1,q2]
   rw [d2,HT.lexLt_cons] at h
   rw [e2]
   have hc : ((i : Int) + 1) = ((i + 1 : Nat) : Int):=by push_cast; rfl
   obtain ⟨e,he,hiff⟩:=HT.eqAt_int A.in1 ⟨hp,g,d,tk,os⟩ x t y u
   refine wpAny_bind (he prog w _ _ ?_)
   cases e with
   | true =>
    rw [if_pos (hiff.mp rfl)] at h
    wp_walk
    rw [hc]
    exact ⟨plainId_quiet plain_eq_loop _,codeAny_builtin entry_eq_loop (by
     rw [Around.under_plainId plain_eq_loop _]
     exact ih (i + 1) (by omega) (by omega) (by omega) prog w A R _ ⟨hl,hb,h⟩)⟩
   | false =>
    rw [if_neg (fun q=>absurd (hiff.mpr q) Bool.false_ne_true)] at h
    have hri:=HT.rcLt_int A.in1 ⟨hp,g,d,tk,os⟩ x t y u prog w
    wp_walk using wpAny_loadPart' hl,wpAny_loadPart' hb
    rw [e1,e2]
    wp_walk using hri
    exact h
  ·have e2 : items2[((i : Nat) : Int).toNat]? = none:=by simp; omega
   have d2 : ms.drop i = []:=List.drop_of_length_le (by omega)
   rw [d2,HT.lexLt_cons_nil] at h
   rw [e2]
   wp_walk using wpAny_loadPart' hl,wpAny_loadPart' hb
   show R (.ok (.ret (.bool (decide (items.size < items2.size))))) _
   rw [decide_eq_false (by omega)]
   exact h
theorem jh4 (l b : Addr) (items items2 : Array Value) (n n2 : Nat) (dd dd2 : Option Addr) (sl sl2 : Array (Option Value)) (ns ms : List Int) (hi : IntsAre items.toList ns) (hj : IntsAre items2.toList ms) :
  Meets (Builtin.«list.__lt__» ⟨[.ref l,.ref b],[]⟩)
   (fun A R s=>s.heap.get? l = some { cls:=.type "list",dict:=dd,data:=.seq items n,slots:=sl }∧s.heap.get? b = some { cls:=.type "list",dict:=dd2,data:=.seq items2 n2,slots:=sl2 } ∧
    R (.ok (.ret (.bool (HT.lexLt ns ms)))) s):=by
 intro prog w A R s h
 obtain ⟨hp,g,d,tk,os⟩:=s; obtain ⟨hl,hb,h⟩:=h
 have f3:=AutoSeq1.sub_list_list
 wp_walk using wpAny_loadPart' hl,wpAny_loadPart' hb
 exact ⟨plainId_quiet plain_eq_loop _,codeAny_builtin entry_eq_loop (by
  rw [Around.under_plainId plain_eq_loop _]
  exact jm6 l b items items2 n n2 dd dd2 sl sl2 ns ms hi hj _ 0 rfl (Nat.zero_le _) (Nat.zero_le _) prog w A R _ ⟨hl,hb,h⟩)⟩
end
section
variable {prog : Program} {w : World} {A : Around} {E : Value→Shared→Prop} {s : Shared}
theorem jib {l b : Addr} {items items2 : Array Value} {n n2 : Nat} {dd dd2 : Option Addr} {sl sl2 : Array (Option Value)} {ns ms : List Int} {Q : Value→Shared→Prop} (ho : s.heap.get? l = some { cls:=.type "list",dict:=dd,data:=.seq items n,slots:=sl }) (ho2 : s.heap.get? b = some { cls:=.type "list",dict:=dd2,data:=.seq items2 n2,slots:=sl2 }) (hi : IntsAre items.toList ns) (hj : IntsAre items2.toList ms)
  (hu : A.units < cLine) (h : Q (.bool (HT.lexLt ns ms)) s) : wpAny (model prog w) A (compareOp .Lt (.ref l) (.ref b)) Q E s :=
 richCompare_meets_room (op:=.Lt) ⟨_,ho,rfl⟩ ⟨_,ho2,rfl⟩ PySem.F.slot_list_lt PySem.F.entry_list_lt (PySem.F.args_list_lt_2 _ _) (jh4 l b items items2 n n2 dd dd2 sl sl2 ns ms hi hj)
  ⟨ho,ho2,show Value.bool (HT.lexLt ns ms) ≠ Value.notImplemented∧Q (.bool (HT.lexLt ns ms)) s from ⟨(fun x=>nomatch x),h⟩⟩ hu
end
end L2
namespace L2
open PySem PySem.Spec PyProof.Rows
theorem jdj : (toString "min" ++ toString ".loop" : String) = "min.loop":=by decide
section
variable {prog : Program} {w : World} {A : Around} {R : Result→Shared→Prop} {I : Addr} {fp wr : List Addr} {P : Nat→Value→Prop} {St : Nat→Heap→Prop} {a b : Value} {bt : Bool}
theorem jm4 (W : Walks prog w A.in1 I fp wr 2 P St) (S : Addr) (hSf : S ∉ fp) {s : Shared} {c : Nat} {v : Value} (hst : St 2 s.heap)
  (hS : s.heap.get? S = some { cls:=.type "list",dict:=none,data:=.seq #[v,v] c,slots:=#[] })
  (hR : ∀ h' tk,(∀ b o,b ∉ wr→b ≠ S→s.heap.get? b = some o→h'.get? b = some o)→R (.ok (.ret v)) { s with heap:=h',toks:=tk }) :
  codeAny (model prog w) A (.builtin "min.loop" ⟨[.ref I,.none,.ref S],[]⟩) R s:=by
 have hSw : S ∉ wr:=fun h=>hSf (W.sub _ h)
 refine codeAny_builtin PySem.F.entry_min_loop ?_
 rw [Around.under_plainId PySem.F.plain_min_loop _]
 show wpAny _ A.in1 (seqItems? (.ref S) >>= _) _ _ s
 refine wpAny_bind (wpAny_seqItems hS rfl ?_)
 show wpAny _ A.in1 (tryCatch (pyNext (.ref I)) _ >>= _) _ _ s
 refine wpAny_bind (wpAny_tryCatch (W.done s _ _ hst fun h' tk hk'=>?_))
 have hS':=hk' S _ hSw hS
 show wpAny _ A.in1 (updateSeq S (fun _=>#[]) >>= _) _ _ _
 refine wpAny_bind ?_
 refine wpAny_updateSeq hS' rfl (wpAny_bind (wpAny_letGo (wpAny_pure ?_)))
 exact hR _ tk fun b o hbw hbS e=>(Heap.get?_update_other _ _ (Ne.symm hbS)).trans (hk' b o hbw e)
theorem jqy (W : Walks prog w A.in1 I fp wr 2 P St) (h1 : ∀ v,P 1 v→v = b) (S : Addr) (hSf : S ∉ fp) {s : Shared} {c : Nat} (hst : St 1 s.heap)
  (hS : s.heap.get? S = some { cls:=.type "list",dict:=none,data:=.seq #[a,a] c,slots:=#[] })
  (hcmp : ∀ h' tk (Q' : Value→Shared→Prop) (E' : Value→Shared→Prop),(∀ b o,b ∉ wr→b ≠ S→s.heap.get? b = some o→h'.get? b = some o)→Q' (.bool bt) { s with heap:=h',toks:=tk }→wpAny (model prog w) A.in1 (richCompare .Lt b a) Q' E' { s with heap:=h',toks:=tk })
  (hR : ∀ h' tk,(∀ b o,b ∉ wr→b ≠ S→s.heap.get? b = some o→h'.get? b = some o)→R (.ok (.ret (if bt = true then b else a))) { s with heap:=h',toks:=tk }) :
  codeAny (model prog w) A (.builtin "min.loop" ⟨[.ref I,.none,.ref S],[]⟩) R s:=by
 have hSw : S ∉ wr:=fun h=>hSf (W.sub _ h)
 refine codeAny_builtin PySem.F.entry_min_loop ?_
 rw [Around.under_plainId PySem.F.plain_min_loop _]
 show wpAny _ A.in1 (seqItems? (.ref S) >>= _) _ _ s
 refine wpAny_bind (wpAny_seqItems hS rfl ?_)
 show wpAny _ A.in1 (tryCatch (pyNext (.ref I)) _ >>= _) _ _ s
 refine wpAny_bind (wpAny_tryCatch (W.item 1 s _ _ (by decide) hst fun v h' tk hP hst' hk'=>?_))
 cases h1 v hP
 have hS':=hk' S _ hSw hS
 show wpAny _ A.in1 (tryCatch (holding [b,b] (richCompare .Lt b a >>= _)) _ >>= _) _ _ _
 refine wpAny_bind (wpAny_tryCatch (wpAny_holding (wpAny_bind (hcmp _ _ _ _ (fun b o hbw _ e=>hk' b o hbw e) ?_))))
 refine wpAny_bind (wpAny_holding (wpAny_truthy_bool ?_))
 refine wpAny_bind (wpAny_letGo (wpAny_pure ?_))
 cases bt with
 | true =>
  simp only [if_true]
  refine wpAny_bind ?_
  refine wpAny_updateSeq hS' rfl (wpAny_bind (wpAny_letGo ?_))
  rw [jdj]
  refine wpAny_pure ⟨plainId_quiet PySem.F.plain_min_loop _,jm4 W S hSf (W.frame _ _ _ hst' fun b hbf o e=>?_) (Heap.get?_update_self _ hS' rfl) fun h'' tk'' hk''=>?_⟩
  ·exact (Heap.get?_update_other _ _ (fun h : S = b=>hSf (by rw [h]; exact hbf))).trans e
  ·exact hR h'' tk'' fun b o hbw hbS e=>hk'' b o hbw hbS ((Heap.get?_update_other _ _ (Ne.symm hbS)).trans (hk' b o hbw e))
 | false =>
  simp only [Bool.false_eq_true,if_false]
  refine wpAny_bind (wpAny_letGo ?_)
  rw [jdj]
  refine wpAny_pure ⟨plainId_quiet PySem.F.plain_min_loop _,jm4 W S hSf hst' hS' fun h'' tk'' hk''=>?_⟩
  exact hR h'' tk'' fun b o hbw hbS e=>hk'' b o hbw hbS (hk' b o hbw e)
theorem jm3 (W : Walks prog w A.in1 I fp wr 2 P St) (h0 : ∀ v,P 0 v→v = a) (h1 : ∀ v,P 1 v→v = b) (S : Addr) (hSf : S ∉ fp) {s : Shared} {c : Nat} (hst : St 0 s.heap)
  (hS : s.heap.get? S = some { cls:=.type "list",dict:=none,data:=.seq #[] c,slots:=#[] })
  (hcmp : ∀ h' tk (Q' : Value→Shared→Prop) (E' : Value→Shared→Prop),(∀ b o,b ∉ wr→b ≠ S→s.heap.get? b = some o→h'.get? b = some o)→Q' (.bool bt) { s with heap:=h',toks:=tk }→wpAny (model prog w) A.in1 (richCompare .Lt b a) Q' E' { s with heap:=h',toks:=tk })
  (hR : ∀ h' tk,(∀ b o,b ∉ wr→b ≠ S→s.heap.get? b = some o→h'.get? b = some o)→R (.ok (.ret (if bt = true then b else a))) { s with heap:=h',toks:=tk }) :
  codeAny (model prog w) A (.builtin "min.loop" ⟨[.ref I,.none,.ref S],[]⟩) R s:=by
 have hSw : S ∉ wr:=fun h=>hSf (W.sub _ h)
 refine codeAny_builtin PySem.F.entry_min_loop ?_
 rw [Around.under_plainId PySem.F.plain_min_loop _]
 show wpAny _ A.in1 (seqItems? (.ref S) >>= _) _ _ s
 refine wpAny_bind (wpAny_seqItems hS rfl ?_)
 show wpAny _ A.in1 (tryCatch (pyNext (.ref I)) _ >>= _) _ _ s
 refine wpAny_bind (wpAny_tryCatch (W.item 0 s _ _ (by decide) hst fun v h' tk hP hst' hk'=>?_))
 cases h0 v hP
 have hS':=hk' S _ hSw hS
 show wpAny _ A.in1 (updateSeq S (fun _=>#[a,a]) >>= _) _ _ _
 refine wpAny_bind ?_
 refine wpAny_updateSeq hS' rfl ?_
 rw [jdj]
 refine wpAny_pure ⟨plainId_quiet PySem.F.plain_min_loop _,jqy W h1 S hSf (W.frame _ _ _ hst' fun b hbf o e=>?_) (Heap.get?_update_self _ hS' rfl) (fun h'' tk'' Q' E' hk'' q=>hcmp h'' tk'' Q' E' (fun b o hbw hbS e=>hk'' b o hbw hbS ((Heap.get?_update_other _ _ (Ne.symm hbS)).trans (hk' b o hbw e))) q) fun h'' tk'' hk''=>?_⟩
 ·exact (Heap.get?_update_other _ _ (fun h : S = b=>hSf (by rw [h]; exact hbf))).trans e
 ·exact hR h'' tk'' fun b o hbw hbS e=>hk'' b o hbw hbS ((Heap.get?_update_other _ _ (Ne.symm hbS)).trans (hk' b o hbw e))
end
section
variable {prog : Program} {w : World} {A : Around} {E : Value→Shared→Prop} {s : Shared} {a b : Value} {bt : Bool}
theorem jkc {Q : Value→Shared→Prop} (hh : A.handled = none)
  (hcmp : ∀ h' tk (Q' : Value→Shared→Prop) (E' : Value→Shared→Prop),(∀ c o,s.heap.get? c = some o→h'.get? c = some o)→Q' (.bool bt) { s with heap:=h',toks:=tk }→wpAny (model prog w) A.in1 (richCompare .Lt b a) Q' E' { s with heap:=h',toks:=tk })
  (h : ∀ h' tk,(∀ c o,s.heap.get? c = some o→h'.get? c = some o)→Q (if bt = true then b else a) { s with heap:=h',toks:=tk }) :
  wpAny (model prog w) A (call (.builtin "min") [a,b]) Q E s:=by
 have hT : (s.heap.push { cls:=.type "tuple",data:=.seq #[a,b] }).IsTuple s.heap.objs.size #[a,b]:=⟨_,Heap.get?_push_size _ rfl,rfl,0,rfl⟩
 have hsz : (s.heap.push { cls:=.type "tuple",data:=.seq #[a,b] }).objs.size = s.heap.objs.size + 1:=Heap.size_push ..
 refine call_function_tree PySem.F.kind_min PySem.F.plain_min PySem.F.entry_min (PySem.F.args_min2 _ _) ?_
 show wpAny _ A.in1 (Builtin.Builtins.bindParams "min" ["key","default"] 0 ⟨[],[]⟩ >>= _) _ _ s
 refine wpAny_bind (wpAny_of_eq (show Builtin.Builtins.bindParams "min" ["key","default"] 0 ⟨[],[]⟩ = pure [none,none] from rfl) ?_)
 show wpAny _ A.in1 (newTuple [a,b] >>= _) _ _ s
 refine wpAny_bind (wpAny_newObj_type ?_)
 refine wpAny_bind (wpAny_pyIter_tuple hT ?_)
 refine wpAny_bind (wpAny_newObj_type ?_)
 rw [jdj]
 have W:=Walks.tuple (prog:=prog) (w:=w) (A:=A.in1) hh (s.heap.push { cls:=.type "tuple",data:=.seq #[a,b] }).objs.size s.heap.objs.size (by rw [hsz]; exact Nat.ne_of_lt (Nat.lt_succ_self _)) #[a,b]
 refine wpAny_pure ⟨plainId_quiet PySem.F.plain_min_loop _,jm3 (a:=a) (b:=b) (bt:=bt) W (fun v hv=>by simpa using hv.symm) (fun v hv=>by simpa using hv.symm) _ ?_ ⟨⟨_,Heap.get?_push_of_some _ (Heap.get?_push_size _ rfl),rfl,rfl⟩,(hT.push _).push _⟩ (Heap.get?_push_size _ rfl) ?_ ?_⟩
 ·intro hc
  have hs2 : ∀ o : Obj,((s.heap.push { cls:=.type "tuple",data:=.seq #[a,b] }).push o).objs.size = s.heap.objs.size + 1 + 1:=fun o=>by rw [Heap.size_push,hsz]
  rcases List.mem_cons.mp hc with e | hc
  ·rw [hs2,hsz] at e; exact absurd e (Nat.succ_ne_self _)
  ·have e:=List.mem_singleton.mp hc
   rw [hs2] at e
   exact Nat.ne_of_gt (Nat.lt_succ_of_lt (Nat.lt_succ_self _)) e
 ·intro h' tk Q' E' hk q
  refine hcmp h' tk Q' E' (fun c o e=>hk c o ?_ ?_ (Heap.get?_push_of_some _ (Heap.get?_push_of_some _ (Heap.get?_push_of_some _ e)))) q
  ·intro z
   have z:=List.mem_singleton.mp z
   have:=Heap.lt_size e
   rw [z,hsz] at this
   exact absurd this (Nat.lt_asymm (Nat.lt_succ_self _))
  ·have:=Heap.lt_size e
   show c ≠ ((s.heap.push _).push _).objs.size
   rw [Heap.size_push,hsz]
   exact Nat.ne_of_lt (Nat.lt_succ_of_lt (Nat.lt_succ_of_lt this))
 ·intro h' tk hk
  refine h h' tk fun c o e=>hk c o ?_ ?_ (Heap.get?_push_of_some _ (Heap.get?_push_of_some _ (Heap.get?_push_of_some _ e)))
  ·intro z
   have z:=List.mem_singleton.mp z
   have:=Heap.lt_size e
   rw [z,hsz] at this
   exact absurd this (Nat.lt_asymm (Nat.lt_succ_self _))
  ·have:=Heap.lt_size e
   show c ≠ ((s.heap.push _).push _).objs.size
   rw [Heap.size_push,hsz]
   exact Nat.ne_of_lt (Nat.lt_succ_of_lt (Nat.lt_succ_of_lt this))
end
section
variable {X : Cx}
noncomputable def rMinL : List V→Hp→VK→Prop:=fun vs H Q=>∃ (p q : Addr) (ns ms : List Int),vs = [.ref p,.ref q]∧H p = some (.lst (ns.map V.int))∧H q = some (.lst (ms.map V.int))∧Q (.ref (if HT.lexLt ms ns = true then q else p)) H
theorem jne (hc : X.calm = true) (hu : X.A.in1.units < cLine) : jbo X (.builtin "min") rMinL:=by
 intro pins s σ H xs us Q I r h
 obtain ⟨p,q,ns,ms,rfl,ep,eq,h⟩:=h
 obtain ⟨u,w',rfl,r1,r2⟩:=jqa r
 cases r1
 cases r2
 obtain ⟨_,its,c,rr,hl,e1⟩:=I.lstM ep
 obtain ⟨_,its2,c2,rr2,hl2,e2⟩:=I.lstM eq
 have i1 : IntsAre its.toArray.toList ns:=jby rr
 have i2 : IntsAre its2.toArray.toList ms:=jby rr2
 refine jkc (bt:=HT.lexLt ms ns) (I.ok.hd hc) (fun h' tk Q' E' k q'=>?_) fun h' tk k=>⟨_,H,I.kept k,?_,h⟩
 ·exact jib (k _ _ e2) (k _ _ e1) i2 i1 hu q'
 ·cases HT.lexLt ms ns <;> rfl
end
end L2
namespace So
open PySem PyProof.Rows
section
variable {prog : Program} {w : World} {A : Around} {E : Value→Shared→Prop} {s : Shared}
noncomputable def jru (U : Nat) (prog : Program) (w : World) (s : Shared) (vs : List Value) (R : Keyed→Int) (κ : SortKind) : Prop :=
 ∀ (A : Around) (h' : Heap),A.units ≤ U→(∀ b o,s.heap.get? b = some o→h'.get? b = some o) →
  (∀ (Q : SortKind→Shared→Prop) (E : Value→Shared→Prop),Q κ { s with heap:=h' }→wpAny (model prog w) A (keyKind' vs.toArray) Q E { s with heap:=h' })∧Cm prog w A { s with heap:=h' } R κ (pairsOf vs)
theorem jo1 {U : Nat} (hA : A.units ≤ U) {a : Addr} {vs : List Value} {n : Nat} {P : PySem.Fin→Shared→Prop} {R : Keyed→Int} {κ : SortKind} {h₁ : Heap} (ho : s.heap.get? a = some (seqObj "list" vs.toArray n)) (hz : vs.length ≤ sizeLine)
  (hold : ∀ b o,h₁.get? b = some o→b ≠ a∧s.heap.get? b = some o) (hk : 2 ≤ vs.length→jru U prog w { s with heap:=h₁ } vs R κ)
  (h : ∀ out : Array Value,out.toList.Perm vs→out.toList.Pairwise (fun a b=>R (a,a) ≤ R (b,b))→P (.done (.ret .none)) { s with heap:=sortedHeap s.heap a vs out }) :
  wpAny (model prog w) A (Builtin.«list.sort» ⟨[.ref a],[]⟩) P E s:=by
 rw [list_sort_plain]
 have ha : a < s.heap.objs.size:=Heap.lt_size ho
 have hz1 : vs.toArray.size ≤ sizeLine:=by rw [List.size_toArray]; exact hz
 refine wpAny_bind (listItems_at ho rfl (wpAny_bind (listUpdate_at ho rfl ?_ hz1 (Nat.zero_le _))))
 obtain ⟨e1,ho1⟩ : ∃ e1,(s.heap.update a (Obj.mapSeq fun _=>(#[] : Array Value))).get? a = some (seqObj "list" #[] e1):=⟨_,get?_update_seq ho fun _=>#[]⟩
 refine wpAny_bind (seqEpoch_at ho1 rfl (wpAny_bind (wpAny_newTuple (wpAny_bind (wpAny_newList (wpAny_holding ?_) (Nat.zero_le _))) hz)))
 have keep : ∀ b o,b ≠ a→s.heap.get? b = some o→(((s.heap.update a (Obj.mapSeq fun _=>(#[] : Array Value))).push (seqObj "tuple" vs.toArray 0)).push (seqObj "list" #[] 0)).get? b = some o:=fun b o hne q =>
  Heap.get?_push_of_some _ (Heap.get?_push_of_some _ (by rw [Heap.get?_update_ne _ _ _ _ hne]; exact q))
 have ho6 : (((s.heap.update a (Obj.mapSeq fun _=>(#[] : Array Value))).push (seqObj "tuple" vs.toArray 0)).push (seqObj "list" #[] 0)).get? a = some (seqObj "list" #[] e1):=Heap.get?_push_of_some _ (Heap.get?_push_of_some _ ho1)
 show wpAny (model prog w) A _ P E { s with heap:=((s.heap.update a (Obj.mapSeq fun _=>(#[] : Array Value))).push (seqObj "tuple" vs.toArray 0)).push (seqObj "list" #[] 0) }
 dsimp only
 have fin : ∀ st' : SortSt,(arrOf st').Perm (pairsOf vs)→Up R (arrOf st') 0 (arrOf st').size→P (.done (.ret .none)) { s with heap:=sortedHeap s.heap a vs ((arrOf st').map (·.2)) }:=fun st' p u=>by
  obtain ⟨z1,z2⟩:=out_of p u
  exact h _ z1 z2
 by_cases c2 : vs.toArray.size < 2
 ·rw [if_pos c2,if_pos c2]
  refine wpAny_bind (wpAny_pure ?_)
  rw [StateT.run_pure]
  refine wpAny_bind (wpAny_pure (wpAny_bind (seqEpoch_at ho6 rfl (wpAny_bind (listUpdate_at ho6 rfl ?_ (Nat.zero_le _) (by rw [Array.size_map]; show (pairsOf vs).size ≤ _; rw [pairsOf_size]; exact Nat.le_succ_of_le hz))))))
  simp only [bne_self_eq_false,Bool.false_eq_true,if_false]
  refine wpAny_pure (fin (SortSt.mk' general' (vs.toArray.zip vs.toArray) #[] 7 none) (Array.Perm.refl _) (Up.one ?_))
  show (pairsOf vs).size ≤ 1
  rw [pairsOf_size]
  rw [List.size_toArray] at c2
  omega
 ·rw [if_neg c2,if_neg c2]
  rw [List.size_toArray] at c2
  obtain ⟨k1,k2⟩:=hk (by omega) A _ hA fun b o q=>keep b o (hold b o q).1 (hold b o q).2
  refine wpAny_bind (k1 _ _ ?_)
  have k3:=w_sort (E:=E) (st:=SortSt.mk' κ (pairsOf vs) #[] 7 none) (Q:=fun _ st'=>(arrOf st').Perm (pairsOf vs)∧failedOf st' = none∧Up R (arrOf st') 0 (pairsOf vs).size) k2 ⟨Array.Perm.refl _,rfl,rfl,rfl⟩ (by rw [pairsOf_size]; omega) fun st' a1 a2 a3=>⟨a1,a2,a3⟩
  refine wpAny_bind (wpAny_mono k3 ?_ fun _ _ e=>e)
  rintro ⟨⟨⟩,st'⟩ s' ⟨rfl,hp,hf,hs⟩
  dsimp only
  refine wpAny_bind (seqEpoch_at ho6 rfl (wpAny_bind (listUpdate_at ho6 rfl ?_ (Nat.zero_le _) (by refine Nat.le_trans (Nat.le_of_eq ((Array.size_map ..).trans (hp.size_eq.trans (pairsOf_size _)))) (Nat.le_succ_of_le hz)))))
  rw [hf]
  simp only [bne_self_eq_false,Bool.false_eq_true,if_false]
  rw [← hp.size_eq] at hs
  exact wpAny_pure (fin st' hp hs)
theorem jk6 {U : Nat} (hA : A.units + 2 ≤ U) {l : Addr} {vs : List Value} {Q : Value→Shared→Prop} {R : Keyed→Int} {κ : SortKind} (hl : s.heap.IsList l vs.toArray) (hz : vs.length ≤ sizeLine) (hk : 2 ≤ vs.length→jru U prog w s vs R κ)
  (h : ∀ out : Array Value,out.toList.Perm vs→out.toList.Pairwise (fun a b=>R (a,a) ≤ R (b,b))→Q (.ref (s.heap.objs.size + 1)) { s with heap:=sortedAll s.heap vs out }) :
  wpAny (model prog w) A (call (.builtin "sorted") [.ref l]) Q E s:=by
 refine Calls.call_function_entry kind_sorted plain_sorted entry_sorted (args_sorted1 _) ?_
 unfold Builtin.«sorted»
 refine wpAny_bind (m:=checkCount "sorted" 1 1 _) (wpAny_pure (wpAny_bind (collect_list hl (wpAny_bind (wpAny_newList ?_ hz)) hz)))
 have hsz : ((s.heap.push (seqObj "list" #[] 0)).update s.heap.objs.size (Obj.mapSeq (· ++ vs.toArray))).objs.size = s.heap.objs.size + 1:=by rw [Heap.size_update,size_push']
 generalize hh : ((s.heap.push (seqObj "list" #[] 0)).update s.heap.objs.size (Obj.mapSeq (· ++ vs.toArray))).push (seqObj "list" vs.toArray 0) = h2
 have hoL : h2.get? (s.heap.objs.size + 1) = some (seqObj "list" vs.toArray 0):=by rw [← hh,← hsz]; exact Heap.get?_push_size _ rfl
 have keep : ∀ b o,s.heap.get? b = some o→b ≠ s.heap.objs.size + 1∧h2.get? b = some o:=fun b o q=>by
  have hlt : b < s.heap.objs.size:=Heap.lt_size q
  refine ⟨Nat.ne_of_lt (Nat.lt_succ_of_lt hlt),?_⟩
  rw [← hh]
  exact Heap.get?_push_of_some _ (by rw [Heap.get?_update_ne _ _ _ _ (Nat.ne_of_lt hlt)]; exact Heap.get?_push_of_some _ q)
 show wpAny _ _ _ _ _ { s with heap:=h2 }
 rw [hsz]
 refine wpAny_bind (wpAny_holding (wpAny_call_entry slot_list_sort ⟨_,hoL,rfl⟩ entry_list_sort (jo1 hA (s:={ s with heap:=h2 }) (h₁:=s.heap) hoL hz keep hk fun out p1 p2=>⟨_,rfl,?_⟩) (args_list_sort _)))
 refine wpAny_pure ⟨_,rfl,?_⟩
 have z:=h out p1 p2
 unfold sortedAll at z
 rw [hh] at z
 exact z
end
end So
namespace L2
open PySem PySem.Spec PyProof.Rows
theorem jd9 : ∀ (a : List Int),HT.lexLt a a = false
 | []=>rfl
 | x :: r=>by rw [HT.lexLt_cons,if_pos rfl]; exact jd9 r
theorem jf0 : ∀ {a b c : List Int},HT.lexLt a b = true→HT.lexLt b c = true→HT.lexLt a c = true
 | [],[],_,h,_=>by rw [HT.lexLt_nil_nil] at h; cases h
 | [],_ :: _,[],_,h=>by rw [HT.lexLt_cons_nil] at h; cases h
 | [],_ :: _,_ :: _,_,_=>rfl
 | _ :: _,[],_,h,_=>by rw [HT.lexLt_cons_nil] at h; cases h
 | _ :: _,_ :: _,[],_,h=>by rw [HT.lexLt_cons_nil] at h; cases h
 | x :: r,y :: q,z :: p,h1,h2=>by
  rw [HT.lexLt_cons] at h1 h2 ⊢
  by_cases c1 : x = y
  ·rw [if_pos c1] at h1
   by_cases c2 : y = z
   ·rw [if_pos c2] at h2
    rw [if_pos (c1.trans c2)]
    exact jf0 h1 h2
   ·rw [if_neg c2] at h2
    rw [if_neg (by rw [c1]; exact c2),c1]
    exact h2
  ·rw [if_neg c1] at h1
   have h1:=of_decide_eq_true h1
   by_cases c2 : y = z
   ·rw [if_neg (by omega)]
    exact decide_eq_true (by omega)
   ·rw [if_neg c2] at h2
    have h2:=of_decide_eq_true h2
    rw [if_neg (by omega)]
    exact decide_eq_true (by omega)
theorem jdy : ∀ (a b : List Int),HT.lexLt a b = true ∨ a = b ∨ HT.lexLt b a = true
 | [],[]=>.inr (.inl rfl)
 | [],_ :: _=>.inl rfl
 | _ :: _,[]=>.inr (.inr rfl)
 | x :: r,y :: q=>by
  rw [HT.lexLt_cons,HT.lexLt_cons]
  by_cases c : x = y
  ·subst c
   rw [if_pos rfl,if_pos rfl]
   rcases jdy r q with h | h | h
   ·exact .inl h
   ·exact .inr (.inl (by rw [h]))
   ·exact .inr (.inr h)
  ·rw [if_neg c,if_neg (fun z=>c z.symm)]
   by_cases d : x < y
   ·exact .inl (decide_eq_true d)
   ·exact .inr (.inr (decide_eq_true (by omega)))
noncomputable def lowN (ss : List (List Int)) (s : List Int) : Nat:=(ss.filter fun t=>HT.lexLt t s).length
theorem jij {α : Type} {p q : α→Bool} : ∀ {l : List α},(∀ x ∈ l,p x = true→q x = true)→(l.filter p).length ≤ (l.filter q).length
 | [],_=>Nat.le_refl _
 | x :: l,h=>by
  have ih:=jij (l:=l) fun y hy=>h y (.tail _ hy)
  rw [List.filter_cons,List.filter_cons]
  by_cases c : p x = true
  ·rw [if_pos c,if_pos (h x (.head _) c),List.length_cons,List.length_cons]
   omega
  ·rw [if_neg c]
   split
   ·rw [List.length_cons]; omega
   ·exact ih
theorem jn2 {α : Type} {p q : α→Bool} : ∀ {l : List α} {y : α},(∀ x ∈ l,p x = true→q x = true)→y ∈ l→p y = false→q y = true→(l.filter p).length < (l.filter q).length
 | x :: l,y,h,hy,hp,hq=>by
  have hl:=jij (l:=l) fun z hz=>h z (.tail _ hz)
  rw [List.filter_cons,List.filter_cons]
  rcases List.mem_cons.mp hy with e | hy
  ·subst e
   rw [hp,hq]
   simp only [Bool.false_eq_true,if_false,if_true,List.length_cons]
   omega
  ·have ih:=jn2 (l:=l) (fun z hz=>h z (.tail _ hz)) hy hp hq
   by_cases c : p x = true
   ·rw [if_pos c,if_pos (h x (.head _) c),List.length_cons,List.length_cons]
    omega
   ·rw [if_neg c]
    split
    ·rw [List.length_cons]; omega
    ·exact ih
theorem jma {ss : List (List Int)} {s t : List Int} (hs : s ∈ ss) : decide ((lowN ss s : Int) < lowN ss t) = HT.lexLt s t:=by
 rcases jdy s t with h | h | h
 ·rw [h]
  refine decide_eq_true ?_
  have:=jn2 (p:=fun x=>HT.lexLt x s) (q:=fun x=>HT.lexLt x t) (fun x _ hx=>jf0 hx h) hs (jd9 s) h
  unfold lowN
  omega
 ·subst h
  rw [jd9]
  exact decide_eq_false (by omega)
 ·have hn : HT.lexLt s t = false:=by
   cases hc : HT.lexLt s t with
   | false=>rfl
   | true=>exact absurd (jf0 hc h) (by rw [jd9]; exact Bool.false_ne_true)
  rw [hn]
  refine decide_eq_false ?_
  have:=jij (l:=ss) (p:=fun x=>HT.lexLt x t) (q:=fun x=>HT.lexLt x s) fun x _ hx=>jf0 hx h
  unfold lowN
  omega
end L2
namespace So
open PySem PyProof.Rows
section
variable {prog : Program} {w : World} {s : Shared}
noncomputable def ListAt (h : Heap) (v : Value) (ns : List Int) : Prop:=∃ a its n dd sl,v = .ref a∧h.get? a = some { cls:=.type "list",dict:=dd,data:=.seq its n,slots:=sl }∧IntsAre its.toList ns
theorem jkl {U : Nat} {vs : List Value} {R : Keyed→Int} (hU : U < cLine) (nu : Value→List Int) (hv : ∀ v ∈ vs,ListAt s.heap v (nu v)) (hR : ∀ v ∈ vs,∀ u ∈ vs,decide (R (v,v) < R (u,u)) = HT.lexLt (nu v) (nu u)) (h2 : 2 ≤ vs.length) : jru U prog w s vs R oneType':=by
 intro A h' hA keep
 refine ⟨fun Q E q=>?_,fun x y hx hy Q E q=>?_⟩
 ·refine PySem.W.kas_kind (T:=.type "list") h2 (fun v m=>?_) rfl rfl q
  obtain ⟨a,its,n,dd,sl,rfl,e,_⟩:=hv v m
  exact (PySem.W.Looks.ld (keep _ _ e)).andThen .now
 ·rw [pairsOf_toList,jip] at hx hy
  obtain ⟨v,mv,rfl⟩:=List.mem_map.mp hx
  obtain ⟨u,mu,rfl⟩:=List.mem_map.mp hy
  rw [hR v mv u mu] at q
  obtain ⟨a,its,n,dd,sl,ev,e,hi⟩:=hv v mv
  obtain ⟨b,its2,n2,dd2,sl2,eu,e2,hi2⟩:=hv u mu
  generalize nu v = ns at q hi
  generalize nu u = ms at q hi2
  subst ev eu
  have ho:=keep _ _ e
  have ho2:=keep _ _ e2
  rw [keyLt'_oneType,oneLt'_eq]
  simp only [if_true]
  refine wpAny_bind (wpAny_cRoomFor (Nat.lt_of_le_of_lt hA hU) ?_)
  refine wpAny_bind (wpAny_callSpecialIfBound?_slot ⟨_,ho,rfl⟩ PySem.F.slot_list_lt (call_meets PySem.F.slot_list_lt ⟨_,ho,rfl⟩ PySem.F.entry_list_lt (PySem.F.args_list_lt_2 _ _) (L2.jh4 a b its its2 n n2 dd dd2 sl sl2 ns ms hi hi2) ⟨ho,ho2,?_⟩))
  exact wpAny_truthy_bool q
end
end So
namespace L2
open PySem PySem.Spec PyProof.Rows
noncomputable def LsAt (H : Hp) (x : V) (s : List Int) : Prop:=∃ a,x = .ref a∧H a = some (.lst (s.map V.int))
noncomputable def lvOf (H : Hp) : Value→List Int
 | .ref a=>match H a with
  | some (.lst xs)=>xs.map fun x=>match x with
   | .int i=>i
   | _=>0
  | _=>[]
 | _=>[]
noncomputable def jqj : List V→Hp→VK→Prop:=fun vs H Q=>∃ (p : Addr) (xs : List V) (ss : List (List Int)),vs = [.ref p]∧H p = some (.lst xs)∧Paired (LsAt H) xs ss∧xs.length ≤ 5000 ∧
 ∀ (l : Addr) (ys : List V) (qs : List (List Int)),H l = none→(∀ y ∈ ys,y ∈ xs)→Paired (LsAt H) ys qs→qs.Perm ss→qs.Pairwise (fun a b=>HT.lexLt b a = false)→Q (.ref l) (upd H l (.lst ys))
theorem jkv {H : Hp} : ∀ {xs : List V} {its : List Value} {ss : List (List Int)},Vals xs its→Paired (LsAt H) xs ss→its.map (lvOf H) = ss∧∀ v ∈ its,(RelV (tvOf v) v∧LsAt H (tvOf v) (lvOf H v))∧tvOf v ∈ xs
 | _,_,_,.nil,.nil=>⟨rfl,fun _ m=>by cases m⟩
 | _,_,_,.cons r t,.cons q u=>by
  obtain ⟨e1,e2⟩:=jkv t u
  obtain ⟨a,rfl,ea⟩:=q
  cases r
  rename_i b _
  have e : lvOf H (.ref a) = b:=by
   unfold lvOf
   dsimp only
   rw [ea]
   dsimp only
   rw [List.map_map]
   exact List.map_id' b
  refine ⟨?_,fun v m=>?_⟩
  ·rw [List.map_cons,e1,e]
  ·rcases List.mem_cons.mp m with rfl | m
   ·rw [e]; exact ⟨⟨rfl,a,rfl,ea⟩,.head _⟩
   ·exact ⟨(e2 v m).1,.tail _ (e2 v m).2⟩
theorem jnj {H : Hp} : ∀ {us : List Value},(∀ v ∈ us,RelV (tvOf v) v∧LsAt H (tvOf v) (lvOf H v))→Vals (us.map tvOf) us∧Paired (LsAt H) (us.map tvOf) (us.map (lvOf H))
 | [],_=>⟨.nil,.nil⟩
 | v :: us,h=>by
  obtain ⟨a,b⟩:=jnj (us:=us) fun v m=>h v (.tail _ m)
  obtain ⟨c,d⟩:=h v (.head _)
  exact ⟨.cons c a,.cons d b⟩
theorem jfd {X : Cx} (hu : X.A.units + 2 < cLine) : jbo X (.builtin "sorted") jqj:=by
 intro pins s σ H xs us Q I r h
 obtain ⟨p,xs,ss,rfl,e,pp,hz,q⟩:=h
 obtain ⟨u,rfl,rx⟩:=jhp r
 cases rx
 obtain ⟨its,r',pl,_⟩:=I.list (SqL.of e)
 have hlen:=r'.length
 obtain ⟨m1,m2⟩:=jkv r' pp
 have hz2 : (5000 : Nat) ≤ sizeLine:=by decide
 have hpv : ∀ v ∈ its,lvOf H v ∈ ss:=fun v m=>by rw [← m1]; exact List.mem_map_of_mem m
 refine So.jk6 (Nat.le_refl _) (R:=fun k=>(lowN ss (lvOf H k.1) : Int)) pl.isList (by omega) (fun h2=>So.jkl hu (lvOf H) (fun v m=>?_) (fun v mv u mu=>jma (hpv v mv)) h2) fun out o1 o2=>?_
 ·obtain ⟨a,ea,eh⟩:=(m2 v m).1.2
  have ev : v = .ref a:=by
   have z:=(m2 v m).1.1
   rw [ea] at z
   exact z
  obtain ⟨_,is2,n,rv,_,eo⟩:=I.lstM eh
  exact ⟨a,_,n,_,_,ev,eo,jby rv⟩
 ·obtain ⟨c,hc⟩:=sortedAll_at s.heap its out
  obtain ⟨b1,b2⟩:=jnj (H:=H) (us:=out.toList) fun v m=>(m2 v (o1.mem_iff.mp m)).1
  have hol:=o1.length_eq
  refine ⟨.ref (s.heap.objs.size + 1),_,I.laid (t':=s.toks) (fun _ _=>sortedAll_old) (Nat.le_succ _) (show jb8 X.prog X.w _ _ _ (.lst (out.toList.map tvOf)) from ⟨?_,out.toList,c,b1,?_⟩),rfl,q _ _ (out.toList.map (lvOf H)) (I.hok.fresh (Nat.le_succ _)) (fun y hy=>by obtain ⟨v,hv,rfl⟩:=List.mem_map.mp hy; exact (m2 v (o1.mem_iff.mp hv)).2) b2 ?_ ?_⟩
  ·rw [List.length_map]; omega
  ·rw [hc]
  ·have z:=o1.map (lvOf H)
   rwa [m1] at z
  ·rw [List.pairwise_map]
   refine List.Pairwise.imp_of_mem ?_ o2
   intro u v mu mv huv
   have z:=jma (ss:=ss) (t:=lvOf H u) (hpv v (o1.mem_iff.mp mv))
   rw [← z]
   refine decide_eq_false ?_
   dsimp only at huv
   omega
end L2
namespace L2
open PySem PySem.Spec PyProof.Rows
noncomputable def TrD (h B : Heap) (x : Addr) (cl : Value) (dd : Option Addr) (fl : Value) : Prop :=
 ∃ ox ws T oT ts,h.get? x = some ox∧ox.cls = cl∧ox.dict = dd∧ox.data = .fields ws∧ws[1]? = some (.ref T)∧B.get? T = none∧T ≠ x∧h.get? T = some oT∧oT.data = .fields ts∧ts[3]? = some fl∧(dd ≠ none→ws[2]? = some .none)
structure FlyD (B : Heap) (l : List Env) (x : Addr) (cl : Value) (dd : Option Addr) (fl : Value) (h : Heap) : Prop where
 stays : B.StaysIn h
 new : B.get? x = none
 funs : h.FunFrames B l
 tr : TrD h B x cl dd fl
theorem FlyD.tail {B : Heap} {env : Env} {l : List Env} {x : Addr} {cl : Value} {dd : Option Addr} {fl : Value} {h : Heap} (f : FlyD B (env :: l) x cl dd fl h) : FlyD B l x cl dd fl h:=⟨f.stays,f.new,f.funs.2.2,f.tr⟩
theorem FlyD.there {B : Heap} {l : List Env} {x : Addr} {cl : Value} {dd : Option Addr} {fl : Value} {h : Heap} (f : FlyD B l x cl dd fl h) : ∃ ox ws,h.get? x = some ox∧ox.cls = cl∧ox.dict = dd∧ox.data = .fields ws:=by
 obtain ⟨ox,ws,_,_,_,h1,h2,h3,h4,_⟩:=f.tr
 exact ⟨ox,ws,h1,h2,h3,h4⟩
section
variable {M : Model} {A : Around} {E : Value→Shared→Prop} {s : Shared} {B : Heap} {env : Env} {l : List Env} {L x : Addr} {cl : Value} {dd : Option Addr} {Q : Unit→Shared→Prop}
theorem jq1 {head : Value} {had : Bool} {ox : Obj} {ws : Array Value} (fr : A.frames = some (env :: l)) (fu : s.heap.FunFrames B (env :: l)) (ef : env.frame = some L) (gx : s.heap.get? x = some ox) (st : B.StaysIn s.heap) (nx : B.get? x = none)
  (dx : ox.data = .fields ws) (sz : 1 < ws.size) (w2 : ox.dict ≠ none→ws[2]? = some .none) (k : ∀ h',FlyD B (env :: l) x ox.cls ox.dict (rawInt L) h'→s.heap.UpToSlots h'→Q () { s with heap:=h' }) :
  wpAny M A (do let a ← frameOf env; let pl ← entryPlaceOf L had; let b ← EntryCells.newEntry head a .none (rawInt L) .none pl; setField (.ref x) 1 b) Q E s:=by
 have xf : x ∉ (env :: l).filterMap (·.frame):=fun z=>by
  obtain ⟨_,o,go,no⟩:=fu.mem z
  rw [gx] at go
  cases go
  exact no ws dx
 refine wpAny_bind (wpAny_frameOf_fun fr fu ef fun h1 z1=>wpAny_bind (wpAny_entryPlaceOf fun pl hp=>?_))
 unfold EntryCells.newEntry newFields
 refine wpAny_bind (wpAny_newObj_type ?_ (hp.sizeOk5 _ _ _ _ _))
 have g1 : h1.get? x = some ox:=(z1.2.1 x xf).trans gx
 have s1 : B.StaysIn h1:=fun b o q=>(z1.2.1 b fun z=>by rw [(fu.mem z).1] at q; cases q).trans (st b o q)
 generalize hN : ({ cls:=.type "traceback",dict:=none,data:=.fields ([head,.ref L,.none,rawInt L,.none] ++ (if pl.isEmpty then List.replicate 6 Value.none else pl)).toArray } : Obj) = oN
 have g2:=Heap.get?_push_of_some (h:=h1) oN g1
 refine wpAny_setField g2 dx sz (k _ ?_ ?_)
 all_goals
  have ne : h1.objs.size ≠ x:=Nat.ne_of_gt (Heap.lt_size g1)
  have kp : ∀ b o,b ≠ x→h1.get? b = some o→((h1.push oN).update x (Obj.mapFields (·.setIfInBounds 1 (Value.ref h1.objs.size)))).get? b = some o:=fun b o n q=>by
   rw [Heap.get?_update_other _ _ (Ne.symm n)]; exact Heap.get?_push_of_some _ q
  have nr : ∀ b o,s.heap.get? b = some o→(∀ vs,o.data ≠ .fields vs)→b ≠ x:=fun b o q n z=>by
   rw [z,gx] at q; cases q; exact n ws dx
 ·refine ⟨fun b o q=>kp b o (fun z=>by rw [z,nx] at q; cases q) (s1 b o q),nx,fu.of_keeps fun b o q n=>?_,?_⟩
  ·obtain ⟨sl,e⟩:=z1.2.2 b o q
   exact ⟨_,kp b _ (nr b o q n) e,rfl⟩
  ·have d3:=Obj.data_mapFields dx (·.setIfInBounds 1 (Value.ref h1.objs.size))
   have g3:=Heap.get?_update_self (Obj.mapFields (·.setIfInBounds 1 (Value.ref h1.objs.size))) g2 (Obj.isFreed_of_fields d3)
   have gT:=(Heap.get?_update_other (h1.push oN) (Obj.mapFields (·.setIfInBounds 1 (Value.ref h1.objs.size))) (Ne.symm ne)).trans (Heap.get?_push_size h1 (by rw [← hN]; rfl))
   refine ⟨_,_,h1.objs.size,_,_,g3,Obj.cls_mapFields _ _,?_,d3,by simp [sz],s1.fresh,ne,gT,by rw [← hN],?_,fun z=>?_⟩
   ·obtain ⟨c,d,dt,sl⟩:=ox
    dsimp only at dx
    subst dx
    rfl
   ·first | (simp; done) | (rcases hp with rfl | ⟨_,_,_,_,_,_,_,rfl⟩ <;> simp)
   ·rw [Array.getElem?_setIfInBounds_ne (by decide)]; exact w2 z
 ·intro b o q n
  obtain ⟨sl,e⟩:=z1.2.2 b o q
  exact ⟨sl,kp b _ (nr b o q n) e⟩
theorem jpr {ox : Obj} {ws : Array Value} (fr : A.frames = some (env :: l)) (fu : s.heap.FunFrames B (env :: l)) (ef : env.frame = some L) (gx : s.heap.get? x = some ox) (st : B.StaysIn s.heap) (nx : B.get? x = none)
  (dx : ox.data = .fields ws) (h1 : ws[1]? = some .none) (w2 : ox.dict ≠ none→ws[2]? = some .none) (k : ∀ h',FlyD B (env :: l) x ox.cls ox.dict (rawInt L) h'→s.heap.UpToSlots h'→Q () { s with heap:=h' }) : wpAny M A (noteFrame (.ref x) env) Q E s:=by
 unfold noteFrame
 simp only [ef]
 refine wpAny_bind (wpAny_field gx dx h1 ?_)
 rw [if_neg (by decide)]
 exact jq1 fr fu ef gx st nx dx (Array.getElem?_eq_some_iff.mp h1).1 w2 k
theorem noteD (fr : A.frames = some (env :: l)) (ef : env.frame = some L) (f : FlyD B (env :: l) x cl dd .none s.heap) (k : ∀ h',FlyD B (env :: l) x cl dd (rawInt L) h'→s.heap.UpToSlots h'→Q () { s with heap:=h' }) :
  wpAny M A (noteFrame (.ref x) env) Q E s:=by
 obtain ⟨st,nx,fu,ox,ws,T,oT,ts,gx,rfl,rfl,dx,w1,nT,ne,gT,dT,t3,w2⟩:=f
 unfold noteFrame
 simp only [ef]
 refine wpAny_bind (wpAny_field gx dx w1 ?_)
 rw [if_pos (show (Value.ref T != Value.none) = true by simp)]
 refine wpAny_bind (wpAny_field gT dT t3 ?_)
 rw [if_neg (show ¬ ((Value.none == rawInt L) = true) by simp [rawInt])]
 refine wpAny_bind (wpAny_setField gT dT (Array.getElem?_eq_some_iff.mp t3).1 ?_)
 have oth : ∀ b,b ≠ T→(s.heap.update T (Obj.mapFields (·.setIfInBounds 3 Value.none))).get? b = s.heap.get? b:=fun b n=>Heap.get?_update_other _ _ (Ne.symm n)
 have nr : ∀ b o,s.heap.get? b = some o→(∀ vs,o.data ≠ .fields vs)→b ≠ T:=fun b o q n z=>by
  rw [z,gT] at q; cases q; exact n ts dT
 exact jq1 fr (fu.of_keeps fun b o q n=>⟨o,(oth b (nr b o q n)).trans q,rfl⟩) ef ((oth x (Ne.symm ne)).trans gx) (fun b o q=>(oth b fun z=>by rw [z,nT] at q; cases q).trans (st b o q)) nx dx (Array.getElem?_eq_some_iff.mp w1).1 w2
  fun h' f' u=>k h' f' fun b o q n=>u b o ((oth b (nr b o q n)).trans q) n
theorem jh0 (ef : env.frame = some L) (f : FlyD B l x cl dd (rawInt L) s.heap) (k : Q () s) : wpAny M A (noteFrame (.ref x) env) Q E s:=by
 obtain ⟨st,nx,fu,ox,ws,T,oT,ts,gx,_,_,dx,w1,nT,ne,gT,dT,t3,w2⟩:=f
 unfold noteFrame
 simp only [ef]
 refine wpAny_bind (wpAny_field gx dx w1 ?_)
 rw [if_pos (show (Value.ref T != Value.none) = true by simp)]
 refine wpAny_bind (wpAny_field gT dT t3 ?_)
 rw [if_pos (show (rawInt L == rawInt L) = true by simp)]
 exact wpAny_pure k
theorem jf8 {fl : Value} (of : Option Addr) (f : FlyD B l x cl dd fl s.heap) (k : ∀ h',FlyD B l x cl dd (of.elim Value.none fun a=>rawInt a) h'→s.heap.UpToSlots h'→Q () { s with heap:=h' }) : wpAny M A (setFlight (.ref x) of) Q E s:=by
 obtain ⟨st,nx,fu,ox,ws,T,oT,ts,gx,c1,c2,dx,w1,nT,ne,gT,dT,t3,w2⟩:=f
 have sz : 3 < ts.size:=(Array.getElem?_eq_some_iff.mp t3).1
 have oth : ∀ b,b ≠ T→(s.heap.update T (Obj.mapFields (·.setIfInBounds 3 (of.elim Value.none fun f=>rawInt f)))).get? b = s.heap.get? b:=fun b n=>Heap.get?_update_other _ _ (Ne.symm n)
 have nr : ∀ b o,s.heap.get? b = some o→(∀ vs,o.data ≠ .fields vs)→b ≠ T:=fun b o q n z=>by
  rw [z,gT] at q; cases q; exact n ts dT
 unfold setFlight
 refine wpAny_bind (wpAny_field gx dx w1 ?_)
 rw [if_pos (show (Value.ref T != Value.none) = true by simp)]
 refine wpAny_setField gT dT sz (k _ ⟨fun b o q=>(oth b fun z=>by rw [z,nT] at q; cases q).trans (st b o q),nx,fu.of_keeps fun b o q n=>⟨o,(oth b (nr b o q n)).trans q,rfl⟩,?_⟩ fun b o q n=>⟨o.slots,(oth b (nr b o q n)).trans q⟩)
 exact ⟨ox,ws,T,_,_,(oth x (Ne.symm ne)).trans gx,c1,c2,dx,w1,nT,ne,Heap.get?_update_self _ gT (Obj.isFreed_of_fields (Obj.data_mapFields dT _)),Obj.data_mapFields dT _,by simp [sz],w2⟩
theorem jr0 {ox : Obj} {ws : Array Value} (fr : A.frames = some (env :: l)) (fu : s.heap.FunFrames B (env :: l)) (ef : env.frame = some L) (gx : s.heap.get? x = some ox) (st : B.StaysIn s.heap) (nx : B.get? x = none)
  (dx : ox.data = .fields ws) (h1 : ws[1]? = some .none) (w2 : ox.dict ≠ none→ws[2]? = some .none) (k : ∀ h',FlyD B l x ox.cls ox.dict .none h'→s.heap.UpToSlots h'→Q () { s with heap:=h' }) : wpAny M A (leaving env (.ref x)) Q E s:=by
 unfold leaving
 exact wpAny_bind (jpr fr fu ef gx st nx dx h1 w2 fun h1 f1 u1=>jf8 none f1 fun h2 f2 u2=>k h2 f2.tail (u1.trans u2))
theorem leaveD (fr : A.frames = some (env :: l)) (ef : env.frame = some L) (f : FlyD B (env :: l) x cl dd .none s.heap) (k : ∀ h',FlyD B l x cl dd .none h'→s.heap.UpToSlots h'→Q () { s with heap:=h' }) :
  wpAny M A (leaving env (.ref x)) Q E s:=by
 unfold leaving
 exact wpAny_bind (noteD fr ef f fun h1 f1 u1=>jf8 none f1 fun h2 f2 u2=>k h2 f2.tail (u1.trans u2))
theorem jqz (ef : env.frame = some L) (f : FlyD B (env :: l) x cl dd (rawInt L) s.heap) (k : ∀ h',FlyD B l x cl dd .none h'→s.heap.UpToSlots h'→Q () { s with heap:=h' }) :
  wpAny M A (leaving env (.ref x)) Q E s:=by
 unfold leaving
 exact wpAny_bind (jh0 ef f (jf8 none f fun h2 f2 u2=>k h2 f2.tail u2))
end
end L2
namespace L2
open PySem PySem.Spec PyProof.Rows
structure Df (X : Cx) : Prop where
 stk : X.stack = X.env :: X.outer
 fr : X.env.frame = some X.env.locals
 ex : X.ex = []
 fn : ∀ x,X.fn x = true
structure Cov (X : Cx) (B : Heap) (H : Hp) (h : Heap) : Prop where
 tr : ∀ b o,H b = some o→∃ q,h.get? b = some q∧B.get? b = some q
 old : ∀ b o,X.s₀.heap.get? b = some o→b ∉ frs X.stack→∃ q,h.get? b = some q∧B.get? b = some q
 pin : ∀ p ∈ X.pn,B.get? p.1 = some p.2
 cel : ∀ x c,X.env.cells.lookup x = some c→∃ q,h.get? c = some q∧B.get? c = some q
theorem jm1 {P : Program} {w : World} {H : Hp} {h : Heap} {a : Addr} {o : HO} (x : jb8 P w H h a o) : ∃ q,h.get? a = some q:=by
 cases o with
 | lst xs=>obtain ⟨_,_,_,_,e⟩:=x; exact ⟨_,e⟩
 | tup xs=>obtain ⟨_,_,_,q,e,_⟩:=x; exact ⟨_,e⟩
 | dK kvs=>obtain ⟨_,_,_,_,o,_,_,e,_⟩:=x; exact ⟨_,e⟩
 | dT kvs=>obtain ⟨_,_,_,_,o,_,_,e,_⟩:=x; exact ⟨_,e⟩
 | set S n=>obtain ⟨o,_,_,_,e,_⟩:=x; exact ⟨_,e⟩
 | ins C dx fs=>obtain ⟨_,_,_,e,_⟩:=x; exact ⟨_,e⟩
 | own y=>exact x
 | xd fs=>obtain ⟨_,⟨_,_,_,e,_⟩,_⟩:=x; exact ⟨_,e⟩
 | rng lo hi=>obtain ⟨_,_,_,e⟩:=x; exact ⟨_,e⟩
 | frz ob u=>obtain ⟨e,_⟩:=x; exact ⟨_,e⟩
 | tbl ps=>exact ⟨_,(show h.get? a = some _ from x)⟩
 | met f y=>exact ⟨_,(show h.get? a = some _ from x)⟩
 | ext φ=>exact x.2.1
theorem HOk.via {P : Program} {w : World} {H : Hp} {h B h' : Heap} (x : HOk P w H h) (c : ∀ b o,H b = some o→∃ q,h.get? b = some q∧B.get? b = some q) (st : B.StaysIn h') : HOk P w H h':=fun a o e =>
 (x a o e).stay (fun b u hb q=>by
  have hb' : ∃ o',H b = some o':=hb.elim (fun z=>⟨o,by rw [z]; exact e⟩) fun z=>⟨_,z⟩
  obtain ⟨o',e'⟩:=hb'
  obtain ⟨r,r1,r2⟩:=c b o' e'
  rw [q] at r1; cases r1
  exact st _ _ r2) (fun _ q=>q) fun _ _ q=>q
section
variable {X : Cx} {σ : St} {H : Hp} {s : Shared} {B h' : Heap}
theorem jcr (d : Df X) : frs X.stack = X.env.locals :: X.fs:=by
 rw [d.stk]
 show List.filterMap _ _ = _
 rw [List.filterMap_cons,d.fr]
 rfl
theorem Inv.viaB (I : Inv X [] σ H s) (d : Df X) (c : Cov X B H s.heap) (st : B.StaysIn h') (u : s.heap.UpToSlots h') : Inv X [] σ H { s with heap:=h' }:=by
 have ex : ∀ b,b ∉ X.ex:=fun b=>by rw [d.ex]; exact List.not_mem_nil
 refine ⟨I.ok,I.os,I.bare,⟨fun b o e n nb _=>?_,fun b o e n hb _=>?_,fun b o e n _=>I.base.free b o e n (ex b),fun b o e _=>?_,I.base.tups,I.base.frzs,I.base.tbls⟩,?_,fun x cc e=>?_,I.free,I.freeC,fun p hp=>?_,I.hok.via c.tr st,I.len⟩
 ·have nl : b ≠ X.env.locals:=Nat.ne_of_lt (Nat.lt_of_lt_of_le (Heap.lt_size e) I.ok.above)
  obtain ⟨q,q1,q2⟩:=c.old b o e (by rw [jcr d]; exact fun z=>(List.mem_cons.mp z).elim nl nb)
  rw [I.base.keep b o e n nb (ex b)] at q1; cases q1
  exact st _ _ q2
 ·obtain ⟨sl,e1⟩:=I.base.slot b o e n hb (ex b)
  obtain ⟨_,o1,g1,nf⟩:=I.funs.mem hb
  rw [e1] at g1; cases g1
  obtain ⟨sl2,e2⟩:=u b _ e1 nf
  exact ⟨sl2,e2⟩
 ·by_cases hb : b ∈ frs X.stack
  ·obtain ⟨_,o1,g1,nf⟩:=I.stack.mem hb
   obtain ⟨sl2,e2⟩:=u b _ g1 nf
   exact ⟨_,e2⟩
  ·obtain ⟨q,_,q2⟩:=c.old b o e hb
   exact ⟨q,st _ _ q2⟩
 ·obtain ⟨m,hn,hl⟩:=I.loc
  refine ⟨m,u.ns hn,fun i y v h1 h2 h3=>?_⟩
  obtain ⟨w',r,lk⟩:=hl i y v h1 h2 h3
  refine ⟨w',r,lk.imp id fun ⟨k,cc,e1,o,ho,hd⟩=>⟨k,cc,e1,?_⟩⟩
  obtain ⟨q,q1,q2⟩:=c.cel y cc e1
  rw [ho] at q1; cases q1
  exact ⟨o,st _ _ q2,hd⟩
 ·obtain ⟨v,o,ho,hd⟩:=I.cell x cc e
  obtain ⟨q,q1,q2⟩:=c.cel x cc e
  rw [ho] at q1; cases q1
  exact ⟨v,o,st _ _ q2,hd⟩
 ·have hp' : p ∈ X.pn:=by simpa using hp
  obtain ⟨_,p2⟩:=I.pin p hp
  exact ⟨st _ _ (c.pin p hp'),p2⟩
theorem Cov.next (c : Cov X B H s.heap) (st : B.StaysIn h') : Cov X B H h':=⟨fun b o e=>let ⟨q,_,q2⟩:=c.tr b o e; ⟨q,st _ _ q2,q2⟩,fun b o e n=>let ⟨q,_,q2⟩:=c.old b o e n; ⟨q,st _ _ q2,q2⟩,c.pin,fun x cc e=>let ⟨q,_,q2⟩:=c.cel x cc e; ⟨q,st _ _ q2,q2⟩⟩
theorem Inv.notfr (I : Inv X [] σ H s) (d : Df X) {y : Str} {c : Addr} (e : X.env.cells.lookup y = some c) : c ∉ frs X.stack:=by
 rw [jcr d]
 intro z
 rcases List.mem_cons.mp z with z | z
 ·exact I.cne y c e z
 ·have:=I.ok.cab y c (d.fn y) e
  obtain ⟨_,o,ho,_⟩:=I.ok.funs.mem z
  exact absurd (Nat.lt_of_lt_of_le (Heap.lt_size ho) this) (Nat.lt_irrefl _)
theorem jox (I : Inv X [] σ H s) (d : Df X) {x : Addr} (hx : H x = none) (nx : X.s₀.heap.objs.size ≤ x) (px : ∀ p ∈ X.pn,p.1 ≠ x) (cx : ∀ y c,X.env.cells.lookup y = some c→c ≠ x) :
  Cov X (PySem.W.hideAll s.heap (x :: frs X.stack)) H s.heap∧(PySem.W.hideAll s.heap (x :: frs X.stack)).StaysIn s.heap∧(PySem.W.hideAll s.heap (x :: frs X.stack)).get? x = none∧s.heap.FunFrames (PySem.W.hideAll s.heap (x :: frs X.stack)) X.stack:=by
 have hid : ∀ {b o},s.heap.get? b = some o→b ≠ x→b ∉ frs X.stack→(PySem.W.hideAll s.heap (x :: frs X.stack)).get? b = some o:=fun e n1 n2=>PySem.W.hideAll_get _ e fun z=>(List.mem_cons.mp z).elim n1 n2
 refine ⟨⟨fun b o e=>?_,fun b o e nb=>?_,fun p hp=>?_,fun y c e=>?_⟩,fun b o e=>PySem.W.of_hideAll _ e,PySem.W.hideAll_none _ (List.mem_cons_self ..),?_⟩
 ·obtain ⟨q,g⟩ : ∃ q,s.heap.get? b = some q:=by
   have lt:=I.hok.lt e
   have ok:=I.hok b o e
   cases g : s.heap.get? b with
   | some q=>exact ⟨q,rfl⟩
   | none=>exact absurd g (by
     intro g
     exact (jm1 ok).elim fun q z=>by rw [g] at z; cases z)
  exact ⟨q,g,hid g (fun z=>by rw [z,hx] at e; cases e) (fun z=>by rw [I.stkFree b z] at e; cases e)⟩
 ·obtain ⟨q,g⟩:=I.base.there b o e (by rw [d.ex]; exact List.not_mem_nil)
  exact ⟨q,g,hid g (Nat.ne_of_lt (Nat.lt_of_lt_of_le (Heap.lt_size e) nx)) nb⟩
 ·obtain ⟨g,_,nl,nf,_⟩:=I.pin p (by simpa using hp)
  exact hid g (px p hp) (by rw [jcr d]; exact fun z=>(List.mem_cons.mp z).elim nl nf)
 ·obtain ⟨v,o,ho,_⟩:=I.cell y c e
  exact ⟨o,ho,hid ho (cx y c e) (I.notfr d e)⟩
 ·have fu:=I.stack
  have gen : ∀ l : List Env,(∀ b ∈ frs l,b ∈ frs X.stack)→s.heap.FunFrames X.base l→s.heap.FunFrames (PySem.W.hideAll s.heap (x :: frs X.stack)) l:=by
   intro l
   induction l with
   | nil=>intro _ _; trivial
   | cons env r ih =>
    intro sub f
    obtain ⟨k,⟨L,o,ef,_,go,no⟩,fr⟩:=f
    have hm : L ∈ frs (env :: r):=by
     show L ∈ List.filterMap _ _
     rw [List.filterMap_cons,ef]
     exact List.mem_cons_self ..
    refine ⟨k,⟨L,o,ef,PySem.W.hideAll_none _ (List.mem_cons_of_mem _ (sub L hm)),go,no⟩,ih (fun b hb=>sub b ?_) fr⟩
    show b ∈ List.filterMap _ _
    rw [List.filterMap_cons]
    split
    ·exact hb
    ·exact List.mem_cons_of_mem _ hb
  exact gen X.stack (fun b hb=>hb) fu
end
inductive Md (B : Heap) (l : List Env) (L x : Addr) (cl : Value) (dd : Option Addr) (h : Heap) : Prop where
 | new {ox : Obj} {ws : Array Value} : h.get? x = some ox→ox.cls = cl→ox.dict = dd→ox.data = .fields ws→ws[1]? = some .none→(dd ≠ none→ws[2]? = some .none)→B.StaysIn h→B.get? x = none→h.FunFrames B l→Md B l L x cl dd h
 | fly : FlyD B l x cl dd .none h→Md B l L x cl dd h
 | held : FlyD B l x cl dd (rawInt L) h→Md B l L x cl dd h
noncomputable def XT (X : Cx) (EX : St→XK) : Value→Shared→Prop:=fun e s'=>∃ (x : Addr) (cl : Value) (dd : Option Addr) (σ : St) (H : Hp) (B : Heap),e = .ref x∧Inv X [] σ H s'∧H x = none∧X.s₀.heap.objs.size ≤ x∧Cov X B H s'.heap∧EX σ cl dd H∧Md B X.stack X.env.locals x cl dd s'.heap
noncomputable def CXE (P : Program) (w : World) : CXT:=fun outer H s E e s'=>∃ (x : Addr) (cl : Value) (dd : Option Addr) (H' : Hp) (B : Heap),e = .ref x∧s'.os = s.os∧AllBare s'.gens∧Un (frs outer) [] H H' s.heap s'.heap∧HOk P w H' s'.heap ∧
 FlyD B outer x cl dd .none s'.heap∧H' x = none∧s.heap.objs.size ≤ x∧(∀ b o,H' b = some o→∃ q,s'.heap.get? b = some q∧B.get? b = some q)∧(∀ b o,s.heap.get? b = some o→b ∉ frs outer→∃ q,s'.heap.get? b = some q∧B.get? b = some q)∧E cl dd H'
noncomputable def Cx.tr (X : Cx) (pins : List (Addr × Obj)) (EX : St→XK) : Cx:={ X with pn:=X.pn ++ pins,xe:=XT { X with pn:=X.pn ++ pins } EX }
theorem Cx.Ok.pn {X : Cx} (ok : X.Ok) (pn : List (Addr × Obj)) (E : Value→Shared→Prop) : ({ X with pn:=pn,xe:=E } : Cx).Ok :=
 ⟨ok.mod,ok.kind,ok.glob,ok.blt,ok.above,ok.inj,ok.has,ok.cab,ok.hd,ok.frames,ok.stk,ok.exf,ok.bs,ok.bsz,ok.noex,ok.exfs,ok.funs,ok.frf⟩
theorem Inv.tr {X : Cx} {pins : List (Addr × Obj)} {σ : St} {H : Hp} {s : Shared} (I : Inv X pins σ H s) (EX : St→XK) : Inv (X.tr pins EX) [] σ H s :=
 ⟨I.ok.pn _ _,I.os,I.bare,I.base,I.loc,I.cell,I.free,I.freeC,fun p hp=>I.pin p (by
  have : p ∈ (X.pn ++ pins) ++ []:=hp
  simpa using this),I.hok,I.len⟩
theorem Inv.untr {X : Cx} {pins : List (Addr × Obj)} {σ : St} {H : Hp} {s : Shared} {EX : St→XK} (I : Inv (X.tr pins EX) [] σ H s) (ok : X.Ok) : Inv X pins σ H s :=
 ⟨ok,I.os,I.bare,I.base,I.loc,I.cell,I.free,I.freeC,fun p hp=>I.pin p (by
  show p ∈ (X.pn ++ pins) ++ []
  simpa using hp),I.hok,I.len⟩
theorem Inv.nopins {X : Cx} {pins : List (Addr × Obj)} {σ : St} {H : Hp} {s : Shared} (I : Inv X pins σ H s) : Inv X [] σ H s :=
 ⟨I.ok,I.os,I.bare,I.base,I.loc,I.cell,I.free,I.freeC,fun p hp=>I.pin p (by
  have : p ∈ X.pn:=by simpa using hp
  exact List.mem_append_left _ this),I.hok,I.len⟩
theorem Inv.xe' {X : Cx} {pins : List (Addr × Obj)} {σ : St} {H : Hp} {s : Shared} {E : Value→Shared→Prop} (I : Inv X pins σ H s) : Inv { X with xe:=E } pins σ H s:=⟨I.ok.wish E,I.os,I.bare,I.base,I.loc,I.cell,I.free,I.freeC,I.pin,I.hok,I.len⟩
theorem Df.tr {X : Cx} (d : Df X) (pins : List (Addr × Obj)) (EX : St→XK) : Df (X.tr pins EX):=⟨d.stk,d.fr,d.ex,d.fn⟩
noncomputable def jnp (CX : CXT) (X : Cx) (EX : St→XK) : Prop:=∀ (pins : List (Addr × Obj)) (σ : St) (H : Hp) (s : Shared) (e : Value) (s' : Shared),Inv X pins σ H s→CX X.stack H s (EX σ) e s'→X.xe e s'
theorem passT {X : Cx} (d : Df X) {pins0 : List (Addr × Obj)} {EX : St→XK} : jnp (CXE X.prog X.w) (X.tr pins0 EX) EX:=by
 intro pins σ H s e s' I h
 obtain ⟨x,cl,dd,H',B,rfl,os,bare,un,hok,fl,hx,nx,c1,c2,q⟩:=h
 obtain ⟨hh,g,dr,t,os'⟩:=s'
 obtain rfl : os' = s.os:=os
 have I0:=I.nopins
 have I2 : Inv (X.tr pins0 EX) [] σ H' ⟨hh,g,dr,t,s.os⟩:=I0.call (h':=hh) (g':=g) (d':=dr) (t':=t) (ch:=[]) un hok bare (fun b z=>absurd z (by simp))
 have d' : Df (X.tr pins0 EX):=d.tr _ _
 refine ⟨x,cl,dd,σ,H',B,rfl,I2.xe',hx,Nat.le_trans I0.sz nx,⟨c1,fun b o e nb=>?_,fun p hp=>?_,fun y c e=>?_⟩,q,.fly fl⟩
 ·obtain ⟨o1,e1⟩:=I0.base.there b o e (by rw [d'.ex]; exact List.not_mem_nil)
  exact c2 b o1 e1 nb
 ·obtain ⟨g1,_,nl,nf,_⟩:=I0.pin p (List.mem_append_left _ hp)
  obtain ⟨r,r1,r2⟩:=c2 p.1 p.2 g1 (by rw [jcr d']; exact fun z=>(List.mem_cons.mp z).elim nl nf)
  obtain ⟨g2,_⟩:=I2.pin p (List.mem_append_left _ hp)
  rw [show hh.get? p.1 = some p.2 from g2] at r1; cases r1
  exact r2
 ·obtain ⟨v,o,ho,_⟩:=I0.cell y c e
  exact c2 c o ho (I0.notfr d' e)
theorem leaveT {X : Cx} (d : Df X) (fr : X.A.frames = some X.stack) {EX : St→XK} {E : XK} (hE : ∀ σ cl dd H,EX σ cl dd H→E cl dd H) {e : Value} {s' : Shared} {E' : Value→Shared→Prop} (h : XT X EX e s') :
  wpAny (model X.prog X.w) X.A (leaving X.env e) (fun _ s''=>CXE X.prog X.w X.outer X.H₀ X.s₀ E e s'') E' s':=by
 obtain ⟨x,cl,dd,σ,H,B,rfl,I,hx,nx,c,q,m⟩:=h
 have fr' : X.A.frames = some (X.env :: X.outer):=by rw [← d.stk]; exact fr
 have fin : ∀ h1,FlyD B X.outer x cl dd .none h1→s'.heap.UpToSlots h1→CXE X.prog X.w X.outer X.H₀ X.s₀ E (.ref x) { s' with heap:=h1 }:=by
  intro h1 f1 u1
  have J:=I.viaB d c f1.stays u1
  have c':=c.next f1.stays
  have un:=J.base
  rw [d.ex] at un
  refine ⟨x,cl,dd,H,B,rfl,J.os,J.bare,un,J.hok,f1,hx,nx,c'.tr,fun b o e nb=>c'.old b o e ?_,hE _ _ _ _ q⟩
  rw [jcr d]
  exact fun z=>(List.mem_cons.mp z).elim (Nat.ne_of_lt (Nat.lt_of_lt_of_le (Heap.lt_size e) J.ok.above)) nb
 cases m with
 | new gx c1 c2 dx w1 w2 st nb fu =>
  rw [d.stk] at fu
  subst c1; subst c2
  exact jr0 fr' fu d.fr gx st nb dx w1 w2 fun h1 f1 u1=>fin h1 f1 u1
 | fly f =>
  rw [d.stk] at f
  exact leaveD fr' d.fr f fun h1 f1 u1=>fin h1 f1 u1
 | held f =>
  rw [d.stk] at f
  exact jqz d.fr f fun h1 f1 u1=>fin h1 f1 u1
end L2
namespace L2
open PySem PySem.Spec PyProof.Rows
section
variable {X : Cx} {CX : CXT} {k : Nat} {f : Addr} {fd : FuncData} {ps : List Str} {sp : Sp} {EX : St→XK} {x : Str} {p pos : Pos} {e : Expr} {es : List Expr} {t : TA} {ds : List Value} {dvs : List V}
noncomputable def jl3 (sp : Sp) (dvs : List V) (EX : St→XK) (t : TA) : TE:=fun σ H Q=>t σ H fun vs H1=>sp (vs ++ dvs) H1 Q (EX σ)
theorem joc (F : FnOk X.prog X.w X.K X.mg X.base CX k f fd ps sp) (hr : Room k X.A) (hg : Gl X x) (hm : X.mg x = some (.ref f)) (hk : PySem.W.keepIn X.K (.ref f) = true) (hb : jff X.K fd ps ds) (hd : Vals dvs ds) (hx : jnp CX X EX)
  (ha : PA X (e :: es) t) (hdb : (x == ("__debug__" : Str)) = false:=by decide) (he : starEach (e :: es) X.env = (false,eval e X.env) :: starEach es X.env:=by rfl) (hpl : (backTo pos (starEach es X.env)).any (·.1) = false:=by rfl) :
  PE X (.Call (.Name x p) (e :: es) [] pos) (jl3 sp dvs EX t):=by
 intro pins s σ H Q I h
 refine wpAny_Call_Name_kw (jda I hg hm ?_ hdb)
 refine PySem.W.callWith_K (h₀:=X.base) I.ok.mod.kin hk (thn (ha pos pins s σ H _ I h) fun us s1 ⟨vs,H1,I1,r,q⟩=>⟨I1.kIn,?_⟩) he hpl
 have r2 : Vals (vs ++ dvs) (us ++ ds):=r.append hd
 have hl : (us ++ ds).length = ps.length:=by rw [← r2.length]; exact F.len _ _ _ _ q
 refine wpAny_call (codeAny_mono (F.run X.A X.stack s1 H1 ⟨us,[]⟩ (us ++ ds) (vs ++ dvs) Q (EX σ) hr I1.env0 (hb s1 us I1.kIn hl) r2 q) fun rr s' hq=>?_)
 cases rr with
 | error e=>exact hx pins σ H1 s1 e s' I1 hq
 | ok fl =>
  cases fl with
  | ret u=>exact I1.after hq
  | next=>exact False.elim hq
  | brk=>exact False.elim hq
  | cont=>exact False.elim hq
end
theorem Inv.tr0 {X : Cx} {pins : List (Addr × Obj)} {σ : St} {H : Hp} {s : Shared} (I : Inv X pins σ H s) (EX : St→XK) : Inv (X.tr [] EX) pins σ H s :=
 ⟨I.ok.pn _ _,I.os,I.bare,I.base,I.loc,I.cell,I.free,I.freeC,fun p hp=>I.pin p (by
  have : p ∈ (X.pn ++ []) ++ pins:=hp
  simpa using this),I.hok,I.len⟩
theorem Inv.untr0 {X : Cx} {pins : List (Addr × Obj)} {σ : St} {H : Hp} {s : Shared} {EX : St→XK} (I : Inv (X.tr [] EX) pins σ H s) (ok : X.Ok) : Inv X pins σ H s :=
 ⟨ok,I.os,I.bare,I.base,I.loc,I.cell,I.free,I.freeC,fun p hp=>I.pin p (by
  show p ∈ (X.pn ++ []) ++ pins
  simpa using hp),I.hok,I.len⟩
theorem SP.untr0 {X : Cx} {pins : List (Addr × Obj)} {EX : St→XK} {D : Ends} {fl : Flow} {s' : Shared} (ok : X.Ok) (h : SP (X.tr [] EX) pins D fl s') : SP X pins D fl s':=by
 cases fl with
 | ret u=>obtain ⟨v,σ',H',J,r,q⟩:=h; exact ⟨v,σ',H',J.untr0 ok,r,q⟩
 | next=>obtain ⟨σ',H',J,q⟩:=h; exact ⟨σ',H',J.untr0 ok,q⟩
 | brk=>obtain ⟨σ',H',J,q⟩:=h; exact ⟨σ',H',J.untr0 ok,q⟩
 | cont=>obtain ⟨σ',H',J,q⟩:=h; exact ⟨σ',H',J.untr0 ok,q⟩
section
variable {P : Program} {w : World} {K : PySem.W.Frag} {mg : Str→Option Value} {base : Heap}
theorem df_of (CX : CXT) (N : List Str) (qual : Str) (sc : Scope) (f : Addr) (cd : Value) (A : Around) (outer : List Env) (s : Shared) (H : Hp) (E : XK) : Df (cxOf CX P w K mg base N qual sc f cd A outer s H E):=⟨rfl,rfl,rfl,fun _=>rfl⟩
theorem Fun.okX {x qual : Str} {st : Stmt} {f : Addr} {fd : FuncData} {N ps : List Str} {k : Nat} {sp : Sp} (F : Fun K x qual st f fd) (S : FnScope N ps (ja7 st)) (len : ∀ vs H Q E,sp vs H Q E→vs.length = ps.length)
  (hbody : ∀ (cdv : Value) (A : Around) (outer : List Env) (s : Shared) (H : Hp) (vs : List V) (Q : VK) (E : XK),Room k (A.deeper (envOfC qual (ja7 st) s.heap.objs.size f cdv))→sp vs H Q E →
   ∃ t,PSs ((cxOf (CXE P w) P w K mg base N qual (ja7 st) f cdv A outer s H E).tr [] fun _=>E) (jc1 st) t∧t { nx:=fun _ H'=>Q .non H',rt:=Q } (start N vs) H) : FnOk P w K mg base (CXE P w) (k + 1) f fd ps sp:=by
 obtain ⟨oc,od,kV,doc,pm,an,cdv,ct,osl,rfl,lk,hcd⟩:=F.ex
 refine fn_of lk hcd S len fun A outer s H vs Q E hr hsp=>?_
 obtain ⟨t,h,q⟩:=hbody cdv A outer s H vs Q E hr hsp
 refine ⟨t,fun pins s1 σ H1 D I hw=>?_,q⟩
 refine wpAny_mono (h pins s1 σ H1 D (I.tr0 _) hw) (fun fl s2 z=>z.untr0 I.ok) fun e s2 z=>?_
 have d:=df_of (P:=P) (w:=w) (K:=K) (mg:=mg) (base:=base) (CXE P w) N qual (ja7 st) f cdv A outer s H E
 have z' : XT (cxOf (CXE P w) P w K mg base N qual (ja7 st) f cdv A outer s H E) (fun _=>E) e s2:=z
 exact leaveT (EX:=fun _=>E) (E:=E) d I.ok.frames (fun _ _ _ _ q=>q) z'
end
section
variable {prog : Program} {w : World} {A : Around} {E : Value→Shared→Prop} {h : Heap} {g : Array GenState} {d : Drawn} {t : Nat} {os : OsState}
variable {nm q : Str} {C N : Addr} {bs bm bmB : List Value} {hdct : Bool} {sn : List Str} {sub : List Value} {ab : Bool} {col : Option Bool} {dd : Option Addr} {k0 k1 k2 k3 k5 : Option Value} {B newId initId : String}
end
end L2
namespace L2
open PySem PySem.Spec PyProof.Rows Builtin Builtin.ObjectAttr
section
variable {prog : Program} {w : World} {A : Around} {E : Value→Shared→Prop} {h : Heap} {g : Array GenState} {d : Drawn} {t : Nat} {os : OsState} {C : Addr} {bmB : List Value} {B newId initId : String}
end
noncomputable def jpt : Value→Bool
 | .ref _=>true
 | _=>false
theorem jpt.ex {v : Value} (h : jpt v = true) : ∃ a,v = .ref a:=by
 cases v <;> first | exact ⟨_,rfl⟩ | cases h
noncomputable abbrev bmV : List Value:=[.type "ValueError",.type "Exception",.type "BaseException",.type "object"]
section
variable {prog : Program} {w : World} {A : Around} {E : Value→Shared→Prop} {s : Shared} {K : PySem.W.Frag} {x C t0 : Addr} {dz : Option Addr} {name : Str} {v : Value} {Q : Unit→Shared→Prop}
end
end L2
namespace L2
open PySem PySem.Spec PyProof.Rows
section
variable {P : Program} {w : World} {H : Hp} {h : Heap} {a C : Addr} {dd : Option Addr} {fs : List (Str × V)}
end
section
variable {X : Cx} {pins : List (Addr × Obj)} {σ : St} {H : Hp} {s : Shared} {h' : Heap} {x dx : Addr} {φ : Heap→Prop} {o1 o2 : HO} {t' : Nat}
end
section
variable {X : Cx} {o value e : Expr} {es : List Expr} {f x : Str} {p pos pos' apos : Pos} {ta tv : TE} {t : TA} {C T : Addr} {bmB : List Value} {B newId initId : String} {fI : Addr}
end
end L2
namespace L2
open PySem PySem.Spec PyProof.Rows
noncomputable def del (H : Hp) (x : Addr) : Hp:=fun b=>if b = x then none else H b
theorem jov {H : Hp} {x : Addr} : del H x x = none:=if_pos rfl
theorem jq3 {H : Hp} {x b : Addr} (n : b ≠ x) : del H x b = H b:=if_neg n
theorem jed {H : Hp} {x b : Addr} (h : H b = none) : del H x b = none:=by
 unfold del
 split
 ·rfl
 ·exact h
theorem Inv.drop {X : Cx} {pins : List (Addr × Obj)} {σ : St} {H : Hp} {s : Shared} {x : Addr} {φ : Heap→Prop} (I : Inv X pins σ H s) (hx : H x = some (.ext φ)) : Inv X pins σ (del H x) s:=by
 have kp : ∀ b u,H b = some u→(∀ ψ,u ≠ .ext ψ)→del H x b = some u:=fun b u e n=>by
  rw [jq3 fun z=>by rw [z,hx] at e; exact n φ (Option.some.inj e).symm]; exact e
 refine ⟨I.ok,I.os,I.bare,⟨I.base.keep,I.base.slot,fun b o e n hb=>jed (I.base.free b o e n hb),I.base.there,fun b xs e=>kp b _ (I.base.tups b xs e) (fun ψ z=>by cases z),fun b o u e=>kp b _ (I.base.frzs b o u e) (fun ψ z=>by cases z),fun b ps e=>?_⟩,I.loc,I.cell,jed I.free,fun y c e=>jed (I.freeC y c e),
  fun p hp=>let ⟨a,b,c⟩:=I.pin p hp; ⟨a,jed b,c⟩,fun b u e=>?_,I.len⟩
 ·obtain ⟨m,e'⟩:=I.base.tbls b ps e
  exact ⟨m,kp b _ e' (fun ψ z=>by cases z)⟩
 ·have nb : b ≠ x:=fun z=>by rw [z,jov] at e; cases e
  rw [jq3 nb] at e
  exact (I.hok b u e).stay (fun _ _ _ q=>q) (fun c z=>kp c _ z (fun ψ y=>by cases y)) fun c xs z=>kp c _ z (fun ψ y=>by cases y)
noncomputable def XO (X : Cx) (EX : St→XK) : Prop:=∀ e s',XT X EX e s'→X.xe e s'
theorem xo_tr {Y : Cx} {pins : List (Addr × Obj)} {EX : St→XK} : XO (Y.tr pins EX) EX:=fun e s' ⟨x,cl,dd,σ,H,B,e1,I,hx,nx,c,q,m⟩=>⟨x,cl,dd,σ,H,B,e1,I.xe',hx,nx,⟨c.tr,c.old,c.pin,c.cel⟩,q,m⟩
section
variable {X : Cx} {EX : St→XK} {k : Nat} {fI C : Addr} {fd : FuncData} {ps : List Str} {sp : Sp} {x : Str} {p cpos pos : Pos} {e : Expr} {es : List Expr} {t : TA} {bmB : List Value} {B newId initId : String}
end
end L2
namespace L2
open PySem PySem.Spec PyProof.Rows
noncomputable def caO (a : Addr) (cl : Value) (dd : Option Addr) : HO:=.ext fun h=>∃ o ws,h.get? a = some o∧o.cls = cl∧o.dict = dd∧o.data = .fields ws
theorem caO_ok {P : Program} {w : World} {H : Hp} {h : Heap} {a : Addr} {cl : Value} {dd : Option Addr} {o : Obj} {ws : Array Value} (e : h.get? a = some o) (h1 : o.cls = cl) (h2 : o.dict = dd) (h3 : o.data = .fields ws) : jb8 P w H h a (caO a cl dd) :=
 ⟨⟨o,ws,e,h1,h2,h3⟩,⟨o,e⟩,fun _ _ ⟨o,ws,e,q⟩ k=>⟨o,ws,k _ e,q⟩⟩
theorem jrp {P : Program} {w : World} {H : Hp} {h : Heap} {a : Addr} {cl : Value} {dd : Option Addr} (e : jb8 P w H h a (caO a cl dd)) : ∃ o ws,h.get? a = some o∧o.cls = cl∧o.dict = dd∧o.data = .fields ws:=e.1
section
variable {X : Cx} {pins : List (Addr × Obj)} {σ : St} {H : Hp} {s : Shared} {x : Addr} {o : HO}
theorem Inv.adopt (I : Inv X pins σ H s) (hx : H x = none) (nx : X.s₀.heap.objs.size ≤ x) (nl : X.env.locals ≠ x) (nc : ∀ y c,X.env.cells.lookup y = some c→c ≠ x) (np : ∀ p ∈ X.pn ++ pins,p.1 ≠ x) (new : jb8 X.prog X.w (upd H x o) s.heap x o) :
  Inv X pins σ (upd H x o) s:=by
 have kp : ∀ b u,H b = some u→upd H x o b = some u:=fun b u e=>by rw [ja8 fun z=>by rw [z,hx] at e; cases e]; exact e
 refine ⟨I.ok,I.os,I.bare,⟨I.base.keep,I.base.slot,fun b o e n hb=>?_,I.base.there,fun b xs e=>kp b _ (I.base.tups b xs e),fun b o u e=>kp b _ (I.base.frzs b o u e),fun b ps e=>?_⟩,I.loc,I.cell,(by rw [ja8 nl]; exact I.free),fun y c e=>by rw [ja8 (nc y c e)]; exact I.freeC y c e,
  fun p hp=>let ⟨a,b,c⟩:=I.pin p hp; ⟨a,by rw [ja8 (np p hp)]; exact b,c⟩,fun b u e=>?_,I.len⟩
 ·rw [ja8 (Nat.ne_of_lt (Nat.lt_of_lt_of_le (Heap.lt_size e) nx))]; exact I.base.free b _ e n hb
 ·obtain ⟨m,e'⟩:=I.base.tbls b ps e
  exact ⟨m,kp b _ e'⟩
 ·by_cases q : b = x
  ·subst q; rw [ja1] at e; cases e; exact new
  ·rw [ja8 q] at e
   exact (I.hok b u e).stay (fun _ _ _ q=>q) (fun c z=>kp c _ z) fun c xs z=>kp c _ z
theorem jg9 {M : Model} {A : Around} {E : Value→Shared→Prop} {i : Nat} {n : Str} {pos : Pos} {Q : Unit→Shared→Prop} (I : Inv X pins σ H s) (hN : X.N.Nodup) (hi : X.N[i]? = some n) (hk : X.env.scope.names.lookup n = some .local)
  (h : ∀ s',Inv X pins (σ.set i none) H s'→Q () s') : wpAny M A (do bindName X.env n .none; unbindBehindTheSuite X.env n pos) Q E s:=by
 obtain ⟨m,hn,hl⟩:=id I.loc
 have hcls : (X.env.scope.kind == .class || (X.env.scope.kind == .module && X.env.locals != X.env.globals)) = false:=by rw [I.ok.kind]; rfl
 obtain ⟨oL,_,_,hoL,_⟩:=id hn
 have ab : ∀ {b o},X.s₀.heap.get? b = some o→b ≠ X.env.locals:=fun e=>Nat.ne_of_lt (Nat.lt_of_lt_of_le (Heap.lt_size e) I.ok.above)
 refine wpAny_nameGoes_keeps hk hn hcls fun h' v hn' hs=>?_
 refine h _ ⟨I.ok,I.os,I.bare,⟨fun b o e n hb hx=>(hs.2 b (ab e)).trans (I.base.keep b o e n hb hx),fun b o e n hb hx=>?_,I.base.free,fun b o e hx=>?_,I.base.tups,I.base.frzs,I.base.tbls⟩,⟨_,hn',fun j y v' e1 e2 e3=>?_⟩,fun y c e=>?_,I.free,I.freeC,fun p hp=>?_,fun b ob e=>?_,by simpa using I.len⟩
 ·obtain ⟨sl,e1⟩:=I.base.slot b o e n hb hx
  exact ⟨sl,(hs.2 b (ab e)).trans e1⟩
 ·obtain ⟨o',e1⟩:=I.base.there b o e hx
  exact ⟨o',(hs.2 b (ab e)).trans e1⟩
 ·have hj : j ≠ i:=fun z=>by
   subst z
   rw [List.getElem?_set_self (by rw [I.len]; exact (List.getElem?_eq_some_iff.mp hi).1)] at e2
   cases e2
  rw [List.getElem?_set_ne (Ne.symm hj)] at e2
  obtain ⟨u',r',q⟩:=hl j y v' e1 e2 e3
  refine ⟨u',r',?_⟩
  rcases q with ⟨k,e⟩ | ⟨k,c,e,z⟩
  ·refine .inl ⟨k,?_⟩
   have : y ≠ n:=fun e=>hj (jg7 hN e1 (e ▸ hi))
   simp [this,e]
  ·exact .inr ⟨k,c,e,z.sameBut hs (I.cne y c e)⟩
 ·obtain ⟨v0,z⟩:=I.cell y c e
  exact ⟨v0,z.sameBut hs (I.cne y c e)⟩
 ·obtain ⟨g,q,ne,r⟩:=I.pin p hp
  exact ⟨(hs.2 p.1 ne).trans g,q,ne,r⟩
 ·refine (I.hok b ob e).stay (fun c w' hc q=>(hs.2 c ?_).trans q) (fun _ q=>q) fun _ _ q=>q
  rintro rfl
  rcases hc with rfl | hc
  ·rw [I.free] at e; cases e
  ·rw [I.free] at hc; cases hc
end
noncomputable def Cx.hnd (X : Cx) (x : Addr) : Cx:={ X with A:=X.A.mark (some (.ref x)),calm:=false,xe:=fun _ _=>False }
theorem Cx.Ok.hnd {X : Cx} (ok : X.Ok) (x : Addr) : (X.hnd x).Ok:=⟨ok.mod,ok.kind,ok.glob,ok.blt,ok.above,ok.inj,ok.has,ok.cab,(fun z=>by cases z),ok.frames,ok.stk,ok.exf,ok.bs,ok.bsz,ok.noex,ok.exfs,ok.funs,ok.frf⟩
theorem Inv.toHnd {X : Cx} {pins : List (Addr × Obj)} {σ : St} {H : Hp} {s : Shared} (I : Inv X pins σ H s) (x : Addr) : Inv (X.hnd x) pins σ H s:=⟨I.ok.hnd x,I.os,I.bare,I.base,I.loc,I.cell,I.free,I.freeC,I.pin,I.hok,I.len⟩
theorem Inv.unHnd {X : Cx} {pins : List (Addr × Obj)} {σ : St} {H : Hp} {s : Shared} {x : Addr} (I : Inv (X.hnd x) pins σ H s) (ok : X.Ok) : Inv X pins σ H s:=⟨ok,I.os,I.bare,I.base,I.loc,I.cell,I.free,I.freeC,I.pin,I.hok,I.len⟩
theorem Inv.pn2 {X : Cx} {pins : List (Addr × Obj)} {σ : St} {H : Hp} {s : Shared} (I : Inv ({ X with pn:=X.pn ++ pins } : Cx) [] σ H s) (ok : X.Ok) : Inv X pins σ H s :=
 ⟨ok,I.os,I.bare,I.base,I.loc,I.cell,I.free,I.freeC,fun p hp=>I.pin p (by
  show p ∈ (X.pn ++ pins) ++ []
  simpa using hp),I.hok,I.len⟩
noncomputable def Mch (K : PySem.W.Frag) (C : Addr) (cl : Value) : Prop:=∀ (prog : Program) (w : World) (A : Around) (E : Value→Shared→Prop) (s : Shared) (e : Addr) (o : Obj) (Q : Bool→Shared→Prop),K.In s.heap→s.heap.get? e = some o→o.cls = cl→Q true s→wpAny (model prog w) A (excMatches (.ref e) (.ref C)) Q E s
noncomputable def Ends.unb (D : Ends) (i : Nat) : Ends:={ nx:=fun σ H=>D.nx (σ.set i none) H,rt:=D.rt,bk:=fun σ H=>D.bk (σ.set i none) H,ct:=fun σ H=>D.ct (σ.set i none) H }
noncomputable def tTry (mt : Value→Prop) (i : Nat) (tb : (St→XK)→TS) (th : TS) : TS:=fun D σ H=>tb (fun σ' cl dd H'=>mt cl∧∀ x,H' x = none→th (D.unb i) (σ'.set i (some (.ref x))) (upd H' x (caO x cl dd))) D σ H
section
variable {X : Cx} {x n : Str} {np hpos pos : Pos} {body suite : List Stmt} {b0 : Stmt} {C : Addr} {mt : Value→Prop} {i : Nat} {tb : (St→XK)→TS} {th : TS}
theorem jo4 (d : Df X) (hN : X.N.Nodup) (hi : X.N[i]? = some n) (hk : X.env.scope.names.lookup n = some .local) (hg : Gl X x) (hm : X.mg x = some (.ref C)) (hM : ∀ cl,mt cl→Mch X.K C cl)
  (hb : ∀ pins EX,PSs (X.tr pins EX) body (tb EX)) (hs : ∀ a,PSs (X.hnd a) (b0 :: suite) th) (hdb : (x == ("__debug__" : Str)) = false:=by decide) :
  PS X (.Try body [.ExceptHandler (some (.Name x np)) (some n) (b0 :: suite) hpos] [] [] pos) (tTry mt i tb th):=by
 intro pins s σ H D I h
 have d' : Df ({ X with pn:=X.pn ++ pins } : Cx):=⟨d.stk,d.fr,d.ex,d.fn⟩
 have fr' : X.A.frames = some (X.env :: X.outer):=by rw [← d.stk]; exact I.ok.frames
 refine wpAny_Try_except (wpAny_mono (hb pins _ [] s σ H D (I.tr _) h) (fun f s1 hf=>?_) fun e s1 hx=>?_)
 ·cases f with
  | next =>
   obtain ⟨σ',H',J,q⟩:=hf
   exact jai pins s1 σ' H' D (J.untr I.ok) q
  | ret u=>obtain ⟨v,σ',H',J,r,q⟩:=hf; exact ⟨v,σ',H',J.untr I.ok,r,q⟩
  | brk=>obtain ⟨σ',H',J,q⟩:=hf; exact ⟨σ',H',J.untr I.ok,q⟩
  | cont=>obtain ⟨σ',H',J,q⟩:=hf; exact ⟨σ',H',J.untr I.ok,q⟩
 ·obtain ⟨a,cl,dd,σ1,H1,B,rfl,J,hxn,nx,c,⟨hmt,q⟩,m⟩:=hx
  have go : ∀ h2,FlyD B X.stack a cl dd (rawInt X.env.locals) h2→s1.heap.UpToSlots h2→wpAny (model X.prog X.w) X.A (setFlight (.ref a) none) (fun _ s3=>wpAny (model X.prog X.w) X.A (handleBy (.ref a) X.env [.ExceptHandler (some (.Name x np)) (some n) (b0 :: suite) hpos]) (SP X pins D) X.xe s3) X.xe { s1 with heap:=h2 }:=by
   intro h2 f2 u2
   refine jf8 (s:={ s1 with heap:=h2 }) none f2 fun h3 f3 u3=>?_
   have J3:=(J.viaB d' c f3.stays (u2.trans u3)).pn2 I.ok
   have c3:=c.next f3.stays
   refine wpAny_handleBy_cons (codeAny_handlers_test (jda (X:=X.hnd a) (J3.toHnd a) hg hm ?_ hdb)) (by intro z; cases z)
   obtain ⟨ox,ws,gx,cx,dx,ex⟩:=f3.there
   refine hM cl hmt _ _ _ _ _ a ox _ J3.kIn gx cx (codeAny_handlers_suite_as ?_)
   refine jf8 (s:={ s1 with heap:=h3 }) none f3 fun h4 f4 u4=>?_
   have J4:=(J.viaB d' c f4.stays ((u2.trans u3).trans u4)).pn2 I.ok
   obtain ⟨ox,ws,gx,cx,dx,ex⟩:=f4.there
   have nl : X.env.locals ≠ a:=fun z=>by
    obtain ⟨m,⟨o,es,ep,ho,hd,_⟩,_⟩:=J4.loc
    rw [z] at ho
    rw [show h4.get? a = some ox from gx] at ho
    cases ho
    rw [ex] at hd
    cases hd
   have J5:=J4.adopt (x:=a) (o:=caO a cl dd) hxn nx nl (fun y cc e z=>by
    obtain ⟨q1,_,q2⟩:=c.cel y cc e
    rw [z,f4.new] at q2
    cases q2) (fun p hp z=>by
    have:=c.pin p hp
    rw [z,f4.new] at this
    cases this) (caO_ok gx cx dx ex)
   refine je6 (X:=X) (A:=(X.hnd a).A) J5 hN hi (.inl hk) (v:=.ref a) rfl (fun s6 J6=>?_) (.inr hk)
   refine wpAny_mono (hs a pins s6 _ _ (D.unb i) (J6.toHnd a) (q a hxn)) (fun f s7 hf=>?_) fun _ _ z=>z.elim
   cases f with
   | next =>
    obtain ⟨σ',H',J7,q7⟩:=hf
    exact jg9 (J7.unHnd I.ok) hN hi hk fun s8 J8=>⟨_,_,J8,q7⟩
   | ret u =>
    obtain ⟨v,σ',H',J7,r,q7⟩:=hf
    exact jg9 (J7.unHnd I.ok) hN hi hk fun s8 J8=>⟨v,_,_,J8,r,q7⟩
   | brk =>
    obtain ⟨σ',H',J7,q7⟩:=hf
    exact jg9 (J7.unHnd I.ok) hN hi hk fun s8 J8=>⟨_,_,J8,q7⟩
   | cont =>
    obtain ⟨σ',H',J7,q7⟩:=hf
    exact jg9 (J7.unHnd I.ok) hN hi hk fun s8 J8=>⟨_,_,J8,q7⟩
  cases m with
  | new gx c1 c2 dx w1 w2 st nb fu =>
   rw [show ({ X with pn:=X.pn ++ pins } : Cx).stack = X.env :: X.outer from d.stk] at fu
   subst c1; subst c2
   exact jpr fr' fu d.fr gx st nb dx w1 w2 fun h1 f1 u1=>go h1 (by rw [d.stk]; exact f1) u1
  | fly f =>
   rw [show ({ X with pn:=X.pn ++ pins } : Cx).stack = X.env :: X.outer from d.stk] at f
   exact noteD fr' d.fr f fun h1 f1 u1=>go h1 (by rw [d.stk]; exact f1) u1
  | held f=>exact jh0 d.fr f (go s1.heap f (Heap.UpToSlots.refl _))
end
end L2
namespace L2
open PySem PySem.Spec PyProof.Rows
theorem jax {X : Cx} {x : Str} {p : Pos} {a : Addr} (hg : Gl X x) (hm : X.mg x = some (.ref a)) (hdb : (x == ("__debug__" : Str)) = false:=by decide) : PE X (.Name x p) (tC (.ref a)):=by
 intro pins s σ H Q I h
 exact jda I hg hm ⟨.ref a,H,I,rfl,h⟩ hdb
section
variable {X : Cx} {C dx a : Addr} {fs : List (Str × V)} {H : Hp} {s : Shared}
end
end L2
namespace L2
open PySem PySem.Spec PyProof.Rows Builtin Builtin.ObjectAttr
structure XG (K : PySem.W.Frag) (C : Addr) : Prop where
 ga : PySem.W.findIn K (.ref C) "__getattribute__" = some (some (.builtin "BaseException.__getattribute__"))
 gt : PySem.W.findIn K (.ref C) "__getattr__" = some none
 sub : PySem.W.mroIn K C (.type "BaseException") = some true
section
variable {prog : Program} {w : World} {A : Around} {E : Value→Shared→Prop} {s : Shared} {K : PySem.W.Frag} {x C : Addr} {ox : Obj} {od : Option Obj} {name : Str} {v : Value}
theorem xby {tk : Tok} {fill expr : Bool} {Q : Value→Shared→Prop} (X : K.In s.heap) (c : XG K C) (I : PySem.W.InstAt s.heap x ox C od)
  (k : wpAny (model prog w) A.in1 (Builtin.«object.__getattribute__» ⟨[.ref x,.str name tk],[]⟩) (fun fin s'=>match fin with | .done (.ret v)=>wpAny (model prog w) A (handedOut v) Q E s' | _=>False) (fun _ _=>False) s) :
  wpAny (model prog w) A (getAttrBy (.ref x) (.str name tk) fill expr) Q E s:=by
 have SF:=PySem.F.attr_ValueError.ga
 unfold getAttrBy
 refine wpAny_holding (wpAny_bind (PySem.W.Looks.here I.type (wpAny_bind (PySem.W.Looks.here (PySem.W.looks_findIn X c.ga) ?_))))
 dsimp only
 rw [show (onTheHeap (Value.ref C) && Value.builtin "BaseException.__getattribute__" == Value.builtin "object.__getattribute__") = false from by rw [show (Value.builtin "BaseException.__getattribute__" == Value.builtin "object.__getattribute__") = false from by decide +kernel,Bool.and_false],if_neg (by decide)]
 unfold getAttrByItsOwn
 refine wpAny_bind (PySem.W.Looks.here (PySem.W.looks_hook X (r:=none) (by rw [if_pos (show onTheHeap (Value.ref C) = true from rfl)]; exact c.gt)) (wpAny_bind (wpAny_attempt (wpAny_holding ?_))))
 unfold callGetattribute
 rw [show (expr && onTheHeap (Value.builtin "BaseException.__getattribute__")) = false from Bool.and_false _,if_neg (by decide)]
 unfold boundAndCalled
 rw [SF.bind]
 refine wpAny_bind (wpAny_pure ?_)
 show wpAny _ _ (call (.builtin "BaseException.__getattribute__") [.ref x,.str name tk]) _ _ _
 refine wpAny_call (codeAny_call_builtin SF.plain PySem.F.entry_bexc_ga ?_)
 refine @PySem.W.check_slot (model prog w) _ _ s "BaseException.__getattribute__" "BaseException" "__getattribute__" (.ref x) [.str name tk] [] _ (by decide +kernel) (by decide +kernel) (I.type.andThen (PySem.W.looks_mroIn X c.sub)) (PySem.F.args_bexc_ga (.ref x) (.str name tk)) ?_
 refine wpAny_mono k (fun fin s' z=>?_) fun _ _ z=>z.elim
 rcases fin with (_ | _ | _ | _) | _ <;> first | exact z | exact z.elim
end
structure XY (K : PySem.W.Frag) (C : Addr) : Prop where
 g : XG K C
 hd : PySem.W.hasDictIn K C = true
 ha : PySem.W.findIn K (.ref C) "__class__" = some (some (.builtin "object.__class__"))
 hn : PySem.W.specialIn K (.builtin "object.__class__") "__get__" = some (some (.builtin "getset_descriptor.__get__"))
 ht : PySem.W.takesIn K (.builtin "object.__class__") = some true
 hm : PySem.W.mroIn K C (.type "object") = some true
theorem XY.cls {K : PySem.W.Frag} {C : Addr} (y : XY K C) : ∃ c d cd sl,K.lookup C = some ⟨c,d,.cls cd,sl⟩:=by
 obtain ⟨cd,hc,_⟩:=PySem.W.any_some y.hd
 unfold PySem.W.clsIn at hc
 split at hc
 ·rename_i ho
  exact ⟨_,_,_,_,ho⟩
 ·cases hc
section
variable {X : Cx} {C dx a : Addr} {fs : List (Str × V)} {H : Hp} {s : Shared}
end
end L2
namespace L2
open PySem PySem.Spec PyProof.Rows
section
variable {X : Cx}
end
end L2
namespace L2
open PySem PySem.Spec PyProof.Rows
structure RoomH (k : Nat) (A : Around) : Prop where
 dp : A.depth + 3 * k + 5 < recursionLimit
 un : A.units + 16 * k + 200 < cLine
theorem Room.h {j k : Nat} {A : Around} (r : Room k A) (h : j ≤ k) : RoomH j A:=⟨(r.mono h).dp,(r.mono h).un⟩
theorem Room.hm {j k : Nat} {A : Around} {o : Option Value} (r : Room k A) (h : j ≤ k) : RoomH j (A.mark o):=⟨(r.mono h).dp,(r.mono h).un⟩
theorem RoomH.mono {j k : Nat} {A : Around} (r : RoomH k A) (h : j ≤ k) : RoomH j A:=⟨by have:=r.dp; omega,by have:=r.un; omega⟩
theorem RoomH.deeper {k : Nat} {A : Around} (r : RoomH (k + 1) A) (env : Env) : RoomH k (A.deeper env) :=
 ⟨by have:=r.dp; show A.depth + 1 + 3 * k + 5 < _; omega,by have:=r.un; show A.units + 3 + 16 * k + 200 < _; omega⟩
structure FnOkH (P : Program) (w : World) (K : PySem.W.Frag) (mg : Str→Option Value) (base : Heap) (k : Nat) (f : Addr) (fd : FuncData) (ps : List Str) (sp : Sp) : Prop where
 len : ∀ vs H Q E,sp vs H Q E→vs.length = ps.length
 run : ∀ (A : Around) (outer : List Env) (s : Shared) (H : Hp) (args : Args) (us : List Value) (vs : List V) (Q : VK),RoomH k A→Env0 P w K mg base A outer s H→BindsTo s fd args (ps.zip us)→Vals vs us→sp vs H Q E0 →
  codeAny (model P w) A (.call (.ref f) args) (CR CX0 outer P w H s Q E0) s
noncomputable def cxH (P : Program) (w : World) (K : PySem.W.Frag) (mg : Str→Option Value) (base : Heap) (N : List Str) (qual : Str) (scope : Scope) (f : Addr) (cd : Value) (A : Around) (outer : List Env) (s : Shared) (H : Hp) : Cx :=
 { cxOf CX0 P w K mg base N qual scope f cd A outer s H E0 with calm:=false,xe:=fun _ _=>False }
section
variable {P : Program} {w : World} {K : PySem.W.Frag} {mg : Str→Option Value} {base : Heap}
theorem Fun.okH {x qual : Str} {st : Stmt} {f : Addr} {fd : FuncData} {N ps : List Str} {k : Nat} {sp : Sp} (F : Fun K x qual st f fd) (S : FnScope N ps (ja7 st)) (len : ∀ vs H Q E,sp vs H Q E→vs.length = ps.length)
  (hbody : ∀ (cdv : Value) (A : Around) (outer : List Env) (s : Shared) (H : Hp) (vs : List V) (Q : VK),RoomH k (A.deeper (envOfC qual (ja7 st) s.heap.objs.size f cdv))→sp vs H Q E0 →
   ∃ t,PSs (cxH P w K mg base N qual (ja7 st) f cdv A outer s H) (jc1 st) t∧t { nx:=fun _ H'=>Q .non H',rt:=Q } (start N vs) H) : FnOkH P w K mg base (k + 1) f fd ps sp:=by
 obtain ⟨oc,od,kV,doc,pm,an,cdv,ct,osl,rfl,lk,hcd⟩:=F.ex
 refine ⟨len,fun A outer s H args us vs Q hr e0 hb r hsp=>?_⟩
 have hl:=len _ _ _ _ hsp
 have KX : K.In s.heap:=e0.mod.kin.keeps fun b o e=>(e0.bs b o e).1
 have lim : s.heap.NoLimit:=e0.mod.nolimit.keeps fun b o e=>(e0.bs b o e).1
 have hkind : ∀ y ∈ ps.zip us,(ja7 st).names.lookup y.1 = some .local ∨ ((ja7 st).names.lookup y.1 = some .cell∧((cellsFrom (s.heap.objs.size + 1) (ja7 st).names []).lookup y.1).isSome = true):=fun ⟨n,v⟩ hy=>by
  rcases S.par n (List.of_mem_zip hy).1 with q | q
  ·exact .inl q
  ·exact .inr ⟨q,PySem.W.cellsFrom_some _ _ _ (.inl q)⟩
 refine codeAny_call_function (by have:=hr.dp; omega) (KX _ _ lk) rfl S.co S.gen rfl (PySem.W.codeRec_of KX hcd) (hb _ _ _ _ ?_)
 refine wpAny_newFunctionEnv_cells S.kind hkind fun env he s1 x=>?_
 subst he
 refine ⟨lim.keeps x.toInCall.keep,codeAny_func ?_⟩
 obtain ⟨t,ht,hq⟩:=hbody cdv A outer s H vs Q (hr.deeper _) hsp
 have e1 : Env0 P w K mg base { A with handled:=none } outer s H:=⟨e0.frames,e0.mod,e0.bs,e0.bsz,e0.funs,e0.frf,e0.hok,e0.bare⟩
 have I0 : Inv (cxOf CX0 P w K mg base N qual (ja7 st) f cdv { A with handled:=none } outer s H E0) [] (start N vs) H s1:=jhb S rfl e1 hl r x
 have ok:=I0.ok
 have ok2 : (cxH P w K mg base N qual (ja7 st) f cdv A outer s H).Ok:=⟨ok.mod,ok.kind,ok.glob,ok.blt,ok.above,ok.inj,ok.has,ok.cab,(fun z=>by cases z),ok.frames,ok.stk,ok.exf,ok.bs,ok.bsz,ok.noex,ok.exfs,ok.funs,ok.frf⟩
 have I : Inv (cxH P w K mg base N qual (ja7 st) f cdv A outer s H) [] (start N vs) H s1:=⟨ok2,I0.os,I0.bare,I0.base,I0.loc,I0.cell,I0.free,I0.freeC,I0.pin,I0.hok,I0.len⟩
 refine wpAny_mono (ht [] s1 (start N vs) H _ I hq) (fun fl s' hs=>?_) fun e s' hs=>hs.elim
 have fin : ∀ {σ' : St} {H' : Hp} {v : V} {u : Value},Inv (cxH P w K mg base N qual (ja7 st) f cdv A outer s H) [] σ' H' s'→RelV v u→Q v H'→CE outer P w H s Q u s':=fun {σ' H' v u} J rv q=>⟨v,H',J.os,J.bare,J.base,J.hok,rv,q⟩
 cases fl with
 | ret u =>
  obtain ⟨v,σ',H',J,rv,q⟩:=hs
  exact fin J rv q
 | next =>
  obtain ⟨σ',H',J,q⟩:=hs
  exact fin (v:=V.non) (u:=Value.none) J rfl q
 | brk =>
  obtain ⟨_,_,_,q⟩:=hs
  exact False.elim q
 | cont =>
  obtain ⟨_,_,_,q⟩:=hs
  exact False.elim q
end
section
variable {X : Cx} {k : Nat} {f : Addr} {fd : FuncData} {ps : List Str} {sp : Sp} {x : Str} {p pos : Pos} {e : Expr} {es : List Expr} {t : TA}
theorem jod (F : FnOkH X.prog X.w X.K X.mg X.base k f fd ps sp) (hr : RoomH k X.A) (hg : Gl X x) (hm : X.mg x = some (.ref f)) (hk : PySem.W.keepIn X.K (.ref f) = true) (hb : jff X.K fd ps [])
  (ha : PA X (e :: es) t) (hdb : (x == ("__debug__" : Str)) = false:=by decide) (he : starEach (e :: es) X.env = (false,eval e X.env) :: starEach es X.env:=by rfl) (hpl : (backTo pos (starEach es X.env)).any (·.1) = false:=by rfl) :
  PE X (.Call (.Name x p) (e :: es) [] pos) (jnx sp [] E0 t):=by
 intro pins s σ H Q I h
 refine wpAny_Call_Name_kw (jda I hg hm ?_ hdb)
 refine PySem.W.callWith_K (h₀:=X.base) I.ok.mod.kin hk (thn (ha pos pins s σ H _ I h) fun us s1 ⟨vs,H1,I1,r,q⟩=>⟨I1.kIn,?_⟩) he hpl
 have q : sp vs H1 Q E0:=by
  have z:=q
  dsimp only at z
  rw [List.append_nil] at z
  exact z
 have hl : us.length = ps.length:=by rw [← r.length]; exact F.len _ _ _ _ q
 have bd:=hb s1 us I1.kIn (by rw [List.append_nil]; exact hl)
 rw [List.append_nil] at bd
 refine wpAny_call (codeAny_mono (F.run X.A X.stack s1 H1 ⟨us,[]⟩ us vs Q hr I1.env0 bd r q) fun rr s' hq=>?_)
 cases rr with
 | error e=>exact hq.elim
 | ok fl =>
  cases fl with
  | ret u=>exact I1.after hq
  | next=>exact False.elim hq
  | brk=>exact False.elim hq
  | cont=>exact False.elim hq
end
section
variable {X : Cx} {C : Addr}
theorem jgn : ∀ {cs : List Addr} {us : List Value},Vals (cs.map V.ref) us→us = cs.map Value.ref
 | [],_,.nil=>rfl
 | c :: r,_,.cons h t=>by rw [jgn t]; exact congrArg (· :: _) h
end
end L2
namespace L2
open PySem PySem.Spec PyProof.Rows
section
variable {X : Cx} {x n : Str} {np hpos pos : Pos} {body suite : List Stmt} {b0 : Stmt} {C : Addr} {mt : Value→Prop} {tb : (St→XK)→TS} {th : TS}
end
end L2
namespace L2
open PySem PySem.Spec PyProof.Rows
structure XCp (C : Addr) (bmB : List Value) (newId : String) (h : Heap) : Prop where
 ex : ∃ (bm : List Value) (N : Addr) (nm q : Str) (bs : List Value) (hdct : Bool) (sn : List Str) (sub : List Value) (ab : Bool) (col : Option Bool) (dd : Option Addr) (k0 k1 k2 k3 k5 : Option Value) (mN : Str→Option Value),
  h.get? C = some (excClassObj nm q C N bs bm hdct sn sub ab col dd k0 k1 k2 k3 k5 newId)∧h.Ns N mN∧mN "__init__" = none∧OwnTail h bmB bm
theorem jkp {K : PySem.W.Frag} {h : Heap} {C : Addr} {bmB : List Value} {newId : String} (X : K.In h) (q : PySem.W.excIn K C bmB newId = true) : XCp C bmB newId h:=by
 unfold PySem.W.excIn at q
 split at q
 ·rename_i dd cd sl ho
  split at q
  ·rename_i C' bm k0 k1 k2 k3 n k5 hm hs
   simp only [Bool.and_eq_true,beq_iff_eq,Bool.not_eq_true'] at q
   obtain ⟨⟨⟨⟨⟨rfl,rfl⟩,hdel⟩,ht⟩,hok⟩,hni⟩:=q
   obtain ⟨nm,bs,mro,ns,qn,hd,sn,sub,ab,col,del⟩:=cd
   dsimp only at hm hdel hok hni
   subst hm hdel
   have hsl : sl = #[k0,k1,k2,k3,some (.builtin n),k5]:=by
    obtain ⟨l⟩:=sl
    simp only at hs
    rw [hs]
   subst hsl
   exact ⟨bm,ns,nm,qn,bs,hd,sn,sub,ab,col,dd,k0,k1,k2,k3,k5,_,X _ _ ho,.of_isNs (PySem.W.isNs_of_in X hok),PySem.W.nsMap_none_of_in X hok hni,PySem.W.tail_of_in X ht⟩
  ·cases q
 ·cases q
section
variable {prog : Program} {w : World} {A : Around} {E : Value→Shared→Prop} {s : Shared} {C a : Addr} {bmB : List Value} {newId : String}
end
section
variable {prog : Program} {w : World} {A : Around} {E : Value→Shared→Prop} {h : Heap} {g : Array GenState} {d : Drawn} {t : Nat} {os : OsState}
variable {C : Addr} {bmB : List Value} {B newId initId : String}
structure MadeAt (h h' : Heap) (C : Addr) : Prop where
 keeps : ∀ b o,h.get? b = some o→h'.get? b = some o
 rc : ∃ t0,h'.get? (h.objs.size + 1) = some { cls:=.ref C,data:=.fields #[.ref t0,.none,.none,.none,.bool false,.none] }
theorem jq7 (F : ExcBaseFacts B newId initId bmB) {us : List Value} {Q : Fin→Shared→Prop} (c : XCp C bmB newId h) (hl : us.length ≤ sizeLine)
  (k : ∀ h',MadeAt h h' C→Q (.done (.ret (.ref (h.objs.size + 1)))) ⟨h',g,d,t,os⟩) :
  wpAny (model prog w) A (Builtin.«type.__call__» ⟨.ref C :: us,[]⟩) Q E ⟨h,g,d,t,os⟩:=by
 obtain ⟨bm,N,nm,q,bs,hdct,sn,sub,ab,col,dd,k0,k1,k2,k3,k5,mN,hC,hn,hi,T⟩:=c.ex
 repeat (first | with_reducible refine wpAny_loadPart_at hC ?_ | with_reducible refine wpAny_madeBy_exc hC ?_ | wp_step)
 refine codeAny_call_builtin_code (Code.quiet_builtin _ F.quiet) (wpAny_check_new_subT F T hC ?_)
 refine codeAny_exc_new_subT F T hC ?_ hl
 show wpAny _ _ _ _ _ _
 generalize hT : ({ cls:=.type "tuple",data:=.seq us.toArray } : Obj) = oT
 generalize hX : ({ cls:=.ref C,data:=.fields #[.ref h.objs.size,.none,.none,.none,.bool false,.none] } : Obj) = oX
 have up : ∀ b o,h.get? b = some o→((h.push oT).push oX).get? b = some o:=fun b o e=>Heap.get?_push_of_some _ (Heap.get?_push_of_some _ e)
 have gX : ((h.push oT).push oX).get? (h.objs.size + 1) = some oX:=Heap.get?_push_at (by rw [Heap.size_push]) (by rw [← hX]; rfl)
 have sz2 : ((h.push oT).push oX).objs.size = h.objs.size + 2:=by rw [Heap.size_push,Heap.size_push]
 have cX : oX.cls = .ref C:=by rw [← hX]
 have T2:=T.keeps up
 have hC2:=up _ _ hC
 have hn2:=hn.keeps up
 generalize (h.push oT).push oX = h2 at gX T2 hC2 hn2 up sz2 ⊢
 have hcC : (Value.ref C :: bm).contains (.ref C) = true:=by simp
 unfold isInstance
 repeat (first | (with_reducible refine wpAny_loadPart_at gX ?_; rw [cX]) | (with_reducible refine wpAny_isSubtype_exc hC2 ?_; rw [hcC]) | wp_step)
 show wpAny _ _ (typeLookup (.ref C) _) _ _ _
 refine wpAny_typeLookup_tail hC2 hn2 T2 F.mroIs F.init.lookup ?_
 rw [hi]
 refine wpAny_holding ?_
 refine wpAny_bind (wpAny_of_eq (F.init.bind (.ref (h.objs.size + 1))) ?_)
 refine wpAny_bind (wpAny_call (codeAny_call_builtin F.init.plain F.initEntry ?_))
 refine wpAny_check_init_subT F T2 hC2 gX cX ?_
 subst hX
 wp_walk
 refine k _ ⟨fun b o hb=>?_,⟨h2.objs.size,?_⟩⟩
 ·have nb : h.objs.size + 1 ≠ b:=Nat.ne_of_gt (Nat.lt_succ_of_lt (Heap.lt_size hb))
  rw [Heap.get?_update_other _ _ nb]
  exact Heap.get?_push_of_some _ (up b o hb)
 ·exact Heap.get?_update_self _ (Heap.get?_push_of_some _ gX) rfl
theorem xplain (F : ExcBaseFacts B newId initId bmB) {us : List Value} {Q : Value→Shared→Prop} (c : XCp C bmB newId h) (hl : us.length ≤ sizeLine)
  (k : ∀ h',MadeAt h h' C→Q (.ref (h.objs.size + 1)) ⟨h',g,d,t,os⟩) :
  wpAny (model prog w) A (call (.ref C) us) Q E ⟨h,g,d,t,os⟩:=by
 obtain ⟨bm,N,nm,q,bs,hdct,sn,sub,ab,col,dd,k0,k1,k2,k3,k5,mN,hC,hn,hi,T⟩:=c.ex
 have a1:=tc_lookup
 have a2:=tc_bind (.ref C)
 have ty : (⟨h,g,d,t,os⟩ : Shared).TypeIs (.ref C) "type":=⟨_,hC,rfl⟩
 refine wpAny_call (codeAny_of_tree ?_)
 show wpAny _ _ (callAny (.ref C) _) _ _ _
 repeat (any_goals (first | assumption | with_reducible refine wpAny_loadPart_at hC ?_ | wp_step))
 refine ⟨rfl,?_⟩
 exact codeAny_call_builtin_at (Code.quiet_builtin _ (by decide +kernel)) entry_typeCall (wpAny_check_type_call_sub hC (jq7 F c hl k))
end
section
variable {X : Cx} {x y : Str} {np hpos pos p cpos rpos cp : Pos} {kk : Nat} {body : List Stmt} {C D' : Addr} {mt : Value→Prop} {tb : (St→XK)→TS} {EX : St→XK} {e : Expr} {es : List Expr} {t : TA} {bmB : List Value} {B newId initId : String}
end
end L2
namespace L2
open PySem PySem.Spec PyProof.Rows
open PySem.Builtin.ObjectAttr
theorem mch_pl {K : PySem.W.Frag} {C : Addr} {bmB : List Value} {newId : String} (q : PySem.W.excIn K C bmB newId = true) (hb : bmB.contains (.type "BaseException") = true) : Mch K C (.ref C):=by
 intro prog w A E s e o Q X he hc k
 obtain ⟨bm,N,nm,q,bs,hdct,sn,sub,ab,col,dd,k0,k1,k2,k3,k5,mN,hC,hn,hi,T⟩:=(jkp X q).ex
 obtain ⟨h,g,d,t,os⟩:=s
 exact wpAny_excMatches_sub_self hC he hc (T.hasType hb) k
theorem jmi {K : PySem.W.Frag} {x D : Addr} {ox : Obj} (y : XY K D) : PySem.W.KitX K (.ref x) (.ref D) (fun h=>PySem.W.InstAt h x ox D none) where
 ty:=fun _ _ _ I=>I.type
 it:=fun M h X _=>by
  obtain ⟨_,_,_,_,lk⟩:=y.cls
  intro A1 Q1 E1 s1 kp q1
  unfold isType loadHead
  exact wpAny_bind (wpAny_loadPart (kp _ _ (X _ _ lk)) (wpAny_pure q1))
 ne:=fun h tp dd its n sl X htp=>by
  obtain ⟨_,_,_,_,lk⟩:=y.cls
  refine Bool.eq_false_iff.mpr fun q=>?_
  obtain rfl : D = tp:=Value.ref.inj (beq_iff_eq.mp q)
  cases (X _ _ lk).symm.trans htp
 ca:=fun {prog w A E Q s} X I k=>by
  have hf : PySem.W.findObj K D none "__class__" = some (.bind (.builtin "getset_descriptor.__get__") (.builtin "object.__class__")):=by
   obtain ⟨cd,hc,_⟩:=PySem.W.any_some y.hd
   unfold PySem.W.findObj
   rw [hc,y.ha]
   dsimp only [Option.bind]
   rw [y.hn]
   dsimp only [Option.bind]
   rw [y.ht]
  unfold getAttr? getAttrBy?
  refine wpAny_bind (wpAny_mkText (wpAny_bind (wpAny_attempt (xby (s:={ s with toks:=s.toks + 1 }) X y.g I ?_))))
  obtain ⟨h0,g,d,t,os⟩:=s
  have L0:=I.type (M:=model prog w)
  have L1:=PySem.W.looks_find (M:=model prog w) X I hf
  refine wpAny_bind (wpAny_pure (wpAny_bind (wpAny_pure (wpAny_bind (L0.at (wpAny_bind (L1.at ?_)))))))
  unfold bindTo
  refine wpAny_bind (wpAny_holding (wpAny_call (PySem.W.class_get (s:=⟨h0,g,d,t + 1,os⟩) (ox:=ox) (od:=none) X I y.hm (wpAny_pure (PySem.W.handed_on rfl ?_)))))
  exact wpAny_pure k
section
variable {X : Cx} {C a : Addr} {H : Hp} {s : Shared}
theorem jp7 {pins : List (Addr × Obj)} {σ : St} (I : Inv X pins σ H s) (ea : H a = some (caO a (.ref C) none)) : ∃ (ox : Obj),PySem.W.InstAt s.heap a ox C none:=by
 obtain ⟨o,ws,go,c1,c2,c3⟩:=jrp (I.hok a _ ea)
 refine ⟨o,⟨go,c1,?_,?_⟩⟩
 ·unfold PySem.W.notCls
  rw [c3]
 ·rw [c2]
  trivial
noncomputable def jrf (C : Addr) (c : V) (b : Bool) : List V→Hp→VK→Prop:=fun vs H Q=>match vs with
 | [.ref a,c']=>c' = c∧H a = some (caO a (.ref C) none)∧Q (.bl b) H
 | _=>False
theorem q_xis0 {c : V} {cv : Value} {b : Bool} (y : XY X.K C) (hc : ∀ u,RelV c u→u = cv) (e : PySem.W.kitOne X.K (.ref C) cv = some b) : jbo X (.builtin "isinstance") (jrf C c b):=by
 intro pins s σ H vs us Q I rv h
 unfold jrf at h
 split at h
 ·rename_i a c'
  obtain ⟨rfl,ea,q⟩:=h
  obtain ⟨u1,u2,rfl,r1,r2⟩:=rv.two
  cases (show u1 = Value.ref a from r1)
  obtain rfl:=hc u2 r2
  obtain ⟨ox,J⟩:=jp7 I ea
  exact PySem.W.kia_one (jmi y) I.kIn J e (fun z=>nomatch z) fun tk=>⟨.bl b,H,I.tok tk,rfl,q⟩
 ·exact h.elim
noncomputable def jjr (C : Addr) (cs : List Addr) (b : Bool) : List V→Hp→VK→Prop:=fun vs H Q=>match vs with
 | [.ref a,.ref tp]=>H a = some (caO a (.ref C) none)∧H tp = some (.tup (cs.map V.ref))∧Q (.bl b) H
 | _=>False
theorem jln {cs : List Addr} {b : Bool} (y : XY X.K C) (e : PySem.W.kitAny X.K (.ref C) (cs.map Value.ref) = some b) : jbo X (.builtin "isinstance") (jjr C cs b):=by
 intro pins s σ H vs us Q I rv h
 unfold jjr at h
 split at h
 ·rename_i a tp
  obtain ⟨ea,et,q⟩:=h
  obtain ⟨u1,u2,rfl,r1,r2⟩:=rv.two
  cases (show u1 = Value.ref a from r1)
  cases (show u2 = Value.ref tp from r2)
  obtain ⟨ox,J⟩:=jp7 I ea
  obtain ⟨_,its,rt,o,h1,h2,h3⟩:=(show jb8 X.prog X.w H s.heap tp (.tup (cs.map V.ref)) from I.hok tp _ et)
  obtain rfl:=jgn rt
  obtain ⟨oc,odd,oda,osl⟩:=o
  dsimp only at h2 h3
  subst h2
  obtain ⟨n,h3⟩ : ∃ n,oda = .seq (cs.map Value.ref).toArray n:=by first | exact ⟨_,h3⟩ | exact h3 | (obtain ⟨n,z⟩:=h3; exact ⟨n,z⟩)
  subst h3
  exact PySem.W.kia_tup (jmi y) I.kIn J h1 e (fun z=>nomatch z) fun tk=>⟨.bl b,H,I.tok tk,rfl,q⟩
 ·exact h.elim
end
structure ClsP (K : PySem.W.Frag) (mg : Str→Option Value) (x : Str) (C : Addr) : Prop where
 m : mg x = some (.ref C)
 kp : PySem.W.keepIn K (.ref C) = true
 xin : PySem.W.excIn K C bmV "ValueError.__new__" = true
 y : XY K C
end L2
namespace L2
open PySem PySem.Spec PyProof.Rows
section
variable {A : Around} {E : Value→Shared→Prop} {C : Addr} {bmB : List Value} {newId : String}
theorem jq6 {M : Model} {s : Shared} {y : Sem Value} {env : Env} {Q : Flow→Shared→Prop} (hbase : bmB.contains (.type "BaseException") = true) (hh : A.handled = none)
  (k : wpAny M A y (fun v s1=>∃ e dz a0,v = .ref e∧XCp C bmB newId s1.heap∧s1.heap.get? e = some { cls:=.ref C,dict:=dz,data:=.fields #[a0,.none,.none,.none,.bool false,.none] }∧E (.ref e) s1) E s) : wpAny M A (raiseStmt env (some y) none) Q E s:=by
 unfold raiseStmt
 refine wpAny_bind (wpAny_mono k (fun v s1 h1=>?_) fun _ _ z=>z)
 obtain ⟨e,dz,a0,rfl,c,he,hE⟩:=h1
 obtain ⟨bm,N,nm,q,bs,hdct,sn,sub,ab,col,dd,k0,k1,k2,k3,k5,mN,hC,hn,hi,T⟩:=c.ex
 have hcB : (Value.ref C :: bm).contains (.type "BaseException") = true:=by rw [List.contains_cons,T.hasType hbase,Bool.or_true]
 obtain ⟨hp,g,d,tk,os⟩:=s1
 repeat (first | with_reducible refine wpAny_loadPart_at he ?_ | with_reducible refine wpAny_loadPart_at hC ?_ | (with_reducible refine wpAny_isSubtype_exc hC ?_; rw [hcB]) | wp_step)
 exact wpAny_raiseNew_none hh hE
end
section
variable {X : Cx} {EX : St→XK} {k : Nat} {C : Addr} {x : Str} {p cpos pos : Pos} {e : Expr} {es : List Expr} {t : TA} {bmB : List Value} {B newId initId : String} {n : Nat}
noncomputable def jhv (C : Addr) (EX : St→XK) (t : TA) : TS:=fun _ σ H=>t σ H fun vs H1=>vs.length ≤ sizeLine∧EX σ (.ref C) none H1
theorem jlt (F : ExcBaseFacts B newId initId bmB) (hC : PySem.W.excIn X.K C bmB newId = true) (hh : X.A.handled = none) (hg : Gl X x)
  (hm : X.mg x = some (.ref C)) (hk : PySem.W.keepIn X.K (.ref C) = true) (d : Df X) (xo : XO X EX) (ha : PA X (e :: es) t) (hdb : (x == ("__debug__" : Str)) = false:=by decide)
  (he : starEach (e :: es) X.env = (false,eval e X.env) :: starEach es X.env:=by rfl) (hpl : (backTo cpos (starEach es X.env)).any (·.1) = false:=by rfl) :
  PS X (.Raise (some (.Call (.Name x p) (e :: es) [] cpos)) none pos) (jhv C EX t):=by
 intro pins s σ H D I h
 rw [arm_exec_Raise]
 refine wpAny_bind (wpAny_standAt ?_)
 refine jq6 (C:=C) (bmB:=bmB) (newId:=newId) F.hasBase hh (wpAny_bind (wpAny_mono (wpAny_Call_Name_kw (jda I hg hm ?_ hdb)) (fun v s3 h3=>wpAny_bind (wpAny_standAt (wpAny_pure h3))) fun _ _ z=>z))
 refine PySem.W.callWith_K (h₀:=X.base) I.ok.mod.kin hk (thn (ha cpos pins s σ H _ I h) fun us s1 ⟨vs,H1,I1,r,hl,q⟩=>⟨I1.kIn,?_⟩) he hpl
 obtain ⟨h,g,dr,tk,os⟩:=s1
 refine xplain F (jkp I1.kIn hC) (by rw [List.nil_append,← r.length]; exact hl) fun h7 m7=>?_
 obtain ⟨t0,g7⟩:=m7.rc
 have I7:=I1.kept (h':=h7) (t':=tk) m7.keeps
 have I4:=I7.nopins
 have px : ∀ p ∈ X.pn,p.1 ≠ h.objs.size + 1:=fun p hp=>Nat.ne_of_lt (Nat.lt_succ_of_lt (Heap.lt_size (I1.pin p (List.mem_append_left _ hp)).1))
 have cx : ∀ y c,X.env.cells.lookup y = some c→c ≠ h.objs.size + 1:=fun y c e=>by
  obtain ⟨v,o,ho,_⟩:=I1.cell y c e
  exact Nat.ne_of_lt (Nat.lt_succ_of_lt (Heap.lt_size ho))
 have nx : X.s₀.heap.objs.size ≤ h.objs.size + 1:=Nat.le_succ_of_le I1.sz
 have hn : H1 (h.objs.size + 1) = none:=I1.hok.fresh (Nat.le_succ _)
 obtain ⟨cv,st,nb,fu⟩:=jox I4 d hn nx px cx
 exact ⟨h.objs.size + 1,none,.ref t0,rfl,jkp I7.kIn hC,g7,xo _ _ ⟨h.objs.size + 1,.ref C,none,σ,_,_,rfl,I4,hn,nx,cv,q,.new g7 rfl rfl rfl rfl (fun _=>rfl) st nb fu⟩⟩
end
end L2
namespace L2
open PySem PySem.Spec PyProof.Rows
section
variable {prog : Program} {w : World} {A : Around} {E : Value→Shared→Prop} {s : Shared}
theorem jly : Builtin.Dict_items.ownsTuple "dict_keyiterator" = false:=by decide
theorem joi {it d i ep : Nat} {o : Obj} {es : Array DictEntry} {Q : Option Value→Shared→Prop} (hi : s.heap.IsKeyIter it d i es.size ep) (ho : s.heap.get? d = some o) (hd : o.data = .dict es ep) (hl : i < es.size)
  (hQ : ∀ h',h'.IsKeyIter it d (i + 1) es.size ep→Heap.SameBut it s.heap h'→Q (some es[i].key) { s with heap:=h' }) : wpAny (model prog w) A (pyNext (.ref it)) Q E s:=by
 obtain ⟨q,g1,g2,g3⟩:=id hi
 have ty:=hi.typeIs
 unfold pyNext
 refine wpAny_bind (wpAny_attempt (wpAny_callSpecial?_slot (name:=Str.ofString "__next__") ty F.slot_dict_keyiterator_next (wpAny_call_entry F.slot_dict_keyiterator_next ty F.entry_dict_keyiterator_next ?_ (F.args_dict_keyiterator_next_1 _))))
 refine wpAny_bind (wpAny_pure (wpAny_bind (wpAny_bind ?_)))
 first | refine wpAny_bind (wpAny_typeNameOfWhole_keyiter ty (wpAny_pure (wpAny_bind (wpAny_fieldsOf g1 g3 ?_)))) | refine wpAny_bind (wpAny_typeNameOf_keyiter ty (wpAny_pure (wpAny_bind (wpAny_fieldsOf g1 g3 ?_))))
 simp only [jly,Bool.false_eq_true,if_false]
 have nn : ¬ ((Value.ref d == Value.none) = true):=fun z=>Bool.false_ne_true z
 change wpAny _ _ (ite ((Value.ref d == Value.none) = true) _ _) _ _ s
 rw [if_neg nn]
 refine wpAny_bind (wpAny_pure (wpAny_bind (wpAny_dictEntries ho hd ?_)))
 rw [if_neg (by simp)]
 refine wpAny_bind (wpAny_pure (wpAny_bind (wpAny_dictEpoch ho hd ?_)))
 rw [if_neg (by simp)]
 have n0 : ¬ ((i : Int) < 0):=by omega
 refine wpAny_pure ?_
 simp only [n0,if_false,Int.toNat_natCast,Array.getElem?_eq_getElem hl]
 refine wpAny_bind ?_
 first | refine wpAny_bind (wpAny_typeNameOfWhole_keyiter ty (wpAny_pure (wpAny_bind (wpAny_isOneOf_keyiter ty ?_)))) | refine wpAny_bind (wpAny_typeNameOf_keyiter ty (wpAny_pure (wpAny_bind (wpAny_isOneOf_keyiter ty ?_))))
 change wpAny _ _ (setField (.ref it) 1 (rawInt ((i : Int) + 1)) >>= fun _=>_) _ _ s
 refine wpAny_bind (wpAny_setField g1 g3 (by simp) ?_)
 have hi2 : (s.heap.update it (Obj.mapFields (·.setIfInBounds 1 (rawInt ((i : Int) + 1))))).IsKeyIter it d (i + 1) es.size ep:=by
  refine ⟨_,Heap.get?_update_self _ g1 (Obj.isFreed_of_fields (Obj.data_mapFields g3 _)),(Obj.cls_mapFields ..).trans g2,?_⟩
  rw [Obj.data_mapFields g3]
  simp [rawInt]
 refine wpAny_bind (wpAny_holding (wpAny_bind (wpAny_isOneOf_keyiter (s:={ s with heap:=_ }) hi2.typeIs ?_)))
 exact wpAny_pure (wpAny_pure ⟨_,rfl,wpAny_pure (hQ _ hi2 (Heap.SameBut.update ..))⟩)
theorem jr4 {it d i ep : Nat} {o : Obj} {es : Array DictEntry} {Q : Option Value→Shared→Prop} (hh : A.handled = none) (hi : s.heap.IsKeyIter it d i es.size ep) (ho : s.heap.get? d = some o) (hd : o.data = .dict es ep) (hl : es.size ≤ i)
  (hQ : ∀ h',Heap.ExtBut it s.heap h'→Q none { s with heap:=h' }) : wpAny (model prog w) A (pyNext (.ref it)) Q E s:=by
 obtain ⟨q,g1,g2,g3⟩:=id hi
 have ty:=hi.typeIs
 unfold pyNext
 refine wpAny_bind (wpAny_attempt (wpAny_callSpecial?_slot (name:=Str.ofString "__next__") ty F.slot_dict_keyiterator_next (wpAny_call_entry F.slot_dict_keyiterator_next ty F.entry_dict_keyiterator_next ?_ (F.args_dict_keyiterator_next_1 _))))
 refine wpAny_bind (wpAny_pure (wpAny_bind (wpAny_bind ?_)))
 first | refine wpAny_bind (wpAny_typeNameOfWhole_keyiter ty (wpAny_pure (wpAny_bind (wpAny_fieldsOf g1 g3 ?_)))) | refine wpAny_bind (wpAny_typeNameOf_keyiter ty (wpAny_pure (wpAny_bind (wpAny_fieldsOf g1 g3 ?_))))
 simp only [jly,Bool.false_eq_true,if_false]
 have nn : ¬ ((Value.ref d == Value.none) = true):=fun z=>Bool.false_ne_true z
 change wpAny _ _ (ite ((Value.ref d == Value.none) = true) _ _) _ _ s
 rw [if_neg nn]
 refine wpAny_bind (wpAny_pure (wpAny_bind (wpAny_dictEntries ho hd ?_)))
 rw [if_neg (by simp)]
 refine wpAny_bind (wpAny_pure (wpAny_bind (wpAny_dictEpoch ho hd ?_)))
 rw [if_neg (by simp)]
 have n0 : ¬ ((i : Int) < 0):=by omega
 refine wpAny_pure ?_
 simp only [n0,if_false,Int.toNat_natCast,Array.getElem?_eq_none hl]
 refine wpAny_bind ?_
 first | refine wpAny_bind (wpAny_typeNameOfWhole_keyiter ty (wpAny_pure ?_)) | refine wpAny_bind (wpAny_typeNameOf_keyiter ty (wpAny_pure ?_))
 change wpAny _ _ (setField (.ref it) 0 .none >>= fun _=>_) _ _ s
 refine wpAny_bind (wpAny_setField g1 g3 (by simp) ?_)
 change wpAny _ _ (newExc (.type "StopIteration") [] >>= fun _=>_) _ _ _
 refine wpAny_bind ?_
 simp only [newExc,newTuple]
 refine wpAny_bind (wpAny_newObj_type (wpAny_bind (m:=firstArgMember _ _) (wpAny_of_eq (a:=Value.none) (by first | rfl | (simp only [firstArgMember]; rfl)) (wpAny_newObj_type ?_ (by size_fits)))) (by size_fits))
 simp only [raiseNew]
 refine wpAny_bind (wpAny_handled ?_)
 have h1 : A.in1.handled = none:=hh
 rw [h1]
 refine wpAny_bind (wpAny_pure (wpAny_throw (wpAny_bind ?_)))
 refine wpAny_isInstance (T:="StopIteration") (b:=true) ⟨_,Heap.get?_push_size _ rfl,rfl⟩ isSubtype_stop ?_
 exact wpAny_pure (hQ _ (((Heap.SameBut.update ..).extBut.push _).push _))
theorem joj {d ep : Nat} {o : Obj} {es : Array DictEntry} {Q : Value→Shared→Prop} (hs : (d == sysModules) = false) (ho : s.heap.get? d = some o) (hx : o.ExactDict) (hd : o.data = .dict es ep)
  (hQ : Q (.ref s.heap.objs.size) { s with heap:=s.heap.push { cls:=.type "dict_keyiterator",data:=.fields #[.ref d,.int 0 0,.int es.size 0,.int ep 0] } }) : wpAny (model prog w) A (pyIter (.ref d)) Q E s:=by
 have ty : s.TypeIs (.ref d) "dict":=⟨o,ho,hx.1⟩
 refine wpAny_pyIter_slot ty F.slot_dict_iter (wpAny_call_entry F.slot_dict_iter ty F.entry_dict_iter ?_ (F.args_dict_iter_1 _))
 unfold Builtin.«dict.__iter__»
 refine wpAny_bind ?_
 unfold Builtin.Dict.dictSlotNone
 refine wpAny_bind (wpAny_notOrdered_dict ty ?_)
 change wpAny _ _ (pure (Value.ref d)) _ _ s
 refine wpAny_pure ?_
 change wpAny _ _ (Builtin.Dict.showsAll d >>= fun _=>_) _ _ s
 unfold Builtin.Dict.showsAll
 have n1 : ¬ ((d == sysModules) = true):=by rw [hs]; exact Bool.false_ne_true
 rw [if_neg n1]
 refine wpAny_bind (wpAny_pure (wpAny_bind (wpAny_dictEntries ho hd (wpAny_bind (wpAny_dictEpoch ho hd ?_)))))
 refine wpAny_bind (wpAny_newObj_type (wpAny_pure ⟨_,rfl,"dict_keyiterator",_,⟨_,Heap.get?_push_size _ rfl,rfl⟩,F.slot_dict_keyiterator_next.lookup,?_⟩))
 simpa [rawInt] using hQ
end
noncomputable def ItT2 (d : Addr) (o : Obj) (kvs : List (List Key × V)) : It :=
 ⟨fun i H=>H d = some (.frz o (.dT kvs))∧i < kvs.length,fun i H x H'=>H' = H∧∃ kv b,kvs[i]? = some kv∧x = .ref b∧H b = some (.tup (kv.1.map kV)),fun i H=>H d = some (.frz o (.dT kvs))∧kvs.length ≤ i⟩
theorem jk2 {P : Program} {w : World} {K : PySem.W.Frag} {tg : Expr} (d it : Addr) (o : Obj) (kvs : List (List Key × V)) (es : Array DictEntry) (ep : Nat) (hd : o.data = .dict es ep) (hes : es.size = kvs.length) : Turn P w K tg (ItT2 d o kvs) [it] it (fun i h=>h.IsKeyIter it d i es.size ep) where
 mem:=by simp
 obj:=fun i h st b hb=>by
  have e : b = it:=by simpa using hb
  subst e
  obtain ⟨o,e,c,d⟩:=st
  exact ⟨o,e,fun v z=>by rw [d] at z; cases z⟩
 keep:=fun i h h' st k=>st.at fun o e=>k it (by simp) o e
 item:=by
  intro X hP hw hK hc i pins s σ H E I hf st hg
  subst hP hw hK
  obtain ⟨hq,hx⟩:=hg
  obtain ⟨eo,z,lo,xs,rel,o',es',ep',h1,h2,h3,h4,h5⟩:=(show s.heap.get? d = some o∧jb8 X.prog X.w H s.heap d (.dT kvs) from I.hok _ _ hq)
  obtain rfl : o = o':=Option.some.inj (eo.symm.trans h1)
  rw [hd] at h3
  cases h3
  have hlx : xs.length = kvs.length:=(Paired.length rel).symm
  have hi' : i < es.size:=by omega
  obtain ⟨f0,f1,f2,f3,f4,f5⟩:=hf it (by simp)
  refine joi st eo hd hi' fun h' st' sb=>?_
  have I1 : Inv X pins σ H { s with heap:=h' }:=I.turned (t':=s.toks) (fun b o hb e=>(sb.2 b hb).trans e) f0 f1 f3 f4 f5
  have hxi : xs[i]? = some (xs[i]'(by omega)):=List.getElem?_eq_getElem _
  obtain ⟨kv,e1,e2⟩:=jbt rel hxi
  have hk : es[i].key = .ref (xs[i]'(by omega)).2.1:=by
   have:=congrArg (fun l=>l[i]?) h4
   simp only [Array.getElem?_toList,List.getElem?_map,hxi,Array.getElem?_eq_getElem hi'] at this
   rw [Option.some.inj this]
   rfl
  rw [hk]
  obtain ⟨o',e,c,dd⟩:=id st'
  exact ⟨_,rfl,jmw (s:={ s with heap:=h' }) e c dd (by decide) ⟨.ref (xs[i]'(by omega)).2.1,H,I1,rfl,⟨rfl,kv,_,e1,rfl,e2.2.1⟩,st',fun b hb=>(hf b hb).1⟩⟩
 done:=by
  intro X hP hw hK hc i pins s σ H E I hf st hg
  subst hP hw hK
  obtain ⟨hq,hx⟩:=hg
  obtain ⟨eo,_⟩:=(show s.heap.get? d = some o∧_ from I.hok _ _ hq)
  obtain ⟨f0,f1,f2,f3,f4,f5⟩:=hf it (by simp)
  exact jr4 (I.ok.hd hc) st eo hd (by omega) fun h' eb=>⟨rfl,I.turned (t':=s.toks) (fun b o hb e=>eb b o hb e) f0 f1 f3 f4 f5⟩
 self:=fun _ _ _ _ _ st h=>wpAny_pyIter_keyiter st h
noncomputable def iDctT (tl : TE) : TI:=fun σ H R=>tl σ H fun v H1=>∃ d kvs,v = .ref d∧H1 d = some (.dT kvs)∧∀ o,R (ItT2 d o kvs) (upd H1 d (.frz o (.dT kvs)))
theorem jo7 {X : Cx} {tg l : Expr} {tl : TE} (hl : PE X l tl) : PI X tg l (iDctT tl):=by
 intro pins s σ H R I h
 refine thn (hl pins s σ H _ I h) fun v s1 ⟨x,H1,I1,r1,q1⟩=>?_
 obtain ⟨d,kvs,e,hd,q⟩:=q1
 subst e
 cases r1
 have ok:=(show jb8 X.prog X.w H1 s1.heap d (.dT kvs) from I1.hok _ _ hd)
 obtain ⟨z,lo,xs,rel,o,es,ep,h1,h2,h3,h4,h5⟩:=id ok
 have kT' : ∀ b ys,H1 b = some (.tup ys)→upd H1 d (.frz o (.dT kvs)) b = some (.tup ys):=fun b ys q=>by rw [ja8 (fun z=>by rw [z,hd] at q; cases q)]; exact q
 have I2 : Inv X pins σ (upd H1 d (.frz o (.dT kvs))) { s1 with heap:=s1.heap,toks:=s1.toks } :=
  I1.write (x:=d) (e:=d) (by rw [hd]; exact True.intro) (.inl rfl) (fun b u _ q=>q) ⟨o,h1⟩ (show jb8 X.prog X.w _ s1.heap d (.frz o (.dT kvs)) from ⟨h1,z,lo,xs,Paired.mapP rel fun _ _ q=>⟨q.1,kT' _ _ q.2.1,q.2.2⟩,o,es,ep,h1,h2,h3,h4,h5⟩)
 have I2 : Inv X pins σ (upd H1 d (.frz o (.dT kvs))) s1:=I2
 have hes : es.size = kvs.length:=by
  rw [← Array.length_toList,h4,List.length_map]
  exact (Paired.length rel).symm
 refine joj lo h1 h2 h3 ?_
 refine ⟨s1.heap.objs.size,[s1.heap.objs.size],_,_,_,rfl,I2.kept (t':=s1.toks) fun b o e=>Heap.get?_push_of_some _ e,jk2 d _ o kvs es ep h3 hes,⟨_,Heap.get?_push_size _ rfl,rfl,rfl⟩,fun b hb=>?_,q o⟩
 have e : b = s1.heap.objs.size:=by simpa using hb
 subst e
 exact I2.fpOk (Nat.le_refl _) (I2.hok.fresh (Nat.le_refl _))
theorem jn0 {d : Addr} {o : Obj} {kvs : List (List Key × V)} {g : TG} {tb : TS} {D : Ends} {σ : St} {H : Hp} (Pv : Nat→St→Hp→Prop) (h0 : Pv 0 σ H) (hl : ∀ i σ H,i ≤ kvs.length→Pv i σ H→H d = some (.frz o (.dT kvs)))
  (hs : ∀ i kv b σ H,kvs[i]? = some kv→H b = some (.tup (kv.1.map kV))→Pv i σ H→g (.ref b) σ H fun σ2 H2=>tb { D with nx:=Pv (i + 1),ct:=Pv (i + 1),bk:=D.nx } σ2 H2) (hd : ∀ σ H,Pv kvs.length σ H→D.nx σ H) :
  ∃ W : Nat→Nat→St→Hp→Prop,(∃ m,W 0 m σ H)∧∀ i m σ H,W i m σ H →
   ((ItT2 d o kvs).stop i H∧D.nx σ H) ∨ ((ItT2 d o kvs).go i H∧∃ N : St→Hp→Prop,(∀ σ' H',N σ' H'→∃ m',m' < m∧W (i + 1) m' σ' H')∧∀ x H',(ItT2 d o kvs).yld i H x H'→g x σ H' fun σ2 H2=>tb { D with nx:=N,ct:=N,bk:=D.nx } σ2 H2):=by
 refine ⟨fun i m σ H=>m = kvs.length - i∧i ≤ kvs.length∧Pv i σ H,⟨kvs.length,by simp,Nat.zero_le _,h0⟩,?_⟩
 rintro i m σ H ⟨rfl,hi,p⟩
 have q:=hl i σ H hi p
 by_cases hlt : i < kvs.length
 ·refine .inr ⟨⟨q,hlt⟩,Pv (i + 1),fun σ' H' p'=>⟨kvs.length - (i + 1),by omega,rfl,hlt,p'⟩,fun x H' y=>?_⟩
  obtain ⟨e,kv,b,e1,e2,e3⟩:=y
  subst e e2
  exact hs i kv b σ H' e1 e3 p
 ·have e : i = kvs.length:=by omega
  subst e
  exact .inl ⟨⟨q,Nat.le_refl _⟩,hd σ H p⟩
end L2
namespace L2
open PySem PySem.Spec PyProof.Rows
theorem jak {a b : TS} {D : Ends} {σ : St} {H : Hp} (h : ∀ R,R = b→tSeq a R D σ H) : tSeq a b D σ H:=h b rfl
theorem jcx {ι : Type} {wi : TI} {g : TG} {tb : TS} {D : Ends} {σ : St} {H : Hp} (J : ι→It) (H1 : ι→Hp) (ok : ι→Prop) (h1 : ∀ R : It→Hp→Prop,(∀ i,ok i→R (J i) (H1 i))→wi σ H R)
  (h2 : ∀ i0,ok i0→∃ W : Nat→Nat→St→Hp→Prop,(∃ m,W 0 m σ (H1 i0))∧∀ i m σ H,W i m σ H→((J i0).stop i H∧D.nx σ H) ∨ ((J i0).go i H∧∃ N : St→Hp→Prop,(∀ σ' H',N σ' H'→∃ m',m' < m∧W (i + 1) m' σ' H')∧∀ x H',(J i0).yld i H x H'→g x σ H' fun σ2 H2=>tb { D with nx:=N,ct:=N,bk:=D.nx } σ2 H2)) :
  tFor wi g tb D σ H:=h1 _ h2
section
variable {X : Cx}
noncomputable def jpb (tk tv : TE) : TE:=fun σ H Q=>∀ p,H p = none→tk σ (upd H p (.dT [])) fun x H1=>tv σ H1 fun y H2=>∃ b ks,H2 p = some (.dT [])∧x = .ref b∧H2 b = some (.tup (ks.map kV))∧Q (.ref p) (upd H2 p (.dT [(ks,y)]))
theorem job {pos : Pos} {k v : Expr} {tk tv : TE} (hu : X.A.units + 1 < cLine) (hk : PE X k tk) (hv : PE X v tv) : PE X (.Dict [some k] [v] pos) (jpb tk tv):=by
 intro pins s σ H Q I q
 have hn:=I.hok.fresh (Nat.le_refl s.heap.objs.size)
 have I1:=I.laid (a:=s.heap.objs.size) (o:=.dT []) (h':=s.heap.push { cls:=.type "dict",data:=.dict #[] }) (t':=s.toks) (fun _ _ q=>Heap.get?_push_of_some _ q) (Nat.le_refl _) (jjv s.heap I.big)
 have h1:=jo5 (pos:=pos) hk hv jqr pins _ σ _ (fun ps H2=>match ps with
  | [(x,y)]=>∃ b ks,H2 s.heap.objs.size = some (.dT [])∧x = .ref b∧H2 b = some (.tup (ks.map kV))∧Q (.ref s.heap.objs.size) (upd H2 s.heap.objs.size (.dT [(ks,y)]))
  | _=>False) I1 (q _ hn)
 rw [arm_eval_Dict,zip_pairTrees [some k] [v] X.env pos rfl rfl,dictDisplay_pairs _ (by simp [pairTrees]) (by simp [pairTrees])]
 refine wpAny_bind (wpAny_standAt (wpAny_bind ?_))
 unfold subDict
 refine wpAny_bind (wpAny_alloc (wpAny_bind (wpAny_holding ?_)))
 rw [if_pos (by simp [pairTrees])]
 refine wpAny_bind (thn h1 fun vs s2 ⟨ps,H2,I2,rel,q1⟩=>?_)
 split at q1
 case h_2=>exact q1.elim
 obtain ⟨b,ks,ed,ex,eb,q2⟩:=q1
 subst ex
 cases rel with
 | @cons p0 q0 ps0 qs0 r0 t0 =>
 cases t0
 obtain ⟨u1,u2⟩:=q0
 obtain ⟨r1,r2⟩:=r0
 cases (show u1 = Value.ref b from r1)
 refine wpAny_holding ?_
 obtain ⟨z,hd,xs,rx,dd⟩:=dt_of I2.hok ed
 cases rx
 simp only [List.forIn_cons,List.forIn_nil]
 refine wpAny_bind (wpAny_bind (wpAny_bind (wpAny_dictSet_heap (hsz:=by decide) (show (tupleKind (jbh X.prog X.w)).room X.A from Nat.lt_of_succ_lt hu) (jh9 I2.hok eb) dd fun h' dd' hs=>?_)))
 refine wpAny_pure (wpAny_pure (wpAny_pure (wpAny_pure (wpAny_pure ⟨.ref s.heap.objs.size,_,?_,rfl,q2⟩))))
 obtain ⟨q,es,ep,hq,h2,h3,h4,_,h5⟩:=dd'
 refine jim I2 (by rw [ed]; exact True.intro) hs ⟨q,hq⟩ ⟨by show 1 ≤ sizeLine; decide,hd,_,((show KT H2 [] [] from .nil).put ks eb r2).keeps fun c ys ec=>?_,q,es,ep,hq,h2,h3,h4,h5⟩
 rw [ja8 (ne_of ec ed (fun z=>nomatch z))]
 exact ec
noncomputable def jrh : R2:=fun x y H Q=>match x,y with
 | .ref a,.ref b=>match H a,H b with
  | some (.tup xs),some (.tup ys)=>xs.length + ys.length ≤ sizeLine∧ys ≠ []∧if xs = [] then Q (.ref b) H else ∀ p,H p = none→Q (.ref p) (upd H p (.tup (xs ++ ys)))
  | _,_=>False
 | _,_=>False
theorem q_catT : OpR X (binaryOp .Add) jrh:=by
 intro pins s σ H x y v u Q I rx ry h
 unfold jrh at h
 split at h
 ·rename_i a b
  split at h
  ·rename_i xs ys ha hb
   obtain ⟨hz,hy,h⟩:=h
   by_cases c : xs = []
   ·rw [if_pos c] at h
    subst c
    cases rx
    cases ry
    obtain ⟨its,r1,p1,_⟩:=I.tuple (SqT.of ha)
    obtain ⟨its2,r2,p2,_⟩:=I.tuple (SqT.of hb)
    cases r1
    obtain ⟨⟨cls,dd,data,sl⟩,ho,hc,n,hd⟩:=id p1
    obtain ⟨⟨cls2,dd2,data2,sl2⟩,ho2,hc2,n2,hd2⟩:=id p2
    simp only at hc hd hc2 hd2
    subst hc hd hc2 hd2
    exact concat_meets (T:="tuple") ⟨_,ho,rfl⟩ ⟨_,ho2,rfl⟩ noFill_tuple_add seq_tuple_add PySem.F.slot_tuple_add PySem.F.entry_tuple_add (PySem.F.args_tuple_add_2 _ _) (tuple_addW0 a b _ _ n n2 dd dd2 sl sl2 (by simp)) ⟨ho,ho2,⟨.ref b,H,I,rfl,h⟩⟩
   ·rw [if_neg c] at h
    exact jqv pins s σ H _ _ v u Q I rx ry ⟨a,b,xs,ys,rfl,rfl,SqT.of ha,SqT.of hb,c,hz,fun z=>absurd z hy,fun _=>h⟩
  ·exact h.elim
 ·exact h.elim
noncomputable def jiy (fs : List (Addr × Sp)) (te : TE) (t : TA) : TE:=fun σ H Q=>te σ H fun x H1=>∃ f sp,(f,sp) ∈ fs∧x = .ref f∧t σ H1 fun vs H2=>sp vs H2 Q (fun _ _ _=>False)
theorem jjg {fs : List (Addr × Sp)} {k : Nat} {e a : Expr} {as : List Expr} {te : TE} {t : TA} {pos : Pos} (he : PE X e te) (hF : ∀ f sp,(f,sp) ∈ fs→∃ fd ps,FnOk X.prog X.w X.K X.mg X.base CX0 k f fd ps sp∧PySem.W.keepIn X.K (.ref f) = true∧jff X.K fd ps []) (hr : Room k X.A) (ha : PA X (a :: as) t)
  (ht : eval (.Call e (a :: as) [] pos) X.env = (do let f ← eval e X.env; callWith pos f [] (backTo pos (starEach (a :: as) X.env)) (backToKw pos (keywordEach [] X.env))):=by rfl)
  (hst : starEach (a :: as) X.env = (false,eval a X.env) :: starEach as X.env:=by rfl) (hpl : (backTo pos (starEach as X.env)).any (·.1) = false:=by rfl) :
  PE X (.Call e (a :: as) [] pos) (jiy fs te t):=by
 intro pins s σ H Q I h
 rw [ht]
 refine wpAny_bind (thn (he pins s σ H _ I h) fun u s1 ⟨x,H1,I1,rx,f,sp,hm,ex,q⟩=>?_)
 subst ex
 obtain rfl : u = Value.ref f:=rx
 obtain ⟨fd,ps,F,hk,hb⟩:=hF f sp hm
 refine PySem.W.callWith_K (h₀:=X.base) I.ok.mod.kin hk (thn (ha pos pins s1 σ H1 _ I1 q) fun us s2 ⟨vs,H2,I2,r,q2⟩=>⟨I2.kIn,?_⟩) hst hpl
 exact jpl (ds:=[]) (dvs:=[]) F hr hb .nil jar I2 r (by simpa using q2)
end
end L2
namespace L2
open PySem PySem.Spec PyProof.Rows
noncomputable def iDctE (tl : TE) : TI:=fun σ H R=>tl σ H fun v H1=>∃ d kvs,v = .ref d∧((H1 d = some (.dK kvs)∧∀ o,R (Itd d o kvs) (upd H1 d (.frz o (.dK kvs)))) ∨ ∃ o,H1 d = some (.frz o (.dK kvs))∧R (Itd d o kvs) H1)
theorem jo8 {X : Cx} {tg l : Expr} {tl : TE} (hl : PE X l tl) : PI X tg l (iDctE tl):=by
 intro pins s σ H R I h
 refine thn (hl pins s σ H _ I h) fun v s1 ⟨x,H1,I1,r1,q1⟩=>?_
 obtain ⟨d,kvs,e,q⟩:=q1
 subst e
 cases r1
 have go : ∀ (H2 : Hp) (o : Obj),Inv X pins σ H2 s1→H2 d = some (.frz o (.dK kvs))→R (Itd d o kvs) H2→wpAny (model X.prog X.w) X.A (pyIter (.ref d)) (PIE X pins σ tg R) X.xe s1:=by
  intro H2 o I2 hd2 q2
  obtain ⟨eo,z,lo,vs,rel,dd⟩:=(show s1.heap.get? d = some o∧_ from I2.hok _ _ hd2)
  obtain ⟨ep,hat⟩:=dd.dictAt
  obtain ⟨o',es,eo',rest⟩:=id hat
  obtain rfl : o = o':=Option.some.inj (eo.symm.trans eo')
  have hdl : d < s1.heap.objs.size:=Heap.lt_size eo
  refine wpAny_pyIter_dict lo hat ⟨s1.heap.objs.size,[s1.heap.objs.size],_,_,_,rfl,I2.kept (t':=s1.toks) fun b o e=>Heap.get?_push_of_some _ e,jgp d _ o kvs vs ep (Nat.ne_of_lt hdl) rel fun h e=>⟨o,es,e,rest⟩,⟨_,Heap.get?_push_size _ rfl,rfl,rfl⟩,fun b hb=>?_,q2⟩
  have e : b = s1.heap.objs.size:=by simpa using hb
  subst e
  exact I2.fpOk (Nat.le_refl _) (I2.hok.fresh (Nat.le_refl _))
 rcases q with ⟨hd,q⟩ | ⟨o,hd,q⟩
 ·obtain ⟨z,lo,vs,rel,dd⟩:=jri I1.hok hd
  obtain ⟨ep,hat⟩:=dd.dictAt
  obtain ⟨o,es,eo,rest⟩:=id hat
  have I2 : Inv X pins σ (upd H1 d (.frz o (.dK kvs))) { s1 with heap:=s1.heap,toks:=s1.toks } :=
   I1.write (x:=d) (e:=d) (by rw [hd]; exact True.intro) (.inl rfl) (fun b u _ q=>q) ⟨o,eo⟩ (show jb8 X.prog X.w _ s1.heap d (.frz o (.dK kvs)) from ⟨eo,z,lo,vs,rel,dd⟩)
  exact go _ o I2 ja1 (q o)
 ·exact go _ o I1 hd q
theorem jo6 {X : Cx} {tg : Expr} {K : PySem.W.Frag} (hK : X.K = K) {l : Expr} {tl : TE} (hl : PE X l tl) : PI X tg l (jcb K tl):=hK ▸ jb7 hl
end L2
namespace L2
open PySem PySem.Spec PyProof.Rows
section
variable {X : Cx}
theorem jlh : seqSlot? (.type "list") (dunderI "add") = pure (some (.builtin "list.__iadd__"))  :=PySem.seqSlot_of F.slot_list_iadd.lookup (by decide +kernel)
theorem jkh : fillsInplaceSlot (.type "list") "add" (Operator.Add == .Add) = pure false:=by
 unfold fillsInplaceSlot
 show (typeLookup (.type "list") (dunderI "add") >>= fun fi=>pure (fi.isSome && !isSeqSlot fi)) = pure false
 rw [F.slot_list_iadd.lookup]
 have : isSeqSlot (some (Value.builtin "list.__iadd__")) = true:=by decide +kernel
 show (pure (true && !isSeqSlot (some (Value.builtin "list.__iadd__"))) : Sem Bool) = pure false
 rw [this]
 rfl
noncomputable def jn3 : TIp:=fun x y H Q=>match x,y with
 | .ref l,.ref b=>match H l,H b with
  | some (.lst xs),some (.lst zs)=>xs.length + zs.length ≤ sizeLine∧Q (.ref l) (upd H l (.lst (xs ++ zs)))
  | _,_=>False
 | _,_=>False
theorem jra : PIp X .Add jn3:=by
 intro pins s σ H x y v u Q I rx ry h
 unfold jn3 at h
 split at h
 ·rename_i l b
  split at h
  ·rename_i xs zs hH hB
   obtain ⟨hz,q⟩:=h
   cases rx
   cases ry
   obtain ⟨z,its,n,r,hl,e⟩:=I.lstM hH
   obtain ⟨z2,its2,n2,r2,hl2,e2⟩:=I.lstM hB
   have hsz : its.toArray.size + its2.toArray.size ≤ sizeLine:=by rw [List.size_toArray,List.size_toArray]; omega
   have hlong : ¬ (!its.toArray.isEmpty && Builtin.List.listTooLong (its.toArray.size + its2.toArray.size)) = true:=by
    rw [joe hsz,Bool.and_false]
    exact Bool.false_ne_true
   have ha : s.TypeIs (.ref l) "list":=⟨_,e,rfl⟩
   have hb : s.TypeIs (.ref b) "list":=⟨_,e2,rfl⟩
   unfold inplaceOp
   refine wpAny_holding ?_
   refine wpAny_bind (wpAny_typeOf ha (wpAny_bind (wpAny_of_eq jkh ?_)))
   show wpAny _ _ (if false = true then _ else _) _ _ s
   rw [if_neg Bool.false_ne_true]
   refine wpAny_bind (wpAny_binaryOp1_none (nm:="add") ha hb noFill_list_add ?_)
   refine wpAny_bind (wpAny_of_eq jlh ?_)
   refine wpAny_bind (wpAny_rule ?_)
   refine call_meets F.slot_list_iadd ha F.entry_list_iadd (F.args_list_iadd_2 _ _)
    (AutoSeq1.list___iadd___list_list_0 l its.toArray n b its2.toArray n2 hlong (by rw [List.size_toArray]; omega) (by omega)) ⟨e,e2,?_⟩
   refine ⟨.ref l,_,I.lset (its':=its ++ its2) hH e (by simp) (r.append r2) ?_,rfl,q⟩
   rw [List.length_append]
   omega
  ·exact h.elim
 ·exact h.elim
end
end L2
namespace My
open PySem L2
theorem sl0 : (0 ≤ sizeLine) = True:=eq_true (by decide)
theorem sl1 : (1 ≤ sizeLine) = True:=eq_true (by decide)
theorem sl2 : (2 ≤ sizeLine) = True:=eq_true (by decide)
theorem sl3 : (3 ≤ sizeLine) = True:=eq_true (by decide)
theorem sl4 : (4 ≤ sizeLine) = True:=eq_true (by decide)
end My
local macro_rules | `(tactic| walk_at "RD") => `(tactic| try simp only [L2.jl3, L2.fInsS, L2.jhv, L2.fIsB, L2.tSeq, L2.jqd, L2.jqe, L2.tRet, L2.tRetN, L2.tIfS, L2.tAsg, L2.jf7, L2.fAug, L2.tOp, L2.tUn, L2.tC, L2.fVar, L2.fI, L2.fIC, L2.fNeg, L2.fEq, L2.fNe, L2.fIsN, L2.jmr, L2.fAnd, L2.fOr, L2.fNot, L2.fB, L2.tNot, L2.tAnd, L2.tOr, L2.jn4, L2.fIx, L2.fLen, L2.jgc, L2.fMin, L2.fMax, L2.fInL, L2.fSlL, L2.tSl, L2.fPart, L2.jl2, L2.jgd, L2.fBM, L2.joo, L2.gSub, L2.jkj, L2.jfv, L2.jki, L2.fGLst, L2.jpy, L2.jpk, L2.jpd, L2.fCat, L2.jjt, L2.fBM0, L2.fSlT, L2.jop, L2.tCBK, L2.fDIn, L2.jrg, L2.fIsi, L2.jfw, L2.jjs, L2.fLtT, L2.jnx, L2.tCB, L2.jqf, L2.tNil, L2.tTup, L2.tLst, L2.tIf, L2.jqc, L2.Kd.nm, L2.start, List.map_cons, List.map_nil, List.length_cons, List.length_nil, Nat.reduceAdd, Nat.reduceSub, List.replicate_succ, List.replicate_zero, List.getElem?_cons_zero, List.getElem?_cons_succ, List.set_cons_zero, List.set_cons_succ, List.append_nil, List.nil_append, List.cons_append, eq_self, true_and, and_true, if_true, Bool.false_eq_true, if_false, Bool.not_true, Bool.not_false, id_eq, My.sl0, My.sl1, My.sl2, My.sl3, My.sl4])
local macro_rules | `(tactic| simp_arith [$args,*]) => `(tactic| try simp only [L2.jl3, L2.fInsS, L2.jhv, L2.fIsB, L2.tSeq, L2.jqd, L2.jqe, L2.tRet, L2.tRetN, L2.tIfS, L2.tAsg, L2.jf7, L2.fAug, L2.tOp, L2.tUn, L2.tC, L2.fVar, L2.fI, L2.fIC, L2.fNeg, L2.fEq, L2.fNe, L2.fIsN, L2.jmr, L2.fAnd, L2.fOr, L2.fNot, L2.fB, L2.tNot, L2.tAnd, L2.tOr, L2.jn4, L2.fIx, L2.fLen, L2.jgc, L2.fMin, L2.fMax, L2.fInL, L2.fSlL, L2.tSl, L2.fPart, L2.jl2, L2.jgd, L2.fBM, L2.joo, L2.gSub, L2.jkj, L2.jfv, L2.jki, L2.fGLst, L2.jpy, L2.jpk, L2.jpd, L2.fCat, L2.jjt, L2.fBM0, L2.fSlT, L2.jop, L2.tCBK, L2.fDIn, L2.jrg, L2.fIsi, L2.jfw, L2.jjs, L2.fLtT, L2.jnx, L2.tCB, L2.jqf, L2.tNil, L2.tTup, L2.tLst, L2.tIf, L2.jqc, L2.Kd.nm, L2.start, List.map_cons, List.map_nil, List.length_cons, List.length_nil, Nat.reduceAdd, Nat.reduceSub, List.replicate_succ, List.replicate_zero, List.getElem?_cons_zero, List.getElem?_cons_succ, List.set_cons_zero, List.set_cons_succ, List.append_nil, List.nil_append, List.cons_append, eq_self, true_and, and_true, if_true, Bool.false_eq_true, if_false, Bool.not_true, Bool.not_false, id_eq, My.sl0, My.sl1, My.sl2, My.sl3, My.sl4, $args,*])
namespace My
open PySem L2
theorem szl' {n : Nat} (h : n ≤ 1000) : n < sizeLine:=Nat.lt_of_le_of_lt h (by decide)
noncomputable def top (i : Nat) : Stmt:=PySem.Challenge.pw_touchall_k68_all_cheapest_listed.main.body.getD i (.Pass ⟨0,0,0,0⟩)
structure DefAt (K : PySem.W.Frag) (mg : Str→Option Value) (x : Str) (st : Stmt) (ps : List Str) (f : Addr) (fd : FuncData) : Prop where
 F : Fun K x x st f fd
 b : jff K fd ps []
 m : mg x = some (.ref f)
structure Blt (mg : Str→Option Value) : Prop where
 len : mg "len" = none
 isinstance : mg "isinstance" = none
 all : mg "all" = none
 min : mg "min" = none
 list : mg "list" = none
 dict : mg "dict" = none
 int : mg "int" = none
 bool : mg "bool" = none
 str : mg "str" = none
 tuple : mg "tuple" = none
 range : mg "range" = none
 enumerate : mg "enumerate" = none
 zip : mg "zip" = none
 max : mg "max" = none
 any : mg "any" = none
 sum : mg "sum" = none
 sorted : mg "sorted" = none
structure Cst (mg : Str→Option Value) (t1 t2 t3 t4 : Tok) : Prop where
 MOST_PLACES : mg "MOST_PLACES" = some (.int 40 t1)
 MOST_TIES : mg "MOST_TIES" = some (.int 120 t2)
 LAST_PLACE : mg "LAST_PLACE" = some (.int 999 t3)
 MOST_PRICE : mg "MOST_PRICE" = some (.int 1000000000000 t4)
section
variable {P : Program} {w : World} {K : PySem.W.Frag} {mg : Str→Option Value} {base : Heap} {c1 c2 c3 c4 : Tok}
theorem at0 {α : Type} {x : α} {r : List α} : atI (x :: r) 0 = some x:=by
 have e : atI (x :: r) ((0 : Nat) : Int) = some x:=jcl rfl
 exact e
theorem at1 {α : Type} {x y : α} {r : List α} : atI (x :: y :: r) 1 = some y:=by
 have e : atI (x :: y :: r) ((1 : Nat) : Int) = some y:=jcl rfl
 exact e
theorem at2 {α : Type} {x y z : α} {r : List α} : atI (x :: y :: z :: r) 2 = some z:=by
 have e : atI (x :: y :: z :: r) ((2 : Nat) : Int) = some z:=jcl rfl
 exact e
noncomputable def jkr : Kd→Bool
 | .int=>true
 | _=>false
noncomputable def jl6 : Sp:=fun vs H Q _=>∃ x k,vs = [x]∧kd H x = some k∧Q (.bl (jkr k)) H
noncomputable def jeg : Sp:=fun vs H Q _=>∃ a xs m,vs = [.ref a,.int m]∧H a = some (.tup xs)∧Q (.bl (decide ((xs.length : Int) = m))) H
noncomputable def jdt : Sp:=fun vs H Q _=>∃ a xs m,vs = [.ref a,.int m]∧H a = some (.lst xs)∧Q (.bl (decide ((xs.length : Int) ≤ m))) H
noncomputable def jl7 : Sp:=fun vs H Q _=>∃ x p,vs = [x]∧Pr H x p∧Q (.bl true) H
noncomputable def jdf : Sp:=fun vs H Q _=>∃ x p l s,vs = [x,.int l,.int s]∧Pr H x p∧(l < p.1∧p.1 ≤ 999∧1 ≤ p.2∧p.2 ≤ 1000000000000 - s)∧Q (.bl true) H
noncomputable def hasK (kvs : List (Key × V)) (n : Int) : Bool:=(valV kvs (Sum.inl n : Key)).isSome
noncomputable def jeh : Sp:=fun vs H Q _=>∃ x p y q d kvs,vs = [x,y,.ref d]∧Pr H x p∧Pr H y q∧H d = some (.dK kvs)∧(HT.lexLt [q.1,q.2] [p.1,p.2] = true∧p.1 < p.2∧hasK kvs p.1 = true∧hasK kvs p.2 = true)∧Q (.bl true) H
theorem ji7 {f : Addr} {fd : FuncData}  (B : Blt mg) (D : DefAt K mg "is_whole" (top 22) ["thing"] f fd) : FnOk P w K mg base CX0 1 f fd ["thing"] jl6:=by
 have sc : FnScope ["thing"] ["thing"] (ja7 (top 22)):=⟨rfl,rfl,rfl,by decide +kernel,rfl,by decide +kernel,by decide +kernel⟩
 refine D.F.ok sc (fun vs H Q E h=>?_) (fun cdv A outer s H vs Q E hr h=>?_)
 ·obtain ⟨x,k,rfl,_⟩:=h
  rfl
 obtain ⟨x,k,rfl,ek,h⟩:=h
 have hu:=jbi hr
 have hu0 : _ < PySem.cLine:=Nat.lt_of_succ_lt hu
 refine ⟨_,(ja6 (jag (jdg (jaa (jcm .int) rfl B.isinstance PyProof.Rows.boot_isinstance (ja0 (qv 0) (ja0 (jbg (v:=.ty "int") rfl B.int PyProof.Rows.boot_int rfl) ja2))) (jd6 (q_not (jaa (jcm .bl) rfl B.isinstance PyProof.Rows.boot_isinstance (ja0 (qv 0) (ja0 (jbg (v:=.ty "bool") rfl B.bool PyProof.Rows.boot_bool rfl) ja2)))))))),?_⟩
 simp_arith [ek]
 cases k <;> simpa only [isi,jkr,if_true,if_false,Bool.false_eq_true,Bool.not_true,Bool.not_false] using h
theorem jfm {f : Addr} {fd : FuncData}  (B : Blt mg) (D : DefAt K mg "is_tuple_of" (top 23) ["thing","many"] f fd) : FnOk P w K mg base CX0 1 f fd ["thing","many"] jeg:=by
 have sc : FnScope ["thing","many"] ["thing","many"] (ja7 (top 23)):=⟨rfl,rfl,rfl,by decide +kernel,rfl,by decide +kernel,by decide +kernel⟩
 refine D.F.ok sc (fun vs H Q E h=>?_) (fun cdv A outer s H vs Q E hr h=>?_)
 ·obtain ⟨a,xs,m,rfl,_⟩:=h
  rfl
 obtain ⟨a,xs,m,rfl,ea,h⟩:=h
 have hu:=jbi hr
 have hu0 : _ < PySem.cLine:=Nat.lt_of_succ_lt hu
 refine ⟨_,(ja6 (jag (jdg (jaa (jcm .tup) rfl B.isinstance PyProof.Rows.boot_isinstance (ja0 (qv 0) (ja0 (jbg (v:=.ty "tuple") rfl B.tuple PyProof.Rows.boot_tuple rfl) ja2))) (jd6 (jbq q_eq (jaa jej rfl B.len PySem.boot_len (ja0 (qv 0) ja2)) (qv 1) (jap _)))))),?_⟩
 simp_arith [kd,ea,jal,isi]
 exact h
theorem je4 {f : Addr} {fd : FuncData}  (B : Blt mg) (D : DefAt K mg "is_list_up_to" (top 25) ["thing","most"] f fd) : FnOk P w K mg base CX0 1 f fd ["thing","most"] jdt:=by
 have sc : FnScope ["thing","most"] ["thing","most"] (ja7 (top 25)):=⟨rfl,rfl,rfl,by decide +kernel,rfl,by decide +kernel,by decide +kernel⟩
 refine D.F.ok sc (fun vs H Q E h=>?_) (fun cdv A outer s H vs Q E hr h=>?_)
 ·obtain ⟨a,xs,m,rfl,_⟩:=h
  rfl
 obtain ⟨a,xs,m,rfl,ea,h⟩:=h
 have hu:=jbi hr
 have hu0 : _ < PySem.cLine:=Nat.lt_of_succ_lt hu
 refine ⟨_,(ja6 (jag (jdg (jaa (jcm .lst) rfl B.isinstance PyProof.Rows.boot_isinstance (ja0 (qv 0) (ja0 (jbg (v:=.ty "list") rfl B.list PyProof.Rows.boot_list rfl) ja2))) (jd6 (jbq q_le (jaa jej rfl B.len PySem.boot_len (ja0 (qv 0) ja2)) (qv 1) (jap _)))))),?_⟩
 simp_arith [kd,ea,jal,isi]
 exact h
theorem jd2 {f : Addr} {fd : FuncData} {f_is_tuple_of : Addr} {d_is_tuple_of : FuncData} {f_is_whole : Addr} {d_is_whole : FuncData} (B : Blt mg) (D : DefAt K mg "is_pair_of_wholes" (top 24) ["thing"] f fd) (D_is_tuple_of : DefAt K mg "is_tuple_of" (top 23) ["thing","many"] f_is_tuple_of d_is_tuple_of) (G_is_tuple_of : FnOk P w K mg base CX0 1 f_is_tuple_of d_is_tuple_of ["thing","many"] jeg) (D_is_whole : DefAt K mg "is_whole" (top 22) ["thing"] f_is_whole d_is_whole) (G_is_whole : FnOk P w K mg base CX0 1 f_is_whole d_is_whole ["thing"] jl6) : FnOk P w K mg base CX0 2 f fd ["thing"] jl7:=by
 have sc : FnScope ["thing"] ["thing"] (ja7 (top 24)):=⟨rfl,rfl,rfl,by decide +kernel,rfl,by decide +kernel,by decide +kernel⟩
 refine D.F.ok sc (fun vs H Q E h=>?_) (fun cdv A outer s H vs Q E hr h=>?_)
 ·obtain ⟨x,p,rfl,_⟩:=h
  rfl
 obtain ⟨x,p,rfl,⟨a,rfl,ea⟩,h⟩:=h
 have hu:=jbi hr
 have hu0 : _ < PySem.cLine:=Nat.lt_of_succ_lt hu
 refine ⟨_,(ja6 (jag (jdg (jac G_is_tuple_of (hr.mono (by decide)) rfl D_is_tuple_of.m D_is_tuple_of.F.kp D_is_tuple_of.b .nil jar (ja0 (qv 0) (ja0 ja5 ja2))) (jdg (jac G_is_whole (hr.mono (by decide)) rfl D_is_whole.m D_is_whole.F.kp D_is_whole.b .nil jar (ja0 (jaf q_ix (qv 0) ja5 (fun _ _=>rfl)) ja2)) (jd6 (jac G_is_whole (hr.mono (by decide)) rfl D_is_whole.m D_is_whole.F.kp D_is_whole.b .nil jar (ja0 (jaf q_ix (qv 0) ja5 (fun _ _=>rfl)) ja2))))))),?_⟩
 simp_arith [jal,ea,at0,at1]
 refine ⟨a,_,2,rfl,ea,?_⟩
 simp_arith [jal,ea,at0,at1,Int.cast_ofNat_Int,decide_true]
 refine ⟨_,.int,rfl,rfl,?_⟩
 simp_arith [jkr,jal,ea,at0,at1]
 exact ⟨_,.int,rfl,rfl,h⟩
theorem jer {f : Addr} {fd : FuncData} {f_is_pair_of_wholes : Addr} {d_is_pair_of_wholes : FuncData} (B : Blt mg) (C : Cst mg c1 c2 c3 c4) (D : DefAt K mg "place_stands" (top 31) ["thing","last","spent"] f fd) (D_is_pair_of_wholes : DefAt K mg "is_pair_of_wholes" (top 24) ["thing"] f_is_pair_of_wholes d_is_pair_of_wholes) (G_is_pair_of_wholes : FnOk P w K mg base CX0 2 f_is_pair_of_wholes d_is_pair_of_wholes ["thing"] jl7) : FnOk P w K mg base CX0 3 f fd ["thing","last","spent"] jdf:=by
 have sc : FnScope ["thing","last","spent"] ["thing","last","spent"] (ja7 (top 31)):=⟨rfl,rfl,rfl,by decide +kernel,rfl,by decide +kernel,by decide +kernel⟩
 refine D.F.ok sc (fun vs H Q E h=>?_) (fun cdv A outer s H vs Q E hr h=>?_)
 ·obtain ⟨x,p,l,s,rfl,_⟩:=h
  rfl
 obtain ⟨x,p,l,sp,rfl,hp,⟨b1,b2,b3,b4⟩,h⟩:=h
 obtain ⟨a,rfl,ea⟩:=id hp
 have hu:=jbi hr
 have hu0 : _ < PySem.cLine:=Nat.lt_of_succ_lt hu
 refine ⟨_,(ja4 (jbf (jc6 (jb1 (jac G_is_pair_of_wholes (hr.mono (by decide)) rfl D_is_pair_of_wholes.m D_is_pair_of_wholes.F.kp D_is_pair_of_wholes.b .nil jar (ja0 (qv 0) ja2)))) (ja6 (jag jd8)) jai) (ja6 (jag (jdg (jlr q_lt q_le (qv 1) (jaf q_ix (qv 0) ja5 (fun _ _=>rfl)) (jem (v:=.int 999) rfl C.LAST_PLACE ⟨_,rfl⟩)) (jd6 (jlr q_le q_le ja5 (jaf q_ix (qv 0) ja5 (fun _ _=>rfl)) (jaw q_sub (jem (v:=.int 1000000000000) rfl C.MOST_PRICE ⟨_,rfl⟩) (qv 2)))))))),?_⟩
 walk_at "RD"
 refine ⟨_,p,rfl,hp,?_⟩
 simp_arith [jal,ea,at0,at1,decide_eq_true b1,decide_eq_true b2,decide_eq_true b3,decide_eq_true b4]
 exact h
theorem jg3 {f : Addr} {fd : FuncData} {f_is_pair_of_wholes : Addr} {d_is_pair_of_wholes : FuncData} (B : Blt mg) (D : DefAt K mg "tie_stands" (top 32) ["thing","last","prices"] f fd) (D_is_pair_of_wholes : DefAt K mg "is_pair_of_wholes" (top 24) ["thing"] f_is_pair_of_wholes d_is_pair_of_wholes) (G_is_pair_of_wholes : FnOk P w K mg base CX0 2 f_is_pair_of_wholes d_is_pair_of_wholes ["thing"] jl7) : FnOk P w K mg base CX0 3 f fd ["thing","last","prices"] jeh:=by
 have sc : FnScope ["thing","last","prices"] ["thing","last","prices"] (ja7 (top 32)):=⟨rfl,rfl,rfl,by decide +kernel,rfl,by decide +kernel,by decide +kernel⟩
 refine D.F.ok sc (fun vs H Q E h=>?_) (fun cdv A outer s H vs Q E hr h=>?_)
 ·obtain ⟨x,p,y,q,d,kvs,rfl,_⟩:=h
  rfl
 obtain ⟨x,p,y,q,d,kvs,rfl,hp,hq,hd,⟨b1,b2,b3,b4⟩,h⟩:=h
 obtain ⟨a,rfl,ea⟩:=id hp
 obtain ⟨b,rfl,eb⟩:=id hq
 unfold hasK at b3 b4
 have hu:=jbi hr
 have hu0 : _ < PySem.cLine:=Nat.lt_of_succ_lt hu
 refine ⟨_,(ja4 (jbf (jc6 (jb1 (jac G_is_pair_of_wholes (hr.mono (by decide)) rfl D_is_pair_of_wholes.m D_is_pair_of_wholes.F.kp D_is_pair_of_wholes.b .nil jar (ja0 (qv 0) ja2)))) (ja6 (jag jd8)) jai) (ja6 (jag (jdg (jbq (q_ltT hu0) (qv 1) (qv 0) (jap _)) (jdg (jbq q_lt (jaf q_ix (qv 0) ja5 (fun _ _=>rfl)) (jaf q_ix (qv 0) ja5 (fun _ _=>rfl)) (jap _)) (jdg (jpq (q_din hu (jaf q_ix (qv 0) ja5 (fun _ _=>rfl)) (qv 2))) (jd6 (jpq (q_din hu (jaf q_ix (qv 0) ja5 (fun _ _=>rfl)) (qv 2)))))))))),?_⟩
 walk_at "RD"
 refine ⟨_,p,rfl,hp,?_⟩
 simp_arith [jal,ea,eb,hd,at0,at1,b1,decide_eq_true b2,b3,b4]
 exact h
end
end My
namespace My
open PySem L2
section
variable {P : Program} {w : World} {K : PySem.W.Frag} {mg : Str→Option Value} {base : Heap} {c1 c2 c3 c4 : Tok}
noncomputable def PlOk : Int→Int→List (Int × Int)→Prop
 | _,_,[]=>True
 | l,s,p :: r=>(l < p.1∧p.1 ≤ 999∧1 ≤ p.2∧p.2 ≤ 1000000000000 - s)∧PlOk p.1 (s + p.2) r
noncomputable def jdl (ps : List (Int × Int)) : List (Key × V):=ps.map fun p=>(Sum.inl p.1,V.int p.2)
noncomputable def TiOk (kvs : List (Key × V)) : Int × Int→List (Int × Int)→Prop
 | _,[]=>True
 | q,p :: r=>(HT.lexLt [q.1,q.2] [p.1,p.2] = true∧p.1 < p.2∧hasK kvs p.1 = true∧hasK kvs p.2 = true)∧TiOk kvs p r
structure WebOk (ps ts : List (Int × Int)) : Prop where
 pl : ps.length ≤ 40
 p : PlOk (-1) 0 ps
 tl : ts.length ≤ 120
 t : TiOk (jdl ps) (-1,-1) ts
noncomputable def jbr (H : Hp) (v : V) (ps ts : List (Int × Int)) : Prop :=
 ∃ u pa ta xs ys,v = .ref u∧H u = some (.tup [.ref pa,.ref ta])∧H pa = some (.lst xs)∧H ta = some (.lst ys)∧Prs H xs ps∧Prs H ys ts
theorem jbr.same {H H' : Hp} {v : V} {ps ts : List (Int × Int)} (h : jbr H v ps ts) (s : Same H H') : jbr H' v ps ts:=by
 obtain ⟨u,pa,ta,xs,ys,e,h1,h2,h3,h4,h5⟩:=h
 exact ⟨u,pa,ta,xs,ys,e,s _ _ h1,s _ _ h2,s _ _ h3,Prs.same s h4,Prs.same s h5⟩
theorem PlOk.gt : ∀ {ps : List (Int × Int)} {l s : Int},PlOk l s ps→∀ p ∈ ps,l < p.1
 | [],_,_,_,_,h=>by cases h
 | q :: r,l,s,h,p,hp=>by
  rcases List.mem_cons.mp hp with e | hp
  ·rw [e]; exact h.1.1
  ·have:=PlOk.gt h.2 p hp
   have:=h.1.1
   omega
theorem PlOk.nodup : ∀ {ps : List (Int × Int)} {l s : Int},PlOk l s ps→(ps.map (·.1)).Nodup
 | [],_,_,_=>List.nodup_nil
 | q :: r,l,s,h=>by
  rw [List.map_cons]
  refine List.nodup_cons.mpr ⟨fun hm=>?_,PlOk.nodup h.2⟩
  obtain ⟨p,hp,e⟩:=List.mem_map.mp hm
  have:=PlOk.gt h.2 p hp
  omega
theorem jkg {ps : List (Int × Int)} (h : (ps.map (·.1)).Nodup) : ((jdl ps).map (·.1)).Nodup:=by
 unfold jdl
 rw [List.map_map]
 have e : ((fun (x : Key × V)=>x.1) ∘ fun (p : Int × Int)=>((Sum.inl p.1 : Key),V.int p.2)) = (fun (n : Int)=>(Sum.inl n : Key)) ∘ fun (p : Int × Int)=>p.1:=rfl
 rw [e,← List.map_map]
 unfold List.Nodup at h ⊢
 rw [List.pairwise_map]
 exact h.imp fun q z=>q (Sum.inl.inj z)
theorem jjh {H : Hp} : ∀ {xs : List V} {ps : List (Int × Int)},Prs H xs ps→Paired (PairAt H) xs (jdl ps)
 | _,_,.nil=>.nil
 | _,_,.cons r t=>by
  obtain ⟨a,e,q⟩:=r
  exact .cons ⟨a,e,q⟩ (jjh t)
theorem jkw : ∀ {ps : List (Int × Int)} {p : Int × Int},(ps.map (·.1)).Nodup→p ∈ ps→valV (jdl ps) (Sum.inl p.1 : Key) = some (.int p.2)
 | [],_,_,h=>by cases h
 | q :: r,p,hn,h=>by
  rw [List.map_cons] at hn
  unfold jdl valV
  rw [List.map_cons,List.find?_cons]
  rcases List.mem_cons.mp h with e | h
  ·rw [e]
   simp
  ·have hne : q.1 ≠ p.1:=fun z=>(List.nodup_cons.mp hn).1 (by rw [z]; exact List.mem_map_of_mem h)
   have hd : decide ((Sum.inl q.1 : Key) = Sum.inl p.1) = false:=decide_eq_false fun z=>hne (Sum.inl.inj z)
   dsimp only
   rw [hd]
   exact jkw (List.nodup_cons.mp hn).2 h
theorem jrd {ps : List (Int × Int)} {p : Int × Int} (hn : (ps.map (·.1)).Nodup) (h : p ∈ ps) : hasK (jdl ps) p.1 = true:=by
 unfold hasK
 rw [jkw hn h]
 rfl
noncomputable def je1 : Sp:=fun vs H Q _=>∃ a xs ps,vs = [.ref a]∧H a = some (.lst xs)∧Prs H xs ps∧ps.length ≤ 40∧PlOk (-1) 0 ps∧∀ H',Same H H'→Q .non H'
noncomputable def jfq : Sp:=fun vs H Q _=>∃ a d xs ts kvs,vs = [.ref a,.ref d]∧H a = some (.lst xs)∧H d = some (.dK kvs)∧Prs H xs ts∧ts.length ≤ 120∧TiOk kvs (-1,-1) ts∧∀ H',Same H H'→Q .non H'
noncomputable def jgt : Sp:=fun vs H Q _=>∃ v ps ts,vs = [v]∧jbr H v ps ts∧WebOk ps ts∧∀ H',Same H H'→Q .non H'
theorem jdx {f : Addr} {fd : FuncData} {f_is_list_up_to : Addr} {d_is_list_up_to : FuncData} {f_place_stands : Addr} {d_place_stands : FuncData} (B : Blt mg) (C : Cst mg c1 c2 c3 c4) (D : DefAt K mg "look_at_places" (top 33) ["places"] f fd) (D_is_list_up_to : DefAt K mg "is_list_up_to" (top 25) ["thing","most"] f_is_list_up_to d_is_list_up_to) (G_is_list_up_to : FnOk P w K mg base CX0 1 f_is_list_up_to d_is_list_up_to ["thing","most"] jdt) (D_place_stands : DefAt K mg "place_stands" (top 31) ["thing","last","spent"] f_place_stands d_place_stands) (G_place_stands : FnOk P w K mg base CX0 3 f_place_stands d_place_stands ["thing","last","spent"] jdf) : FnOk P w K mg base CX0 4 f fd ["places"] je1:=by
 have sc : FnScope ["places","last","spent","number","thing"] ["places"] (ja7 (top 33)):=⟨rfl,rfl,rfl,by decide +kernel,rfl,by decide +kernel,by decide +kernel⟩
 refine D.F.ok sc (fun vs H Q E h=>?_) (fun cdv A outer s H vs Q E hr h=>?_)
 ·obtain ⟨a,xs,ps,rfl,_⟩:=h
  rfl
 obtain ⟨a,xs,ps,rfl,ea,hp,hl,ok,h⟩:=h
 have hlx : xs.length = ps.length:=Paired.length hp
 have hu:=jbi hr
 have hu0 : _ < PySem.cLine:=Nat.lt_of_succ_lt hu
 refine ⟨_,(ja4 (jbf (jc6 (jb1 (jac G_is_list_up_to (hr.mono (by decide)) rfl D_is_list_up_to.m D_is_list_up_to.F.kp D_is_list_up_to.b .nil jar (ja0 (qv 0) (ja0 (jem (v:=.int 40) rfl C.MOST_PLACES ⟨_,rfl⟩) ja2))))) (ja6 jcz) jai) (ja4 (jaj (i:=1) sc.nd rfl (Or.inl rfl) (jlx jlo ja5)) (ja4 (jaj (i:=2) sc.nd rfl (Or.inl rfl) ja5) (ja6 (jbl PassesOwn.never rfl (jlw rfl B.enumerate (ja0 (qv 0) ja2)) (jbs (n:=2) rfl (jae (jab (i:=3) sc.nd rfl (Or.inl rfl)) (jae (jab (i:=4) sc.nd rfl (Or.inl rfl)) jbe))) (ja4 (jbf (jc6 (jb1 (jac G_place_stands (hr.mono (by decide)) rfl D_place_stands.m D_place_stands.F.kp D_place_stands.b .nil jar (ja0 (qv 4) (ja0 (qv 1) (ja0 (qv 2) ja2)))))) (ja6 jcz) jai) (ja4 (jaj (i:=1) sc.nd rfl (Or.inl rfl) (jaf q_ix (qv 4) ja5 (fun _ _=>rfl))) (ja6 (jpn (i:=2) sc.nd rfl (Or.inl rfl) (jaf q_ix (qv 4) ja5 (fun _ _=>rfl)) q_iadd))))))))),?_⟩
 walk_at "RD"
 refine ⟨a,xs,40,rfl,ea,?_⟩
 rw [decide_eq_true (show (xs.length : Int) ≤ 40 by omega)]
 walk_at "RD"
 refine ⟨a,rfl,⟨xs,SqL.of ea⟩,jjq (K:=K) (a:=a) (xs:=xs) (fun i σ H1=>∃ l sp nb th,σ = [some (.ref a),some (.int l),some (.int sp),nb,th]∧Same H H1∧PlOk l sp (ps.drop i)) ⟨-1,0,none,none,rfl,Same.refl _,ok⟩ (fun i σ H1 _ ⟨_,_,_,_,_,s1,_⟩=>SqL.of (s1 _ _ ea)) ?_ ?_⟩
 ·rintro i x σ H1 t hi ⟨l,sp,nb,th,rfl,s1,ok1⟩ ht
  obtain ⟨p,hpi,px⟩:=jad hp hi
  rw [jjw hpi] at ok1
  have s2 : Same H (upd H1 t (.tup [.int i,x])):=s1.trans (ja3 ht _)
  have px2:=px.same s2
  obtain ⟨u,rfl,eu⟩:=id px2
  simp_arith [ja1]
  refine ⟨_,p,l,sp,rfl,px2,ok1.1,?_⟩
  simp_arith [jal,eu,at0,at1]
  exact ⟨_,_,_,_,rfl,s2,ok1.2⟩
 ·rintro σ H1 ⟨l,sp,nb,th,rfl,s1,_⟩
  exact h H1 s1
theorem jes {f : Addr} {fd : FuncData} {f_is_list_up_to : Addr} {d_is_list_up_to : FuncData} {f_tie_stands : Addr} {d_tie_stands : FuncData} (B : Blt mg) (C : Cst mg c1 c2 c3 c4) (D : DefAt K mg "look_at_ties" (top 34) ["ties","prices"] f fd) (D_is_list_up_to : DefAt K mg "is_list_up_to" (top 25) ["thing","most"] f_is_list_up_to d_is_list_up_to) (G_is_list_up_to : FnOk P w K mg base CX0 1 f_is_list_up_to d_is_list_up_to ["thing","most"] jdt) (D_tie_stands : DefAt K mg "tie_stands" (top 32) ["thing","last","prices"] f_tie_stands d_tie_stands) (G_tie_stands : FnOk P w K mg base CX0 3 f_tie_stands d_tie_stands ["thing","last","prices"] jeh) : FnOk P w K mg base CX0 4 f fd ["ties","prices"] jfq:=by
 have sc : FnScope ["ties","prices","last","number","thing"] ["ties","prices"] (ja7 (top 34)):=⟨rfl,rfl,rfl,by decide +kernel,rfl,by decide +kernel,by decide +kernel⟩
 refine D.F.ok sc (fun vs H Q E h=>?_) (fun cdv A outer s H vs Q E hr h=>?_)
 ·obtain ⟨a,d,xs,ts,kvs,rfl,_⟩:=h
  rfl
 obtain ⟨a,d,xs,ts,kvs,rfl,ea,ed,hp,hl,ok,h⟩:=h
 have hlx : xs.length = ts.length:=Paired.length hp
 have hu:=jbi hr
 have hu0 : _ < PySem.cLine:=Nat.lt_of_succ_lt hu
 refine ⟨_,(ja4 (jbf (jc6 (jb1 (jac G_is_list_up_to (hr.mono (by decide)) rfl D_is_list_up_to.m D_is_list_up_to.F.kp D_is_list_up_to.b .nil jar (ja0 (qv 0) (ja0 (jem (v:=.int 120) rfl C.MOST_TIES ⟨_,rfl⟩) ja2))))) (ja6 jcz) jai) (ja4 (jaj (i:=2) sc.nd rfl (Or.inl rfl) (jb4 (ja0 (jlx jlo ja5) (ja0 (jlx jlo ja5) ja2)))) (ja6 (jbl PassesOwn.never rfl (jlw rfl B.enumerate (ja0 (qv 0) ja2)) (jbs (n:=2) rfl (jae (jab (i:=3) sc.nd rfl (Or.inl rfl)) (jae (jab (i:=4) sc.nd rfl (Or.inl rfl)) jbe))) (ja4 (jbf (jc6 (jb1 (jac G_tie_stands (hr.mono (by decide)) rfl D_tie_stands.m D_tie_stands.F.kp D_tie_stands.b .nil jar (ja0 (qv 4) (ja0 (qv 2) (ja0 (qv 1) ja2)))))) (ja6 jcz) jai) (ja6 (jaj (i:=2) sc.nd rfl (Or.inl rfl) (qv 4)))))))),?_⟩
 walk_at "RD"
 refine ⟨a,xs,120,rfl,ea,?_⟩
 rw [decide_eq_true (show (xs.length : Int) ≤ 120 by omega)]
 walk_at "RD"
 intro t0 ht0
 refine ⟨a,rfl,⟨xs,SqL.of (ja3 ht0 _ _ _ ea)⟩,jjq (K:=K) (a:=a) (xs:=xs) (fun i σ H1=>∃ lv q nb th,σ = [some (.ref a),some (.ref d),some lv,nb,th]∧Same H H1∧Pr H1 lv q∧TiOk kvs q (ts.drop i)) ⟨_,(-1,-1),none,none,rfl,ja3 ht0 _,⟨t0,rfl,ja1⟩,ok⟩ (fun i σ H1 _ ⟨_,_,_,_,_,s1,_⟩=>SqL.of (s1 _ _ ea)) ?_ ?_⟩
 ·rintro i x σ H1 t hi ⟨lv,q,nb,th,rfl,s1,pq,ok1⟩ ht
  obtain ⟨p,hpi,px⟩:=jad hp hi
  rw [jjw hpi] at ok1
  have s2 : Same H (upd H1 t (.tup [.int i,x])):=s1.trans (ja3 ht _)
  have px2:=px.same s2
  simp_arith [ja1]
  refine ⟨_,p,_,q,d,kvs,rfl,px2,pq.same (ja3 ht _),s2 _ _ ed,ok1.1,?_⟩
  walk_at "RD"
  exact ⟨_,_,_,_,rfl,s2,px2,ok1.2⟩
 ·rintro σ H1 ⟨lv,q,nb,th,rfl,s1,_⟩
  exact h H1 s1
theorem jfi {f : Addr} {fd : FuncData} {f_is_tuple_of : Addr} {d_is_tuple_of : FuncData} {f_look_at_places : Addr} {d_look_at_places : FuncData} {f_look_at_ties : Addr} {d_look_at_ties : FuncData} (B : Blt mg) (D : DefAt K mg "look_at_web" (top 35) ["thing"] f fd) (D_is_tuple_of : DefAt K mg "is_tuple_of" (top 23) ["thing","many"] f_is_tuple_of d_is_tuple_of) (G_is_tuple_of : FnOk P w K mg base CX0 1 f_is_tuple_of d_is_tuple_of ["thing","many"] jeg) (D_look_at_places : DefAt K mg "look_at_places" (top 33) ["places"] f_look_at_places d_look_at_places) (G_look_at_places : FnOk P w K mg base CX0 4 f_look_at_places d_look_at_places ["places"] je1) (D_look_at_ties : DefAt K mg "look_at_ties" (top 34) ["ties","prices"] f_look_at_ties d_look_at_ties) (G_look_at_ties : FnOk P w K mg base CX0 4 f_look_at_ties d_look_at_ties ["ties","prices"] jfq) : FnOk P w K mg base CX0 5 f fd ["thing"] jgt:=by
 have sc : FnScope ["thing"] ["thing"] (ja7 (top 35)):=⟨rfl,rfl,rfl,by decide +kernel,rfl,by decide +kernel,by decide +kernel⟩
 refine D.F.ok sc (fun vs H Q E h=>?_) (fun cdv A outer s H vs Q E hr h=>?_)
 ·obtain ⟨v,ps,ts,rfl,_⟩:=h
  rfl
 obtain ⟨v,ps,ts,rfl,hw,ok,h⟩:=h
 obtain ⟨u,pa,ta,xs,ys,rfl,eu,ep,et,pp,pt⟩:=hw
 have hlx : xs.length = ps.length:=Paired.length pp
 have okl:=ok.pl
 have hu:=jbi hr
 have hu0 : _ < PySem.cLine:=Nat.lt_of_succ_lt hu
 refine ⟨_,(ja4 (jbf (jc6 (jb1 (jac G_is_tuple_of (hr.mono (by decide)) rfl D_is_tuple_of.m D_is_tuple_of.F.kp D_is_tuple_of.b .nil jar (ja0 (qv 0) (ja0 ja5 ja2))))) (ja6 jcz) jai) (ja4 (jbm (jac G_look_at_places (hr.mono (by decide)) rfl D_look_at_places.m D_look_at_places.F.kp D_look_at_places.b .nil jar (ja0 (jaf q_ix (qv 0) ja5 (fun _ _=>rfl)) ja2))) (ja6 (jbm (jac G_look_at_ties (hr.mono (by decide)) rfl D_look_at_ties.m D_look_at_ties.F.kp D_look_at_ties.b .nil jar (ja0 (jaf q_ix (qv 0) ja5 (fun _ _=>rfl)) (ja0 (jcc (jlq rfl) rfl B.dict PyProof.Rows.boot_dict (ja0 (jaf q_ix (qv 0) ja5 (fun _ _=>rfl)) ja2)) ja2))))))),?_⟩
 walk_at "RD"
 refine ⟨u,_,2,rfl,eu,?_⟩
 simp_arith [jal,eu,at0,at1,Int.cast_ofNat_Int,decide_true]
 refine ⟨pa,xs,ps,rfl,ep,pp,ok.pl,ok.p,fun H1 s1=>?_⟩
 simp_arith [jal,s1 _ _ eu,s1 _ _ ep,at0,at1]
 refine ⟨jdl ps,jjh (Prs.same s1 pp),by omega,jkg ok.p.nodup,fun d hd=>?_⟩
 have s2 : Same H (upd H1 d (.dK (jdl ps))):=s1.trans (ja3 hd _)
 exact ⟨ta,d,ys,ts,_,rfl,s2 _ _ et,ja1,Prs.same s2 pt,ok.tl,ok.t,fun H3 s3=>h H3 (s2.trans s3)⟩
end
end My
namespace My
open PySem L2
section
variable {P : Program} {w : World} {K : PySem.W.Frag} {mg : Str→Option Value} {base : Heap} {c1 c2 c3 c4 : Tok}
theorem ix30 : ixN 3 0 = some 0:=rfl
theorem ix31 : ixN 3 1 = some 1:=rfl
theorem ix32 : ixN 3 2 = some 2:=rfl
noncomputable def StO (o : HO) : Prop:=∃ c st fl,o = .lst [.int c,.int st,.bl fl]∧0 ≤ st∧st < 4294967296
theorem StO.imm {o : HO} (h : StO o) : jr9 o = false:=by obtain ⟨_,_,_,rfl,_⟩:=h; rfl
noncomputable def jle (K : PySem.W.Frag) : Sp:=fun vs H Q _=>∃ a k ns,vs = [.ref a,.int k]∧Scr K H a ns∧0 ≤ k∧k ≤ 1000∧∀ s o,H s = none→StO o→Q (.ref s) (upd H s o)
noncomputable def jj1 : Sp:=fun vs H Q _=>∃ s o m,vs = [.ref s,.int m]∧H s = some o∧StO o∧1 ≤ m∧m < 1073741824∧∀ d o,0 ≤ d→d < m→StO o→Q (.int d) (upd H s o)
theorem cmR {i j : Int} (h1 : -(2 ^ 64) < j) (h2 : j < 2 ^ 64) : CMul i j:=.inr ⟨h1,h2⟩
theorem cmL {i j : Int} (h1 : -(2 ^ 64) < i) (h2 : i < 2 ^ 64) : CMul i j:=.inl ⟨h1,h2⟩
noncomputable def Dr : Int→List (Int × Int)→Prop
 | _,[]=>True
 | l,p :: r=>(l < p.1∧p.1 ≤ l + 23∧1 ≤ p.2∧p.2 ≤ 1000000000)∧Dr p.1 r
noncomputable def jme (l : Int) : List (Int × Int)→Int
 | []=>l
 | p :: r=>jme p.1 r
theorem Dr.snoc : ∀ {ps : List (Int × Int)} {l : Int} {p : Int × Int},Dr l ps→(jme l ps < p.1∧p.1 ≤ jme l ps + 23∧1 ≤ p.2∧p.2 ≤ 1000000000)→Dr l (ps ++ [p])
 | [],_,_,_,h=>⟨h,trivial⟩
 | q :: r,_,_,h,h2=>⟨h.1,Dr.snoc h.2 h2⟩
theorem jft : ∀ {ps : List (Int × Int)} {l : Int} {p : Int × Int},jme l (ps ++ [p]) = p.1
 | [],_,_=>rfl
 | q :: r,_,_=>jft (ps:=r)
noncomputable def But (s : Addr) (H H' : Hp) : Prop:=∀ b o,b ≠ s→H b = some o→H' b = some o
theorem But.refl (s : Addr) (H : Hp) : But s H H:=fun _ _ _ q=>q
theorem But.trans {s : Addr} {H H1 H2 : Hp} (a : But s H H1) (b : But s H1 H2) : But s H H2:=fun c o n q=>b c o n (a c o n q)
theorem But.at (s : Addr) (H : Hp) (o : HO) : But s H (upd H s o):=fun b u n q=>by rw [ja8 n]; exact q
theorem But.new {s t : Addr} {H : Hp} {o : HO} (h : H t = none) : But s H (upd H t o):=fun b u n q=>by rw [ja8 (ja9 q h)]; exact q
theorem But.tups {s : Addr} {H H' : Hp} (h : But s H H') {o : HO} (e : H s = some o) (i : jr9 o = false) : TupS H H':=fun b u z q=>h b u (fun x=>by rw [x,e] at q; cases q; rw [i] at z; cases z) q
theorem at3 {α : Type} {x y z u : α} {r : List α} : atI (x :: y :: z :: u :: r) 3 = some u:=by
 have e : atI (x :: y :: z :: u :: r) ((3 : Nat) : Int) = some u:=jcl rfl
 exact e
theorem menu4 {a b c e d : Int} (h0 : 0 ≤ d) (h1 : d < 4) : ∃ v,atI [V.int a,.int b,.int c,.int e] d = some (.int v)∧(v = a ∨ v = b ∨ v = c ∨ v = e):=by
 have hd : d = 0 ∨ d = 1 ∨ d = 2 ∨ d = 3:=by omega
 rcases hd with rfl | rfl | rfl | rfl
 ·exact ⟨a,at0,.inl rfl⟩
 ·exact ⟨b,at1,.inr (.inl rfl)⟩
 ·exact ⟨c,at2,.inr (.inr (.inl rfl))⟩
 ·exact ⟨e,at3,.inr (.inr (.inr rfl))⟩
theorem p9 : (10 : Int) ^ Int.toNat 9 = 1000000000:=by decide
noncomputable def jj3 : Sp:=fun vs H Q _=>∃ s o n,vs = [.ref s,.int n]∧H s = some o∧StO o∧0 ≤ n∧n ≤ 100 ∧
 ∀ r H' o' xs ps,H r = none→But s H H'→H' s = some o'→StO o'→H' r = some (.lst xs)→Prs H' xs ps→(ps.length : Int) = n→Dr (-1) ps→Q (.ref r) H'
theorem ji2 {f : Addr} {fd : FuncData}  (B : Blt mg) (D : DefAt K mg "_law_take" (top 53) ["_law_state","_law_many"] f fd) : FnOk P w K mg base CX0 1 f fd ["_law_state","_law_many"] jj1:=by
 have sc : FnScope ["_law_state","_law_many","_law_digit","_law_number"] ["_law_state","_law_many"] (ja7 (top 53)):=⟨rfl,rfl,rfl,by decide +kernel,rfl,by decide +kernel,by decide +kernel⟩
 refine D.F.ok sc (fun vs H Q E h=>?_) (fun cdv A outer s H vs Q E hr h=>?_)
 ·obtain ⟨s,o,m,rfl,_⟩:=h
  rfl
 obtain ⟨st,o,m,rfl,es,⟨c,x,fl,rfl,x0,x1⟩,m0,m1,h⟩:=h
 have hu:=jbi hr
 have hu0 : _ < PySem.cLine:=Nat.lt_of_succ_lt hu
 refine ⟨_,(ja4 (jbf (jb1 (jaf q_ix (qv 0) ja5 (fun _ _=>rfl))) (ja4 (jaj (i:=2) sc.nd rfl (Or.inl rfl) (jaw jhw (jaf q_ix (qv 0) ja5 (fun _ _=>rfl)) (qv 1))) (ja4 (jjd (jaw jlp (jaf q_ix (qv 0) ja5 (fun _ _=>rfl)) (qv 1)) (jje (qv 0) ja5 jja)) (ja4 (jjd (jbq q_gt (jaf q_ix (qv 0) ja5 (fun _ _=>rfl)) ja5 (jap _)) (jje (qv 0) ja5 jja)) (ja6 (jag (qv 2)))))) jai) (ja4 (jjd (jaw jhw (jaw jd1 (jaw jk8 (jaf q_ix (qv 0) ja5 (fun _ _=>rfl)) ja5) ja5) ja5) (jje (qv 0) ja5 jja)) (ja4 (jaj (i:=3) sc.nd rfl (Or.inl rfl) (jaw jlp (jaw jhw (jaw jk8 (jaf q_ix (qv 0) ja5 (fun _ _=>rfl)) (jaf q_ix (qv 0) ja5 (fun _ _=>rfl))) ja5) ja5)) (ja4 (jbf (jb3 q_gt (qv 1) (jaw jqk ja5 ja5) (jap _)) (ja4 (jjd (jaw jhw (jaw jd1 (jaw jk8 (jaf q_ix (qv 0) ja5 (fun _ _=>rfl)) ja5) ja5) ja5) (jje (qv 0) ja5 jja)) (ja6 (jaj (i:=3) sc.nd rfl (Or.inl rfl) (jaw jd1 (jaw jk8 (qv 3) ja5) (jaf q_ix (qv 0) ja5 (fun _ _=>rfl)))))) jai) (ja6 (jag (jaw jhw (qv 3) (qv 1)))))))),?_⟩
 simp_arith [jal,es,at0,at1,at2,ix30,ix31,ix32,ja1,jhq]
 have lo : ∀ n : Int,0 ≤ n % m:=fun n=>Int.emod_nonneg _ (by omega)
 have hi : ∀ n : Int,n % m < m:=fun n=>Int.emod_lt_of_pos _ (by omega)
 have y0 : 0 ≤ (x * 48271 + 39373) % 2147483647:=Int.emod_nonneg _ (by decide)
 have y1 : (x * 48271 + 39373) % 2147483647 < 2147483647:=Int.emod_lt_of_pos _ (by decide)
 generalize (x * 48271 + 39373) % 2147483647 = y at y0 y1
 have z0 : 0 ≤ (y * 48271 + 39373) % 2147483647:=Int.emod_nonneg _ (by decide)
 have z1 : (y * 48271 + 39373) % 2147483647 < 2147483647:=Int.emod_lt_of_pos _ (by decide)
 generalize (y * 48271 + 39373) % 2147483647 = z at z0 z1
 have cd : CDiv c m:=⟨by omega,by omega⟩
 have cd2 : ∀ n : Int,CDiv n 16:=fun n=>⟨by decide,by decide⟩
 have cp : CPow 10 6:=⟨by decide,by decide,by decide⟩
 refine ite2 (fun _=>⟨by omega,cd,h _ _ (lo _) (hi _) ⟨_,_,_,rfl,x0,x1⟩⟩) (fun _=>⟨cmR (by decide) (by decide),by decide,cmL (by omega) (by omega),by decide,cd2 _,cp,?_⟩)
 refine ite2 (fun _=>⟨cmR (by decide) (by decide),by decide,cmR (by decide) (by decide),by omega,h _ _ (lo _) (hi _) ⟨_,_,_,rfl,z0,by omega⟩⟩) (fun _=>⟨by omega,h _ _ (lo _) (hi _) ⟨_,_,_,rfl,y0,by omega⟩⟩)
theorem jgy {f : Addr} {fd : FuncData}  (B : Blt mg) (D : DefAt K mg "_law_begun" (top 52) ["_law_script","_law_k"] f fd) : FnOk P w K mg base CX0 1 f fd ["_law_script","_law_k"] (jle K):=by
 have sc : FnScope ["_law_script","_law_k","_law_cell","_law_start"] ["_law_script","_law_k"] (ja7 (top 52)):=⟨rfl,rfl,rfl,by decide +kernel,rfl,by decide +kernel,by decide +kernel⟩
 refine D.F.ok sc (fun vs H Q E h=>?_) (fun cdv A outer s H vs Q E hr h=>?_)
 ·obtain ⟨a,k,ns,rfl,_⟩:=h
  rfl
 obtain ⟨a,k,ns,rfl,hs,k0,k1,h⟩:=h
 have hu:=jbi hr
 have hu0 : _ < PySem.cLine:=Nat.lt_of_succ_lt hu
 refine ⟨_,(ja4 (jaj (i:=2) sc.nd rfl (Or.inl rfl) ja5) (ja4 (jbf (jb3 q_lt (qv 1) (jaa jcu rfl B.len PySem.boot_len (ja0 (qv 0) ja2)) (jap _)) (ja6 (jaj (i:=2) sc.nd rfl (Or.inl rfl) (jaf jmn (qv 0) (qv 1) (fun _ _=>rfl)))) jai) (ja4 (jaj (i:=3) sc.nd rfl (Or.inl rfl) (jaw jd1 (jaw jd1 (jaw jhw (qv 2) ja5) (jaw jk8 ja5 (qv 1))) (jaw jk8 ja5 (jaw jlp (qv 1) ja5)))) (ja6 (jag (jas (ja0 (qv 2) (ja0 (jaw jhw (qv 3) ja5) (ja0 (jbq q_ge (qv 2) (jaw jqk ja5 ja5) (jap _)) ja2))))))))),?_⟩
 walk_at "RD"
 refine ⟨a,_,rfl,.inl hs.sq,?_⟩
 simp_arith [List.length_map,rIxL]
 have q0 : ∀ n : Int,0 ≤ n % 2147483629:=fun n=>Int.emod_nonneg _ (by decide)
 have q1 : ∀ n : Int,n % 2147483629 < 2147483629:=fun n=>Int.emod_lt_of_pos _ (by decide)
 have cp : CPow 10 18:=⟨by decide,by decide,by decide⟩
 have cd : CDiv k 7:=⟨by decide,by decide⟩
 refine ite2 (fun c=>?_) (fun c=>?_)
 ·have c' : k < (ns.length : Int):=of_decide_eq_true c
  have hk : k.toNat < ns.length:=by omega
  have e1 : atI (ns.map V.int) ((k.toNat : Nat) : Int) = some (.int ns[k.toNat]):=jcl (by rw [List.getElem?_map,List.getElem?_eq_getElem hk]; rfl)
  rw [show ((k.toNat : Nat) : Int) = k by omega] at e1
  refine ⟨a,_,k,_,rfl,rfl,hs.sq,e1,?_⟩
  walk_at "RD"
  exact ⟨by decide,cmL (by decide) (by decide),cd,cmL (by decide) (by decide),by decide,cp,fun p hp=>h p _ hp ⟨_,_,_,rfl,q0 _,by have:=q1 (ns[k.toNat] % 2147483629 + 104729 * k + 7919 * (k / 7)); omega⟩⟩
 ·exact ⟨by decide,cmL (by decide) (by decide),cd,cmL (by decide) (by decide),by decide,cp,fun p hp=>h p _ hp ⟨_,_,_,rfl,q0 _,by have:=q1 (0 % 2147483629 + 104729 * k + 7919 * (k / 7)); omega⟩⟩
theorem jg4 {f : Addr} {fd : FuncData} {f_law_take : Addr} {d_law_take : FuncData} (B : Blt mg) (D : DefAt K mg "_law_places" (top 54) ["_law_state","_law_count"] f fd) (D_law_take : DefAt K mg "_law_take" (top 53) ["_law_state","_law_many"] f_law_take d_law_take) (G_law_take : FnOk P w K mg base CX0 1 f_law_take d_law_take ["_law_state","_law_many"] jj1) : FnOk P w K mg base CX0 2 f fd ["_law_state","_law_count"] jj3:=by
 have sc : FnScope ["_law_state","_law_count","_law_kind","_law_places_here","_law_number","_law_k"] ["_law_state","_law_count"] (ja7 (top 54)):=⟨rfl,rfl,rfl,by decide +kernel,rfl,by decide +kernel,by decide +kernel⟩
 refine D.F.ok sc (fun vs H Q E h=>?_) (fun cdv A outer s H vs Q E hr h=>?_)
 ·obtain ⟨s,o,n,rfl,_⟩:=h
  rfl
 obtain ⟨st,o,n,rfl,es,so,n0,n1,h⟩:=h
 have hu:=jbi hr
 have hu0 : _ < PySem.cLine:=Nat.lt_of_succ_lt hu
 refine ⟨_,(ja4 (jaj (i:=2) sc.nd rfl (Or.inl rfl) (jac G_law_take (hr.mono (by decide)) rfl D_law_take.m D_law_take.F.kp D_law_take.b .nil jar (ja0 (qv 0) (ja0 ja5 ja2)))) (ja4 (jaj (i:=3) sc.nd rfl (Or.inl rfl) (jas ja2)) (ja4 (jaj (i:=4) sc.nd rfl (Or.inl rfl) (jlx jlo ja5)) (ja4 (jbl PassesOwn.never rfl (jdh rfl B.range (ja0 (qv 1) ja2)) (jab (i:=5) sc.nd rfl (Or.inl rfl)) (ja4 (jaj (i:=4) sc.nd rfl (Or.inl rfl) (jaw jd1 (jaw jd1 (qv 4) ja5) (jac G_law_take (hr.mono (by decide)) rfl D_law_take.m D_law_take.F.kp D_law_take.b .nil jar (ja0 (qv 0) (ja0 (jaf q_ix (jas (ja0 ja5 (ja0 ja5 (ja0 ja5 (ja0 ja5 ja2))))) (jac G_law_take (hr.mono (by decide)) rfl D_law_take.m D_law_take.F.kp D_law_take.b .nil jar (ja0 (qv 0) (ja0 ja5 ja2))) (fun _ _=>rfl)) ja2))))) (ja6 (jbm (q_bm PySem.F.plainAttrs_list PySem.F.slot_list_append PySem.F.type_list_append jc4 (qv 3) (ja0 (jb4 (ja0 (qv 4) (ja0 (jaw jd1 ja5 (jac G_law_take (hr.mono (by decide)) rfl D_law_take.m D_law_take.F.kp D_law_take.b .nil jar (ja0 (qv 0) (ja0 (jaf q_ix (jas (ja0 ja5 (ja0 ja5 (ja0 ja5 (ja0 (jaw jqk ja5 ja5) ja2))))) (qv 2) (fun _ _=>rfl)) ja2)))) ja2))) ja2)))))) (ja6 (jag (qv 3))))))),?_⟩
 walk_at "RD"
 refine ⟨st,o,4,rfl,es,so,by decide,by decide,fun kind o1 k0 k1 so1=>?_⟩
 walk_at "RD"
 intro r hr1
 have nr : r ≠ st:=fun z=>by rw [z,ja1] at hr1; cases hr1
 have hr0 : H r = none:=by rw [← hr1,ja8 nr]
 refine ⟨n,rfl,by omega,by omega,jcs (n:=n.toNat) (fun i σ H1=>∃ l kk ps xs o',σ = [some (.ref st),some (.int n),some (.int kind),some (.ref r),some (.int l),kk]∧But st H H1∧H1 st = some o'∧StO o'∧H1 r = some (.lst xs)∧Prs H1 xs ps∧ps.length = i∧Dr (-1) ps∧l = jme (-1) ps) ?_ ?_ ?_⟩
 ·refine ⟨-1,none,[],[],o1,rfl,fun b u nb q=>?_,by rw [ja8 nr.symm,ja1],so1,ja1,.nil,rfl,trivial,rfl⟩
  rw [ja8 (ja9 q hr0),ja8 nb]
  exact q
 ·rintro i σ H1 hi ⟨l,kk,ps,xs,o',rfl,b1,e1,so',er,pp,hlen,dr,el⟩
  have hlx : xs.length = ps.length:=Paired.length pp
  walk_at "RD"
  intro p1 hp1
  have np : p1 ≠ st:=(ja9 e1 hp1).symm
  have nr1 : r ≠ p1:=ja9 er hp1
  refine ⟨st,o',4,rfl,(by rw [ja8 np.symm]; exact e1),so',by decide,by decide,fun d1 o2 d10 d11 so2=>?_⟩
  obtain ⟨v,ev,v0,v1⟩ : ∃ v,atI [V.int 1,.int 2,.int 6,.int 23] d1 = some (.int v)∧1 ≤ v∧v ≤ 23:=by
   obtain ⟨v,ev,hv⟩:=menu4 (a:=1) (b:=2) (c:=6) (e:=23) d10 d11
   exact ⟨v,ev,by omega,by omega⟩
  simp_arith [jal,ja8 np,ja1,ev]
  refine ⟨st,o2,v,rfl,ja1,so2,by omega,by omega,fun d2 o3 d20 d21 so3=>?_⟩
  simp_arith [jhq]
  have b3 : But st H1 (upd (upd H1 p1 (.lst [.int 1,.int 2,.int 6,.int 23])) st o3):=(But.new hp1).trans (But.at _ _ _)
  have e3 : (upd (upd H1 p1 (.lst [.int 1,.int 2,.int 6,.int 23])) st o3) st = some o3:=ja1
  generalize upd (upd H1 p1 (.lst [.int 1,.int 2,.int 6,.int 23])) st o3 = H3 at b3 e3
  have t3 : TupS H1 H3:=b3.tups e1 so'.imm
  have er3:=b3 _ _ nr er
  refine ⟨⟨r,xs,rfl,er3⟩,⟨by decide,by decide,by decide⟩,?_⟩
  intro p2 hp2
  have np2 : p2 ≠ st:=(ja9 e3 hp2).symm
  have nr2 : r ≠ p2:=ja9 er3 hp2
  obtain ⟨v2,ev2,v20,v21⟩ : ∃ v,atI [V.int 1,.int 3,.int 9,.int (10 ^ Int.toNat 9)] kind = some (.int v)∧1 ≤ v∧v ≤ 1000000000:=by
   obtain ⟨v,ev,hv⟩:=menu4 (a:=1) (b:=3) (c:=9) (e:=10 ^ Int.toNat 9) k0 k1
   rw [p9] at hv
   exact ⟨v,ev,by omega,by omega⟩
  simp_arith [jal,ja1,ev2]
  refine ⟨st,o3,v2,rfl,(by rw [ja8 np2.symm]; exact e3),so3,by omega,by omega,fun d3 o4 d30 d31 so4=>?_⟩
  walk_at "RD"
  have b4 : But st H3 (upd (upd H3 p2 (.lst [.int 1,.int 3,.int 9,.int (10 ^ Int.toNat 9)])) st o4):=(But.new hp2).trans (But.at _ _ _)
  have e4 : (upd (upd H3 p2 (.lst [.int 1,.int 3,.int 9,.int (10 ^ Int.toNat 9)])) st o4) st = some o4:=ja1
  generalize upd (upd H3 p2 (.lst [.int 1,.int 3,.int 9,.int (10 ^ Int.toNat 9)])) st o4 = H4 at b4 e4
  have t4 : TupS H3 H4:=b4.tups e3 so3.imm
  have er4:=b4 _ _ nr er3
  intro t ht
  have nt : t ≠ st:=(ja9 e4 ht).symm
  have er5 : upd H4 t (.tup [.int (l + 1 + d2),.int (1 + d3)]) r = some (.lst xs):=by rw [ja8 (ja9 er4 ht)]; exact er4
  simp_arith [er5]
  have t5 : TupS H4 (upd H4 t (.tup [.int (l + 1 + d2),.int (1 + d3)])):=jdd ht
  have t6:=jcw (ys:=xs ++ [.ref t]) er5
  refine ⟨szl' (by omega),l + 1 + d2,_,ps ++ [(l + 1 + d2,1 + d3)],_,o4,rfl,fun b u nb q=>?_,?_,so4,(by first | rfl | exact ja1),?_,?_,?_,?_⟩
  ·have q1:=b4 _ _ nb (b3 _ _ nb (b1 _ _ nb q))
   rw [ja8 (ja9 q hr0),ja8 (ja9 q1 ht)]
   exact q1
  ·rw [ja8 nr.symm,ja8 nt.symm]
   exact e4
  ·exact jaz (Prs.tups (((t3.trans t4).trans t5).trans t6) pp) (Pr.tups ⟨t,rfl,ja1⟩ t6)
  ·rw [List.length_append,hlen]
   rfl
  ·exact dr.snoc ⟨by show _ < l + 1 + d2; omega,by show l + 1 + d2 ≤ _; omega,by show 1 ≤ 1 + d3; omega,by show 1 + d3 ≤ _; omega⟩
  ·rw [jft]
 ·rintro σ H1 ⟨l,kk,ps,xs,o',rfl,b1,e1,so',er,pp,hlen,dr,el⟩
  walk_at "RD"
  exact h r H1 o' xs ps hr0 b1 e1 so' er pp (by omega) dr
end
end My
namespace My
open PySem L2
section
variable {P : Program} {w : World} {K : PySem.W.Frag} {mg : Str→Option Value} {base : Heap} {c1 c2 c3 c4 : Tok}
mutual
noncomputable def dep : Dt→Nat
 | .tup ds=>deps ds + 1
 | .lst ds=>deps ds + 1
 | _=>1
noncomputable def deps : List Dt→Nat
 | []=>0
 | d :: ds=>max (dep d) (deps ds)
end
mutual
noncomputable def wid : Dt→Nat
 | .tup ds=>max ds.length (wids ds)
 | .lst ds=>max ds.length (wids ds)
 | _=>0
noncomputable def wids : List Dt→Nat
 | []=>0
 | d :: ds=>max (wid d) (wids ds)
end
theorem jil : ∀ {ds : List Dt} {i : Nat} {d : Dt},ds[i]? = some d→dep d ≤ deps ds
 | [],i,d,h=>by simp at h
 | x :: r,0,d,h=>by simp at h; subst h; rw [deps]; exact Nat.le_max_left _ _
 | x :: r,i + 1,d,h=>by rw [deps]; exact Nat.le_trans (jil (i:=i) (by simpa using h)) (Nat.le_max_right _ _)
theorem jhn : ∀ {ds : List Dt} {i : Nat} {d : Dt},ds[i]? = some d→wid d ≤ wids ds
 | [],i,d,h=>by simp at h
 | x :: r,0,d,h=>by simp at h; subst h; rw [wids]; exact Nat.le_max_left _ _
 | x :: r,i + 1,d,h=>by rw [wids]; exact Nat.le_trans (jhn (i:=i) (by simpa using h)) (Nat.le_max_right _ _)
noncomputable def jgr (n : Nat) : Sp:=fun vs H Q _=>∃ v1 v2 d,vs = [v1,v2]∧Rep H d v1∧Rep H d v2∧dep d ≤ n∧wid d ≤ 1000∧∀ H',Same H H'→Q (.bl true) H'
theorem jg1 : ∀ {i : Nat},(List.replicate i true).map V.bl ++ [V.bl true] = V.bl true :: (List.replicate i true).map V.bl
 | 0=>rfl
 | i + 1=>by
  rw [List.replicate_succ,List.map_cons,List.cons_append,jg1]
theorem jlj {n : Nat} : ((List.replicate n true).all id) = true:=by
 rw [List.all_eq_true]
 intro b hb
 rw [(List.mem_replicate.mp hb).2]
 rfl
theorem ji4 {n : Nat} {f : Addr} {fd : FuncData} {f_law_same : Addr} {d_law_same : FuncData} (B : Blt mg) (D : DefAt K mg "_law_same" (top 56) ["_law_found","_law_due"] f fd) (D_law_same : DefAt K mg "_law_same" (top 56) ["_law_found","_law_due"] f_law_same d_law_same) (G_law_same : FnOk P w K mg base CX0 n f_law_same d_law_same ["_law_found","_law_due"] (jgr n)) : FnOk P w K mg base CX0 (n + 1) f fd ["_law_found","_law_due"] (jgr (n + 1)):=by
 have sc : FnScope ["_law_found","_law_due"] ["_law_found","_law_due"] (ja7 (top 56)):=⟨rfl,rfl,rfl,by decide +kernel,rfl,by decide +kernel,by decide +kernel⟩
 refine D.F.ok sc (fun vs H Q E h=>?_) (fun cdv A outer s H vs Q E hr h=>?_)
 ·obtain ⟨v1,v2,d,rfl,_⟩:=h
  rfl
 obtain ⟨v1,v2,d,rfl,r1,r2,hdep,hwid,h⟩:=h
 have hu:=jbi hr
 have hu0 : _ < PySem.cLine:=Nat.lt_of_succ_lt hu
 refine ⟨_,(ja4 (jbf (PW.pt (jls (jb1 (jaa (jcm .lst) rfl B.isinstance PyProof.Rows.boot_isinstance (ja0 (qv 1) (ja0 (jbg (v:=.ty "list") rfl B.list PyProof.Rows.boot_list rfl) ja2)))) (jgu (jb1 (jaa (jcm .tup) rfl B.isinstance PyProof.Rows.boot_isinstance (ja0 (qv 1) (ja0 (jbg (v:=.ty "tuple") rfl B.tuple PyProof.Rows.boot_tuple rfl) ja2))))))) (ja4 (jbf (PW.pt (jek (jc6 (jb1 (jaa (jcm .lst) rfl B.isinstance PyProof.Rows.boot_isinstance (ja0 (qv 0) (ja0 (jbg (v:=.ty "list") rfl B.list PyProof.Rows.boot_list rfl) ja2))))) (jd7 (jc6 (jb1 (jaa (jcm .tup) rfl B.isinstance PyProof.Rows.boot_isinstance (ja0 (qv 0) (ja0 (jbg (v:=.ty "tuple") rfl B.tuple PyProof.Rows.boot_tuple rfl) ja2)))))))) (ja6 (jag jd8)) jai) (ja4 (jbf (PW.pt (jls (jb3 q_ne (jaa (jcm .lst) rfl B.isinstance PyProof.Rows.boot_isinstance (ja0 (qv 0) (ja0 (jbg (v:=.ty "list") rfl B.list PyProof.Rows.boot_list rfl) ja2))) (jaa (jcm .lst) rfl B.isinstance PyProof.Rows.boot_isinstance (ja0 (qv 1) (ja0 (jbg (v:=.ty "list") rfl B.list PyProof.Rows.boot_list rfl) ja2))) (jap _)) (jgu (jb3 q_ne (jaa jej rfl B.len PySem.boot_len (ja0 (qv 0) ja2)) (jaa jej rfl B.len PySem.boot_len (ja0 (qv 1) ja2)) (jap _))))) (ja6 (jag jd8)) jai) (ja6 (jag (jaa (q_all rfl) rfl B.all PyProof.Rows.boot_all (ja0 (jbv (CpScope.of (N:=["_law_one","_law_other"]) (src:=[none,none]) (by rfl)) rfl (ji0 rfl B.zip (ja0 (qv 0) (ja0 (qv 1) ja2))) (fun _ _ _ _=>(jbs (n:=2) rfl (jae (jab (i:=0) (jah (l:=["_law_one","_law_other"]) (by rfl)) rfl (Or.inl rfl)) (jae (jab (i:=1) (jah (l:=["_law_one","_law_other"]) (by rfl)) rfl (Or.inl rfl)) jbe)))) (fun _ _ _ _=>jca) (fun _ _ _ _=>(jac G_law_same hr rfl D_law_same.m D_law_same.F.kp D_law_same.b .nil jar (ja0 (qv 0) (ja0 (qv 1) ja2))))) ja2)))))) jai) (ja4 (jbf (jb3 jql (qv 1) jjf (jap _)) (ja6 (jag (jbq jql (qv 0) jjf (jap _)))) jai) (ja4 (jbf (PW.pt (jls (jb1 (jaa (jcm .bl) rfl B.isinstance PyProof.Rows.boot_isinstance (ja0 (qv 1) (ja0 (jbg (v:=.ty "bool") rfl B.bool PyProof.Rows.boot_bool rfl) ja2)))) (jgu (jb1 (jaa (jcm .bl) rfl B.isinstance PyProof.Rows.boot_isinstance (ja0 (qv 0) (ja0 (jbg (v:=.ty "bool") rfl B.bool PyProof.Rows.boot_bool rfl) ja2))))))) (ja6 (jag (jdg (jaa (jcm .bl) rfl B.isinstance PyProof.Rows.boot_isinstance (ja0 (qv 1) (ja0 (jbg (v:=.ty "bool") rfl B.bool PyProof.Rows.boot_bool rfl) ja2))) (jdg (jaa (jcm .bl) rfl B.isinstance PyProof.Rows.boot_isinstance (ja0 (qv 0) (ja0 (jbg (v:=.ty "bool") rfl B.bool PyProof.Rows.boot_bool rfl) ja2))) (jd6 (jbq q_eq (qv 0) (qv 1) (jap _))))))) jai) (ja4 (jbf (jb1 (jaa (jcm .str) rfl B.isinstance PyProof.Rows.boot_isinstance (ja0 (qv 1) (ja0 (jbg (v:=.ty "str") rfl B.str PyProof.Rows.boot_str rfl) ja2)))) (ja6 (jag (jdg (jaa (jcm .str) rfl B.isinstance PyProof.Rows.boot_isinstance (ja0 (qv 0) (ja0 (jbg (v:=.ty "str") rfl B.str PyProof.Rows.boot_str rfl) ja2))) (jd6 (jbq q_eq (qv 0) (qv 1) (jap _)))))) jai) (ja6 (jag (jdg (jaa (jcm .int) rfl B.isinstance PyProof.Rows.boot_isinstance (ja0 (qv 0) (ja0 (jbg (v:=.ty "int") rfl B.int PyProof.Rows.boot_int rfl) ja2))) (jd6 (jbq q_eq (qv 0) (qv 1) (jap _)))))))))),?_⟩
 cases d with
 | non =>
  rw [Rep] at r1 r2
  subst r1 r2
  simp_arith [kd,isi]
  exact h H (Same.refl _)
 | bl b =>
  rw [Rep] at r1 r2
  subst r1 r2
  simp_arith [kd,isi,decide_true]
  exact h H (Same.refl _)
 | int b =>
  rw [Rep] at r1 r2
  subst r1 r2
  simp_arith [kd,isi,decide_true]
  exact h H (Same.refl _)
 | str b =>
  rw [Rep] at r1 r2
  subst r1 r2
  simp_arith [kd,isi,decide_true]
  exact h H (Same.refl _)
 | tup ds =>
  rw [Rep] at r1 r2
  rw [dep] at hdep
  rw [wid] at hwid
  obtain ⟨a1,vs1,rfl,e1,q1⟩:=r1
  obtain ⟨a2,vs2,rfl,e2,q2⟩:=r2
  have l1:=q1.len
  have l2:=q2.len
  simp_arith [kd,isi,e1,e2,jal,l1,l2,decide_true]
  refine jan (Itz false K a1 a2) H (fun R hR=>?_) (fun l hl=>jb2 ds.length (fun i σ' Hc=>∃ w1 w2,σ' = [w1,w2]∧Same H Hc∧Hc l = some (.lst ((List.replicate i true).map V.bl))) ⟨none,none,rfl,ja3 hl _,ja1⟩ ?_ ?_)
  ·unfold jms
   walk_at "RD"
   exact ⟨false,a1,a2,rfl,⟨vs1,SqT.of e1⟩,⟨vs2,SqT.of e2⟩,hR⟩
  ·rintro i σ' Hc hi ⟨w1,w2,rfl,s2,el⟩
   have x1 : vs1[i]? = some (vs1[i]'(by omega)):=List.getElem?_eq_getElem _
   have x2 : vs2[i]? = some (vs2[i]'(by omega)):=List.getElem?_eq_getElem _
   have z1 : SqB false K Hc a1 vs1:=SqT.of (s2 _ _ e1)
   have z2 : SqB false K Hc a2 vs2:=SqT.of (s2 _ _ e2)
   refine ⟨⟨vs1,vs2,_,_,z1,z2,x1,x2⟩,?_⟩
   rintro x H' ⟨t,y1,y2,ht,rfl,rfl,g1,g2⟩
   obtain ⟨d1,hd1,rr1⟩:=q1.at (g1 _ z1)
   obtain ⟨d2,hd2,rr2⟩:=q2.at (g2 _ z2)
   have ed : d1 = d2:=Option.some.inj (hd1.symm.trans hd2)
   subst ed
   have s3 : Same H (upd Hc t (.tup [y1,y2])):=s2.trans (ja3 ht _)
   have b1:=jil hd1
   have b2:=jhn hd1
   simp_arith [ja1]
   refine ⟨y1,y2,d1,rfl,Rep.same s3 _ rr1,Rep.same s3 _ rr2,by omega,by omega,fun H5 s5=>?_⟩
   have el5:=s5 _ _ (ja3 ht _ _ _ el)
   refine ⟨_,el5,?_,_,_,rfl,jao (s3.trans s5) hl,?_⟩
   ·rw [List.length_map,List.length_replicate]
    exact szl' (by omega)
   ·exact congrArg (fun z=>some (HO.lst z)) jg1
  ·rintro σ' Hc ⟨w1,w2,rfl,s2,el⟩
   refine ⟨⟨vs1,vs2,SqT.of (s2 _ _ e1),SqT.of (s2 _ _ e2),.inl (by omega)⟩,?_⟩
   simp_arith [el]
   refine ⟨_,rfl,?_⟩
   rw [jlj]
   exact h Hc s2
 | lst ds =>
  rw [Rep] at r1 r2
  rw [dep] at hdep
  rw [wid] at hwid
  obtain ⟨a1,vs1,rfl,e1,q1⟩:=r1
  obtain ⟨a2,vs2,rfl,e2,q2⟩:=r2
  have l1:=q1.len
  have l2:=q2.len
  simp_arith [kd,isi,e1,e2,jal,l1,l2,decide_true]
  refine jan (Itz true K a1 a2) H (fun R hR=>?_) (fun l hl=>jb2 ds.length (fun i σ' Hc=>∃ w1 w2,σ' = [w1,w2]∧Same H Hc∧Hc l = some (.lst ((List.replicate i true).map V.bl))) ⟨none,none,rfl,ja3 hl _,ja1⟩ ?_ ?_)
  ·unfold jms
   walk_at "RD"
   exact ⟨true,a1,a2,rfl,⟨vs1,SqL.of e1⟩,⟨vs2,SqL.of e2⟩,hR⟩
  ·rintro i σ' Hc hi ⟨w1,w2,rfl,s2,el⟩
   have x1 : vs1[i]? = some (vs1[i]'(by omega)):=List.getElem?_eq_getElem _
   have x2 : vs2[i]? = some (vs2[i]'(by omega)):=List.getElem?_eq_getElem _
   have z1 : SqB true K Hc a1 vs1:=SqL.of (s2 _ _ e1)
   have z2 : SqB true K Hc a2 vs2:=SqL.of (s2 _ _ e2)
   refine ⟨⟨vs1,vs2,_,_,z1,z2,x1,x2⟩,?_⟩
   rintro x H' ⟨t,y1,y2,ht,rfl,rfl,g1,g2⟩
   obtain ⟨d1,hd1,rr1⟩:=q1.at (g1 _ z1)
   obtain ⟨d2,hd2,rr2⟩:=q2.at (g2 _ z2)
   have ed : d1 = d2:=Option.some.inj (hd1.symm.trans hd2)
   subst ed
   have s3 : Same H (upd Hc t (.tup [y1,y2])):=s2.trans (ja3 ht _)
   have b1:=jil hd1
   have b2:=jhn hd1
   simp_arith [ja1]
   refine ⟨y1,y2,d1,rfl,Rep.same s3 _ rr1,Rep.same s3 _ rr2,by omega,by omega,fun H5 s5=>?_⟩
   have el5:=s5 _ _ (ja3 ht _ _ _ el)
   refine ⟨_,el5,?_,_,_,rfl,jao (s3.trans s5) hl,?_⟩
   ·rw [List.length_map,List.length_replicate]
    exact szl' (by omega)
   ·exact congrArg (fun z=>some (HO.lst z)) jg1
  ·rintro σ' Hc ⟨w1,w2,rfl,s2,el⟩
   refine ⟨⟨vs1,vs2,SqL.of (s2 _ _ e1),SqL.of (s2 _ _ e2),.inl (by omega)⟩,?_⟩
   simp_arith [el]
   refine ⟨_,rfl,?_⟩
   rw [jlj]
   exact h Hc s2
end
end My
namespace My
open PySem L2
section
variable {P : Program} {w : World} {K : PySem.W.Frag} {mg : Str→Option Value} {base : Heap} {c1 c2 c3 c4 : Tok}
noncomputable def jdr (H : Hp) (v : V) (ss : List Int) : Prop:=∃ a,v = .ref a∧H a = some (.lst (ss.map V.int))
theorem jdr.same {H H' : Hp} {v : V} {ss : List Int} (h : jdr H v ss) (s : Same H H') : jdr H' v ss:=let ⟨a,e,q⟩:=h; ⟨a,e,s _ _ q⟩
noncomputable def mk (ss : List Int) : List (Key × V):=ss.map fun n=>(Sum.inl n,V.bl true)
theorem jii {α : Type} {f : α→Bool} {l : List α} {i : Nat} {x : α} (h : l[i]? = some x) : (l.take (i + 1)).filter f = (l.take i).filter f ++ (if f x = true then [x] else []):=by
 rw [jaq h,List.filter_append,List.filter_cons]
 rfl
end
end My
namespace My
open PySem L2
section
variable {P : Program} {w : World} {K : PySem.W.Frag} {mg : Str→Option Value} {base : Heap} {c1 c2 c3 c4 : Tok}
noncomputable def nr (n : Int) (t : Int × Int) : List Int:=if t.1 = n then [t.2] else if t.2 = n then [t.1] else []
noncomputable def jbc (ts : List (Int × Int)) (n : Int) : List Int:=ts.flatMap (nr n)
theorem jkb {ts : List (Int × Int)} {j : Nat} {t : Int × Int} (h : ts[j]? = some t) (n : Int) : jbc (ts.take (j + 1)) n = jbc (ts.take j) n ++ nr n t:=by
 unfold jbc
 rw [jaq h,List.flatMap_append]
 simp
theorem jco : ∀ (ts : List (Int × Int)) (n : Int),(jbc ts n).length ≤ ts.length
 | [],n=>by simp [jbc]
 | t :: r,n=>by
  have ih:=jco r n
  have e : jbc (t :: r) n = nr n t ++ jbc r n:=by simp [jbc]
  have e2 : (nr n t).length ≤ 1:=by
   unfold nr
   split
   ·simp
   ·split <;> simp
  rw [e,List.length_append,List.length_cons]
  omega
noncomputable def kz : List (Int × Int)→List Addr→List (Key × V)
 | p :: r,a :: s=>(Sum.inl p.1,V.ref a) :: kz r s
 | _,_=>[]
theorem jmf : ∀ {ps : List (Int × Int)} {as : List Addr} {p : Int × Int} {a : Addr},ps.length = as.length→kz (ps ++ [p]) (as ++ [a]) = kz ps as ++ [(Sum.inl p.1,V.ref a)]
 | [],[],_,_,_=>rfl
 | [],_ :: _,_,_,h=>by simp at h
 | _ :: _,[],_,_,h=>by simp at h
 | q :: r,b :: s,p,a,h=>by
  have ih:=jmf (ps:=r) (as:=s) (p:=p) (a:=a) (by simpa using h)
  show (Sum.inl q.1,V.ref b) :: kz (r ++ [p]) (s ++ [a]) = _
  rw [ih]
  rfl
theorem jf4 : ∀ {ps : List (Int × Int)} {as : List Addr},ps.length = as.length→(kz ps as).map (·.1) = ps.map fun p=>(Sum.inl p.1 : Key)
 | [],[],_=>rfl
 | [],_ :: _,h=>by simp at h
 | _ :: _,[],h=>by simp at h
 | q :: r,b :: s,h=>by
  show (Sum.inl q.1 : Key) :: (kz r s).map (·.1) = _
  rw [jf4 (by simpa using h)]
  rfl
theorem jjn : ∀ {ps : List (Int × Int)} {as : List Addr} {i : Nat} {p : Int × Int} {a : Addr},(ps.map (·.1)).Nodup→ps[i]? = some p→as[i]? = some a→valV (kz ps as) (Sum.inl p.1 : Key) = some (.ref a)
 | [],_,i,_,_,_,h,_=>by simp at h
 | _ :: _,[],i,_,_,_,_,h=>by simp at h
 | q :: r,b :: s,i,p,a,hn,h1,h2=>by
  rw [List.map_cons] at hn
  unfold valV
  show Option.map _ (List.find? _ ((Sum.inl q.1,V.ref b) :: kz r s)) = _
  rw [List.find?_cons]
  cases i with
  | zero =>
   simp at h1 h2
   subst h1 h2
   simp
  | succ i =>
   have hp : p ∈ r:=List.mem_of_getElem? (by simpa using h1)
   have hne : q.1 ≠ p.1:=fun z=>(List.nodup_cons.mp hn).1 (by rw [z]; exact List.mem_map_of_mem hp)
   have hd : decide ((Sum.inl q.1 : Key) = Sum.inl p.1) = false:=decide_eq_false fun z=>hne (Sum.inl.inj z)
   dsimp only
   rw [hd]
   exact jjn (List.nodup_cons.mp hn).2 (i:=i) (by simpa using h1) (by simpa using h2)
theorem jeb {ps : List (Int × Int)} {n : Int} (h : hasK (jdl ps) n = true) : ∃ (i : Nat) (p : Int × Int),ps[i]? = some p∧p.1 = n:=by
 unfold hasK valV jdl at h
 rw [Option.isSome_map,List.find?_isSome] at h
 obtain ⟨kv,hm,he⟩:=h
 obtain ⟨p,hp,e⟩:=List.mem_map.mp hm
 subst e
 obtain ⟨i,hi,e2⟩:=List.mem_iff_getElem.mp hp
 refine ⟨i,p,by rw [List.getElem?_eq_getElem hi,e2],?_⟩
 exact Sum.inl.inj (of_decide_eq_true he)
theorem TiOk.at {kvs : List (Key × V)} : ∀ {ts : List (Int × Int)} {q : Int × Int},TiOk kvs q ts→∀ t ∈ ts,t.1 < t.2∧hasK kvs t.1 = true∧hasK kvs t.2 = true
 | [],_,_,_,h=>by cases h
 | p :: r,q,h,t,ht=>by
  rcases List.mem_cons.mp ht with e | ht
  ·rw [e]; exact ⟨h.1.2.1,h.1.2.2.1,h.1.2.2.2⟩
  ·exact TiOk.at h.2 t ht
noncomputable def jnr (H : Hp) (ps ts : List (Int × Int)) (as : List Addr) : Prop:=∀ (i : Nat) (p : Int × Int) (a : Addr),ps[i]? = some p→as[i]? = some a→H a = some (.lst ((jbc ts p.1).map V.int))
noncomputable def jei : Sp:=fun vs H Q _=>∃ v ps ts,vs = [v]∧jbr H v ps ts∧WebOk ps ts∧∀ d as H',H d = none→Same H H'→H' d = some (.dK (kz ps as))→as.length = ps.length→jnr H' ps ts as→Q (.ref d) H'
theorem jea {α : Type} {l : List α} (h : l.Nodup) {i j : Nat} {a b : α} (h1 : l[i]? = some a) (h2 : l[j]? = some b) (hij : i ≠ j) : a ≠ b:=by
 intro e
 subst e
 obtain ⟨p1,q1⟩:=List.getElem?_eq_some_iff.mp h1
 obtain ⟨p2,q2⟩:=List.getElem?_eq_some_iff.mp h2
 exact hij ((List.getElem_inj h).mp (q1.trans q2.symm))
theorem ji1 {f : Addr} {fd : FuncData}  (B : Blt mg) (D : DefAt K mg "nears_in" (top 36) ["web"] f fd) : FnOk P w K mg base CX0 1 f fd ["web"] jei:=by
 have sc : FnScope ["web","nears","one","other"] ["web"] (ja7 (top 36)):=⟨rfl,rfl,rfl,by decide +kernel,rfl,by decide +kernel,by decide +kernel⟩
 refine D.F.ok sc (fun vs H Q E h=>?_) (fun cdv A outer s H vs Q E hr h=>?_)
 ·obtain ⟨v,ps,ts,rfl,_⟩:=h
  rfl
 obtain ⟨v,ps,ts,rfl,hw,wok,h⟩:=h
 obtain ⟨x,pa,ta,xs,ys,rfl,ex,ep,et,pp,pt⟩:=id hw
 have hlx : xs.length = ps.length:=Paired.length pp
 have hly : ys.length = ts.length:=Paired.length pt
 have okl:=wok.pl
 have okt:=wok.tl
 have hnd:=wok.p.nodup
 have hu:=jbi hr
 have hu0 : _ < PySem.cLine:=Nat.lt_of_succ_lt hu
 refine ⟨_,(ja4 (jaj (i:=1) sc.nd rfl (Or.inl rfl) (jcc (jlq rfl) rfl B.dict PyProof.Rows.boot_dict (ja0 (jbv (CpScope.of (N:=["place","price"]) (src:=[none,none]) (by rfl)) rfl (jb7 (jaf q_ix (qv 0) ja5 (fun _ _=>rfl))) (fun _ _ _ _=>(jbs (n:=2) rfl (jae (jab (i:=0) (jah (l:=["place","price"]) (by rfl)) rfl (Or.inl rfl)) (jae (jab (i:=1) (jah (l:=["place","price"]) (by rfl)) rfl (Or.inl rfl)) jbe)))) (fun _ _ _ _=>jca) (fun _ _ _ _=>(jb4 (ja0 (qv 0) (ja0 (jas ja2) ja2))))) ja2))) (ja4 (jbl PassesOwn.never rfl (jb7 (jaf q_ix (qv 0) ja5 (fun _ _=>rfl))) (jbs (n:=2) rfl (jae (jab (i:=2) sc.nd rfl (Or.inl rfl)) (jae (jab (i:=3) sc.nd rfl (Or.inl rfl)) jbe))) (ja4 (jbm (q_bm PySem.F.plainAttrs_list PySem.F.slot_list_append PySem.F.type_list_append jc4 (jpo hu (qv 1) (qv 2) (fun _ _=>rfl)) (ja0 (qv 3) ja2))) (ja6 (jbm (q_bm PySem.F.plainAttrs_list PySem.F.slot_list_append PySem.F.type_list_append jc4 (jpo hu (qv 1) (qv 3) (fun _ _=>rfl)) (ja0 (qv 2) ja2)))))) (ja6 (jag (qv 1))))),?_⟩
 walk_at "RD"
 refine jan (Itl K pa) H (fun R hR=>?_) (fun l hl0=>jb2 ps.length (fun i σ' Hc=>∃ w1 w2 zs as,σ' = [w1,w2]∧Same H Hc∧Hc l = some (.lst zs)∧as.length = i∧as.Nodup∧(∀ a ∈ as,H a = none∧a ≠ l∧Hc a = some (.lst []))∧Paired (PairAt Hc) zs (kz (ps.take i) as)) ⟨none,none,[],[],rfl,ja3 hl0 _,ja1,rfl,List.nodup_nil,(fun _ h=>by cases h),.nil⟩ ?_ ?_)
 ·unfold jcb
  simp_arith [jal,ex,at0]
  exact ⟨pa,rfl,⟨_,SqL.of ep⟩,hR⟩
 ·rintro i σ' Hc hi ⟨w1,w2,zs,as,rfl,s2,ez,hla,nda,ha,pz⟩
  have x1 : xs[i]? = some (xs[i]'(by omega)):=List.getElem?_eq_getElem _
  have z1 : SqL K Hc pa xs:=SqL.of (s2 _ _ ep)
  have hlt : (ps.take i).length = as.length:=by rw [List.length_take]; omega
  have hlz : zs.length = (kz (ps.take i) as).length:=Paired.length pz
  have hlz2 : zs.length ≤ i:=by
   have e:=congrArg List.length (jf4 hlt)
   rw [List.length_map,List.length_map] at e
   omega
  refine ⟨⟨_,_,z1,x1⟩,?_⟩
  rintro y H' ⟨rfl,hy⟩
  obtain ⟨q,hq,pq⟩:=jad pp (hy _ z1)
  obtain ⟨t,rfl,ht⟩:=pq.same s2
  simp_arith [ht]
  intro a1 ha1 t2 ht2
  have na1 : a1 ≠ l:=fun z=>by rw [z,ez] at ha1; cases ha1
  have nt2 : t2 ≠ a1:=fun z=>by rw [z,ja1] at ht2; cases ht2
  have s3:=ja3 ha1 (.lst [])
  have s4:=ja3 ht2 (.tup [.int q.1,.ref a1])
  have ez2:=s4 _ _ (s3 _ _ ez)
  have t6:=jcw (ys:=zs ++ [.ref t2]) ez2
  refine ⟨zs,ez2,szl' (by omega),_,_,zs ++ [.ref t2],as ++ [a1],rfl,jao (s2.trans (s3.trans s4)) hl0,(by first | rfl | exact ja1),(by rw [List.length_append,hla]; rfl),?_,?_,?_⟩
  ·rw [List.nodup_append]
   refine ⟨nda,(by simp),fun a hm b hb=>?_⟩
   have hb' : b = a1:=by simpa using hb
   intro z
   rw [hb'] at z
   have:=(ha a hm).2.2
   rw [z,ha1] at this
   cases this
  ·intro a hm
   rcases List.mem_append.mp hm with hm | hm
   ·obtain ⟨q1,q2,q3⟩:=ha a hm
    refine ⟨q1,q2,?_⟩
    rw [ja8 q2]
    exact s4 _ _ (s3 _ _ q3)
   ·have e : a = a1:=by simpa using hm
    subst e
    refine ⟨s2.free ha1,na1,?_⟩
    rw [ja8 na1]
    exact s4 _ _ ja1
  ·rw [jaq hq,jmf hlt]
   refine jaz (Paired.mapP pz fun v p q=>?_) ⟨t2,rfl,t6 _ _ rfl ja1⟩
   obtain ⟨b,e,q⟩:=q
   exact ⟨b,e,t6 _ _ rfl (s4 _ _ (s3 _ _ q))⟩
 rintro σ' Hc ⟨w1,w2,zs,as,rfl,s2,ez,hla,nda,ha,pz⟩
 refine ⟨⟨_,SqL.of (s2 _ _ ep),by omega⟩,?_⟩
 rw [List.take_length] at pz
 have hlz : zs.length = (kz ps as).length:=Paired.length pz
 have hkk:=jf4 (ps:=ps) (as:=as) hla.symm
 have hlz2 : zs.length = ps.length:=by
  have e:=congrArg List.length hkk
  rw [List.length_map,List.length_map] at e
  omega
 simp_arith [ez]
 refine ⟨kz ps as,pz,by omega,?_,fun d hd=>?_⟩
 ·rw [hkk]
  have hnd2:=hnd
  unfold List.Nodup at hnd2 ⊢
  rw [List.pairwise_map] at hnd2 ⊢
  exact hnd2.imp fun q z=>q (Sum.inl.inj z)
 have s3:=ja3 hd (.dK (kz ps as))
 have ed : upd Hc d (.dK (kz ps as)) d = some (.dK (kz ps as)):=ja1
 have hd0:=s2.free hd
 have ha3 : ∀ a ∈ as,H a = none∧a ≠ d∧upd Hc d (.dK (kz ps as)) a = some (.lst []):=fun a hm=>by
  obtain ⟨q1,q2,q3⟩:=ha a hm
  exact ⟨q1,ja9 q3 hd,s3 _ _ q3⟩
 have s23:=s2.trans s3
 generalize upd Hc d (.dK (kz ps as)) = H2 at s23 ed ha3
 clear s3 s2 ez pz ha hlz hd
 refine jb9 (Itl K ta) H2 (fun R hR=>?_) (jbx (K:=K) (a:=ta) (xs:=ys) (fun j σ H3=>∃ v1 v2,σ = [some (.ref x),some (.ref d),v1,v2]∧Same H H3∧H3 d = some (.dK (kz ps as))∧jnr H3 ps (ts.take j) as) ⟨none,none,rfl,s23,ed,fun i p a _ h2=>(ha3 a (List.mem_of_getElem? h2)).2.2⟩ (fun i σ H3 _ ⟨_,_,_,s3,_⟩=>SqL.of (s3 _ _ et)) ?_ ?_)
 ·unfold jcb
  simp_arith [jal,s23 _ _ ex,at1]
  exact ⟨ta,rfl,⟨_,SqL.of (s23 _ _ et)⟩,hR⟩
 ·rintro j y σ H3 hj ⟨v1,v2,rfl,s3,ed3,hN⟩
  obtain ⟨q,hq,pq⟩:=jad pt hj
  obtain ⟨t,rfl,ht⟩:=pq.same s3
  obtain ⟨b1,b2,b3⟩:=wok.t.at q (List.mem_of_getElem? hq)
  obtain ⟨i1,p1,g1,e1⟩:=jeb b2
  obtain ⟨i2,p2,g2,e2⟩:=jeb b3
  have hi1 : i1 < as.length:=by have:=(List.getElem?_eq_some_iff.mp g1).1; omega
  have hi2 : i2 < as.length:=by have:=(List.getElem?_eq_some_iff.mp g2).1; omega
  have A1 : as[i1]? = some as[i1]:=List.getElem?_eq_getElem hi1
  have A2 : as[i2]? = some as[i2]:=List.getElem?_eq_getElem hi2
  generalize as[i1] = a1 at A1
  generalize as[i2] = a2 at A2
  have V1:=jjn hnd g1 A1
  have V2:=jjn hnd g2 A2
  have n12 : i1 ≠ i2:=fun z=>by rw [z,g2] at g1; cases g1; omega
  have na : a1 ≠ a2:=jea nda A1 A2 n12
  rw [e1] at V1
  rw [e2] at V2
  have M1:=hN i1 p1 a1 g1 A1
  have M2:=hN i2 p2 a2 g2 A2
  have hlj : ∀ n,(jbc (ts.take j) n).length ≤ 120:=fun n=>Nat.le_trans (jco _ _) (by rw [List.length_take]; omega)
  have nd1 : d ≠ a1:=((ha3 a1 (List.mem_of_getElem? A1)).2.1).symm
  have nd2 : d ≠ a2:=((ha3 a2 (List.mem_of_getElem? A2)).2.1).symm
  simp_arith [ht,ed3,V1]
  refine ⟨⟨a1,_,rfl,M1⟩,?_⟩
  simp_arith [M1]
  refine ⟨szl' (by rw [List.length_map]; have:=hlj p1.1; omega),?_⟩
  simp_arith [ja8 nd1,ed3,V2]
  refine ⟨⟨a2,_,rfl,(by rw [ja8 na.symm]; exact M2)⟩,?_⟩
  simp_arith [ja8 na.symm,M2]
  refine ⟨szl' (by rw [List.length_map]; have:=hlj p2.1; omega),_,_,rfl,?_,?_,?_⟩
  ·intro b o hb
   rw [ja8 (ja9 hb (ha3 a2 (List.mem_of_getElem? A2)).1),ja8 (ja9 hb (ha3 a1 (List.mem_of_getElem? A1)).1)]
   exact s3 b o hb
  ·rw [ja8 nd2,ja8 nd1]
   exact ed3
  ·intro i p a hp ha'
   rw [jkb hq,List.map_append]
   have hpe : ∀ {k : Nat} {r : Int × Int},ps[k]? = some r→r.1 = p.1→k = i:=fun {k r} hr he=>by
    have h1 : (ps.map (·.1))[k]? = some r.1:=by rw [List.getElem?_map,hr]; rfl
    have h2 : (ps.map (·.1))[i]? = some p.1:=by rw [List.getElem?_map,hp]; rfl
    by_cases z : k = i
    ·exact z
    ·exact absurd he (jea hnd h1 h2 z)
   by_cases c2 : i = i2
   ·subst c2
    rw [g2] at hp
    cases hp
    rw [A2] at ha'
    cases ha'
    have e3 : nr p2.1 q = [q.1]:=by
     unfold nr
     rw [if_neg (by omega),if_pos e2.symm]
    rw [ja1,e3]
    rfl
   by_cases c1 : i = i1
   ·subst c1
    rw [g1] at hp
    cases hp
    rw [A1] at ha'
    cases ha'
    have e3 : nr p1.1 q = [q.2]:=by
     unfold nr
     rw [if_pos e1.symm]
    rw [ja8 na,ja1,e3]
    rfl
   have n1 : a ≠ a1:=jea nda ha' A1 c1
   have n2 : a ≠ a2:=jea nda ha' A2 c2
   have e3 : nr p.1 q = []:=by
    unfold nr
    rw [if_neg (fun z=>c1 (hpe g1 (e1.trans z)).symm),if_neg (fun z=>c2 (hpe g2 (e2.trans z)).symm)]
   rw [ja8 n2,ja8 n1,e3,List.map_nil,List.append_nil]
   exact hN i p a hp ha'
 ·rintro σ H3 ⟨v1,v2,rfl,s3,ed3,hN⟩
  rw [hly,List.take_length] at hN
  walk_at "RD"
  exact h d as H3 hd0 s3 ed3 hla hN
end
end My
namespace My
open PySem L2
section
variable {P : Program} {w : World} {K : PySem.W.Frag} {mg : Str→Option Value} {base : Heap} {c1 c2 c3 c4 : Tok}
theorem Dr.pl : ∀ {ps : List (Int × Int)} {l s : Int},Dr l ps→l + 23 * ps.length ≤ 999→s + 1000000000 * ps.length ≤ 1000000000000→PlOk l s ps
 | [],_,_,_,_,_=>trivial
 | p :: r,l,s,h,h1,h2=>by
  have e : ((p :: r).length : Int) = r.length + 1:=by simp
  rw [e] at h1 h2
  obtain ⟨⟨a1,a2,a3,a4⟩,h3⟩:=h
  exact ⟨⟨a1,by omega,a3,by omega⟩,Dr.pl h3 (by omega) (by omega)⟩
theorem Dr.gt : ∀ {ps : List (Int × Int)} {l : Int},Dr l ps→∀ p ∈ ps,l < p.1
 | [],_,_,_,h=>by cases h
 | q :: r,l,h,p,hp=>by
  rcases List.mem_cons.mp hp with e | hp
  ·rw [e]; exact h.1.1
  ·have:=Dr.gt h.2 p hp
   have:=h.1.1
   omega
theorem Dr.rise : ∀ {ps : List (Int × Int)} {l : Int},Dr l ps→∀ (i j : Nat) (p q : Int × Int),i < j→ps[i]? = some p→ps[j]? = some q→p.1 < q.1
 | [],_,_,i,j,p,q,_,h,_=>by simp at h
 | r :: rs,l,h,i,j,p,q,hij,hi,hj=>by
  cases j with
  | zero=>omega
  | succ j =>
   have hj' : rs[j]? = some q:=by simpa using hj
   cases i with
   | zero =>
    have e : r = p:=by simpa using hi
    subst e
    exact Dr.gt h.2 q (List.mem_of_getElem? hj')
   | succ i=>exact Dr.rise h.2 i j p q (by omega) (by simpa using hi) hj'
theorem lex_lt {a b c d : Int} (h : a < c) : HT.lexLt [a,b] [c,d] = true:=by
 rw [HT.lexLt_cons,if_neg (by omega)]
 exact decide_eq_true h
theorem lex_eq {a b d : Int} (h : b < d) : HT.lexLt [a,b] [a,d] = true:=by
 rw [HT.lexLt_cons,if_pos rfl,HT.lexLt_cons,if_neg (by omega)]
 exact decide_eq_true h
noncomputable def jh7 (q : Int × Int) : List (Int × Int)→Int × Int
 | []=>q
 | p :: r=>jh7 p r
theorem jfs : ∀ {ts : List (Int × Int)} {q p : Int × Int},jh7 q (ts ++ [p]) = p
 | [],_,_=>rfl
 | t :: r,_,_=>jfs (ts:=r)
theorem TiOk.snoc {kvs : List (Key × V)} : ∀ {ts : List (Int × Int)} {q p : Int × Int},TiOk kvs q ts→(HT.lexLt [(jh7 q ts).1,(jh7 q ts).2] [p.1,p.2] = true∧p.1 < p.2∧hasK kvs p.1 = true∧hasK kvs p.2 = true)→TiOk kvs q (ts ++ [p])
 | [],_,_,_,h=>⟨h,trivial⟩
 | t :: r,_,_,h,h2=>⟨h.1,TiOk.snoc h.2 h2⟩
theorem PlOk.rise : ∀ {ps : List (Int × Int)} {l s : Int},PlOk l s ps→∀ (i j : Nat) (p q : Int × Int),i < j→ps[i]? = some p→ps[j]? = some q→p.1 < q.1
 | [],_,_,_,i,j,p,q,_,h,_=>by simp at h
 | r :: rs,l,s,h,i,j,p,q,hij,hi,hj=>by
  cases j with
  | zero=>omega
  | succ j =>
   have hj' : rs[j]? = some q:=by simpa using hj
   cases i with
   | zero =>
    have e : r = p:=by simpa using hi
    subst e
    exact PlOk.gt h.2 q (List.mem_of_getElem? hj')
   | succ i=>exact PlOk.rise h.2 i j p q (by omega) (by simpa using hi) hj'
theorem ne_st {H : Hp} {a st : Addr} {xs : List V} {ps : List (Int × Int)} {o : HO} (ha : H a = some (.lst xs)) (pp : Prs H xs ps) (hs : H st = some o) (so : StO o) : a ≠ st:=by
 intro z
 obtain ⟨c,s,f,e,_⟩:=so
 rw [z,hs,e] at ha
 cases ha
 cases pp with
 | cons r _=>obtain ⟨t,e,_⟩:=r; cases e
theorem jbr.but {H H' : Hp} {st : Addr} {o : HO} {v : V} {ps ts : List (Int × Int)} (h : jbr H v ps ts) (hs : H st = some o) (so : StO o) (b : But st H H') : jbr H' v ps ts:=by
 obtain ⟨u,pa,ta,xs,ys,e,h1,h2,h3,h4,h5⟩:=h
 have t:=b.tups hs so.imm
 exact ⟨u,pa,ta,xs,ys,e,t _ _ rfl h1,b _ _ (ne_st h2 h4 hs so) h2,b _ _ (ne_st h3 h5 hs so) h3,Prs.tups t h4,Prs.tups t h5⟩
noncomputable def jpf : Sp:=fun vs H Q _=>∃ s o m,vs = [.ref s,.int m]∧H s = some o∧StO o∧0 ≤ m∧m ≤ 9 ∧
 ∀ v H' o' ps ts,But s H H'→H' s = some o'→StO o'→jbr H' v ps ts→WebOk ps ts→Dr (-1) ps→(ps.length : Int) ≤ m→Q v H'
theorem jpv {ps : List (Int × Int)} (hn : (ps.map (·.1)).Nodup) {i : Nat} {p : Int × Int} (h : ps[i]? = some p) : hasK (jdl ps) p.1 = true:=jrd hn (List.mem_of_getElem? h)
theorem jk9 {f : Addr} {fd : FuncData} {f_law_take : Addr} {d_law_take : FuncData} {f_law_places : Addr} {d_law_places : FuncData} (B : Blt mg) (D : DefAt K mg "_law_web" (top 55) ["_law_state","_law_most"] f fd) (D_law_take : DefAt K mg "_law_take" (top 53) ["_law_state","_law_many"] f_law_take d_law_take) (G_law_take : FnOk P w K mg base CX0 1 f_law_take d_law_take ["_law_state","_law_many"] jj1) (D_law_places : DefAt K mg "_law_places" (top 54) ["_law_state","_law_count"] f_law_places d_law_places) (G_law_places : FnOk P w K mg base CX0 2 f_law_places d_law_places ["_law_state","_law_count"] jj3) : FnOk P w K mg base CX0 3 f fd ["_law_state","_law_most"] jpf:=by
 have sc : FnScope ["_law_state","_law_most","_law_count","_law_places_here","_law_dense","_law_ties","_law_k","_law_j"] ["_law_state","_law_most"] (ja7 (top 55)):=⟨rfl,rfl,rfl,by decide +kernel,rfl,by decide +kernel,by decide +kernel⟩
 refine D.F.ok sc (fun vs H Q E h=>?_) (fun cdv A outer s H vs Q E hr h=>?_)
 ·obtain ⟨s,o,m,rfl,_⟩:=h
  rfl
 obtain ⟨st,o,m,rfl,es,so,m0,m1,h⟩:=h
 have hu:=jbi hr
 have hu0 : _ < PySem.cLine:=Nat.lt_of_succ_lt hu
 refine ⟨_,(ja4 (jaj (i:=2) sc.nd rfl (Or.inl rfl) (jac G_law_take (hr.mono (by decide)) rfl D_law_take.m D_law_take.F.kp D_law_take.b .nil jar (ja0 (qv 0) (ja0 (jaw jd1 (qv 1) ja5) ja2)))) (ja4 (jaj (i:=3) sc.nd rfl (Or.inl rfl) (jac G_law_places (hr.mono (by decide)) rfl D_law_places.m D_law_places.F.kp D_law_places.b .nil jar (ja0 (qv 0) (ja0 (qv 2) ja2)))) (ja4 (jaj (i:=4) sc.nd rfl (Or.inl rfl) (jaw jd1 ja5 (jac G_law_take (hr.mono (by decide)) rfl D_law_take.m D_law_take.F.kp D_law_take.b .nil jar (ja0 (qv 0) (ja0 ja5 ja2))))) (ja4 (jaj (i:=5) sc.nd rfl (Or.inl rfl) (jas ja2)) (ja4 (jbl PassesOwn.never rfl (jdh rfl B.range (ja0 (qv 2) ja2)) (jab (i:=6) sc.nd rfl (Or.inl rfl)) (ja6 (jbl PassesOwn.never rfl (jlv rfl B.range (ja0 (jaw jd1 (qv 6) ja5) (ja0 (qv 2) ja2))) (jab (i:=7) sc.nd rfl (Or.inl rfl)) (ja6 (jbf (jb3 q_lt (jac G_law_take (hr.mono (by decide)) rfl D_law_take.m D_law_take.F.kp D_law_take.b .nil jar (ja0 (qv 0) (ja0 ja5 ja2))) (qv 4) (jap _)) (ja6 (jbm (q_bm PySem.F.plainAttrs_list PySem.F.slot_list_append PySem.F.type_list_append jc4 (qv 5) (ja0 (jb4 (ja0 (jaf q_ix (jaf q_ix (qv 3) (qv 6) (fun _ _=>rfl)) ja5 (fun _ _=>rfl)) (ja0 (jaf q_ix (jaf q_ix (qv 3) (qv 7) (fun _ _=>rfl)) ja5 (fun _ _=>rfl)) ja2))) ja2)))) jai))))) (ja6 (jag (jb4 (ja0 (qv 3) (ja0 (qv 5) ja2)))))))))),?_⟩
 walk_at "RD"
 refine ⟨st,o,m + 1,rfl,es,so,by omega,by omega,fun n o1 n0 n1 so1=>?_⟩
 walk_at "RD"
 refine ⟨st,o1,n,rfl,ja1,so1,n0,by omega,fun r HA oA xs ps hr0 bA eA soA er pp hlen dr=>?_⟩
 walk_at "RD"
 refine ⟨st,oA,4,rfl,eA,soA,by decide,by decide,fun dn oB d0 d1 soB=>?_⟩
 have nr : r ≠ st:=fun z=>by rw [z,ja1] at hr0; cases hr0
 have hr1 : H r = none:=by rw [← hr0,ja8 nr]
 have bB : But st H (upd HA st oB):=((But.at st H o1).trans bA).trans (But.at st HA oB)
 have tB : TupS HA (upd HA st oB):=(But.at st HA oB).tups eA soA.imm
 have erB : upd HA st oB r = some (.lst xs):=by rw [ja8 nr]; exact er
 have eB : upd HA st oB st = some oB:=ja1
 have pB : Prs (upd HA st oB) xs ps:=Prs.tups tB pp
 generalize upd HA st oB = HB at bB erB eB pB
 clear tB pp er eA bA soA
 have hpl : ps.length ≤ 10:=by omega
 have plok:=dr.pl (s:=0) (by omega) (by omega)
 have hnd:=plok.nodup
 have hlx : xs.length = ps.length:=Paired.length pB
 have rise:=dr.rise
 walk_at "RD"
 intro tl htl
 have ntl : tl ≠ st:=(ja9 eB htl).symm
 have nrt : r ≠ tl:=ja9 erB htl
 have htl0 : H tl = none:=by
  cases q : H tl with
  | none=>rfl
  | some u=>rw [bB _ _ ntl q] at htl; cases htl
 refine jb9 (Itr 0 ps.length) (upd HB tl (.lst [])) (fun R hR=>?_) (jcs (n:=ps.length) (fun k σ H1=>∃ kk jj zs ts o',σ = [some (.ref st),some (.int m),some (.int n),some (.ref r),some (.int (1 + dn)),some (.ref tl),kk,jj]∧But st H H1∧H1 st = some o'∧StO o'∧H1 r = some (.lst xs)∧Prs H1 xs ps∧H1 tl = some (.lst zs)∧Prs H1 zs ts∧TiOk (jdl ps) (-1,-1) ts∧(∀ (j : Nat) (p : Int × Int),k ≤ j→ps[j]? = some p→(jh7 (-1,-1) ts).1 < p.1)∧ts.length ≤ k * 10) ?_ ?_ ?_)
 ·unfold jol
  walk_at "RD"
  exact ⟨n,rfl,by omega,by omega,by rw [← hlen]; exact hR⟩
 ·refine ⟨none,none,[],[],oB,rfl,bB.trans (But.new htl),by rw [ja8 ntl.symm]; exact eB,soB,by rw [ja8 nrt]; exact erB,Prs.tups (jdd htl) pB,ja1,.nil,trivial,fun j p _ hp=>?_,by simp⟩
  have:=dr.gt p (List.mem_of_getElem? hp)
  exact this
 ·rintro k σ H1 hk ⟨kk,jj,zs,ts,o',rfl,b1,e1,so',er1,pp1,etl,pz,tok,hlast,htn⟩
  have xk : ps[k]? = some ps[k]:=List.getElem?_eq_getElem hk
  generalize ps[k] = pk at xk
  walk_at "RD"
  refine jb9 (Itr (0 + (k : Int) + 1) (ps.length - (k + 1))) H1 (fun R hR=>?_) (jcs (n:=ps.length - (k + 1)) (fun i σ H2=>∃ jj zs ts o',σ = [some (.ref st),some (.int m),some (.int n),some (.ref r),some (.int (1 + dn)),some (.ref tl),some (.int (0 + (k : Int))),jj]∧But st H H2∧H2 st = some o'∧StO o'∧H2 r = some (.lst xs)∧Prs H2 xs ps∧H2 tl = some (.lst zs)∧Prs H2 zs ts∧TiOk (jdl ps) (-1,-1) ts∧((jh7 (-1,-1) ts).1 < pk.1 ∨ ((jh7 (-1,-1) ts).1 = pk.1∧∀ (j : Nat) (p : Int × Int),k + 1 + i ≤ j→ps[j]? = some p→(jh7 (-1,-1) ts).2 < p.1))∧ts.length ≤ k * 10 + i) ?_ ?_ ?_)
  ·unfold iRng2
   walk_at "RD"
   refine ⟨_,_,rfl,⟨by omega,by omega,by omega,by omega⟩,?_⟩
   have e : (n - (0 + (k : Int) + 1)).toNat = ps.length - (k + 1):=by omega
   rw [e]
   exact hR
  ·exact ⟨jj,zs,ts,o',rfl,b1,e1,so',er1,pp1,etl,pz,tok,.inl (hlast k pk (Nat.le_refl _) xk),by omega⟩
  ·rintro i σ H2 hi ⟨jj2,zs2,ts2,o2,rfl,b2,e2,so2,er2,pp2,etl2,pz2,tok2,hl2,htn2⟩
   have hj : k + 1 + i < ps.length:=by omega
   have xj : ps[k + 1 + i]? = some ps[k + 1 + i]:=List.getElem?_eq_getElem hj
   generalize ps[k + 1 + i] = pj at xj
   have hkj:=rise k (k + 1 + i) pk pj (by omega) xk xj
   walk_at "RD"
   refine ⟨st,o2,5,rfl,e2,so2,by decide,by decide,fun d3 o3 d30 d31 so3=>?_⟩
   have b3 : But st H2 (upd H2 st o3):=But.at _ _ _
   have t3 : TupS H2 (upd H2 st o3):=b3.tups e2 so2.imm
   have er3:=b3 _ _ nr er2
   have etl3:=b3 _ _ ntl etl2
   have e3 : upd H2 st o3 st = some o3:=ja1
   generalize upd H2 st o3 = H3 at b3 t3 er3 etl3 e3
   walk_at "RD"
   refine ite2 (fun c=>?_) (fun c=>?_)
   ·obtain ⟨uk,gk,hgk⟩:=jbt pp2 xk
    obtain ⟨uj,gj,hgj⟩:=jbt pp2 xj
    obtain ⟨tk,ek,hk3⟩:=hgk.tups t3
    obtain ⟨tj,ej,hj3⟩:=hgj.tups t3
    have ak : atI xs (0 + (k : Int)) = some (.ref tk):=by rw [Int.zero_add,← ek]; exact jcl gk
    have aj : atI xs (0 + (k : Int) + 1 + (i : Int)) = some (.ref tj):=by
     rw [show 0 + (k : Int) + 1 + (i : Int) = ((k + 1 + i : Nat) : Int) by omega,← ej]
     exact jcl gj
    refine ⟨⟨tl,_,rfl,etl3⟩,?_⟩
    simp_arith [jal,er3,ak,aj,hk3,hj3,at0]
    intro t ht
    have etl4:=ja3 ht (.tup [.int pk.1,.int pj.1]) _ _ etl3
    simp_arith [etl4]
    have t6:=jcw (ys:=zs2 ++ [.ref t]) etl4
    have nst : st ≠ tl:=ntl.symm
    have hz2 : zs2.length = ts2.length:=Paired.length pz2
    refine ⟨szl' (by omega),_,zs2 ++ [.ref t],ts2 ++ [(pk.1,pj.1)],o3,rfl,fun b u nb q=>?_,?_,so3,?_,Prs.tups ((t3.trans (jdd ht)).trans t6) pp2,(by first | rfl | exact ja1),jaz (Prs.tups ((t3.trans (jdd ht)).trans t6) pz2) (Pr.tups ⟨t,rfl,ja1⟩ t6),?_,?_,?_⟩
    ·have q3:=b3 _ _ nb (b2 _ _ nb q)
     rw [ja8 (ja9 q htl0),ja8 (ja9 q3 ht)]
     exact q3
    ·rw [ja8 nst,ja8 (ja9 e3 ht)]
     exact e3
    ·rw [ja8 nrt,ja8 (ja9 er3 ht)]
     exact er3
    ·refine tok2.snoc ⟨?_,hkj,(show hasK _ pk.1 = true from jpv hnd xk),(show hasK _ pj.1 = true from jpv hnd xj)⟩
     rcases hl2 with q | ⟨q1,q2⟩
     ·exact lex_lt q
     ·rw [q1]
      exact lex_eq (q2 _ pj (Nat.le_refl _) xj)
    ·rw [jfs]
     exact .inr ⟨rfl,fun j p hj2 hp=>rise _ _ pj p (by omega) xj hp⟩
    ·rw [List.length_append]
     show _ + 1 ≤ _
     omega
   ·refine ⟨_,zs2,ts2,o3,rfl,b2.trans b3,e3,so3,er3,Prs.tups t3 pp2,etl3,Prs.tups t3 pz2,tok2,?_,by omega⟩
    rcases hl2 with q | ⟨q1,q2⟩
    ·exact .inl q
    ·exact .inr ⟨q1,fun j p hj2 hp=>q2 j p (by omega) hp⟩
  ·rintro σ H2 ⟨jj2,zs2,ts2,o2,rfl,b2,e2,so2,er2,pp2,etl2,pz2,tok2,hl2,htn2⟩
   refine ⟨_,jj2,zs2,ts2,o2,rfl,b2,e2,so2,er2,pp2,etl2,pz2,tok2,fun j p hj hp=>?_,by omega⟩
   have:=rise k j pk p (by omega) xk hp
   rcases hl2 with q | ⟨q1,_⟩
   ·omega
   ·omega
 ·rintro σ H1 ⟨kk,jj,zs,ts,o',rfl,b1,e1,so',er1,pp1,etl,pz,tok,hlast,htn⟩
  walk_at "RD"
  intro wv hwv
  have s1:=ja3 hwv (.tup [.ref r,.ref tl])
  exact h _ _ o' ps ts (b1.trans (But.new hwv)) (s1 _ _ e1) so' ⟨wv,r,tl,xs,zs,rfl,ja1,s1 _ _ er1,s1 _ _ etl,Prs.same s1 pp1,Prs.same s1 pz⟩ ⟨by omega,plok,by omega,tok⟩ dr (by omega)
end
end My
namespace My
open PySem L2
section
variable {P : Program} {w : World} {K : PySem.W.Frag} {mg : Str→Option Value} {base : Heap} {c1 c2 c3 c4 : Tok}
theorem jhs {ι : Type} {src : List (Option Nat)} {wi : TI} {g : TG} {tc : TT} {te : TE} {Q : VK} {σ : St} {H : Hp} (J : ι→It) (H1 : ι→Hp) (ok : ι→Prop) (h1 : ∀ R : It→Hp→Prop,(∀ p,ok p→R (J p) (H1 p))→wi σ H R)
  (h2 : ∀ p,ok p→∀ l,H1 p l = none→jns (J p) src g tc te Q σ (H1 p) l) : jnw src wi g tc te σ H Q:=h1 _ h2
theorem jr2 : ∀ {ps : List (Int × Int)} {as : List Addr} {i : Nat} {kv : Key × V},as.length = ps.length→(kz ps as)[i]? = some kv→∃ p a,ps[i]? = some p∧as[i]? = some a∧kv = (Sum.inl p.1,.ref a)
 | [],[],i,kv,_,h=>by
  have e : kz [] [] = []:=rfl
  rw [e] at h
  simp at h
 | [],_ :: _,_,_,h,_=>by simp at h
 | p :: ps,[],_,_,h,_=>by simp at h
 | p :: ps,a :: as,0,kv,_,h=>by
  rw [kz] at h
  simp at h
  exact ⟨p,a,rfl,rfl,h.symm⟩
 | p :: ps,a :: as,i + 1,kv,hl,h=>by
  rw [kz,List.getElem?_cons_succ] at h
  have hl' : as.length = ps.length:=by simpa using hl
  obtain ⟨q,b,h1,h2,h3⟩:=jr2 hl' h
  exact ⟨q,b,h1,h2,h3⟩
noncomputable def jb6 (ps ts : List (Int × Int)) (n : Int) : List Int:=(ps.map (·.1)).filter fun one=>decide (one ≤ n) && (jbc ts one).any fun m=>decide (n < m)
noncomputable def NrE (H : Hp) (d : Addr) (ps ts : List (Int × Int)) : Prop:=∃ as,Rd H d (.dK (kz ps as))∧as.length = ps.length∧jnr H ps ts as
noncomputable def NrF (H : Hp) (d : Addr) (ps ts : List (Int × Int)) : Prop:=∃ o as,H d = some (.frz o (.dK (kz ps as)))∧as.length = ps.length∧jnr H ps ts as
theorem NrF.e {H : Hp} {d : Addr} {ps ts : List (Int × Int)} (h : NrF H d ps ts) : NrE H d ps ts:=let ⟨o,as,a,b,c⟩:=h; ⟨as,.inr ⟨o,a⟩,b,c⟩
theorem NrF.same {H H' : Hp} {d : Addr} {ps ts : List (Int × Int)} (h : NrF H d ps ts) (s : Same H H') : NrF H' d ps ts:=let ⟨o,as,a,b,c⟩:=h; ⟨o,as,s _ _ a,b,fun i p q h1 h2=>s _ _ (c i p q h1 h2)⟩
theorem NrE.get {H : Hp} {d : Addr} {ps ts : List (Int × Int)} (h : NrE H d ps ts) (hn : (ps.map (·.1)).Nodup) {n : Int} (m : n ∈ ps.map (·.1)) : ∃ a,DGet H d (.int n) (some (.ref a))∧H a = some (.lst ((jbc ts n).map V.int)):=by
 obtain ⟨as,e,l,nr⟩:=h
 obtain ⟨p,hp,rfl⟩:=List.mem_map.mp m
 obtain ⟨i,hi,e2⟩:=List.mem_iff_getElem.mp hp
 have h1 : ps[i]? = some p:=by rw [List.getElem?_eq_getElem hi,e2]
 have h2 : as[i]? = some (as[i]'(by omega)):=List.getElem?_eq_getElem _
 refine ⟨_,.inl ⟨_,Sum.inl p.1,e,rfl,(jjn hn h1 h2).symm⟩,nr i p _ h1 h2⟩
noncomputable def jlb : Sp:=fun vs H Q _=>∃ d n ps ts,vs = [.ref d,.int n]∧NrE H d ps ts∧(ps.map (·.1)).Nodup∧ps.length ≤ 40∧ts.length ≤ 120 ∧
 ∀ l H',H l = none→l ≠ d→But d H H'→NrF H' d ps ts→(∀ o u,H d = some (.frz o u)→H' d = some (.frz o u))→H' l = some (.lst ((jb6 ps ts n).map V.int))→Q (.ref l) H'
theorem jbu {α : Type} {f : α→Bool} {l : List α} {i : Nat} {x : α} (h : l[i]? = some x) : (l.take (i + 1)).filter f = (l.take i).filter f ++ (if f x = true then [x] else []):=by
 rw [jaq h,List.filter_append,List.filter_cons]
 rfl
theorem jkm (f : Int→Bool) (l : List Int) : (l.map f).any id = l.any f:=by rw [List.any_map]; rfl
theorem jg6 {f : Addr} {fd : FuncData}  (B : Blt mg) (D : DefAt K mg "edge_known" (top 39) ["nears","place"] f fd) : FnOk P w K mg base CX0 1 f fd ["nears","place"] jlb:=by
 have sc : FnScope ["nears","place"] ["nears","place"] (ja7 (top 39)):=⟨rfl,rfl,rfl,by decide +kernel,rfl,by decide +kernel,by decide +kernel⟩
 refine D.F.ok sc (fun vs H Q E h=>?_) (fun cdv A outer s H vs Q E hr h=>?_)
 ·obtain ⟨d,n,ps,ts,rfl,_⟩:=h
  rfl
 obtain ⟨d,n,ps,ts,rfl,nr,hnd,hpl,htl,h⟩:=h
 obtain ⟨as,erd,hla,hnr⟩:=id nr
 have hu:=jbi hr
 have hu0 : _ < PySem.cLine:=Nat.lt_of_succ_lt hu
 refine ⟨_,(ja6 (jag (jbv (CpScope.of (N:=["one","place","nears"]) (src:=[none,some 1,some 0]) (by rfl)) rfl (jo8 (qv 0)) (fun _ _ _ _=>(jab (i:=0) (jah (l:=["one","place","nears"]) (by rfl)) rfl (Or.inl rfl))) (fun _ _ _ _=>(jel (PW.pt (jek (jb3 q_le (qv 0) (qv 1) (jap _)) (jd7 (jb1 (jaa (q_any rfl) rfl B.any PyProof.Rows.boot_any (ja0 (jbv (CpScope.of (N:=["other","place"]) (src:=[none,some 1]) (by rfl)) rfl (jo6 (K:=K) rfl (jen (by exact hu) (qv 2) (qv 0) (fun _ _=>rfl))) (fun _ _ _ _=>(jab (i:=0) (jah (l:=["other","place"]) (by rfl)) rfl (Or.inl rfl))) (fun _ _ _ _=>jca) (fun _ _ _ _=>(jbq q_gt (qv 0) (qv 1) (jap _)))) ja2)))))))) (fun _ _ _ _=>(qv 0))))),?_⟩
 walk_at "RD"
 refine jhs (ι:=Obj × Hp) (fun i0=>Itd d i0.1 (kz ps as)) (fun i0=>i0.2) (fun i0=>But d H i0.2∧i0.2 d = some (.frz i0.1 (.dK (kz ps as)))∧(∀ l,i0.2 l = none→H l = none)∧∀ o u,H d = some (.frz o u)→i0.2 d = some (.frz o u)) (fun R' hR'=>?_) (fun i0 ok0=>?_)
 ·unfold iDctE
  walk_at "RD"
  refine ⟨d,kz ps as,rfl,?_⟩
  rcases erd with e | ⟨o,e⟩
  ·refine .inl ⟨e,fun o=>hR' (o,upd H d (.frz o (.dK (kz ps as)))) ⟨But.at d H _,ja1,fun l hl=>?_,fun o' u q=>by rw [e] at q; cases q⟩⟩
   have hl' : upd H d (.frz o (.dK (kz ps as))) l = none:=hl
   by_cases c : l = d
   ·rw [c,ja1] at hl'; cases hl'
   ·rwa [ja8 c] at hl'
  ·exact .inr ⟨o,e,hR' (o,H) ⟨But.refl _ _,e,fun _ q=>q,fun _ _ q=>q⟩⟩
 obtain ⟨o,H1⟩:=i0
 obtain ⟨b1,ed1,hfr,hfz⟩:=ok0
 dsimp only at b1 ed1 hfr hfz
 have nr1 : NrF H1 d ps ts:=⟨o,as,ed1,hla,fun i p a h1 h2=>b1 _ _ (fun z=>by
  have:=hnr i p a h1 h2
  rw [z] at this
  rcases erd with e | ⟨o',e⟩
  ·rw [e] at this; cases this
  ·rw [e] at this; cases this) (hnr i p a h1 h2)⟩
 have hkl : (kz ps as).length = ps.length:=by
  have e:=congrArg List.length (jf4 hla.symm)
  rwa [List.length_map,List.length_map] at e
 intro z hz
 refine jb2 ps.length (fun i σ' Hc=>∃ w1,σ' = [w1,some (.int n),some (.ref d)]∧Same H1 Hc∧Hc z = some (.lst ((((ps.map (·.1)).take i).filter fun one=>decide (one ≤ n) && (jbc ts one).any fun m=>decide (n < m)).map V.int))) ⟨none,rfl,ja3 hz _,ja1⟩ ?_ ?_
 ·rintro i σ' Hc hi ⟨w1,rfl,s2,ez⟩
  have hik : i < (kz ps as).length:=by omega
  refine ⟨⟨s2 _ _ ed1,hik⟩,?_⟩
  rintro y H' ⟨rfl,kv,hkv,rfl⟩
  obtain ⟨p,a,hp,ha,rfl⟩:=jr2 hla hkv
  have hp' : (ps.map (·.1))[i]? = some p.1:=by rw [List.getElem?_map,hp]; rfl
  have hpm : p.1 ∈ ps.map (·.1):=List.mem_of_getElem? hp'
  show jf7 0 (.int p.1) _ _ _
  rw [jbu hp']
  walk_at "RD"
  by_cases c : p.1 ≤ n
  ·rw [decide_eq_true c]
   walk_at "RD"
   obtain ⟨a2,g1,g2⟩:=((nr1.same s2).e).get hnd hpm
   refine jan (Itl K a2) H' (fun R2 hR2=>?_) (fun z2 hz2=>jb2 (jbc ts p.1).length (fun j σ2 Hd=>∃ w2,σ2 = [w2,some (.int n)]∧Same H' Hd∧Hd z2 = some (.lst ((((jbc ts p.1).take j).map fun m=>decide (n < m)).map V.bl))) ⟨none,rfl,ja3 hz2 _,ja1⟩ ?_ ?_)
   ·unfold jcb
    simp_arith [jhr]
    exact ⟨d,_,rfl,g1,a2,rfl,⟨_,SqL.of g2⟩,hR2⟩
   ·rintro j σ2 Hd hj ⟨w2,rfl,s3,ez2⟩
    have x1 : ((jbc ts p.1).map V.int)[j]? = some (.int (jbc ts p.1)[j]):=by rw [List.getElem?_map,List.getElem?_eq_getElem hj]; rfl
    have x2 : (jbc ts p.1)[j]? = some (jbc ts p.1)[j]:=List.getElem?_eq_getElem hj
    generalize (jbc ts p.1)[j] = m at x1 x2
    have z1 : SqL K Hd a2 ((jbc ts p.1).map V.int):=SqL.of (s3 _ _ g2)
    refine ⟨⟨_,_,z1,x1⟩,?_⟩
    rintro y H9 ⟨rfl,hy⟩
    have E1 : V.int m = y:=Option.some.inj (x1.symm.trans (hy _ z1))
    subst E1
    walk_at "RD"
    refine ⟨_,ez2,?_,_,rfl,jao s3 hz2,?_⟩
    ·rw [List.length_map,List.length_map,List.length_take]
     have:=jco ts p.1
     exact szl' (by omega)
    ·rw [ja1,jaq x2,List.map_append,List.map_append]
     rfl
   rintro σ2 H3 ⟨w2,rfl,s3,ez2⟩
   refine ⟨⟨_,SqL.of (s3 _ _ g2),by rw [List.length_map]; exact Nat.le_refl _⟩,?_⟩
   rw [List.take_length] at ez2
   have ez3:=s3 _ _ ez
   simp_arith [ez2]
   refine ⟨_,rfl,?_⟩
   have ha:=jkm (fun m=>decide (n < m)) (jbc ts p.1)
   cases hb : (jbc ts p.1).any fun m=>decide (n < m)
   ·rw [hb] at ha
    simp only [ha,Bool.true_and,Bool.false_eq_true,if_false,List.append_nil]
    exact ⟨_,rfl,s2.trans s3,ez3⟩
   ·rw [hb] at ha
    simp only [ha,Bool.true_and,if_true]
    refine ⟨_,ez3,?_,_,rfl,jao (s2.trans s3) hz,?_⟩
    ·rw [List.length_map]
     exact szl' (Nat.le_trans (List.length_filter_le _ _) (by rw [List.length_take,List.length_map]; omega))
    ·rw [ja1,List.map_append]
     rfl
  ·rw [decide_eq_false c]
   walk_at "RD"
   simp only [Bool.false_and,Bool.false_eq_true,if_false,List.append_nil]
   exact ⟨_,rfl,s2,ez⟩
 rintro σ' H2 ⟨w1,rfl,s2,ez⟩
 refine ⟨⟨s2 _ _ ed1,by omega⟩,?_⟩
 rw [← List.length_map (f:=(·.1)),List.take_length] at ez
 have nzd : z ≠ d:=(ja9 ed1 hz).symm
 exact h z H2 (hfr z hz) nzd (fun b u nb q=>s2 _ _ (b1 _ _ nb q)) (nr1.same s2) (fun o u q=>s2 _ _ (hfz o u q)) ez
noncomputable def jfg (a b : List Int) : List Int:=(a.zip b).map fun p=>p.1 + p.2
noncomputable def jpg : Sp:=fun vs H Q _=>∃ (a b : Addr) (xs ys : List Int),vs = [.ref a,.ref b]∧H a = some (.lst (xs.map V.int))∧H b = some (.lst (ys.map V.int))∧xs.length ≤ 1000∧xs.length = ys.length∧∀ l H',H l = none→Same H H'→H' l = some (.lst ((jfg xs ys).map V.int))→Q (.ref l) H'
theorem jk4 {xs ys : List Int} {i : Nat} {x y : Int} (h1 : xs[i]? = some x) (h2 : ys[i]? = some y) : jfg (xs.take (i + 1)) (ys.take (i + 1)) = jfg (xs.take i) (ys.take i) ++ [x + y]:=by
 unfold jfg
 have hl : (xs.take i).length = (ys.take i).length:=by
  rw [List.length_take,List.length_take]
  have a:=(List.getElem?_eq_some_iff.mp h1).1
  have b:=(List.getElem?_eq_some_iff.mp h2).1
  omega
 rw [jaq h1,jaq h2,List.zip_append hl,List.map_append]
 rfl
theorem jqw {f : Addr} {fd : FuncData}  (B : Blt mg) (D : DefAt K mg "sums" (top 42) ["one","other"] f fd) : FnOk P w K mg base CX0 1 f fd ["one","other"] jpg:=by
 have sc : FnScope ["one","other"] ["one","other"] (ja7 (top 42)):=⟨rfl,rfl,rfl,by decide +kernel,rfl,by decide +kernel,by decide +kernel⟩
 refine D.F.ok sc (fun vs H Q E h=>?_) (fun cdv A outer s H vs Q E hr h=>?_)
 ·obtain ⟨a,b,xs,ys,rfl,_⟩:=h
  rfl
 obtain ⟨a,b,xs,ys,rfl,ea,eb,hl9,hle,h⟩:=h
 have hu:=jbi hr
 have hu0 : _ < PySem.cLine:=Nat.lt_of_succ_lt hu
 refine ⟨_,(ja6 (jag (jbv (CpScope.of (N:=["left","right"]) (src:=[none,none]) (by rfl)) rfl (ji0 rfl B.zip (ja0 (qv 0) (ja0 (qv 1) ja2))) (fun _ _ _ _=>(jbs (n:=2) rfl (jae (jab (i:=0) (jah (l:=["left","right"]) (by rfl)) rfl (Or.inl rfl)) (jae (jab (i:=1) (jah (l:=["left","right"]) (by rfl)) rfl (Or.inl rfl)) jbe)))) (fun _ _ _ _=>jca) (fun _ _ _ _=>(jaw jd1 (qv 0) (qv 1)))))),?_⟩
 walk_at "RD"
 refine jan (Itz true K a b) H (fun R hR=>?_) (fun z hz=>jb2 xs.length (fun i σ' Hc=>∃ w1 w2,σ' = [w1,w2]∧Same H Hc∧Hc z = some (.lst ((jfg (xs.take i) (ys.take i)).map V.int))) ⟨none,none,rfl,ja3 hz _,ja1⟩ ?_ ?_)
 ·unfold jms
  walk_at "RD"
  exact ⟨true,a,b,rfl,⟨_,show SqL K H a _ from SqL.of ea⟩,⟨_,show SqL K H b _ from SqL.of eb⟩,hR⟩
 ·rintro i σ' Hc hi ⟨w1,w2,rfl,s1,ez⟩
  have x1 : xs[i]? = some xs[i]:=List.getElem?_eq_getElem hi
  have y1 : ys[i]? = some (ys[i]'(by omega)):=List.getElem?_eq_getElem _
  generalize xs[i] = x at x1
  generalize (ys[i]'(by omega)) = y at y1
  have X1 : (xs.map V.int)[i]? = some (.int x):=by rw [List.getElem?_map,x1]; rfl
  have Y1 : (ys.map V.int)[i]? = some (.int y):=by rw [List.getElem?_map,y1]; rfl
  have za : SqB true K Hc a (xs.map V.int):=show SqL K Hc a _ from SqL.of (s1 _ _ ea)
  have zb : SqB true K Hc b (ys.map V.int):=show SqL K Hc b _ from SqL.of (s1 _ _ eb)
  refine ⟨⟨_,_,_,_,za,zb,X1,Y1⟩,?_⟩
  rintro v H' ⟨t,x',y',ht,rfl,rfl,hx,hy⟩
  have E1 : V.int x = x':=Option.some.inj (X1.symm.trans (hx _ za))
  have E2 : V.int y = y':=Option.some.inj (Y1.symm.trans (hy _ zb))
  subst E1 E2
  have s2:=ja3 ht (.tup [.int x,.int y])
  have et : upd Hc t (.tup [.int x,.int y]) t = some (.tup [.int x,.int y]):=ja1
  have ez2:=s2 _ _ ez
  have s12:=s1.trans s2
  generalize upd Hc t (.tup [.int x,.int y]) = H2 at s2 et ez2 s12
  simp_arith [et]
  refine ⟨_,ez2,?_,_,_,rfl,jao s12 hz,?_⟩
  ·rw [List.length_map]
   unfold jfg
   rw [List.length_map,List.length_zip,List.length_take]
   exact szl' (by omega)
  ·rw [ja1,jk4 x1 y1,List.map_append]
   rfl
 rintro σ' H1 ⟨w1,w2,rfl,s1,ez⟩
 refine ⟨⟨_,_,show SqL K H1 a _ from SqL.of (s1 _ _ ea),show SqL K H1 b _ from SqL.of (s1 _ _ eb),.inl (by rw [List.length_map]; exact Nat.le_refl _)⟩,?_⟩
 rw [List.take_length,hle,List.take_length] at ez
 exact h z H1 hz s1 ez
end
end My
namespace My
open PySem L2
section
variable {P : Program} {w : World} {K : PySem.W.Frag} {mg : Str→Option Value} {base : Heap} {c1 c2 c3 c4 : Tok}
variable {α : Type}
noncomputable def Kp (H H' : Hp) : Prop:=(∀ b xs,H b = some (.lst xs)→H' b = some (.lst xs))∧∀ b xs,H b = some (.tup xs)→H' b = some (.tup xs)
theorem Kp.refl (H : Hp) : Kp H H:=⟨fun _ _ q=>q,fun _ _ q=>q⟩
theorem Kp.trans {H H1 H2 : Hp} (a : Kp H H1) (b : Kp H1 H2) : Kp H H2:=⟨fun c xs q=>b.1 c xs (a.1 c xs q),fun c xs q=>b.2 c xs (a.2 c xs q)⟩
theorem jay {H H' : Hp} (s : Same H H') : Kp H H':=⟨fun b xs q=>s _ _ q,fun b xs q=>s _ _ q⟩
theorem But.kp {d : Addr} {H H' : Hp} (b : But d H H') (hl : ∀ xs,H d ≠ some (.lst xs)) (ht : ∀ xs,H d ≠ some (.tup xs)) : Kp H H':=⟨fun c xs q=>b _ _ (fun z=>hl xs (z ▸ q)) q,fun c xs q=>b _ _ (fun z=>ht xs (z ▸ q)) q⟩
structure Vl (α : Type) where
 VR : Hp→V→α→Prop
 ok : Nat→Nat→α→Prop
 gr : α→Int→Int→Bool→α
 jn : α→α→α
 kp : ∀ {H H' : Hp} {v : V} {a : α},Kp H H'→VR H v a→VR H' v a
 mono : ∀ {i j j' : Nat} {a : α},ok i j a→j ≤ j'→ok i j' a
noncomputable def spGr (A : Vl α) : Sp:=fun vs H Q _=>∃ v p q b a i j,vs = [v,.int p,.int q,.bl b]∧A.VR H v a∧A.ok i j a∧i ≤ 40∧∀ v' H',Same H H'→A.VR H' v' (A.gr a p q b)→A.ok (i + 1) 1 (A.gr a p q b)→Q v' H'
noncomputable def spJn (A : Vl α) : Sp:=fun vs H Q _=>∃ v u a b i j,vs = [v,u]∧A.VR H v a∧A.VR H u b∧A.ok i j a∧A.ok i 1 b∧i ≤ 41∧1 ≤ i∧j ≤ 10000∧∀ v' H',Same H H'→A.VR H' v' (A.jn a b)→A.ok i (j + 1) (A.jn a b)→Q v' H'
noncomputable abbrev AL (α : Type):=List (List Int × α)
noncomputable def lkA (L : AL α) (c : List Int) : Option α:=(L.find? fun x=>decide (x.1 = c)).map (·.2)
noncomputable def ptA (L : AL α) (c : List Int) (a : α) : AL α:=if (L.any fun x=>decide (x.1 = c)) = true then L.map (fun x=>if x.1 = c then (x.1,a) else x) else L ++ [(c,a)]
noncomputable def jnV (jn : α→α→α) (o : Option α) (a : α) : α:=match o with
 | some b=>jn b a
 | none=>a
noncomputable def jnA (jn : α→α→α) (L : AL α) (c : List Int) (a : α) : AL α:=ptA L c (jnV jn (lkA L c) a)
noncomputable def jbb (ts : List (Int × Int)) (n : Int) : List Int:=(jbc ts n).filter fun m=>decide (m < n)
noncomputable def acrL (edge : List Int) (c : List Int) (p : Int) (b : Bool) : List Int:=(if b = true then c ++ [p] else c).filter fun m=>decide (m ∈ edge)
noncomputable def st1 (A : Vl α) (edge ahead : List Int) (p q : Int) (c : List Int) (a : α) (L : AL α) (b : Bool) : AL α :=
 if b = true ∨ (ahead.all fun m=>decide (m ∈ c)) = true then jnA A.jn L (acrL edge c p b) (A.gr a p q b) else L
noncomputable def stP (A : Vl α) (ps ts : List (Int × Int)) (L : AL α) (p : Int × Int) : AL α :=
 L.foldl (fun M x=>st1 A (jb6 ps ts p.1) (jbb ts p.1) p.1 p.2 x.1 x.2 (st1 A (jb6 ps ts p.1) (jbb ts p.1) p.1 p.2 x.1 x.2 M true) false) []
noncomputable def alL (A : Vl α) (ps ts : List (Int × Int)) (a0 : α) (qs : List (Int × Int)) : AL α:=qs.foldl (stP A ps ts) [([],a0)]
theorem jqp (L : AL α) (c : List Int) (a : α) : (ptA L c a).length ≤ L.length + 1:=by
 unfold ptA
 split
 ·rw [List.length_map]; omega
 ·rw [List.length_append]; exact Nat.le_refl _
theorem jds (A : Vl α) (edge ahead : List Int) (p q : Int) (c : List Int) (a : α) (L : AL α) (b : Bool) : (st1 A edge ahead p q c a L b).length ≤ L.length + 1:=by
 unfold st1 jnA
 split
 ·exact jqp _ _ _
 ·omega
noncomputable abbrev ks (c : List Int) : List Key:=c.map Sum.inl
theorem jr3 (c : List Int) : (ks c).map kV = c.map V.int:=by rw [List.map_map]; rfl
theorem jh8 : ∀ {a b : List Int},ks a = ks b→a = b
 | [],[],_=>rfl
 | [],_ :: _,h=>by cases h
 | _ :: _,[],h=>by cases h
 | x :: a,y :: b,h=>by
  have h' : (Sum.inl x : Key) :: ks a = Sum.inl y :: ks b:=h
  injection h' with h1 h2
  rw [Sum.inl.inj h1,jh8 h2]
noncomputable def TD (A : Vl α) (H : Hp) (kvs : List (List Key × V)) (L : AL α) (i j : Nat) : Prop:=Paired (fun kv x=>kv.1 = ks x.1∧A.VR H kv.2 x.2∧A.ok i j x.2) kvs L
theorem TD.mono {A : Vl α} {H : Hp} {kvs : List (List Key × V)} {L : AL α} {i j j' : Nat} (h : TD A H kvs L i j) (le : j ≤ j') : TD A H kvs L i j':=Paired.mapP h fun _ _ q=>⟨q.1,q.2.1,A.mono q.2.2 le⟩
theorem TD.kp {A : Vl α} {H H' : Hp} {kvs : List (List Key × V)} {L : AL α} {i j : Nat} (h : TD A H kvs L i j) (k : Kp H H') : TD A H' kvs L i j:=Paired.mapP h fun _ _ q=>⟨q.1,A.kp k q.2.1,q.2.2⟩
theorem jr6 {k : List Key} {c x : List Int} (h : k = ks x) : decide (k = ks c) = decide (x = c):=by
 subst h
 by_cases e : x = c
 ·rw [e,decide_eq_true rfl,decide_eq_true rfl]
 ·rw [decide_eq_false e,decide_eq_false fun z=>e (jh8 z)]
theorem TD.val {A : Vl α} {H : Hp} {i j : Nat} {c : List Int} : ∀ {kvs : List (List Key × V)} {L : AL α},TD A H kvs L i j→(lkA L c = none∧valV kvs (ks c) = none) ∨ ∃ a v,lkA L c = some a∧valV kvs (ks c) = some v∧A.VR H v a∧A.ok i j a
 | _,_,.nil=>.inl ⟨rfl,rfl⟩
 | _,_,.cons (a:=kv) (b:=x) r t=>by
  by_cases e : x.1 = c
  ·refine .inr ⟨x.2,kv.2,?_,?_,r.2⟩
   ·unfold lkA; rw [List.find?_cons,decide_eq_true e]; rfl
   ·exact jdb (by rw [r.1,e])
  ·have h1 : ∀ M : AL α,lkA (x :: M) c = lkA M c:=fun M=>by unfold lkA; rw [List.find?_cons,decide_eq_false e]
   have h2 : ∀ M : List (List Key × V),valV (kv :: M) (ks c) = valV M (ks c):=fun M=>jdc (fun z=>e (jh8 (r.1.symm.trans z)))
   rw [h1,h2]
   exact TD.val t
theorem TD.any {A : Vl α} {H : Hp} {i j : Nat} {c : List Int} : ∀ {kvs : List (List Key × V)} {L : AL α},TD A H kvs L i j→(kvs.any fun kv=>decide (kv.1 = ks c)) = L.any fun x=>decide (x.1 = c)
 | _,_,.nil=>rfl
 | _,_,.cons r t=>by rw [List.any_cons,List.any_cons,jr6 r.1,TD.any t]
theorem TD.mapE {A : Vl α} {H : Hp} {i j : Nat} {c : List Int} {v : V} {a : α} (hv : A.VR H v a) (ho : A.ok i j a) : ∀ {kvs : List (List Key × V)} {L : AL α},TD A H kvs L i j→TD A H (kvs.map fun kv=>if kv.1 = ks c then (kv.1,v) else kv) (L.map fun x=>if x.1 = c then (x.1,a) else x) i j
 | _,_,.nil=>.nil
 | _,_,.cons (a:=kv) (b:=x) r t=>by
  refine .cons ?_ (TD.mapE hv ho t)
  dsimp only
  by_cases e : x.1 = c
  ·rw [if_pos (by rw [r.1,e]),if_pos e]
   exact ⟨r.1,hv,ho⟩
  ·rw [if_neg (fun z=>e (jh8 (r.1.symm.trans z))),if_neg e]
   exact r
theorem TD.put {A : Vl α} {H : Hp} {i j : Nat} {c : List Int} {v : V} {a : α} {kvs : List (List Key × V)} {L : AL α} (h : TD A H kvs L i j) (hv : A.VR H v a) (ho : A.ok i j a) : TD A H (putK kvs (ks c) v) (ptA L c a) i j:=by
 unfold putK ptA
 rw [TD.any h]
 split
 ·exact TD.mapE hv ho h
 ·exact jaz h ⟨rfl,hv,ho⟩
noncomputable def jhu (A : Vl α) (fs : List (Addr × Sp)) : Sp:=fun vs H Q _=>∃ v s fg fj ps ts a0 a,vs = [v,s,.ref fg,.ref fj]∧(fg,spGr A) ∈ fs∧(fj,spJn A) ∈ fs∧jbr H v ps ts∧WebOk ps ts∧ps.length ≤ 12∧A.VR H s a0∧A.ok 0 10000 a0∧lkA (alL A ps ts a0 ps) [] = some a∧∀ v' H',Same H H'→A.VR H' v' a→Q v' H'
theorem jqh (A : Vl α) (ps ts : List (Int × Int)) (p : Int × Int) (L : AL α) : (stP A ps ts L p).length ≤ 2 * L.length:=by
 unfold stP
 have : ∀ (L M : AL α),(L.foldl (fun M x=>st1 A (jb6 ps ts p.1) (jbb ts p.1) p.1 p.2 x.1 x.2 (st1 A (jb6 ps ts p.1) (jbb ts p.1) p.1 p.2 x.1 x.2 M true) false) M).length ≤ M.length + 2 * L.length:=fun L=>by
  induction L with
  | nil=>intro M; simp
  | cons x r ih =>
   intro M
   rw [List.foldl_cons,List.length_cons]
   refine Nat.le_trans (ih _) ?_
   have h1:=jds A (jb6 ps ts p.1) (jbb ts p.1) p.1 p.2 x.1 x.2 M true
   have h2:=jds A (jb6 ps ts p.1) (jbb ts p.1) p.1 p.2 x.1 x.2 (st1 A (jb6 ps ts p.1) (jbb ts p.1) p.1 p.2 x.1 x.2 M true) false
   omega
 have:=this L []
 simpa using this
theorem jrr (A : Vl α) (ps ts : List (Int × Int)) (a0 : α) : ∀ (qs : List (Int × Int)),(alL A ps ts a0 qs).length ≤ 2 ^ qs.length:=fun qs=>by
 have : ∀ (qs : List (Int × Int)) (L : AL α),(qs.foldl (stP A ps ts) L).length ≤ L.length * 2 ^ qs.length:=fun qs=>by
  induction qs with
  | nil=>intro L; simp
  | cons q r ih =>
   intro L
   rw [List.foldl_cons,List.length_cons,Nat.pow_succ]
   refine Nat.le_trans (ih _) ?_
   have h1:=Nat.mul_le_mul_right (2 ^ r.length) (jqh A ps ts q L)
   calc _ ≤ 2 * L.length * 2 ^ r.length:=h1
    _ = L.length * (2 ^ r.length * 2):=by rw [Nat.mul_comm 2,Nat.mul_assoc,Nat.mul_comm 2]
 have:=this qs [([],a0)]
 simpa [alL] using this
end
end My
namespace My
open PySem L2
section
variable {P : Program} {w : World} {K : PySem.W.Frag} {mg : Str→Option Value} {base : Heap} {c1 c2 c3 c4 : Tok}
variable {α : Type}
theorem NrE.nl {H : Hp} {d : Addr} {ps ts : List (Int × Int)} (h : NrE H d ps ts) : (∀ xs,H d ≠ some (.lst xs))∧(∀ xs,H d ≠ some (.tup xs))∧∀ kvs,H d ≠ some (.dT kvs):=by
 obtain ⟨as,e,_⟩:=h
 rcases e with e | ⟨o,e⟩
 ·exact ⟨(fun xs z=>by rw [e] at z; cases z),(fun xs z=>by rw [e] at z; cases z),(fun xs z=>by rw [e] at z; cases z)⟩
 ·exact ⟨(fun xs z=>by rw [e] at z; cases z),(fun xs z=>by rw [e] at z; cases z),(fun xs z=>by rw [e] at z; cases z)⟩
theorem jjz (A : Vl α) (ps ts : List (Int × Int)) (a0 : α) {qs : List (Int × Int)} {i : Nat} {p : Int × Int} (h : qs[i]? = some p) : alL A ps ts a0 (qs.take (i + 1)) = stP A ps ts (alL A ps ts a0 (qs.take i)) p:=by
 unfold alL
 rw [jaq h,List.foldl_append]
 rfl
noncomputable def stF (A : Vl α) (edge ahead : List Int) (p q : Int) (L : AL α) : AL α:=L.foldl (fun M x=>st1 A edge ahead p q x.1 x.2 (st1 A edge ahead p q x.1 x.2 M true) false) []
theorem jny (A : Vl α) (edge ahead : List Int) (p q : Int) {L : AL α} {j : Nat} {x : List Int × α} (h : L[j]? = some x) : stF A edge ahead p q (L.take (j + 1)) = st1 A edge ahead p q x.1 x.2 (st1 A edge ahead p q x.1 x.2 (stF A edge ahead p q (L.take j)) true) false:=by
 unfold stF
 rw [jaq h,List.foldl_append]
 rfl
theorem jdn : ∀ (gs : List Int),(gs.map V.int).all jd3 = true
 | []=>rfl
 | _ :: r=>jdn r
theorem jig (m : Int) (c : List Int) : inV (.int m) (c.map V.int) = decide (m ∈ c):=jjp _ _
theorem ptA_nd {L : AL α} {c : List Int} {a : α} (h : (L.map (·.1)).Nodup) : ((ptA L c a).map (·.1)).Nodup:=by
 unfold ptA
 split
 ·rw [List.map_map]
  have : ((fun x : List Int × α=>x.1) ∘ fun x=>if x.1 = c then (x.1,a) else x) = fun x=>x.1:=by
   funext x
   show (if x.1 = c then (x.1,a) else x).1 = x.1
   split <;> rfl
  rw [this]
  exact h
 ·rename_i hn
  rw [List.map_append,List.nodup_append]
  refine ⟨h,by simp,fun x hx y hy e=>hn ?_⟩
  rw [List.map_cons,List.map_nil,List.mem_singleton] at hy
  obtain ⟨z,hz,rfl⟩:=List.mem_map.mp hx
  rw [List.any_eq_true]
  exact ⟨z,hz,decide_eq_true (e.trans hy)⟩
theorem jiz (A : Vl α) (edge ahead : List Int) (p q : Int) (c : List Int) (a : α) (L : AL α) (b : Bool) (h : (L.map (·.1)).Nodup) : ((st1 A edge ahead p q c a L b).map (·.1)).Nodup:=by
 unfold st1 jnA
 split
 ·exact ptA_nd h
 ·exact h
theorem jl5 (A : Vl α) (edge ahead : List Int) (p q : Int) (L : AL α) : ((stF A edge ahead p q L).map (·.1)).Nodup∧(stF A edge ahead p q L).length ≤ 2 * L.length:=by
 unfold stF
 have : ∀ (L M : AL α),(M.map (·.1)).Nodup→((L.foldl (fun M x=>st1 A edge ahead p q x.1 x.2 (st1 A edge ahead p q x.1 x.2 M true) false) M).map (·.1)).Nodup∧(L.foldl (fun M x=>st1 A edge ahead p q x.1 x.2 (st1 A edge ahead p q x.1 x.2 M true) false) M).length ≤ M.length + 2 * L.length:=fun L=>by
  induction L with
  | nil=>intro M h; exact ⟨h,by simp⟩
  | cons x r ih =>
   intro M h
   rw [List.foldl_cons,List.length_cons]
   have h1:=jds A edge ahead p q x.1 x.2 M true
   have h2:=jds A edge ahead p q x.1 x.2 (st1 A edge ahead p q x.1 x.2 M true) false
   obtain ⟨a,b⟩:=ih _ (jiz A edge ahead p q x.1 x.2 _ false (jiz A edge ahead p q x.1 x.2 M true h))
   exact ⟨a,by omega⟩
 have:=this L [] List.nodup_nil
 simpa using this
theorem alL_nd (A : Vl α) (ps ts : List (Int × Int)) (a0 : α) (qs : List (Int × Int)) : ((alL A ps ts a0 qs).map (·.1)).Nodup:=by
 unfold alL
 have : ∀ (qs : List (Int × Int)) (L : AL α),(L.map (·.1)).Nodup→((qs.foldl (stP A ps ts) L).map (·.1)).Nodup:=fun qs=>by
  induction qs with
  | nil=>intro L h; exact h
  | cons q r ih=>intro L h; rw [List.foldl_cons]; exact ih _ (jl5 A _ _ q.1 q.2 L).1
 exact this qs _ (by simp)
theorem jqo {L : AL α} {c : List Int} {a : α} {x : List Int × α} (h : x ∈ ptA L c a) : x.1 = c ∨ ∃ y ∈ L,y.1 = x.1:=by
 unfold ptA at h
 split at h
 ·obtain ⟨y,hy,e⟩:=List.mem_map.mp h
  refine .inr ⟨y,hy,?_⟩
  rw [← e]
  split <;> rfl
 ·rcases List.mem_append.mp h with h | h
  ·exact .inr ⟨x,h,rfl⟩
  ·rw [List.mem_singleton.mp h]
   exact .inl rfl
theorem jj0 (A : Vl α) (edge ahead : List Int) (p q : Int) (c : List Int) (a : α) (L : AL α) (b : Bool) {k : Nat} (hc : c.length ≤ k) (h : ∀ x ∈ L,x.1.length ≤ k + 1) : ∀ x ∈ st1 A edge ahead p q c a L b,x.1.length ≤ k + 1:=by
 unfold st1 jnA
 split
 ·intro x hx
  rcases jqo hx with e | ⟨y,hy,e⟩
  ·rw [e]
   unfold acrL
   refine Nat.le_trans (List.length_filter_le _ _) ?_
   split
   ·rw [List.length_append]; show c.length + 1 ≤ _; omega
   ·omega
  ·rw [← e]; exact h y hy
 ·exact h
theorem jnz (A : Vl α) (edge ahead : List Int) (p q : Int) {L : AL α} {k : Nat} (h : ∀ x ∈ L,x.1.length ≤ k) : ∀ x ∈ stF A edge ahead p q L,x.1.length ≤ k + 1:=by
 unfold stF
 have : ∀ (L M : AL α),(∀ x ∈ L,x.1.length ≤ k)→(∀ x ∈ M,x.1.length ≤ k + 1)→∀ x ∈ L.foldl (fun M x=>st1 A edge ahead p q x.1 x.2 (st1 A edge ahead p q x.1 x.2 M true) false) M,x.1.length ≤ k + 1:=fun L=>by
  induction L with
  | nil=>intro M _ hM; exact hM
  | cons x r ih =>
   intro M hL hM
   rw [List.foldl_cons]
   have hx:=hL x (.head _)
   exact ih _ (fun y hy=>hL y (.tail _ hy)) (jj0 A edge ahead p q x.1 x.2 _ false hx (jj0 A edge ahead p q x.1 x.2 M true hx hM))
 exact this L [] h (fun _ h=>by cases h)
theorem jp6 (A : Vl α) (ps ts : List (Int × Int)) (a0 : α) : ∀ (qs : List (Int × Int)),∀ x ∈ alL A ps ts a0 qs,x.1.length ≤ qs.length:=fun qs=>by
 have : ∀ (qs : List (Int × Int)) (L : AL α) (k : Nat),(∀ x ∈ L,x.1.length ≤ k)→∀ x ∈ qs.foldl (stP A ps ts) L,x.1.length ≤ k + qs.length:=fun qs=>by
  induction qs with
  | nil=>intro L k h; exact h
  | cons q r ih =>
   intro L k h x hx
   rw [List.foldl_cons] at hx
   have:=ih _ (k + 1) (jnz A (jb6 ps ts q.1) (jbb ts q.1) q.1 q.2 h) x hx
   rw [List.length_cons]
   omega
 intro x hx
 have:=this qs [([],a0)] 0 (fun y hy=>by rw [List.mem_singleton.mp hy]; exact Nat.le_refl _) x hx
 omega
theorem jlg {a b : TS} {D : Ends} {σ : St} {H : Hp} (h : ∀ R D',R = b→D' = D→tSeq a R D' σ H) : tSeq a b D σ H:=h b D rfl rfl
theorem jkx {κ : Type} [DecidableEq κ] : ∀ {kvs : List (κ × V)} {kv : κ × V},(kvs.map (·.1)).Nodup→kv ∈ kvs→valV kvs kv.1 = some kv.2
 | x :: r,kv,hn,h=>by
  rw [List.map_cons,List.nodup_cons] at hn
  rcases List.mem_cons.mp h with e | h
  ·subst e
   exact jdb rfl
  ·rw [jdc (fun z=>hn.1 (z ▸ List.mem_map_of_mem h))]
   exact jkx hn.2 h
theorem TD.nd {A : Vl α} {H : Hp} {i j : Nat} : ∀ {kvs : List (List Key × V)} {L : AL α},TD A H kvs L i j→(L.map (·.1)).Nodup→(kvs.map (·.1)).Nodup:=fun {kvs L} h hn=>by
 have e : kvs.map (·.1) = (L.map (·.1)).map ks:=by
  induction h with
  | nil=>rfl
  | cons r t ih=>rw [List.map_cons,List.map_cons,List.map_cons,r.1,ih (List.nodup_cons.mp hn).2]
 rw [e]
 exact List.pairwise_map.mpr (List.Pairwise.imp (fun h z=>h (jh8 z)) hn)
theorem NrF.kp {H H' : Hp} {d : Addr} {ps ts : List (Int × Int)} (h : NrF H d ps ts) (k : Kp H H') (e : ∀ u,H d = some u→H' d = some u) : NrF H' d ps ts:=let ⟨o,as,a,b,c⟩:=h; ⟨o,as,e _ a,b,fun i p q h1 h2=>k.1 _ _ (c i p q h1 h2)⟩
theorem jok {t : TT} {a b : TS} {D : Ends} {σ : St} {H : Hp} (h : ∀ TH D',TH = a→D' = D→tIfS t TH b D' σ H) : tIfS t a b D σ H:=h a D rfl rfl
theorem jkn (f : Int→Bool) (l : List Int) : (l.map f).all id = l.all f:=by rw [List.all_map]; rfl
theorem jmh {d : Addr} {H H' : Hp} {kvs : List (List Key × V)} (b : But d H H') (e : H d = some (.dT kvs)) : Kp H H':=b.kp (fun xs z=>by rw [e] at z; cases z) (fun xs z=>by rw [e] at z; cases z)
theorem jji {f : Addr} {fd : FuncData} {f_nears_in : Addr} {d_nears_in : FuncData} {f_edge_known : Addr} {d_edge_known : FuncData} (B : Blt mg) (D : DefAt K mg "along" (top 41) ["web","start","grown","joined"] f fd) (D_nears_in : DefAt K mg "nears_in" (top 36) ["web"] f_nears_in d_nears_in) (G_nears_in : FnOk P w K mg base CX0 1 f_nears_in d_nears_in ["web"] jei) (D_edge_known : DefAt K mg "edge_known" (top 39) ["nears","place"] f_edge_known d_edge_known) (G_edge_known : FnOk P w K mg base CX0 1 f_edge_known d_edge_known ["nears","place"] jlb) {VA : Vl α} {fs : List (Addr × Sp)} (hFV : ∀ f sp,(f,sp) ∈ fs→∃ fd ps,FnOk P w K mg base CX0 2 f fd ps sp∧PySem.W.keepIn K (.ref f) = true∧jff K fd ps []) : FnOk P w K mg base CX0 3 f fd ["web","start","grown","joined"] (jhu VA fs):=by
 have sc : FnScope ["web","start","grown","joined","nears","told","place","price","edge","ahead","here","chosen","is_in","all_chosen","across","value"] ["web","start","grown","joined"] (ja7 (top 41)):=⟨rfl,rfl,rfl,by decide +kernel,rfl,by decide +kernel,by decide +kernel⟩
 refine D.F.ok sc (fun vs H Q E h=>?_) (fun cdv A outer s H vs Q E hr h=>?_)
 ·obtain ⟨v,s,fg,fj,ps,ts,a0,a,rfl,_⟩:=h
  rfl
 obtain ⟨v,s0,fg,fj,ps,ts,a0,af,rfl,hfg,hfj,hw,wok,hp12,hs0,ok0,hlk,h⟩:=h
 obtain ⟨xv,pa,ta,xs,ys,rfl,ex,ep,et,pp,pt⟩:=id hw
 have hlx : xs.length = ps.length:=Paired.length pp
 have hnd:=wok.p.nodup
 have htl:=wok.tl
 have h1m : (1000000 : Nat) ≤ sizeLine:=by decide
 have hu:=jbi hr
 have hu0 : _ < PySem.cLine:=Nat.lt_of_succ_lt hu
 refine ⟨_,(ja4 (jaj (i:=4) sc.nd rfl (Or.inl rfl) (jac G_nears_in (hr.mono (by decide)) rfl D_nears_in.m D_nears_in.F.kp D_nears_in.b .nil jar (ja0 (qv 0) ja2))) (ja4 (jaj (i:=5) sc.nd rfl (Or.inl rfl) (job hu (jb4 ja2) (qv 1))) (ja4 (jbl PassesOwn.never rfl (jb7 (jaf q_ix (qv 0) ja5 (fun _ _=>rfl))) (jbs (n:=2) rfl (jae (jab (i:=6) sc.nd rfl (Or.inr rfl)) (jae (jab (i:=7) sc.nd rfl (Or.inl rfl)) jbe))) (ja4 (jaj (i:=8) sc.nd rfl (Or.inr rfl) (jac G_edge_known (hr.mono (by decide)) rfl D_edge_known.m D_edge_known.F.kp D_edge_known.b .nil jar (ja0 (qv 4) (ja0 (qv 6) ja2)))) (ja4 (jhz (i:=9) sc.nd rfl (Or.inl rfl) (CpScope.of (N:=["one","place"]) (src:=[none,some 6]) (by rfl)) rfl (jb7 (jen hu (qv 4) (qv 6) (fun _ _=>rfl))) (fun _ _ _ _=>(jab (i:=0) (jah (l:=["one","place"]) (by rfl)) rfl (Or.inl rfl))) (fun _ _ _ _=>(jel (jb3 q_lt (qv 0) (qv 1) (jap _)))) (fun _ _ _ _=>(qv 0))) (ja4 (jaj (i:=10) sc.nd rfl (Or.inl rfl) joa) (ja4 (jbl PassesOwn.never rfl (jo7 (qv 5)) (jab (i:=11) sc.nd rfl (Or.inr rfl)) (ja6 (jbl PassesOwn.never rfl (jpp (jb4 (ja0 jd8 (ja0 jd8 ja2)))) (jab (i:=12) sc.nd rfl (Or.inl rfl)) (ja6 (jbf (PW.pt (jls (jb1 (qv 12)) (jgu (jb1 (jaa (q_all rfl) rfl B.all PyProof.Rows.boot_all (ja0 (jbv (CpScope.of (N:=["one","chosen"]) (src:=[none,some 11]) (by rfl)) rfl (jb7 (qv 9)) (fun _ _ _ _=>(jab (i:=0) (jah (l:=["one","chosen"]) (by rfl)) rfl (Or.inl rfl))) (fun _ _ _ _=>jca) (fun _ _ _ _=>(jbq jqm (qv 0) (qv 1) (by with_unfolding_all rfl)))) ja2)))))) (ja4 (jaj (i:=13) sc.nd rfl (Or.inl rfl) (je9 (jb1 (qv 12)) (jaw q_catT (qv 11) (jb4 (ja0 (qv 6) ja2))) (qv 11))) (ja4 (jaj (i:=14) sc.nd rfl (Or.inl rfl) (jcc jgh rfl B.tuple PyProof.Rows.boot_tuple (ja0 (jbv (CpScope.of (N:=["one","edge"]) (src:=[none,some 8]) (by rfl)) rfl (jpp (qv 13)) (fun _ _ _ _=>(jab (i:=0) (jah (l:=["one","edge"]) (by rfl)) rfl (Or.inl rfl))) (fun _ _ _ _=>(jel (jb3 jqm (qv 0) (qv 1) (by with_unfolding_all rfl)))) (fun _ _ _ _=>(qv 0))) ja2))) (ja4 (jaj (i:=15) sc.nd rfl (Or.inl rfl) (jjg (fs:=fs) (qv 2) hFV (hr.mono (by decide)) (ja0 (jen hu (qv 5) (qv 11) (fun _ _=>rfl)) (ja0 (qv 6) (ja0 (qv 7) (ja0 (qv 12) ja2)))))) (ja6 (jqq hu (qv 10) (qv 14) (je9 (pt_cmp (pc_din hu (qv 14) (qv 10))) (jjg (fs:=fs) (qv 3) hFV (hr.mono (by decide)) (ja0 (jen hu (qv 10) (qv 14) (fun _ _=>rfl)) (ja0 (qv 15) ja2))) (qv 15)) rfl))))) jai))))) (ja6 (jaj (i:=5) sc.nd rfl (Or.inl rfl) (qv 10)))))))) (ja6 (jag (jen hu (qv 5) (jb4 ja2) (fun _ _=>rfl))))))),?_⟩
 refine jak fun R hR=>?_
 walk_at "RD"
 refine ⟨_,ps,ts,rfl,hw,wok,fun nd as H1 hnd0 s1 end1 hla hnr=>?_⟩
 have nr1 : NrE H1 nd ps ts:=⟨as,.inl end1,hla,hnr⟩
 walk_at "RD"
 subst hR
 refine jak fun R hR=>?_
 simp_arith [jpb]
 intro td htd
 have s2:=ja3 htd (.dT [])
 have etd2 : upd H1 td (.dT []) td = some (.dT []):=ja1
 generalize upd H1 td (.dT []) = H2 at s2 etd2
 intro e0 he0
 have s3:=ja3 he0 (.tup [])
 have ee0 : upd H2 e0 (.tup []) e0 = some (.tup []):=ja1
 have etd3:=s3 _ _ etd2
 have S3:=s2.trans s3
 generalize upd H2 e0 (.tup []) = H3 at s3 ee0 etd3 S3
 refine ⟨e0,[],etd3,rfl,ee0,?_⟩
 have htd0 : H td = none:=s1.free htd
 have s04 : Same H (upd H3 td (.dT [([],s0)])):=jao (s1.trans S3) htd0
 have etd4 : upd H3 td (.dT [([],s0)]) td = some (.dT [([],s0)]):=ja1
 have nnt : nd ≠ td:=fun z=>by rw [z,htd] at end1; cases end1
 have nr4 : NrE (upd H3 td (.dT [([],s0)])) nd ps ts:=by
  refine ⟨as,.inl (by rw [ja8 nnt]; exact S3 _ _ end1),hla,fun i p a h1 h2=>?_⟩
  have:=S3 _ _ (hnr i p a h1 h2)
  rw [ja8 (fun z=>by rw [z,etd3] at this; cases this)]
  exact this
 generalize upd H3 td (.dT [([],s0)]) = H4 at s04 etd4 nr4
 have td4 : TD VA H4 [([],s0)] (alL VA ps ts a0 (ps.take 0)) 0 10000:=.cons ⟨rfl,VA.kp (jay s04) hs0,ok0⟩ .nil
 walk_at "RD"
 subst hR
 refine jak fun R hR=>?_
 refine jb9 (Itl K pa) H4 (fun R' hR'=>?_) (jbx (K:=K) (a:=pa) (xs:=xs) (fun i σ H5=>∃ dd kvs w6 w7 w8 w9 w10 w11 w12 w13 w14 w15,σ = [some (.ref xv),some s0,some (.ref fg),some (.ref fj),some (.ref nd),some (.ref dd),w6,w7,w8,w9,w10,w11,w12,w13,w14,w15]∧Same H H5∧H dd = none∧NrE H5 nd ps ts∧H5 dd = some (.dT kvs)∧TD VA H5 kvs (alL VA ps ts a0 (ps.take i)) i 10000) ⟨td,_,none,none,none,none,none,none,none,none,none,none,rfl,s04,htd0,nr4,etd4,td4⟩ (fun i σ H5 _ ⟨_,_,_,_,_,_,_,_,_,_,_,_,_,s5,_⟩=>SqL.of (s5 _ _ ep)) ?_ ?_)
 ·unfold jcb
  simp_arith [jal,s04 _ _ ex,at0]
  exact ⟨pa,rfl,⟨_,SqL.of (s04 _ _ ep)⟩,hR'⟩
 ·rintro i y σ H5 hi ⟨dd,kvs,w6,w7,w8,w9,w10,w11,w12,w13,w14,w15,rfl,s5,hdd,nr5,edd,tdv⟩
  obtain ⟨p,hp,tq,rfl,etq⟩:=jad pp hi
  have hil : i < ps.length:=(List.getElem?_eq_some_iff.mp hp).1
  have etq5:=s5 _ _ etq
  obtain ⟨n,pr⟩:=p
  dsimp only at etq5
  have hnp : n ∈ ps.map (·.1):=List.mem_map_of_mem (List.mem_of_getElem? hp)
  have hLl : (alL VA ps ts a0 (ps.take i)).length ≤ 4096:=by
   refine Nat.le_trans (jrr VA ps ts a0 _) ?_
   rw [List.length_take]
   exact Nat.le_trans (Nat.pow_le_pow_right (by decide) (show min i ps.length ≤ 12 by omega)) (by decide)
  generalize hL : alL VA ps ts a0 (ps.take i) = L at tdv hLl
  have hkl : kvs.length = L.length:=Paired.length tdv
  simp only [jki,jfv,jkj,jf7,etq5,List.length_cons,List.length_nil,List.set_cons_zero,List.set_cons_succ,true_and,Nat.reduceAdd]
  refine jak fun R9 hR9=>?_
  walk_at "RD"
  obtain ⟨q1,q2,q3⟩:=nr5.nl
  refine ⟨nd,n,ps,ts,rfl,nr5,hnd,by omega,htl,fun el H6 hel nel b6 nr6 _ eel=>?_⟩
  have kp6 : Kp H5 H6:=b6.kp q1 q2
  have ndd : dd ≠ nd:=fun z=>q3 kvs (z ▸ edd)
  have edd6:=b6 _ _ ndd edd
  have td6:=tdv.kp kp6
  have hnd0' : H nd = none:=hnd0
  have s6 : Same H H6:=fun b u q=>b6 _ _ (fun z=>by rw [z,hnd0'] at q; cases q) (s5 _ _ q)
  walk_at "RD"
  subst hR9
  refine jak fun R9 hR9=>?_
  walk_at "RD"
  obtain ⟨na,g1,g2⟩:=(nr6.e).get hnd hnp
  refine jan (Itl K na) H6 (fun R2 hR2=>?_) (fun al hal=>jb2 (jbc ts n).length (fun j σ2 Hd=>∃ w2,σ2 = [w2,some (.int n)]∧Same H6 Hd∧Hd al = some (.lst ((((jbc ts n).take j).filter fun m=>decide (m < n)).map V.int))) ⟨none,rfl,ja3 hal _,ja1⟩ ?_ ?_)
  ·unfold jcb
   simp_arith [jhr]
   exact ⟨nd,_,rfl,g1,na,rfl,⟨_,SqL.of g2⟩,hR2⟩
  ·rintro j σ2 Hd hj ⟨w2,rfl,s3,ez2⟩
   have x1 : ((jbc ts n).map V.int)[j]? = some (.int (jbc ts n)[j]):=by rw [List.getElem?_map,List.getElem?_eq_getElem hj]; rfl
   have x2 : (jbc ts n)[j]? = some (jbc ts n)[j]:=List.getElem?_eq_getElem hj
   generalize (jbc ts n)[j] = m at x1 x2
   have z1 : SqL K Hd na ((jbc ts n).map V.int):=SqL.of (s3 _ _ g2)
   refine ⟨⟨_,_,z1,x1⟩,?_⟩
   rintro y H9 ⟨rfl,hy⟩
   have E1 : V.int m = y:=Option.some.inj (x1.symm.trans (hy _ z1))
   subst E1
   rw [jbu x2]
   walk_at "RD"
   by_cases c : m < n
   ·simp only [c,decide_true,if_true]
    refine ⟨_,ez2,?_,_,rfl,jao s3 hal,?_⟩
    ·rw [List.length_map]
     have:=jco ts n
     exact szl' (Nat.le_trans (List.length_filter_le _ _) (by rw [List.length_take]; omega))
    ·rw [ja1,List.map_append]
     rfl
   ·simp only [c,decide_false,Bool.false_eq_true,if_false,List.append_nil]
    exact ⟨_,rfl,s3,ez2⟩
  rintro σ2 H7 ⟨w2,rfl,s67,eal⟩
  refine ⟨⟨_,SqL.of (s67 _ _ g2),by rw [List.length_map]; exact Nat.le_refl _⟩,?_⟩
  rw [List.take_length] at eal
  have eal : H7 al = some (.lst ((jbb ts n).map V.int)):=eal
  have eel7:=s67 _ _ eel
  have edd7:=s67 _ _ edd6
  have nr7:=nr6.same s67
  have td7:=td6.kp (jay s67)
  have s7:=s6.trans s67
  clear g1 g2 s67 eel edd6 nr6 td6
  walk_at "RD"
  subst hR9
  refine jak fun R9 hR9=>?_
  simp_arith [jpc]
  intro hd hhd
  have s78:=ja3 hhd (.dT [])
  have ehd8 : upd H7 hd (.dT []) hd = some (.dT []):=ja1
  generalize upd H7 hd (.dT []) = H8 at s78 ehd8
  have hhd0 : H hd = none:=s7.free hhd
  have ndh : dd ≠ hd:=fun z=>by rw [z,hhd] at edd7; cases edd7
  have edd8:=s78 _ _ edd7
  have eel8:=s78 _ _ eel7
  have eal8:=s78 _ _ eal
  have nr8:=nr7.same s78
  have td8:=td7.kp (jay s78)
  have s8:=s7.trans s78
  subst hR9
  refine jak fun R9 hR9=>?_
  generalize hE : jb6 ps ts n = edge at eel8
  generalize hA : jbb ts n = ahead at eal8
  refine jcx (ι:=Obj) (fun o=>ItT2 dd o kvs) (fun o=>upd H8 dd (.frz o (.dT kvs))) (fun _=>True) (fun R' hR'=>?_) (fun o _=>?_)
  ·unfold iDctT
   walk_at "RD"
   exact ⟨dd,kvs,rfl,edd8,fun o=>hR' o trivial⟩
  have b9 : But dd H8 (upd H8 dd (.frz o (.dT kvs))):=But.at dd H8 _
  have edd9 : upd H8 dd (.frz o (.dT kvs)) dd = some (.frz o (.dT kvs)):=ja1
  have kp9 : Kp H8 (upd H8 dd (.frz o (.dT kvs))):=jmh b9 edd8
  have ehd9:=b9 _ _ ndh.symm ehd8
  generalize upd H8 dd (.frz o (.dT kvs)) = H9 at b9 edd9 kp9 ehd9
  have s9 : Same H H9:=fun b u q=>b9 _ _ (fun z=>by rw [z,hdd] at q; cases q) (s8 _ _ q)
  have eel9:=kp9.1 _ _ eel8
  have eal9:=kp9.1 _ _ eal8
  have td9:=td8.kp kp9
  refine jn0 (Pv:=fun j σ HA=>∃ kvs2 w11 w12 w13 w14 w15,σ = [some (.ref xv),some s0,some (.ref fg),some (.ref fj),some (.ref nd),some (.ref dd),some (.int n),some (.int pr),some (.ref el),some (.ref al),some (.ref hd),w11,w12,w13,w14,w15]∧But hd H9 HA∧HA hd = some (.dT kvs2)∧TD VA HA kvs2 (stF VA edge ahead n pr (L.take j)) (i + 1) (2 * j)) ⟨[],_,_,_,_,_,rfl,But.refl _ _,ehd9,.nil⟩ (fun j σ HA _ ⟨_,_,_,_,_,_,_,bA,_⟩=>bA _ _ ndh edd9) ?_ ?_
  ·rintro j kv b σ HA hj hb ⟨kvs2,w11,w12,w13,w14,w15,rfl,bA,ehdA,tdA⟩
   obtain ⟨x,hx,hkx,hVx,hox⟩:=jad td9 hj
   have hjl : j < L.length:=(List.getElem?_eq_some_iff.mp hx).1
   rw [hkx,jr3] at hb
   have hLn : (L.map (·.1)).Nodup:=by rw [← hL]; exact alL_nd VA ps ts a0 _
   have hcl : x.1.length ≤ 12:=by
    have:=jp6 VA ps ts a0 (ps.take i) x (by rw [hL]; exact List.mem_of_getElem? hx)
    rw [List.length_take] at this
    omega
   have hahl : ahead.length ≤ 120:=by
    rw [← hA]
    exact Nat.le_trans (List.length_filter_le _ _) (Nat.le_trans (jco ts n) htl)
   have hval : valV kvs (ks x.1) = some kv.2:=by
    rw [← hkx]
    exact jkx (td9.nd hLn) (List.mem_of_getElem? hj)
   obtain ⟨hM0n,hM0l⟩:=jl5 VA edge ahead n pr (L.take j)
   rw [List.length_take] at hM0l
   simp only [jf7,List.set_cons_zero,List.set_cons_succ]
   refine jcx (ι:=Addr) (fun tt=>Itt K tt) (fun tt=>upd HA tt (.tup [.bl true,.bl false])) (fun tt=>HA tt = none) (fun R' hR'=>?_) (fun tt htt=>?_)
   ·unfold iTup
    walk_at "RD"
    intro tt htt
    exact ⟨tt,rfl,⟨_,SqT.of ja1⟩,hR' tt htt⟩
   have sAB:=ja3 htt (.tup [.bl true,.bl false])
   have ett : upd HA tt (.tup [.bl true,.bl false]) tt = some (.tup [.bl true,.bl false]):=ja1
   generalize upd HA tt (.tup [.bl true,.bl false]) = HB at sAB ett
   have ehdB:=sAB _ _ ehdA
   have tdB:=tdA.kp (jay sAB)
   have kpA : Kp H9 HA:=jmh bA ehd9
   have kpB : Kp H9 HB:=kpA.trans (jay sAB)
   have hbB:=sAB _ _ hb
   have eddB:=sAB _ _ (bA _ _ ndh edd9)
   generalize hM0 : stF VA edge ahead n pr (L.take j) = M0 at tdB hM0l
   obtain ⟨mk,hmk⟩ : ∃ mk : Nat→AL α,mk = fun k=>if k = 0 then M0 else if k = 1 then st1 VA edge ahead n pr x.1 x.2 M0 true else st1 VA edge ahead n pr x.1 x.2 (st1 VA edge ahead n pr x.1 x.2 M0 true) false:=⟨_,rfl⟩
   have hml : ∀ k,(mk k).length ≤ 10000:=fun k=>by
    have h1:=jds VA edge ahead n pr x.1 x.2 M0 true
    have h2:=jds VA edge ahead n pr x.1 x.2 (st1 VA edge ahead n pr x.1 x.2 M0 true) false
    rw [hmk]
    dsimp only
    split
    ·omega
    ·split <;> omega
   refine jre (K:=K) (a:=tt) (xs:=[.bl true,.bl false]) (fun k σ HC=>∃ kvs3 w12 w13 w14 w15,σ = [some (.ref xv),some s0,some (.ref fg),some (.ref fj),some (.ref nd),some (.ref dd),some (.int n),some (.int pr),some (.ref el),some (.ref al),some (.ref hd),some (.ref b),w12,w13,w14,w15]∧But hd HB HC∧HC hd = some (.dT kvs3)∧TD VA HC kvs3 (mk k) (i + 1) (2 * j + k)) ⟨kvs2,_,_,_,_,rfl,But.refl _ _,ehdB,by rw [hmk]; exact tdB⟩ (fun k σ HC _ ⟨_,_,_,_,_,_,bC,_⟩=>SqT.of (bC _ _ (fun z=>by rw [z,ehdB] at ett; cases ett) ett)) ?_ ?_
   ·rintro k y σ HC hk ⟨kvs3,w12,w13,w14,w15,rfl,bC,ehdC,tdC⟩
    obtain ⟨bv,rfl,hstep⟩ : ∃ bv : Bool,y = .bl bv∧mk (k + 1) = st1 VA edge ahead n pr x.1 x.2 (mk k) bv:=by
     match k,hk with
     | 0,hk=>cases hk; exact ⟨true,rfl,by rw [hmk]; rfl⟩
     | 1,hk=>cases hk; exact ⟨false,rfl,by rw [hmk]; rfl⟩
     | k + 2,hk=>simp at hk
    have hk2 : k < 2:=(List.getElem?_eq_some_iff.mp hk).1
    have kpC : Kp HB HC:=jmh bC ehdB
    have kp9C:=kpB.trans kpC
    have hbC:=kpC.2 _ _ hbB
    have eddC:=bC _ _ ndh eddB
    have eelC:=kp9C.1 _ _ eel9
    have ealC:=kp9C.1 _ _ eal9
    have hk3 : kvs3.length ≤ 10000:=by rw [Paired.length tdC]; exact hml k
    simp only [jf7,List.set_cons_zero,List.set_cons_succ]
    refine jok fun TH D' hTH hD'=>?_
    have key : (bv = true ∨ (ahead.all fun m=>decide (m ∈ x.1)) = true)→∀ HD,Same HC HD→TH D' [some (.ref xv),some s0,some (.ref fg),some (.ref fj),some (.ref nd),some (.ref dd),some (.int n),some (.int pr),some (.ref el),some (.ref al),some (.ref hd),some (.ref b),some (.bl bv),w13,w14,w15] HD:=by
     intro hcond HD sD
     subst hTH hD'
     refine jlg fun R8 D8 hR8 hD8=>?_
     have key2 : ∀ ac HE,Same HD HE→HE ac = some (.tup ((if bv = true then x.1 ++ [n] else x.1).map V.int))→R8 D8 [some (.ref xv),some s0,some (.ref fg),some (.ref fj),some (.ref nd),some (.ref dd),some (.int n),some (.int pr),some (.ref el),some (.ref al),some (.ref hd),some (.ref b),some (.bl bv),some (.ref ac),w14,w15] HE:=by
      intro ac HE sE eac
      subst hR8 hD8
      refine jak fun R7 hR7=>?_
      generalize hall : (if bv = true then x.1 ++ [n] else x.1) = all9 at eac
      have hall9 : all9.length ≤ 50:=by
       rw [← hall]
       split
       ·rw [List.length_append]; show x.1.length + 1 ≤ 50; omega
       ·omega
      have sCE:=sD.trans sE
      have eelE:=sCE _ _ eelC
      walk_at "RD"
      refine jan (Itt K ac) HE (fun R2 hR2=>?_) (fun z2 hz2=>jb2 all9.length (fun m σ2 Hd=>∃ w2,σ2 = [w2,some (.ref el)]∧Same HE Hd∧Hd z2 = some (.lst (((all9.take m).filter fun q=>decide (q ∈ edge)).map V.int))) ⟨none,rfl,ja3 hz2 _,ja1⟩ ?_ ?_)
      ·unfold iTup
       walk_at "RD"
       exact ⟨ac,rfl,⟨_,SqT.of eac⟩,hR2⟩
      ·rintro m σ2 Hd hm ⟨w2,rfl,s3,ez2⟩
       have x1 : (all9.map V.int)[m]? = some (.int all9[m]):=by rw [List.getElem?_map,List.getElem?_eq_getElem hm]; rfl
       have x2 : all9[m]? = some all9[m]:=List.getElem?_eq_getElem hm
       generalize all9[m] = q at x1 x2
       have z1 : SqT K Hd ac (all9.map V.int):=SqT.of (s3 _ _ eac)
       refine ⟨⟨_,_,z1,x1⟩,?_⟩
       rintro y H9' ⟨rfl,hy⟩
       have E1 : V.int q = y:=Option.some.inj (x1.symm.trans (hy _ z1))
       subst E1
       rw [jbu x2]
       simp_arith [jal,s3 _ _ eelE,jig,jdn,jd3]
       by_cases c : q ∈ edge
       ·simp only [c,decide_true,if_true]
        refine ⟨_,ez2,?_,_,rfl,jao s3 hz2,?_⟩
        ·rw [List.length_map]
         exact szl' (Nat.le_trans (List.length_filter_le _ _) (by rw [List.length_take]; omega))
        ·rw [ja1,List.map_append]
         rfl
       ·simp only [c,decide_false,Bool.false_eq_true,if_false,List.append_nil]
        exact ⟨_,rfl,s3,ez2⟩
      rintro σ2 HF ⟨w2,rfl,sEF,ez2⟩
      refine ⟨⟨_,SqT.of (sEF _ _ eac),by rw [List.length_map]; exact Nat.le_refl _⟩,?_⟩
      rw [List.take_length] at ez2
      have hacr : (all9.filter fun q=>decide (q ∈ edge)) = acrL edge x.1 n bv:=by rw [← hall]; rfl
      rw [hacr] at ez2
      refine ⟨z2,_,rfl,.inl ⟨SqL.of ez2,fun tx htx=>?_⟩⟩
      have sFG:=ja3 htx (.tup ((acrL edge x.1 n bv).map V.int))
      have etx : upd HF tx (.tup ((acrL edge x.1 n bv).map V.int)) tx = some (.tup ((ks (acrL edge x.1 n bv)).map kV)):=by rw [jr3]; exact ja1
      have sCG:=(sCE.trans sEF).trans sFG
      generalize upd HF tx (.tup ((acrL edge x.1 n bv).map V.int)) = HG at sFG etx sCG
      walk_at "RD"
      subst hR7
      refine jak fun R6 hR6=>?_
      simp_arith [jiy,jhr]
      have hbG : HG b = some (.tup ((ks x.1).map kV)):=by rw [jr3]; exact sCG _ _ hbC
      refine ⟨fg,_,hfg,rfl,dd,kv.2,rfl,.inr ⟨kvs,ks x.1,b,.inr ⟨o,sCG _ _ eddC⟩,rfl,hbG,hval.symm⟩,?_⟩
      refine ⟨kv.2,n,pr,bv,x.2,i,10000,rfl,VA.kp (kp9C.trans (jay sCG)) hVx,hox,by omega,fun v' HI sGI hv' hok'=>?_⟩
      have sCI:=sCG.trans sGI
      have etxI:=sGI _ _ etx
      have ehdI:=sCI _ _ ehdC
      have tdI:=tdC.kp (jay sCI)
      walk_at "RD"
      subst hR6
      simp_arith [sDPut,tDIn,jiy,jhr]
      have fin : ∀ vv HJ,Same HI HJ→VA.VR HJ vv (jnV VA.jn (lkA (mk k) (acrL edge x.1 n bv)) (VA.gr x.2 n pr bv))→VA.ok (i + 1) (2 * j + (k + 1)) (jnV VA.jn (lkA (mk k) (acrL edge x.1 n bv)) (VA.gr x.2 n pr bv))→∃ kvs4,But hd HB (upd HJ hd (.dT (putK kvs3 (ks (acrL edge x.1 n bv)) vv)))∧upd HJ hd (.dT (putK kvs3 (ks (acrL edge x.1 n bv)) vv)) hd = some (.dT kvs4)∧TD VA (upd HJ hd (.dT (putK kvs3 (ks (acrL edge x.1 n bv)) vv))) kvs4 (mk (k + 1)) (i + 1) (2 * j + (k + 1)):=by
       intro vv HJ sJ hvv hokv
       have sCJ:=sCI.trans sJ
       have bJ : But hd HJ (upd HJ hd (.dT (putK kvs3 (ks (acrL edge x.1 n bv)) vv))):=But.at hd HJ _
       have kpJ:=jmh bJ (sCJ _ _ ehdC)
       refine ⟨_,fun c u nb q=>bJ _ _ nb (sCJ _ _ (bC _ _ nb q)),ja1,?_⟩
       rw [hstep]
       unfold st1 jnA
       rw [if_pos hcond]
       exact (((tdC.kp (jay sCJ)).kp kpJ).mono (Nat.le_succ _)).put (VA.kp kpJ hvv) hokv
      rcases tdI.val (c:=acrL edge x.1 n bv) with ⟨l1,l2⟩ | ⟨aa,ww,l1,l2,l3,l4⟩
      ·have g:=DGet.t ehdI etxI
       rw [l2] at g
       refine ⟨hd,none,rfl,g,?_⟩
       simp_arith [Option.isSome_none]
       refine ⟨false,rfl,?_⟩
       rw [if_neg (by decide)]
       refine ⟨hd,_,rfl,DPut.t ehdI etxI (by omega),?_⟩
       rw [l1] at fin
       obtain ⟨kvs4,f1,f2,f3⟩:=fin v' HI (Same.refl _) hv' (VA.mono hok' (by omega))
       exact ⟨kvs4,_,_,_,_,rfl,f1,f2,f3⟩
      ·have g:=DGet.t ehdI etxI
       rw [l2] at g
       refine ⟨hd,some ww,rfl,g,?_⟩
       simp_arith [jiy,jhr,Option.isSome_some]
       refine ⟨true,rfl,?_⟩
       rw [if_pos rfl]
       refine ⟨fj,_,hfj,rfl,hd,ww,rfl,g,?_⟩
       refine ⟨ww,v',aa,VA.gr x.2 n pr bv,i + 1,2 * j + k,rfl,l3,hv',l4,hok',by omega,by omega,by omega,fun v2 HJ sJ hv2 hok2=>?_⟩
       refine ⟨hd,_,rfl,DPut.t (sJ _ _ ehdI) (sJ _ _ etxI) (by omega),?_⟩
       rw [l1] at fin
       obtain ⟨kvs4,f1,f2,f3⟩:=fin v2 HJ sJ hv2 hok2
       exact ⟨kvs4,_,_,_,_,rfl,f1,f2,f3⟩
     walk_at "RD"
     cases bv with
     | true =>
      walk_at "RD"
      intro pt hpt
      have q1:=ja3 hpt (.tup [.int n])
      have ept : upd HD pt (.tup [.int n]) pt = some (.tup [.int n]):=ja1
      have hb1:=q1 _ _ (sD _ _ hbC)
      generalize upd HD pt (.tup [.int n]) = HE at q1 ept hb1
      simp only [jrh,hb1,ept]
      refine ⟨by rw [List.length_map]; show x.1.length + 1 ≤ _; have:=hcl; omega,by simp,?_⟩
      by_cases hc : x.1 = []
      ·rw [if_pos (by rw [hc]; rfl)]
       exact key2 pt HE q1 (by rw [hc]; exact ept)
      ·rw [if_neg (fun z=>hc (List.map_eq_nil_iff.mp z))]
       intro ac hac
       exact key2 ac _ (q1.trans (ja3 hac _)) (by rw [ja1]; simp)
     | false =>
      walk_at "RD"
      exact key2 b HD (Same.refl _) (sD _ _ hbC)
    unfold tIfS
    walk_at "RD"
    cases bv with
    | true =>
     walk_at "RD"
     exact key (.inl rfl) HC (Same.refl _)
    | false =>
     walk_at "RD"
     refine jan (Itl K al) HC (fun R2 hR2=>?_) (fun z2 hz2=>jb2 ahead.length (fun m σ2 Hd=>∃ w2,σ2 = [w2,some (.ref b)]∧Same HC Hd∧Hd z2 = some (.lst (((ahead.take m).map fun q=>decide (q ∈ x.1)).map V.bl))) ⟨none,rfl,ja3 hz2 _,ja1⟩ ?_ ?_)
     ·unfold jcb
      walk_at "RD"
      exact ⟨al,rfl,⟨_,SqL.of ealC⟩,hR2⟩
     ·rintro m σ2 Hd hm ⟨w2,rfl,s3,ez2⟩
      have x1 : (ahead.map V.int)[m]? = some (.int ahead[m]):=by rw [List.getElem?_map,List.getElem?_eq_getElem hm]; rfl
      have x2 : ahead[m]? = some ahead[m]:=List.getElem?_eq_getElem hm
      generalize ahead[m] = q at x1 x2
      have z1 : SqL K Hd al (ahead.map V.int):=SqL.of (s3 _ _ ealC)
      refine ⟨⟨_,_,z1,x1⟩,?_⟩
      rintro y H9' ⟨rfl,hy⟩
      have E1 : V.int q = y:=Option.some.inj (x1.symm.trans (hy _ z1))
      subst E1
      simp_arith [jal,s3 _ _ hbC,jig,jdn,jd3]
      refine ⟨_,ez2,?_,_,rfl,jao s3 hz2,?_⟩
      ·rw [List.length_map,List.length_map,List.length_take]
       exact szl' (by have:=hahl; omega)
      ·rw [ja1,jaq x2,List.map_append,List.map_append]
       rfl
     rintro σ2 HD ⟨w2,rfl,sD,ez2⟩
     refine ⟨⟨_,SqL.of (sD _ _ ealC),by rw [List.length_map]; exact Nat.le_refl _⟩,?_⟩
     rw [List.take_length] at ez2
     simp_arith [ez2]
     refine ⟨_,rfl,?_⟩
     have ha:=jkn (fun q=>decide (q ∈ x.1)) ahead
     cases hb9 : ahead.all fun q=>decide (q ∈ x.1)
     ·rw [hb9] at ha
      simp only [ha,Bool.false_eq_true,if_false]
      subst hD'
      refine ⟨kvs3,_,_,_,_,rfl,fun c u nb q=>sD _ _ (bC _ _ nb q),sD _ _ ehdC,?_⟩
      rw [hstep]
      unfold st1
      rw [if_neg (by rw [hb9]; simp)]
      exact (tdC.kp (jay sD)).mono (Nat.le_succ _)
     ·rw [hb9] at ha
      simp only [ha,if_true]
      exact key (.inr hb9) HD sD
   ·rintro σ HC ⟨kvs3,w12,w13,w14,w15,rfl,bC,ehdC,tdC⟩
    refine ⟨kvs3,_,_,_,_,_,rfl,fun c u nb q=>bC _ _ nb (sAB _ _ (bA _ _ nb q)),ehdC,?_⟩
    rw [jny VA edge ahead n pr hx,hM0]
    rw [hmk] at tdC
    exact tdC
  ·rintro σ HA ⟨kvs2,w11,w12,w13,w14,w15,rfl,bA,ehdA,tdA⟩
   rw [hkl,List.take_length] at tdA
   walk_at "RD"
   subst hR9
   walk_at "RD"
   have kpA : Kp H9 HA:=jmh bA ehd9
   have nnd : nd ≠ dd:=fun z=>by
    obtain ⟨o',as',e,_⟩:=nr8
    rw [z,edd8] at e
    cases e
   have nnh : nd ≠ hd:=fun z=>by
    obtain ⟨o',as',e,_⟩:=nr8
    rw [z,ehd8] at e
    cases e
   refine ⟨hd,kvs2,_,_,_,_,_,_,_,_,_,_,rfl,fun c u q=>bA _ _ (fun z=>by rw [z,hhd0] at q; cases q) (s9 _ _ q),hhd0,((nr8.kp kp9 fun u q=>b9 _ _ nnd q).kp kpA fun u q=>bA _ _ nnh q).e,ehdA,?_⟩
   rw [jjz VA ps ts a0 hp,hL]
   show TD VA HA kvs2 (stF VA (jb6 ps ts n) (jbb ts n) n pr L) (i + 1) 10000
   rw [hE,hA]
   exact tdA.mono (by omega)
 ·rintro σ H5 ⟨dd,kvs,w6,w7,w8,w9,w10,w11,w12,w13,w14,w15,rfl,s5,hdd,nr5,edd,tdv⟩
  rw [hlx,List.take_length] at tdv
  walk_at "RD"
  subst hR
  simp_arith [jhr]
  intro e9 he9
  have q1:=ja3 he9 (.tup [])
  have ee9 : upd H5 e9 (.tup []) e9 = some (.tup ((ks []).map kV)):=ja1
  rcases tdv.val (c:=[]) with ⟨l1,l2⟩ | ⟨aa,ww,l1,l2,l3,l4⟩
  ·rw [hlk] at l1
   cases l1
  ·rw [hlk] at l1
   cases l1
   have g:=DGet.t (q1 _ _ edd) ee9
   rw [l2] at g
   exact ⟨dd,ww,rfl,g,h ww _ (s5.trans q1) (VA.kp (jay q1) l3)⟩
end
end My
namespace My
open PySem L2
noncomputable def subL (ns : List Int) : List (List Int):=ns.foldl (fun f n=>f ++ f.map fun s=>s ++ [n]) [[]]
theorem jde (ns : List Int) (n : Int) : subL (ns ++ [n]) = subL ns ++ (subL ns).map fun s=>s ++ [n]:=by
 unfold subL
 rw [List.foldl_append]
 rfl
theorem jcy : ∀ (ns : List Int),∀ s ∈ subL ns,s.Sublist ns:=fun ns=>by
 have : ∀ (ns pre : List Int) (f : List (List Int)),(∀ s ∈ f,s.Sublist pre)→∀ s ∈ ns.foldl (fun f n=>f ++ f.map fun s=>s ++ [n]) f,s.Sublist (pre ++ ns):=fun ns=>by
  induction ns with
  | nil=>intro pre f hf s hs; rw [List.append_nil]; exact hf s hs
  | cons a r ih =>
   intro pre f hf s hs
   rw [List.foldl_cons] at hs
   have:=ih (pre ++ [a]) _ (fun t ht=>?_) s hs
   ·simpa using this
   ·rcases List.mem_append.mp ht with ht | ht
    ·exact (hf t ht).trans (List.sublist_append_left _ _)
    ·obtain ⟨q,hq,rfl⟩:=List.mem_map.mp ht
     exact List.Sublist.append (hf q hq) (List.Sublist.refl _)
 intro s hs
 have:=this ns [] [[]] (fun t ht=>by rw [List.mem_singleton.mp ht]; exact List.Sublist.slnil) s hs
 simpa using this
noncomputable def toT (ts : List (Int × Int)) (m : Int) (s : List Int) : Bool:=ts.all fun t=>decide (m < t.2) || (decide (t.1 ∈ s) || decide (t.2 ∈ s))
noncomputable def covL (ns : List Int) (ts : List (Int × Int)) (m : Int) : List (List Int):=(subL ns).filter (toT ts m)
section
variable {α β : Type}
theorem jr8 {h : α→β} {ja : α→α→α} {jb : β→β→β} {S : α→Prop} (hj : ∀ a b,S a→S b→h (ja a b) = jb (h a) (h b)) {L : AL α} {c : List Int} {a : α} (hL : ∀ x ∈ L,S x.2) (ha : S a) :
  (jnA ja L c a).map (fun x=>(x.1,h x.2)) = jnA jb (L.map fun x=>(x.1,h x.2)) c (h a):=by
 have hlk : lkA (L.map fun x=>(x.1,h x.2)) c = (lkA L c).map h:=by
  unfold lkA
  rw [List.find?_map,Option.map_map,Option.map_map]
  rfl
 have hany : ((L.map fun x=>(x.1,h x.2)).any fun x=>decide (x.1 = c)) = L.any fun x=>decide (x.1 = c):=by rw [List.any_map]; rfl
 unfold jnA
 rw [hlk]
 have hv : h (jnV ja (lkA L c) a) = jnV jb ((lkA L c).map h) (h a):=by
  cases e : lkA L c with
  | none=>rfl
  | some b =>
   have hb : S b:=by
    unfold lkA at e
    obtain ⟨x,hx,rfl⟩:=Option.map_eq_some_iff.mp e
    exact hL x (List.mem_of_find?_eq_some hx)
   exact hj b a hb ha
 rw [← hv]
 generalize jnV ja (lkA L c) a = v
 unfold ptA
 rw [hany]
 split
 ·rw [List.map_map,List.map_map]
  refine List.map_congr_left fun x _=>?_
  show ((if x.1 = c then (x.1,v) else x).1,h (if x.1 = c then (x.1,v) else x).2) = if x.1 = c then (x.1,h v) else (x.1,h x.2)
  split <;> rfl
 ·rw [List.map_append]
  rfl
theorem jr7 {ja : α→α→α} {S : α→Prop} (hj : ∀ a b,S a→S b→S (ja a b)) {L : AL α} {c : List Int} {a : α} (hL : ∀ x ∈ L,S x.2) (ha : S a) : ∀ x ∈ jnA ja L c a,S x.2:=by
 have hv : S (jnV ja (lkA L c) a):=by
  cases e : lkA L c with
  | none=>exact ha
  | some b =>
   unfold lkA at e
   obtain ⟨x,hx,rfl⟩:=Option.map_eq_some_iff.mp e
   exact hj _ _ (hL x (List.mem_of_find?_eq_some hx)) ha
 unfold jnA ptA
 generalize jnV ja (lkA L c) a = v at hv
 split
 ·intro x hx
  obtain ⟨y,hy,rfl⟩:=List.mem_map.mp hx
  split
  ·exact hv
  ·exact hL y hy
 ·intro x hx
  rcases List.mem_append.mp hx with hx | hx
  ·exact hL x hx
  ·rw [List.mem_singleton.mp hx]; exact hv
theorem jht {A : Vl α} {B : Vl β} {h h' : α→β} {S S' : α→Prop} {edge ahead : List Int} {p q : Int} (hg : ∀ a b,S a→h' (A.gr a p q b) = B.gr (h a) p q b∧S' (A.gr a p q b)) (hj : ∀ a b,S' a→S' b→h' (A.jn a b) = B.jn (h' a) (h' b)∧S' (A.jn a b)) {L : AL α} (hL : ∀ x ∈ L,S x.2) :
  (stF A edge ahead p q L).map (fun x=>(x.1,h' x.2)) = stF B edge ahead p q (L.map fun x=>(x.1,h x.2))∧∀ x ∈ stF A edge ahead p q L,S' x.2:=by
 unfold stF
 have one : ∀ (c : List Int) (a : α) (b : Bool) (M : AL α) (M' : AL β),S a→(∀ x ∈ M,S' x.2)→M.map (fun x=>(x.1,h' x.2)) = M'→(st1 A edge ahead p q c a M b).map (fun x=>(x.1,h' x.2)) = st1 B edge ahead p q c (h a) M' b∧∀ x ∈ st1 A edge ahead p q c a M b,S' x.2:=by
  intro c a b M M' ha hM e
  unfold st1
  split
  ·have hh:=hg a b ha
   refine ⟨?_,jr7 (fun x y h1 h2=>(hj x y h1 h2).2) hM hh.2⟩
   rw [jr8 (h:=h') (fun x y h1 h2=>(hj x y h1 h2).1) hM hh.2,e,hh.1]
  ·exact ⟨e,hM⟩
 have : ∀ (L : AL α) (M : AL α) (M' : AL β),(∀ x ∈ L,S x.2)→(∀ x ∈ M,S' x.2)→M.map (fun x=>(x.1,h' x.2)) = M' →
   (L.foldl (fun M x=>st1 A edge ahead p q x.1 x.2 (st1 A edge ahead p q x.1 x.2 M true) false) M).map (fun x=>(x.1,h' x.2)) = (L.map fun x=>(x.1,h x.2)).foldl (fun M x=>st1 B edge ahead p q x.1 x.2 (st1 B edge ahead p q x.1 x.2 M true) false) M' ∧
   ∀ x ∈ L.foldl (fun M x=>st1 A edge ahead p q x.1 x.2 (st1 A edge ahead p q x.1 x.2 M true) false) M,S' x.2:=fun L=>by
  induction L with
  | nil=>intro M M' _ hM e; exact ⟨e,hM⟩
  | cons x r ih =>
   intro M M' hL hM e
   rw [List.map_cons,List.foldl_cons,List.foldl_cons]
   obtain ⟨e1,m1⟩:=one x.1 x.2 true M M' (hL x (.head _)) hM e
   obtain ⟨e2,m2⟩:=one x.1 x.2 false _ _ (hL x (.head _)) m1 e1
   exact ih _ _ (fun y hy=>hL y (.tail _ hy)) m2 e2
 exact this L [] [] hL (fun _ h=>by cases h) rfl
end
noncomputable def VG : Vl (List (List Int)) where
 VR:=fun _ _ _=>True
 ok:=fun _ _ _=>True
 gr:=fun F p _ b=>if b = true then F.map (fun s=>s ++ [p]) else F
 jn:=fun F G=>F ++ G
 kp:=fun _ h=>h
 mono:=fun h _=>h
end My
namespace My
open PySem L2
noncomputable abbrev GL:=AL (List (List Int))
theorem jiu {c : List Int} {F : List (List Int)} : ∀ {M : GL},(M.map (·.1)).Nodup→(M.any fun x=>decide (x.1 = c)) = true→∃ b,lkA M c = some b∧((M.map fun x=>if x.1 = c then (x.1,b ++ F) else x).flatMap (·.2)).Perm (M.flatMap (·.2) ++ F)
 | [],_,h=>by cases h
 | x :: r,hn,h=>by
  rw [List.map_cons,List.nodup_cons] at hn
  by_cases e : x.1 = c
  ·refine ⟨x.2,by unfold lkA; rw [List.find?_cons,decide_eq_true e]; rfl,?_⟩
   have hr : (r.map fun y=>if y.1 = c then (y.1,x.2 ++ F) else y) = r:=by
    have : ∀ y ∈ r,(if y.1 = c then (y.1,x.2 ++ F) else y) = y:=fun y hy=>if_neg fun z=>hn.1 (by rw [e,← z]; exact List.mem_map_of_mem hy)
    rw [List.map_congr_left this,List.map_id']
   rw [List.map_cons,hr,if_pos e,List.flatMap_cons,List.flatMap_cons]
   show (x.2 ++ F ++ r.flatMap (·.2)).Perm (x.2 ++ r.flatMap (·.2) ++ F)
   rw [List.append_assoc,List.append_assoc]
   exact List.Perm.append_left _ List.perm_append_comm
  ·rw [List.any_cons,decide_eq_false e,Bool.false_or] at h
   obtain ⟨b,h1,h2⟩:=jiu hn.2 h
   refine ⟨b,by unfold lkA; rw [List.find?_cons,decide_eq_false e]; exact h1,?_⟩
   rw [List.map_cons,if_neg e,List.flatMap_cons,List.flatMap_cons,List.append_assoc]
   exact List.Perm.append_left _ h2
theorem jmc {α : Type} {c : List Int} : ∀ {M : AL α},(M.any fun x=>decide (x.1 = c)) = false→lkA M c = none
 | [],_=>rfl
 | x :: r,h=>by
  rw [List.any_cons,Bool.or_eq_false_iff] at h
  unfold lkA
  rw [List.find?_cons,h.1]
  exact jmc h.2
theorem jjo {M : GL} (hn : (M.map (·.1)).Nodup) (c : List Int) (F : List (List Int)) : ((jnA VG.jn M c F).flatMap (·.2)).Perm (M.flatMap (·.2) ++ F):=by
 unfold jnA ptA
 cases h : M.any fun x=>decide (x.1 = c) with
 | true =>
  obtain ⟨b,h1,h2⟩:=jiu (F:=F) hn h
  rw [if_pos rfl,h1]
  exact h2
 | false =>
  rw [if_neg (by decide),jmc h,List.flatMap_append,List.flatMap_cons,List.flatMap_nil,List.append_nil]
  exact List.Perm.refl _
theorem jnA_P {α : Type} {ja : α→α→α} {P : List Int→α→Prop} (hj : ∀ c a b,P c a→P c b→P c (ja a b)) {L : AL α} {c : List Int} {a : α} (hL : ∀ x ∈ L,P x.1 x.2) (ha : P c a) : ∀ x ∈ jnA ja L c a,P x.1 x.2:=by
 have hv : P c (jnV ja (lkA L c) a):=by
  cases e : lkA L c with
  | none=>exact ha
  | some b =>
   unfold lkA at e
   obtain ⟨x,hx,rfl⟩:=Option.map_eq_some_iff.mp e
   have hc : x.1 = c:=by
    have q:=List.find?_some hx
    exact of_decide_eq_true q
   have:=hL x (List.mem_of_find?_eq_some hx)
   rw [hc] at this
   exact hj _ _ _ this ha
 unfold jnA ptA
 generalize jnV ja (lkA L c) a = v at hv
 split
 ·intro x hx
  obtain ⟨y,hy,rfl⟩:=List.mem_map.mp hx
  by_cases e : y.1 = c
  ·rw [if_pos e]
   show P y.1 v
   rw [e]
   exact hv
  ·rw [if_neg e]
   exact hL y hy
 ·intro x hx
  rcases List.mem_append.mp hx with hx | hx
  ·exact hL x hx
  ·rw [List.mem_singleton.mp hx]; exact hv
noncomputable def OkG (edge : List Int) (c : List Int) (F : List (List Int)) : Prop:=F ≠ []∧∀ s ∈ F,(s.filter fun m=>decide (m ∈ edge)) = c
theorem OkG.app {edge c : List Int} {F G : List (List Int)} (h : OkG edge c F) (g : OkG edge c G) : OkG edge c (F ++ G):=⟨fun z=>h.1 (List.append_eq_nil_iff.mp z).1,fun s hs=>(List.mem_append.mp hs).elim (h.2 s) (g.2 s)⟩
structure GI (ps ts : List (Int × Int)) (ns : List Int) (m : Int) (G : GL) : Prop where
 nd : (G.map (·.1)).Nodup
 ok : ∀ g ∈ G,OkG (jb6 ps ts m) g.1 g.2
 pm : (G.flatMap (·.2)).Perm (covL ns ts m)
noncomputable def ctr (ahead : List Int) (n : Int) (g : List Int × List (List Int)) : List (List Int):=g.2.map (fun s=>s ++ [n]) ++ if (ahead.all fun m=>decide (m ∈ g.1)) = true then g.2 else []
theorem jpw {edge ahead : List Int} {n pr : Int} : ∀ (Gs M : GL),(∀ g ∈ Gs,g.2 ≠ []∧∀ s ∈ g.2,(s.filter fun m=>decide (m ∈ edge)) = acrL edge g.1 n false∧((s ++ [n]).filter fun m=>decide (m ∈ edge)) = acrL edge g.1 n true)→(M.map (·.1)).Nodup→(∀ g ∈ M,OkG edge g.1 g.2) →
  let M':=Gs.foldl (fun M x=>st1 VG edge ahead n pr x.1 x.2 (st1 VG edge ahead n pr x.1 x.2 M true) false) M
  (M'.map (·.1)).Nodup∧(∀ g ∈ M',OkG edge g.1 g.2)∧(M'.flatMap (·.2)).Perm (M.flatMap (·.2) ++ Gs.flatMap (ctr ahead n))
 | [],M,_,hn,ho=>⟨hn,ho,by rw [List.flatMap_nil,List.append_nil]; exact List.Perm.refl _⟩
 | g :: Gs,M,hG,hn,ho=>by
  obtain ⟨h1,h2⟩:=hG g (.head _)
  have n1:=jiz VG edge ahead n pr g.1 g.2 M true hn
  have n2:=jiz VG edge ahead n pr g.1 g.2 _ false n1
  have e1 : st1 VG edge ahead n pr g.1 g.2 M true = jnA VG.jn M (acrL edge g.1 n true) (g.2.map fun s=>s ++ [n]):=if_pos (.inl rfl)
  have p1 : ((st1 VG edge ahead n pr g.1 g.2 M true).flatMap (·.2)).Perm (M.flatMap (·.2) ++ g.2.map fun s=>s ++ [n]):=by rw [e1]; exact jjo hn _ _
  have o1 : ∀ x ∈ st1 VG edge ahead n pr g.1 g.2 M true,OkG edge x.1 x.2:=by
   rw [e1]
   refine jnA_P (P:=OkG edge) (fun c a b=>OkG.app) ho ⟨fun z=>h1 (List.map_eq_nil_iff.mp z),fun s hs=>?_⟩
   obtain ⟨q,hq,rfl⟩:=List.mem_map.mp hs
   exact (h2 q hq).2
  have p2 : ((st1 VG edge ahead n pr g.1 g.2 (st1 VG edge ahead n pr g.1 g.2 M true) false).flatMap (·.2)).Perm (M.flatMap (·.2) ++ ctr ahead n g)∧∀ x ∈ st1 VG edge ahead n pr g.1 g.2 (st1 VG edge ahead n pr g.1 g.2 M true) false,OkG edge x.1 x.2:=by
   by_cases c : (ahead.all fun m=>decide (m ∈ g.1)) = true
   ·have e2 : st1 VG edge ahead n pr g.1 g.2 (st1 VG edge ahead n pr g.1 g.2 M true) false = jnA VG.jn (st1 VG edge ahead n pr g.1 g.2 M true) (acrL edge g.1 n false) g.2:=if_pos (.inr c)
    rw [e2]
    refine ⟨(jjo n1 _ _).trans ?_,jnA_P (P:=OkG edge) (fun c a b=>OkG.app) o1 ⟨h1,fun s hs=>(h2 s hs).1⟩⟩
    unfold ctr
    rw [if_pos c,← List.append_assoc]
    exact List.Perm.append_right _ p1
   ·have e2 : st1 VG edge ahead n pr g.1 g.2 (st1 VG edge ahead n pr g.1 g.2 M true) false = st1 VG edge ahead n pr g.1 g.2 M true:=if_neg fun z=>z.elim (fun y=>Bool.false_ne_true y) c
    rw [e2]
    unfold ctr
    rw [if_neg c,List.append_nil]
    exact ⟨p1,o1⟩
  have ih:=jpw (edge:=edge) (ahead:=ahead) (n:=n) (pr:=pr) Gs _ (fun x hx=>hG x (.tail _ hx)) n2 p2.2
  refine ⟨ih.1,ih.2.1,ih.2.2.trans ?_⟩
  rw [List.flatMap_cons,← List.append_assoc]
  exact List.Perm.append_right _ p2.1
theorem jci {ts : List (Int × Int)} {n m : Int} (h : ∀ t ∈ ts,t.1 < t.2) : m ∈ jbc ts n ↔ (n,m) ∈ ts ∨ (m,n) ∈ ts:=by
 unfold jbc
 rw [List.mem_flatMap]
 constructor
 ·rintro ⟨t,ht,hm⟩
  unfold nr at hm
  split at hm
  ·rename_i e
   rw [List.mem_singleton] at hm
   exact .inl (by rw [← e,hm]; exact ht)
  ·split at hm
   ·rename_i e
    rw [List.mem_singleton] at hm
    exact .inr (by rw [← e,hm]; exact ht)
   ·cases hm
 ·rintro (q | q)
  ·exact ⟨_,q,by unfold nr; rw [if_pos rfl]; exact .head _⟩
  ·refine ⟨_,q,?_⟩
   unfold nr
   have:=h _ q
   dsimp only at this ⊢
   rw [if_neg (by omega),if_pos rfl]
   exact .head _
theorem jec {ps ts : List (Int × Int)} {n x : Int} : x ∈ jb6 ps ts n ↔ x ∈ ps.map (·.1)∧x ≤ n∧∃ y ∈ jbc ts x,n < y:=by
 unfold jb6
 rw [List.mem_filter,Bool.and_eq_true,decide_eq_true_eq,List.any_eq_true]
 constructor
 ·rintro ⟨a,b,y,hy,c⟩
  exact ⟨a,b,y,hy,of_decide_eq_true c⟩
 ·rintro ⟨a,b,y,hy,c⟩
  exact ⟨a,b,y,hy,decide_eq_true c⟩
section
variable {ps ts : List (Int × Int)} {ns : List Int} {m n : Int} (htt : ∀ t ∈ ts,t.1 < t.2∧t.1 ∈ ps.map (·.1)∧t.2 ∈ ps.map (·.1)) (hns : ∀ x ∈ ns,x ≤ m) (hnp : ∀ x ∈ ps.map (·.1),x ≤ m→x ∈ ns) (hmn : m < n) (hgap : ∀ x ∈ ps.map (·.1),x ≤ m ∨ n ≤ x)
include htt hns hmn hgap
theorem toT_in {s : List Int} (hs : ∀ x ∈ s,x ∈ ns) : toT ts n (s ++ [n]) = toT ts m s:=by
 unfold toT
 have : ∀ t ∈ ts,(decide (n < t.2) || (decide (t.1 ∈ s ++ [n]) || decide (t.2 ∈ s ++ [n]))) = (decide (m < t.2) || (decide (t.1 ∈ s) || decide (t.2 ∈ s))):=by
  intro t ht
  obtain ⟨h1,h2,h3⟩:=htt t ht
  by_cases c : m < t.2
  ·rw [decide_eq_true c,Bool.true_or]
   rcases hgap _ h3 with q | q
   ·omega
   ·by_cases c2 : n < t.2
    ·rw [decide_eq_true c2]; rfl
    ·have e : t.2 = n:=by omega
     rw [decide_eq_true (show t.2 ∈ s ++ [n] by rw [e]; simp)]
     simp
  ·have a1 : t.1 ∈ s ++ [n] ↔ t.1 ∈ s:=by
    rw [List.mem_append,List.mem_singleton]
    exact ⟨fun z=>z.elim id fun z=>by omega,.inl⟩
   have a2 : t.2 ∈ s ++ [n] ↔ t.2 ∈ s:=by
    rw [List.mem_append,List.mem_singleton]
    exact ⟨fun z=>z.elim id fun z=>by omega,.inl⟩
   rw [decide_eq_false c,decide_eq_false (show ¬ n < t.2 by omega),decide_eq_decide.mpr a1,decide_eq_decide.mpr a2]
 rw [Bool.eq_iff_iff,List.all_eq_true,List.all_eq_true]
 exact ⟨fun z t ht=>by rw [← this t ht]; exact z t ht,fun z t ht=>by rw [this t ht]; exact z t ht⟩
theorem jl0 {s : List Int} (hs : ∀ x ∈ s,x ∈ ns) : toT ts n s = (toT ts m s && (jbb ts n).all fun q=>decide (q ∈ s)):=by
 have ht0 : ∀ t ∈ ts,t.1 < t.2:=fun t ht=>(htt t ht).1
 have nn : n ∉ s:=fun z=>by have:=hns _ (hs _ z); omega
 rw [Bool.eq_iff_iff,Bool.and_eq_true]
 unfold toT jbb
 rw [List.all_eq_true,List.all_eq_true,List.all_eq_true]
 constructor
 ·intro z
  refine ⟨fun t ht=>?_,fun q hq=>?_⟩
  ·have:=z t ht
   simp only [Bool.or_eq_true,decide_eq_true_eq] at this ⊢
   rcases this with c | c
   ·exact .inl (by omega)
   ·exact .inr c
  ·rw [List.mem_filter,decide_eq_true_eq] at hq
   rcases (jci ht0).mp hq.1 with c | c
   ·have:=ht0 _ c
    dsimp only at this
    omega
   ·have:=z _ c
    simp only [Bool.or_eq_true,decide_eq_true_eq] at this ⊢
    rcases this with d | d | d
    ·omega
    ·exact d
    ·exact absurd d nn
 ·rintro ⟨z1,z2⟩ t ht
  obtain ⟨h1,h2,h3⟩:=htt t ht
  have:=z1 t ht
  simp only [Bool.or_eq_true,decide_eq_true_eq] at this ⊢
  rcases this with c | c
  ·rcases hgap _ h3 with q | q
   ·omega
   ·by_cases c2 : n < t.2
    ·exact .inl c2
    ·have e : t.2 = n:=by omega
     refine .inr (.inl (of_decide_eq_true (z2 t.1 ?_)))
     rw [List.mem_filter,decide_eq_true_eq]
     refine ⟨(jci ht0).mpr (.inr ?_),by omega⟩
     rw [← e]
     exact ht
  ·exact .inr c
theorem jrs {s c : List Int} (hs : ∀ x ∈ s,x ∈ ns) (hc : (s.filter fun x=>decide (x ∈ jb6 ps ts m)) = c) : ((jbb ts n).all fun q=>decide (q ∈ s)) = (jbb ts n).all fun q=>decide (q ∈ c):=by
 have ht0 : ∀ t ∈ ts,t.1 < t.2:=fun t ht=>(htt t ht).1
 have : ∀ q ∈ jbb ts n,(q ∈ s ↔ q ∈ c):=by
  intro q hq
  unfold jbb at hq
  rw [List.mem_filter,decide_eq_true_eq] at hq
  rw [← hc,List.mem_filter,decide_eq_true_eq]
  refine ⟨fun z=>⟨z,jec.mpr ?_⟩,fun z=>z.1⟩
  rcases (jci ht0).mp hq.1 with c | c
  ·have:=ht0 _ c
   dsimp only at this
   omega
  ·have hp:=(htt _ c).2.1
   refine ⟨hp,?_,n,(jci ht0).mpr (.inl c),hmn⟩
   rcases hgap _ hp with d | d
   ·exact d
   ·dsimp only at d
    omega
 rw [Bool.eq_iff_iff,List.all_eq_true,List.all_eq_true]
 exact ⟨fun z q hq=>decide_eq_true ((this q hq).mp (of_decide_eq_true (z q hq))),fun z q hq=>decide_eq_true ((this q hq).mpr (of_decide_eq_true (z q hq)))⟩
theorem acr_s {s c : List Int} (hs : ∀ x ∈ s,x ∈ ns) (hc : (s.filter fun x=>decide (x ∈ jb6 ps ts m)) = c) : (s.filter fun x=>decide (x ∈ jb6 ps ts n)) = acrL (jb6 ps ts n) c n false∧((s ++ [n]).filter fun x=>decide (x ∈ jb6 ps ts n)) = acrL (jb6 ps ts n) c n true:=by
 have e : (s.filter fun x=>decide (x ∈ jb6 ps ts n)) = c.filter fun x=>decide (x ∈ jb6 ps ts n):=by
  rw [← hc,List.filter_filter]
  refine List.filter_congr fun x hx=>?_
  by_cases q : x ∈ jb6 ps ts n
  ·obtain ⟨a,b,y,hy,d⟩:=jec.mp q
   have : x ∈ jb6 ps ts m:=jec.mpr ⟨a,hns _ (hs _ hx),y,hy,by omega⟩
   rw [decide_eq_true q,decide_eq_true this]
   rfl
  ·rw [decide_eq_false q]
   rfl
 unfold acrL
 refine ⟨e,?_⟩
 rw [if_pos rfl,List.filter_append,List.filter_append,e]
theorem jow : (covL (ns ++ [n]) ts n).Perm ((covL ns ts m).map (fun s=>s ++ [n]) ++ (covL ns ts m).filter (toT ts n)):=by
 have hsub : ∀ s ∈ subL ns,∀ x ∈ s,x ∈ ns:=fun s hs x hx=>(jcy ns s hs).subset hx
 unfold covL
 rw [jde,List.filter_append,List.filter_map]
 have e1 : (subL ns).filter ((toT ts n) ∘ fun s=>s ++ [n]) = (subL ns).filter (toT ts m):=List.filter_congr fun s hs=>toT_in htt hns hmn hgap (hsub s hs)
 have e2 : (subL ns).filter (toT ts n) = ((subL ns).filter (toT ts m)).filter (toT ts n):=by
  rw [List.filter_filter]
  refine List.filter_congr fun s hs=>?_
  rw [jl0 htt hns hmn hgap (hsub s hs)]
  cases toT ts m s <;> simp
 rw [e1,← e2]
 exact List.perm_append_comm
theorem GI.step {G : GL} {pr : Int} (h : GI ps ts ns m G) : GI ps ts (ns ++ [n]) n (stF VG (jb6 ps ts n) (jbb ts n) n pr G):=by
 have hin : ∀ g ∈ G,∀ s ∈ g.2,(∀ x ∈ s,x ∈ ns)∧toT ts m s = true:=fun g hg s hs=>by
  have:=h.pm.mem_iff.mp (List.mem_flatMap.mpr ⟨g,hg,hs⟩)
  unfold covL at this
  rw [List.mem_filter] at this
  exact ⟨fun x hx=>(jcy ns s this.1).subset hx,this.2⟩
 obtain ⟨a,b,c⟩:=jpw (edge:=jb6 ps ts n) (ahead:=jbb ts n) (n:=n) (pr:=pr) G [] (fun g hg=>⟨(h.ok g hg).1,fun s hs=>acr_s htt hns hmn hgap (hin g hg s hs).1 ((h.ok g hg).2 s hs)⟩) List.nodup_nil (fun _ h=>by cases h)
 refine ⟨a,b,c.trans ?_⟩
 rw [List.flatMap_nil,List.nil_append]
 refine List.Perm.trans ?_ (jow htt hns hmn hgap).symm
 have hG : ∀ (Gs : GL),(∀ g ∈ Gs,g ∈ G)→(Gs.flatMap (ctr (jbb ts n) n)).Perm ((Gs.flatMap (·.2)).map (fun s=>s ++ [n]) ++ (Gs.flatMap (·.2)).filter (toT ts n)):=fun Gs=>by
  induction Gs with
  | nil=>intro _; exact List.Perm.refl _
  | cons g r ih =>
   intro hsub
   have hg:=hsub g (.head _)
   rw [List.flatMap_cons,List.flatMap_cons,List.map_append,List.filter_append]
   have ef : (if ((jbb ts n).all fun q=>decide (q ∈ g.1)) = true then g.2 else []) = g.2.filter (toT ts n):=by
    have hall : ∀ s ∈ g.2,toT ts n s = (jbb ts n).all fun q=>decide (q ∈ g.1):=fun s hs=>by
     rw [jl0 htt hns hmn hgap (hin g hg s hs).1,(hin g hg s hs).2,Bool.true_and,jrs htt hns hmn hgap (hin g hg s hs).1 ((h.ok g hg).2 s hs)]
    split
    ·rename_i q
     exact (List.filter_eq_self.mpr fun s hs=>by rw [hall s hs]; exact q).symm
    ·rename_i q
     exact (List.filter_eq_nil_iff.mpr fun s hs=>by rw [hall s hs]; exact q).symm
   unfold ctr
   rw [ef]
   have:=ih fun x hx=>hsub x (.tail _ hx)
   refine (List.Perm.append_left _ this).trans ?_
   simp only [List.append_assoc]
   refine List.Perm.append_left _ ?_
   rw [← List.append_assoc,← List.append_assoc]
   exact List.Perm.append_right _ List.perm_append_comm
 exact (hG G fun _ h=>h).trans (List.Perm.append (h.pm.map _) (h.pm.filter _))
end
end My
namespace My
open PySem L2
noncomputable def mL (ps : List (Int × Int)) : Nat→Int
 | 0=>-1
 | i + 1=>((ps[i]?).map (·.1)).getD 0
theorem jia (ps : List (Int × Int)) (i : Nat) : mL ps (i + 1) = ((ps[i]?).map (·.1)).getD 0:=rfl
theorem jch {ps ts : List (Int × Int)} (wok : WebOk ps ts) : ∀ t ∈ ts,t.1 < t.2∧t.1 ∈ ps.map (·.1)∧t.2 ∈ ps.map (·.1):=fun t ht=>by
 obtain ⟨a,b,c⟩:=wok.t.at t ht
 obtain ⟨i,p,hp,e⟩:=jeb b
 obtain ⟨j,q,hq,f⟩:=jeb c
 exact ⟨a,e ▸ List.mem_map_of_mem (List.mem_of_getElem? hp),f ▸ List.mem_map_of_mem (List.mem_of_getElem? hq)⟩
theorem jr1 {ps : List (Int × Int)} (h : PlOk (-1) 0 ps) {i j : Nat} {p : Int × Int} (hj : ps[j]? = some p) (hji : j < i) (hi : i ≤ ps.length) : p.1 ≤ mL ps i:=by
 match i,hji with
 | i + 1,hji =>
  have e : ps[i]? = some ps[i]:=List.getElem?_eq_getElem (by omega)
  rw [jia,e]
  show p.1 ≤ (ps[i]).1
  rcases Nat.lt_or_eq_of_le (Nat.le_of_lt_succ hji) with c | c
  ·have:=h.rise j i p _ c hj e
   omega
  ·subst c
   rw [e] at hj
   cases hj
   exact Int.le_refl _
theorem mL_lt {ps : List (Int × Int)} (h : PlOk (-1) 0 ps) {i : Nat} {p : Int × Int} (hp : ps[i]? = some p) : mL ps i < p.1:=by
 match i,hp with
 | 0,hp=>exact h.gt p (List.mem_of_getElem? hp)
 | i + 1,hp =>
  have hl : i + 1 < ps.length:=(List.getElem?_eq_some_iff.mp hp).1
  have e : ps[i]? = some ps[i]:=List.getElem?_eq_getElem (by omega)
  rw [jia,e]
  exact h.rise i (i + 1) _ p (by omega) e hp
theorem jq5 {ps ts : List (Int × Int)} (wok : WebOk ps ts) : ∀ i,i ≤ ps.length→GI ps ts ((ps.take i).map (·.1)) (mL ps i) (alL VG ps ts [[]] (ps.take i))
 | 0,_=>by
  have hc : covL [] ts (-1) = [[]]:=by
   unfold covL
   show ([[]] : List (List Int)).filter (toT ts (-1)) = [[]]
   have : toT ts (-1) [] = true:=by
    unfold toT
    rw [List.all_eq_true]
    intro t ht
    obtain ⟨p,hp,e⟩:=List.mem_map.mp (jch wok t ht).2.2
    have:=wok.p.gt p hp
    rw [decide_eq_true (show -1 < t.2 by omega)]
    rfl
   rw [List.filter_cons,if_pos this]
   rfl
  refine ⟨?_,?_,?_⟩
  ·show ([[]] : List (List Int)).Nodup
   simp
  ·intro g hg
   have hg : g ∈ [(([] : List Int),[([] : List Int)])]:=hg
   rw [List.mem_singleton.mp hg]
   exact ⟨by simp,fun s hs=>by rw [List.mem_singleton.mp hs]; rfl⟩
  ·show ([[]] : List (List Int)).Perm (covL [] ts (-1))
   rw [hc]
 | i + 1,hi=>by
  have ih:=jq5 wok i (by omega)
  have e : ps[i]? = some ps[i]:=List.getElem?_eq_getElem (by omega)
  generalize ps[i] = p at e
  have hns : ∀ x ∈ (ps.take i).map (·.1),x ≤ mL ps i:=fun x hx=>by
   obtain ⟨q,hq,rfl⟩:=List.mem_map.mp hx
   obtain ⟨j,hj,e2⟩:=List.mem_iff_getElem.mp hq
   rw [List.length_take] at hj
   rw [List.getElem_take] at e2
   exact jr1 wok.p (j:=j) (by rw [List.getElem?_eq_getElem (by omega),e2]) (by omega) (by omega)
  have hgap : ∀ x ∈ ps.map (·.1),x ≤ mL ps i ∨ p.1 ≤ x:=fun x hx=>by
   obtain ⟨q,hq,rfl⟩:=List.mem_map.mp hx
   obtain ⟨j,hj,e2⟩:=List.mem_iff_getElem.mp hq
   have hj' : ps[j]? = some q:=by rw [List.getElem?_eq_getElem hj,e2]
   rcases Nat.lt_or_ge j i with c | c
   ·exact .inl (jr1 wok.p hj' c (by omega))
   ·right
    rcases Nat.lt_or_eq_of_le c with c | c
    ·have:=wok.p.rise i j p q c e hj'
     omega
    ·subst c
     rw [e] at hj'
     cases hj'
     exact Int.le_refl _
  have st:=GI.step (pr:=p.2) (jch wok) hns (mL_lt wok.p e) hgap ih
  have e1 : (ps.take (i + 1)).map (·.1) = (ps.take i).map (·.1) ++ [p.1]:=by rw [jaq e,List.map_append]; rfl
  have e2 : mL ps (i + 1) = p.1:=by rw [jia,e]; rfl
  rw [e1,e2,jjz VG ps ts [[]] e]
  exact st
theorem je8 : ∀ (ns : List Int),ns ∈ subL ns:=fun ns=>by
 have : ∀ (ns pre : List Int) (f : List (List Int)),pre ∈ f→pre ++ ns ∈ ns.foldl (fun f n=>f ++ f.map fun s=>s ++ [n]) f:=fun ns=>by
  induction ns with
  | nil=>intro pre f h; rw [List.append_nil]; exact h
  | cons a r ih =>
   intro pre f h
   rw [List.foldl_cons]
   have:=ih (pre ++ [a]) _ (List.mem_append_right f (List.mem_map_of_mem (f:=fun s=>s ++ [a]) h))
   simpa using this
 exact this ns [] [[]] (by simp)
noncomputable def touB (ts : List (Int × Int)) (s : List Int) : Bool:=ts.all fun t=>decide (t.1 ∈ s) || decide (t.2 ∈ s)
theorem jic {α β : Type} (h : α→β) (L : AL α) (c : List Int) : lkA (L.map fun x=>(x.1,h x.2)) c = (lkA L c).map h:=by
 unfold lkA
 rw [List.find?_map,Option.map_map,Option.map_map]
 rfl
theorem jfu {ps ts : List (Int × Int)} (wok : WebOk ps ts) : ∃ F,lkA (alL VG ps ts [[]] ps) [] = some F∧F.Perm ((subL (ps.map (·.1))).filter (touB ts)):=by
 have hg:=jq5 wok ps.length (Nat.le_refl _)
 rw [List.take_length] at hg
 generalize alL VG ps ts [[]] ps = G at hg
 have hle : ∀ x ∈ ps.map (·.1),x ≤ mL ps ps.length:=fun x hx=>by
  obtain ⟨q,hq,rfl⟩:=List.mem_map.mp hx
  obtain ⟨j,hj,e2⟩:=List.mem_iff_getElem.mp hq
  exact jr1 wok.p (j:=j) (by rw [List.getElem?_eq_getElem hj,e2]) hj (Nat.le_refl _)
 have ht:=jch wok
 have hed : ∀ x,x ∉ jb6 ps ts (mL ps ps.length):=fun x hx=>by
  obtain ⟨_,_,y,hy,c⟩:=jec.mp hx
  have hyp : y ∈ ps.map (·.1):=by
   rcases (jci fun t h=>(ht t h).1).mp hy with q | q
   ·exact (ht _ q).2.2
   ·exact (ht _ q).2.1
  have:=hle y hyp
  omega
 have hkey : ∀ g ∈ G,g.1 = []:=fun g hgm=>by
  obtain ⟨h1,h2⟩:=hg.ok g hgm
  match hF : g.2,h1 with
  | s :: r,_ =>
   rw [← h2 s (by rw [hF]; exact .head _)]
   exact List.filter_eq_nil_iff.mpr fun x _=>by rw [decide_eq_true_eq]; exact hed x
 have hcov : covL (ps.map (·.1)) ts (mL ps ps.length) = (subL (ps.map (·.1))).filter (touB ts):=by
  unfold covL
  refine List.filter_congr fun s _=>?_
  unfold toT touB
  rw [Bool.eq_iff_iff,List.all_eq_true,List.all_eq_true]
  have : ∀ t ∈ ts,decide (mL ps ps.length < t.2) = false:=fun t h=>decide_eq_false (by have:=hle _ (ht t h).2.2; omega)
  exact ⟨fun z t h=>by have q:=z t h; rw [this t h] at q; exact q,fun z t h=>by rw [this t h]; exact z t h⟩
 have hne : (ps.map (·.1)) ∈ (subL (ps.map (·.1))).filter (touB ts):=by
  rw [List.mem_filter]
  refine ⟨je8 _,?_⟩
  unfold touB
  rw [List.all_eq_true]
  intro t h
  rw [decide_eq_true (ht t h).2.1]
  rfl
 have hpm:=hg.pm
 rw [hcov] at hpm
 match G,hg.nd,hkey,hpm with
 | [],_,_,hpm =>
  have:=hpm.mem_iff.mpr hne
  cases this
 | [g],_,hkey,hpm =>
  refine ⟨g.2,?_,?_⟩
  ·unfold lkA
   rw [List.find?_cons,decide_eq_true (hkey g (.head _))]
   rfl
  ·rw [List.flatMap_cons,List.flatMap_nil,List.append_nil] at hpm
   exact hpm
 | g1 :: g2 :: r,hn,hkey,_ =>
  rw [List.map_cons,List.map_cons,List.nodup_cons] at hn
  exact absurd (by rw [hkey g1 (.head _),hkey g2 (.tail _ (.head _))]; exact .head _) hn.1
end My
namespace My
open PySem L2
section
variable {P : Program} {w : World} {K : PySem.W.Frag} {mg : Str→Option Value} {base : Heap} {c1 c2 c3 c4 : Tok}
theorem szg {n : Nat} (h : n ≤ 1000000) : n < sizeLine:=Nat.lt_of_le_of_lt h (by decide)
noncomputable def jfy (ps ts : List (Int × Int)) : Bool:=(ps.map (·.1)).all fun n=>decide ((jb6 ps ts n).length ≤ 6)
noncomputable def jl8 : Sp:=fun vs H Q _=>∃ v ps ts,vs = [v]∧jbr H v ps ts∧WebOk ps ts∧jfy ps ts = true∧∀ H',Same H H'→Q .non H'
noncomputable def jdq (H H' : Hp) (x : V) (s : List Int) : Prop:=jdr H' x s∧∀ a,x = .ref a→H a = none
noncomputable def jph : Sp:=fun vs H Q _=>∃ v ps ts,vs = [v]∧jbr H v ps ts∧ps.length ≤ 12∧∀ l xs H',H l = none→Same H H'→H' l = some (.lst xs)→Paired (jdq H H') xs (subL (ps.map (·.1)))→Q (.ref l) H'
noncomputable def spTou : Sp:=fun vs H Q _=>∃ v u ps ts s,vs = [v,u]∧jbr H v ps ts∧ts.length ≤ 120∧jdr H u s∧Q (.bl (touB ts s)) H
theorem je5 (ns : List Int) : (subL ns).length = 2 ^ ns.length:=by
 have : ∀ (ns : List Int) (f : List (List Int)),(ns.foldl (fun f n=>f ++ f.map fun s=>s ++ [n]) f).length = f.length * 2 ^ ns.length:=fun ns=>by
  induction ns with
  | nil=>intro f; simp
  | cons a r ih =>
   intro f
   rw [List.foldl_cons,ih,List.length_append,List.length_map,List.length_cons,Nat.pow_succ]
   have : f.length + f.length = f.length * 2:=by omega
   rw [this,Nat.mul_assoc,Nat.mul_comm 2]
 have:=this ns [[]]
 simpa [subL] using this
theorem jeo {α β : Type} {F : α→β→Prop} : ∀ {a : List α} {b : List β} {c : List α} {d : List β},Paired F a b→Paired F c d→Paired F (a ++ c) (b ++ d)
 | _,_,_,_,.nil,h=>h
 | _,_,_,_,.cons r t,h=>.cons r (jeo t h)
theorem je3 {f : Addr} {fd : FuncData} {f_look_at_web : Addr} {d_look_at_web : FuncData} {f_nears_in : Addr} {d_nears_in : FuncData} {f_edge_known : Addr} {d_edge_known : FuncData} (B : Blt mg) (D : DefAt K mg "look_at_edges" (top 40) ["web"] f fd) (D_look_at_web : DefAt K mg "look_at_web" (top 35) ["thing"] f_look_at_web d_look_at_web) (G_look_at_web : FnOk P w K mg base CX0 5 f_look_at_web d_look_at_web ["thing"] jgt) (D_nears_in : DefAt K mg "nears_in" (top 36) ["web"] f_nears_in d_nears_in) (G_nears_in : FnOk P w K mg base CX0 1 f_nears_in d_nears_in ["web"] jei) (D_edge_known : DefAt K mg "edge_known" (top 39) ["nears","place"] f_edge_known d_edge_known) (G_edge_known : FnOk P w K mg base CX0 1 f_edge_known d_edge_known ["nears","place"] jlb) {c5 : Tok} (hMA : mg "MOST_ACROSS" = some (.int 6 c5)) : FnOk P w K mg base CX0 7 f fd ["web"] jl8:=by
 have sc : FnScope ["web","nears","place"] ["web"] (ja7 (top 40)):=⟨rfl,rfl,rfl,by decide +kernel,rfl,by decide +kernel,by decide +kernel⟩
 refine D.F.ok sc (fun vs H Q E h=>?_) (fun cdv A outer s H vs Q E hr h=>?_)
 ·obtain ⟨v,ps,ts,rfl,_⟩:=h
  rfl
 obtain ⟨v,ps,ts,rfl,hw,wok,hwd,h⟩:=h
 have hnd:=wok.p.nodup
 have hpl:=wok.pl
 have htl:=wok.tl
 have hu:=jbi hr
 have hu0 : _ < PySem.cLine:=Nat.lt_of_succ_lt hu
 refine ⟨_,(ja4 (jbm (jac G_look_at_web (hr.mono (by decide)) rfl D_look_at_web.m D_look_at_web.F.kp D_look_at_web.b .nil jar (ja0 (qv 0) ja2))) (ja4 (jaj (i:=1) sc.nd rfl (Or.inl rfl) (jac G_nears_in (hr.mono (by decide)) rfl D_nears_in.m D_nears_in.F.kp D_nears_in.b .nil jar (ja0 (qv 0) ja2))) (ja6 (jbl PassesOwn.never rfl (jqs (qv 1)) (jab (i:=2) sc.nd rfl (Or.inl rfl)) (ja6 (jbf (jb3 q_gt (jaa jej rfl B.len PySem.boot_len (ja0 (jac G_edge_known (hr.mono (by decide)) rfl D_edge_known.m D_edge_known.F.kp D_edge_known.b .nil jar (ja0 (qv 1) (ja0 (qv 2) ja2))) ja2)) (jem (v:=.int 6) rfl hMA ⟨_,rfl⟩) (jap _)) (ja6 jcz) jai)))))),?_⟩
 refine jak fun R hR=>?_
 walk_at "RD"
 refine ⟨v,ps,ts,rfl,hw,wok,fun H1 s1=>?_⟩
 walk_at "RD"
 subst hR
 refine jak fun R hR=>?_
 walk_at "RD"
 refine ⟨v,ps,ts,rfl,hw.same s1,wok,fun nd as H2 hnd0 s2 end2 hla hnr=>?_⟩
 walk_at "RD"
 subst hR
 have s02:=s1.trans s2
 have hnd00 : H nd = none:=s1.free hnd0
 have hkl : (kz ps as).length = ps.length:=by
  have e:=congrArg List.length (jf4 hla.symm)
  rwa [List.length_map,List.length_map] at e
 refine jcx (ι:=Obj) (fun o=>Itd nd o (kz ps as)) (fun o=>upd H2 nd (.frz o (.dK (kz ps as)))) (fun _=>True) (fun R' hR'=>?_) (fun o _=>?_)
 ·unfold iDct
  walk_at "RD"
  exact ⟨nd,_,rfl,end2,fun o=>hR' o trivial⟩
 have b3 : But nd H2 (upd H2 nd (.frz o (.dK (kz ps as)))):=But.at nd H2 _
 have e3 : upd H2 nd (.frz o (.dK (kz ps as))) nd = some (.frz o (.dK (kz ps as))):=ja1
 generalize upd H2 nd (.frz o (.dK (kz ps as))) = H3 at b3 e3
 refine jon (Pv:=fun i σ H4=>∃ v2,σ = [some v,some (.ref nd),v2]∧Same H H4∧H4 nd = some (.frz o (.dK (kz ps as)))∧jnr H4 ps ts as) ⟨none,rfl,fun b u q=>b3 _ _ (fun z=>by rw [z,hnd00] at q; cases q) (s02 _ _ q),e3,fun i p a h1 h2=>b3 _ _ (fun z=>by have:=hnr i p a h1 h2; rw [z,end2] at this; cases this) (hnr i p a h1 h2)⟩ (fun i σ H4 _ ⟨_,_,_,q,_⟩=>q) ?_ ?_
 ·rintro i kv σ H4 hi ⟨v2,rfl,s4,e4,hnr4⟩
  obtain ⟨p,a,hp,ha,rfl⟩:=jr2 hla hi
  show jf7 2 (.int p.1) _ _ _
  walk_at "RD"
  refine ⟨nd,p.1,ps,ts,rfl,⟨as,.inr ⟨o,e4⟩,hla,hnr4⟩,hnd,hpl,htl,fun l H5 hl nl b5 nr5 hfz el=>?_⟩
  have hw9 : (jb6 ps ts p.1).length ≤ 6:=by
   unfold jfy at hwd
   rw [List.all_eq_true] at hwd
   exact of_decide_eq_true (hwd p.1 (List.mem_map_of_mem (List.mem_of_getElem? hp)))
  simp_arith [jal,el,List.length_map,decide_eq_false (show ¬ (6 : Int) < ((jb6 ps ts p.1).length : Int) by omega)]
  refine ⟨_,rfl,fun b u q=>b5 _ _ (fun z=>by rw [z,hnd00] at q; cases q) (s4 _ _ q),hfz _ _ e4,fun i p a h1 h2=>b5 _ _ (fun z=>by have:=hnr4 i p a h1 h2; rw [z,e4] at this; cases this) (hnr4 i p a h1 h2)⟩
 ·rintro σ H4 ⟨v2,rfl,s4,_⟩
  exact h _ s4
theorem jfk {f : Addr} {fd : FuncData}  (B : Blt mg) (D : DefAt K mg "_law_touches" (top 59) ["_law_web_here","_law_some"] f fd) : FnOk P w K mg base CX0 1 f fd ["_law_web_here","_law_some"] spTou:=by
 have sc : FnScope ["_law_web_here","_law_some","_law_one","_law_other"] ["_law_web_here","_law_some"] (ja7 (top 59)):=⟨rfl,rfl,rfl,by decide +kernel,rfl,by decide +kernel,by decide +kernel⟩
 refine D.F.ok sc (fun vs H Q E h=>?_) (fun cdv A outer s H vs Q E hr h=>?_)
 ·obtain ⟨v,u,ps,ts,s,rfl,_⟩:=h
  rfl
 obtain ⟨v,u,ps,ts,ss,rfl,hw,htl,⟨sa,rfl,es⟩,h⟩:=h
 obtain ⟨x,pa,ta,xs,ys,rfl,ex,ep,et,pp,pt⟩:=id hw
 have hly : ys.length = ts.length:=Paired.length pt
 have hu:=jbi hr
 have hu0 : _ < PySem.cLine:=Nat.lt_of_succ_lt hu
 refine ⟨_,(ja4 (jbl PassesOwn.never rfl (jb7 (jaf q_ix (qv 0) ja5 (fun _ _=>rfl))) (jbs (n:=2) rfl (jae (jab (i:=2) sc.nd rfl (Or.inl rfl)) (jae (jab (i:=3) sc.nd rfl (Or.inl rfl)) jbe))) (ja6 (jbf (PW.pt (jek (jb3 jjb (qv 2) (qv 1) (by with_unfolding_all rfl)) (jd7 (jb3 jjb (qv 3) (qv 1) (by with_unfolding_all rfl))))) (ja6 (jag jd8)) jai))) (ja6 (jag jd8))),?_⟩
 refine jak fun R hR=>?_
 refine jb9 (Itl K ta) H (fun R' hR'=>?_) (jbx (K:=K) (a:=ta) (xs:=ys) (fun i σ H1=>∃ v1 v2,σ = [some (.ref x),some (.ref sa),v1,v2]∧H1 = H∧touB ts ss = touB (ts.drop i) ss) ⟨none,none,rfl,rfl,rfl⟩ (fun i σ H1 _ ⟨_,_,_,e,_⟩=>e ▸ SqL.of et) ?_ ?_)
 ·unfold jcb
  simp_arith [jal,ex,at1]
  exact ⟨ta,rfl,⟨_,SqL.of et⟩,hR'⟩
 ·rintro i y σ H1 hi ⟨v1,v2,rfl,rfl,ht⟩
  obtain ⟨q,hq,t,rfl,etq⟩:=jad pt hi
  have hd : ts.drop i = q :: ts.drop (i + 1):=by
   obtain ⟨hi',e⟩:=List.getElem?_eq_some_iff.mp hq
   rw [List.drop_eq_getElem_cons hi',e]
  have hb : touB (ts.drop i) ss = ((decide (q.1 ∈ ss) || decide (q.2 ∈ ss)) && touB (ts.drop (i + 1)) ss):=by rw [hd]; rfl
  simp_arith [etq,jal,es,jig,jdn,jd3]
  by_cases c1 : q.1 ∈ ss
  ·rw [decide_eq_true c1]
   walk_at "RD"
   have T : touB ts ss = touB (ts.drop (i + 1)) ss:=by rw [ht,hb,decide_eq_true c1]; rfl
   first | exact ⟨_,_,rfl,T⟩ | exact ⟨_,_,rfl,rfl,T⟩ | exact T
  ·rw [decide_eq_false c1]
   walk_at "RD"
   by_cases c2 : q.2 ∈ ss
   ·rw [decide_eq_true c2]
    walk_at "RD"
    have T : touB ts ss = touB (ts.drop (i + 1)) ss:=by rw [ht,hb,decide_eq_false c1,decide_eq_true c2]; rfl
    first | exact ⟨_,_,rfl,T⟩ | exact ⟨_,_,rfl,rfl,T⟩ | exact T
   ·rw [decide_eq_false c2]
    walk_at "RD"
    rw [ht,hb,decide_eq_false c1,decide_eq_false c2] at h
    exact h
 ·rintro σ H1 ⟨v1,v2,rfl,rfl,ht⟩
  rw [hly,List.drop_length] at ht
  walk_at "RD"
  subst hR
  walk_at "RD"
  rw [ht] at h
  exact h
theorem ji3 {f : Addr} {fd : FuncData}  (B : Blt mg) (D : DefAt K mg "_law_sets" (top 58) ["_law_web_here"] f fd) : FnOk P w K mg base CX0 1 f fd ["_law_web_here"] jph:=by
 have sc : FnScope ["_law_web_here","_law_some","_law_place","_law_price"] ["_law_web_here"] (ja7 (top 58)):=⟨rfl,rfl,rfl,by decide +kernel,rfl,by decide +kernel,by decide +kernel⟩
 refine D.F.ok sc (fun vs H Q E h=>?_) (fun cdv A outer s H vs Q E hr h=>?_)
 ·obtain ⟨v,ps,ts,rfl,_⟩:=h
  rfl
 obtain ⟨v,ps,ts,rfl,hw,hp12,h⟩:=h
 obtain ⟨x0,pa,ta,xs0,ys0,rfl,ex,ep,et,pp,pt⟩:=id hw
 have hlx0 : xs0.length = ps.length:=Paired.length pp
 obtain ⟨ns,hns⟩ : ∃ ns,ns = ps.map (·.1):=⟨_,rfl⟩
 have hnl : ns.length = ps.length:=by rw [hns,List.length_map]
 have hl : ns.length ≤ 12:=by omega
 have hu:=jbi hr
 have hu0 : _ < PySem.cLine:=Nat.lt_of_succ_lt hu
 refine ⟨_,(ja4 (jaj (i:=1) sc.nd rfl (Or.inl rfl) (jas (ja0 (jas ja2) ja2))) (ja4 (jbl PassesOwn.never rfl (jb7 (jaf q_ix (qv 0) ja5 (fun _ _=>rfl))) (jbs (n:=2) rfl (jae (jab (i:=2) sc.nd rfl (Or.inr rfl)) (jae (jab (i:=3) sc.nd rfl (Or.inl rfl)) jbe))) (ja6 (jaj (i:=1) sc.nd rfl (Or.inl rfl) (jaw jhx (qv 1) (jbv (CpScope.of (N:=["_law_one","_law_place"]) (src:=[none,some 2]) (by rfl)) rfl (jb7 (qv 1)) (fun _ _ _ _=>(jab (i:=0) (jah (l:=["_law_one","_law_place"]) (by rfl)) rfl (Or.inl rfl))) (fun _ _ _ _=>jca) (fun _ _ _ _=>(jaw jhx (qv 0) (jas (ja0 (qv 1) ja2))))))))) (ja6 (jag (qv 1))))),?_⟩
 walk_at "RD"
 intro e0 he0
 have s0:=ja3 he0 (.lst [])
 have ee0 : upd H e0 (.lst []) e0 = some (.lst []):=ja1
 generalize upd H e0 (.lst []) = H0 at s0 ee0
 intro f0 hf0
 have s1:=s0.trans (ja3 hf0 (.lst [.ref e0]))
 have ef1 : upd H0 f0 (.lst [.ref e0]) f0 = some (.lst [.ref e0]):=ja1
 have ee1:=ja3 hf0 (.lst [.ref e0]) _ _ ee0
 have hf00:=s0.free hf0
 generalize upd H0 f0 (.lst [.ref e0]) = H1 at s1 ef1 ee1
 refine jb9 (Itl K pa) H1 (fun R hR=>?_) (jbx (K:=K) (a:=pa) (xs:=xs0) (fun i σ H2=>∃ fa xs v1 v2,σ = [some (.ref x0),some (.ref fa),v1,v2]∧Same H H2∧H fa = none∧H2 fa = some (.lst xs)∧Paired (jdq H H2) xs (subL (ns.take i))) ⟨f0,_,none,none,rfl,s1,hf00,ef1,.cons ⟨⟨e0,rfl,ee1⟩,fun a q=>by cases q; exact he0⟩ .nil⟩ (fun i σ H2 _ ⟨_,_,_,_,_,s2,_⟩=>SqL.of (s2 _ _ ep)) ?_ ?_)
 ·unfold jcb
  simp_arith [jal,s1 _ _ ex,at0]
  exact ⟨pa,rfl,⟨_,SqL.of (s1 _ _ ep)⟩,hR⟩
 ·rintro i y σ H2 hi ⟨fa,xs,v1,v2,rfl,s2,hfa,ef2,pz⟩
  obtain ⟨⟨n,pr⟩,hq,tq,rfl,etq⟩:=jad pp hi
  have etq2:=s2 _ _ etq
  dsimp only at etq2
  have hn : ns[i]? = some n:=by rw [hns,List.getElem?_map,hq]; rfl
  have hin : i < ns.length:=(List.getElem?_eq_some_iff.mp hn).1
  have hsl : (subL (ns.take i)).length ≤ 4096:=by
   rw [je5,List.length_take]
   exact Nat.le_trans (Nat.pow_le_pow_right (by decide) (show min i ns.length ≤ 12 by omega)) (by decide)
  have hxl : xs.length = (subL (ns.take i)).length:=Paired.length pz
  simp_arith [etq2]
  refine jan (Itl K fa) H2 (fun R hR=>?_) (fun z hz=>jb2 (subL (ns.take i)).length (fun j σ' Hc=>∃ w1 ys,σ' = [w1,some (.int n)]∧Same H2 Hc∧Hc z = some (.lst ys)∧Paired (fun x s=>jdq H Hc x s∧x ≠ .ref z) ys (((subL (ns.take i)).take j).map fun s=>s ++ [n])) ⟨none,[],rfl,ja3 hz _,ja1,.nil⟩ ?_ ?_)
  ·unfold jcb
   walk_at "RD"
   exact ⟨fa,rfl,⟨_,SqL.of ef2⟩,hR⟩
  ·rintro j σ' Hc hj ⟨w1,ys,rfl,s3,ez,pys⟩
   have hyl : ys.length = j:=by
    have:=Paired.length pys
    rw [List.length_map,List.length_take] at this
    omega
   have x1 : xs[j]? = some (xs[j]'(by omega)):=List.getElem?_eq_getElem _
   have z1 : SqL K Hc fa xs:=SqL.of (s3 _ _ ef2)
   refine ⟨⟨_,_,z1,x1⟩,?_⟩
   rintro y H' ⟨rfl,hy⟩
   obtain ⟨ss,hss,⟨sa,rfl,es⟩,_⟩:=jad pz (hy _ z1)
   have hs12:=(jcy _ _ (List.mem_of_getElem? hss)).length_le
   rw [List.length_take] at hs12
   walk_at "RD"
   intro c1 hc1
   have s4:=ja3 hc1 (.lst [.int n])
   have ec4 : upd H' c1 (.lst [.int n]) c1 = some (.lst [.int n]):=ja1
   have es4:=s4 _ _ (s3 _ _ es)
   have ez4:=s4 _ _ ez
   have py4 : Paired (fun x s=>jdq H (upd H' c1 (.lst [.int n])) x s∧x ≠ .ref z) ys _:=Paired.mapP pys fun _ _ q=>⟨⟨q.1.1.same s4,q.1.2⟩,q.2⟩
   have s34:=s3.trans s4
   generalize upd H' c1 (.lst [.int n]) = H4 at s4 ec4 es4 ez4 py4 s34
   simp only [es4,ec4]
   refine ⟨?_,?_⟩
   ·have : (1000000 : Nat) ≤ sizeLine:=by decide
    rw [List.length_map]
    show ss.length + 1 ≤ _
    omega
   intro c2 hc2
   have s5:=ja3 hc2 (.lst (ss.map V.int ++ [.int n]))
   have ec5 : upd H4 c2 (.lst (ss.map V.int ++ [.int n])) c2 = some (.lst (ss.map V.int ++ [.int n])):=ja1
   have ez5:=s5 _ _ ez4
   have py5 : Paired (fun x s=>jdq H (upd H4 c2 (.lst (ss.map V.int ++ [.int n]))) x s∧x ≠ .ref z) ys _:=Paired.mapP py4 fun _ _ q=>⟨⟨q.1.1.same s5,q.1.2⟩,q.2⟩
   have hc20 : H c2 = none:=(s2.trans s34).free hc2
   have s35:=s34.trans s5
   have nz : c2 ≠ z:=(ja9 ez4 hc2).symm
   generalize upd H4 c2 (.lst (ss.map V.int ++ [.int n])) = H5 at s5 ec5 ez5 py5 s35
   refine ⟨_,ez5,szg (by omega),_,_,rfl,jao s35 hz,ja1,?_⟩
   rw [jaq hss,List.map_append]
   refine jaz (Paired.mapP py5 fun _ _ ⟨⟨⟨a,q1,q2⟩,q4⟩,q3⟩=>⟨⟨⟨a,q1,?_⟩,q4⟩,q3⟩) ⟨⟨⟨c2,rfl,?_⟩,fun a q=>by cases q; exact hc20⟩,fun q=>nz (by cases q; rfl)⟩
   ·rw [ja8 (fun q=>q3 (by rw [q1,q]))]
    exact q2
   ·rw [ja8 nz,List.map_append]
    exact ec5
  rintro σ' H3 ⟨w1,ys,rfl,s3,ez,pys⟩
  refine ⟨⟨_,SqL.of (s3 _ _ ef2),by omega⟩,?_⟩
  rw [List.take_length] at pys
  have ef3:=s3 _ _ ef2
  simp_arith [ef3,ez]
  have hyl : ys.length = (subL (ns.take i)).length:=by
   have:=Paired.length pys
   rwa [List.length_map] at this
  refine ⟨?_,fun c hc=>?_⟩
  ·have : (1000000 : Nat) ≤ sizeLine:=by decide
   omega
  have s4:=ja3 hc (.lst (xs ++ ys))
  refine ⟨c,_,_,_,rfl,(s2.trans s3).trans s4,(s2.trans s3).free hc,ja1,?_⟩
  rw [jaq hn,jde]
  exact jeo (Paired.mapP pz fun _ _ q=>⟨q.1.same (s3.trans s4),q.2⟩) (Paired.mapP pys fun _ _ q=>⟨q.1.1.same s4,q.1.2⟩)
 ·rintro σ H2 ⟨fa,xs,v1,v2,rfl,s2,hfa,ef2,pz⟩
  rw [hlx0,← hnl,List.take_length,hns] at pz
  walk_at "RD"
  exact h fa xs H2 hfa s2 ef2 pz
end
end My
namespace L2
open PySem PySem.Spec PyProof.Rows
end L2
namespace My
open PySem L2
section
variable {P : Program} {w : World} {K : PySem.W.Frag} {mg : Str→Option Value} {base : Heap} {c1 c2 c3 c4 : Tok}
noncomputable def webD (ps ts : List (Int × Int)) : Dt:=.tup [.lst (ps.map jcn),.lst (ts.map jcn)]
theorem jbr.rep {H : Hp} {v : V} {ps ts : List (Int × Int)} (h : jbr H v ps ts) : Rep H (webD ps ts) v:=by
 obtain ⟨u,pa,ta,xs,ys,e,h1,h2,h3,h4,h5⟩:=h
 rw [webD,Rep]
 refine ⟨u,_,e,h1,?_⟩
 rw [Reps]
 refine ⟨_,_,rfl,?_,?_⟩
 ·rw [Rep]
  exact ⟨pa,xs,rfl,h2,Prs.reps h4⟩
 ·rw [Reps]
  refine ⟨_,_,rfl,?_,(by rw [Reps])⟩
  rw [Rep]
  exact ⟨ta,ys,rfl,h3,Prs.reps h5⟩
theorem jcf : ∀ (ps : List (Int × Int)),deps (ps.map jcn) ≤ 2∧wids (ps.map jcn) ≤ 2
 | []=>by rw [List.map_nil,deps,wids]; omega
 | p :: r=>by
  have h:=jcf r
  have e1 : dep (jcn p) = 2:=by simp [jcn,dep,deps]
  have e2 : wid (jcn p) = 2:=by simp [jcn,wid,wids]
  rw [List.map_cons,deps,wids,e1,e2]
  omega
theorem jfc : ∀ (ns : List Int),deps (ns.map Dt.int) ≤ 1∧wids (ns.map Dt.int) = 0
 | []=>by rw [List.map_nil,deps,wids]; omega
 | n :: r=>by
  have h:=jfc r
  rw [List.map_cons,deps,wids]
  have e1 : dep (Dt.int n) = 1:=by simp [dep]
  have e2 : wid (Dt.int n) = 0:=by simp [wid]
  rw [e1,e2]
  omega
theorem jrj (ps ts : List (Int × Int)) : dep (webD ps ts) ≤ 4:=by
 have h1:=(jcf ps).1
 have h2:=(jcf ts).1
 simp only [webD,dep,deps]
 omega
theorem jq8 {ps ts : List (Int × Int)} (h1 : ps.length ≤ 40) (h2 : ts.length ≤ 120) : wid (webD ps ts) ≤ 1000:=by
 have h3:=(jcf ps).2
 have h4:=(jcf ts).2
 simp only [webD,wid,wids,List.length_map,List.length_cons,List.length_nil]
 omega
theorem jj8 {H : Hp} : ∀ (ns : List Int),Reps H (ns.map Dt.int) (ns.map V.int)
 | []=>by rw [List.map_nil,Reps]; rfl
 | n :: r=>by
  rw [List.map_cons,List.map_cons,Reps]
  exact ⟨_,_,rfl,by rw [Rep],jj8 r⟩
theorem repL {H : Hp} {a : Addr} {ns : List Int} (e : H a = some (.lst (ns.map V.int))) : Rep H (.lst (ns.map Dt.int)) (.ref a):=by
 rw [Rep]
 exact ⟨a,_,rfl,e,jj8 ns⟩
theorem rep_flat (n : Nat) : (List.replicate n [V.int 0]).flatten = (List.replicate n (0 : Int)).map V.int:=by
 induction n with
 | zero=>rfl
 | succ n ih=>rw [List.replicate_succ,List.flatten_cons,ih,List.replicate_succ,List.map_cons]; rfl
theorem jn5 {ps ts : List (Int × Int)} (wok : WebOk ps ts) {n : Int} : jb6 ps ts n = (ps.map (·.1)).filter fun one=>decide (one ≤ n) && decide ((ts.filter fun t=>decide (t.1 = one) && decide (n < t.2)) ≠ []):=by
 unfold jb6
 refine List.filter_congr fun x _=>?_
 by_cases c : x ≤ n
 ·rw [decide_eq_true c,Bool.true_and,Bool.true_and,Bool.eq_iff_iff,List.any_eq_true,decide_eq_true_eq]
  constructor
  ·rintro ⟨y,hy,h⟩ z
   have h:=of_decide_eq_true h
   rcases (jci fun t ht=>(jch wok t ht).1).mp hy with q | q
   ·have:=List.filter_eq_nil_iff.mp z _ q
    simp at this
    omega
   ·have:=(jch wok _ q).1
    dsimp only at this
    omega
  ·intro z
   obtain ⟨t,ht⟩:=List.exists_mem_of_ne_nil _ z
   rw [List.mem_filter,Bool.and_eq_true,decide_eq_true_eq,decide_eq_true_eq] at ht
   exact ⟨t.2,(jci fun t ht=>(jch wok t ht).1).mpr (.inl (by rw [← ht.2.1]; exact ht.1)),decide_eq_true ht.2.2⟩
 ·rw [decide_eq_false c]
  rfl
noncomputable def jla : Sp:=fun vs H Q _=>∃ v n ps ts,vs = [v,.int n]∧jbr H v ps ts∧WebOk ps ts∧∀ l H',Same H H'→H' l = some (.lst ((jb6 ps ts n).map V.int))→Q (.ref l) H'
noncomputable def jpe : Sp:=fun vs H Q _=>∃ v ps ts,vs = [v]∧jbr H v ps ts∧WebOk ps ts∧(jfy ps ts = true→∀ H',Same H H'→Q .non H')∧∀ p H',Same H H'→Q (.int p) H'
theorem joq {ts : List (Int × Int)} : eqP (.lst (ts.map jcn)) (.lst []) = decide (ts = []):=by
 cases ts with
 | nil=>rfl
 | cons a r=>rw [eqP]; rfl
theorem jou : ∀ (ts : List (Int × Int)),depP (.lst (ts.map jcn)) ≤ 20:=fun ts=>by
 have : ∀ ts : List (Int × Int),jd4 (ts.map jcn) ≤ 1:=fun ts=>by
  induction ts with
  | nil=>simp [jd4]
  | cons a r ih =>
   rw [List.map_cons,jd4]
   have : depP (jcn a) = 1:=by simp [jcn,depP,jd4]
   omega
 rw [depP]
 have:=this ts
 omega
theorem ji5 {f : Addr} {fd : FuncData}  (B : Blt mg) (D : DefAt K mg "_law_edge" (top 62) ["_law_web_here","_law_place"] f fd) : FnOk P w K mg base CX0 1 f fd ["_law_web_here","_law_place"] jla:=by
 have sc : FnScope ["_law_web_here","_law_place","_law_told","_law_one","_law_price","_law_later"] ["_law_web_here","_law_place"] (ja7 (top 62)):=⟨rfl,rfl,rfl,by decide +kernel,rfl,by decide +kernel,by decide +kernel⟩
 refine D.F.ok sc (fun vs H Q E h=>?_) (fun cdv A outer s H vs Q E hr h=>?_)
 ·obtain ⟨v,n,ps,ts,rfl,_⟩:=h
  rfl
 obtain ⟨v,n,ps,ts,rfl,hw,wok,h⟩:=h
 obtain ⟨x,pa,ta,xs,ys,rfl,ex,ep,et,pp,pt⟩:=id hw
 have hlx : xs.length = ps.length:=Paired.length pp
 have hly : ys.length = ts.length:=Paired.length pt
 have hpl:=wok.pl
 have htl:=wok.tl
 have hu:=jbi hr
 have hu0 : _ < PySem.cLine:=Nat.lt_of_succ_lt hu
 refine ⟨_,(ja4 (jaj (i:=2) sc.nd rfl (Or.inl rfl) (jas ja2)) (ja4 (jbl PassesOwn.never rfl (jb7 (jaf q_ix (qv 0) ja5 (fun _ _=>rfl))) (jbs (n:=2) rfl (jae (jab (i:=3) sc.nd rfl (Or.inr rfl)) (jae (jab (i:=4) sc.nd rfl (Or.inl rfl)) jbe))) (ja4 (jhz (i:=5) sc.nd rfl (Or.inl rfl) (CpScope.of (N:=["_law_tie","_law_one","_law_place"]) (src:=[none,some 3,some 1]) (by rfl)) rfl (jb7 (jaf q_ix (qv 0) ja5 (fun _ _=>rfl))) (fun _ _ _ _=>(jab (i:=0) (jah (l:=["_law_tie","_law_one","_law_place"]) (by rfl)) rfl (Or.inl rfl))) (fun _ _ _ _=>(jel (PW.pt (jek (jb3 q_eq (jaf q_ix (qv 0) ja5 (fun _ _=>rfl)) (qv 1) (jap _)) (jd7 (jb3 q_gt (jaf q_ix (qv 0) ja5 (fun _ _=>rfl)) (qv 2) (jap _))))))) (fun _ _ _ _=>(qv 0))) (ja6 (jbf (PW.pt (jek (jb3 q_le (qv 3) (qv 1) (jap _)) (jd7 (jb3 (op_neD hr.units) (qv 5) (jas ja2) (jap _))))) (ja6 (jbm (q_bm PySem.F.plainAttrs_list PySem.F.slot_list_append PySem.F.type_list_append jc4 (qv 2) (ja0 (qv 3) ja2)))) jai)))) (ja6 (jag (qv 2))))),?_⟩
 refine jak fun R hR=>?_
 walk_at "RD"
 intro tl htl0
 have s1:=ja3 htl0 (.lst [])
 have e1 : upd H tl (.lst []) tl = some (.lst []):=ja1
 generalize upd H tl (.lst []) = H1 at s1 e1
 subst hR
 refine jak fun R hR=>?_
 refine jb9 (Itl K pa) H1 (fun R' hR'=>?_) (jbx (K:=K) (a:=pa) (xs:=xs) (fun i σ H2=>∃ v1 v2 v3,σ = [some (.ref x),some (.int n),some (.ref tl),v1,v2,v3]∧Same H H2∧H2 tl = some (.lst ((((ps.map (·.1)).take i).filter fun one=>decide (one ≤ n) && decide ((ts.filter fun t=>decide (t.1 = one) && decide (n < t.2)) ≠ [])).map V.int))) ⟨none,none,none,rfl,s1,e1⟩ (fun i σ H2 _ ⟨_,_,_,_,s2,_⟩=>SqL.of (s2 _ _ ep)) ?_ ?_)
 ·unfold jcb
  simp_arith [jal,s1 _ _ ex,at0]
  exact ⟨pa,rfl,⟨_,SqL.of (s1 _ _ ep)⟩,hR'⟩
 ·rintro i y σ H2 hi ⟨v1,v2,v3,rfl,s2,e2⟩
  obtain ⟨⟨one,pr⟩,hq,tq,rfl,etq⟩:=jad pp hi
  have hil : i < ps.length:=(List.getElem?_eq_some_iff.mp hq).1
  have etq2:=s2 _ _ etq
  dsimp only at etq2
  have hn : (ps.map (·.1))[i]? = some one:=by rw [List.getElem?_map,hq]; rfl
  simp only [jki,jfv,jkj,jf7,etq2,List.length_cons,List.length_nil,List.set_cons_zero,List.set_cons_succ,true_and,Nat.reduceAdd]
  refine jak fun R9 hR9=>?_
  walk_at "RD"
  refine jan (Itl K ta) H2 (fun R2 hR2=>?_) (fun z hz=>jb2 ts.length (fun j σ' Hc=>∃ w1 zs,σ' = [w1,some (.int one),some (.int n)]∧Same H2 Hc∧Hc z = some (.lst zs)∧Prs Hc zs ((ts.take j).filter fun t=>decide (t.1 = one) && decide (n < t.2))) ⟨none,[],rfl,ja3 hz _,ja1,.nil⟩ ?_ ?_)
  ·unfold jcb
   simp_arith [jal,s2 _ _ ex,at1]
   exact ⟨ta,rfl,⟨_,SqL.of (s2 _ _ et)⟩,hR2⟩
  ·rintro j σ' Hc hj ⟨w1,zs,rfl,s3,ez,pz⟩
   have x1 : ys[j]? = some (ys[j]'(by omega)):=List.getElem?_eq_getElem _
   have z1 : SqL K Hc ta ys:=SqL.of (s3 _ _ (s2 _ _ et))
   refine ⟨⟨_,_,z1,x1⟩,?_⟩
   rintro y H' ⟨rfl,hy⟩
   obtain ⟨q,hqt,pq⟩:=jad pt (hy _ z1)
   obtain ⟨t,rfl,ht⟩:=pq.same (s2.trans s3)
   have hz9 : zs.length ≤ 120:=by
    have a1:=Paired.length pz
    have a2:=List.length_filter_le (fun t : Int × Int=>decide (t.1 = one) && decide (n < t.2)) (ts.take j)
    rw [List.length_take] at a2
    omega
   rw [jbu hqt]
   simp_arith [ht,jal,at0,at1]
   by_cases c1 : q.1 = one
   ·rw [decide_eq_true c1]
    walk_at "RD"
    by_cases c2 : n < q.2
    ·rw [decide_eq_true c2]
     simp only [Bool.true_and,if_true]
     refine ⟨_,ez,szl' (by omega),_,_,rfl,jao s3 hz,ja1,jaz (Paired.mapP pz fun _ _ ⟨t',e',q'⟩=>⟨t',e',by rw [ja8 (fun w9=>by rw [w9,ez] at q'; cases q')]; exact q'⟩) ⟨t,rfl,by rw [ja8 (fun w9=>by rw [w9,ez] at ht; cases ht)]; exact ht⟩⟩
    ·rw [decide_eq_false c2]
     simp only [Bool.true_and,Bool.false_eq_true,if_false,List.append_nil]
     exact ⟨_,zs,rfl,s3,ez,pz⟩
   ·rw [decide_eq_false c1]
    walk_at "RD"
    simp only [Bool.false_and,Bool.false_eq_true,if_false,List.append_nil]
    exact ⟨_,zs,rfl,s3,ez,pz⟩
  rintro σ' H3 ⟨w1,zs,rfl,s3,ez,pz⟩
  refine ⟨⟨_,SqL.of (s3 _ _ (s2 _ _ et)),by omega⟩,?_⟩
  rw [List.take_length] at pz
  walk_at "RD"
  subst hR9
  have e3:=s3 _ _ e2
  have s03:=s2.trans s3
  walk_at "RD"
  have fin : ∀ H4,Same H3 H4→∀ bb : Bool,(decide (one ≤ n) && decide ((ts.filter fun t=>decide (t.1 = one) && decide (n < t.2)) ≠ [])) = bb→(if bb = true then Same H (upd H4 tl (.lst ((((ps.map (·.1)).take i).filter fun one=>decide (one ≤ n) && decide ((ts.filter fun t=>decide (t.1 = one) && decide (n < t.2)) ≠ [])).map V.int ++ [.int one])))∧(upd H4 tl (.lst ((((ps.map (·.1)).take i).filter fun one=>decide (one ≤ n) && decide ((ts.filter fun t=>decide (t.1 = one) && decide (n < t.2)) ≠ [])).map V.int ++ [.int one]))) tl = some (.lst ((((ps.map (·.1)).take (i + 1)).filter fun one=>decide (one ≤ n) && decide ((ts.filter fun t=>decide (t.1 = one) && decide (n < t.2)) ≠ [])).map V.int)) else Same H H4∧H4 tl = some (.lst ((((ps.map (·.1)).take (i + 1)).filter fun one=>decide (one ≤ n) && decide ((ts.filter fun t=>decide (t.1 = one) && decide (n < t.2)) ≠ [])).map V.int))):=by
   intro H4 s4 bb hbb
   rw [jbu hn,hbb]
   cases bb with
   | true =>
    rw [if_pos rfl,if_pos rfl]
    exact ⟨jao (s03.trans s4) htl0,by rw [ja1,List.map_append]; rfl⟩
   | false =>
    rw [if_neg (by decide),if_neg (by decide),List.append_nil]
    exact ⟨s03.trans s4,s4 _ _ e3⟩
  by_cases c : one ≤ n
  ·rw [decide_eq_true c]
   walk_at "RD"
   intro c1 hc1
   have s4:=ja3 hc1 (.lst [])
   have r1 : Rep (upd H3 c1 (.lst [])) (.lst ((ts.filter fun t=>decide (t.1 = one) && decide (n < t.2)).map jcn)) (.ref z):=by
    rw [Rep]
    exact ⟨z,_,rfl,s4 _ _ ez,Prs.reps (Prs.same s4 pz)⟩
   have r2 : Rep (upd H3 c1 (.lst [])) (.lst []) (.ref c1):=by
    rw [Rep]
    exact ⟨c1,[],rfl,ja1,by rw [Reps]⟩
   have e4:=s4 _ _ e3
   have fn:=fin _ s4
   generalize upd H3 c1 (.lst []) = H4 at s4 r1 r2 e4 fn
   refine ⟨_,_,r1,r2,jou _,.inl ⟨_,_,rfl,rfl⟩,?_⟩
   rw [joq]
   by_cases d : (ts.filter fun t=>decide (t.1 = one) && decide (n < t.2)) = []
   ·have f:=fn false (by rw [decide_eq_true c,decide_eq_false (fun z=>z d)]; rfl)
    rw [if_neg (by decide)] at f
    rw [decide_eq_true d]
    walk_at "RD"
    exact ⟨_,_,_,rfl,f.1,f.2⟩
   ·have f:=fn true (by rw [decide_eq_true c,decide_eq_true d]; rfl)
    rw [if_pos rfl] at f
    rw [decide_eq_false d]
    walk_at "RD"
    refine ⟨⟨tl,_,rfl,e4⟩,?_⟩
    simp only [e4]
    refine ⟨?_,_,_,_,rfl,f.1,f.2⟩
    rw [List.length_map]
    exact szl' (Nat.le_trans (List.length_filter_le _ _) (by rw [List.length_take,List.length_map]; omega))
  ·rw [decide_eq_false c]
   have f:=fin H3 (Same.refl _) false (by rw [decide_eq_false c]; rfl)
   rw [if_neg (by decide)] at f
   walk_at "RD"
   exact ⟨_,_,_,rfl,f.1,f.2⟩
 ·rintro σ H2 ⟨v1,v2,v3,rfl,s2,e2⟩
  rw [hlx,← List.length_map (f:=(·.1)),List.take_length,← jn5 wok] at e2
  walk_at "RD"
  subst hR
  walk_at "RD"
  exact h tl H2 s2 e2
theorem jeu {f : Addr} {fd : FuncData} {f_law_edge : Addr} {d_law_edge : FuncData} (B : Blt mg) (D : DefAt K mg "_law_too_wide" (top 63) ["_law_web_here"] f fd) (D_law_edge : DefAt K mg "_law_edge" (top 62) ["_law_web_here","_law_place"] f_law_edge d_law_edge) (G_law_edge : FnOk P w K mg base CX0 1 f_law_edge d_law_edge ["_law_web_here","_law_place"] jla) : FnOk P w K mg base CX0 2 f fd ["_law_web_here"] jpe:=by
 have sc : FnScope ["_law_web_here","_law_place","_law_price"] ["_law_web_here"] (ja7 (top 63)):=⟨rfl,rfl,rfl,by decide +kernel,rfl,by decide +kernel,by decide +kernel⟩
 refine D.F.ok sc (fun vs H Q E h=>?_) (fun cdv A outer s H vs Q E hr h=>?_)
 ·obtain ⟨v,ps,ts,rfl,_⟩:=h
  rfl
 obtain ⟨v,ps,ts,rfl,hw,wok,h1,h2⟩:=h
 obtain ⟨x,pa,ta,xs,ys,rfl,ex,ep,et,pp,pt⟩:=id hw
 have hlx : xs.length = ps.length:=Paired.length pp
 have hu:=jbi hr
 have hu0 : _ < PySem.cLine:=Nat.lt_of_succ_lt hu
 refine ⟨_,(ja4 (jbl PassesOwn.never rfl (jb7 (jaf q_ix (qv 0) ja5 (fun _ _=>rfl))) (jbs (n:=2) rfl (jae (jab (i:=1) sc.nd rfl (Or.inl rfl)) (jae (jab (i:=2) sc.nd rfl (Or.inl rfl)) jbe))) (ja6 (jbf (jb3 q_gt (jaa jej rfl B.len PySem.boot_len (ja0 (jac G_law_edge (hr.mono (by decide)) rfl D_law_edge.m D_law_edge.F.kp D_law_edge.b .nil jar (ja0 (qv 0) (ja0 (qv 1) ja2))) ja2)) ja5 (jap _)) (ja6 (jag (qv 1))) jai))) (ja6 (jag jjf))),?_⟩
 refine jak fun R hR=>?_
 refine jb9 (Itl K pa) H (fun R' hR'=>?_) (jbx (K:=K) (a:=pa) (xs:=xs) (fun i σ H2=>∃ v1 v2,σ = [some (.ref x),v1,v2]∧Same H H2∧((ps.map (·.1)).take i).all (fun n=>decide ((jb6 ps ts n).length ≤ 6)) = true) ⟨none,none,rfl,Same.refl _,rfl⟩ (fun i σ H2 _ ⟨_,_,_,s2,_⟩=>SqL.of (s2 _ _ ep)) ?_ ?_)
 ·unfold jcb
  simp_arith [jal,ex,at0]
  exact ⟨pa,rfl,⟨_,SqL.of ep⟩,hR'⟩
 ·rintro i y σ H2 hi ⟨v1,v2,rfl,s2,hall⟩
  obtain ⟨⟨one,pr⟩,hq,tq,rfl,etq⟩:=jad pp hi
  have etq2:=s2 _ _ etq
  dsimp only at etq2
  have hn : (ps.map (·.1))[i]? = some one:=by rw [List.getElem?_map,hq]; rfl
  simp_arith [etq2]
  refine ⟨_,one,ps,ts,rfl,hw.same s2,wok,fun l H3 s3 el=>?_⟩
  simp_arith [jal,el,List.length_map]
  by_cases c : (6 : Int) < ((jb6 ps ts one).length : Int)
  ·rw [decide_eq_true c]
   walk_at "RD"
   exact h2 one H3 (s2.trans s3)
  ·rw [decide_eq_false c]
   walk_at "RD"
   refine ⟨_,_,rfl,s2.trans s3,?_⟩
   rw [jaq hn,List.all_append,hall]
   simp only [List.all_cons,List.all_nil,Bool.and_true,Bool.true_and]
   exact decide_eq_true (by omega)
 ·rintro σ H2 ⟨v1,v2,rfl,s2,hall⟩
  rw [hlx,← List.length_map (f:=(·.1)),List.take_length] at hall
  walk_at "RD"
  subst hR
  walk_at "RD"
  exact h1 hall H2 s2
end
end My
namespace My
open PySem L2
section
variable {P : Program} {w : World} {K : PySem.W.Frag} {mg : Str→Option Value} {base : Heap} {c1 c2 c3 c4 : Tok}
noncomputable def jlc : Sp:=fun vs H Q _=>∃ v ps ts,vs = [v]∧jbr H v ps ts∧∀ t l1 l2 xs ys H',Same H H'→H l1 = none→H l2 = none→l1 ≠ l2→H' t = some (.tup [.ref l1,.ref l2])→H' l1 = some (.lst xs)→H' l2 = some (.lst ys)→Prs H' xs ps→Prs H' ys ts→Q (.ref t) H'
theorem TiOk.mono {kvs kvs' : List (Key × V)} (hk : ∀ n,hasK kvs n = true→hasK kvs' n = true) : ∀ {ts : List (Int × Int)} {q : Int × Int},TiOk kvs q ts→TiOk kvs' q ts
 | [],_,_=>trivial
 | t :: r,q,h=>⟨⟨h.1.1,h.1.2.1,hk _ h.1.2.2.1,hk _ h.1.2.2.2⟩,TiOk.mono hk h.2⟩
theorem jgx {f : Addr} {fd : FuncData}  (B : Blt mg) (D : DefAt K mg "_law_copy" (top 57) ["_law_web_here"] f fd) : FnOk P w K mg base CX0 1 f fd ["_law_web_here"] jlc:=by
 have sc : FnScope ["_law_web_here"] ["_law_web_here"] (ja7 (top 57)):=⟨rfl,rfl,rfl,by decide +kernel,rfl,by decide +kernel,by decide +kernel⟩
 refine D.F.ok sc (fun vs H Q E h=>?_) (fun cdv A outer s H vs Q E hr h=>?_)
 ·obtain ⟨v,ps,ts,rfl,_⟩:=h
  rfl
 obtain ⟨v,ps,ts,rfl,hw,h⟩:=h
 obtain ⟨x,pa,ta,xs,ys,rfl,ex,ep,et,pp,pt⟩:=id hw
 have hu:=jbi hr
 have hu0 : _ < PySem.cLine:=Nat.lt_of_succ_lt hu
 refine ⟨_,(ja6 (jag (jb4 (ja0 (jcc jjc rfl B.list PyProof.Rows.boot_list (ja0 (jaf q_ix (qv 0) ja5 (fun _ _=>rfl)) ja2)) (ja0 (jcc jjc rfl B.list PyProof.Rows.boot_list (ja0 (jaf q_ix (qv 0) ja5 (fun _ _=>rfl)) ja2)) ja2))))),?_⟩
 simp_arith [jal,ex,at0,ep]
 intro l1 hl1
 have s1:=ja3 hl1 (.lst xs)
 have e1 : upd H l1 (.lst xs) l1 = some (.lst xs):=ja1
 generalize upd H l1 (.lst xs) = H1 at s1 e1
 simp_arith [jal,s1 _ _ ex,at1,s1 _ _ et]
 intro l2 hl2
 have s2:=ja3 hl2 (.lst ys)
 have e2 : upd H1 l2 (.lst ys) l2 = some (.lst ys):=ja1
 have e12:=s2 _ _ e1
 have n12 : l1 ≠ l2:=fun z=>by rw [z,hl2] at e1; cases e1
 have s02:=s1.trans s2
 generalize upd H1 l2 (.lst ys) = H2 at s2 e2 e12 s02
 intro t ht
 have s3:=ja3 ht (.tup [.ref l1,.ref l2])
 exact h t l1 l2 xs ys _ (s02.trans s3) hl1 (s1.free hl2) n12 ja1 (s3 _ _ e12) (s3 _ _ e2) (Prs.same (s02.trans s3) pp) (Prs.same (s02.trans s3) pt)
end
end My
namespace My
open PySem L2
noncomputable abbrev Lv:=Int × Int × List Int × List Int
noncomputable def jf2 (a : Lv) (p q : Int) (b : Bool) : Lv:=if b = true then (a.1 + q,a.2.1,a.2.2.1 ++ [p],a.2.2.2 ++ [a.2.1]) else (a.1,a.2.1,a.2.2.1,a.2.2.2 ++ [0])
noncomputable def jcp (a b : Lv) : Lv:=if a.1 ≠ b.1 then (if a.1 < b.1 then a else b) else (a.1,a.2.1 + b.2.1,if HT.lexLt b.2.2.1 a.2.2.1 = true then b.2.2.1 else a.2.2.1,jfg a.2.2.2 b.2.2.2)
noncomputable def cst : List (Int × Int)→List Int→Int
 | [],_=>0
 | q :: r,s=>(if q.1 ∈ s then q.2 else 0) + cst r s
theorem jin : ∀ (qs rs : List (Int × Int)) (s : List Int),cst (qs ++ rs) s = cst qs s + cst rs s
 | [],rs,s=>by rw [List.nil_append]; show _ = 0 + _; rw [Int.zero_add]
 | q :: r,rs,s=>by rw [List.cons_append,cst,cst,jin r rs s,Int.add_assoc]
theorem jhd : ∀ {qs : List (Int × Int)} {s t : List Int},(∀ q ∈ qs,q.1 ∈ s ↔ q.1 ∈ t)→cst qs s = cst qs t
 | [],_,_,_=>rfl
 | q :: r,s,t,h=>by
  rw [cst,cst,jhd (qs:=r) fun q hq=>h q (.tail _ hq)]
  have:=h q (.head _)
  by_cases c : q.1 ∈ s
  ·rw [if_pos c,if_pos (this.mp c)]
  ·rw [if_neg c,if_neg fun z=>c (this.mpr z)]
theorem jnc : ∀ {qs : List (Int × Int)} {s t : List Int},(∀ q ∈ qs,1 ≤ q.2)→(∀ x ∈ s,x ∈ t)→cst qs s ≤ cst qs t
 | [],_,_,_,_=>Int.le_refl _
 | q :: r,s,t,hp,h=>by
  have ih:=jnc (qs:=r) (fun q hq=>hp q (.tail _ hq)) h
  have:=hp q (.head _)
  rw [cst,cst]
  by_cases c : q.1 ∈ s
  ·rw [if_pos c,if_pos (h _ c)]; omega
  ·rw [if_neg c]
   split <;> omega
theorem jnb : ∀ {qs : List (Int × Int)} {s t : List Int} {q : Int × Int},(∀ q ∈ qs,1 ≤ q.2)→(∀ x ∈ s,x ∈ t)→q ∈ qs→q.1 ∉ s→q.1 ∈ t→cst qs s < cst qs t
 | p :: r,s,t,q,hp,h,hq,h1,h2=>by
  have hl:=jnc (qs:=r) (fun q hq=>hp q (.tail _ hq)) h
  have hp0:=hp p (.head _)
  rw [cst,cst]
  rcases List.mem_cons.mp hq with e | hq
  ·subst e
   rw [if_neg h1,if_pos h2]; omega
  ·have ih:=jnb (qs:=r) (fun q hq=>hp q (.tail _ hq)) h hq h1 h2
   by_cases c : p.1 ∈ s
   ·rw [if_pos c,if_pos (h _ c)]; omega
   ·rw [if_neg c]
    split <;> omega
theorem jog {a b : List Int} (h : HT.lexLt a b = true) : HT.lexLt b a = false:=by
 cases c : HT.lexLt b a with
 | false=>rfl
 | true=>exact absurd (jf0 h c) (by rw [jd9]; exact Bool.false_ne_true)
theorem jjm (n : Int) : ∀ {t s : List Int},HT.lexLt t s = true→(∃ u,u ≠ []∧s = t ++ u) ∨ HT.lexLt (t ++ [n]) (s ++ [n]) = true
 | [],[],h=>by rw [HT.lexLt_nil_nil] at h; cases h
 | [],y :: q,_=>.inl ⟨y :: q,by simp,rfl⟩
 | _ :: _,[],h=>by rw [HT.lexLt_cons_nil] at h; cases h
 | x :: r,y :: q,h=>by
  rw [HT.lexLt_cons] at h
  by_cases c : x = y
  ·rw [if_pos c] at h
   rcases jjm n h with ⟨u,h1,h2⟩ | h2
   ·exact .inl ⟨u,h1,by rw [h2,c]; rfl⟩
   ·right
    rw [List.cons_append,List.cons_append,HT.lexLt_cons,if_pos c]
    exact h2
  ·rw [if_neg c] at h
   right
   rw [List.cons_append,List.cons_append,HT.lexLt_cons,if_neg c]
   exact h
structure Lst (qs : List (Int × Int)) (F : List (List Int)) (a : Lv) : Prop where
 le : ∀ s ∈ F,a.1 ≤ cst qs s
 many : a.2.1 = ((F.filter fun s=>decide (cst qs s = a.1)).length : Int)
 mem : a.2.2.1 ∈ F∧cst qs a.2.2.1 = a.1
 lex : ∀ s ∈ F,cst qs s = a.1→HT.lexLt s a.2.2.1 = false
 cnt : a.2.2.2 = qs.map fun q=>(((F.filter fun s=>decide (cst qs s = a.1)).filter fun s=>decide (q.1 ∈ s)).length : Int)
theorem Lst.uniq {qs : List (Int × Int)} {F : List (List Int)} {a b : Lv} (h : Lst qs F a) (g : Lst qs F b) : a = b:=by
 have e1 : a.1 = b.1:=by
  have h1:=h.le _ g.mem.1
  have h2:=g.le _ h.mem.1
  rw [g.mem.2] at h1
  rw [h.mem.2] at h2
  omega
 obtain ⟨a1,a2,a3,a4⟩:=a
 obtain ⟨b1,b2,b3,b4⟩:=b
 dsimp only at e1
 subst e1
 have e2 : a2 = b2:=h.many.trans g.many.symm
 have e4 : a4 = b4:=h.cnt.trans g.cnt.symm
 have e3 : a3 = b3:=by
  have h1:=h.lex _ g.mem.1 g.mem.2
  have h2:=g.lex _ h.mem.1 h.mem.2
  dsimp only at h1 h2
  rcases jdy a3 b3 with c | c | c
  ·rw [c] at h2; cases h2
  ·exact c
  ·rw [c] at h1; cases h1
 rw [e2,e3,e4]
theorem jc0 {α : Type} {p : α→Bool} {l : List α} (h : ∀ x ∈ l,p x = false) : l.filter p = []:=List.filter_eq_nil_iff.mpr fun x hx=>by rw [h x hx]; exact Bool.false_ne_true
theorem Lst.app {qs : List (Int × Int)} {F G : List (List Int)} {a b : Lv} (h : Lst qs F a) (g : Lst qs G b) : Lst qs (F ++ G) (jcp a b):=by
 unfold jcp
 by_cases c : a.1 ≠ b.1
 ·rw [if_pos c]
  by_cases d : a.1 < b.1
  ·rw [if_pos d]
   have hn : (G.filter fun s=>decide (cst qs s = a.1)) = []:=jc0 fun s hs=>decide_eq_false (by have:=g.le s hs; omega)
   refine ⟨fun s hs=>(List.mem_append.mp hs).elim (h.le s) fun q=>by have:=g.le s q; omega,?_,⟨List.mem_append_left _ h.mem.1,h.mem.2⟩,fun s hs e=>(List.mem_append.mp hs).elim (fun q=>h.lex s q e) fun q=>by have:=g.le s q; omega,?_⟩
   ·rw [List.filter_append,hn,List.append_nil]; exact h.many
   ·rw [List.filter_append,hn,List.append_nil]; exact h.cnt
  ·rw [if_neg d]
   have hn : (F.filter fun s=>decide (cst qs s = b.1)) = []:=jc0 fun s hs=>decide_eq_false (by have:=h.le s hs; omega)
   refine ⟨fun s hs=>(List.mem_append.mp hs).elim (fun q=>by have:=h.le s q; omega) (g.le s),?_,⟨List.mem_append_right _ g.mem.1,g.mem.2⟩,fun s hs e=>(List.mem_append.mp hs).elim (fun q=>by have:=h.le s q; omega) fun q=>g.lex s q e,?_⟩
   ·rw [List.filter_append,hn,List.nil_append]; exact g.many
   ·rw [List.filter_append,hn,List.nil_append]; exact g.cnt
 ·rw [if_neg c]
  have e : b.1 = a.1:=by omega
  have g1:=g.le
  have g2:=g.many
  have g3:=g.mem
  have g4:=g.lex
  have g5:=g.cnt
  rw [e] at g1 g2 g3 g4 g5
  refine ⟨fun s hs=>(List.mem_append.mp hs).elim (h.le s) (g1 s),?_,?_,?_,?_⟩
  ·dsimp only
   rw [List.filter_append,List.length_append,h.many,g2]
   rfl
  ·dsimp only
   split
   ·exact ⟨List.mem_append_right _ g3.1,g3.2⟩
   ·exact ⟨List.mem_append_left _ h.mem.1,h.mem.2⟩
  ·intro s hs es
   dsimp only at es ⊢
   by_cases k : HT.lexLt b.2.2.1 a.2.2.1 = true
   ·rw [if_pos k]
    rcases List.mem_append.mp hs with q | q
    ·cases z : HT.lexLt s b.2.2.1 with
     | false=>rfl
     | true=>rw [← h.lex s q es]; exact (jf0 z k).symm
    ·exact g4 s q es
   ·rw [if_neg k]
    rcases List.mem_append.mp hs with q | q
    ·exact h.lex s q es
    ·cases z : HT.lexLt s a.2.2.1 with
     | false=>rfl
     | true =>
      rcases jdy a.2.2.1 b.2.2.1 with w | w | w
      ·rw [← g4 s q es]; exact (jf0 z w).symm
      ·rw [w] at z; rw [← g4 s q es]; exact z.symm
      ·exact absurd w k
  ·dsimp only
   rw [h.cnt,g5]
   unfold jfg
   rw [List.zip_map',List.map_map]
   refine List.map_congr_left fun q _=>?_
   rw [List.filter_append,List.filter_append,List.length_append]
   rfl
end My
namespace My
open PySem L2
theorem Lst.perm {qs : List (Int × Int)} {F G : List (List Int)} {a : Lv} (h : Lst qs F a) (p : F.Perm G) : Lst qs G a :=
 ⟨fun s hs=>h.le s (p.mem_iff.mpr hs),by rw [h.many,(p.filter _).length_eq],⟨p.mem_iff.mp h.mem.1,h.mem.2⟩,fun s hs=>h.lex s (p.mem_iff.mpr hs),by
  rw [h.cnt]
  refine List.map_congr_left fun q _=>?_
  rw [((p.filter _).filter _).length_eq]⟩
noncomputable def oneF (qs : List (Int × Int)) (s : List Int) : Lv:=(cst qs s,1,s,qs.map fun q=>if q.1 ∈ s then 1 else 0)
theorem Lst.one (qs : List (Int × Int)) (s : List Int) : Lst qs [s] (oneF qs s):=by
 have hf : ([s].filter fun t=>decide (cst qs t = (oneF qs s).1)) = [s]:=by
  have : decide (cst qs s = (oneF qs s).1) = true:=decide_eq_true rfl
  rw [List.filter_cons,if_pos this]
  rfl
 refine ⟨fun t ht=>by rw [List.mem_singleton.mp ht]; exact Int.le_refl _,by rw [hf]; rfl,⟨.head _,rfl⟩,fun t ht _=>by rw [List.mem_singleton.mp ht]; exact jd9 s,?_⟩
 rw [hf]
 show (qs.map fun q=>if q.1 ∈ s then 1 else 0) = _
 refine List.map_congr_left fun q _=>?_
 by_cases c : q.1 ∈ s
 ·rw [if_pos c,List.filter_cons,if_pos (decide_eq_true c)]; rfl
 ·rw [if_neg c,List.filter_cons,if_neg (by rw [decide_eq_false c]; exact Bool.false_ne_true)]; rfl
noncomputable def lstF (qs : List (Int × Int)) : List (List Int)→Lv
 | []=>(0,0,[],[])
 | [s]=>oneF qs s
 | s :: t :: F=>jcp (oneF qs s) (lstF qs (t :: F))
theorem jbw (qs : List (Int × Int)) : ∀ {F : List (List Int)},F ≠ []→Lst qs F (lstF qs F)
 | [],h=>absurd rfl h
 | [s],_=>Lst.one qs s
 | s :: t :: F,_=>(Lst.one qs s).app (jbw qs (F:=t :: F) (by simp))
theorem jck {qs : List (Int × Int)} {F : List (List Int)} {a : Lv} (hF : F ≠ []) (h : Lst qs F a) : lstF qs F = a:=(jbw qs hF).uniq h
section
variable {qs : List (Int × Int)} {r : Int × Int} {F : List (List Int)} {a : Lv}
theorem jps (hn : ((qs ++ [r]).map (·.1)).Nodup) {s : List Int} (hs : s.Sublist (qs.map (·.1))) : r.1 ∉ s:=fun z=>by
 rw [List.map_append,List.nodup_append] at hn
 exact hn.2.2 _ (hs.subset z) _ (.head _) rfl
theorem ne_r (hn : ((qs ++ [r]).map (·.1)).Nodup) {q : Int × Int} (hq : q ∈ qs) : q.1 ≠ r.1:=fun z=>by
 rw [List.map_append,List.nodup_append] at hn
 exact hn.2.2 _ (List.mem_map_of_mem hq) _ (.head _) z
theorem jfx (hn : ((qs ++ [r]).map (·.1)).Nodup) (s : List Int) : cst (qs ++ [r]) (s ++ [r.1]) = cst qs s + r.2:=by
 rw [jin,jhd (s:=s ++ [r.1]) (t:=s) fun q hq=>by rw [List.mem_append,List.mem_singleton]; exact ⟨fun z=>z.elim id fun z=>absurd z (ne_r hn hq),.inl⟩]
 show _ + ((if r.1 ∈ s ++ [r.1] then r.2 else 0) + 0) = _
 rw [if_pos (by simp)]
 omega
theorem jdz (hn : ((qs ++ [r]).map (·.1)).Nodup) {s : List Int} (hs : s.Sublist (qs.map (·.1))) : cst (qs ++ [r]) s = cst qs s:=by
 rw [jin]
 show _ + ((if r.1 ∈ s then r.2 else 0) + 0) = _
 rw [if_neg (jps hn hs)]
 omega
theorem Lst.out (hn : ((qs ++ [r]).map (·.1)).Nodup) (hF : ∀ s ∈ F,s.Sublist (qs.map (·.1))) (h : Lst qs F a) : Lst (qs ++ [r]) F (jf2 a r.1 r.2 false):=by
 have hf : (F.filter fun s=>decide (cst (qs ++ [r]) s = a.1)) = F.filter fun s=>decide (cst qs s = a.1):=List.filter_congr fun s hs=>by rw [jdz hn (hF s hs)]
 show Lst (qs ++ [r]) F (a.1,a.2.1,a.2.2.1,a.2.2.2 ++ [0])
 refine ⟨fun s hs=>by rw [jdz hn (hF s hs)]; exact h.le s hs,by dsimp only; rw [hf]; exact h.many,⟨h.mem.1,by dsimp only; rw [jdz hn (hF _ h.mem.1)]; exact h.mem.2⟩,fun s hs e=>h.lex s hs (by rw [← jdz hn (hF s hs)]; exact e),?_⟩
 dsimp only
 rw [hf,List.map_append,← h.cnt]
 congr 1
 rw [List.map_cons,List.map_nil]
 rw [jc0 (p:=fun s=>decide (r.1 ∈ s)) fun s hs=>decide_eq_false (jps hn (hF s (List.mem_filter.mp hs).1))]
 rfl
theorem Lst.inn (hn : ((qs ++ [r]).map (·.1)).Nodup) (hp : ∀ q ∈ qs,1 ≤ q.2) (hF : ∀ s ∈ F,s.Sublist (qs.map (·.1))) (h : Lst qs F a) : Lst (qs ++ [r]) (F.map fun s=>s ++ [r.1]) (jf2 a r.1 r.2 true):=by
 have hf : ((F.map fun s=>s ++ [r.1]).filter fun s=>decide (cst (qs ++ [r]) s = a.1 + r.2)) = (F.filter fun s=>decide (cst qs s = a.1)).map fun s=>s ++ [r.1]:=by
  rw [List.filter_map]
  congr 1
  refine List.filter_congr fun s _=>?_
  show decide (cst (qs ++ [r]) (s ++ [r.1]) = a.1 + r.2) = _
  rw [jfx hn,decide_eq_decide]
  omega
 show Lst (qs ++ [r]) _ (a.1 + r.2,a.2.1,a.2.2.1 ++ [r.1],a.2.2.2 ++ [a.2.1])
 refine ⟨fun s hs=>?_,?_,⟨List.mem_map_of_mem h.mem.1,?_⟩,fun s hs e=>?_,?_⟩
 ·obtain ⟨t,ht,rfl⟩:=List.mem_map.mp hs
  have:=h.le t ht
  rw [jfx hn]
  dsimp only
  omega
 ·dsimp only
  rw [hf,List.length_map]
  exact h.many
 ·dsimp only
  rw [jfx hn,h.mem.2]
 ·obtain ⟨t,ht,rfl⟩:=List.mem_map.mp hs
  dsimp only at e ⊢
  rw [jfx hn] at e
  have et : cst qs t = a.1:=by omega
  have hl:=h.lex t ht et
  rcases jdy a.2.2.1 t with c | c | c
  ·rcases jjm r.1 c with ⟨u,hu,eu⟩ | c2
   ·exfalso
    obtain ⟨x,hx⟩:=List.exists_mem_of_ne_nil u hu
    have hnd : t.Nodup:=(hF t ht).nodup (by
     rw [List.map_append,List.nodup_append] at hn
     exact hn.1)
    have hxt : x ∈ t:=by rw [eu]; exact List.mem_append_right _ hx
    obtain ⟨q,hq,eq⟩:=List.mem_map.mp ((hF t ht).subset hxt)
    have:=jnb (qs:=qs) (s:=a.2.2.1) (t:=t) hp (fun y hy=>by rw [eu]; exact List.mem_append_left _ hy) hq (by
     rw [eq]
     intro z
     rw [eu,List.nodup_append] at hnd
     exact hnd.2.2 _ z _ hx rfl) (by rw [eq]; exact hxt)
    have:=h.mem.2
    omega
   ·exact jog c2
  ·rw [c]; exact jd9 _
  ·rw [c] at hl; cases hl
 ·dsimp only
  rw [hf,List.map_append,h.cnt]
  congr 1
  ·refine List.map_congr_left fun q hq=>?_
   rw [List.filter_map,List.length_map]
   congr 2
   refine List.filter_congr fun s _=>?_
   show _ = decide (q.1 ∈ s ++ [r.1])
   rw [decide_eq_decide,List.mem_append,List.mem_singleton]
   exact ⟨.inl,fun z=>z.elim id fun z=>absurd z (ne_r hn hq)⟩
  ·rw [List.map_cons,List.map_nil]
   rw [List.filter_map,List.length_map,List.filter_eq_self.mpr (fun s _=>by simp),h.many]
end
noncomputable def VL (H0 : Hp) : Vl Lv where
 VR:=fun H v a=>Kp H0 H∧∃ t l2 l3,v = .ref t∧H t = some (.tup [.int a.1,.int a.2.1,.ref l2,.ref l3])∧(∀ xs,H0 l2 ≠ some (.lst xs))∧H l2 = some (.lst (a.2.2.1.map V.int))∧H l3 = some (.lst (a.2.2.2.map V.int))
 ok:=fun i _ a=>a.2.2.2.length = i∧a.2.2.1.length ≤ i
 mono:=fun h _=>h
 gr:=jf2
 jn:=jcp
 kp:=fun k ⟨k0,t,l2,l3,e,h1,h2,h3,h4⟩=>⟨k0.trans k,t,l2,l3,e,k.2 _ _ h1,h2,k.1 _ _ h3,k.1 _ _ h4⟩
noncomputable def SF (qs : List (Int × Int)) (F : List (List Int)) : Prop:=F ≠ []∧∀ s ∈ F,s.Sublist (qs.map (·.1))
theorem jmu (H0 : Hp) (ps ts : List (Int × Int)) : ∀ (rs qs : List (Int × Int)) (L : AL (List (List Int))),((qs ++ rs).map (·.1)).Nodup→(∀ q ∈ qs ++ rs,1 ≤ q.2)→(∀ x ∈ L,SF qs x.2)→(rs.foldl (stP VG ps ts) L).map (fun x=>(x.1,lstF (qs ++ rs) x.2)) = rs.foldl (stP (VL H0) ps ts) (L.map fun x=>(x.1,lstF qs x.2)):=fun rs=>by
 induction rs with
 | nil=>intro qs L _ _ h; rw [List.append_nil]; rfl
 | cons r t ih =>
  intro qs L hn hp h
  rw [List.foldl_cons,List.foldl_cons]
  have hn' : ((qs ++ [r]).map (·.1)).Nodup:=by
   have e : qs ++ r :: t = (qs ++ [r]) ++ t:=by simp
   rw [e,List.map_append,List.nodup_append] at hn
   exact hn.1
  have hp' : ∀ q ∈ qs,1 ≤ q.2:=fun q hq=>hp q (List.mem_append_left _ hq)
  have st:=jht (A:=VG) (B:=VL H0) (h:=lstF qs) (h':=lstF (qs ++ [r])) (S:=SF qs) (S':=SF (qs ++ [r])) (edge:=jb6 ps ts r.1) (ahead:=jbb ts r.1) (p:=r.1) (q:=r.2) (fun F b hF=>by
    have hl:=jbw qs hF.1
    cases b with
    | true=>exact ⟨jck (by show F.map _ ≠ []; simpa using hF.1) (hl.inn hn' hp' hF.2),by show F.map _ ≠ []; simpa using hF.1,fun s hs=>by
      obtain ⟨q,hq,rfl⟩:=List.mem_map.mp hs
      rw [List.map_append]
      exact (hF.2 q hq).append (List.Sublist.refl _)⟩
    | false=>exact ⟨jck hF.1 (hl.out hn' hF.2),hF.1,fun s hs=>by
      rw [List.map_append]
      exact (hF.2 s hs).trans (List.sublist_append_left _ _)⟩)
   (fun F G hF hG=>⟨jck (fun z=>hF.1 (List.append_eq_nil_iff.mp z).1) ((jbw _ hF.1).app (jbw _ hG.1)),fun z=>hF.1 (List.append_eq_nil_iff.mp z).1,fun s hs=>(List.mem_append.mp hs).elim (hF.2 s) (hG.2 s)⟩) (L:=L) h
  have e : stP (VL H0) ps ts (L.map fun x=>(x.1,lstF qs x.2)) r = (stP VG ps ts L r).map fun x=>(x.1,lstF (qs ++ [r]) x.2):=st.1.symm
  rw [e]
  have:=ih (qs ++ [r]) (stP VG ps ts L r) (by rw [List.append_assoc]; exact hn) (by rw [List.append_assoc]; exact hp) st.2
  rw [List.append_assoc] at this
  exact this
noncomputable def jav (ps ts : List (Int × Int)) : Lv:=lstF ps ((subL (ps.map (·.1))).filter (touB ts))
theorem jmd (H0 : Hp) {ps ts : List (Int × Int)} (wok : WebOk ps ts) (hp : ∀ q ∈ ps,1 ≤ q.2) : lkA (alL (VL H0) ps ts (0,1,[],[]) ps) [] = some (jav ps ts):=by
 obtain ⟨F,h1,h2⟩:=jfu wok
 have hne : (subL (ps.map (·.1))).filter (touB ts) ≠ []:=by
  refine List.ne_nil_of_mem (a:=ps.map (·.1)) ?_
  rw [List.mem_filter]
  refine ⟨je8 _,?_⟩
  unfold touB
  rw [List.all_eq_true]
  intro t h
  rw [decide_eq_true (jch wok t h).2.1]
  rfl
 have hF : F ≠ []:=fun z=>hne (List.Perm.nil_eq (by rw [← z]; exact h2)).symm
 have hm:=jmu H0 ps ts ps [] [([],[[]])] (by rw [List.nil_append]; exact wok.p.nodup) hp (fun x hx=>by
  rw [List.mem_singleton.mp hx]
  exact ⟨by simp,fun s hs=>by rw [List.mem_singleton.mp hs]; exact List.Sublist.refl _⟩)
 have hm : (alL VG ps ts [[]] ps).map (fun x=>(x.1,lstF ps x.2)) = alL (VL H0) ps ts (0,1,[],[]) ps:=hm
 rw [← hm,jic,h1]
 show some (lstF ps F) = _
 rw [jck hF ((jbw ps hne).perm h2.symm)]
 rfl
end My
namespace My
open PySem L2
section
variable {P : Program} {w : World} {K : PySem.W.Frag} {mg : Str→Option Value} {base : Heap} {c1 c2 c3 c4 : Tok}
theorem at2' {a b c : V} {r : List V} : atI (a :: b :: c :: r) 2 = some c:=by
 refine (jcl (j:=2) (xs:=a :: b :: c :: r) (v:=c) ?_)
 rfl
theorem at3' {a b c d : V} {r : List V} : atI (a :: b :: c :: d :: r) 3 = some d:=by
 refine (jcl (j:=3) (xs:=a :: b :: c :: d :: r) (v:=d) ?_)
 rfl
theorem jfj {H0 : Hp} {f : Addr} {fd : FuncData}  (B : Blt mg) (D : DefAt K mg "least_grown" (top 43) ["value","place","price","is_in"] f fd) : FnOk P w K mg base CX0 2 f fd ["value","place","price","is_in"] (spGr (VL H0)):=by
 have sc : FnScope ["value","place","price","is_in"] ["value","place","price","is_in"] (ja7 (top 43)):=⟨rfl,rfl,rfl,by decide +kernel,rfl,by decide +kernel,by decide +kernel⟩
 refine D.F.ok sc (fun vs H Q E h=>?_) (fun cdv A outer s H vs Q E hr h=>?_)
 ·obtain ⟨v,p,q,b,a,i,j,rfl,_⟩:=h
  rfl
 obtain ⟨v,p,q,b,a,i,jj,rfl,⟨k0,t,l2,l3,rfl,et,f2,e2,e3⟩,ok,hi,h⟩:=h
 obtain ⟨o1,o2⟩ : a.2.2.2.length = i∧a.2.2.1.length ≤ i:=ok
 have h1m : (1000000 : Nat) ≤ sizeLine:=by decide
 have hu:=jbi hr
 have hu0 : _ < PySem.cLine:=Nat.lt_of_succ_lt hu
 refine ⟨_,(ja4 (jbf (jb1 (qv 3)) (ja6 (jag (jb4 (ja0 (jaw jd1 (jaf q_ix (qv 0) ja5 (fun _ _=>rfl)) (qv 2)) (ja0 (jaf q_ix (qv 0) ja5 (fun _ _=>rfl)) (ja0 (jaw jhx (jaf q_ix (qv 0) ja5 (fun _ _=>rfl)) (jas (ja0 (qv 1) ja2))) (ja0 (jaw jhx (jaf q_ix (qv 0) ja5 (fun _ _=>rfl)) (jas (ja0 (jaf q_ix (qv 0) ja5 (fun _ _=>rfl)) ja2))) ja2))))))) jai) (ja6 (jag (jb4 (ja0 (jaf q_ix (qv 0) ja5 (fun _ _=>rfl)) (ja0 (jaf q_ix (qv 0) ja5 (fun _ _=>rfl)) (ja0 (jaf q_ix (qv 0) ja5 (fun _ _=>rfl)) (ja0 (jaw jhx (jaf q_ix (qv 0) ja5 (fun _ _=>rfl)) (jas (ja0 ja5 ja2))) ja2)))))))),?_⟩
 cases b with
 | true =>
  simp_arith [jal,et,at0,at1,at2',at3']
  intro c1 hc1
  have s1:=ja3 hc1 (.lst [.int p])
  have ec1 : upd H c1 (.lst [.int p]) c1 = some (.lst [.int p]):=ja1
  have e2':=s1 _ _ e2
  have e3':=s1 _ _ e3
  have et':=s1 _ _ et
  have hk1:=jay s1
  generalize upd H c1 (.lst [.int p]) = H1 at s1 ec1 e2' e3' et' hk1
  simp only [e2',ec1]
  refine ⟨by rw [List.length_map]; show _ + 1 ≤ _; omega,?_⟩
  intro c2 hc2
  have s2:=ja3 hc2 (.lst (a.2.2.1.map V.int ++ [.int p]))
  have ec2 : upd H1 c2 (.lst (a.2.2.1.map V.int ++ [.int p])) c2 = some (.lst (a.2.2.1.map V.int ++ [.int p])):=ja1
  have e3'':=s2 _ _ e3'
  have et'':=s2 _ _ et'
  have hc20 : ∀ xs,H0 c2 ≠ some (.lst xs):=fun xs z=>by
   have:=hk1.1 _ _ (k0.1 _ _ z)
   rw [hc2] at this
   cases this
  have S2:=s1.trans s2
  generalize upd H1 c2 (.lst (a.2.2.1.map V.int ++ [.int p])) = H2 at s2 ec2 e3'' et'' S2
  simp_arith [et'',at1,at3']
  intro c3 hc3
  have s3:=ja3 hc3 (.lst [.int a.2.1])
  have ec3 : upd H2 c3 (.lst [.int a.2.1]) c3 = some (.lst [.int a.2.1]):=ja1
  have e33:=s3 _ _ e3''
  have S3:=S2.trans s3
  have ec23:=s3 _ _ ec2
  generalize upd H2 c3 (.lst [.int a.2.1]) = H3 at s3 ec3 e33 S3 ec23
  simp only [e33,ec3]
  refine ⟨by rw [List.length_map]; show _ + 1 ≤ _; omega,?_⟩
  intro c4 hc4
  have s4:=ja3 hc4 (.lst (a.2.2.2.map V.int ++ [.int a.2.1]))
  have ec4 : upd H3 c4 (.lst (a.2.2.2.map V.int ++ [.int a.2.1])) c4 = some (.lst (a.2.2.2.map V.int ++ [.int a.2.1])):=ja1
  have S4:=S3.trans s4
  have ec24:=s4 _ _ ec23
  generalize upd H3 c4 (.lst (a.2.2.2.map V.int ++ [.int a.2.1])) = H4 at s4 ec4 S4 ec24
  intro c5 hc5
  have s5:=ja3 hc5 (.tup [.int (a.1 + q),.int a.2.1,.ref c2,.ref c4])
  refine h _ _ (S4.trans s5) ⟨k0.trans (jay (S4.trans s5)),c5,c2,c4,rfl,ja1,hc20,?_,?_⟩ ⟨?_,?_⟩
  ·rw [s5 _ _ ec24]
   show _ = some (HO.lst ((a.2.2.1 ++ [p]).map V.int))
   rw [List.map_append]
   rfl
  ·rw [s5 _ _ ec4]
   show _ = some (HO.lst ((a.2.2.2 ++ [a.2.1]).map V.int))
   rw [List.map_append]
   rfl
  ·show (a.2.2.2 ++ [a.2.1]).length = i + 1
   rw [List.length_append,o1]
   rfl
  ·show (a.2.2.1 ++ [p]).length ≤ i + 1
   rw [List.length_append]
   show _ + 1 ≤ _
   omega
 | false =>
  simp_arith [jal,et,at0,at1,at2',at3']
  intro c3 hc3
  have s3:=ja3 hc3 (.lst [.int 0])
  have ec3 : upd H c3 (.lst [.int 0]) c3 = some (.lst [.int 0]):=ja1
  have e33:=s3 _ _ e3
  have e23:=s3 _ _ e2
  generalize upd H c3 (.lst [.int 0]) = H3 at s3 ec3 e33 e23
  simp only [e33,ec3]
  refine ⟨by rw [List.length_map]; show _ + 1 ≤ _; omega,?_⟩
  intro c4 hc4
  have s4:=ja3 hc4 (.lst (a.2.2.2.map V.int ++ [.int 0]))
  have ec4 : upd H3 c4 (.lst (a.2.2.2.map V.int ++ [.int 0])) c4 = some (.lst (a.2.2.2.map V.int ++ [.int 0])):=ja1
  have S4:=s3.trans s4
  have e24:=s4 _ _ e23
  generalize upd H3 c4 (.lst (a.2.2.2.map V.int ++ [.int 0])) = H4 at s4 ec4 S4 e24
  intro c5 hc5
  have s5:=ja3 hc5 (.tup [.int a.1,.int a.2.1,.ref l2,.ref c4])
  refine h _ _ (S4.trans s5) ⟨k0.trans (jay (S4.trans s5)),c5,l2,c4,rfl,ja1,f2,s5 _ _ e24,?_⟩ ⟨?_,?_⟩
  ·rw [s5 _ _ ec4]
   show _ = some (HO.lst ((a.2.2.2 ++ [0]).map V.int))
   rw [List.map_append]
   rfl
  ·show (a.2.2.2 ++ [0]).length = i + 1
   rw [List.length_append,o1]
   rfl
  ·show a.2.2.1.length ≤ i + 1
   omega
theorem jet {H0 : Hp} {f : Addr} {fd : FuncData} {f_sums : Addr} {d_sums : FuncData} (B : Blt mg) (D : DefAt K mg "least_joined" (top 44) ["one","other"] f fd) (D_sums : DefAt K mg "sums" (top 42) ["one","other"] f_sums d_sums) (G_sums : FnOk P w K mg base CX0 1 f_sums d_sums ["one","other"] jpg) : FnOk P w K mg base CX0 2 f fd ["one","other"] (spJn (VL H0)):=by
 have sc : FnScope ["one","other"] ["one","other"] (ja7 (top 44)):=⟨rfl,rfl,rfl,by decide +kernel,rfl,by decide +kernel,by decide +kernel⟩
 refine D.F.ok sc (fun vs H Q E h=>?_) (fun cdv A outer s H vs Q E hr h=>?_)
 ·obtain ⟨v,u,a,b,i,jj,rfl,_⟩:=h
  rfl
 obtain ⟨v,u,a,b,i,jj,rfl,⟨k0,t,l2,l3,rfl,et,f2,e2,e3⟩,⟨_,t',m2,m3,rfl,et',g2,d2,d3⟩,⟨o1,o2⟩,⟨o3,o4⟩,hi,_,_,h⟩:=h
 have hu:=jbi hr
 have hu0 : _ < PySem.cLine:=Nat.lt_of_succ_lt hu
 refine ⟨_,(ja4 (jbf (jb3 q_ne (jaf q_ix (qv 0) ja5 (fun _ _=>rfl)) (jaf q_ix (qv 1) ja5 (fun _ _=>rfl)) (jap _)) (ja6 (jag (je9 (jb3 q_lt (jaf q_ix (qv 0) ja5 (fun _ _=>rfl)) (jaf q_ix (qv 1) ja5 (fun _ _=>rfl)) (jap _)) (qv 0) (qv 1)))) jai) (ja6 (jag (jb4 (ja0 (jaf q_ix (qv 0) ja5 (fun _ _=>rfl)) (ja0 (jaw jd1 (jaf q_ix (qv 0) ja5 (fun _ _=>rfl)) (jaf q_ix (qv 1) ja5 (fun _ _=>rfl))) (ja0 (jaa (jne rfl hu) rfl B.min PyProof.Rows.boot_min (ja0 (jaf q_ix (qv 0) ja5 (fun _ _=>rfl)) (ja0 (jaf q_ix (qv 1) ja5 (fun _ _=>rfl)) ja2))) (ja0 (jac G_sums (hr.mono (by decide)) rfl D_sums.m D_sums.F.kp D_sums.b .nil jar (ja0 (jaf q_ix (qv 0) ja5 (fun _ _=>rfl)) (ja0 (jaf q_ix (qv 1) ja5 (fun _ _=>rfl)) ja2))) ja2)))))))),?_⟩
 simp_arith [jal,et,at0,et',at1,at2',at3']
 have hjn : (VL H0).jn a b = jcp a b:=rfl
 rw [hjn] at h
 unfold jcp at h
 by_cases c : a.1 = b.1
 ·rw [if_neg (by rw [decide_eq_true c]; exact Bool.false_ne_true)]
  rw [if_neg (fun z=>z c)] at h
  refine ⟨l2,m2,a.2.2.1,b.2.2.1,rfl,e2,d2,?_⟩
  simp_arith [et,et',at3']
  refine ⟨l3,m3,a.2.2.2,b.2.2.2,rfl,e3,d3,by omega,by omega,fun l H' hl s el=>?_⟩
  intro c5 hc5
  have s5:=ja3 hc5 (.tup [.int a.1,.int (a.2.1 + b.2.1),.ref (if HT.lexLt b.2.2.1 a.2.2.1 = true then m2 else l2),.ref l])
  have et5 : upd H' c5 (.tup [.int a.1,.int (a.2.1 + b.2.1),.ref (if HT.lexLt b.2.2.1 a.2.2.1 = true then m2 else l2),.ref l]) c5 = some (.tup [.int a.1,.int (a.2.1 + b.2.1),.ref (if HT.lexLt b.2.2.1 a.2.2.1 = true then m2 else l2),.ref l]):=ja1
  generalize upd H' c5 (.tup [.int a.1,.int (a.2.1 + b.2.1),.ref (if HT.lexLt b.2.2.1 a.2.2.1 = true then m2 else l2),.ref l]) = H5 at s5 et5
  refine h _ _ (s.trans s5) ⟨k0.trans (jay (s.trans s5)),c5,_,l,rfl,et5,?_,?_,s5 _ _ el⟩ ⟨?_,?_⟩
  ·split
   ·exact g2
   ·exact f2
  ·dsimp only
   split
   ·exact (s.trans s5) _ _ d2
   ·exact (s.trans s5) _ _ e2
  ·show (jfg a.2.2.2 b.2.2.2).length = i
   unfold jfg
   rw [List.length_map,List.length_zip]
   omega
  ·dsimp only
   split
   ·exact o4
   ·exact o2
 ·rw [if_pos (by rw [decide_eq_false c]; rfl)]
  rw [if_pos c] at h
  by_cases d : a.1 < b.1
  ·rw [if_pos d] at h
   rw [if_pos (decide_eq_true d)]
   exact h _ _ (Same.refl _) ⟨k0,t,l2,l3,rfl,et,f2,e2,e3⟩ ⟨o1,o2⟩
  ·rw [if_neg d] at h
   rw [if_neg (by rw [decide_eq_false d]; exact Bool.false_ne_true)]
   exact h _ _ (Same.refl _) ⟨k0,t',m2,m3,rfl,et',g2,d2,d3⟩ ⟨o3,o4⟩
end
end My
namespace My
open PySem L2
section
variable {P : Program} {w : World} {K : PySem.W.Frag} {mg : Str→Option Value} {base : Heap} {c1 c2 c3 c4 : Tok}
theorem PlOk.pos : ∀ {ps : List (Int × Int)} {l s : Int},PlOk l s ps→∀ p ∈ ps,1 ≤ p.2
 | [],_,_,_,_,h=>by cases h
 | q :: r,l,s,h,p,hp=>by
  rcases List.mem_cons.mp hp with e | hp
  ·rw [e]; exact h.1.2.2.1
  ·exact PlOk.pos h.2 p hp
theorem jiw {ps ts : List (Int × Int)} (wok : WebOk ps ts) : (subL (ps.map (·.1))).filter (touB ts) ≠ []:=by
 refine List.ne_nil_of_mem (a:=ps.map (·.1)) ?_
 rw [List.mem_filter]
 refine ⟨je8 _,?_⟩
 unfold touB
 rw [List.all_eq_true]
 intro t h
 rw [decide_eq_true (jch wok t h).2.1]
 rfl
theorem jcd {ps ts : List (Int × Int)} (wok : WebOk ps ts) : Lst ps ((subL (ps.map (·.1))).filter (touB ts)) (jav ps ts):=jbw ps (jiw wok)
theorem jkf {ps ts : List (Int × Int)} (wok : WebOk ps ts) : (jav ps ts).2.2.2.length = ps.length:=by rw [(jcd wok).cnt,List.length_map]
noncomputable def jke (ps ts : List (Int × Int)) : List (Int × Int):=(ps.map (·.1)).zip (jav ps ts).2.2.2
noncomputable def jl9 : Sp:=fun vs H Q _=>∃ v ps ts,vs = [v]∧jbr H v ps ts∧WebOk ps ts∧ps.length ≤ 12∧jfy ps ts = true ∧
 ∀ t l2 l3 zs H',(∀ xs,H l2 ≠ some (.lst xs))→H l3 = none→l2 ≠ l3→Same H H'→H' t = some (.tup [.int (jav ps ts).1,.int (jav ps ts).2.1,.ref l2,.ref l3])→H' l2 = some (.lst ((jav ps ts).2.2.1.map V.int))→H' l3 = some (.lst zs)→Prs H' zs (jke ps ts)→Q (.ref t) H'
theorem jep {f : Addr} {fd : FuncData} {f_look_at_edges : Addr} {d_look_at_edges : FuncData} {f_along : Addr} {d_along : FuncData} {f_least_grown : Addr} {d_least_grown : FuncData} {f_least_joined : Addr} {d_least_joined : FuncData} (B : Blt mg) (D : DefAt K mg "string_least" (top 45) ["web"] f fd) (D_look_at_edges : DefAt K mg "look_at_edges" (top 40) ["web"] f_look_at_edges d_look_at_edges) (G_look_at_edges : FnOk P w K mg base CX0 7 f_look_at_edges d_look_at_edges ["web"] jl8) (D_along : DefAt K mg "along" (top 41) ["web","start","grown","joined"] f_along d_along) (G_along0 : ∀ H0 : Hp,FnOk P w K mg base CX0 3 f_along d_along ["web","start","grown","joined"] (jhu (VL H0) [(f_least_grown,spGr (VL H0)),(f_least_joined,spJn (VL H0))])) (D_least_grown : DefAt K mg "least_grown" (top 43) ["value","place","price","is_in"] f_least_grown d_least_grown) (D_least_joined : DefAt K mg "least_joined" (top 44) ["one","other"] f_least_joined d_least_joined) : FnOk P w K mg base CX0 8 f fd ["web"] jl9:=by
 have sc : FnScope ["web","told","many_with"] ["web"] (ja7 (top 45)):=⟨rfl,rfl,rfl,by decide +kernel,rfl,by decide +kernel,by decide +kernel⟩
 refine D.F.ok sc (fun vs H Q E h=>?_) (fun cdv A outer s H vs Q E hr h=>?_)
 ·obtain ⟨v,ps,ts,rfl,_⟩:=h
  rfl
 obtain ⟨v,ps,ts,rfl,hw,wok,hp12,hwd,h⟩:=h
 have G_along:=G_along0 H
 have hll:=jkf wok
 have hle:=jmd H wok wok.p.pos
 have hu:=jbi hr
 have hu0 : _ < PySem.cLine:=Nat.lt_of_succ_lt hu
 refine ⟨_,(ja4 (jbm (jac G_look_at_edges (hr.mono (by decide)) rfl D_look_at_edges.m D_look_at_edges.F.kp D_look_at_edges.b .nil jar (ja0 (qv 0) ja2))) (ja4 (jaj (i:=1) sc.nd rfl (Or.inl rfl) (jac G_along (hr.mono (by decide)) rfl D_along.m D_along.F.kp D_along.b .nil jar (ja0 (qv 0) (ja0 (jb4 (ja0 ja5 (ja0 ja5 (ja0 (jas ja2) (ja0 (jas ja2) ja2))))) (ja0 (jax rfl D_least_grown.m) (ja0 (jax rfl D_least_joined.m) ja2)))))) (ja4 (jhz (i:=2) sc.nd rfl (Or.inl rfl) (CpScope.of (N:=["pair","many"]) (src:=[none,none]) (by rfl)) rfl (ji0 rfl B.zip (ja0 (jaf q_ix (qv 0) ja5 (fun _ _=>rfl)) (ja0 (jaf q_ix (qv 1) ja5 (fun _ _=>rfl)) ja2))) (fun _ _ _ _=>(jbs (n:=2) rfl (jae (jab (i:=0) (jah (l:=["pair","many"]) (by rfl)) rfl (Or.inl rfl)) (jae (jab (i:=1) (jah (l:=["pair","many"]) (by rfl)) rfl (Or.inl rfl)) jbe)))) (fun _ _ _ _=>jca) (fun _ _ _ _=>(jb4 (ja0 (jaf q_ix (qv 0) ja5 (fun _ _=>rfl)) (ja0 (qv 1) ja2))))) (ja6 (jag (jb4 (ja0 (jaf q_ix (qv 1) ja5 (fun _ _=>rfl)) (ja0 (jaf q_ix (qv 1) ja5 (fun _ _=>rfl)) (ja0 (jaf q_ix (qv 1) ja5 (fun _ _=>rfl)) (ja0 (qv 2) ja2)))))))))),?_⟩
 refine jak fun R hR=>?_
 walk_at "RD"
 refine ⟨v,ps,ts,rfl,hw,wok,hwd,fun H1 s1=>?_⟩
 walk_at "RD"
 subst hR
 refine jak fun R hR=>?_
 walk_at "RD"
 intro l1 hl1
 have s2:=s1.trans (ja3 hl1 (.lst []))
 have el1 : upd H1 l1 (.lst []) l1 = some (.lst []):=ja1
 have hl10 : H l1 = none:=s1.free hl1
 generalize upd H1 l1 (.lst []) = H2 at s2 el1
 intro l2 hl2
 have s3:=s2.trans (ja3 hl2 (.lst []))
 have el2 : upd H2 l2 (.lst []) l2 = some (.lst []):=ja1
 have el13:=(ja3 hl2 (.lst [])) _ _ el1
 generalize upd H2 l2 (.lst []) = H3 at s3 el2 el13
 intro l3 hl3
 have s4:=s3.trans (ja3 hl3 (.tup [.int 0,.int 1,.ref l1,.ref l2]))
 have el3 : upd H3 l3 (.tup [.int 0,.int 1,.ref l1,.ref l2]) l3 = some (.tup [.int 0,.int 1,.ref l1,.ref l2]):=ja1
 have el14:=(ja3 hl3 (.tup [.int 0,.int 1,.ref l1,.ref l2])) _ _ el13
 have el24:=(ja3 hl3 (.tup [.int 0,.int 1,.ref l1,.ref l2])) _ _ el2
 generalize upd H3 l3 (.tup [.int 0,.int 1,.ref l1,.ref l2]) = H4 at s4 el3 el14 el24
 refine ⟨v,.ref l3,f_least_grown,f_least_joined,ps,ts,(0,1,[],[]),jav ps ts,rfl,.head _,.tail _ (.head _),hw.same s4,wok,hp12,⟨jay s4,l3,l1,l2,rfl,el3,(fun xs z=>by rw [hl10] at z; cases z),el14,el24⟩,⟨rfl,Nat.le_refl _⟩,hle,fun v' H5 s5 q=>?_⟩
 obtain ⟨_,t,m2,m3,rfl,et,f2,e2,e3⟩:=q
 have S5:=s4.trans s5
 have hw5:=hw.same S5
 clear el14 el24 el3 el13 el1 el2 hl1 hl2 hl3 s1 s2 s3 s4 s5 hl10
 walk_at "RD"
 subst hR
 refine jak fun R hR=>?_
 walk_at "RD"
 obtain ⟨x,pa,ta,xs,ys,rfl,ex,ep,eta,pp,pt⟩:=id hw5
 have hlx : xs.length = ps.length:=Paired.length pp
 generalize hcc : (jav ps ts).2.2.2 = cc at e3 hll
 refine jan (Itz true K pa m3) H5 (fun R2 hR2=>?_) (fun z hz=>jb2 xs.length (fun i σ' Hc=>∃ w1 w2 zs,σ' = [w1,w2]∧Same H5 Hc∧Hc z = some (.lst zs)∧Prs Hc zs ((jke ps ts).take i)) ⟨none,none,[],rfl,ja3 hz _,ja1,.nil⟩ ?_ ?_)
 ·unfold jms
  simp_arith [jal,ex,at0,et,at3']
  exact ⟨true,pa,m3,rfl,⟨_,show SqL K H5 pa _ from SqL.of ep⟩,⟨_,show SqL K H5 m3 _ from SqL.of e3⟩,hR2⟩
 ·rintro i σ' Hc hi ⟨w1,w2,zs,rfl,s1,ez,pz⟩
  have x1 : xs[i]? = some xs[i]:=List.getElem?_eq_getElem hi
  have y1 : cc[i]? = some (cc[i]'(by omega)):=List.getElem?_eq_getElem _
  generalize xs[i] = xv at x1
  generalize (cc[i]'(by omega)) = y at y1
  have Y1 : (cc.map V.int)[i]? = some (.int y):=by rw [List.getElem?_map,y1]; rfl
  have za : SqB true K Hc pa xs:=show SqL K Hc pa _ from SqL.of (s1 _ _ ep)
  have zb : SqB true K Hc m3 (cc.map V.int):=show SqL K Hc m3 _ from SqL.of (s1 _ _ e3)
  refine ⟨⟨_,_,_,_,za,zb,x1,Y1⟩,?_⟩
  rintro vv H' ⟨t',x',y',ht,rfl,rfl,hx,hy⟩
  have E1 : xv = x':=Option.some.inj (x1.symm.trans (hx _ za))
  have E2 : V.int y = y':=Option.some.inj (Y1.symm.trans (hy _ zb))
  subst E1 E2
  obtain ⟨p,hp,tq,rfl,etq⟩:=jad pp x1
  have hzl : zs.length ≤ 40:=by
   have:=Paired.length pz
   rw [List.length_take] at this
   omega
  have s2:=ja3 ht (.tup [.ref tq,.int y])
  have et2 : upd Hc t' (.tup [.ref tq,.int y]) t' = some (.tup [.ref tq,.int y]):=ja1
  have ez2:=s2 _ _ ez
  have s12:=s1.trans s2
  have etq2:=s12 _ _ etq
  have pz2:=Prs.same s2 pz
  generalize upd Hc t' (.tup [.ref tq,.int y]) = H2 at s2 et2 ez2 s12 etq2 pz2
  simp_arith [et2,jal,etq2,at0]
  intro t3 ht3
  have s3:=ja3 ht3 (.tup [.int p.1,.int y])
  have et3 : upd H2 t3 (.tup [.int p.1,.int y]) t3 = some (.tup [.int p.1,.int y]):=ja1
  have ez3:=s3 _ _ ez2
  have pz3:=Prs.same s3 pz2
  have s13:=s12.trans s3
  generalize upd H2 t3 (.tup [.int p.1,.int y]) = H6 at s3 et3 ez3 pz3 s13
  have hm : (jke ps ts)[i]? = some (p.1,y):=by
   unfold jke
   rw [hcc,List.getElem?_zip_eq_some]
   exact ⟨by rw [List.getElem?_map,hp]; rfl,y1⟩
  have t7:=jcw (ys:=zs ++ [.ref t3]) ez3
  refine ⟨_,ez3,szl' (by omega),_,_,_,rfl,jao s13 hz,ja1,?_⟩
  rw [jaq hm]
  exact jaz (Prs.tups t7 pz3) (Pr.tups ⟨t3,rfl,et3⟩ t7)
 rintro σ' H6 ⟨w1,w2,zs,rfl,s6,ez,pz⟩
 refine ⟨⟨_,_,show SqL K H6 pa _ from SqL.of (s6 _ _ ep),show SqL K H6 m3 _ from SqL.of (s6 _ _ e3),.inl (Nat.le_refl _)⟩,?_⟩
 have hml : (jke ps ts).length = xs.length:=by
  unfold jke
  rw [List.length_zip,hcc,List.length_map]
  omega
 rw [← hml,List.take_length] at pz
 walk_at "RD"
 subst hR
 simp_arith [jal,s6 _ _ et,at0,at1,at2']
 intro t9 ht9
 have s9:=ja3 ht9 (.tup [.int (jav ps ts).1,.int (jav ps ts).2.1,.ref m2,.ref z])
 refine h t9 m2 z zs _ f2 (S5.free hz) ?_ ((S5.trans s6).trans s9) ja1 (s9 _ _ (s6 _ _ e2)) (s9 _ _ ez) (Prs.same s9 pz)
 intro q
 rw [q,hz] at e2
 cases e2
end
end My
namespace My
open PySem L2
section
variable {P : Program} {w : World} {K : PySem.W.Frag} {mg : Str→Option Value} {base : Heap} {c1 c2 c3 c4 : Tok}
noncomputable def jrl (ps : List (Int × Int)) (ss : List Int) : Int:=((ps.filter fun p=>decide (p.1 ∈ ss)).map (·.2)).sum
theorem jhe : ∀ (ps : List (Int × Int)) (ss : List Int),jrl ps ss = cst ps ss
 | [],_=>rfl
 | p :: r,ss=>by
  have ih:=jhe r ss
  unfold jrl at ih ⊢
  rw [cst,← ih,List.filter_cons]
  by_cases c : p.1 ∈ ss
  ·rw [if_pos (decide_eq_true c),if_pos c,List.map_cons,List.sum_cons]
  ·rw [if_neg (by rw [decide_eq_false c]; exact Bool.false_ne_true),if_neg c,Int.zero_add]
noncomputable def jpi : Sp:=fun vs H Q _=>∃ v u ps ts ss,vs = [v,u]∧jbr H v ps ts∧ps.length ≤ 900∧jdr H u ss∧∀ H',Same H H'→Q (.int (jrl ps ss)) H'
structure CheapI (ps : List (Int × Int)) (T : Int) (G : List (List Int)) (c : Int) (best : List (List Int)) : Prop where
 le : c ≤ T
 all : ∀ s ∈ G,c ≤ cst ps s
 eq : best = G.filter fun s=>decide (cst ps s = c)
 non : best = []→c = T
theorem CheapI.over {ps : List (Int × Int)} {T c : Int} {G best : List (List Int)} {s : List Int} (h : CheapI ps T G c best) (hc : c < cst ps s) : CheapI ps T (G ++ [s]) c best :=
 ⟨h.le,fun t ht=>(List.mem_append.mp ht).elim (h.all t) fun q=>by rw [List.mem_singleton.mp q]; omega,by
  rw [List.filter_append,List.filter_cons,if_neg (by rw [decide_eq_false (by omega)]; exact Bool.false_ne_true),List.filter_nil,List.append_nil]
  exact h.eq,h.non⟩
theorem CheapI.less {ps : List (Int × Int)} {T c : Int} {G best : List (List Int)} {s : List Int} (h : CheapI ps T G c best) (hc : cst ps s < c) : CheapI ps T (G ++ [s]) (cst ps s) [s] :=
 ⟨by have:=h.le; omega,fun t ht=>(List.mem_append.mp ht).elim (fun q=>by have:=h.all t q; omega) fun q=>by rw [List.mem_singleton.mp q]; omega,by
  rw [List.filter_append,jc0 (l:=G) (fun t ht=>decide_eq_false (by have:=h.all t ht; omega)),List.nil_append,List.filter_cons,if_pos (decide_eq_true rfl),List.filter_nil],fun z=>by cases z⟩
theorem CheapI.like {ps : List (Int × Int)} {T c : Int} {G best : List (List Int)} {s : List Int} (h : CheapI ps T G c best) (hc : cst ps s = c) : CheapI ps T (G ++ [s]) (cst ps s) (best ++ [s]) :=
 ⟨by have:=h.le; omega,fun t ht=>(List.mem_append.mp ht).elim (fun q=>by have:=h.all t q; omega) fun q=>by rw [List.mem_singleton.mp q]; omega,by
  rw [List.filter_append,hc,← h.eq,List.filter_cons,if_pos (decide_eq_true hc),List.filter_nil],fun z=>by simp at z⟩
theorem jnd : ∀ {ps : List (Int × Int)} {ss : List Int},(∀ p ∈ ps,p.1 ∈ ss)→cst ps ss = (ps.map (·.2)).sum
 | [],_,_=>rfl
 | p :: r,ss,h=>by rw [cst,if_pos (h p (.head _)),jnd (ps:=r) fun q hq=>h q (.tail _ hq),List.map_cons,List.sum_cons]
noncomputable def jc2 (ps ts : List (Int × Int)) : List (List Int):=((subL (ps.map (·.1))).filter (touB ts)).filter fun s=>decide (cst ps s = (jav ps ts).1)
theorem CheapI.fin {ps ts : List (Int × Int)} {c : Int} {best : List (List Int)} (wok : WebOk ps ts) (h : CheapI ps (ps.map (·.2)).sum ((subL (ps.map (·.1))).filter (touB ts)) c best) : c = (jav ps ts).1∧best = jc2 ps ts:=by
 have hl:=jcd wok
 have hfull : ps.map (·.1) ∈ (subL (ps.map (·.1))).filter (touB ts):=by
  rw [List.mem_filter]
  refine ⟨je8 _,?_⟩
  unfold touB
  rw [List.all_eq_true]
  intro t h
  rw [decide_eq_true (jch wok t h).2.1]
  rfl
 have hne : best ≠ []:=fun z=>by
  have hc:=h.non z
  have : ps.map (·.1) ∈ best:=by
   rw [h.eq,List.mem_filter]
   exact ⟨hfull,decide_eq_true (by rw [jnd fun p hp=>List.mem_map_of_mem hp,hc])⟩
  rw [z] at this
  cases this
 obtain ⟨s,hs⟩:=List.exists_mem_of_ne_nil best hne
 have hs':=hs
 rw [h.eq,List.mem_filter,decide_eq_true_eq] at hs'
 have e : c = (jav ps ts).1:=by
  have h1:=hl.le s hs'.1
  have h2:=h.all _ hl.mem.1
  have h3:=hl.mem.2
  omega
 refine ⟨e,?_⟩
 unfold jc2
 rw [← e]
 exact h.eq
theorem jj7 {p : Addr} {H H' : Hp} (s : Same H H') : But p H H':=fun b o _ q=>s b o q
noncomputable def jld : Sp:=fun vs H Q _=>∃ v ps ts,vs = [v]∧jbr H v ps ts∧WebOk ps ts∧ps.length ≤ 12 ∧
 ∀ t l ys qs H',Same H H'→H' t = some (.tup [.int (jav ps ts).1,.ref l])→H' l = some (.lst ys)→Paired (jdr H') ys qs→qs.Perm (jc2 ps ts)→qs.Pairwise (fun a b=>HT.lexLt b a = false)→Q (.ref t) H'
theorem ji6 {f : Addr} {fd : FuncData}  (B : Blt mg) (D : DefAt K mg "_law_cost" (top 60) ["_law_web_here","_law_some"] f fd) : FnOk P w K mg base CX0 1 f fd ["_law_web_here","_law_some"] jpi:=by
 have sc : FnScope ["_law_web_here","_law_some"] ["_law_web_here","_law_some"] (ja7 (top 60)):=⟨rfl,rfl,rfl,by decide +kernel,rfl,by decide +kernel,by decide +kernel⟩
 refine D.F.ok sc (fun vs H Q E h=>?_) (fun cdv A outer s H vs Q E hr h=>?_)
 ·obtain ⟨v,u,ps,ts,ss,rfl,_⟩:=h
  rfl
 obtain ⟨v,u,ps,ts,ss,rfl,hw,hl9,⟨sa,rfl,es⟩,h⟩:=h
 obtain ⟨x,pa,ta,xs,ys,rfl,ex,ep,et,pp,pt⟩:=id hw
 have hlx : xs.length = ps.length:=Paired.length pp
 have hu:=jbi hr
 have hu0 : _ < PySem.cLine:=Nat.lt_of_succ_lt hu
 refine ⟨_,(ja6 (jag (jaa (q_sum rfl) rfl B.sum PyProof.Rows.boot_sum (ja0 (jbv (CpScope.of (N:=["_law_place","_law_price","_law_some"]) (src:=[none,none,some 1]) (by rfl)) rfl (jb7 (jaf q_ix (qv 0) ja5 (fun _ _=>rfl))) (fun _ _ _ _=>(jbs (n:=2) rfl (jae (jab (i:=0) (jah (l:=["_law_place","_law_price","_law_some"]) (by rfl)) rfl (Or.inl rfl)) (jae (jab (i:=1) (jah (l:=["_law_place","_law_price","_law_some"]) (by rfl)) rfl (Or.inl rfl)) jbe)))) (fun _ _ _ _=>(jel (jb3 jqm (qv 0) (qv 2) (by with_unfolding_all rfl)))) (fun _ _ _ _=>(qv 1))) ja2)))),?_⟩
 walk_at "RD"
 refine jan (Itl K pa) H (fun R hR=>?_) (fun z hz=>jb2 ps.length (fun i σ' Hc=>∃ w1 w2,σ' = [w1,w2,some (.ref sa)]∧Same H Hc∧Hc z = some (.lst ((((ps.take i).filter fun p=>decide (p.1 ∈ ss)).map (·.2)).map V.int))) ⟨none,none,rfl,ja3 hz _,ja1⟩ ?_ ?_)
 ·unfold jcb
  simp_arith [jal,ex,at0]
  exact ⟨pa,rfl,⟨_,SqL.of ep⟩,hR⟩
 ·rintro i σ' Hc hi ⟨w1,w2,rfl,s4,ez⟩
  have x1 : xs[i]? = some (xs[i]'(by omega)):=List.getElem?_eq_getElem _
  have z1 : SqL K Hc pa xs:=SqL.of (s4 _ _ ep)
  refine ⟨⟨_,_,z1,x1⟩,?_⟩
  rintro y H' ⟨rfl,hy⟩
  obtain ⟨q,hq,pq⟩:=jad pp (hy _ z1)
  obtain ⟨t,rfl,ht⟩:=pq.same s4
  have es':=s4 _ _ es
  simp_arith [ht,jal,es']
  refine ⟨rfl,jn1 _,?_⟩
  rw [jjp,jaq hq,List.filter_append]
  by_cases c : q.1 ∈ ss
  ·rw [if_pos (decide_eq_true c)]
   refine ⟨_,ez,?_,_,_,rfl,jao s4 hz,?_⟩
   ·rw [List.length_map,List.length_map]
    have:=List.length_filter_le (fun p : Int × Int=>decide (p.1 ∈ ss)) (ps.take i)
    rw [List.length_take] at this
    exact szl' (by omega)
   ·rw [ja1,List.map_append,List.map_append,List.filter_cons,if_pos (decide_eq_true c)]
    rfl
  ·rw [if_neg (fun z=>c (of_decide_eq_true z)),List.filter_cons,if_neg (by rw [decide_eq_false c]; decide),List.filter_nil,List.append_nil]
   exact ⟨_,_,rfl,s4,ez⟩
 rintro σ' H1 ⟨w1,w2,rfl,s1,ez⟩
 refine ⟨⟨_,SqL.of (s1 _ _ ep),by omega⟩,?_⟩
 rw [List.take_length] at ez
 exact ⟨z,_,rfl,ez,h H1 s1⟩
theorem jev {f : Addr} {fd : FuncData} {f_law_sets : Addr} {d_law_sets : FuncData} {f_law_cost : Addr} {d_law_cost : FuncData} {f_law_touches : Addr} {d_law_touches : FuncData} (B : Blt mg) (D : DefAt K mg "_law_cheapest" (top 61) ["_law_web_here"] f fd) (D_law_sets : DefAt K mg "_law_sets" (top 58) ["_law_web_here"] f_law_sets d_law_sets) (G_law_sets : FnOk P w K mg base CX0 1 f_law_sets d_law_sets ["_law_web_here"] jph) (D_law_cost : DefAt K mg "_law_cost" (top 60) ["_law_web_here","_law_some"] f_law_cost d_law_cost) (G_law_cost : FnOk P w K mg base CX0 1 f_law_cost d_law_cost ["_law_web_here","_law_some"] jpi) (D_law_touches : DefAt K mg "_law_touches" (top 59) ["_law_web_here","_law_some"] f_law_touches d_law_touches) (G_law_touches : FnOk P w K mg base CX0 1 f_law_touches d_law_touches ["_law_web_here","_law_some"] spTou) : FnOk P w K mg base CX0 2 f fd ["_law_web_here"] jld:=by
 have sc : FnScope ["_law_web_here","_law_least","_law_found","_law_some","_law_cost_here"] ["_law_web_here"] (ja7 (top 61)):=⟨rfl,rfl,rfl,by decide +kernel,rfl,by decide +kernel,by decide +kernel⟩
 refine D.F.ok sc (fun vs H Q E h=>?_) (fun cdv A outer s H vs Q E hr h=>?_)
 ·obtain ⟨v,ps,ts,rfl,_⟩:=h
  rfl
 obtain ⟨v,ps,ts,rfl,hw,wok,hp12,h⟩:=h
 obtain ⟨x,pa,ta,xs,ys,rfl,ex,ep,et,pp,pt⟩:=id hw
 have hlx : xs.length = ps.length:=Paired.length pp
 have hu2 : _ + 2 < PySem.cLine:=Nat.lt_of_le_of_lt (Nat.add_le_add_left (by decide : 2 ≤ 64) _) hr.units
 have hu:=jbi hr
 have hu0 : _ < PySem.cLine:=Nat.lt_of_succ_lt hu
 refine ⟨_,(ja4 (jaj (i:=1) sc.nd rfl (Or.inl rfl) (jaa (q_sum rfl) rfl B.sum PyProof.Rows.boot_sum (ja0 (jbv (CpScope.of (N:=["_law_place","_law_price"]) (src:=[none,none]) (by rfl)) rfl (jb7 (jaf q_ix (qv 0) ja5 (fun _ _=>rfl))) (fun _ _ _ _=>(jbs (n:=2) rfl (jae (jab (i:=0) (jah (l:=["_law_place","_law_price"]) (by rfl)) rfl (Or.inl rfl)) (jae (jab (i:=1) (jah (l:=["_law_place","_law_price"]) (by rfl)) rfl (Or.inl rfl)) jbe)))) (fun _ _ _ _=>jca) (fun _ _ _ _=>(qv 1))) ja2))) (ja4 (jaj (i:=2) sc.nd rfl (Or.inl rfl) (jas ja2)) (ja4 (jbl PassesOwn.never rfl (jb7 (jac G_law_sets (hr.mono (by decide)) rfl D_law_sets.m D_law_sets.F.kp D_law_sets.b .nil jar (ja0 (qv 0) ja2))) (jab (i:=3) sc.nd rfl (Or.inl rfl)) (ja4 (jaj (i:=4) sc.nd rfl (Or.inl rfl) (jac G_law_cost (hr.mono (by decide)) rfl D_law_cost.m D_law_cost.F.kp D_law_cost.b .nil jar (ja0 (qv 0) (ja0 (qv 3) ja2)))) (ja6 (jbf (PW.pt (jek (jb3 q_le (qv 4) (qv 1) (jap _)) (jd7 (jb1 (jac G_law_touches (hr.mono (by decide)) rfl D_law_touches.m D_law_touches.F.kp D_law_touches.b .nil jar (ja0 (qv 0) (ja0 (qv 3) ja2))))))) (ja4 (jbf (jb3 q_lt (qv 4) (qv 1) (jap _)) (ja6 (jaj (i:=2) sc.nd rfl (Or.inl rfl) (jas ja2))) jai) (ja4 (jaj (i:=1) sc.nd rfl (Or.inl rfl) (qv 4)) (ja6 (jbm (q_bm PySem.F.plainAttrs_list PySem.F.slot_list_append PySem.F.type_list_append jc4 (qv 2) (ja0 (qv 3) ja2)))))) jai)))) (ja6 (jag (jb4 (ja0 (qv 1) (ja0 (jaa (jfd hu2) rfl B.sorted PyProof.Rows.boot_sorted (ja0 (qv 2) ja2)) ja2)))))))),?_⟩
 refine jak fun R hR=>?_
 walk_at "RD"
 refine jan (Itl K pa) H (fun R2 hR2=>?_) (fun z hz=>jb2 ps.length (fun i σ' Hc=>∃ w1 w2,σ' = [w1,w2]∧Same H Hc∧Hc z = some (.lst (((ps.take i).map (·.2)).map V.int))) ⟨none,none,rfl,ja3 hz _,ja1⟩ ?_ ?_)
 ·unfold jcb
  simp_arith [jal,ex,at0]
  exact ⟨pa,rfl,⟨_,SqL.of ep⟩,hR2⟩
 ·rintro i σ' Hc hi ⟨w1,w2,rfl,s4,ez⟩
  have x1 : xs[i]? = some (xs[i]'(by omega)):=List.getElem?_eq_getElem _
  have z1 : SqL K Hc pa xs:=SqL.of (s4 _ _ ep)
  refine ⟨⟨_,_,z1,x1⟩,?_⟩
  rintro y H' ⟨rfl,hy⟩
  obtain ⟨q,hq,pq⟩:=jad pp (hy _ z1)
  obtain ⟨t,rfl,ht⟩:=pq.same s4
  simp_arith [ht]
  refine ⟨_,ez,?_,_,_,rfl,jao s4 hz,?_⟩
  ·rw [List.length_map,List.length_map,List.length_take]
   exact szl' (by omega)
  ·rw [ja1,jaq hq,List.map_append,List.map_append]
   rfl
 rintro σ' H1 ⟨w1,w2,rfl,s1,ez⟩
 refine ⟨⟨_,SqL.of (s1 _ _ ep),by omega⟩,?_⟩
 rw [List.take_length] at ez
 refine ⟨z,_,rfl,ez,?_⟩
 subst hR
 generalize hT : (ps.map (·.2)).sum = T
 refine jak fun R hR=>?_
 walk_at "RD"
 intro p hp
 have s2:=s1.trans (ja3 hp (.lst []))
 have e2 : upd H1 p (.lst []) p = some (.lst []):=ja1
 have hp0 : H p = none:=s1.free hp
 generalize upd H1 p (.lst []) = H2 at s2 e2
 clear ez s1 hp
 subst hR
 refine jak fun R hR=>?_
 refine jcx (ι:=Addr × List V × Hp) (fun q=>Itl K q.1) (fun q=>q.2.2) (fun q=>q.2.2 q.1 = some (.lst q.2.1)∧H2 q.1 = none∧Same H2 q.2.2∧Paired (jdq H2 q.2.2) q.2.1 (subL (ps.map (·.1)))) (fun R2 hR2=>?_) (fun q hq=>?_)
 ·unfold jcb
  walk_at "RD"
  refine ⟨.ref x,ps,ts,rfl,hw.same s2,hp12,fun l us H3 hl s3 el pu=>?_⟩
  exact ⟨l,rfl,⟨_,SqL.of el⟩,hR2 (l,us,H3) ⟨el,hl,s3,pu⟩⟩
 obtain ⟨l,us,HB⟩:=q
 obtain ⟨el,hl,s3,pu⟩:=hq
 dsimp only at el hl s3 pu
 have sB:=s2.trans s3
 have e2B:=s3 _ _ e2
 have hsl : (subL (ps.map (·.1))).length ≤ 4096:=by
  rw [je5,List.length_map]
  exact Nat.le_trans (Nat.pow_le_pow_right (by decide) hp12) (by decide)
 have hul : us.length = (subL (ps.map (·.1))).length:=Paired.length pu
 have nlp : l ≠ p:=fun q=>by rw [q,e2] at hl; cases hl
 have webB : ∀ {Hc : Hp},But p HB Hc→jbr Hc (.ref x) ps ts:=fun b=>by
  have n : ∀ {a : Addr} {o : HO},H a = some o→a ≠ p:=fun q z=>by rw [z,hp0] at q; cases q
  refine ⟨x,pa,ta,xs,ys,rfl,b _ _ (n ex) (sB _ _ ex),b _ _ (n ep) (sB _ _ ep),b _ _ (n et) (sB _ _ et),?_,?_⟩
  ·exact Paired.mapP pp fun _ _ ⟨t,e,q⟩=>⟨t,e,b _ _ (n q) (sB _ _ q)⟩
  ·exact Paired.mapP pt fun _ _ ⟨t,e,q⟩=>⟨t,e,b _ _ (n q) (sB _ _ q)⟩
 refine jbx (K:=K) (a:=l) (xs:=us) (fun i σ Hc=>∃ fl zs best c v3 v4,σ = [some (.ref x),some (.int c),some (.ref fl),v3,v4]∧But p HB Hc∧(fl = p ∨ HB fl = none)∧Hc fl = some (.lst zs)∧Paired (jdq H2 HB) zs best∧CheapI ps T (((subL (ps.map (·.1))).take i).filter (touB ts)) c best) ⟨p,[],[],T,none,none,rfl,But.refl _ _,.inl rfl,e2B,.nil,⟨Int.le_refl _,fun s hs=>by simp at hs,rfl,fun _=>rfl⟩⟩ (fun i σ Hc _ ⟨_,_,_,_,_,_,_,b,_⟩=>SqL.of (b _ _ nlp el)) ?_ ?_
 ·rintro i y σ Hc hi ⟨fl,zs,best,c,v3,v4,rfl,b,hfl,ef,pz,ci⟩
  obtain ⟨ss,hss,hset⟩:=jad pu hi
  obtain ⟨⟨sa,rfl,es⟩,hnew⟩:=id hset
  have hsa0:=hnew sa rfl
  have nsp : sa ≠ p:=fun q=>by rw [q,e2] at hsa0; cases hsa0
  have hft : ((subL (ps.map (·.1))).take (i + 1)).filter (touB ts) = ((subL (ps.map (·.1))).take i).filter (touB ts) ++ if touB ts ss = true then [ss] else []:=jii hss
  rw [hft]
  have hzl : zs.length ≤ 4096:=by
   have h1:=Paired.length pz
   rw [ci.eq] at h1
   have h2:=List.length_filter_le (fun s=>decide (cst ps s = c)) (((subL (ps.map (·.1))).take i).filter (touB ts))
   have h3:=List.length_filter_le (touB ts) ((subL (ps.map (·.1))).take i)
   rw [List.length_take] at h3
   omega
  walk_at "RD"
  refine ⟨.ref x,.ref sa,ps,ts,ss,rfl,webB b,by omega,⟨sa,rfl,b _ _ nsp es⟩,fun H' s'=>?_⟩
  have b' : But p HB H':=b.trans (jj7 s')
  have ef':=s' _ _ ef
  clear ef b s'
  rw [jhe]
  walk_at "RD"
  by_cases c1 : cst ps ss ≤ c
  ·rw [decide_eq_true c1]
   walk_at "RD"
   refine ⟨.ref x,.ref sa,ps,ts,ss,rfl,webB b',wok.tl,⟨sa,rfl,b' _ _ nsp es⟩,?_⟩
   by_cases c2 : touB ts ss = true
   ·rw [c2]
    walk_at "RD"
    by_cases c3 : cst ps ss < c
    ·rw [decide_eq_true c3]
     walk_at "RD"
     intro g hg
     have s5:=ja3 hg (.lst [])
     have b5:=b'.trans (jj7 s5)
     simp_arith [ja1]
     refine ⟨⟨g,[],rfl,ja1⟩,?_⟩
     simp_arith [ja1,jhq]
     refine ⟨szl' (by simp),?_⟩
     have hgB : g = p ∨ HB g = none:=by
      by_cases gp : g = p
      ·exact .inl gp
      ·right
       cases hq : HB g with
       | none=>rfl
       | some o=>rw [b' _ _ gp hq] at hg; cases hg
     exact ⟨g,[.ref sa],[ss],_,_,_,rfl,fun a o na q=>by
      rw [ja8 (fun z=>by rw [z] at q na; exact hgB.elim na fun w=>by rw [w] at q; cases q)]
      exact b' _ _ na q,hgB,ja1,.cons hset .nil,ci.less c3⟩
    ·rw [decide_eq_false c3]
     simp_arith [ef']
     refine ⟨⟨fl,zs,rfl,ef'⟩,?_⟩
     simp_arith [ef']
     refine ⟨szg (by omega),?_⟩
     exact ⟨fl,_,_,_,_,_,rfl,fun a o na q=>by
      rw [ja8 (fun z=>by rw [z] at q na; exact hfl.elim na fun w=>by rw [w] at q; cases q)]
      exact b' _ _ na q,hfl,ja1,jaz pz hset,ci.like (by omega)⟩
   ·rw [if_neg c2,List.append_nil,Bool.eq_false_iff.mpr c2]
    walk_at "RD"
    exact ⟨fl,zs,best,c,_,_,rfl,b',hfl,ef',pz,ci⟩
  ·rw [decide_eq_false c1]
   walk_at "RD"
   refine ⟨fl,zs,best,c,_,_,rfl,b',hfl,ef',pz,?_⟩
   split
   ·exact ci.over (by omega)
   ·rw [List.append_nil]; exact ci
 ·rintro σ Hc ⟨fl,zs,best,c,v3,v4,rfl,b,hfl,ef,pz,ci⟩
  rw [hul,List.take_length,← hT] at ci
  obtain ⟨e1,e3⟩:=ci.fin wok
  subst e1 e3
  have pz' : Paired (jdr Hc) zs (jc2 ps ts):=Paired.mapP pz fun u s ⟨⟨a,e,q⟩,w⟩=>⟨a,e,b _ _ (fun z=>by have:=w a e; rw [z,e2] at this; cases this) q⟩
  have hzl : zs.length ≤ 4096:=by
   have h1:=Paired.length pz
   unfold jc2 at h1
   have h2:=List.length_filter_le (fun s=>decide (cst ps s = (jav ps ts).1)) ((subL (ps.map (·.1))).filter (touB ts))
   have h3:=List.length_filter_le (touB ts) (subL (ps.map (·.1)))
   omega
  subst hR
  walk_at "RD"
  refine ⟨fl,zs,jc2 ps ts,rfl,ef,pz',by omega,fun l9 ws qs hl9 _ pq pm pw=>?_⟩
  have s9:=ja3 hl9 (.lst ws)
  have el9 : upd Hc l9 (.lst ws) l9 = some (.lst ws):=ja1
  have pq9 : Paired (jdr (upd Hc l9 (.lst ws))) ws qs:=Paired.mapP pq fun u s ⟨a,e,q⟩=>⟨a,e,s9 _ _ q⟩
  generalize upd Hc l9 (.lst ws) = H9 at s9 el9 pq9
  intro t9 ht9
  have s10:=ja3 ht9 (.tup [.int (jav ps ts).1,.ref l9])
  have bH : Same H Hc:=fun a o q=>b _ _ (fun z=>by rw [z,hp0] at q; cases q) (sB _ _ q)
  exact h t9 l9 ws qs _ ((bH.trans s9).trans s10) ja1 (s10 _ _ el9) (Paired.mapP pq9 fun u s ⟨a,e,q⟩=>⟨a,e,s10 _ _ q⟩) pm pw
end
end My
namespace My
open PySem L2
noncomputable abbrev Wv:=Nat × Int × Nat × List (List Int)
noncomputable def allF (xs : List (List Int × List (List Int))) : List (List Int):=xs.flatMap fun x=>x.2.map (· ++ x.1)
noncomputable def EnR (H : Hp) (R : V→List (List Int)→Prop) (b : Nat) (fr : Addr→Prop) (w : V) (x : List Int × List (List Int)) : Prop:=∃ u m v,w = .ref u∧H u = some (.tup [v,.ref m])∧H m = some (.lst (x.1.map V.int))∧fr m∧x.1.length ≤ b∧x.2 ≠ []∧R v x.2
noncomputable def WyR (H : Hp) : Nat→V→Int→Nat→List (List Int)→Prop
 | 0=>fun v c e F=>(∃ t l,v = .ref t∧H t = some (.tup [.int c,.ref l])∧H l = some (.lst []))∧e = 0∧F = [[]]
 | i + 1=>fun v c e F=>∃ t l ws xs,v = .ref t∧H t = some (.tup [.int c,.ref l])∧H l = some (.lst ws)∧ws.length = e∧Paired (EnR H (fun v F=>∃ c e,WyR H i v c e F) 1 (fun _=>True)) ws xs∧F = allF xs
theorem EnR.kp {H H' : Hp} {R R' : V→List (List Int)→Prop} {b b' : Nat} {fr : Addr→Prop} {w : V} {x : List Int × List (List Int)} (k : Kp H H') (hb : b ≤ b') (hR : ∀ v F,R v F→R' v F) (h : EnR H R b fr w x) : EnR H' R' b' fr w x :=
 let ⟨u,m,v,e,h1,h2,h3,h4,h5,h6⟩:=h; ⟨u,m,v,e,k.2 _ _ h1,k.1 _ _ h2,h3,Nat.le_trans h4 hb,h5,hR _ _ h6⟩
theorem WyR.kp {H H' : Hp} (k : Kp H H') : ∀ {i : Nat} {v : V} {c : Int} {e : Nat} {F : List (List Int)},WyR H i v c e F→WyR H' i v c e F
 | 0,v,c,e,F,h=>let ⟨⟨t,l,h1,h2,h3⟩,h4⟩:=h; ⟨⟨t,l,h1,k.2 _ _ h2,k.1 _ _ h3⟩,h4⟩
 | i + 1,v,c,e,F,h=>let ⟨t,l,ws,xs,h1,h2,h3,h4,h5,h6⟩:=h; ⟨t,l,ws,xs,h1,k.2 _ _ h2,k.1 _ _ h3,h4,Paired.mapP h5 fun _ _ q=>q.kp k (Nat.le_refl _) fun v F ⟨c,e,z⟩=>⟨c,e,WyR.kp k z⟩,h6⟩
theorem WyR.head {H : Hp} {i : Nat} {v : V} {c : Int} {e : Nat} {F : List (List Int)} (h : WyR H i v c e F) : ∃ t l ws,v = .ref t∧H t = some (.tup [.int c,.ref l])∧H l = some (.lst ws)∧ws.length = e:=by
 cases i with
 | zero=>obtain ⟨⟨t,l,h1,h2,h3⟩,h4,_⟩:=h; exact ⟨t,l,[],h1,h2,h3,h4.symm⟩
 | succ i=>obtain ⟨t,l,ws,xs,h1,h2,h3,h4,_⟩:=h; exact ⟨t,l,ws,h1,h2,h3,h4⟩
noncomputable def wyGr (a : Wv) (p q : Int) (b : Bool) : Wv:=(a.1 + 1,if b = true then a.2.1 + q else a.2.1,1,if b = true then a.2.2.2.map (· ++ [p]) else a.2.2.2)
noncomputable def wyJn (a b : Wv) : Wv:=if a.2.1 ≠ b.2.1 then (if a.2.1 < b.2.1 then a else b) else (a.1,a.2.1,a.2.2.1 + b.2.2.1,a.2.2.2 ++ b.2.2.2)
noncomputable def VW : Vl Wv where
 VR:=fun H v a=>WyR H a.1 v a.2.1 a.2.2.1 a.2.2.2
 ok:=fun i j a=>a.1 = i∧a.2.2.1 ≤ j∧a.2.2.2 ≠ []
 gr:=wyGr
 jn:=wyJn
 kp:=fun k h=>WyR.kp k h
 mono:=fun h le=>⟨h.1,Nat.le_trans h.2.1 le,h.2.2⟩
noncomputable abbrev Pv:=Nat × Int × List (List Int)
noncomputable def prW (a : Wv) : Pv:=(a.1,a.2.1,a.2.2.2)
noncomputable def pvGr (a : Pv) (p q : Int) (b : Bool) : Pv:=(a.1 + 1,if b = true then a.2.1 + q else a.2.1,if b = true then a.2.2.map (· ++ [p]) else a.2.2)
noncomputable def pvJn (a b : Pv) : Pv:=if a.2.1 ≠ b.2.1 then (if a.2.1 < b.2.1 then a else b) else (a.1,a.2.1,a.2.2 ++ b.2.2)
noncomputable def VP : Vl Pv where
 VR:=fun _ _ _=>True
 ok:=fun _ _ _=>True
 gr:=pvGr
 jn:=pvJn
 kp:=fun _ h=>h
 mono:=fun h _=>h
theorem prW_jn (a b : Wv) : prW (wyJn a b) = pvJn (prW a) (prW b):=by
 unfold wyJn pvJn prW
 dsimp only
 split
 ·split <;> rfl
 ·rfl
theorem hom_pr (ps ts : List (Int × Int)) : ∀ (rs : List (Int × Int)) (L : AL Wv),(rs.foldl (stP VW ps ts) L).map (fun x=>(x.1,prW x.2)) = rs.foldl (stP VP ps ts) (L.map fun x=>(x.1,prW x.2)):=fun rs=>by
 induction rs with
 | nil=>intro L; rfl
 | cons r t ih =>
  intro L
  rw [List.foldl_cons,List.foldl_cons,ih]
  have st:=jht (A:=VW) (B:=VP) (h:=prW) (h':=prW) (S:=fun _=>True) (S':=fun _=>True) (edge:=jb6 ps ts r.1) (ahead:=jbb ts r.1) (p:=r.1) (q:=r.2) (fun a b _=>⟨rfl,trivial⟩) (fun a b _ _=>⟨prW_jn a b,trivial⟩) (L:=L) (fun _ _=>trivial)
  have e : stP VP ps ts (L.map fun x=>(x.1,prW x.2)) r = (stP VW ps ts L r).map fun x=>(x.1,prW x.2):=st.1.symm
  rw [e]
noncomputable def chF (qs : List (Int × Int)) (F : List (List Int)) : Pv:=(qs.length,(lstF qs F).1,F.filter fun s=>decide (cst qs s = (lstF qs F).1))
section
variable {qs : List (Int × Int)} {r : Int × Int} {F G : List (List Int)}
theorem chF_in (hn : ((qs ++ [r]).map (·.1)).Nodup) (hp : ∀ q ∈ qs,1 ≤ q.2) (hF : SF qs F) : chF (qs ++ [r]) (F.map fun s=>s ++ [r.1]) = pvGr (chF qs F) r.1 r.2 true:=by
 have hl:=jbw qs hF.1
 have e : lstF (qs ++ [r]) (F.map fun s=>s ++ [r.1]) = jf2 (lstF qs F) r.1 r.2 true:=jck (by simpa using hF.1) (hl.inn hn hp hF.2)
 have e1 : (lstF (qs ++ [r]) (F.map fun s=>s ++ [r.1])).1 = (lstF qs F).1 + r.2:=by rw [e]; rfl
 unfold chF pvGr
 rw [e1,List.length_append,List.filter_map]
 dsimp only
 rw [if_pos rfl,if_pos rfl]
 congr 3
 refine List.filter_congr fun s _=>?_
 show decide (cst (qs ++ [r]) (s ++ [r.1]) = _) = _
 rw [jfx hn,decide_eq_decide]
 omega
theorem jrm (hn : ((qs ++ [r]).map (·.1)).Nodup) (hF : SF qs F) : chF (qs ++ [r]) F = pvGr (chF qs F) r.1 r.2 false:=by
 have hl:=jbw qs hF.1
 have e : lstF (qs ++ [r]) F = jf2 (lstF qs F) r.1 r.2 false:=jck hF.1 (hl.out hn hF.2)
 have e1 : (lstF (qs ++ [r]) F).1 = (lstF qs F).1:=by rw [e]; rfl
 unfold chF pvGr
 rw [e1,List.length_append]
 dsimp only
 rw [if_neg Bool.false_ne_true,if_neg Bool.false_ne_true]
 congr 2
 refine List.filter_congr fun s hs=>?_
 rw [jdz hn (hF.2 s hs)]
theorem jrn (hF : F ≠ []) (hG : G ≠ []) : chF qs (F ++ G) = pvJn (chF qs F) (chF qs G):=by
 have h:=jbw qs hF
 have g:=jbw qs hG
 have e : lstF qs (F ++ G) = jcp (lstF qs F) (lstF qs G):=jck (fun z=>hF (List.append_eq_nil_iff.mp z).1) (h.app g)
 unfold chF pvJn
 dsimp only
 rw [e,List.filter_append]
 unfold jcp
 by_cases c : (lstF qs F).1 ≠ (lstF qs G).1
 ·rw [if_pos c,if_pos c]
  by_cases d : (lstF qs F).1 < (lstF qs G).1
  ·rw [if_pos d,if_pos d,jc0 (l:=G) (fun s hs=>decide_eq_false (by have:=g.le s hs; omega)),List.append_nil]
  ·rw [if_neg d,if_neg d,jc0 (l:=F) (fun s hs=>decide_eq_false (by have:=h.le s hs; omega)),List.nil_append]
 ·rw [if_neg c,if_neg c]
  have q : (lstF qs G).1 = (lstF qs F).1:=by omega
  dsimp only
  rw [q]
end
theorem hom_ch (ps ts : List (Int × Int)) : ∀ (rs qs : List (Int × Int)) (L : AL (List (List Int))),((qs ++ rs).map (·.1)).Nodup→(∀ q ∈ qs ++ rs,1 ≤ q.2)→(∀ x ∈ L,SF qs x.2)→(rs.foldl (stP VG ps ts) L).map (fun x=>(x.1,chF (qs ++ rs) x.2)) = rs.foldl (stP VP ps ts) (L.map fun x=>(x.1,chF qs x.2)):=fun rs=>by
 induction rs with
 | nil=>intro qs L _ _ h; rw [List.append_nil]; rfl
 | cons r t ih =>
  intro qs L hn hp h
  rw [List.foldl_cons,List.foldl_cons]
  have hn' : ((qs ++ [r]).map (·.1)).Nodup:=by
   have e : qs ++ r :: t = (qs ++ [r]) ++ t:=by simp
   rw [e,List.map_append,List.nodup_append] at hn
   exact hn.1
  have hp' : ∀ q ∈ qs,1 ≤ q.2:=fun q hq=>hp q (List.mem_append_left _ hq)
  have st:=jht (A:=VG) (B:=VP) (h:=chF qs) (h':=chF (qs ++ [r])) (S:=SF qs) (S':=SF (qs ++ [r])) (edge:=jb6 ps ts r.1) (ahead:=jbb ts r.1) (p:=r.1) (q:=r.2) (fun F b hF=>by
    cases b with
    | true=>exact ⟨chF_in hn' hp' hF,by show F.map _ ≠ []; simpa using hF.1,fun s hs=>by
      obtain ⟨q,hq,rfl⟩:=List.mem_map.mp hs
      rw [List.map_append]
      exact (hF.2 q hq).append (List.Sublist.refl _)⟩
    | false=>exact ⟨jrm hn' hF,hF.1,fun s hs=>by
      rw [List.map_append]
      exact (hF.2 s hs).trans (List.sublist_append_left _ _)⟩)
   (fun F G hF hG=>⟨jrn hF.1 hG.1,fun z=>hF.1 (List.append_eq_nil_iff.mp z).1,fun s hs=>(List.mem_append.mp hs).elim (hF.2 s) (hG.2 s)⟩) (L:=L) h
  have e : stP VP ps ts (L.map fun x=>(x.1,chF qs x.2)) r = (stP VG ps ts L r).map fun x=>(x.1,chF (qs ++ [r]) x.2):=st.1.symm
  rw [e]
  have:=ih (qs ++ [r]) (stP VG ps ts L r) (by rw [List.append_assoc]; exact hn) (by rw [List.append_assoc]; exact hp) st.2
  rw [List.append_assoc] at this
  exact this
theorem jm7 {qs : List (Int × Int)} {F G : List (List Int)} (hF : F ≠ []) (h : F.Perm G) : lstF qs F = lstF qs G:=jck hF ((jbw qs (fun z=>hF (by rw [z] at h; exact h.eq_nil))).perm h.symm)
theorem jnt {ps ts : List (Int × Int)} (wok : WebOk ps ts) (hp : ∀ q ∈ ps,1 ≤ q.2) : ∃ a : Wv,lkA (alL VW ps ts (0,0,0,[[]]) ps) [] = some a∧a.1 = ps.length∧a.2.2.2.Perm (jc2 ps ts):=by
 obtain ⟨F,h1,h2⟩:=jfu wok
 have hne:=jiw wok
 have hF : F ≠ []:=fun z=>hne (List.Perm.nil_eq (by rw [← z]; exact h2)).symm
 have hm:=hom_ch ps ts ps [] [([],[[]])] (by rw [List.nil_append]; exact wok.p.nodup) hp (fun x hx=>by
  rw [List.mem_singleton.mp hx]
  exact ⟨by simp,fun s hs=>by rw [List.mem_singleton.mp hs]; exact List.Sublist.refl _⟩)
 have hm : (alL VG ps ts [[]] ps).map (fun x=>(x.1,chF ps x.2)) = alL VP ps ts (0,0,[[]]) ps:=hm
 have hw : (alL VW ps ts (0,0,0,[[]]) ps).map (fun x=>(x.1,prW x.2)) = alL VP ps ts (0,0,[[]]) ps:=hom_pr ps ts ps [([],(0,0,0,[[]]))]
 have e:=hm.trans hw.symm
 have e1 : lkA ((alL VG ps ts [[]] ps).map (fun x=>(x.1,chF ps x.2))) [] = some (chF ps F):=by rw [jic,h1]; rfl
 rw [e,jic] at e1
 obtain ⟨a,ha,hpa⟩:=Option.map_eq_some_iff.mp e1
 refine ⟨a,ha,congrArg (·.1) hpa,?_⟩
 have e3 : a.2.2.2 = F.filter fun s=>decide (cst ps s = (lstF ps F).1):=congrArg (·.2.2) hpa
 rw [e3]
 unfold jc2 jav
 rw [jm7 hF h2]
 exact h2.filter _
end My
namespace My
open PySem L2
section
variable {P : Program} {w : World} {K : PySem.W.Frag} {mg : Str→Option Value} {base : Heap} {c1 c2 c3 c4 : Tok}
theorem jee (s : List Int) (F : List (List Int)) : allF [(s,F)] = F.map (· ++ s):=by
 unfold allF
 rw [List.flatMap_cons,List.flatMap_nil,List.append_nil]
theorem jex (F : List (List Int)) : F.map (· ++ []) = F:=by simp
theorem jef (xs ys : List (List Int × List (List Int))) : allF (xs ++ ys) = allF xs ++ allF ys:=by
 unfold allF
 rw [List.flatMap_append]
theorem jdw {α β : Type} {F : α→β→Prop} : ∀ {xs xs' : List α} {ys ys' : List β},Paired F xs ys→Paired F xs' ys'→Paired F (xs ++ xs') (ys ++ ys')
 | [],_,[],_,_,h=>h
 | _,_,_,_,.cons a b,h=>.cons a (jdw b h)
theorem jg2 {f : Addr} {fd : FuncData}  (B : Blt mg) (D : DefAt K mg "ways_grown" (top 47) ["value","place","price","is_in"] f fd) : FnOk P w K mg base CX0 2 f fd ["value","place","price","is_in"] (spGr VW):=by
 have sc : FnScope ["value","place","price","is_in"] ["value","place","price","is_in"] (ja7 (top 47)):=⟨rfl,rfl,rfl,by decide +kernel,rfl,by decide +kernel,by decide +kernel⟩
 refine D.F.ok sc (fun vs H Q E h=>?_) (fun cdv A outer s H vs Q E hr h=>?_)
 ·obtain ⟨v,p,q,b,a,i,jj,rfl,_⟩:=h
  rfl
 obtain ⟨v,p,q,b,a,i,jj,rfl,hv,⟨o1,o2,o3⟩,hi,h⟩:=h
 have hv : WyR H a.1 v a.2.1 a.2.2.1 a.2.2.2:=hv
 obtain ⟨t,l,ws,rfl,et,el,hwl⟩:=hv.head
 have hu:=jbi hr
 have hu0 : _ < PySem.cLine:=Nat.lt_of_succ_lt hu
 refine ⟨_,(ja4 (jbf (jb1 (qv 3)) (ja6 (jag (jb4 (ja0 (jaw jd1 (jaf q_ix (qv 0) ja5 (fun _ _=>rfl)) (qv 2)) (ja0 (jas (ja0 (jb4 (ja0 (qv 0) (ja0 (jas (ja0 (qv 1) ja2)) ja2))) ja2)) ja2))))) jai) (ja6 (jag (jb4 (ja0 (jaf q_ix (qv 0) ja5 (fun _ _=>rfl)) (ja0 (jas (ja0 (jb4 (ja0 (qv 0) (ja0 (jas ja2) ja2))) ja2)) ja2)))))),?_⟩
 cases b with
 | true =>
  simp_arith [jal,et,at0]
  intro c1 hc1
  have s1:=ja3 hc1 (.lst [.int p])
  have ec1 : upd H c1 (.lst [.int p]) c1 = some (.lst [.int p]):=ja1
  generalize upd H c1 (.lst [.int p]) = H1 at s1 ec1
  intro c2 hc2
  have s2:=ja3 hc2 (.tup [.ref t,.ref c1])
  have ec2 : upd H1 c2 (.tup [.ref t,.ref c1]) c2 = some (.tup [.ref t,.ref c1]):=ja1
  generalize upd H1 c2 (.tup [.ref t,.ref c1]) = H2 at s2 ec2
  intro c3 hc3
  have s3:=ja3 hc3 (.lst [.ref c2])
  have ec3 : upd H2 c3 (.lst [.ref c2]) c3 = some (.lst [.ref c2]):=ja1
  generalize upd H2 c3 (.lst [.ref c2]) = H3 at s3 ec3
  intro c4 hc4
  have s4:=ja3 hc4 (.tup [.int (a.2.1 + q),.ref c3])
  have ec4 : upd H3 c4 (.tup [.int (a.2.1 + q),.ref c3]) c4 = some (.tup [.int (a.2.1 + q),.ref c3]):=ja1
  generalize upd H3 c4 (.tup [.int (a.2.1 + q),.ref c3]) = H4 at s4 ec4
  have S:=((s1.trans s2).trans s3).trans s4
  refine h _ _ S ⟨c4,c3,[.ref c2],[([p],a.2.2.2)],rfl,ec4,s4 _ _ ec3,rfl,.cons ⟨c2,c1,.ref t,rfl,(s3.trans s4) _ _ ec2,((s2.trans s3).trans s4) _ _ ec1,trivial,by simp,o3,_,_,WyR.kp (jay S) hv⟩ .nil,?_⟩ ⟨?_,Nat.le_refl _,?_⟩
  ·rw [jee]
   rfl
  ·show a.1 + 1 = i + 1
   rw [o1]
  ·show a.2.2.2.map _ ≠ []
   simpa using o3
 | false =>
  simp_arith [jal,et,at0]
  intro c1 hc1
  have s1:=ja3 hc1 (.lst [])
  have ec1 : upd H c1 (.lst []) c1 = some (.lst []):=ja1
  generalize upd H c1 (.lst []) = H1 at s1 ec1
  intro c2 hc2
  have s2:=ja3 hc2 (.tup [.ref t,.ref c1])
  have ec2 : upd H1 c2 (.tup [.ref t,.ref c1]) c2 = some (.tup [.ref t,.ref c1]):=ja1
  generalize upd H1 c2 (.tup [.ref t,.ref c1]) = H2 at s2 ec2
  intro c3 hc3
  have s3:=ja3 hc3 (.lst [.ref c2])
  have ec3 : upd H2 c3 (.lst [.ref c2]) c3 = some (.lst [.ref c2]):=ja1
  generalize upd H2 c3 (.lst [.ref c2]) = H3 at s3 ec3
  intro c4 hc4
  have s4:=ja3 hc4 (.tup [.int a.2.1,.ref c3])
  have ec4 : upd H3 c4 (.tup [.int a.2.1,.ref c3]) c4 = some (.tup [.int a.2.1,.ref c3]):=ja1
  generalize upd H3 c4 (.tup [.int a.2.1,.ref c3]) = H4 at s4 ec4
  have S:=((s1.trans s2).trans s3).trans s4
  refine h _ _ S ⟨c4,c3,[.ref c2],[([],a.2.2.2)],rfl,ec4,s4 _ _ ec3,rfl,.cons ⟨c2,c1,.ref t,rfl,(s3.trans s4) _ _ ec2,((s2.trans s3).trans s4) _ _ ec1,trivial,by simp,o3,_,_,WyR.kp (jay S) hv⟩ .nil,?_⟩ ⟨?_,Nat.le_refl _,?_⟩
  ·rw [jee]
   exact (jex _).symm
  ·show a.1 + 1 = i + 1
   rw [o1]
  ·exact o3
theorem jfh {f : Addr} {fd : FuncData}  (B : Blt mg) (D : DefAt K mg "ways_joined" (top 48) ["one","other"] f fd) : FnOk P w K mg base CX0 2 f fd ["one","other"] (spJn VW):=by
  have sc : FnScope ["one","other"] ["one","other"] (ja7 (top 48)):=⟨rfl,rfl,rfl,by decide +kernel,rfl,by decide +kernel,by decide +kernel⟩
  refine D.F.ok sc (fun vs H Q E h=>?_) (fun cdv A outer s H vs Q E hr h=>?_)
  · obtain ⟨v,u,a,b,i,jj,rfl,_⟩:=h
    rfl
  obtain ⟨v,u,a,b,i,jj,rfl,hv,hu9,⟨o1,o2,o3⟩,⟨q1,q2,q3⟩,hi,hi1,hj,h⟩:=h
  have hv : WyR H a.1 v a.2.1 a.2.2.1 a.2.2.2:=hv
  have hu9 : WyR H b.1 u b.2.1 b.2.2.1 b.2.2.2:=hu9
  obtain ⟨t,l,ws,rfl,et,el,hwl⟩:=hv.head
  obtain ⟨t',l',ws',rfl,et',el',hwl'⟩:=hu9.head
  have hu:=jbi hr
  have hu0 : _ < PySem.cLine:=Nat.lt_of_succ_lt hu
  refine ⟨_,(ja4 (jbf (jb3 q_ne (jaf q_ix (qv 0) ja5 (fun _ _=>rfl)) (jaf q_ix (qv 1) ja5 (fun _ _=>rfl)) (jap _)) (ja6 (jag (je9 (jb3 q_lt (jaf q_ix (qv 0) ja5 (fun _ _=>rfl)) (jaf q_ix (qv 1) ja5 (fun _ _=>rfl)) (jap _)) (qv 0) (qv 1)))) jai) (ja6 (jag (jb4 (ja0 (jaf q_ix (qv 0) ja5 (fun _ _=>rfl)) (ja0 (jaw jhx (jaf q_ix (qv 0) ja5 (fun _ _=>rfl)) (jaf q_ix (qv 1) ja5 (fun _ _=>rfl))) ja2)))))),?_⟩
  simp_arith [jal,et,at0,et',at1]
  have hjn : VW.jn a b = wyJn a b:=rfl
  rw [hjn] at h
  unfold wyJn at h
  by_cases c : a.2.1 = b.2.1
  · rw [if_neg (by rw [decide_eq_true c]; exact Bool.false_ne_true)]
    rw [if_neg (fun z=>z c)] at h
    simp only [el,el']
    refine ⟨by have h1m : (1000000 : Nat) ≤ sizeLine:=by decide
               omega,?_⟩
    intro c3 hc3
    have s3:=ja3 hc3 (.lst (ws ++ ws'))
    have ec3 : upd H c3 (.lst (ws ++ ws')) c3 = some (.lst (ws ++ ws')):=ja1
    generalize upd H c3 (.lst (ws ++ ws')) = H3 at s3 ec3
    intro c4 hc4
    have s4:=ja3 hc4 (.tup [.int a.2.1,.ref c3])
    have ec4 : upd H3 c4 (.tup [.int a.2.1,.ref c3]) c4 = some (.tup [.int a.2.1,.ref c3]):=ja1
    generalize upd H3 c4 (.tup [.int a.2.1,.ref c3]) = H4 at s4 ec4
    have S:=s3.trans s4
    refine h _ _ S ?_ ⟨o1,(show a.2.2.1 + b.2.2.1 ≤ jj + 1 by omega),(fun z=>o3 (List.append_eq_nil_iff.mp z).1)⟩
    have e1 : b.1 = a.1:=by omega
    rw [e1] at hu9
    show WyR H4 a.1 (.ref c4) a.2.1 (a.2.2.1 + b.2.2.1) (a.2.2.2 ++ b.2.2.2)
    have hv4:=WyR.kp (jay S) hv
    have hu4:=WyR.kp (jay S) hu9
    rw [← o1] at hi1
    generalize a.1 = n at hv4 hu4 hi1
    cases n with
    | zero=>exact absurd hi1 (by decide)
    | succ n =>
      obtain ⟨t1,l1,w1,x1,y1,y2,y3,y4,y5,y6⟩:=hv4
      obtain ⟨t2,l2,w2,x2,z1,z2,z3,z4,z5,z6⟩:=hu4
      cases y1
      cases z1
      have et4:=S _ _ et
      rw [et4] at y2
      cases y2
      have el4:=S _ _ el
      rw [el4] at y3
      cases y3
      have et4':=S _ _ et'
      rw [et4'] at z2
      cases z2
      have el4':=S _ _ el'
      rw [el4'] at z3
      cases z3
      refine ⟨c4,c3,ws ++ ws',x1 ++ x2,rfl,ec4,s4 _ _ ec3,by rw [List.length_append]; omega,jdw y5 z5,?_⟩
      rw [jef,← y6,← z6]
  · rw [if_pos (by rw [decide_eq_false c]; rfl)]
    rw [if_pos c] at h
    by_cases d : a.2.1 < b.2.1
    · rw [if_pos d] at h
      rw [if_pos (decide_eq_true d)]
      exact h _ _ (Same.refl _) hv ⟨o1,Nat.le_succ_of_le o2,o3⟩
    · rw [if_neg d] at h
      rw [if_neg (by rw [decide_eq_false d]; exact Bool.false_ne_true)]
      exact h _ _ (Same.refl _) hu9 ⟨q1,(show b.2.2.1 ≤ jj + 1 by omega),q3⟩
end
end My
namespace My
open PySem L2
section
variable {P : Program} {w : World} {K : PySem.W.Frag} {mg : Str→Option Value} {base : Heap} {c1 c2 c3 c4 : Tok}
noncomputable def Ry (H : Hp) (i : Nat) (v : V) (F : List (List Int)) : Prop:=∃ c e,WyR H i v c e F
theorem Ry.same {H H' : Hp} (s : Same H H') {i : Nat} {v : V} {F : List (List Int)} (h : Ry H i v F) : Ry H' i v F:=let ⟨c,e,q⟩:=h; ⟨c,e,WyR.kp (jay s) q⟩
theorem EnR.same {H H' : Hp} {R : V→List (List Int)→Prop} {b : Nat} {fr : Addr→Prop} {w : V} {x : List Int × List (List Int)} (h : EnR H R b fr w x) (s : Same H H') : EnR H' R b fr w x:=h.kp (jay s) (Nat.le_refl _) fun _ _ q=>q
theorem EnR.put {H : Hp} {R : V→List (List Int)→Prop} {b : Nat} {fr : Addr→Prop} {w : V} {x : List Int × List (List Int)} {d : Addr} {ws ws' : List V} (h : EnR H R b fr w x) (hf : ∀ m,fr m→m ≠ d) (e : H d = some (.lst ws)) : EnR (upd H d (.lst ws')) R b fr w x :=
 let ⟨u,m,v,e1,h1,h2,h3,h4,h5,h6⟩:=h; ⟨u,m,v,e1,(jcw e) _ _ rfl h1,by rw [ja8 (hf m h3)]; exact h2,h3,h4,h5,h6⟩
theorem EnR.weak {H : Hp} {R : V→List (List Int)→Prop} {b : Nat} {fr fr' : Addr→Prop} {w : V} {x : List Int × List (List Int)} (h : EnR H R b fr w x) (hf : ∀ m,fr m→fr' m) : EnR H R b fr' w x :=
 let ⟨u,m,v,e1,h1,h2,h3,h4,h5,h6⟩:=h; ⟨u,m,v,e1,h1,h2,hf m h3,h4,h5,h6⟩
theorem jgj {H : Hp} {R : V→List (List Int)→Prop} {b : Nat} {fr : Addr→Prop} {ws : List V} {xs : List (List Int × List (List Int))} (h : Paired (EnR H R b fr) ws xs) : ws.length ≤ (allF xs).length:=by
 induction h with
 | nil=>exact Nat.zero_le _
 | cons r t ih =>
  rename_i a0 x as0 xs'
  obtain ⟨_,_,_,_,_,_,_,_,h5,_⟩:=r
  have e : allF (x :: xs') = x.2.map (· ++ x.1) ++ allF xs':=rfl
  rw [e,List.length_append,List.length_map,List.length_cons]
  have:=List.length_pos_iff.mpr h5
  omega
theorem jp5 {xs : List (List Int × List (List Int))} {x : List Int × List (List Int)} (h : x ∈ xs) : x.2.length ≤ (allF xs).length:=by
 induction xs with
 | nil=>cases h
 | cons y r ih =>
  have e : allF (y :: r) = y.2.map (· ++ y.1) ++ allF r:=rfl
  rw [e,List.length_append,List.length_map]
  rcases List.mem_cons.mp h with q | q
  ·rw [q]; omega
  ·have:=ih q; omega
theorem jnn {xs : List (List Int × List (List Int))} (j : Nat) : (allF (xs.take j)).length ≤ (allF xs).length:=by
 have e : allF xs = allF (xs.take j) ++ allF (xs.drop j):=by rw [← jef,List.take_append_drop]
 rw [e,List.length_append]
 omega
theorem jp4 (xs : List (List Int × List (List Int))) (s : List Int) : allF (xs.map fun x=>(x.1 ++ s,x.2)) = (allF xs).map (· ++ s):=by
 induction xs with
 | nil=>rfl
 | cons y r ih =>
  have e1 : allF (y :: r) = y.2.map (· ++ y.1) ++ allF r:=rfl
  have e2 : allF ((y :: r).map fun x=>(x.1 ++ s,x.2)) = y.2.map (· ++ (y.1 ++ s)) ++ allF (r.map fun x=>(x.1 ++ s,x.2)):=rfl
  rw [e1,e2,ih,List.map_append,List.map_map]
  congr 1
  refine List.map_congr_left fun z _=>?_
  show z ++ (y.1 ++ s) = (z ++ y.1) ++ s
  rw [List.append_assoc]
theorem ends_F {H H1 : Hp} {b : Nat} {fr : Addr→Prop} {ws : List V} {xs : List (List Int × List (List Int))} (h : Paired (EnR H (Ry H1 0) b fr) ws xs) : allF xs = xs.map (·.1):=by
 induction h with
 | nil=>rfl
 | cons r t ih =>
  rename_i a0 x as0 xs'
  obtain ⟨_,_,_,_,_,_,_,_,_,c,e,_,_,h6⟩:=r
  have e : allF (x :: xs') = x.2.map (· ++ x.1) ++ allF xs':=rfl
  rw [e,ih,h6]
  rfl
noncomputable def jj5 : Sp:=fun vs H Q _=>∃ (v : V) (n : Nat) (c : Int) (e : Nat) (F : List (List Int)),vs = [v,.int (n : Int)]∧n ≤ 40∧WyR H n v c e F∧F ≠ []∧F.length ≤ 4096∧∀ l ys H',Same H H'→H l = none→H' l = some (.lst ys)→Paired (jdq H H') ys F→Q (.ref l) H'
theorem jeq {f : Addr} {fd : FuncData}  (B : Blt mg) (D : DefAt K mg "sets_by_ways" (top 49) ["last","many"] f fd) : FnOk P w K mg base CX0 1 f fd ["last","many"] jj5:=by
 have sc : FnScope ["last","many","loose_ends","turn","further","value","some"] ["last","many"] (ja7 (top 49)):=⟨rfl,rfl,rfl,by decide +kernel,rfl,by decide +kernel,by decide +kernel⟩
 refine D.F.ok sc (fun vs H Q E h=>?_) (fun cdv A outer s H vs Q E hr h=>?_)
 ·obtain ⟨v,n,c,e,F,rfl,_⟩:=h
  rfl
 obtain ⟨v,n,c,e,F,rfl,hn,hw,hF,hFl,h⟩:=h
 have h1m : (1000000 : Nat) ≤ sizeLine:=by decide
 have hu:=jbi hr
 have hu0 : _ < PySem.cLine:=Nat.lt_of_succ_lt hu
 refine ⟨_,(ja4 (jaj (i:=2) sc.nd rfl (Or.inl rfl) (jas (ja0 (jb4 (ja0 (qv 0) (ja0 (jas ja2) ja2))) ja2))) (ja4 (jbl PassesOwn.never rfl (jdh rfl B.range (ja0 (qv 1) ja2)) (jab (i:=3) sc.nd rfl (Or.inl rfl)) (ja4 (jaj (i:=4) sc.nd rfl (Or.inl rfl) (jas ja2)) (ja4 (jbl PassesOwn.never rfl (jb7 (qv 2)) (jbs (n:=2) rfl (jae (jab (i:=5) sc.nd rfl (Or.inl rfl)) (jae (jab (i:=6) sc.nd rfl (Or.inr rfl)) jbe))) (ja6 (jpn (i:=4) sc.nd rfl (Or.inl rfl) (jbv (CpScope.of (N:=["ahead","put","some"]) (src:=[none,none,some 6]) (by rfl)) rfl (jb7 (jaf q_ix (qv 5) ja5 (fun _ _=>rfl))) (fun _ _ _ _=>(jbs (n:=2) rfl (jae (jab (i:=0) (jah (l:=["ahead","put","some"]) (by rfl)) rfl (Or.inl rfl)) (jae (jab (i:=1) (jah (l:=["ahead","put","some"]) (by rfl)) rfl (Or.inl rfl)) jbe)))) (fun _ _ _ _=>jca) (fun _ _ _ _=>(jb4 (ja0 (qv 0) (ja0 (jaw jhx (qv 1) (qv 2)) ja2))))) jra))) (ja6 (jaj (i:=2) sc.nd rfl (Or.inl rfl) (qv 4)))))) (ja6 (jag (jbv (CpScope.of (N:=["value","some"]) (src:=[none,none]) (by rfl)) rfl (jb7 (qv 2)) (fun _ _ _ _=>(jbs (n:=2) rfl (jae (jab (i:=0) (jah (l:=["value","some"]) (by rfl)) rfl (Or.inl rfl)) (jae (jab (i:=1) (jah (l:=["value","some"]) (by rfl)) rfl (Or.inl rfl)) jbe)))) (fun _ _ _ _=>jca) (fun _ _ _ _=>(qv 1))))))),?_⟩
 walk_at "RD"
 intro m0 hm0
 have s1:=ja3 hm0 (.lst [])
 have em0 : upd H m0 (.lst []) m0 = some (.lst []):=ja1
 generalize upd H m0 (.lst []) = H1 at s1 em0
 intro u0 hu9
 have s2:=ja3 hu9 (.tup [v,.ref m0])
 have eu0 : upd H1 u0 (.tup [v,.ref m0]) u0 = some (.tup [v,.ref m0]):=ja1
 have em2:=s2 _ _ em0
 generalize upd H1 u0 (.tup [v,.ref m0]) = H2 at s2 eu0 em2
 intro lo hlo
 have s3:=ja3 hlo (.lst [.ref u0])
 have elo : upd H2 lo (.lst [.ref u0]) lo = some (.lst [.ref u0]):=ja1
 have em3:=s3 _ _ em2
 have eu3:=s3 _ _ eu0
 have S3:=(s1.trans s2).trans s3
 have hlo0 : H lo = none:=(s1.trans s2).free hlo
 generalize upd H2 lo (.lst [.ref u0]) = H3 at s3 elo em3 eu3 S3
 have st0 : Paired (EnR H3 (Ry H3 n) 0 (fun m=>H m = none)) [.ref u0] [([],F)]:=.cons ⟨u0,m0,v,rfl,eu3,em3,hm0,Nat.le_refl _,hF,c,e,WyR.kp (jay S3) hw⟩ .nil
 walk_at "RD"
 refine jb9 (Itr 0 n) H3 (fun R hR=>?_) (jcs (n:=n) (fun i σ HA=>∃ lo w3 w4 w5 w6 ws xs,σ = [some v,some (.int (n : Int)),some (.ref lo),w3,w4,w5,w6]∧Same H HA∧H lo = none∧HA lo = some (.lst ws)∧Paired (EnR HA (Ry HA (n - i)) i (fun m=>H m = none)) ws xs∧allF xs = F) ⟨lo,none,none,none,none,_,_,rfl,S3,hlo0,elo,st0,by rw [jee,jex]⟩ ?_ ?_)
 ·unfold jol
  walk_at "RD"
  exact ⟨_,rfl,by omega,by omega,hR⟩
 ·rintro i σ HA hi ⟨lo,w3,w4,w5,w6,ws,xs,rfl,sA,hl0,elo,st,eF⟩
  have hxl : (allF xs).length ≤ 4096:=by rw [eF]; exact hFl
  obtain ⟨i',hi'⟩ : ∃ i',n - i = i' + 1:=⟨n - i - 1,by omega⟩
  have hi2 : n - (i + 1) = i':=by omega
  rw [hi'] at st
  walk_at "RD"
  intro fu hfu
  have sF:=ja3 hfu (.lst [])
  have efu : upd HA fu (.lst []) fu = some (.lst []):=ja1
  generalize upd HA fu (.lst []) = HF at sF efu
  have hfu0 : H fu = none:=sA.free hfu
  refine jb9 (Itl K lo) HF (fun R hR=>?_) (jbx (K:=K) (a:=lo) (xs:=ws) (fun j σ HB=>∃ w5 w6 ws2 xs2,σ = [some v,some (.int (n : Int)),some (.ref lo),some (.int (0 + (i : Int))),some (.ref fu),w5,w6]∧Same HA HB∧HB fu = some (.lst ws2)∧Paired (EnR HB (Ry HA i') (i + 1) (fun m=>H m = none∧m ≠ fu)) ws2 xs2∧allF xs2 = allF (xs.take j)) ⟨_,_,[],[],rfl,sF,efu,.nil,rfl⟩ (fun j σ HB _ ⟨_,_,_,_,_,s2,_⟩=>SqL.of (s2 _ _ elo)) ?_ ?_)
  ·unfold jcb
   walk_at "RD"
   exact ⟨lo,rfl,⟨_,SqL.of (sF _ _ elo)⟩,hR⟩
  ·rintro j y σ HB hj ⟨w5,w6,ws2,xs2,rfl,sB,efB,stB,eB⟩
   obtain ⟨x,hx,u,m,v1,rfl,eu,em,hm,hml,hx2,c1,e1,t1,l1,ws3,xs3,rfl,et1,el1,hw3,p3,hx3⟩:=jad st hj
   have eu2:=sB _ _ eu
   have em2:=sB _ _ em
   have et2:=sB _ _ et1
   have el2:=sB _ _ el1
   have hmem : x ∈ xs:=List.mem_of_getElem? hx
   have hb1:=jp5 hmem
   have hb2:=jgj p3
   have hb3:=jgj stB
   have hb4:=jnn (xs:=xs) j
   rw [← hx3] at hb2
   rw [eB] at hb3
   have hl3 : ws3.length = xs3.length:=Paired.length p3
   simp_arith [eu2,jal,et2,at1]
   refine jan (Itl K l1) HB (fun R hR=>?_) (fun z hz=>jb2 ws3.length (fun k σ' Hd=>∃ q1 q2 zs,σ' = [q1,q2,some (.ref m)]∧Same HB Hd∧Hd z = some (.lst zs)∧Paired (EnR Hd (Ry HA i') (i + 1) (fun m=>H m = none∧m ≠ fu∧m ≠ z)) zs ((xs3.take k).map fun q=>(q.1 ++ x.1,q.2))) ⟨none,none,[],rfl,ja3 hz _,ja1,.nil⟩ ?_ ?_)
   ·unfold jcb
    simp_arith [eu2,jal,et2,at1]
    exact ⟨l1,rfl,⟨_,SqL.of el2⟩,hR⟩
   ·rintro k σ' Hd hk ⟨q1,q2,zs,rfl,sd,ez,pz⟩
    have y1 : ws3[k]? = some ws3[k]:=List.getElem?_eq_getElem hk
    have z1 : SqL K Hd l1 ws3:=SqL.of (sd _ _ el2)
    refine ⟨⟨_,_,z1,y1⟩,?_⟩
    rintro y H' ⟨rfl,hy⟩
    obtain ⟨x4,hx4,u4,m4,v4,rfl,eu4,em4,_,hm4,hx42,hr4⟩:=jad p3 (hy _ z1)
    have sAd:=sB.trans sd
    have eu5:=sAd _ _ eu4
    have em5:=sAd _ _ em4
    have emd:=sd _ _ em2
    simp_arith [eu5,jal]
    simp only [em5,emd]
    refine ⟨by rw [List.length_map,List.length_map]; omega,?_⟩
    intro p hp
    have s5:=ja3 hp (.lst (x4.1.map V.int ++ x.1.map V.int))
    have ep : upd H' p (.lst (x4.1.map V.int ++ x.1.map V.int)) p = some (.lst ((x4.1 ++ x.1).map V.int)):=by rw [ja1,List.map_append]
    have hp0 : H p = none:=sA.free (sAd.free hp)
    have hpf : p ≠ fu:=fun q=>by rw [q,sd _ _ efB] at hp; cases hp
    have hpz : p ≠ z:=fun q=>by rw [q,ez] at hp; cases hp
    generalize upd H' p (.lst (x4.1.map V.int ++ x.1.map V.int)) = H5 at s5 ep
    intro t5 ht5
    have s6:=ja3 ht5 (.tup [v4,.ref p])
    have et5 : upd H5 t5 (.tup [v4,.ref p]) t5 = some (.tup [v4,.ref p]):=ja1
    have ep6:=s6 _ _ ep
    have ez6:=(s5.trans s6) _ _ ez
    have sd6:=(sd.trans s5).trans s6
    have pz6:=Paired.mapP pz fun _ _ q=>q.same (s5.trans s6)
    generalize upd H5 t5 (.tup [v4,.ref p]) = H6 at s6 et5 ep6 ez6 sd6 pz6
    have hzl : zs.length ≤ 4096:=by
     have:=Paired.length pz
     rw [List.length_map,List.length_take] at this
     omega
    refine ⟨_,ez6,szg (by omega),_,_,_,rfl,jao sd6 hz,ja1,?_⟩
    rw [jaq hx4,List.map_append]
    refine jaz (Paired.mapP pz6 fun _ _ q=>q.put (fun m hm=>hm.2.2) ez6) ?_
    refine EnR.put ⟨t5,p,v4,rfl,et5,ep6,⟨hp0,hpf,hpz⟩,?_,hx42,hr4⟩ (fun m hm=>hm.2.2) ez6
    rw [List.length_append]
    omega
   rintro σ' Hd ⟨q1,q2,zs,rfl,sd,ez,pz⟩
   refine ⟨⟨_,SqL.of (sd _ _ el2),Nat.le_refl _⟩,?_⟩
   rw [hl3,List.take_length] at pz
   have efd:=sd _ _ efB
   have hzl : zs.length = xs3.length:=by rw [Paired.length pz,List.length_map]
   simp_arith [jn3,efd,ez]
   refine ⟨by omega,?_⟩
   refine ⟨_,_,_,_,rfl,jao (sB.trans sd) hfu,ja1,jdw (Paired.mapP stB fun _ _ q=>(q.same sd).put (fun m hm=>hm.2) efd) (Paired.mapP pz fun _ _ q=>(q.weak fun m hm=>⟨hm.1,hm.2.1⟩).put (fun m hm=>hm.2) efd),?_⟩
   rw [jef,jp4,← hx3,eB,jaq hx,jef,jee]
  ·rintro σ HB ⟨w5,w6,ws2,xs2,rfl,sB,efB,stB,eB⟩
   have hl : ws.length = xs.length:=Paired.length st
   rw [hl,List.take_length,eF] at eB
   walk_at "RD"
   refine ⟨fu,_,_,_,_,ws2,xs2,rfl,sA.trans sB,hfu0,efB,?_,eB⟩
   rw [hi2]
   exact Paired.mapP stB fun _ _ q=>(q.weak fun m hm=>hm.1).kp (Kp.refl _) (Nat.le_refl _) fun _ _ z=>z.same sB
 ·rintro σ HA ⟨lo,w3,w4,w5,w6,ws,xs,rfl,sA,hl0,elo,st,eF⟩
  have hws:=jgj st
  rw [eF] at hws
  rw [Nat.sub_self] at st
  have hl : ws.length = xs.length:=Paired.length st
  rw [ends_F st] at eF
  walk_at "RD"
  refine jan (Itl K lo) HA (fun R hR=>?_) (fun z hz=>jb2 ws.length (fun k σ' Hd=>∃ q1 q2 zs,σ' = [q1,q2]∧Same HA Hd∧Hd z = some (.lst zs)∧Paired (jdq H HA) zs (F.take k)) ⟨none,none,[],rfl,ja3 hz _,ja1,.nil⟩ ?_ ?_)
  ·unfold jcb
   walk_at "RD"
   exact ⟨lo,rfl,⟨_,SqL.of elo⟩,hR⟩
  ·rintro k σ' Hd hk ⟨q1,q2,zs,rfl,sd,ez,pz⟩
   have y1 : ws[k]? = some ws[k]:=List.getElem?_eq_getElem hk
   have z1 : SqL K Hd lo ws:=SqL.of (sd _ _ elo)
   refine ⟨⟨_,_,z1,y1⟩,?_⟩
   rintro y H' ⟨rfl,hy⟩
   obtain ⟨x,hx,u,m,v1,rfl,eu,em,hm,hml,hx2,_⟩:=jad st (hy _ z1)
   simp_arith [sd _ _ eu]
   have hzl : zs.length ≤ 4096:=by
    have:=Paired.length pz
    rw [List.length_take] at this
    omega
   refine ⟨_,ez,szg (by omega),_,_,_,rfl,jao sd hz,ja1,?_⟩
   have hk2 : F[k]? = some x.1:=by rw [← eF,List.getElem?_map,hx]; rfl
   rw [jaq hk2]
   exact jaz pz ⟨⟨m,rfl,em⟩,fun a q=>by cases q; exact hm⟩
  rintro σ' Hd ⟨q1,q2,zs,rfl,sd,ez,pz⟩
  refine ⟨⟨_,SqL.of (sd _ _ elo),Nat.le_refl _⟩,?_⟩
  have hFx : ws.length = F.length:=by rw [← eF,List.length_map]; exact hl
  rw [hFx,List.take_length] at pz
  walk_at "RD"
  refine h _ _ _ (sA.trans sd) (sA.free hz) ez (Paired.mapP pz fun _ _ q=>⟨?_,q.2⟩)
  obtain ⟨a,ea,eb⟩:=q.1
  exact ⟨a,ea,sd _ _ eb⟩
end
end My
namespace My
open PySem L2
section
variable {P : Program} {w : World} {K : PySem.W.Frag} {mg : Str→Option Value} {base : Heap} {c1 c2 c3 c4 : Tok}
variable {C_TooMany : Addr}
noncomputable def jqi (C : Addr) : Sp:=fun vs H Q E=>∃ v ps ts m,vs = [v,.int m]∧jbr H v ps ts∧WebOk ps ts∧ps.length ≤ 12∧jfy ps ts = true ∧
 ((jav ps ts).2.1 ≤ m→∀ l ys qs H',Same H H'→H l = none→H' l = some (.lst ys)→Paired (jdr H') ys qs→(∀ y ∈ ys,∀ a,y = .ref a→H a = none)→qs.Perm (jc2 ps ts)→qs.Pairwise (fun a b=>HT.lexLt b a = false)→Q (.ref l) H')∧(m < (jav ps ts).2.1→∀ H',Same H H'→E (.ref C) none H')
noncomputable def jj4 (C : Addr) : Sp:=fun vs H Q _=>∃ a,vs = [.ref a]∧H a = some (caO a (.ref C) none)∧∀ H',Same H H'→Q (.bl false) H'
noncomputable def jgs : Sp:=fun vs H Q _=>∃ v ps ts m,vs = [v,.int m]∧jbr H v ps ts∧WebOk ps ts∧ps.length ≤ 12∧jfy ps ts = true∧m < (jav ps ts).2.1∧∀ H',Same H H'→Q (.bl true) H'
theorem jgi {ps ts : List (Int × Int)} (wok : WebOk ps ts) : (jav ps ts).2.2.1 ∈ jc2 ps ts:=by
 unfold jc2
 rw [List.mem_filter]
 exact ⟨(jcd wok).mem.1,decide_eq_true (jcd wok).mem.2⟩
theorem jgz {f : Addr} {fd : FuncData} {f_string_least : Addr} {d_string_least : FuncData} {f_along : Addr} {d_along : FuncData} {f_ways_grown : Addr} {d_ways_grown : FuncData} {f_ways_joined : Addr} {d_ways_joined : FuncData} {f_sets_by_ways : Addr} {d_sets_by_ways : FuncData} (B : Blt mg) (D : DefAt K mg "all_least" (top 50) ["web","most"] f fd) (D_string_least : DefAt K mg "string_least" (top 45) ["web"] f_string_least d_string_least) (G_string_least : FnOk P w K mg base CX0 8 f_string_least d_string_least ["web"] jl9) (D_along : DefAt K mg "along" (top 41) ["web","start","grown","joined"] f_along d_along) (G_along : FnOk P w K mg base CX0 3 f_along d_along ["web","start","grown","joined"] (jhu VW [(f_ways_grown,spGr VW),(f_ways_joined,spJn VW)])) (D_ways_grown : DefAt K mg "ways_grown" (top 47) ["value","place","price","is_in"] f_ways_grown d_ways_grown) (D_ways_joined : DefAt K mg "ways_joined" (top 48) ["one","other"] f_ways_joined d_ways_joined) (D_sets_by_ways : DefAt K mg "sets_by_ways" (top 49) ["last","many"] f_sets_by_ways d_sets_by_ways) (G_sets_by_ways : FnOk P w K mg base CX0 1 f_sets_by_ways d_sets_by_ways ["last","many"] jj5) (XP_TooMany : ClsP K mg "TooMany" C_TooMany) : FnOk P w K mg base (CXE P w) 9 f fd ["web","most"] (jqi C_TooMany):=by
 have sc : FnScope ["web","most","last"] ["web","most"] (ja7 (top 50)):=⟨rfl,rfl,rfl,by decide +kernel,rfl,by decide +kernel,by decide +kernel⟩
 refine D.F.okX sc (fun vs H Q E h=>?_) (fun cdv A outer s H vs Q E hr h=>?_)
 ·obtain ⟨v,ps,ts,m,rfl,_⟩:=h
  rfl
 obtain ⟨v,ps,ts,m,rfl,hw,wok,hp12,hwd,h1,h2⟩:=h
 have hu2 : _ + 2 < PySem.cLine:=Nat.lt_of_le_of_lt (Nat.add_le_add_left (by decide : 2 ≤ 64) _) hr.units
 have hu:=jbi hr
 have hu0 : _ < PySem.cLine:=Nat.lt_of_succ_lt hu
 refine ⟨_,(ja4 (jbf (jb3 q_gt (jaf q_ix (jac G_string_least (hr.mono (by decide)) rfl D_string_least.m D_string_least.F.kp D_string_least.b .nil jar (ja0 (qv 0) ja2)) ja5 (fun _ _=>rfl)) (qv 1) (jap _)) (ja6 (jlt PySem.F.excBase_ValueError XP_TooMany.xin hr.hd rfl XP_TooMany.m XP_TooMany.kp ⟨rfl,rfl,rfl,fun _=>rfl⟩ xo_tr (ja0 pe_str ja2))) jai) (ja4 (jaj (i:=2) sc.nd rfl (Or.inl rfl) (jac G_along (hr.mono (by decide)) rfl D_along.m D_along.F.kp D_along.b .nil jar (ja0 (qv 0) (ja0 (jb4 (ja0 ja5 (ja0 (jas ja2) ja2))) (ja0 (jax rfl D_ways_grown.m) (ja0 (jax rfl D_ways_joined.m) ja2)))))) (ja6 (jag (jaa (jfd hu2) rfl B.sorted PyProof.Rows.boot_sorted (ja0 (jac G_sets_by_ways (hr.mono (by decide)) rfl D_sets_by_ways.m D_sets_by_ways.F.kp D_sets_by_ways.b .nil jar (ja0 (qv 2) (ja0 (jaa jej rfl B.len PySem.boot_len (ja0 (jaf q_ix (qv 0) ja5 (fun _ _=>rfl)) ja2)) ja2))) ja2)))))),?_⟩
 refine jak fun R hR=>?_
 walk_at "RD"
 refine ⟨v,ps,ts,rfl,hw,wok,hp12,hwd,fun t l2 l3 zs H1 _ _ _ s1 et _ _ _=>?_⟩
 simp_arith [jal,et,at1]
 by_cases c : m < (jav ps ts).2.1
 ·rw [decide_eq_true c]
  walk_at "RD"
  exact h2 c H1 s1
 rw [decide_eq_false c]
 walk_at "RD"
 subst hR
 refine jak fun R hR=>?_
 walk_at "RD"
 have hw1:=hw.same s1
 clear et
 intro l1 hl1
 have s2:=ja3 hl1 (.lst [])
 have el1 : upd H1 l1 (.lst []) l1 = some (.lst []):=ja1
 generalize upd H1 l1 (.lst []) = H2 at s2 el1
 intro l4 hl4
 have s3:=ja3 hl4 (.tup [.int 0,.ref l1])
 have el4 : upd H2 l4 (.tup [.int 0,.ref l1]) l4 = some (.tup [.int 0,.ref l1]):=ja1
 have el1':=s3 _ _ el1
 generalize upd H2 l4 (.tup [.int 0,.ref l1]) = H3 at s3 el4 el1'
 have S3:=s2.trans s3
 obtain ⟨aW,hlk,ha1,hperm⟩:=jnt wok wok.p.pos
 have hne : aW.2.2.2 ≠ []:=fun z=>by
  rw [z] at hperm
  have:=jgi wok
  rw [hperm.nil_eq.symm] at this
  cases this
 have hlen : aW.2.2.2.length ≤ 4096:=by
  rw [hperm.length_eq]
  unfold jc2
  have h2:=List.length_filter_le (fun s=>decide (cst ps s = (jav ps ts).1)) ((subL (ps.map (·.1))).filter (touB ts))
  have h3:=List.length_filter_le (touB ts) (subL (ps.map (·.1)))
  have h4 : (subL (ps.map (·.1))).length ≤ 4096:=by
   rw [je5,List.length_map]
   exact Nat.le_trans (Nat.pow_le_pow_right (by decide) (show ps.length ≤ 12 by omega)) (by decide)
  omega
 refine ⟨v,.ref l4,f_ways_grown,f_ways_joined,ps,ts,(0,0,0,[[]]),aW,rfl,.head _,.tail _ (.head _),hw1.same S3,wok,hp12,⟨⟨l4,l1,rfl,el4,el1'⟩,rfl,rfl⟩,⟨rfl,Nat.zero_le _,by simp⟩,hlk,fun v' H5 s5 q=>?_⟩
 have S5:=(s1.trans S3).trans s5
 have q : WyR H5 aW.1 v' aW.2.1 aW.2.2.1 aW.2.2.2:=q
 rw [ha1] at q
 walk_at "RD"
 subst hR
 have hw5:=hw.same S5
 obtain ⟨x,pa,ta,xs,ys,rfl,ex,ep,eta,pp,pt⟩:=id hw5
 have hlx : xs.length = ps.length:=Paired.length pp
 simp_arith [jal,ex,at0,ep]
 rw [hlx]
 refine ⟨v',ps.length,_,_,_,rfl,by omega,q,hne,hlen,fun l ys H6 s6 hl el pl=>?_⟩
 have hyl : ys.length = aW.2.2.2.length:=Paired.length pl
 walk_at "RD"
 refine ⟨l,ys,_,rfl,el,Paired.mapP pl fun _ _ q=>q.1,by omega,fun l9 ws qs hl9 hsub pq pm pw=>?_⟩
 have s9:=ja3 hl9 (.lst ws)
 have S9:=(S5.trans s6).trans s9
 refine h1 (by omega) l9 ws qs _ S9 ((S5.trans s6).free hl9) ja1 (Paired.mapP pq fun u s ⟨a,e,q⟩=>⟨a,e,s9 _ _ q⟩) (fun y hy a e=>?_) (pm.trans hperm) pw
 obtain ⟨k,hk⟩:=List.getElem?_of_mem (hsub y hy)
 obtain ⟨ss,_,hs⟩:=jad pl hk
 exact S5.free (hs.2 a e)
theorem jg5 {f : Addr} {fd : FuncData}  (B : Blt mg) (D : DefAt K mg "_law_others" (top 64) ["_law_e"] f fd) {C_NoWeb C_NoPlace C_NoRows C_Overpaid C_NoStep C_NoTree C_NotTwo C_NotForest C_TooWide C_NoText C_NoJoin C_NoSet C_NoCalls C_NoDeed C_Bare C_NoSay C_NoName : Addr} (XP_TooMany : ClsP K mg "TooMany" C_TooMany) (m_NoWeb : mg "NoWeb" = some (.ref C_NoWeb)) (m_NoPlace : mg "NoPlace" = some (.ref C_NoPlace)) (m_NoRows : mg "NoRows" = some (.ref C_NoRows)) (m_Overpaid : mg "Overpaid" = some (.ref C_Overpaid)) (m_NoStep : mg "NoStep" = some (.ref C_NoStep)) (m_NoTree : mg "NoTree" = some (.ref C_NoTree)) (m_NotTwo : mg "NotTwo" = some (.ref C_NotTwo)) (m_NotForest : mg "NotForest" = some (.ref C_NotForest)) (m_TooWide : mg "TooWide" = some (.ref C_TooWide)) (m_NoText : mg "NoText" = some (.ref C_NoText)) (m_NoJoin : mg "NoJoin" = some (.ref C_NoJoin)) (m_NoSet : mg "NoSet" = some (.ref C_NoSet)) (m_NoCalls : mg "NoCalls" = some (.ref C_NoCalls)) (m_NoDeed : mg "NoDeed" = some (.ref C_NoDeed)) (m_Bare : mg "Bare" = some (.ref C_Bare)) (m_NoSay : mg "NoSay" = some (.ref C_NoSay)) (m_NoName : mg "NoName" = some (.ref C_NoName)) (k1 : PySem.W.kitAny K (.ref C_TooMany) ([C_NoWeb,C_NoPlace,C_NoRows,C_Overpaid,C_NoStep,C_NoTree,C_NotTwo,C_NotForest,C_TooWide].map Value.ref) = some false) (k2 : PySem.W.kitAny K (.ref C_TooMany) ([C_NoText,C_NoJoin,C_NoSet,C_NoCalls,C_NoDeed,C_Bare,C_NoSay,C_NoName].map Value.ref) = some false) : FnOkH P w K mg base 1 f fd ["_law_e"] (jj4 C_TooMany):=by
 have sc : FnScope ["_law_e"] ["_law_e"] (ja7 (top 64)):=⟨rfl,rfl,rfl,by decide +kernel,rfl,by decide +kernel,by decide +kernel⟩
 refine D.F.okH sc (fun vs H Q E h=>?_) (fun cdv A outer s H vs Q hr h=>?_)
 ·obtain ⟨a,rfl,_⟩:=h
  rfl
 obtain ⟨a,rfl,ea,h⟩:=h
 refine ⟨_,(ja4 (jbf (jb1 (jaa (jln (cs:=[C_NoWeb,C_NoPlace,C_NoRows,C_Overpaid,C_NoStep,C_NoTree,C_NotTwo,C_NotForest,C_TooWide]) XP_TooMany.y k1) rfl B.isinstance PyProof.Rows.boot_isinstance (ja0 (qv 0) (ja0 (jb4 (ja0 (jax rfl m_NoWeb) (ja0 (jax rfl m_NoPlace) (ja0 (jax rfl m_NoRows) (ja0 (jax rfl m_Overpaid) (ja0 (jax rfl m_NoStep) (ja0 (jax rfl m_NoTree) (ja0 (jax rfl m_NotTwo) (ja0 (jax rfl m_NotForest) (ja0 (jax rfl m_TooWide) ja2)))))))))) ja2)))) (ja6 (jag jd8)) jai) (ja6 (jag (jaa (jln (cs:=[C_NoText,C_NoJoin,C_NoSet,C_NoCalls,C_NoDeed,C_Bare,C_NoSay,C_NoName]) XP_TooMany.y k2) rfl B.isinstance PyProof.Rows.boot_isinstance (ja0 (qv 0) (ja0 (jb4 (ja0 (jax rfl m_NoText) (ja0 (jax rfl m_NoJoin) (ja0 (jax rfl m_NoSet) (ja0 (jax rfl m_NoCalls) (ja0 (jax rfl m_NoDeed) (ja0 (jax rfl m_Bare) (ja0 (jax rfl m_NoSay) (ja0 (jax rfl m_NoName) ja2))))))))) ja2)))))),?_⟩
 simp_arith [jjr]
 refine ⟨by decide,fun tp htp=>?_⟩
 have s1:=ja3 htp (.tup ([C_NoWeb,C_NoPlace,C_NoRows,C_Overpaid,C_NoStep,C_NoTree,C_NotTwo,C_NotForest,C_TooWide].map V.ref))
 refine ⟨s1 _ _ ea,ja1,?_⟩
 simp_arith [jjr]
 refine ⟨by decide,fun tq htq=>?_⟩
 have s2:=s1.trans (ja3 htq (.tup ([C_NoText,C_NoJoin,C_NoSet,C_NoCalls,C_NoDeed,C_Bare,C_NoSay,C_NoName].map V.ref)))
 refine ⟨s2 _ _ ea,ja1,?_⟩
 exact h _ s2
theorem jfl {f : Addr} {fd : FuncData} {f_all_least : Addr} {d_all_least : FuncData} {f_law_others : Addr} {d_law_others : FuncData} (B : Blt mg) (D : DefAt K mg "_law_refused" (top 65) ["_law_web_here","_law_most"] f fd) (D_all_least : DefAt K mg "all_least" (top 50) ["web","most"] f_all_least d_all_least) (G_all_least : FnOk P w K mg base (CXE P w) 9 f_all_least d_all_least ["web","most"] (jqi C_TooMany)) (D_law_others : DefAt K mg "_law_others" (top 64) ["_law_e"] f_law_others d_law_others) (G_law_others : FnOkH P w K mg base 1 f_law_others d_law_others ["_law_e"] (jj4 C_TooMany)) {C_TouchError : Addr} (XP_TooMany : ClsP K mg "TooMany" C_TooMany) (m_TouchError : mg "TouchError" = some (.ref C_TouchError)) (kit1 : PySem.W.kitOne K (.ref C_TooMany) (.ref C_TouchError) = some true) : FnOk P w K mg base CX0 10 f fd ["_law_web_here","_law_most"] jgs:=by
 have sc : FnScope ["_law_web_here","_law_most","_law_e"] ["_law_web_here","_law_most"] (ja7 (top 65)):=⟨rfl,rfl,rfl,by decide +kernel,rfl,by decide +kernel,by decide +kernel⟩
 refine D.F.ok sc (fun vs H Q E h=>?_) (fun cdv A outer s H vs Q E hr h=>?_)
 ·obtain ⟨v,ps,ts,m,rfl,_⟩:=h
  rfl
 obtain ⟨v,ps,ts,m,rfl,hw,wok,hp12,hwd,hm,h⟩:=h
 have hu:=jbi hr
 have hu0 : _ < PySem.cLine:=Nat.lt_of_succ_lt hu
 refine ⟨_,(ja4 (jo4 (mt:=fun cl=>cl = .ref C_TooMany) (i:=2) ⟨rfl,rfl,rfl,fun _=>rfl⟩ sc.nd rfl rfl rfl XP_TooMany.m (fun cl e=>e ▸ mch_pl XP_TooMany.xin rfl) (fun pins EX=>(ja6 (jbm (joc G_all_least (hr.mono (by decide)) rfl D_all_least.m D_all_least.F.kp D_all_least.b .nil (passT ⟨rfl,rfl,rfl,fun _=>rfl⟩) (ja0 (qv 0) (ja0 (qv 1) ja2)))))) (fun a=>(ja6 (jag (jdg (jaa (q_xis0 (c:=.ref C_TouchError) XP_TooMany.y (fun _ r=>r) kit1) rfl B.isinstance PyProof.Rows.boot_isinstance (ja0 (qv 2) (ja0 (jax rfl m_TouchError) ja2))) (jd6 (q_not (jod G_law_others (hr.hm (by decide)) rfl D_law_others.m D_law_others.F.kp D_law_others.b (ja0 (qv 2) ja2))))))))) (ja6 (jag jd8))),?_⟩
 simp_arith [tTry,Ends.unb]
 refine ⟨v,ps,ts,m,rfl,hw,wok,hp12,hwd,fun z=>absurd hm (by omega),fun _ H' sx=>?_⟩
 refine ⟨rfl,fun y hy=>?_⟩
 have ec : upd H' y (caO y (.ref C_TooMany) none) y = some (caO y (.ref C_TooMany) none):=ja1
 have s2:=sx.trans (ja3 hy (caO y (.ref C_TooMany) none))
 generalize upd H' y (caO y (.ref C_TooMany) none) = H2 at ec s2
 simp_arith [jrf]
 refine ⟨ec,?_⟩
 walk_at "RD"
 refine ⟨y,rfl,ec,fun H3 s3=>?_⟩
 walk_at "RD"
 exact h _ (s2.trans s3)
end
end My
namespace My
open PySem L2
section
variable {P : Program} {w : World} {K : PySem.W.Frag} {mg : Str→Option Value} {base : Heap} {c1 c2 c3 c4 : Tok}
noncomputable def jo0 (K : PySem.W.Frag) : Sp:=fun vs H Q _=>∃ a ns,vs = [.ref a]∧Scr K H a ns∧∀ H',Q (.bl true) H'
theorem jkq (ps : List (Int × Int)) : jfy ps [] = true:=by
 unfold jfy
 rw [List.all_eq_true]
 intro n _
 refine decide_eq_true ?_
 have : jb6 ps [] n = []:=by
  unfold jb6
  rw [List.filter_eq_nil_iff]
  intro x _ h
  rw [Bool.and_eq_true] at h
  exact absurd h.2 (by unfold jbc; simp)
 rw [this]
 decide
theorem WebOk.nil {ps ts : List (Int × Int)} (h : WebOk ps ts) : WebOk ps []:=⟨h.pl,h.p,by simp,trivial⟩
theorem jmy {ps ts : List (Int × Int)} (wok : WebOk ps ts) {qs : List (List Int)} (pm : qs.Perm (jc2 ps ts)) : (qs.length : Int) = (jav ps ts).2.1:=by
 rw [pm.length_eq,(jcd wok).many]
 rfl
theorem jqg (ns : List Int) : (subL ns).filter (fun s=>decide (s = [])) = [[]]:=by
 have key : ∀ m : List Int,(subL m.reverse).filter (fun s=>decide (s = [])) = [[]]:=fun m=>by
  induction m with
  | nil=>rfl
  | cons n r ih =>
   rw [List.reverse_cons,jde,List.filter_append,ih,jc0 (l:=(subL r.reverse).map fun s=>s ++ [n]) (fun s hs=>by
    obtain ⟨t,_,rfl⟩:=List.mem_map.mp hs
    exact decide_eq_false (by simp))]
   rfl
 have:=key ns.reverse
 rwa [List.reverse_reverse] at this
theorem jh5 {ps : List (Int × Int)} (wok : WebOk ps []) : jav ps [] = (0,1,[],ps.map fun _=>0):=by
 have hp:=wok.p.pos
 have h0 : ∀ qs : List (Int × Int),cst qs [] = 0:=fun qs=>by
  induction qs with
  | nil=>rfl
  | cons q r ih=>rw [cst,ih,if_neg (by simp)]; rfl
 have hF : (subL (ps.map (·.1))).filter (touB []) = subL (ps.map (·.1)):=List.filter_eq_self.mpr fun _ _=>rfl
 have hpos : ∀ s ∈ subL (ps.map (·.1)),decide (cst ps s = 0) = decide (s = []):=fun s hs=>by
  rw [decide_eq_decide]
  constructor
  ·intro e
   by_cases hn : s = []
   ·exact hn
   ·obtain ⟨x,hx⟩:=List.exists_mem_of_ne_nil s hn
    obtain ⟨q,hq,eq⟩:=List.mem_map.mp ((jcy _ s hs).subset hx)
    have:=jnb (qs:=ps) (s:=[]) (t:=s) hp (fun y hy=>by cases hy) hq (by simp) (by rw [eq]; exact hx)
    rw [h0,e] at this
    omega
  ·intro e; rw [e,h0]
 have hfil : ((subL (ps.map (·.1))).filter fun s=>decide (cst ps s = 0)) = [[]]:=by rw [List.filter_congr hpos,jqg]
 unfold jav
 rw [hF]
 have hm : ([] : List Int) ∈ subL (ps.map (·.1)):=by
  have : ([] : List Int) ∈ (subL (ps.map (·.1))).filter fun s=>decide (cst ps s = 0):=by rw [hfil]; exact .head _
  exact (List.mem_filter.mp this).1
 refine jck (List.ne_nil_of_mem hm) ⟨fun s _=>?_,by rw [hfil]; rfl,⟨hm,h0 ps⟩,fun s hs e=>?_,?_⟩
 ·have:=jnc (qs:=ps) (s:=[]) (t:=s) hp (fun y hy=>by cases hy)
  rw [h0] at this
  exact this
 ·have : decide (s = []) = true:=by rw [← hpos s hs]; exact decide_eq_true e
  rw [of_decide_eq_true this]
  rfl
 ·rw [hfil]
  refine List.map_congr_left fun q _=>?_
  rw [List.filter_cons,if_neg (by simp)]
  rfl
theorem jiv {α : Type} {p q : α→Bool} : ∀ {l : List α},(∀ x ∈ l,p x = true→q x = true→False)→(l.filter p).length + (l.filter q).length ≤ l.length
 | [],_=>Nat.le_refl _
 | x :: r,h=>by
  have ih:=jiv (p:=p) (q:=q) (l:=r) fun y hy=>h y (.tail _ hy)
  have hx:=h x (.head _)
  rw [List.filter_cons,List.filter_cons,List.length_cons]
  split <;> split
  ·rename_i a b; exact (hx a b).elim
  ·rw [List.length_cons]; omega
  ·rw [List.length_cons]; omega
  ·omega
theorem jni {ps ts : List (Int × Int)} (wok : WebOk ps ts) (h8 : ps.length ≤ 8) : (jc2 ps ts).length ≤ 128:=by
 have hp:=wok.p.pos
 have hn:=wok.p.nodup
 unfold jc2
 generalize (jav ps ts).1 = c
 rw [List.filter_filter]
 rcases List.eq_nil_or_concat ps with e | ⟨qs,r,e⟩
 ·rw [e]
  exact Nat.le_trans (List.length_filter_le _ _) (by decide)
 ·rw [List.concat_eq_append] at e
  subst e
  rw [List.map_append,List.map_cons,List.map_nil,jde,List.filter_append,List.length_append,List.filter_map,List.length_map]
  have hl : (subL (qs.map (·.1))).length ≤ 128:=by
   rw [je5,List.length_map]
   rw [List.length_append] at h8
   exact Nat.le_trans (Nat.pow_le_pow_right (by decide) (show qs.length ≤ 7 by have : [r].length = 1:=rfl; omega)) (by decide)
  refine Nat.le_trans (jiv fun s hs h1 h2=>?_) hl
  have hsub:=jcy _ s hs
  rw [Bool.and_eq_true,decide_eq_true_eq] at h1
  replace h2 : (decide (cst (qs ++ [r]) (s ++ [r.1]) = c) && touB ts (s ++ [r.1])) = true:=h2
  rw [Bool.and_eq_true,decide_eq_true_eq] at h2
  have q1:=h1.1
  have q2:=h2.1
  rw [jdz hn hsub] at q1
  rw [jfx hn] at q2
  have:=hp r (List.mem_append_right _ (.head _))
  omega
theorem jdu : ∀ {qs rs : List (List Int)},qs.Perm rs→qs.Pairwise (fun a b=>HT.lexLt b a = false)→rs.Pairwise (fun a b=>HT.lexLt b a = false)→qs = rs
 | [],rs,h,_,_=>h.nil_eq
 | q :: qs,[],h,_,_=>absurd h.eq_nil (by simp)
 | q :: qs,r :: rs,h,h1,h2=>by
  have e : q = r:=by
   rw [List.pairwise_cons] at h1 h2
   have a1:=h.mem_iff.mp (.head _)
   have a2:=h.mem_iff.mpr (.head _)
   rcases List.mem_cons.mp a1 with e | a1
   ·exact e
   rcases List.mem_cons.mp a2 with e | a2
   ·exact e.symm
   have b1:=h2.1 _ a1
   have b2:=h1.1 _ a2
   rcases jdy q r with c | c | c
   ·rw [c] at b1; cases b1
   ·exact c
   ·rw [c] at b2; cases b2
  subst e
  rw [jdu ((List.perm_cons q).mp h) (List.pairwise_cons.mp h1).2 (List.pairwise_cons.mp h2).2]
noncomputable def lsD (s : List Int) : Dt:=.lst (s.map Dt.int)
noncomputable def lssD (qs : List (List Int)) : Dt:=.lst (qs.map lsD)
theorem jj6 {H : Hp} : ∀ {ys : List V} {qs : List (List Int)},Paired (jdr H) ys qs→Reps H (qs.map lsD) ys
 | [],[],_=>by rw [List.map_nil,Reps]
 | y :: ys,q :: qs,.cons r t=>by
  obtain ⟨a,rfl,ea⟩:=r
  rw [List.map_cons,Reps]
  exact ⟨_,_,rfl,repL ea,jj6 t⟩
theorem jey {H : Hp} {l : Addr} {ys : List V} {qs : List (List Int)} (e : H l = some (.lst ys)) (p : Paired (jdr H) ys qs) : Rep H (lssD qs) (.ref l):=by
 rw [lssD,Rep]
 exact ⟨l,ys,rfl,e,jj6 p⟩
theorem jm9 : ∀ (qs : List (List Int)),deps (qs.map lsD) ≤ 2
 | []=>Nat.zero_le _
 | q :: qs=>by
  rw [List.map_cons,deps]
  have h1:=(jfc q).1
  have h2:=jm9 qs
  simp only [lsD,dep]
  omega
theorem jm8 : ∀ {qs : List (List Int)},(∀ q ∈ qs,q.length ≤ 900)→wids (qs.map lsD) ≤ 900
 | [],_=>Nat.zero_le _
 | q :: qs,h=>by
  rw [List.map_cons,wids]
  have h1:=(jfc q).2
  have h2:=jm8 (qs:=qs) fun s hs=>h s (.tail _ hs)
  have h3:=h q (.head _)
  simp only [lsD,wid,List.length_map]
  omega
theorem jp2 {ps : List (Int × Int)} (wok : WebOk ps []) : jc2 ps [] = [[]]:=by
 have hln:=jh5 wok
 have hm:=(jcd wok).many
 have hmem : ([] : List Int) ∈ jc2 ps []:=by
  have:=jgi wok
  rw [hln] at this
  exact this
 rw [hln] at hm
 have hl : (jc2 ps []).length = 1:=by
  unfold jc2
  rw [hln]
  have hm : (1 : Int) = (((subL (ps.map (·.1))).filter (touB [])).filter fun s=>decide (cst ps s = 0)).length:=hm
  show (((subL (ps.map (·.1))).filter (touB [])).filter fun s=>decide (cst ps s = 0)).length = 1
  omega
 match jc2 ps [],hmem,hl with
 | [x],hmem,_=>rw [List.mem_singleton.mp hmem]
theorem jrq {ps ts : List (Int × Int)} {qs : List (List Int)} (pm : qs.Perm (jc2 ps ts)) : ∀ q ∈ qs,q.length ≤ ps.length:=fun q hq=>by
 have h1:=pm.mem_iff.mp hq
 unfold jc2 at h1
 have h2:=jcy _ q (List.mem_filter.mp (List.mem_filter.mp h1).1).1
 have h3:=h2.length_le
 rwa [List.length_map] at h3
noncomputable def jlf : Sp:=fun vs H Q _=>∃ v ps ts m,vs = [v,.int m]∧jbr H v ps ts∧WebOk ps ts∧ps.length ≤ 12∧jfy ps ts = true∧(jav ps ts).2.1 ≤ m∧∀ l ys qs H',Same H H'→H l = none→H' l = some (.lst ys)→Paired (jdr H') ys qs→(∀ y ∈ ys,∀ a,y = .ref a→H a = none)→qs.Perm (jc2 ps ts)→qs.Pairwise (fun a b=>HT.lexLt b a = false)→Q (.ref l) H'
theorem jp3 {C : Addr} : ∀ vs H Q E,jlf vs H Q E→jqi C vs H Q (fun _ _ _=>False):=by
 rintro vs H Q E ⟨v,ps,ts,m,rfl,hw,wok,h12,hwd,hm,h⟩
 exact ⟨v,ps,ts,m,rfl,hw,wok,h12,hwd,fun _=>h,fun z=>absurd z (by omega)⟩
theorem good {sp spG : Sp} {k : Nat} {f : Addr} {fd : FuncData} {qs : List Str} (imp : ∀ vs H Q E,spG vs H Q E→sp vs H Q (fun _ _ _=>False)) (G : FnOk P w K mg base (CXE P w) k f fd qs sp) : FnOk P w K mg base CX0 k f fd qs spG:=by
 refine ⟨fun vs H Q E q=>G.len vs H Q _ (imp _ _ _ _ q),fun A outer s H args us vs Q E hr he hb hv hs=>codeAny_mono (G.run A outer s H args us vs Q _ hr he hb hv (imp _ _ _ _ hs)) fun r s' hq=>?_⟩
 cases r with
 | error e =>
  obtain ⟨_,_,_,_,_,_,_,_,_,_,_,_,_,_,_,z⟩:=hq
  exact z.elim
 | ok fl=>cases fl <;> exact hq
theorem ok_law {f : Addr} {fd : FuncData} {f_law_begun : Addr} {d_law_begun : FuncData} {f_law_web : Addr} {d_law_web : FuncData} {f_law_too_wide : Addr} {d_law_too_wide : FuncData} {f_law_cheapest : Addr} {d_law_cheapest : FuncData} {f_law_take : Addr} {d_law_take : FuncData} {f_law_copy : Addr} {d_law_copy : FuncData} {f_law_refused : Addr} {d_law_refused : FuncData} {f_all_least : Addr} {d_all_least : FuncData} {f_law_same : Addr} {d_law_same : FuncData} (B : Blt mg) (D : DefAt K mg "law" (top 66) ["_law_script"] f fd) (D_law_begun : DefAt K mg "_law_begun" (top 52) ["_law_script","_law_k"] f_law_begun d_law_begun) (G_law_begun : FnOk P w K mg base CX0 1 f_law_begun d_law_begun ["_law_script","_law_k"] (jle K)) (D_law_web : DefAt K mg "_law_web" (top 55) ["_law_state","_law_most"] f_law_web d_law_web) (G_law_web : FnOk P w K mg base CX0 3 f_law_web d_law_web ["_law_state","_law_most"] jpf) (D_law_too_wide : DefAt K mg "_law_too_wide" (top 63) ["_law_web_here"] f_law_too_wide d_law_too_wide) (G_law_too_wide : FnOk P w K mg base CX0 2 f_law_too_wide d_law_too_wide ["_law_web_here"] jpe) (D_law_cheapest : DefAt K mg "_law_cheapest" (top 61) ["_law_web_here"] f_law_cheapest d_law_cheapest) (G_law_cheapest : FnOk P w K mg base CX0 2 f_law_cheapest d_law_cheapest ["_law_web_here"] jld) (D_law_take : DefAt K mg "_law_take" (top 53) ["_law_state","_law_many"] f_law_take d_law_take) (G_law_take : FnOk P w K mg base CX0 1 f_law_take d_law_take ["_law_state","_law_many"] jj1) (D_law_copy : DefAt K mg "_law_copy" (top 57) ["_law_web_here"] f_law_copy d_law_copy) (G_law_copy : FnOk P w K mg base CX0 1 f_law_copy d_law_copy ["_law_web_here"] jlc) (D_law_refused : DefAt K mg "_law_refused" (top 65) ["_law_web_here","_law_most"] f_law_refused d_law_refused) (G_law_refused : FnOk P w K mg base CX0 10 f_law_refused d_law_refused ["_law_web_here","_law_most"] jgs) (D_all_least : DefAt K mg "all_least" (top 50) ["web","most"] f_all_least d_all_least) (G_all_least : FnOk P w K mg base CX0 9 f_all_least d_all_least ["web","most"] jlf) (D_law_same : DefAt K mg "_law_same" (top 56) ["_law_found","_law_due"] f_law_same d_law_same) (G_law_same : FnOk P w K mg base CX0 6 f_law_same d_law_same ["_law_found","_law_due"] (jgr 6)) : FnOk P w K mg base CX0 11 f fd ["_law_script"] (jo0 K):=by
 have sc : FnScope ["_law_script","_law_at","_law_state","_law_web_here","_law_due","_law_most","_law_handed","_law_told","_law_some"] ["_law_script"] (ja7 (top 66)):=⟨rfl,rfl,rfl,by decide +kernel,rfl,by decide +kernel,by decide +kernel⟩
 refine D.F.ok sc (fun vs H Q E h=>?_) (fun cdv A outer s H vs Q E hr h=>?_)
 ·obtain ⟨a,ns,rfl,_⟩:=h
  rfl
 obtain ⟨a,ns,rfl,hs,h⟩:=h
 have hu:=jbi hr
 have hu0 : _ < PySem.cLine:=Nat.lt_of_succ_lt hu
 refine ⟨_,(ja4 (jbl PassesOwn.never rfl (jdh rfl B.range (ja0 (jaa (q_max rfl) rfl B.max PyProof.Rows.boot_max (ja0 ja5 (ja0 (jaa (q_min rfl) rfl B.min PyProof.Rows.boot_min (ja0 (jaa jcu rfl B.len PySem.boot_len (ja0 (qv 0) ja2)) (ja0 ja5 ja2))) ja2))) ja2)) (jab (i:=1) sc.nd rfl (Or.inl rfl)) (ja4 (jaj (i:=2) sc.nd rfl (Or.inl rfl) (jac G_law_begun (hr.mono (by decide)) rfl D_law_begun.m D_law_begun.F.kp D_law_begun.b .nil jar (ja0 (qv 0) (ja0 (qv 1) ja2)))) (ja4 (jaj (i:=3) sc.nd rfl (Or.inl rfl) (jac G_law_web (hr.mono (by decide)) rfl D_law_web.m D_law_web.F.kp D_law_web.b .nil jar (ja0 (qv 2) (ja0 (jaf q_ix (jas (ja0 ja5 (ja0 ja5 ja2))) (jcc q_int1 rfl B.int PyProof.Rows.boot_int (ja0 (jbq q_eq (qv 1) ja5 (jap _)) ja2)) (fun _ _=>rfl)) ja2)))) (ja6 (jbf (jb3 jql (jac G_law_too_wide (hr.mono (by decide)) rfl D_law_too_wide.m D_law_too_wide.F.kp D_law_too_wide.b .nil jar (ja0 (qv 3) ja2)) jjf (jap _)) (ja4 (jaj (i:=4) sc.nd rfl (Or.inl rfl) (jaf q_ix (jac G_law_cheapest (hr.mono (by decide)) rfl D_law_cheapest.m D_law_cheapest.F.kp D_law_cheapest.b .nil jar (ja0 (qv 3) ja2)) ja5 (fun _ _=>rfl))) (ja4 (jaj (i:=5) sc.nd rfl (Or.inl rfl) (jaf q_ix (jas (ja0 (jaa jej rfl B.len PySem.boot_len (ja0 (qv 4) ja2)) (ja0 (jaw jd1 (jaa jej rfl B.len PySem.boot_len (ja0 (qv 4) ja2)) ja5) (ja0 ja5 ja2)))) (jac G_law_take (hr.mono (by decide)) rfl D_law_take.m D_law_take.F.kp D_law_take.b .nil jar (ja0 (qv 2) (ja0 ja5 ja2))) (fun _ _=>rfl))) (ja4 (jaj (i:=6) sc.nd rfl (Or.inl rfl) (jac G_law_copy (hr.mono (by decide)) rfl D_law_copy.m D_law_copy.F.kp D_law_copy.b .nil jar (ja0 (qv 3) ja2))) (ja4 (jbf (PW.pt (jek (jb3 q_gt (jaa jej rfl B.len PySem.boot_len (ja0 (qv 4) ja2)) ja5 (jap _)) (jd7 (jc6 (jb1 (jac G_law_refused (hr.mono (by decide)) rfl D_law_refused.m D_law_refused.F.kp D_law_refused.b .nil jar (ja0 (qv 6) (ja0 (jaw q_sub (jaa jej rfl B.len PySem.boot_len (ja0 (qv 4) ja2)) ja5) ja2)))))))) (ja6 (jag jd8)) jai) (ja4 (jaj (i:=7) sc.nd rfl (Or.inl rfl) (jac G_all_least (hr.mono (by decide)) rfl D_all_least.m D_all_least.F.kp D_all_least.b .nil jar (ja0 (qv 6) (ja0 (qv 5) ja2)))) (ja4 (jbf (jc6 (jb1 (jac G_law_same (hr.mono (by decide)) rfl D_law_same.m D_law_same.F.kp D_law_same.b .nil jar (ja0 (qv 7) (ja0 (qv 4) ja2))))) (ja6 (jag jd8)) jai) (ja4 (jbl PassesOwn.never rfl (jb7 (qv 7)) (jab (i:=8) sc.nd rfl (Or.inl rfl)) (ja6 (jbm (q_bm PySem.F.plainAttrs_list PySem.F.slot_list_append PySem.F.type_list_append jc4 (qv 8) (ja0 (jlx jlo ja5) ja2))))) (ja4 (jbm (q_bm PySem.F.plainAttrs_list PySem.F.slot_list_append PySem.F.type_list_append jc4 (qv 7) (ja0 (jas ja2) ja2))) (ja4 (jbf (PW.pt (jls (jc6 (jb1 (jac G_law_same (hr.mono (by decide)) rfl D_law_same.m D_law_same.F.kp D_law_same.b .nil jar (ja0 (jac G_all_least (hr.mono (by decide)) rfl D_all_least.m D_all_least.F.kp D_all_least.b .nil jar (ja0 (qv 6) (ja0 (qv 5) ja2))) (ja0 (qv 4) ja2))))) (jgu (jc6 (jb1 (jac G_law_same (hr.mono (by decide)) rfl D_law_same.m D_law_same.F.kp D_law_same.b .nil jar (ja0 (qv 6) (ja0 (qv 3) ja2)))))))) (ja6 (jag jd8)) jai) (ja4 (jbm (q_bm0 PySem.F.plainAttrs_list PySem.F.slot_list_clear PySem.F.type_list_clear jqn (jaf q_ix (qv 6) ja5 (fun _ _=>rfl)))) (ja6 (jbf (jc6 (jb1 (jac G_law_same (hr.mono (by decide)) rfl D_law_same.m D_law_same.F.kp D_law_same.b .nil jar (ja0 (jac G_all_least (hr.mono (by decide)) rfl D_all_least.m D_all_least.F.kp D_all_least.b .nil jar (ja0 (qv 6) (ja0 (qv 5) ja2))) (ja0 (jas (ja0 (jas ja2) ja2)) ja2))))) (ja6 (jag jd8)) jai)))))))))))) jai))))) (ja6 (jag jd8))),?_⟩
 walk_at "RD"
 refine jb9 (Itr 0 (if (1 : Int) < (if (6 : Int) < (ns.length : Int) then 6 else (ns.length : Int)) then (if (6 : Int) < (ns.length : Int) then 6 else (ns.length : Int)) else 1).toNat) H (fun R hR=>?_) (jcs (n:=(if (1 : Int) < (if (6 : Int) < (ns.length : Int) then 6 else (ns.length : Int)) then (if (6 : Int) < (ns.length : Int) then 6 else (ns.length : Int)) else 1).toNat) (fun i σ H1=>∃ v1 v2 v3 v4 v5 v6 v7 v8,σ = [some (.ref a),v1,v2,v3,v4,v5,v6,v7,v8]∧Scr K H1 a ns) ⟨none,none,none,none,none,none,none,none,rfl,hs⟩ ?_ ?_)
 ·unfold jol
  walk_at "RD"
  refine ⟨a,_,rfl,.inl hs.sq,?_⟩
  simp_arith [List.length_map]
  refine ⟨_,rfl,?_,?_,hR⟩
  ·split <;> split <;> omega
  ·split <;> split <;> omega
 ·rintro i σ H1 hi ⟨v1,v2,v3,v4,v5,v6,v7,v8,rfl,hs1⟩
  have hi2 : i < 1000:=by split at hi <;> split at hi <;> omega
  walk_at "RD"
  refine ⟨a,0 + (i : Int),ns,rfl,hs1,by omega,by omega,fun st o hst so=>?_⟩
  walk_at "RD"
  have hs2 : Scr K (upd H1 st o) a ns:=hs1.tups (jdd hst)
  have eO : upd H1 st o st = some o:=ja1
  generalize upd H1 st o = H2 at hs2 eO
  intro L hL
  have sL:=ja3 hL (.lst [.int 5,.int 8])
  have eL : upd H2 L (.lst [.int 5,.int 8]) L = some (.lst [.int 5,.int 8]):=ja1
  have hsL:=hs2.tups sL.tups
  have eOL:=sL _ _ eO
  generalize upd H2 L (.lst [.int 5,.int 8]) = HL at sL eL hsL eOL
  clear hs1 hs2 eO
  simp_arith [jal,eL]
  have key : atI [V.int 5,.int 8] (if decide (0 + (i : Int) = 0) = true then (1 : Int) else 0) = some (.int (if decide (0 + (i : Int) = 0) = true then (8 : Int) else 5)):=by split <;> rfl
  simp only [key]
  refine ⟨st,o,_,rfl,eOL,so,by split <;> decide,by split <;> decide,fun v HB oB ps ts bB eB soB hw wok dr hpm=>?_⟩
  have hp8 : ps.length ≤ 8:=by split at hpm <;> omega
  have hsB : Scr K HB a ns:=hsL.tups (bB.tups eOL so.imm)
  clear hsL eL sL hL hst bB eOL key so hpm
  have hl40:=wok.pl
  have ht120:=wok.tl
  have okn:=wok.nil
  walk_at "RD"
  refine ⟨v,ps,ts,rfl,hw,wok,fun hwd HC sC=>?_,fun p HC sC=>?_⟩
  case' refine_2 =>
   walk_at "RD"
   exact ⟨_,_,_,_,_,_,_,_,rfl,hsB.tups sC.tups⟩
  have hwC:=hw.same sC
  have hsC:=hsB.tups sC.tups
  have eC:=sC _ _ eB
  clear hw hsB sC eB
  walk_at "RD"
  refine ⟨v,ps,ts,rfl,hwC,wok,by omega,fun ct l ys qs HD sD ect el pq pm pw=>?_⟩
  have hwD:=hwC.same sD
  have hsD:=hsC.tups sD.tups
  have eD:=sD _ _ eC
  have hlen:=jmy wok pm
  have hly : ys.length = qs.length:=Paired.length pq
  have hq128 : qs.length ≤ 128:=by rw [pm.length_eq]; exact jni wok hp8
  have hq1 : 1 ≤ qs.length:=by
   rw [pm.length_eq]
   exact List.length_pos_iff.mpr fun z=>by have:=jgi wok; rw [z] at this; cases this
  clear hwC hsC eC
  simp_arith [jal,ect,at1]
  simp only [el]
  intro ml hml
  have sM:=ja3 hml (.lst [.int (ys.length : Int),.int ((ys.length : Int) + 1),.int 200])
  have eM : upd HD ml (.lst [.int (ys.length : Int),.int ((ys.length : Int) + 1),.int 200]) ml = some (.lst [.int (ys.length : Int),.int ((ys.length : Int) + 1),.int 200]):=ja1
  generalize upd HD ml (.lst [.int (ys.length : Int),.int ((ys.length : Int) + 1),.int 200]) = HM at sM eM
  refine ⟨st,oB,3,rfl,sM _ _ eD,soB,by decide,by decide,fun dr9 o3 d0 d3 so3=>?_⟩
  have nst : ml ≠ st:=fun z=>by rw [z,eD] at hml; cases hml
  have bS : But st HM (upd HM st o3):=But.at st HM _
  have eM3:=bS _ _ nst eM
  have hw3 : jbr (upd HM st o3) v ps ts:=(hwD.same sM).but (sM _ _ eD) soB bS
  have tS : TupS HM (upd HM st o3):=bS.tups (sM _ _ eD) soB.imm
  have hs3:=(hsD.tups sM.tups).tups tS
  have nl : l ≠ st:=fun z=>by
   rw [z,eD] at el
   obtain ⟨c5,s5,f5,rfl,_⟩:=soB
   have el:=Option.some.inj el
   injection el with el
   rw [← el] at pq
   obtain ⟨x5,_,a5,e5,_⟩:=jad pq (i:=0) rfl
   cases e5
  have el3:=bS _ _ nl (sM _ _ el)
  have pq3 : Paired (jdr (upd HM st o3)) ys qs:=Paired.mapP pq fun u s ⟨b,e,q⟩=>⟨b,e,bS _ _ (fun z=>by
   rw [z,eD] at q
   obtain ⟨c5,s5,f5,rfl,_⟩:=soB
   have q:=Option.some.inj q
   injection q with q
   have h6 : V.bl f5 ∈ s.map V.int:=by rw [← q]; simp
   obtain ⟨_,_,h7⟩:=List.mem_map.mp h6
   cases h7) (sM _ _ q)⟩
  generalize upd HM st o3 = H3 at bS eM3 hw3 tS hs3 el3 pq3
  obtain ⟨most,hmost,hge⟩ : ∃ most : Int,atI [V.int (ys.length : Int),.int ((ys.length : Int) + 1),.int 200] dr9 = some (.int most)∧(ys.length : Int) ≤ most:=by
   have : dr9 = 0 ∨ dr9 = 1 ∨ dr9 = 2:=by omega
   rcases this with rfl | rfl | rfl
   ·exact ⟨_,rfl,by omega⟩
   ·exact ⟨_,rfl,by omega⟩
   ·exact ⟨_,rfl,by omega⟩
  simp_arith [jal,eM3,hmost]
  clear eM3 hml eM sM nst bS tS ect el pq hsD hwD sD eD soB nl
  have due : ∀ {H' : Hp},Same H3 H'→Rep H' (lssD qs) (.ref l):=fun s=>jey (s _ _ el3) (Paired.mapP pq3 fun u s' ⟨b,e,q⟩=>⟨b,e,s _ _ q⟩)
  have hsz:=jrq pm
  have dp : dep (lssD qs) ≤ 6:=by
   have:=jm9 qs
   simp only [lssD,dep]
   omega
  have wd : wid (lssD qs) ≤ 1000:=by
   have:=jm8 (qs:=qs) fun q hq=>by have:=hsz q hq; omega
   simp only [lssD,wid,List.length_map]
   omega
  have hmany : (jav ps ts).2.1 = (ys.length : Int):=by rw [hly]; exact hlen.symm
  refine ⟨v,ps,ts,rfl,hw3,fun t l1 l2 xs' ys' HE sE h1 h2 h12 et e1 e2 p1 p2=>?_⟩
  have hhE : jbr HE (.ref t) ps ts:=⟨t,l1,l2,xs',ys',rfl,et,e1,e2,p1,p2⟩
  have elE:=sE _ _ el3
  simp_arith [jal,elE]
  refine (fun (fin : ∀ HF,Same HE HF→jlf [V.ref t,V.int most] HF ?C E0)=>?main) ?fin2
  case main =>
   by_cases c : 1 < ys.length
   ·rw [if_pos (decide_eq_true (show (ys.length : Int) > 1 by omega))]
    refine ⟨.ref t,ps,ts,_,rfl,hhE,wok,by omega,hwd,by omega,fun HF sF=>?_⟩
    walk_at "RD"
    exact fin HF sF
   ·rw [if_neg (fun z=>c (by have:=of_decide_eq_true z; omega))]
    exact fin HE (Same.refl _)
  case fin2 =>
   intro HF sF
   refine ⟨.ref t,ps,ts,most,rfl,hhE.same sF,wok,by omega,hwd,by omega,fun l5 ys5 qs5 HG sG hl5 el5 p5 fr5 pm5 pw5=>?_⟩
   have e5 : qs5 = qs:=jdu (pm5.trans pm.symm) pw5 pw
   subst e5
   refine ⟨.ref l5,.ref l,_,rfl,jey el5 p5,due ((sE.trans sF).trans sG),dp,wd,fun HI sI=>?_⟩
   have sFI:=sG.trans sI
   have el5I:=sI _ _ el5
   have hl5y : ys5.length = qs5.length:=Paired.length p5
   have ne5 : ∀ y ∈ ys5,∀ b,y = .ref b→b ≠ l5:=fun y hy b e z=>by
    obtain ⟨k,hk⟩:=List.getElem?_of_mem hy
    obtain ⟨ss,hss,b',e',eb⟩:=jad p5 hk
    cases e.symm.trans e'
    rw [z,el5] at eb
    injection eb with eb
    injection eb with eb
    have : V.ref b ∈ ss.map V.int:=by rw [← eb,← e]; exact hy
    obtain ⟨_,_,h7⟩:=List.mem_map.mp this
    cases h7
   have all0 : ∀ y ∈ ys5,∃ b zs,y = .ref b∧HI b = some (.lst zs)∧zs.length ≤ 100 + 0:=fun y hy=>by
    obtain ⟨k,hk⟩:=List.getElem?_of_mem hy
    obtain ⟨ss,hss,b,e',eb⟩:=jad p5 hk
    refine ⟨b,_,e',sI _ _ eb,?_⟩
    have:=hsz ss (List.mem_of_getElem? hss)
    rw [List.length_map]
    omega
   walk_at "RD"
   refine jb9 (Itl K l5) HI (fun R hR=>?_) (jbx (K:=K) (a:=l5) (xs:=ys5) (fun j σ HJ=>∃ w8,σ = [some (.ref a),some (.int (0 + (i : Int))),some (.ref st),some v,some (.ref l),some (.int most),some (.ref t),some (.ref l5),w8]∧Same HF HJ∧HJ l5 = some (.lst ys5)∧∀ y ∈ ys5,∃ b zs,y = .ref b∧HJ b = some (.lst zs)∧zs.length ≤ 100 + j) ⟨_,rfl,sFI,el5I,all0⟩ (fun j σ HJ _ ⟨_,_,_,e,_⟩=>SqL.of e) ?_ ?_)
   ·unfold jcb
    walk_at "RD"
    exact ⟨l5,rfl,⟨_,SqL.of el5I⟩,hR⟩
   ·rintro j y σ HJ hj ⟨w8,rfl,sJ,elJ,allJ⟩
    have hy:=List.mem_of_getElem? hj
    have hj2 : j < ys5.length:=(List.getElem?_eq_some_iff.mp hj).1
    obtain ⟨b,zs,rfl,eb,hzl⟩:=allJ y hy
    walk_at "RD"
    refine ⟨⟨_,_,rfl,eb⟩,?_⟩
    simp_arith [eb]
    refine ⟨szl' (by omega),_,rfl,jao sJ (fr5 _ hy b rfl),by rw [ja8 (ne5 _ hy b rfl).symm]; exact elJ,fun y' hy'=>?_⟩
    obtain ⟨b',zs',rfl,eb',hzl'⟩:=allJ y' hy'
    by_cases e : b' = b
    ·subst e
     refine ⟨b',_,rfl,ja1,?_⟩
     rw [List.length_append]
     show zs.length + 1 ≤ _
     omega
    ·exact ⟨b',zs',rfl,by rw [ja8 e]; exact eb',by omega⟩
   ·rintro σ HJ ⟨w8,rfl,sJ,elJ,_⟩
    walk_at "RD"
    refine ⟨⟨_,_,rfl,elJ⟩,?_⟩
    walk_at "RD"
    intro n0 hn0
    have sn0:=ja3 hn0 (.lst [])
    have elN:=sn0 _ _ elJ
    have sN:=sJ.trans sn0
    generalize upd HJ n0 (.lst []) = HN at sn0 elN sN
    simp only [elN]
    refine ⟨szl' (by omega),?_⟩
    have sX : Same HF (upd HN l5 (.lst (ys5 ++ [.ref n0]))):=jao sN hl5
    generalize upd HN l5 (.lst (ys5 ++ [.ref n0])) = HX at sX
    have sEX:=sF.trans sX
    clear elN sN sn0 hn0 elJ sJ el5 el5I all0 ne5 p5 fr5 hl5 sFI sI sG
    refine ⟨.ref t,ps,ts,most,rfl,hhE.same sEX,wok,by omega,hwd,by omega,fun l6 ys6 qs6 HG sG hl6 el6 p6 fr6 pm6 pw6=>?_⟩
    have e6 : qs6 = qs5:=jdu (pm6.trans pm.symm) pw6 pw
    subst e6
    have sEG:=sEX.trans sG
    walk_at "RD"
    refine ⟨.ref l6,.ref l,_,rfl,jey el6 p6,due (sE.trans sEG),dp,wd,fun HO sO=>?_⟩
    have sEO:=sEG.trans sO
    walk_at "RD"
    refine ⟨.ref t,v,webD ps ts,rfl,(hhE.same sEO).rep,((hw3.same sE).same sEO).rep,Nat.le_trans (jrj _ _) (by decide),jq8 (by omega) (by omega),fun H8 s8=>?_⟩
    have s28:=sEO.trans s8
    have t8:=s28 _ _ et
    have a8:=s28 _ _ e1
    have b8:=s28 _ _ e2
    have q8:=Prs.same s28 p1
    have hs8:=(hs3.tups sE.tups).tups s28.tups
    simp_arith [jal,t8,at1]
    refine ⟨⟨_,_,rfl,b8⟩,?_⟩
    simp_arith [b8]
    have tu : TupS H8 (upd H8 l2 (.lst [])):=jcw b8
    have t9:=tu _ _ rfl t8
    have a9 : upd H8 l2 (.lst []) l1 = some (.lst xs'):=by rw [ja8 h12]; exact a8
    have b9 : upd H8 l2 (.lst []) l2 = some (.lst []):=ja1
    have q9:=Prs.tups tu q8
    have hs9:=hs8.tups tu
    generalize upd H8 l2 (.lst []) = H9 at t9 a9 b9 q9 hs9
    have hln:=jh5 okn
    refine ⟨.ref t,ps,[],most,rfl,⟨t,l1,l2,xs',[],rfl,t9,a9,b9,q9,.nil⟩,okn,by omega,jkq ps,by rw [hln]; show (1 : Int) ≤ most; omega,fun l7 ys7 qs7 HA sA hl7 el7 p7 fr7 pm7 pw7=>?_⟩
    rw [jp2 okn] at pm7
    obtain rfl : qs7 = [[]]:=List.perm_singleton.mp pm7
    walk_at "RD"
    intro n1 hn1
    have sn1:=ja3 hn1 (.lst [])
    have en1 : upd HA n1 (.lst []) n1 = some (.lst []):=ja1
    generalize upd HA n1 (.lst []) = HP at sn1 en1
    intro n2 hn2
    have sn2:=ja3 hn2 (.lst [.ref n1])
    have en2 : upd HP n2 (.lst [.ref n1]) n2 = some (.lst [.ref n1]):=ja1
    have en12:=sn2 _ _ en1
    generalize upd HP n2 (.lst [.ref n1]) = HM' at sn2 en2 en12
    have sAM:=sn1.trans sn2
    refine ⟨.ref l7,.ref n2,lssD [[]],rfl,jey (sAM _ _ el7) (Paired.mapP p7 fun u s' ⟨b,e,q⟩=>⟨b,e,sAM _ _ q⟩),jey en2 (.cons ⟨n1,rfl,en12⟩ .nil),by decide,by decide,fun HQ sQ=>?_⟩
    walk_at "RD"
    exact ⟨_,_,_,_,_,_,_,_,rfl,hs9.tups ((sA.trans sAM).trans sQ).tups⟩
 ·rintro σ H1 ⟨v1,v2,v3,v4,v5,v6,v7,v8,rfl,hs1⟩
  walk_at "RD"
  exact h H1
end
end My
set_option autoImplicit true
namespace My
open PySem L2
noncomputable abbrev aT (K : PySem.W.Frag) (x : Str) (f : Addr) : Prop:=PySem.W.nsIn K mainGlobals x = some (some (.ref f))
noncomputable abbrev lT (K : PySem.W.Frag) (x q : Str) (st : Stmt) (f : Addr) (oc : Value) (od an : Option Addr) (sl : Array (Option Value)) (kV dc pm cd ct : Value) : Prop:=K.lookup f = some ⟨oc,od,.func (PySem.W.fnOf x q (jct st) (jc1 st) (ja7 st) .none kV dc pm an cd ct),sl⟩
noncomputable abbrev cT (K : PySem.W.Frag) (cd : Value) (x : Str) : Prop:=PySem.W.codeIn K cd x = true
noncomputable abbrev kT (K : PySem.W.Frag) (f : Addr) : Prop:=PySem.W.keepIn K (.ref f) = true
noncomputable abbrev zT (K : PySem.W.Frag) (x : Str) : Prop:=PySem.W.nsIn K mainGlobals x = some none
theorem dmk {K : PySem.W.Frag} {h : Heap} {mg : Str→Option Value} (X : K.In h) (G : h.Ns mainGlobals mg) {x : Str} {st : Stmt} {f : Addr} {oc : Value} {od an : Option Addr} {sl : Array (Option Value)} {kV dc pm cd ct : Value} (a : aT K x f) (l : lT K x x st f oc od an sl kV dc pm cd ct) (c : cT K cd x) (k : kT K f) (ps : List Str)
  (b : jff K (PySem.W.fnOf x x (jct st) (jc1 st) (ja7 st) .none kV dc pm an cd ct) ps []) : DefAt K mg x st ps f (PySem.W.fnOf x x (jct st) (jc1 st) (ja7 st) .none kV dc pm an cd ct):=⟨jam l c k,b,PySem.W.mg_of X G a⟩
theorem jrk (d : Dt) : 1 ≤ dep d:=by cases d <;> simp [dep]
theorem jpj {P : Program} {w : World} {K : PySem.W.Frag} {mg : Str→Option Value} {base : Heap} {f : Addr} {fd : FuncData} (B : Blt mg) (D : DefAt K mg "_law_same" (top 56) ["_law_found","_law_due"] f fd) :
  ∀ n : Nat,FnOk P w K mg base CX0 n f fd ["_law_found","_law_due"] (jgr n)
 | 0=>by
  have no : ∀ vs H Q E,¬ jgr 0 vs H Q E:=fun vs H Q E h=>by
   obtain ⟨v1,v2,d,_,_,_,hd,_⟩:=h
   have:=jrk d
   omega
  exact ⟨fun vs H Q E h=>absurd h (no vs H Q E),fun A outer s H args us vs Q E _ _ _ _ h=>absurd h (no vs H Q E)⟩
 | n + 1=>ji4 B D D (jpj B D n)
theorem all_mk {l : PySem.W.OpenLaw} {w : World} {K : PySem.W.Frag} {h : Heap} {mg : Str→Option Value} {fa : Addr} (X : K.In h) (G : h.Ns mainGlobals mg) (hfa : mg "law" = some (.ref fa)) (a0 : aT K "is_whole" f0) (l0 : lT K "is_whole" "is_whole" (top 22) f0 oc0 od0 an0 sq0 kV0 dc0 pm0 cd0 ct0) (g0 : cT K cd0 "is_whole") (k0 : kT K f0) (a1 : aT K "is_tuple_of" f1) (l1 : lT K "is_tuple_of" "is_tuple_of" (top 23) f1 oc1 od1 an1 sq1 kV1 dc1 pm1 cd1 ct1) (g1 : cT K cd1 "is_tuple_of") (k1 : kT K f1) (a2 : aT K "is_pair_of_wholes" f2) (l2 : lT K "is_pair_of_wholes" "is_pair_of_wholes" (top 24) f2 oc2 od2 an2 sq2 kV2 dc2 pm2 cd2 ct2) (g2 : cT K cd2 "is_pair_of_wholes") (k2 : kT K f2) (a3 : aT K "is_list_up_to" f3) (l3 : lT K "is_list_up_to" "is_list_up_to" (top 25) f3 oc3 od3 an3 sq3 kV3 dc3 pm3 cd3 ct3) (g3 : cT K cd3 "is_list_up_to") (k3 : kT K f3) (a4 : aT K "place_stands" f4) (l4 : lT K "place_stands" "place_stands" (top 31) f4 oc4 od4 an4 sq4 kV4 dc4 pm4 cd4 ct4) (g4 : cT K cd4 "place_stands") (k4 : kT K f4) (a5 : aT K "tie_stands" f5) (l5 : lT K "tie_stands" "tie_stands" (top 32) f5 oc5 od5 an5 sq5 kV5 dc5 pm5 cd5 ct5) (g5 : cT K cd5 "tie_stands") (k5 : kT K f5) (a6 : aT K "look_at_places" f6) (l6 : lT K "look_at_places" "look_at_places" (top 33) f6 oc6 od6 an6 sq6 kV6 dc6 pm6 cd6 ct6) (g6 : cT K cd6 "look_at_places") (k6 : kT K f6) (a7 : aT K "look_at_ties" f7) (l7 : lT K "look_at_ties" "look_at_ties" (top 34) f7 oc7 od7 an7 sq7 kV7 dc7 pm7 cd7 ct7) (g7 : cT K cd7 "look_at_ties") (k7 : kT K f7) (a8 : aT K "look_at_web" f8) (l8 : lT K "look_at_web" "look_at_web" (top 35) f8 oc8 od8 an8 sq8 kV8 dc8 pm8 cd8 ct8) (g8 : cT K cd8 "look_at_web") (k8 : kT K f8) (a9 : aT K "nears_in" f9) (l9 : lT K "nears_in" "nears_in" (top 36) f9 oc9 od9 an9 sq9 kV9 dc9 pm9 cd9 ct9) (g9 : cT K cd9 "nears_in") (k9 : kT K f9) (a10 : aT K "edge_known" f10) (l10 : lT K "edge_known" "edge_known" (top 39) f10 oc10 od10 an10 sq10 kV10 dc10 pm10 cd10 ct10) (g10 : cT K cd10 "edge_known") (k10 : kT K f10) (a11 : aT K "look_at_edges" f11) (l11 : lT K "look_at_edges" "look_at_edges" (top 40) f11 oc11 od11 an11 sq11 kV11 dc11 pm11 cd11 ct11) (g11 : cT K cd11 "look_at_edges") (k11 : kT K f11) (a12 : aT K "along" f12) (l12 : lT K "along" "along" (top 41) f12 oc12 od12 an12 sq12 kV12 dc12 pm12 cd12 ct12) (g12 : cT K cd12 "along") (k12 : kT K f12) (a13 : aT K "sums" f13) (l13 : lT K "sums" "sums" (top 42) f13 oc13 od13 an13 sq13 kV13 dc13 pm13 cd13 ct13) (g13 : cT K cd13 "sums") (k13 : kT K f13) (a14 : aT K "least_grown" f14) (l14 : lT K "least_grown" "least_grown" (top 43) f14 oc14 od14 an14 sq14 kV14 dc14 pm14 cd14 ct14) (g14 : cT K cd14 "least_grown") (k14 : kT K f14) (a15 : aT K "least_joined" f15) (l15 : lT K "least_joined" "least_joined" (top 44) f15 oc15 od15 an15 sq15 kV15 dc15 pm15 cd15 ct15) (g15 : cT K cd15 "least_joined") (k15 : kT K f15) (a16 : aT K "string_least" f16) (l16 : lT K "string_least" "string_least" (top 45) f16 oc16 od16 an16 sq16 kV16 dc16 pm16 cd16 ct16) (g16 : cT K cd16 "string_least") (k16 : kT K f16) (a17 : aT K "ways_grown" f17) (l17 : lT K "ways_grown" "ways_grown" (top 47) f17 oc17 od17 an17 sq17 kV17 dc17 pm17 cd17 ct17) (g17 : cT K cd17 "ways_grown") (k17 : kT K f17) (a18 : aT K "ways_joined" f18) (l18 : lT K "ways_joined" "ways_joined" (top 48) f18 oc18 od18 an18 sq18 kV18 dc18 pm18 cd18 ct18) (g18 : cT K cd18 "ways_joined") (k18 : kT K f18) (a19 : aT K "sets_by_ways" f19) (l19 : lT K "sets_by_ways" "sets_by_ways" (top 49) f19 oc19 od19 an19 sq19 kV19 dc19 pm19 cd19 ct19) (g19 : cT K cd19 "sets_by_ways") (k19 : kT K f19) (a20 : aT K "all_least" f20) (l20 : lT K "all_least" "all_least" (top 50) f20 oc20 od20 an20 sq20 kV20 dc20 pm20 cd20 ct20) (g20 : cT K cd20 "all_least") (k20 : kT K f20) (a21 : aT K "_law_begun" f21) (l21 : lT K "_law_begun" "_law_begun" (top 52) f21 oc21 od21 an21 sq21 kV21 dc21 pm21 cd21 ct21) (g21 : cT K cd21 "_law_begun") (k21 : kT K f21) (a22 : aT K "_law_take" f22) (l22 : lT K "_law_take" "_law_take" (top 53) f22 oc22 od22 an22 sq22 kV22 dc22 pm22 cd22 ct22) (g22 : cT K cd22 "_law_take") (k22 : kT K f22) (a23 : aT K "_law_places" f23) (l23 : lT K "_law_places" "_law_places" (top 54) f23 oc23 od23 an23 sq23 kV23 dc23 pm23 cd23 ct23) (g23 : cT K cd23 "_law_places") (k23 : kT K f23) (a24 : aT K "_law_web" f24) (l24 : lT K "_law_web" "_law_web" (top 55) f24 oc24 od24 an24 sq24 kV24 dc24 pm24 cd24 ct24) (g24 : cT K cd24 "_law_web") (k24 : kT K f24) (a25 : aT K "_law_same" f25) (l25 : lT K "_law_same" "_law_same" (top 56) f25 oc25 od25 an25 sq25 kV25 dc25 pm25 cd25 ct25) (g25 : cT K cd25 "_law_same") (k25 : kT K f25) (a26 : aT K "_law_copy" f26) (l26 : lT K "_law_copy" "_law_copy" (top 57) f26 oc26 od26 an26 sq26 kV26 dc26 pm26 cd26 ct26) (g26 : cT K cd26 "_law_copy") (k26 : kT K f26) (a27 : aT K "_law_sets" f27) (l27 : lT K "_law_sets" "_law_sets" (top 58) f27 oc27 od27 an27 sq27 kV27 dc27 pm27 cd27 ct27) (g27 : cT K cd27 "_law_sets") (k27 : kT K f27) (a28 : aT K "_law_touches" f28) (l28 : lT K "_law_touches" "_law_touches" (top 59) f28 oc28 od28 an28 sq28 kV28 dc28 pm28 cd28 ct28) (g28 : cT K cd28 "_law_touches") (k28 : kT K f28) (a29 : aT K "_law_cost" f29) (l29 : lT K "_law_cost" "_law_cost" (top 60) f29 oc29 od29 an29 sq29 kV29 dc29 pm29 cd29 ct29) (g29 : cT K cd29 "_law_cost") (k29 : kT K f29) (a30 : aT K "_law_cheapest" f30) (l30 : lT K "_law_cheapest" "_law_cheapest" (top 61) f30 oc30 od30 an30 sq30 kV30 dc30 pm30 cd30 ct30) (g30 : cT K cd30 "_law_cheapest") (k30 : kT K f30) (a31 : aT K "_law_edge" f31) (l31 : lT K "_law_edge" "_law_edge" (top 62) f31 oc31 od31 an31 sq31 kV31 dc31 pm31 cd31 ct31) (g31 : cT K cd31 "_law_edge") (k31 : kT K f31) (a32 : aT K "_law_too_wide" f32) (l32 : lT K "_law_too_wide" "_law_too_wide" (top 63) f32 oc32 od32 an32 sq32 kV32 dc32 pm32 cd32 ct32) (g32 : cT K cd32 "_law_too_wide") (k32 : kT K f32) (a33 : aT K "_law_others" f33) (l33 : lT K "_law_others" "_law_others" (top 64) f33 oc33 od33 an33 sq33 kV33 dc33 pm33 cd33 ct33) (g33 : cT K cd33 "_law_others") (k33 : kT K f33) (a34 : aT K "_law_refused" f34) (l34 : lT K "_law_refused" "_law_refused" (top 65) f34 oc34 od34 an34 sq34 kV34 dc34 pm34 cd34 ct34) (g34 : cT K cd34 "_law_refused") (k34 : kT K f34) (a35 : aT K "law" f35) (l35 : lT K "law" "law" (top 66) f35 oc35 od35 an35 sq35 kV35 dc35 pm35 cd35 ct35) (g35 : cT K cd35 "law") (k35 : kT K f35) (z_len : zT K "len") (z_isinstance : zT K "isinstance") (z_all : zT K "all") (z_min : zT K "min") (z_list : zT K "list") (z_dict : zT K "dict") (z_int : zT K "int") (z_bool : zT K "bool") (z_str : zT K "str") (z_tuple : zT K "tuple") (z_range : zT K "range") (z_enumerate : zT K "enumerate") (z_zip : zT K "zip") (z_max : zT K "max") (z_any : zT K "any") (z_sum : zT K "sum") (z_sorted : zT K "sorted") (n_MOST_PLACES : PySem.W.nsIn K mainGlobals "MOST_PLACES" = some (some (.int 40 c1))) (n_MOST_TIES : PySem.W.nsIn K mainGlobals "MOST_TIES" = some (some (.int 120 c2))) (n_LAST_PLACE : PySem.W.nsIn K mainGlobals "LAST_PLACE" = some (some (.int 999 c3))) (n_MOST_PRICE : PySem.W.nsIn K mainGlobals "MOST_PRICE" = some (some (.int 1000000000000 c4))) (n_MA : PySem.W.nsIn K mainGlobals "MOST_ACROSS" = some (some (.int 6 c5))) (a_TooMany : PySem.W.nsIn K mainGlobals "TooMany" = some (some (.ref C_TooMany))) (a_TouchError : PySem.W.nsIn K mainGlobals "TouchError" = some (some (.ref C_TouchError))) (a_NoWeb : PySem.W.nsIn K mainGlobals "NoWeb" = some (some (.ref C_NoWeb))) (a_NoPlace : PySem.W.nsIn K mainGlobals "NoPlace" = some (some (.ref C_NoPlace))) (a_NoRows : PySem.W.nsIn K mainGlobals "NoRows" = some (some (.ref C_NoRows))) (a_Overpaid : PySem.W.nsIn K mainGlobals "Overpaid" = some (some (.ref C_Overpaid))) (a_NoStep : PySem.W.nsIn K mainGlobals "NoStep" = some (some (.ref C_NoStep))) (a_NoTree : PySem.W.nsIn K mainGlobals "NoTree" = some (some (.ref C_NoTree))) (a_NotTwo : PySem.W.nsIn K mainGlobals "NotTwo" = some (some (.ref C_NotTwo))) (a_NotForest : PySem.W.nsIn K mainGlobals "NotForest" = some (some (.ref C_NotForest))) (a_TooWide : PySem.W.nsIn K mainGlobals "TooWide" = some (some (.ref C_TooWide))) (a_NoText : PySem.W.nsIn K mainGlobals "NoText" = some (some (.ref C_NoText))) (a_NoJoin : PySem.W.nsIn K mainGlobals "NoJoin" = some (some (.ref C_NoJoin))) (a_NoSet : PySem.W.nsIn K mainGlobals "NoSet" = some (some (.ref C_NoSet))) (a_NoCalls : PySem.W.nsIn K mainGlobals "NoCalls" = some (some (.ref C_NoCalls))) (a_NoDeed : PySem.W.nsIn K mainGlobals "NoDeed" = some (some (.ref C_NoDeed))) (a_Bare : PySem.W.nsIn K mainGlobals "Bare" = some (some (.ref C_Bare))) (a_NoSay : PySem.W.nsIn K mainGlobals "NoSay" = some (some (.ref C_NoSay))) (a_NoName : PySem.W.nsIn K mainGlobals "NoName" = some (some (.ref C_NoName))) (x_T : PySem.W.excIn K C_TooMany bmV "ValueError.__new__" = true) (kp_T : PySem.W.keepIn K (.ref C_TooMany) = true) (ga_T : PySem.W.findIn K (.ref C_TooMany) "__getattribute__" = some (some (.builtin "BaseException.__getattribute__"))) (gt_T : PySem.W.findIn K (.ref C_TooMany) "__getattr__" = some none) (sb_T : PySem.W.mroIn K C_TooMany (.type "BaseException") = some true) (hd_T : PySem.W.hasDictIn K C_TooMany = true) (ha_T : PySem.W.findIn K (.ref C_TooMany) "__class__" = some (some (.builtin "object.__class__"))) (hm_T : PySem.W.mroIn K C_TooMany (.type "object") = some true) (hn_cls : PySem.W.specialIn K (.builtin "object.__class__") "__get__" = some (some (.builtin "getset_descriptor.__get__"))) (ht_cls : PySem.W.takesIn K (.builtin "object.__class__") = some true) (kk1 : PySem.W.kitAny K (.ref C_TooMany) ([C_NoWeb,C_NoPlace,C_NoRows,C_Overpaid,C_NoStep,C_NoTree,C_NotTwo,C_NotForest,C_TooWide].map Value.ref) = some false) (kk2 : PySem.W.kitAny K (.ref C_TooMany) ([C_NoText,C_NoJoin,C_NoSet,C_NoCalls,C_NoDeed,C_Bare,C_NoSay,C_NoName].map Value.ref) = some false) (kit1 : PySem.W.kitOne K (.ref C_TooMany) (.ref C_TouchError) = some true)
  : ∃ fd : FuncData,(∀ (s : Shared) (v : Value),BindsTo s fd ⟨[v],[]⟩ [("_law_script",v)])∧∀ base : Heap,K.In base→base.Ns mainGlobals mg→FnOk l.prog w K mg base CX0 11 fa fd ["_law_script"] (jo0 K):=by
 have e:=hfa.symm.trans (PySem.W.mg_of X G a35)
 cases e
 have B : Blt mg:=⟨PySem.W.mg_none_of X G z_len,PySem.W.mg_none_of X G z_isinstance,PySem.W.mg_none_of X G z_all,PySem.W.mg_none_of X G z_min,PySem.W.mg_none_of X G z_list,PySem.W.mg_none_of X G z_dict,PySem.W.mg_none_of X G z_int,PySem.W.mg_none_of X G z_bool,PySem.W.mg_none_of X G z_str,PySem.W.mg_none_of X G z_tuple,PySem.W.mg_none_of X G z_range,PySem.W.mg_none_of X G z_enumerate,PySem.W.mg_none_of X G z_zip,PySem.W.mg_none_of X G z_max,PySem.W.mg_none_of X G z_any,PySem.W.mg_none_of X G z_sum,PySem.W.mg_none_of X G z_sorted⟩
 have C : Cst mg c1 c2 c3 c4:=⟨PySem.W.mg_of X G n_MOST_PLACES,PySem.W.mg_of X G n_MOST_TIES,PySem.W.mg_of X G n_LAST_PLACE,PySem.W.mg_of X G n_MOST_PRICE⟩
 have D_is_whole:=dmk X G a0 l0 g0 k0 ["thing"] ((jam l0 g0 k0).binds fun _ _ _ _ _ _ us hl=>match us,hl with | [_],_=>rfl)
 have D_is_tuple_of:=dmk X G a1 l1 g1 k1 ["thing","many"] ((jam l1 g1 k1).binds fun _ _ _ _ _ _ us hl=>match us,hl with | [_,_],_=>rfl)
 have D_is_pair_of_wholes:=dmk X G a2 l2 g2 k2 ["thing"] ((jam l2 g2 k2).binds fun _ _ _ _ _ _ us hl=>match us,hl with | [_],_=>rfl)
 have D_is_list_up_to:=dmk X G a3 l3 g3 k3 ["thing","most"] ((jam l3 g3 k3).binds fun _ _ _ _ _ _ us hl=>match us,hl with | [_,_],_=>rfl)
 have D_place_stands:=dmk X G a4 l4 g4 k4 ["thing","last","spent"] ((jam l4 g4 k4).binds fun _ _ _ _ _ _ us hl=>match us,hl with | [_,_,_],_=>rfl)
 have D_tie_stands:=dmk X G a5 l5 g5 k5 ["thing","last","prices"] ((jam l5 g5 k5).binds fun _ _ _ _ _ _ us hl=>match us,hl with | [_,_,_],_=>rfl)
 have D_look_at_places:=dmk X G a6 l6 g6 k6 ["places"] ((jam l6 g6 k6).binds fun _ _ _ _ _ _ us hl=>match us,hl with | [_],_=>rfl)
 have D_look_at_ties:=dmk X G a7 l7 g7 k7 ["ties","prices"] ((jam l7 g7 k7).binds fun _ _ _ _ _ _ us hl=>match us,hl with | [_,_],_=>rfl)
 have D_look_at_web:=dmk X G a8 l8 g8 k8 ["thing"] ((jam l8 g8 k8).binds fun _ _ _ _ _ _ us hl=>match us,hl with | [_],_=>rfl)
 have D_nears_in:=dmk X G a9 l9 g9 k9 ["web"] ((jam l9 g9 k9).binds fun _ _ _ _ _ _ us hl=>match us,hl with | [_],_=>rfl)
 have D_edge_known:=dmk X G a10 l10 g10 k10 ["nears","place"] ((jam l10 g10 k10).binds fun _ _ _ _ _ _ us hl=>match us,hl with | [_,_],_=>rfl)
 have D_look_at_edges:=dmk X G a11 l11 g11 k11 ["web"] ((jam l11 g11 k11).binds fun _ _ _ _ _ _ us hl=>match us,hl with | [_],_=>rfl)
 have D_along:=dmk X G a12 l12 g12 k12 ["web","start","grown","joined"] ((jam l12 g12 k12).binds fun _ _ _ _ _ _ us hl=>match us,hl with | [_,_,_,_],_=>rfl)
 have D_sums:=dmk X G a13 l13 g13 k13 ["one","other"] ((jam l13 g13 k13).binds fun _ _ _ _ _ _ us hl=>match us,hl with | [_,_],_=>rfl)
 have D_least_grown:=dmk X G a14 l14 g14 k14 ["value","place","price","is_in"] ((jam l14 g14 k14).binds fun _ _ _ _ _ _ us hl=>match us,hl with | [_,_,_,_],_=>rfl)
 have D_least_joined:=dmk X G a15 l15 g15 k15 ["one","other"] ((jam l15 g15 k15).binds fun _ _ _ _ _ _ us hl=>match us,hl with | [_,_],_=>rfl)
 have D_string_least:=dmk X G a16 l16 g16 k16 ["web"] ((jam l16 g16 k16).binds fun _ _ _ _ _ _ us hl=>match us,hl with | [_],_=>rfl)
 have D_ways_grown:=dmk X G a17 l17 g17 k17 ["value","place","price","is_in"] ((jam l17 g17 k17).binds fun _ _ _ _ _ _ us hl=>match us,hl with | [_,_,_,_],_=>rfl)
 have D_ways_joined:=dmk X G a18 l18 g18 k18 ["one","other"] ((jam l18 g18 k18).binds fun _ _ _ _ _ _ us hl=>match us,hl with | [_,_],_=>rfl)
 have D_sets_by_ways:=dmk X G a19 l19 g19 k19 ["last","many"] ((jam l19 g19 k19).binds fun _ _ _ _ _ _ us hl=>match us,hl with | [_,_],_=>rfl)
 have D_all_least:=dmk X G a20 l20 g20 k20 ["web","most"] ((jam l20 g20 k20).binds fun _ _ _ _ _ _ us hl=>match us,hl with | [_,_],_=>rfl)
 have D_law_begun:=dmk X G a21 l21 g21 k21 ["_law_script","_law_k"] ((jam l21 g21 k21).binds fun _ _ _ _ _ _ us hl=>match us,hl with | [_,_],_=>rfl)
 have D_law_take:=dmk X G a22 l22 g22 k22 ["_law_state","_law_many"] ((jam l22 g22 k22).binds fun _ _ _ _ _ _ us hl=>match us,hl with | [_,_],_=>rfl)
 have D_law_places:=dmk X G a23 l23 g23 k23 ["_law_state","_law_count"] ((jam l23 g23 k23).binds fun _ _ _ _ _ _ us hl=>match us,hl with | [_,_],_=>rfl)
 have D_law_web:=dmk X G a24 l24 g24 k24 ["_law_state","_law_most"] ((jam l24 g24 k24).binds fun _ _ _ _ _ _ us hl=>match us,hl with | [_,_],_=>rfl)
 have D_law_same:=dmk X G a25 l25 g25 k25 ["_law_found","_law_due"] ((jam l25 g25 k25).binds fun _ _ _ _ _ _ us hl=>match us,hl with | [_,_],_=>rfl)
 have D_law_copy:=dmk X G a26 l26 g26 k26 ["_law_web_here"] ((jam l26 g26 k26).binds fun _ _ _ _ _ _ us hl=>match us,hl with | [_],_=>rfl)
 have D_law_sets:=dmk X G a27 l27 g27 k27 ["_law_web_here"] ((jam l27 g27 k27).binds fun _ _ _ _ _ _ us hl=>match us,hl with | [_],_=>rfl)
 have D_law_touches:=dmk X G a28 l28 g28 k28 ["_law_web_here","_law_some"] ((jam l28 g28 k28).binds fun _ _ _ _ _ _ us hl=>match us,hl with | [_,_],_=>rfl)
 have D_law_cost:=dmk X G a29 l29 g29 k29 ["_law_web_here","_law_some"] ((jam l29 g29 k29).binds fun _ _ _ _ _ _ us hl=>match us,hl with | [_,_],_=>rfl)
 have D_law_cheapest:=dmk X G a30 l30 g30 k30 ["_law_web_here"] ((jam l30 g30 k30).binds fun _ _ _ _ _ _ us hl=>match us,hl with | [_],_=>rfl)
 have D_law_edge:=dmk X G a31 l31 g31 k31 ["_law_web_here","_law_place"] ((jam l31 g31 k31).binds fun _ _ _ _ _ _ us hl=>match us,hl with | [_,_],_=>rfl)
 have D_law_too_wide:=dmk X G a32 l32 g32 k32 ["_law_web_here"] ((jam l32 g32 k32).binds fun _ _ _ _ _ _ us hl=>match us,hl with | [_],_=>rfl)
 have D_law_others:=dmk X G a33 l33 g33 k33 ["_law_e"] ((jam l33 g33 k33).binds fun _ _ _ _ _ _ us hl=>match us,hl with | [_],_=>rfl)
 have D_law_refused:=dmk X G a34 l34 g34 k34 ["_law_web_here","_law_most"] ((jam l34 g34 k34).binds fun _ _ _ _ _ _ us hl=>match us,hl with | [_,_],_=>rfl)
 have D_law:=dmk X G a35 l35 g35 k35 ["_law_script"] ((jam l35 g35 k35).binds fun _ _ _ _ _ _ us hl=>match us,hl with | [_],_=>rfl)
 refine ⟨PySem.W.fnOf "law" "law" (jct (top 66)) (jc1 (top 66)) (ja7 (top 66)) .none kV35 dc35 pm35 an35 cd35 ct35,fun s v=>.of_eq rfl,fun base _ _=>?_⟩
 have XP_TooMany : ClsP K mg "TooMany" C_TooMany:=⟨PySem.W.mg_of X G a_TooMany,kp_T,x_T,⟨⟨ga_T,gt_T,sb_T⟩,hd_T,ha_T,hn_cls,ht_cls,hm_T⟩⟩
 have G_is_whole:=ji7 (P:=l.prog) (w:=w) (base:=base) B D_is_whole
 have G_is_tuple_of:=jfm (P:=l.prog) (w:=w) (base:=base) B D_is_tuple_of
 have G_is_list_up_to:=je4 (P:=l.prog) (w:=w) (base:=base) B D_is_list_up_to
 have G_is_pair_of_wholes:=jd2 (P:=l.prog) (w:=w) (base:=base) B D_is_pair_of_wholes D_is_tuple_of G_is_tuple_of D_is_whole G_is_whole
 have G_place_stands:=jer (P:=l.prog) (w:=w) (base:=base) B C D_place_stands D_is_pair_of_wholes G_is_pair_of_wholes
 have G_tie_stands:=jg3 (P:=l.prog) (w:=w) (base:=base) B D_tie_stands D_is_pair_of_wholes G_is_pair_of_wholes
 have G_look_at_places:=jdx (P:=l.prog) (w:=w) (base:=base) B C D_look_at_places D_is_list_up_to G_is_list_up_to D_place_stands G_place_stands
 have G_look_at_ties:=jes (P:=l.prog) (w:=w) (base:=base) B C D_look_at_ties D_is_list_up_to G_is_list_up_to D_tie_stands G_tie_stands
 have G_look_at_web:=jfi (P:=l.prog) (w:=w) (base:=base) B D_look_at_web D_is_tuple_of G_is_tuple_of D_look_at_places G_look_at_places D_look_at_ties G_look_at_ties
 have G_nears_in:=ji1 (P:=l.prog) (w:=w) (base:=base) B D_nears_in
 have G_edge_known:=jg6 (P:=l.prog) (w:=w) (base:=base) B D_edge_known
 have G_look_at_edges:=je3 (P:=l.prog) (w:=w) (base:=base) B D_look_at_edges D_look_at_web G_look_at_web D_nears_in G_nears_in D_edge_known G_edge_known (PySem.W.mg_of X G n_MA)
 have G_sums:=jqw (P:=l.prog) (w:=w) (base:=base) B D_sums
 have G_lg:=fun H0 : Hp=>jfj (P:=l.prog) (w:=w) (base:=base) (H0:=H0) B D_least_grown
 have G_lj:=fun H0 : Hp=>jet (P:=l.prog) (w:=w) (base:=base) (H0:=H0) B D_least_joined D_sums G_sums
 have G_along0:=fun H0 : Hp=>jji (P:=l.prog) (w:=w) (base:=base) B D_along D_nears_in G_nears_in D_edge_known G_edge_known (VA:=VL H0) (fs:=[(_,spGr (VL H0)),(_,spJn (VL H0))]) fun f sp hm=>by
  rcases List.mem_cons.mp hm with e | hm
  ·cases e
   exact ⟨_,_,G_lg H0,D_least_grown.F.kp,D_least_grown.b⟩
  ·cases List.mem_singleton.mp hm
   exact ⟨_,_,G_lj H0,D_least_joined.F.kp,D_least_joined.b⟩
 have G_string_least:=jep (P:=l.prog) (w:=w) (base:=base) B D_string_least D_look_at_edges G_look_at_edges D_along G_along0 D_least_grown D_least_joined
 have G_law_begun:=jgy (P:=l.prog) (w:=w) (base:=base) B D_law_begun
 have G_law_take:=ji2 (P:=l.prog) (w:=w) (base:=base) B D_law_take
 have G_law_places:=jg4 (P:=l.prog) (w:=w) (base:=base) B D_law_places D_law_take G_law_take
 have G_law_web:=jk9 (P:=l.prog) (w:=w) (base:=base) B D_law_web D_law_take G_law_take D_law_places G_law_places
 have G_law_same:=jpj (P:=l.prog) (w:=w) (base:=base) B D_law_same 6
 have G_law_copy:=jgx (P:=l.prog) (w:=w) (base:=base) B D_law_copy
 have G_law_sets:=ji3 (P:=l.prog) (w:=w) (base:=base) B D_law_sets
 have G_law_touches:=jfk (P:=l.prog) (w:=w) (base:=base) B D_law_touches
 have G_law_edge:=ji5 (P:=l.prog) (w:=w) (base:=base) B D_law_edge
 have G_law_too_wide:=jeu (P:=l.prog) (w:=w) (base:=base) B D_law_too_wide D_law_edge G_law_edge
 have G_law_cost:=ji6 (P:=l.prog) (w:=w) (base:=base) B D_law_cost
 have G_law_cheapest:=jev (P:=l.prog) (w:=w) (base:=base) B D_law_cheapest D_law_sets G_law_sets D_law_cost G_law_cost D_law_touches G_law_touches
 have G_sets_by_ways:=jeq (P:=l.prog) (w:=w) (base:=base) B D_sets_by_ways
 have G_wg:=jg2 (P:=l.prog) (w:=w) (base:=base) B D_ways_grown
 have G_wj:=jfh (P:=l.prog) (w:=w) (base:=base) B D_ways_joined
 have G_along1:=jji (P:=l.prog) (w:=w) (base:=base) B D_along D_nears_in G_nears_in D_edge_known G_edge_known (VA:=VW) (fs:=[(_,spGr VW),(_,spJn VW)]) fun f sp hm=>by
  rcases List.mem_cons.mp hm with e | hm
  ·cases e
   exact ⟨_,_,G_wg,D_ways_grown.F.kp,D_ways_grown.b⟩
  ·cases List.mem_singleton.mp hm
   exact ⟨_,_,G_wj,D_ways_joined.F.kp,D_ways_joined.b⟩
 have G_all:=jgz (P:=l.prog) (w:=w) (base:=base) B D_all_least D_string_least G_string_least D_along G_along1 D_ways_grown D_ways_joined D_sets_by_ways G_sets_by_ways XP_TooMany
 have G_all_least:=good jp3 G_all
 have G_law_others:=jg5 (P:=l.prog) (w:=w) (base:=base) B D_law_others XP_TooMany (PySem.W.mg_of X G a_NoWeb) (PySem.W.mg_of X G a_NoPlace) (PySem.W.mg_of X G a_NoRows) (PySem.W.mg_of X G a_Overpaid) (PySem.W.mg_of X G a_NoStep) (PySem.W.mg_of X G a_NoTree) (PySem.W.mg_of X G a_NotTwo) (PySem.W.mg_of X G a_NotForest) (PySem.W.mg_of X G a_TooWide) (PySem.W.mg_of X G a_NoText) (PySem.W.mg_of X G a_NoJoin) (PySem.W.mg_of X G a_NoSet) (PySem.W.mg_of X G a_NoCalls) (PySem.W.mg_of X G a_NoDeed) (PySem.W.mg_of X G a_Bare) (PySem.W.mg_of X G a_NoSay) (PySem.W.mg_of X G a_NoName) kk1 kk2
 have G_law_refused:=jfl (P:=l.prog) (w:=w) (base:=base) B D_law_refused D_all_least G_all D_law_others G_law_others XP_TooMany (PySem.W.mg_of X G a_TouchError) kit1
 exact ok_law B D_law D_law_begun G_law_begun D_law_web G_law_web D_law_too_wide G_law_too_wide D_law_cheapest G_law_cheapest D_law_take G_law_take D_law_copy G_law_copy D_law_refused G_law_refused D_all_least G_all_least D_law_same G_law_same
theorem walk {l : PySem.W.OpenLaw} {q : Program} {loose : List Str} {XP : (Str→Option Value)→Heap→Prop} {YP : World→Heap→Prop} {d : DefRec} {K : Params→PySem.W.Frag} (hn : l.most = some 63) (hdf : d.params.defaults = [])
  (hY : ∀ (w : World) (h : Heap),YP w h→(K w.params).In h)
  (F : ∀ (w : World) (mg : Str→Option Value) (fa : Addr) (h : Heap),(K w.params).In h→h.Ns mainGlobals mg→mg d.name = some (.ref fa) →
   ∃ fd : FuncData,(∀ (s : Shared) (u : Value),BindsTo s fd ⟨[u],[]⟩ [("_law_script",u)])∧∀ base : Heap,(K w.params).In base→base.Ns mainGlobals mg→FnOk l.prog w (K w.params) mg base CX0 11 fa fd ["_law_script"] (jo0 (K w.params))) :
  PySem.W.WalkO q loose XP YP l.row.toRowW d [] (fun f vs=>PySem.call f vs) :=
 L2.jks (n:=63) (k:=11) (x:="_law_script") (CX:=fun _=>CX0) (sp:=fun w=>jo0 (K w.params)) hn (by decide) hdf ⟨rfl,by decide,by decide⟩ hY F (fun _ _ a ns hl hO hS=>⟨a,ns,rfl,Scr.of hS hO,fun _=>rfl⟩) fun _ _ _ _ _ z=>z
end My
open PySem PySem.W PyProof.Rows
set_option maxRecDepth 100000 in
set_option maxHeartbeats 0 in
theorem PySem.Challenge.cw_touchall_k68_all_cheapest_listed_holds : PySem.Challenge.rw_touchall_k68_all_cheapest_listed.Holds := by
 refine MyHead ?_
 k_fill
 refine My.walk (l:=PySem.Challenge.rw_touchall_k68_all_cheapest_listed) rfl rfl (fun w h Y=>PySem.W.kIn_of Y) ?F
 case F =>
  intro w mg fa h KX G hmg
  refine' My.all_mk KX G hmg ?_ ?_ ?_ ?_ ?_ ?_ ?_ ?_ ?_ ?_ ?_ ?_ ?_ ?_ ?_ ?_ ?_ ?_ ?_ ?_ ?_ ?_ ?_ ?_ ?_ ?_ ?_ ?_ ?_ ?_ ?_ ?_ ?_ ?_ ?_ ?_ ?_ ?_ ?_ ?_ ?_ ?_ ?_ ?_ ?_ ?_ ?_ ?_ ?_ ?_ ?_ ?_ ?_ ?_ ?_ ?_ ?_ ?_ ?_ ?_ ?_ ?_ ?_ ?_ ?_ ?_ ?_ ?_ ?_ ?_ ?_ ?_ ?_ ?_ ?_ ?_ ?_ ?_ ?_ ?_ ?_ ?_ ?_ ?_ ?_ ?_ ?_ ?_ ?_ ?_ ?_ ?_ ?_ ?_ ?_ ?_ ?_ ?_ ?_ ?_ ?_ ?_ ?_ ?_ ?_ ?_ ?_ ?_ ?_ ?_ ?_ ?_ ?_ ?_ ?_ ?_ ?_ ?_ ?_ ?_ ?_ ?_ ?_ ?_ ?_ ?_ ?_ ?_ ?_ ?_ ?_ ?_ ?_ ?_ ?_ ?_ ?_ ?_ ?_ ?_ ?_ ?_ ?_ ?_ ?_ ?_ ?_ ?_ ?_ ?_ ?_ ?_ ?_ ?_ ?_ ?_ ?_ ?_ ?_ ?_ ?_ ?_ ?_ ?_ ?_ ?_ ?_ ?_ ?_ ?_ ?_ ?_ ?_ ?_ ?_ ?_ ?_ ?_ ?_ ?_ ?_ ?_ ?_ ?_ ?_ ?_ ?_ ?_ ?_ ?_ ?_ ?_ ?_ ?_ ?_ ?_ ?_ ?_
  any_goals first | k_is | (delta My.aT; k_is) | (delta My.lT; k_is) | (delta My.cT; k_is) | (delta My.kT; k_is) | (delta My.zT; k_is) | kernel_rfl | rfl
#print axioms PySem.Challenge.cw_touchall_k68_all_cheapest_listed_holds
