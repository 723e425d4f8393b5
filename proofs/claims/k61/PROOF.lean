import PyProof.Rows.All
import Wide.All
import OpenK.AllK
import Wide.FinOn
import Lean
import PyProof.EqAt
import PyProof.EqKinds
import PyProof.TupleCall
import PyProof.NeKinds
import PyProof.NeData
import PySem.Challenge.RW_touchall_k61_whole_two_sets_hold_all
import PyProof.Rows.SortRuns
import PyProof.Rows.SortShell
import KE.KSortTup
import PyProof.Rows.SumAny
import PyProof.DictWalks
import PyProof.DictUpdate
import KE.KDictList
import PyProof.AutoSeq1
import PyProof.StationsW
import PyProof.ExcInit
import PyProof.InstStoreFacts
import PyProof.NsDelKeeps
import PyProof.RulesAs
import PyProof.ExcAttrAll.ValueError
import KE.KIsAll
import PyProof.Rows.SetFrom
import PyProof.SetRoads
section
open PySem PySem.W PyProof.Rows
set_option Elab.async false
set_option maxRecDepth 100000
set_option maxHeartbeats 0
namespace PySem.W.Fast
theorem tw4895031271857355397:True:=⟨⟩
theorem tw14781562103584300300:True:=⟨⟩
theorem tw15115611200341931661:True:=⟨⟩
theorem tw4936925503692193262:True:=⟨⟩
theorem tw9877442084512062927:True:=⟨⟩
theorem tw4067391819731452527:True:=⟨⟩
theorem tw16599119404929089777:True:=⟨⟩
theorem tw280475905095942100:True:=⟨⟩
theorem tw2270886965200987092:True:=⟨⟩
theorem tw17883986908372840214:True:=⟨⟩
theorem tw9627907853633374296:True:=⟨⟩
theorem tw14682848563316377055:True:=⟨⟩
theorem tw13337063244937540970:True:=⟨⟩
theorem tw4614079493074435273:True:=⟨⟩
theorem tw12508225044383264191:True:=⟨⟩
theorem tw5729776457698541901:True:=⟨⟩
theorem tw7625523903720950802:True:=⟨⟩
theorem tw13527872405176336012:True:=⟨⟩
theorem tw5103485604028916769:True:=⟨⟩
theorem tw16621345285488354935:True:=⟨⟩
theorem tw13189186031560189405:True:=⟨⟩
theorem tw13557064101490781197:True:=⟨⟩
theorem tw14508702681240927338:True:=⟨⟩
theorem tw17594760211624526283:True:=⟨⟩
theorem tw17658068361143100475:True:=⟨⟩
theorem tw2882356951737927585:True:=⟨⟩
theorem tw17507916543043632276:True:=⟨⟩
theorem tw17216570649916412029:True:=⟨⟩
theorem tw14172657290863477674:True:=⟨⟩
theorem tw4014273260406839204:True:=⟨⟩
theorem tw9947724475003619674:True:=⟨⟩
theorem tw17135590481203170121:True:=⟨⟩
theorem tw12549199338888590937:True:=⟨⟩
theorem tw7482920708577278718:True:=⟨⟩
theorem tw6670132038723899214:True:=⟨⟩
theorem tw600212407440205806:True:=⟨⟩
theorem tw2766017732037652418:True:=⟨⟩
theorem tw12145190026016965121:True:=⟨⟩
theorem tw8297966634746096414:True:=⟨⟩
theorem tw14566061343962206368:True:=⟨⟩
theorem tw7007092725283629287:True:=⟨⟩
theorem tw4475783039337762679:True:=⟨⟩
theorem tw530684274474814442:True:=⟨⟩
theorem tw5875658566950336651:True:=⟨⟩
theorem tw3202980715671287772:True:=⟨⟩
theorem tw6049868058112198784:True:=⟨⟩
theorem tw12964706684179383832:True:=⟨⟩
theorem tw15168232015531237972:True:=⟨⟩
theorem tw14229602632353992099:True:=⟨⟩
theorem tw15227233571305852144:True:=⟨⟩
theorem tw11669262180485523366:True:=⟨⟩
theorem tw3804045619721632138:True:=⟨⟩
theorem tw11207535551202950041:True:=⟨⟩
theorem tw9197129900319299892:True:=⟨⟩
theorem tw13227656411800433115:True:=⟨⟩
theorem tw14046072485561619853:True:=⟨⟩
theorem tw4279476487421269338:True:=⟨⟩
theorem tw3450192468778676572:True:=⟨⟩
theorem tw5300736341620111946:True:=⟨⟩
theorem tw6730875953044847916:True:=⟨⟩
theorem tw14079483211463739728:True:=⟨⟩
theorem tw14248016213943530440:True:=⟨⟩
theorem tw17164885772072472456:True:=⟨⟩
theorem tw12855419698269193786:True:=⟨⟩
theorem tw15690650966298527693:True:=⟨⟩
theorem tw16556699998316864137:True:=⟨⟩
theorem tw2363903611795592705:True:=⟨⟩
theorem tw4762995603375477503:True:=⟨⟩
theorem tw9466367427336684335:True:=⟨⟩
theorem tw11647574858823915943:True:=⟨⟩
theorem tw8112447074107057508:True:=⟨⟩
theorem tw5954876327221452193:True:=⟨⟩
theorem tw7853399458379906777:True:=⟨⟩
theorem tw13149991164589372472:True:=⟨⟩
theorem tw850951039455432525:True:=⟨⟩
theorem tw13651674943635200488:True:=⟨⟩
theorem tw2932883342372343814:True:=⟨⟩
theorem tw9016929935483840578:True:=⟨⟩
theorem tw14982153563136074336:True:=⟨⟩
theorem tw1104488647094209902:True:=⟨⟩
theorem tw9857830821546525648:True:=⟨⟩
theorem tw18053077524576164845:True:=⟨⟩
theorem tw6639290469552472542:True:=⟨⟩
theorem tw17748391171391791682:True:=⟨⟩
theorem tw7129484964119345133:True:=⟨⟩
theorem tw15500006721023040547:True:=⟨⟩
theorem tw18384717997926329468:True:=⟨⟩
theorem tw14978731467003240592:True:=⟨⟩
theorem tw3902602399963370953:True:=⟨⟩
theorem tw13777678184960627923:True:=⟨⟩
theorem tw15583159890976612112:True:=⟨⟩
theorem tw17899455434026235383:True:=⟨⟩
theorem tw14640572693217546273:True:=⟨⟩
theorem tw13151865297690540629:True:=⟨⟩
theorem tw9748736633980905991:True:=⟨⟩
theorem tw3768600909522892029:True:=⟨⟩
theorem tw12933365590964484303:True:=⟨⟩
theorem tw3436040953348231904:True:=⟨⟩
theorem tw2299995472670780312:True:=⟨⟩
theorem tw12992367483169920845:True:=⟨⟩
theorem tw3173564464523249195:True:=⟨⟩
theorem tw16731634629222179199:True:=⟨⟩
theorem tw7776265952824830946:True:=⟨⟩
theorem tw10606784113705308633:True:=⟨⟩
theorem tw17953295521274581375:True:=⟨⟩
theorem tw1946033789281374818:True:=⟨⟩
theorem tw1104458783644820503:True:=⟨⟩
theorem tw5741868628440793479:True:=⟨⟩
theorem tw1092231837839737871:True:=⟨⟩
theorem tw9643090989392201812:True:=⟨⟩
theorem tw12653114381597422123:True:=⟨⟩
theorem tw17001195906241442773:True:=⟨⟩
theorem tw760989484626043395:True:=⟨⟩
theorem tw5099301408519554050:True:=⟨⟩
theorem tw9000492280638625789:True:=⟨⟩
theorem tw6513457511325554244:True:=⟨⟩
theorem tw4069687752174603861:True:=⟨⟩
theorem tw1748003047606840153:True:=⟨⟩
theorem tw4040663737483218468:True:=⟨⟩
theorem tw7232841066116858783:True:=⟨⟩
theorem tw577511202878901248:True:=⟨⟩
theorem tw2374692894874826008:True:=⟨⟩
theorem tw11867328985658093342:True:=⟨⟩
theorem tw12306747795182409104:True:=⟨⟩
theorem tw17784476363750532300:True:=⟨⟩
theorem tw12838189731587688999:True:=⟨⟩
theorem tw12084875070278405943:True:=⟨⟩
theorem tw17982551050898188252:True:=⟨⟩
theorem tw14483856630567087015:True:=⟨⟩
theorem tw3778727204222080899:True:=⟨⟩
theorem tw6014219777646665041:True:=⟨⟩
theorem tw11435906062788071858:True:=⟨⟩
theorem tw9578137325174995177:True:=⟨⟩
theorem tw18368650237389215793:True:=⟨⟩
theorem tw4766716671846750097:True:=⟨⟩
theorem tw787864133665795934:True:=⟨⟩
theorem tw8706593751649875096:True:=⟨⟩
theorem tw13990930123094078712:True:=⟨⟩
theorem tw11674071771355242830:True:=⟨⟩
theorem tw2812415958408709537:True:=⟨⟩
theorem tw2602146445750235360:True:=⟨⟩
theorem tw7552589387619456655:True:=⟨⟩
theorem tw3386007157573418628:True:=⟨⟩
theorem tw7264120421309663093:True:=⟨⟩
theorem tw14756317111538670632:True:=⟨⟩
theorem tw360715681367275602:True:=⟨⟩
theorem tw7492884703717757881:True:=⟨⟩
theorem tw12010976375034376571:True:=⟨⟩
theorem tw11247763399507659385:True:=⟨⟩
theorem tw16435145116260540403:True:=⟨⟩
theorem tw11033941645859556090:True:=⟨⟩
theorem tw8802154206927592950:True:=⟨⟩
theorem tw885371844316833120:True:=⟨⟩
theorem tw163361006696384501:True:=⟨⟩
theorem tw5202776660221476824:True:=⟨⟩
theorem tw7514863291714595196:True:=⟨⟩
theorem tw1204304298147611602:True:=⟨⟩
theorem tw15240104693518809320:True:=⟨⟩
theorem tw15514634696500728796:True:=⟨⟩
theorem tw4463166748007049108:True:=⟨⟩
theorem tw6080368645660506305:True:=⟨⟩
theorem tw17341298701788093120:True:=⟨⟩
theorem tw12274256780947587003:True:=⟨⟩
theorem tw15118457964073289629:True:=⟨⟩
theorem tw13810174693335883931:True:=⟨⟩
theorem tw15871576022070521126:True:=⟨⟩
theorem tw14826031857019004941:True:=⟨⟩
theorem tw1412105097100734851:True:=⟨⟩
theorem tw12328668147688059386:True:=⟨⟩
theorem tw15377678365041130219:True:=⟨⟩
theorem tw1459643596898847606:True:=⟨⟩
theorem tw12262444746191023002:True:=⟨⟩
theorem tw598913056240112703:True:=⟨⟩
theorem tw218366189445680744:True:=⟨⟩
theorem tw18034349319857144288:True:=⟨⟩
theorem tw1349069014647357223:True:=⟨⟩
theorem tw9990162211652564711:True:=⟨⟩
theorem tw9762787882097571856:True:=⟨⟩
theorem tw9622471659420483719:True:=⟨⟩
theorem tw895549414950198869:True:=⟨⟩
theorem tw8549602738571025238:True:=⟨⟩
theorem tw7851787535860571123:True:=⟨⟩
theorem tw7698447048043514017:True:=⟨⟩
theorem tw6584695149455985699:True:=⟨⟩
theorem tw648145590827737737:True:=⟨⟩
theorem tw6099802976542961457:True:=⟨⟩
theorem tw4421343633076843811:True:=⟨⟩
theorem tw17948796234568494333:True:=⟨⟩
theorem tw17481501184410151347:True:=⟨⟩
theorem tw17457086080872000736:True:=⟨⟩
theorem tw1726813977947389158:True:=⟨⟩
theorem tw10485983645851997345:True:=⟨⟩
theorem tw11550877504187698619:True:=⟨⟩
theorem tw9482120283554068594:True:=⟨⟩
theorem tw9562907100761335393:True:=⟨⟩
theorem tw6542929942557814982:True:=⟨⟩
theorem tw6512370430324665260:True:=⟨⟩
theorem tw12308534206943208666:True:=⟨⟩
theorem tw3421753523302657214:True:=⟨⟩
theorem tw7202037326456345769:True:=⟨⟩
theorem tw12021910400016799448:True:=⟨⟩
end PySem.W.Fast
open_top MyHead for PySem.Challenge.rw_touchall_k61_whole_two_sets_hold_all
end
-- CHANGE: your row's module here, as the last of these rows
noncomputable section
set_option Elab.async false
set_option linter.all false
set_option maxRecDepth 100000
namespace L2
open PySem PySem.Spec PyProof.Rows
abbrev Key:=Sum Int Str
def jjn:Key→Value→Bool
 | .inl k,v=>Value.isInt k v
 | .inr x,v=>Value.isStrOf x v
def keyH (w:World):Key→Int
 | .inl k=>hashInt k
 | .inr x=>hashStr w x
theorem jc1:∀ {k:Key} {v:Value},jjn k v = true→(∃ i t,k = Sum.inl i∧v = Value.int i t) ∨ (∃ x t,k = Sum.inr x∧v = Value.str x t)
 | .inl i,v,h=>by
  obtain ⟨t,e⟩:=Value.isInt_shape (k:=i) (v:=v) h
  exact .inl ⟨i,t,rfl,e⟩
 | .inr x,v,h=>by
  obtain ⟨t,e⟩:=Value.isStrOf_shape (x:=x) (v:=v) h
  exact .inr ⟨x,t,rfl,e⟩
theorem joa (i:Int) (t:Tok):jjn (.inl i) (.int i t) = true:=by simp [jjn,Value.isInt]
theorem jo9 (x:Str) (t:Tok):jjn (.inr x) (.str x t) = true:=by simp [jjn,Value.isStrOf]
theorem key_ll (a b:Int):decide ((Sum.inl a:Key) = Sum.inl b) = (a == b):=by
 by_cases e:a = b
 ·subst e; simp
 ·have h:¬ (Sum.inl a:Key) = Sum.inl b:=fun q=>e (Sum.inl.inj q)
  rw [decide_eq_false h]
  exact (beq_eq_false_iff_ne.mpr e).symm
theorem key_rr (a b:Str):decide ((Sum.inr a:Key) = Sum.inr b) = decide (a = b):=by
 by_cases e:a = b
 ·subst e; simp
 ·have h:¬ (Sum.inr a:Key) = Sum.inr b:=fun q=>e (Sum.inr.inj q)
  rw [decide_eq_false h,decide_eq_false e]
theorem key_lr (a:Int) (b:Str):decide ((Sum.inl a:Key) = Sum.inr b) = false:=decide_eq_false (fun q=>nomatch q)
theorem key_rl (a:Str) (b:Int):decide ((Sum.inr a:Key) = Sum.inl b) = false:=decide_eq_false (fun q=>nomatch q)
def jbz (prog:Program) (w:World):PySem.KeyKind prog w Key where
 is:=jjn
 hash:=keyH w
 inj:=fun v a b ha hb=>by
  rcases jc1 ha with ⟨i,t,rfl,rfl⟩ | ⟨x,t,rfl,rfl⟩
  ·rcases jc1 hb with ⟨j,u,rfl,e⟩ | ⟨y,u,rfl,e⟩
   ·injection e with e1 _; rw [e1]
   ·exact nomatch e
  ·rcases jc1 hb with ⟨j,u,rfl,e⟩ | ⟨y,u,rfl,e⟩
   ·exact nomatch e
   ·injection e with e1 _; rw [e1]
 byValue:=fun k v h=>by
  rcases jc1 h with ⟨i,t,rfl,rfl⟩ | ⟨x,t,rfl,rfl⟩ <;> rfl
 pyHash:=fun hv h=>by
  rcases jc1 hv with ⟨i,t,rfl,rfl⟩ | ⟨x,t,rfl,rfl⟩
  ·exact wpAny_pyHash_int h
  ·exact wpAny_pyHash_str h
 eqBool:=fun hu hv h=>by
  rcases jc1 hu with ⟨i,t,rfl,rfl⟩ | ⟨x,t,rfl,rfl⟩
  ·rcases jc1 hv with ⟨j,u,rfl,rfl⟩ | ⟨y,u,rfl,rfl⟩
   ·rw [key_ll] at h; exact wpAny_eqBool_int h
   ·rw [key_lr] at h; exact SeqAt.EqAt.int_str i t y u _ _ _ _ h
  ·rcases jc1 hv with ⟨j,u,rfl,rfl⟩ | ⟨y,u,rfl,rfl⟩
   ·rw [key_rl] at h; exact SeqAt.EqAt.str_int x t j u _ _ _ _ h
   ·rw [key_rr] at h; exact wpAny_eqBool_str h
 «strs»:=fun k x t v h=>by
  rcases jc1 h with ⟨i,u,rfl,e⟩ | ⟨y,u,rfl,e⟩
  ·exact nomatch e
  ·injection e with e1 _
   subst e1
   cases v <;> rfl
theorem jkt (prog:Program) (w:World) (i:Int) (t:Tok):(jbz prog w).is (.inl i) (.int i t) = true:=joa i t
theorem jks (prog:Program) (w:World) (x:Str) (t:Tok):(jbz prog w).is (.inr x) (.str x t) = true:=jo9 x t
end L2
namespace L2
open PySem PySem.Spec PyProof.Rows
inductive V where
 | non | bl (b:Bool) | int (i:Int) | str (x:Str) | byt (b:Array UInt8) | flt (b:UInt64) | ref (a:Addr) | ty (n:String)
 deriving DecidableEq
def RelV:V→Value→Prop
 | .non,u=>u = Value.none
 | .bl b,u=>u = Value.bool b
 | .int i,u=>∃ t,u = Value.int i t
 | .str x,u=>∃ t,u = Value.str x t
 | .byt b,u=>∃ t,u = Value.bytes b t
 | .flt b,u=>∃ t,u = Value.float b t
 | .ref a,u=>u = Value.ref a
 | .ty n,u=>u = Value.type n
abbrev Vals:List V→List Value→Prop:=Paired RelV
theorem Vals.length {xs:List V} {us:List Value} (r:Vals xs us):xs.length = us.length:=Paired.length r
theorem Vals.get:∀ {xs:List V} {us:List Value} {i:Nat} {x:V},Vals xs us→xs[i]? = some x→∃ u,us[i]? = some u∧RelV x u
 | _,_,_,_,.nil,e=>by simp at e
 | _,_,0,_,.cons r _,e=>by simp at e; subst e; exact ⟨_,rfl,r⟩
 | _,_,i + 1,x,.cons _ t,e=>by
  obtain ⟨u,h1,h2⟩:=Vals.get (i:=i) (x:=x) t (by simpa using e)
  exact ⟨u,by simpa using h1,h2⟩
theorem Vals.set {x:V} {u:Value} (r:RelV x u):∀ {xs:List V} {us:List Value} (i:Nat),Vals xs us→Vals (xs.set i x) (us.set i u)
 | _,_,_,.nil=>.nil
 | _,_,0,.cons _ t=>.cons r t
 | _,_,i + 1,.cons q t=>.cons q (Vals.set r i t)
theorem Vals.append:∀ {xs ys:List V} {us ws:List Value},Vals xs us→Vals ys ws→Vals (xs ++ ys) (us ++ ws)
 | _,_,_,_,.nil,s=>s
 | _,_,_,_,.cons r t,s=>.cons r (Vals.append t s)
theorem Vals.take:∀ {xs:List V} {us:List Value} (n:Nat),Vals xs us→Vals (xs.take n) (us.take n)
 | _,_,0,_=>.nil
 | _,_,_ + 1,.nil=>.nil
 | _,_,n + 1,.cons r t=>.cons r (Vals.take n t)
theorem Vals.drop:∀ {xs:List V} {us:List Value} (n:Nat),Vals xs us→Vals (xs.drop n) (us.drop n)
 | _,_,0,r=>r
 | _,_,_ + 1,.nil=>.nil
 | _,_,n + 1,.cons _ t=>Vals.drop n t
def RelO:Option V→Option Value→Prop
 | some v,some u=>RelV v u
 | none,none=>True
 | _,_=>False
def KV {κ:Type}:List (κ × V)→List (κ × Value)→Prop:=Paired fun (p:κ × V) (q:κ × Value)=>p.1 = q.1∧RelV p.2 q.2
def kV:Key→V
 | .inl i=>.int i
 | .inr x=>.str x
inductive HO where
 | lst (xs:List V)
 | tup (xs:List V)
 | dK (kvs:List (Key × V)) | dT (kvs:List (List Key × V))
 | set (S:Int→Bool) (n:Nat)
 | ins (C dx:Addr) (fs:List (Str × V))
 | own (x:Addr)
 | xd (fs:List (Str × V))
 | met (f x:Addr)
 | rng (lo hi:Int)
 | frz (o:Obj) (u:HO)
 | tbl (ps:Array Value)
 | ext (φ:Heap→Prop)
abbrev Hp:=Addr→Option HO
def upd (H:Hp) (a:Addr) (o:HO):Hp:=fun b=>if b = a then some o else H b
theorem ja1 {H:Hp} {a:Addr} {o:HO}:upd H a o a = some o:=by unfold upd; rw [if_pos rfl]
theorem jaj {H:Hp} {a b:Addr} {o:HO} (h:b ≠ a):upd H a o b = H b:=by unfold upd; rw [if_neg h]
theorem jhg {H:Hp} {a:Addr} {o u:HO}:upd (upd H a o) a u = upd H a u:=by
 funext b; unfold upd; split <;> rfl
theorem jgk {H:Hp} {a b:Addr} {o u:HO} (h:H a = some o) (h':H b = some u) (d:o ≠ u):a ≠ b:=by
 intro e; subst e; rw [h] at h'; exact d (Option.some.inj h')
theorem ja6 {H:Hp} {a b:Addr} {o:HO} (h:H a = some o) (h':H b = none):a ≠ b:=by
 intro e; subst e; rw [h] at h'; cases h'
section
variable (P:Program) (w:World)
def jcp (H:Hp) (h:Heap) (a:Addr):HO→Prop
 | .lst xs=>xs.length ≤ sizeLine∧∃ (its:List Value) (n:Nat),Vals xs its∧h.get? a = some { cls:=.type "list",data:=.seq its.toArray n }
 | .tup xs=>xs.length ≤ sizeLine∧∃ its:List Value,Vals xs its∧IsTup h a its.toArray
 | .dK kvs=>kvs.length ≤ sizeLine∧(a == sysModules) = false∧∃ vs,KV kvs vs∧h.DictOf (jbz P w) a vs
 | .dT kvs=>kvs.length ≤ sizeLine∧(a == sysModules) = false∧∃ xs:List (List Key × Addr × Value),
   Paired (fun (p:List Key × V) (q:List Key × Addr × Value)=>p.1 = q.1∧H q.2.1 = some (.tup (p.1.map kV))∧RelV p.2 q.2.2) kvs xs ∧
   ∃ o es ep,h.get? a = some o∧o.ExactDict∧o.data = .dict es ep∧es.toList = xs.map (entryOfKey (tupleKind (jbz P w)))∧(xs.map (·.1)).Nodup
 | .set S n=>h.SetOf (intKind P w) a S n
 | .ins C dx fs=>H dx = some (.own a)∧fs.length ≤ 1000∧dx ≠ a∧h.get? a = some (PySem.W.instObj C dx) ∧
   ∃ mA,h.Ns1 dx mA∧(∀ f,RelO (fs.lookup f) (mA f))∧PySem.Within mA (fs.map (·.1))
 | .own _=>∃ o,h.get? a = some o
 | .xd fs=>∃ mA,h.Ns1 a mA∧∀ f,RelO (fs.lookup f) (mA f)
 | .rng lo hi=>∃ t u v,h.get? a = some { cls:=.type "range",data:=.fields #[.int lo t,.int hi u,.int 1 v] }
 | .frz o u=>h.get? a = some o∧jcp H h a u
 | .tbl ps=>h.get? a = some { cls:=.none,data:=.fields ps }
 | .met f x=>h.get? a = some (PySem.W.methodObj (.ref f) (.ref x))
 | .ext φ=>φ h∧(∃ o,h.get? a = some o)∧∀ h1 h2:Heap,φ h1→(∀ o,h1.get? a = some o→h2.get? a = some o)→φ h2
def HOk (H:Hp) (h:Heap):Prop:=∀ a o,H a = some o→jcp P w H h a o
end
section
variable {P:Program} {w:World} {H H':Hp} {h h':Heap} {a:Addr} {o:HO}
theorem jcp.lt (x:jcp P w H h a o):a < h.objs.size:=by
 cases o with
 | lst xs=>obtain ⟨_,_,_,_,e⟩:=x; exact Heap.lt_size e
 | tup xs=>obtain ⟨_,_,_,p⟩:=x; exact p.lt
 | dK kvs=>obtain ⟨_,_,_,_,o,_,_,e,_⟩:=x; exact Heap.lt_size e
 | dT kvs=>obtain ⟨_,_,_,_,o,_,_,e,_⟩:=x; exact Heap.lt_size e
 | set S n=>obtain ⟨o,_,_,_,e,_⟩:=x; exact Heap.lt_size e
 | ins C dx fs=>obtain ⟨_,_,_,e,_⟩:=x; exact Heap.lt_size e
 | own y=>obtain ⟨_,e⟩:=x; exact Heap.lt_size e
 | xd fs=>obtain ⟨_,⟨_,_,_,e,_⟩,_⟩:=x; exact Heap.lt_size e
 | rng lo hi=>obtain ⟨_,_,_,e⟩:=x; exact Heap.lt_size e
 | frz ob u=>obtain ⟨e,_⟩:=x; exact Heap.lt_size e
 | tbl ps=>exact Heap.lt_size (show h.get? a = some _ from x)
 | met f y=>exact Heap.lt_size (show h.get? a = some _ from x)
 | ext φ=>obtain ⟨_,⟨_,e⟩,_⟩:=x; exact Heap.lt_size e
theorem Paired.mapP {α β:Type} {F G:α→β→Prop}:∀ {l₁:List α} {l₂:List β},Paired F l₁ l₂→(∀ a b,F a b→G a b)→Paired G l₁ l₂
 | _,_,.nil,_=>.nil
 | _,_,.cons r t,f=>.cons (f _ _ r) (Paired.mapP t f)
theorem Paired.imp' {α β:Type} {F G:α→β→Prop} (f:∀ a b,F a b→G a b) {l₁:List α} {l₂:List β} (r:Paired F l₁ l₂):Paired G l₁ l₂:=Paired.mapP r f
theorem jcp.stay (x:jcp P w H h a o) (k:∀ b u,(b = a ∨ H b = some (.own a))→h.get? b = some u→h'.get? b = some u)
  (ho:∀ b,H b = some (.own a)→H' b = some (.own a)) (ht:∀ b xs,H b = some (.tup xs)→H' b = some (.tup xs)):jcp P w H' h' a o:=by
 induction o with
 | lst xs=>obtain ⟨z,its,n,r,e⟩:=x; exact ⟨z,its,n,r,k _ _ (.inl rfl) e⟩
 | tup xs=>obtain ⟨z,its,r,ob,e,c⟩:=x; exact ⟨z,its,r,ob,k _ _ (.inl rfl) e,c⟩
 | dK kvs=>obtain ⟨z,y,vs,r,ob,es,ep,e,c⟩:=x; exact ⟨z,y,vs,r,ob,es,ep,k _ _ (.inl rfl) e,c⟩
 | dT kvs =>
  obtain ⟨z,y,xs,r,ob,es,ep,e,c⟩:=x
  exact ⟨z,y,xs,Paired.mapP r fun p q z=>⟨z.1,ht _ _ z.2.1,z.2.2⟩,ob,es,ep,k _ _ (.inl rfl) e,c⟩
 | set S n=>obtain ⟨ob,es,ep,t,e,c⟩:=x; exact ⟨ob,es,ep,t,k _ _ (.inl rfl) e,c⟩
 | ins C dx fs =>
  obtain ⟨d,z,ne,e,mA,⟨od,es,ep,e2,c⟩,r⟩:=x
  exact ⟨ho _ d,z,ne,k _ _ (.inl rfl) e,mA,⟨od,es,ep,k _ _ (.inr d) e2,c⟩,r⟩
 | own y=>obtain ⟨ob,e⟩:=x; exact ⟨ob,k _ _ (.inl rfl) e⟩
 | xd fs=>obtain ⟨mA,⟨od,es,ep,e,c⟩,r⟩:=x; exact ⟨mA,⟨od,es,ep,k _ _ (.inl rfl) e,c⟩,r⟩
 | rng lo hi=>obtain ⟨t,u,v,e⟩:=x; exact ⟨t,u,v,k _ _ (.inl rfl) e⟩
 | frz ob u ih=>obtain ⟨e,q⟩:=x; exact ⟨k _ _ (.inl rfl) e,ih q⟩
 | tbl ps =>
  have e:h.get? a = some { cls:=.none,data:=.fields ps }:=x
  show h'.get? a = some { cls:=.none,data:=.fields ps }
  exact k a _ (.inl rfl) e
 | met f y =>
  have e:h.get? a = some (PySem.W.methodObj (.ref f) (.ref y)):=x
  show h'.get? a = some (PySem.W.methodObj (.ref f) (.ref y))
  exact k a _ (.inl rfl) e
 | ext φ=>obtain ⟨p,⟨o,e⟩,st⟩:=x; exact ⟨st _ _ p fun o q=>k _ _ (.inl rfl) q,⟨o,k _ _ (.inl rfl) e⟩,st⟩
theorem HOk.lt (x:HOk P w H h) (e:H a = some o):a < h.objs.size:=(x a o e).lt
theorem HOk.fresh (x:HOk P w H h) (e:h.objs.size ≤ a):H a = none:=by
 cases q:H a with
 | none=>rfl
 | some u=>exact absurd (Nat.lt_of_lt_of_le (x.lt q) e) (Nat.lt_irrefl _)
theorem HOk.kept (x:HOk P w H h) (k:∀ b u,h.get? b = some u→h'.get? b = some u):HOk P w H h':=fun a o e =>
 (x a o e).stay (fun b u _ q=>k b u q) (fun _ q=>q) fun _ _ q=>q
theorem HOk.laid (x:HOk P w H h) (k:∀ b u,h.get? b = some u→h'.get? b = some u) (hp:h.objs.size ≤ a) (new:jcp P w (upd H a o) h' a o):HOk P w (upd H a o) h':=fun b u e=>by
 have hn:=x.fresh hp
 by_cases hb:b = a
 ·subst hb; rw [ja1] at e; cases e; exact new
 ·rw [jaj hb] at e
  exact (x b u e).stay (fun c v _ q=>k c v q) (fun c q=>by rw [jaj (ja6 q hn)]; exact q) fun c xs q=>by rw [jaj (ja6 q hn)]; exact q
end
def Rd (H:Hp) (a:Addr) (u:HO):Prop:=H a = some u ∨ ∃ o,H a = some (.frz o u)
theorem Rd.of {H:Hp} {a:Addr} {u:HO} (h:H a = some u):Rd H a u:=.inl h
theorem Rd.ok {P:Program} {w:World} {H:Hp} {h:Heap} {a:Addr} {u:HO} (r:Rd H a u) (x:HOk P w H h):jcp P w H h a u:=by
 rcases r with r | ⟨o,r⟩
 ·exact x a u r
 ·obtain ⟨_,q⟩:=x a _ r
  exact q
def Mut:Option HO→Prop
 | some (.lst _)=>True
 | some (.dK _)=>True
 | some (.dT _)=>True
 | some (.set _ _)=>True
 | some (.ins _ _ _)=>True
 | some (.ext _)=>True
 | _=>False
section
variable {P:Program} {w:World} {H:Hp} {h h':Heap} {x e:Addr} {o':HO}
theorem HOk.write (ok:HOk P w H h) (mu:Mut (H x)) (he:e = x ∨ H e = some (.own x)) (k:∀ b u,b ≠ e→h.get? b = some u→h'.get? b = some u) (heo:∃ u,h'.get? e = some u)
  (new:jcp P w (upd H x o') h' x o'):HOk P w (upd H x o') h':=fun b u q=>by
 have nown:∀ c y,H c = some (.own y)→c ≠ x:=fun c y r z=>by subst z; rw [r] at mu; exact mu
 have ntup:∀ c xs,H c = some (.tup xs)→c ≠ x:=fun c xs r z=>by subst z; rw [r] at mu; exact mu
 by_cases hb:b = x
 ·subst hb; rw [ja1] at q; cases q; exact new
 ·rw [jaj hb] at q
  by_cases hbe:b = e
  ·have q':H b = some (.own x):=by
    rcases he with z | z
    ·exact absurd (hbe.trans z) hb
    ·rw [hbe]; exact z
   rw [q] at q'; cases q'
   obtain ⟨v,hv⟩:=heo
   exact ⟨v,by rw [hbe]; exact hv⟩
  ·refine (ok b u q).stay (fun c v hc r=>k c v ?_ r) (fun c r=>by rw [jaj (nown c b r)]; exact r) fun c xs r=>by rw [jaj (ntup c xs r)]; exact r
   rcases hc with rfl | hc
   ·exact hbe
   ·rintro rfl
    rcases he with z | z
    ·exact nown c b hc z
    ·rw [hc] at z; cases z; exact hb rfl
end
structure Un (fs ex:List Addr) (H H':Hp) (h h':Heap):Prop where
 keep:∀ b o,h.get? b = some o→H b = none→b ∉ fs→b ∉ ex→h'.get? b = some o
 slot:∀ b o,h.get? b = some o→H b = none→b ∈ fs→b ∉ ex→∃ sl,h'.get? b = some { o with slots:=sl }
 free:∀ b o,h.get? b = some o→H b = none→b ∉ ex→H' b = none
 there:∀ b o,h.get? b = some o→b ∉ ex→∃ o',h'.get? b = some o'
 tups:∀ b xs,H b = some (.tup xs)→H' b = some (.tup xs)
 frzs:∀ b o u,H b = some (.frz o u)→H' b = some (.frz o u)
 tbls:∀ b ps,H b = some (.tbl ps)→∃ more,H' b = some (.tbl (ps ++ more))
section
variable {fs fs' ex ex':List Addr} {H H1 H2:Hp} {h h1 h2 h':Heap} {a x e:Addr} {o:HO}
theorem Un.any (u:Un fs ex H H1 h h1) {b:Addr} {ob:Obj} (q:h.get? b = some ob) (n:H b = none) (hx:b ∉ ex):∃ sl,h1.get? b = some { ob with slots:=sl }:=by
 by_cases hb:b ∈ fs
 ·exact u.slot b ob q n hb hx
 ·exact ⟨ob.slots,u.keep b ob q n hb hx⟩
theorem Un.trans (a:Un fs ex H H1 h h1) (b:Un fs ex H1 H2 h1 h2):Un fs ex H H2 h h2 where
 keep:=fun c ob q n hc hx=>b.keep c ob (a.keep c ob q n hc hx) (a.free c ob q n hx) hc hx
 slot:=fun c ob q n hc hx=>by
  obtain ⟨sl,e1⟩:=a.slot c ob q n hc hx
  obtain ⟨sl',e2⟩:=b.slot c _ e1 (a.free c ob q n hx) hc hx
  exact ⟨sl',e2⟩
 free:=fun c ob q n hx=>by
  obtain ⟨o',e1⟩:=a.there c ob q hx
  exact b.free c o' e1 (a.free c ob q n hx) hx
 there:=fun c ob q hx=>by
  obtain ⟨o',e1⟩:=a.there c ob q hx
  exact b.there c o' e1 hx
 tups:=fun c xs q=>b.tups c xs (a.tups c xs q)
 frzs:=fun c ob xs q=>b.frzs c ob xs (a.frzs c ob xs q)
 tbls:=fun c ps q=>by
  obtain ⟨m1,e1⟩:=a.tbls c ps q
  obtain ⟨m2,e2⟩:=b.tbls c _ e1
  exact ⟨m1 ++ m2,by rw [e2,Array.append_assoc]⟩
theorem Un.kept (k:∀ b u,h.get? b = some u→h'.get? b = some u):Un fs ex H H h h' :=
 ⟨fun b ob q _ _ _=>k b ob q,fun b ob q _ _ _=>⟨ob.slots,k b ob q⟩,fun _ _ _ n _=>n,fun b ob q _=>⟨ob,k b ob q⟩,fun _ _ q=>q,fun _ _ _ q=>q,fun _ ps q=>⟨#[],by rw [q]; simp⟩⟩
theorem Un.refl:Un fs ex H H h h:=Un.kept fun _ _ q=>q
theorem Un.laid (k:∀ b u,h.get? b = some u→h'.get? b = some u) (hp:h.objs.size ≤ a) (hn:H a = none):Un fs ex H (upd H a o) h h' where
 keep:=fun b u q _ _ _=>k b u q
 slot:=fun b u q _ _ _=>⟨u.slots,k b u q⟩
 free:=fun b u q n _=>by rw [jaj (Nat.ne_of_lt (Nat.lt_of_lt_of_le (Heap.lt_size q) hp))]; exact n
 there:=fun b u q _=>⟨u,k b u q⟩
 tups:=fun b xs q=>by rw [jaj (ja6 q hn)]; exact q
 frzs:=fun b u xs q=>by rw [jaj (ja6 q hn)]; exact q
 tbls:=fun b ps q=>⟨#[],by rw [jaj (ja6 q hn),q]; simp⟩
theorem Un.write (mu:Mut (H x)) (he:e = x ∨ H e = some (.own x)) (k:∀ b u,b ≠ e→h.get? b = some u→h'.get? b = some u) (heo:∃ u,h'.get? e = some u):Un fs ex H (upd H x o) h h':=by
 have hx:∀ b,H b = none→b ≠ x:=fun b n z=>by subst z; rw [n] at mu; exact mu
 have hb:∀ b,H b = none→b ≠ e:=fun b n z=>by
  subst z
  rcases he with r | r
  ·exact hx b n r
  ·rw [n] at r; cases r
 have hm:∀ b u,H b = some u→¬ Mut (some u)→b ≠ x:=fun b u q nm z=>by subst z; rw [q] at mu; exact nm mu
 refine ⟨fun b u q n _ _=>k b u (hb b n) q,fun b u q n _ _=>⟨u.slots,k b u (hb b n) q⟩,fun b u q n _=>by rw [jaj (hx b n)]; exact n,fun b u q _=>?_,
  fun b xs q=>by rw [jaj (hm b _ q fun z=>z)]; exact q,fun b u xs q=>by rw [jaj (hm b _ q fun z=>z)]; exact q,fun b ps q=>⟨#[],by rw [jaj (hm b _ q fun z=>z),q]; simp⟩⟩
 by_cases hbe:b = e
 ·subst hbe; exact heo
 ·exact ⟨u,k b u hbe q⟩
theorem Un.mono (u:Un fs ex H H1 h h1) (hs:∀ b ∈ fs,b ∈ fs') (hx:∀ b ∈ ex,b ∈ ex'):Un fs' ex' H H1 h h1 :=
 ⟨fun b ob q n hb he=>u.keep b ob q n (fun z=>hb (hs b z)) fun z=>he (hx b z),fun _ _ q n _ he=>u.any q n fun z=>he (hx _ z),fun b ob q n he=>u.free b ob q n fun z=>he (hx b z),fun b ob q he=>u.there b ob q fun z=>he (hx b z),u.tups,u.frzs,u.tbls⟩
end
def trk (h:Heap) (H:Hp):List Addr:=(List.range h.objs.size).filter fun a=>(H a).isSome
def hidT (h:Heap) (H:Hp):Heap:=PySem.W.hideAll h (trk h H)
theorem joi (h:Heap) (H:Hp):(hidT h H).objs.size = h.objs.size:=PySem.W.hideAll_size _ _
theorem jpv {h:Heap} {H:Hp} {b:Addr} {o:Obj} (e:h.get? b = some o) (n:H b = none):(hidT h H).get? b = some o :=
 PySem.W.hideAll_get _ e fun hm=>by
  have q:(H b).isSome = true:=(List.mem_filter.mp hm).2
  rw [n] at q; simp at q
theorem jro {h:Heap} {H:Hp} {b:Addr} {o:Obj} (e:(hidT h H).get? b = some o):h.get? b = some o∧H b = none:=by
 have e':h.get? b = some o:=PySem.W.of_hideAll (trk h H) e
 refine ⟨e',?_⟩
 cases q:H b with
 | none=>rfl
 | some x =>
  have hm:b ∈ trk h H:=List.mem_filter.mpr ⟨List.mem_range.mpr (Heap.lt_size e'),by simp [q]⟩
  have z:(hidT h H).get? b = none:=PySem.W.hideAll_none (trk h H) hm
  rw [z] at e; cases e
end L2
namespace L2
open PySem PySem.Spec PyProof.Rows
structure Mod (K:PySem.W.Frag) (mg:Str→Option Value) (base:Heap):Prop where
 kin:K.In base
 glob:base.Ns mainGlobals mg
 blt:∃ mb,base.Ns builtinsNs mb∧∀ x:Str,x ≠ "__name__"→mb x = bootBuiltins x
 nolimit:base.NoLimit
structure Cx where
 prog:Program
 w:World
 K:PySem.W.Frag
 mg:Str→Option Value
 base:Heap
 A:Around
 N:List Str
 s₀:Shared
 H₀:Hp
 env:Env
 outer:List Env
 stack:List Env
 ex:List Addr
 fn:Str→Bool
 calm:Bool
 pn:List (Addr × Obj)
 xe:Value→Shared→Prop
def frs (l:List Env):List Addr:=l.filterMap (·.frame)
abbrev Cx.fs (X:Cx):List Addr:=frs X.outer
def Vis (sc:Scope) (x:Str):Prop:=sc.names.lookup x = some .local ∨ sc.names.lookup x = some .cell ∨ sc.names.lookup x = some .free
def Loc (sc:Scope) (x:Str):Prop:=sc.names.lookup x = some .local ∨ sc.names.lookup x = some .cell
def Look (env:Env) (h:Heap) (m:Str→Option Value) (x:Str) (u:Value):Prop :=
 (env.kindOf x = some .local∧m x = some u) ∨ ((env.kindOf x = some .cell ∨ env.kindOf x = some .free)∧∃ c,env.cells.lookup x = some c∧h.IsCell c (some u))
structure Cx.Ok (X:Cx):Prop where
 mod:Mod X.K X.mg X.base
 kind:X.env.scope.kind = .function
 glob:X.env.globals = mainGlobals
 blt:X.env.builtins = builtinsNs
 above:X.s₀.heap.objs.size ≤ X.env.locals
 inj:∀ x y c,X.env.cells.lookup x = some c→X.env.cells.lookup y = some c→x = y
 has:∀ x,(X.env.kindOf x = some .cell ∨ X.env.kindOf x = some .free)→∃ c,X.env.cells.lookup x = some c
 cab:∀ x c,X.fn x = true→X.env.cells.lookup x = some c→X.s₀.heap.objs.size ≤ c
 hd:X.calm = true→X.A.handled = none
 frames:X.A.frames = some X.stack
 stk:X.stack = X.outer ∨ (X.stack = X.env :: X.outer∧X.env.frame = some X.env.locals)
 exf:∀ b ∈ X.ex,b ≠ X.env.locals∧∀ x c,X.env.cells.lookup x = some c→c ≠ b
 bs:∀ b o,X.base.get? b = some o→X.s₀.heap.get? b = some o∧X.H₀ b = none
 bsz:X.base.objs.size ≤ X.s₀.heap.objs.size
 noex:∀ b o,X.base.get? b = some o→b ∉ X.ex
 exfs:∀ b ∈ X.ex,b ∉ X.fs
 funs:X.s₀.heap.FunFrames X.base X.outer
 frf:∀ b ∈ X.fs,X.H₀ b = none
structure Inv (X:Cx) (pins:List (Addr × Obj)) (σ:List (Option V)) (H:Hp) (s:Shared):Prop where
 ok:X.Ok
 os:s.os = X.s₀.os
 bare:AllBare s.gens
 base:Un X.fs X.ex X.H₀ H X.s₀.heap s.heap
 loc:∃ m,s.heap.Ns X.env.locals m∧∀ (i:Nat) (x:Str) (v:V),X.N[i]? = some x→σ[i]? = some (some v)→Vis X.env.scope x→∃ u,RelV v u∧Look X.env s.heap m x u
 cell:∀ x c,X.env.cells.lookup x = some c→∃ v,s.heap.IsCell c v
 free:H X.env.locals = none
 freeC:∀ x c,X.env.cells.lookup x = some c→H c = none
 pin:∀ p ∈ X.pn ++ pins,s.heap.get? p.1 = some p.2∧H p.1 = none∧p.1 ≠ X.env.locals∧p.1 ∉ X.fs∧∀ v,p.2.data ≠ .cell v
 hok:HOk X.prog X.w H s.heap
 len:σ.length = X.N.length
section
variable {X:Cx} {pins:List (Addr × Obj)} {σ:List (Option V)} {H H':Hp} {s:Shared} {h':Heap}
theorem Cx.Ok.nofr (ok:X.Ok) {b:Addr} {o:Obj} (e:X.base.get? b = some o):b ∉ X.fs:=fun hb=>by
 have:=(ok.funs.mem hb).1
 rw [e] at this; cases this
theorem Inv.bs (I:Inv X pins σ H s):∀ b o,X.base.get? b = some o→s.heap.get? b = some o∧H b = none:=fun b o e =>
 ⟨I.base.keep b o (I.ok.bs b o e).1 (I.ok.bs b o e).2 (I.ok.nofr e) (I.ok.noex b o e),I.base.free b o (I.ok.bs b o e).1 (I.ok.bs b o e).2 (I.ok.noex b o e)⟩
theorem Inv.bk (I:Inv X pins σ H s):∀ b o,X.base.get? b = some o→s.heap.get? b = some o:=fun b o e=>(I.bs b o e).1
theorem Inv.mod (I:Inv X pins σ H s):Mod X.K X.mg X.base:=I.ok.mod
theorem Inv.kIn (I:Inv X pins σ H s):X.K.In s.heap:=I.ok.mod.kin.keeps I.bk
theorem Inv.fr (I:Inv X pins σ H s):∃ m,Fr X.base X.env.locals s.heap m :=
 let ⟨m,hn,_⟩:=I.loc
 ⟨m,hn,I.bk,Nat.le_trans I.ok.bsz I.ok.above⟩
theorem Inv.lt (I:Inv X pins σ H s):X.env.locals < s.heap.objs.size:=let ⟨_,hn,_⟩:=I.loc; hn.lt
theorem Inv.sz (I:Inv X pins σ H s):X.s₀.heap.objs.size ≤ s.heap.objs.size:=Nat.le_trans I.ok.above (Nat.le_of_lt I.lt)
theorem Inv.nofs (I:Inv X pins σ H s) {a:Addr} (h:s.heap.objs.size ≤ a):a ∉ X.fs:=fun hb=>by
 obtain ⟨_,o,ho,_⟩:=I.ok.funs.mem hb
 exact absurd (Nat.lt_of_lt_of_le (Heap.lt_size ho) (Nat.le_trans I.sz h)) (Nat.lt_irrefl _)
theorem Inv.cne (I:Inv X pins σ H s):∀ x c,X.env.cells.lookup x = some c→c ≠ X.env.locals:=fun x c e z=>by
 obtain ⟨v,o,ho,hd⟩:=I.cell x c e
 obtain ⟨m,⟨o',es,ep,ho',hd',_⟩,_⟩:=I.loc
 rw [z,ho'] at ho; cases ho; rw [hd'] at hd; cases hd
theorem Inv.funs (I:Inv X pins σ H s):s.heap.FunFrames X.base X.outer:=by
 have all:∀ (l:List Env),(∀ b ∈ frs l,b ∈ X.fs)→X.s₀.heap.FunFrames X.base l→s.heap.FunFrames X.base l:=by
  intro l
  induction l with
  | nil=>intro _ _; trivial
  | cons env r ih =>
   intro hs hl
   obtain ⟨hk,⟨L,o,hf,hn,ho,hd⟩,hr⟩:=hl
   have hL:L ∈ X.fs:=hs L (by unfold frs; rw [List.filterMap_cons,hf]; exact List.mem_cons_self)
   obtain ⟨sl,e⟩:=I.base.slot L o ho (I.ok.frf L hL) hL fun z=>I.ok.exfs L z hL
   exact ⟨hk,⟨L,_,hf,hn,e,hd⟩,ih (fun b hb=>hs b (by unfold frs; rw [List.filterMap_cons,hf]; exact List.mem_cons_of_mem _ hb)) hr⟩
 exact all X.outer (fun _ hb=>hb) I.ok.funs
theorem Inv.stack (I:Inv X pins σ H s):s.heap.FunFrames X.base X.stack:=by
 rcases I.ok.stk with e | ⟨e,hf⟩
 ·rw [e]; exact I.funs
 ·rw [e]
  obtain ⟨m,hn,_⟩:=I.loc
  refine .cons (by rw [I.ok.kind]; decide) hf hn ?_ I.funs
  exact Heap.get?_none_of_le (Nat.le_trans I.ok.bsz I.ok.above)
theorem Inv.stkSub (I:Inv X pins σ H s):∀ b ∈ frs X.stack,b ∈ X.env.locals :: X.fs:=fun b hb=>by
 rcases I.ok.stk with e | ⟨e,hf⟩
 ·rw [e] at hb; exact List.mem_cons_of_mem _ hb
 ·rw [e] at hb
  unfold frs at hb
  rw [List.filterMap_cons,hf] at hb
  exact hb
theorem Inv.stkFree (I:Inv X pins σ H s):∀ b ∈ frs X.stack,H b = none:=fun b hb=>by
 rcases List.mem_cons.mp (I.stkSub b hb) with e | hb
 ·rw [e]; exact I.free
 ·obtain ⟨_,o,ho,_⟩:=I.ok.funs.mem hb
  exact I.base.free b o ho (I.ok.frf b hb) fun z=>I.ok.exfs b z hb
theorem Inv.step {g':Array GenState} {t':Nat} {d':Drawn} {ch:List Addr} (I:Inv X pins σ H s)
  (hch:∀ b ∈ ch,(b ∈ X.ex ∨ X.s₀.heap.objs.size ≤ b)∧b ≠ X.env.locals∧(∀ x c,X.env.cells.lookup x = some c→c ≠ b)∧∀ p ∈ X.pn ++ pins,p.1 ≠ b)
  (keep:∀ b o,b ≠ X.env.locals→b ∉ X.fs→b ∉ ch→s.heap.get? b = some o→H b = none→h'.get? b = some o)
  (slot:∀ b o,b ≠ X.env.locals→b ∈ X.fs→b ∉ ch→s.heap.get? b = some o→H b = none→∃ sl,h'.get? b = some { o with slots:=sl }) (free:∀ b o,b ∉ ch→s.heap.get? b = some o→H b = none→H' b = none)
  (there:∀ b o,b ∉ ch→s.heap.get? b = some o→∃ o',h'.get? b = some o')
  (tups:∀ b xs,H b = some (.tup xs)→H' b = some (.tup xs)) (frzs:∀ b o u,H b = some (.frz o u)→H' b = some (.frz o u)) (tbls:∀ b ps,H b = some (.tbl ps)→∃ more,H' b = some (.tbl (ps ++ more)))
  (ns:∀ m,s.heap.Ns X.env.locals m→h'.Ns X.env.locals m) (hok:HOk X.prog X.w H' h') (hg:AllBare g') :
  Inv X pins σ H' { s with heap:=h',gens:=g',drawn:=d',toks:=t' }:=by
 have neL:∀ b o,X.s₀.heap.get? b = some o→b ≠ X.env.locals:=fun b o e=>Nat.ne_of_lt (Nat.lt_of_lt_of_le (Heap.lt_size e) I.ok.above)
 have neC:∀ b o,X.s₀.heap.get? b = some o→b ∉ X.ex→b ∉ ch:=fun b o e hx hb=>by
  rcases (hch b hb).1 with z | z
  ·exact hx z
  ·exact absurd (Nat.lt_of_lt_of_le (Heap.lt_size e) z) (Nat.lt_irrefl _)
 have cellK:∀ x c,X.env.cells.lookup x = some c→∀ v,s.heap.IsCell c v→h'.IsCell c v:=fun x c e v ⟨o,ho,hd⟩=>by
  have nch:c ∉ ch:=fun z=>(hch c z).2.2.1 x c e rfl
  by_cases hc:c ∈ X.fs
  ·obtain ⟨sl,q⟩:=slot c o (I.cne x c e) hc nch ho (I.freeC x c e)
   exact ⟨_,q,hd⟩
  ·exact ⟨o,keep c o (I.cne x c e) hc nch ho (I.freeC x c e),hd⟩
 refine ⟨I.ok,I.os,hg,⟨fun b o e n hb hx=>?_,fun b o e n hb hx=>?_,fun b o e n hx=>?_,fun b o e hx=>?_,fun b xs e=>tups b xs (I.base.tups b xs e),fun b o xs e=>frzs b o xs (I.base.frzs b o xs e),fun b ps e=>?_⟩,?_,fun x c e=>?_,?_,fun x c e=>?_,fun p hp=>?_,hok,I.len⟩
 ·exact keep b o (neL b o e) hb (neC b o e hx) (I.base.keep b o e n hb hx) (I.base.free b o e n hx)
 ·obtain ⟨sl,e1⟩:=I.base.slot b o e n hb hx
  obtain ⟨sl',e2⟩:=slot b _ (neL b o e) hb (neC b o e hx) e1 (I.base.free b o e n hx)
  exact ⟨sl',e2⟩
 ·obtain ⟨o',e1⟩:=I.base.there b o e hx
  exact free b o' (neC b o e hx) e1 (I.base.free b o e n hx)
 ·obtain ⟨o',e1⟩:=I.base.there b o e hx
  exact there b o' (neC b o e hx) e1
 ·obtain ⟨m1,e1⟩:=I.base.tbls b ps e
  obtain ⟨m2,e2⟩:=tbls b _ e1
  exact ⟨m1 ++ m2,by rw [e2,Array.append_assoc]⟩
 ·obtain ⟨m,hn,hl⟩:=I.loc
  refine ⟨m,ns m hn,fun i x v e1 e2 e3=>?_⟩
  obtain ⟨u,r,l⟩:=hl i x v e1 e2 e3
  refine ⟨u,r,?_⟩
  rcases l with l | ⟨k,c,e,z⟩
  ·exact .inl l
  ·exact .inr ⟨k,c,e,cellK x c e _ z⟩
 ·obtain ⟨v,z⟩:=I.cell x c e
  exact ⟨v,cellK x c e v z⟩
 ·obtain ⟨m,⟨o,_,_,ho,_⟩,_⟩:=I.loc
  exact free _ o (fun z=>(hch _ z).2.1 rfl) ho I.free
 ·obtain ⟨v,o,ho,hd⟩:=I.cell x c e
  exact free c o (fun z=>(hch c z).2.2.1 x c e rfl) ho (I.freeC x c e)
 ·obtain ⟨e,n,ne,nf,d⟩:=I.pin p hp
  have nch:p.1 ∉ ch:=fun z=>(hch p.1 z).2.2.2 p hp rfl
  exact ⟨keep p.1 p.2 ne nf nch e n,free p.1 p.2 nch e n,ne,nf,d⟩
theorem Inv.un {t':Nat} (I:Inv X pins σ H s) (u:Un X.fs [] H H' s.heap h') (hok:HOk X.prog X.w H' h'):Inv X pins σ H' { s with heap:=h',toks:=t' }:=by
 obtain ⟨m,⟨o,es,ep,ho,r⟩,_⟩:=id I.loc
 obtain ⟨sl,hL⟩:=u.any ho I.free (by simp)
 exact I.step (g':=s.gens) (d':=s.drawn) (ch:=[]) (fun _ z=>nomatch z) (fun b o _ hb _ e n=>u.keep b o e n hb (by simp)) (fun b o _ hb _ e n=>u.slot b o e n hb (by simp)) (fun b o _ e n=>u.free b o e n (by simp)) (fun b o _ e=>u.there b o e (by simp)) u.tups u.frzs u.tbls (fun m' hm=>by
  obtain ⟨o',es',ep',ho',r'⟩:=hm
  rw [ho] at ho'; cases ho'
  exact ⟨_,es',ep',hL,r'⟩) hok I.bare
theorem Inv.call {g':Array GenState} {t':Nat} {d':Drawn} {ch:List Addr} (I:Inv X pins σ H s) (u:Un (frs X.stack) ch H H' s.heap h') (hok:HOk X.prog X.w H' h') (hg:AllBare g')
  (hch:∀ b ∈ ch,(b ∈ X.ex ∨ X.s₀.heap.objs.size ≤ b)∧b ≠ X.env.locals∧(∀ x c,X.env.cells.lookup x = some c→c ≠ b)∧∀ p ∈ X.pn ++ pins,p.1 ≠ b) :
  Inv X pins σ H' { s with heap:=h',gens:=g',drawn:=d',toks:=t' }:=by
 obtain ⟨m,⟨o,es,ep,ho,r⟩,_⟩:=id I.loc
 obtain ⟨sl,hL⟩:=u.any ho I.free fun z=>(hch _ z).2.1 rfl
 exact I.step (ch:=ch) hch (fun b o hL hb hc e n=>u.keep b o e n (fun z=>(List.mem_cons.mp (I.stkSub b z)).elim hL hb) hc) (fun b o _ _ hc e n=>u.any e n hc) (fun b o hc e n=>u.free b o e n hc) (fun b o hc e=>u.there b o e hc) u.tups u.frzs u.tbls (fun m' hm=>by
  obtain ⟨o',es',ep',ho',r'⟩:=hm
  rw [ho] at ho'; cases ho'
  exact ⟨_,es',ep',hL,r'⟩) hok hg
theorem Inv.turned {t':Nat} {it:Addr} (I:Inv X pins σ H s) (k:∀ b o,b ≠ it→s.heap.get? b = some o→h'.get? b = some o) (hn:H it = none) (hL:it ≠ X.env.locals)
  (h1:it ∈ X.ex ∨ X.s₀.heap.objs.size ≤ it) (h2:∀ x c,X.env.cells.lookup x = some c→c ≠ it) (h3:∀ p ∈ X.pn ++ pins,p.1 ≠ it):Inv X pins σ H { s with heap:=h',toks:=t' }:=by
 have nit:∀ b u,H b = some u→b ≠ it:=fun b u e z=>by rw [z,hn] at e; cases e
 refine I.step (g':=s.gens) (d':=s.drawn) (ch:=[it]) (fun b hb=>?_) (fun b o _ _ hc e _=>k b o (fun z=>hc (by simp [z])) e) (fun b o _ _ hc e _=>⟨o.slots,k b o (fun z=>hc (by simp [z])) e⟩) (fun _ _ _ _ n=>n)
  (fun b o hc e=>⟨o,k b o (fun z=>hc (by simp [z])) e⟩) (fun _ _ e=>e) (fun _ _ _ e=>e) (fun b ps e=>⟨#[],by rw [e]; simp⟩) (fun m hm=>?_) (fun b u e=>?_) I.bare
 ·have e:b = it:=by simpa using hb
  subst e
  exact ⟨h1,hL,h2,h3⟩
 ·obtain ⟨o,es,ep,ho,r⟩:=hm
  exact ⟨o,es,ep,k _ o (Ne.symm hL) ho,r⟩
 ·refine (I.hok b u e).stay (fun c v hc q=>k c v ?_ q) (fun _ q=>q) fun _ _ q=>q
  rcases hc with z | z
  ·rw [z]; exact nit b u e
  ·exact nit c _ z
theorem Inv.tok (I:Inv X pins σ H s) (t:Nat):Inv X pins σ H { s with toks:=t }:=I.un (h':=s.heap) (t':=t) Un.refl I.hok
theorem Inv.kept {t':Nat} (I:Inv X pins σ H s) (k:∀ b u,s.heap.get? b = some u→h'.get? b = some u):Inv X pins σ H { s with heap:=h',toks:=t' }:=I.un (Un.kept k) (I.hok.kept k)
theorem Inv.laid {a:Addr} {o:HO} {t':Nat} (I:Inv X pins σ H s) (k:∀ b u,s.heap.get? b = some u→h'.get? b = some u) (hp:s.heap.objs.size ≤ a) (new:jcp X.prog X.w (upd H a o) h' a o) :
  Inv X pins σ (upd H a o) { s with heap:=h',toks:=t' }:=I.un (Un.laid k hp (I.hok.fresh hp)) (I.hok.laid k hp new)
theorem Inv.write {x e:Addr} {o:HO} {t':Nat} (I:Inv X pins σ H s) (mu:Mut (H x)) (he:e = x ∨ H e = some (.own x)) (k:∀ b u,b ≠ e→s.heap.get? b = some u→h'.get? b = some u) (heo:∃ u,h'.get? e = some u)
  (new:jcp X.prog X.w (upd H x o) h' x o):Inv X pins σ (upd H x o) { s with heap:=h',toks:=t' }:=I.un (Un.write mu he k heo) (I.hok.write mu he k heo new)
theorem Inv.pins_of {pins':List (Addr × Obj)} (I:Inv X pins σ H s) (h:∀ p ∈ pins',s.heap.get? p.1 = some p.2∧H p.1 = none∧p.1 ≠ X.env.locals∧p.1 ∉ X.fs∧∀ v,p.2.data ≠ .cell v):Inv X pins' σ H s :=
 ⟨I.ok,I.os,I.bare,I.base,I.loc,I.cell,I.free,I.freeC,fun p hp=>(List.mem_append.mp hp).elim (fun z=>I.pin p (List.mem_append_left _ z)) (h p),I.hok,I.len⟩
theorem jlq {N:List Str} (hN:N.Nodup) {i j:Nat} {x:Str} (a:N[i]? = some x) (b:N[j]? = some x):i = j:=by
 obtain ⟨h1,e1⟩:=List.getElem?_eq_some_iff.mp a
 obtain ⟨h2,e2⟩:=List.getElem?_eq_some_iff.mp b
 exact (List.getElem_inj hN).mp (e1.trans e2.symm)
theorem jiw {M:Model} {A:Around} {E:Value→Shared→Prop} {i:Nat} {x:Str} {v:V} {u:Value} {Q:Unit→Shared→Prop} (I:Inv X pins σ H s) (hN:X.N.Nodup) (hi:X.N[i]? = some x) (hx:Loc X.env.scope x) (r:RelV v u)
  (h:∀ s',Inv X pins (σ.set i (some v)) H s'→(∃ a,Heap.SameBut a s.heap s'.heap∧(a = X.env.locals ∨ X.env.cells.lookup x = some a))→Q () s') (hf:X.fn x = true ∨ X.env.scope.names.lookup x = some .local:=by first | exact .inl rfl | exact .inr rfl | assumption):wpAny M A (storeName X.env x u) Q E s:=by
 obtain ⟨m,hn,hl⟩:=id I.loc
 have hcls:(X.env.scope.kind == .class || (X.env.scope.kind == .module && X.env.locals != X.env.globals)) = false:=by rw [I.ok.kind]; rfl
 have hiσ:i < σ.length:=by rw [I.len]; exact (List.getElem?_eq_some_iff.mp hi).1
 have cne:=I.cne
 have tracked:∀ {a:Addr} {h':Heap},(∃ o,s.heap.get? a = some o∧H a = none)→Heap.SameBut a s.heap h'→HOk X.prog X.w H h':=fun {a h'} ha hs b ob e=>by
  obtain ⟨_,_,hfree⟩:=ha
  refine (I.hok b ob e).stay (fun c w' hc q=>(hs.2 c ?_).trans q) (fun _ q=>q) fun _ _ q=>q
  rintro rfl
  rcases hc with rfl | hc
  ·rw [hfree] at e; cases e
  ·rw [hfree] at hc; cases hc
 rcases hx with hk | hk
 ·refine wpAny_storeName_local hk hn (fun h' hn' hs=>?_) hcls
  obtain ⟨oL,_,_,hoL,_⟩:=id hn
  refine h _ ⟨I.ok,I.os,I.bare,⟨fun b o e n hb hx=>?_,fun b o e n hb hx=>?_,I.base.free,fun b o e hx=>?_,I.base.tups,I.base.frzs,I.base.tbls⟩,⟨_,hn',fun j y v' e1 e2 e3=>?_⟩,fun y c e=>?_,I.free,I.freeC,fun p hp=>?_,tracked ⟨oL,hoL,I.free⟩ hs,by simpa using I.len⟩ ⟨_,hs,.inl rfl⟩
  ·exact (hs.2 b (Nat.ne_of_lt (Nat.lt_of_lt_of_le (Heap.lt_size e) I.ok.above))).trans (I.base.keep b o e n hb hx)
  ·obtain ⟨sl,e1⟩:=I.base.slot b o e n hb hx
   exact ⟨sl,(hs.2 b (Nat.ne_of_lt (Nat.lt_of_lt_of_le (Heap.lt_size e) I.ok.above))).trans e1⟩
  ·obtain ⟨o',e1⟩:=I.base.there b o e hx
   exact ⟨o',(hs.2 b (Nat.ne_of_lt (Nat.lt_of_lt_of_le (Heap.lt_size e) I.ok.above))).trans e1⟩
  ·by_cases hj:j = i
   ·subst hj
    rw [hi] at e1; cases e1
    rw [List.getElem?_set_self hiσ] at e2
    cases e2
    exact ⟨u,r,.inl ⟨hk,by simp⟩⟩
   ·rw [List.getElem?_set_ne (Ne.symm hj)] at e2
    obtain ⟨u',r',q⟩:=hl j y v' e1 e2 e3
    refine ⟨u',r',?_⟩
    rcases q with ⟨k,e⟩ | ⟨k,c,e,z⟩
    ·refine .inl ⟨k,?_⟩
     have:y ≠ x:=fun e=>hj (jlq hN e1 (e ▸ hi))
     simp [this,e]
    ·exact .inr ⟨k,c,e,z.sameBut hs (cne y c e)⟩
  ·obtain ⟨w',z⟩:=I.cell y c e
   exact ⟨w',z.sameBut hs (cne y c e)⟩
  ·obtain ⟨e,n,ne,nf,d⟩:=I.pin p hp
   exact ⟨(hs.2 p.1 ne).trans e,n,ne,nf,d⟩
 ·have hfn:X.fn x = true:=by
   rcases hf with z | z
   ·exact z
   ·rw [z] at hk; cases hk
  obtain ⟨c,hc⟩:=I.ok.has x (.inl hk)
  obtain ⟨w',z⟩:=I.cell x c hc
  refine wpAny_storeName_cell I.ok.kind hk hc z (fun h' hc' hs=>?_)
  obtain ⟨oc,hoc,hocd⟩:=id z
  refine h { s with heap:=h' } ⟨I.ok,I.os,I.bare,⟨fun b o e n hb hx=>?_,fun b o e n hb hx=>?_,I.base.free,fun b o e hx=>?_,I.base.tups,I.base.frzs,I.base.tbls⟩,⟨m,hn.sameBut hs (Ne.symm (cne x c hc)),fun j y v' e1 e2 e3=>?_⟩,fun y c' e=>?_,I.free,I.freeC,fun p hp=>?_,tracked ⟨oc,hoc,I.freeC x c hc⟩ hs,by simpa using I.len⟩ ⟨c,hs,.inr hc⟩
  ·exact (hs.2 b (Nat.ne_of_lt (Nat.lt_of_lt_of_le (Heap.lt_size e) (I.ok.cab x c hfn hc)))).trans (I.base.keep b o e n hb hx)
  ·obtain ⟨sl,e1⟩:=I.base.slot b o e n hb hx
   exact ⟨sl,(hs.2 b (Nat.ne_of_lt (Nat.lt_of_lt_of_le (Heap.lt_size e) (I.ok.cab x c hfn hc)))).trans e1⟩
  ·obtain ⟨o',e1⟩:=I.base.there b o e hx
   exact ⟨o',(hs.2 b (Nat.ne_of_lt (Nat.lt_of_lt_of_le (Heap.lt_size e) (I.ok.cab x c hfn hc)))).trans e1⟩
  ·by_cases hj:j = i
   ·subst hj
    rw [hi] at e1; cases e1
    rw [List.getElem?_set_self hiσ] at e2
    cases e2
    exact ⟨u,r,.inr ⟨.inl hk,c,hc,hc'⟩⟩
   ·rw [List.getElem?_set_ne (Ne.symm hj)] at e2
    obtain ⟨u',r',q⟩:=hl j y v' e1 e2 e3
    refine ⟨u',r',?_⟩
    rcases q with q | ⟨k,c',e,z'⟩
    ·exact .inl q
    ·refine .inr ⟨k,c',e,z'.sameBut hs ?_⟩
     rintro rfl
     exact hj (jlq hN e1 (I.ok.inj _ _ _ e hc ▸ hi))
  ·by_cases hcc:c' = c
   ·subst hcc; exact ⟨_,hc'⟩
   ·obtain ⟨w2,z2⟩:=I.cell y c' e
    exact ⟨w2,z2.sameBut hs hcc⟩
  ·obtain ⟨e,n,ne,nf,d⟩:=I.pin p hp
   refine ⟨(hs.2 p.1 ?_).trans e,n,ne,nf,d⟩
   intro q
   rw [q,hoc] at e
   have q':oc = p.2:=Option.some.inj e
   exact d w' (by rw [← q']; exact hocd)
theorem jhj {M:Model} {A:Around} {E:Value→Shared→Prop} {i:Nat} {x:Str} {v:V} {u:Value} {Q:Unit→Shared→Prop} (I:Inv X pins σ H s) (hN:X.N.Nodup) (hi:X.N[i]? = some x) (hx:Loc X.env.scope x) (r:RelV v u)
  (h:∀ s',Inv X pins (σ.set i (some v)) H s'→Q () s') (hf:X.fn x = true ∨ X.env.scope.names.lookup x = some .local:=by first | exact .inl rfl | exact .inr rfl | assumption):wpAny M A (storeName X.env x u) Q E s :=
 jiw I hN hi hx r (fun s' I' _=>h s' I') hf
theorem Inv.call' {s':Shared} {ch:List Addr} (I:Inv X pins σ H s) (ho:s'.os = s.os) (u:Un (frs X.stack) ch H H' s.heap s'.heap) (hok:HOk X.prog X.w H' s'.heap) (hg:AllBare s'.gens)
  (hch:∀ b ∈ ch,(b ∈ X.ex ∨ X.s₀.heap.objs.size ≤ b)∧b ≠ X.env.locals∧(∀ x c,X.env.cells.lookup x = some c→c ≠ b)∧∀ p ∈ X.pn ++ pins,p.1 ≠ b):Inv X pins σ H' s':=by
 obtain ⟨h',g',d',t',o'⟩:=s'
 have e:o' = s.os:=ho
 subst e
 exact I.call (g':=g') (t':=t') (d':=d') u hok hg hch
end
abbrev XK:=Value→Option Addr→Hp→Prop
abbrev St:=List (Option V)
abbrev VK:=V→Hp→Prop
abbrev TE:=St→Hp→VK→Prop
abbrev TT:=St→Hp→(Bool→Hp→Prop)→Prop
abbrev TA:=St→Hp→(List V→Hp→Prop)→Prop
structure Ends where
 nx:St→Hp→Prop
 rt:VK
 bk:St→Hp→Prop:=fun _ _=>False
 ct:St→Hp→Prop:=fun _ _=>False
abbrev TS:=Ends→St→Hp→Prop
def EP (X:Cx) (pins:List (Addr × Obj)) (σ:St) (Q:VK) (u:Value) (s':Shared):Prop:=∃ v H',Inv X pins σ H' s'∧RelV v u∧Q v H'
def TP (X:Cx) (pins:List (Addr × Obj)) (σ:St) (Q:Bool→Hp→Prop) (b:Bool) (s':Shared):Prop:=∃ H',Inv X pins σ H' s'∧Q b H'
def AP (X:Cx) (pins:List (Addr × Obj)) (σ:St) (Q:List V→Hp→Prop) (us:List Value) (s':Shared):Prop:=∃ vs H',Inv X pins σ H' s'∧Vals vs us∧Q vs H'
def SP (X:Cx) (pins:List (Addr × Obj)) (D:Ends) (f:Flow) (s':Shared):Prop :=
 match f with
 | .next=>∃ σ' H',Inv X pins σ' H' s'∧D.nx σ' H'
 | .brk=>∃ σ' H',Inv X pins σ' H' s'∧D.bk σ' H'
 | .cont=>∃ σ' H',Inv X pins σ' H' s'∧D.ct σ' H'
 | .ret u=>∃ v σ' H',Inv X pins σ' H' s'∧RelV v u∧D.rt v H'
def PE (X:Cx) (e:Expr) (t:TE):Prop :=
 ∀ (pins:List (Addr × Obj)) (s:Shared) (σ:St) (H:Hp) (Q:VK),Inv X pins σ H s→t σ H Q→wpAny (model X.prog X.w) X.A (eval e X.env) (EP X pins σ Q) X.xe s
def PT (X:Cx) (e:Expr) (t:TT):Prop :=
 ∀ (pins:List (Addr × Obj)) (s:Shared) (σ:St) (H:Hp) (Q:Bool→Hp→Prop),Inv X pins σ H s→t σ H Q→wpAny (model X.prog X.w) X.A (isTrue e X.env (eval e X.env)) (TP X pins σ Q) X.xe s
def PW (X:Cx) (e:Expr) (t:TT):Prop :=
 ∀ (whole:Sem Value) (pins:List (Addr × Obj)) (s:Shared) (σ:St) (H:Hp) (Q:Bool→Hp→Prop),Inv X pins σ H s→t σ H Q→wpAny (model X.prog X.w) X.A (isTrue e X.env whole) (TP X pins σ Q) X.xe s
theorem PW.pt {X:Cx} {e:Expr} {t:TT} (h:PW X e t):PT X e t:=h _
def PA (X:Cx) (es:List Expr) (t:TA):Prop :=
 ∀ (pos:Pos) (pins:List (Addr × Obj)) (s:Shared) (σ:St) (H:Hp) (Q:List V→Hp→Prop),Inv X pins σ H s→t σ H Q→wpAny (model X.prog X.w) X.A (spliced (backTo pos (starEach es X.env))) (AP X pins σ Q) X.xe s
def PS (X:Cx) (st:Stmt) (t:TS):Prop :=
 ∀ (pins:List (Addr × Obj)) (s:Shared) (σ:St) (H:Hp) (D:Ends),Inv X pins σ H s→t D σ H→wpAny (model X.prog X.w) X.A (exec st X.env) (SP X pins D) X.xe s
def PSs (X:Cx) (st:List Stmt) (t:TS):Prop :=
 ∀ (pins:List (Addr × Obj)) (s:Shared) (σ:St) (H:Hp) (D:Ends),Inv X pins σ H s→t D σ H→wpAny (model X.prog X.w) X.A (execs st X.env) (SP X pins D) X.xe s
theorem thn {α:Type} {t:Sem α} {Q Q':α→Shared→Prop} {M:Model} {A:Around} {E:Value→Shared→Prop} {s:Shared} (h:wpAny M A t Q E s) (hQ:∀ a s,Q a s→Q' a s):wpAny M A t Q' E s:=wpAny_mono h hQ fun _ _ x=>x
end L2
namespace L2
open PySem PySem.Spec PyProof.Rows
section
variable {X:Cx}
def tVar (i:Nat):TE:=fun σ H Q=>∃ v,σ[i]? = some (some v)∧Q v H
def tC (v:V):TE:=fun _ H Q=>Q v H
theorem pe_var {i:Nat} {x:Str} {pos:Pos} (hN:X.N[i]? = some x) (hv:Vis X.env.scope x) (hd:(x == ("__debug__":Str)) = false:=by decide) (hcd:(x == ("__classdict__":Str)) = false:=by decide):PE X (.Name x pos) (tVar i):=by
 intro pins s σ H Q I h
 obtain ⟨v,e,h⟩:=h
 obtain ⟨m,hn,hl⟩:=I.loc
 obtain ⟨u,r,l⟩:=hl i x v hN e hv
 have fin:EP X pins σ Q u s:=⟨v,H,I,r,h⟩
 rcases l with ⟨hk,hm⟩ | ⟨hk,c,hc,hcell⟩
 ·exact wpAny_Name (wpAny_loadName_local I.ok.kind hk hn hm fin) hd
 ·rcases hk with hk | hk
  ·exact wpAny_Name (wpAny_loadName_cell I.ok.kind hk hc hcell fin) hd
  ·exact wpAny_Name (wpAny_loadName_free I.ok.kind hk hc hcell fin hcd) hd
theorem jak {i j pos}:PE X (.Constant (.int i) j pos) (tC (.int i)):=fun _ _ _ H _ I h=>wpAny_Constant_int ⟨.int i,H,I.tok _,⟨_,rfl⟩,h⟩
theorem jft {b j pos}:PE X (.Constant (.bool b) j pos) (tC (.bl b)):=fun _ _ _ H _ I h=>Constant_bool ⟨.bl b,H,I,rfl,h⟩
theorem jgw {j pos}:PE X (.Constant .none j pos) (tC .non):=fun _ _ _ H _ I h=>Constant_none ⟨.non,H,I,rfl,h⟩
theorem jnv {x j pos}:PE X (.Constant (.str x) j pos) (tC (.str x)):=fun _ _ _ H _ I h=>Calls.Constant_str ⟨.str x,H,I.tok _,⟨_,rfl⟩,h⟩
def Gl (X:Cx) (x:Str):Prop:=X.env.kindOf x = some .globalImplicit
theorem jkv {E:Value→Shared→Prop} {pins:List (Addr × Obj)} {s:Shared} {σ:St} {H:Hp} {x:Str} {u:Value} {pos:Pos} {Q:Value→Shared→Prop} (I:Inv X pins σ H s) (hg:Gl X x) (hm:X.mg x = some u) (h:Q u s)
  (hd:(x == ("__debug__":Str)) = false:=by decide):wpAny (model X.prog X.w) X.A (eval (.Name x pos) X.env) Q E s :=
 Calls.Name_function_global I.ok.kind hg (Calls.loadGlobal_global (by rw [I.ok.glob]; exact I.mod.glob.keeps I.bk) hm h) hd
theorem jg5 {E:Value→Shared→Prop} {pins:List (Addr × Obj)} {s:Shared} {σ:St} {H:Hp} {x:Str} {u:Value} {pos:Pos} {Q:Value→Shared→Prop} (I:Inv X pins σ H s) (hg:Gl X x) (hm:X.mg x = none) (hv:bootBuiltins x = some u) (h:Q u s)
  (hn:x ≠ "__name__":=by decide) (hd:(x == ("__debug__":Str)) = false:=by decide):wpAny (model X.prog X.w) X.A (eval (.Name x pos) X.env) Q E s:=by
 obtain ⟨mb,h1,h2⟩:=I.mod.blt
 exact Calls.Name_function_global I.ok.kind hg (Calls.loadGlobal_builtin (by rw [I.ok.glob]; exact I.mod.glob.keeps I.bk) hm (by rw [I.ok.blt]; exact h1.keeps I.bk) ((h2 x hn).trans hv) h) hd
theorem jcy {x:Str} {v:V} {u:Value} {pos:Pos} (hg:Gl X x) (hm:X.mg x = some u) (r:RelV v u) (hd:(x == ("__debug__":Str)) = false:=by decide):PE X (.Name x pos) (tC v) :=
 fun _ _ _ H _ I h=>jkv I hg hm ⟨v,H,I,r,h⟩ hd
theorem jhw {x:Str} {v:V} {u:Value} {pos:Pos} (hg:Gl X x) (hm:X.mg x = none) (hv:bootBuiltins x = some u) (r:RelV v u) (hn:x ≠ "__name__":=by decide) (hd:(x == ("__debug__":Str)) = false:=by decide):PE X (.Name x pos) (tC v) :=
 fun _ _ _ H _ I h=>jg5 I hg hm hv ⟨v,H,I,r,h⟩ hn hd
variable {a b:Expr} {ta tb:TE} {pos:Pos}
def PC (X:Cx) (op:CmpOp) (a b:Expr) (t:TE):Prop :=
 ∀ (pins:List (Addr × Obj)) (s:Shared) (σ:St) (H:Hp) (Q:VK),Inv X pins σ H s→t σ H Q →
  wpAny (model X.prog X.w) X.A (eval a X.env) (fun v s₁=>wpAny (model X.prog X.w) X.A (eval b X.env) (fun u s₂=>wpAny (model X.prog X.w) X.A (compareOp op v u) (EP X pins σ Q) X.xe s₂) X.xe s₁) X.xe s
theorem jls (b:Expr) {op:CmpOp} (h:op ≠ .In) (h2:op ≠ .NotIn):behindInMarks op b = false:=by
 have e1:(op == CmpOp.In) = false:=by cases op <;> first | rfl | exact absurd rfl h
 have e2:(op == CmpOp.NotIn) = false:=by cases op <;> first | rfl | exact absurd rfl h2
 cases b <;> simp [behindInMarks,e1,e2]
theorem jlp {op:CmpOp} {t:TE} (h:PC X op a b t) (h1:behindInMarks op b = false:=by first | exact jls _ (by decide) (by decide) | rfl):PE X (.Compare a [op] [b] pos) t:=fun pins s σ H Q I hw=>wpAny_Compare1 (h pins s σ H Q I hw) h1
variable {tA tB':TT} {rest:List Expr}
def tAnd (t u:TT):TT:=fun σ H Q=>t σ H fun c H1=>if c = true then u σ H1 Q else Q false H1
def tOr (t u:TT):TT:=fun σ H Q=>t σ H fun c H1=>if c = true then Q true H1 else u σ H1 Q
def tNot (t:TT):TT:=fun σ H Q=>t σ H fun c H1=>Q (!c) H1
theorem jem (ha:PT X a tA):PW X (.BoolOp .And [a] pos) tA:=by
 intro wh pins s σ H Q I h
 refine isTrue_and (thn (ha pins s σ H Q I h) fun c s1 e=>?_)
 cases c with
 | true=>exact isTrue_and_nil e
 | false=>exact e
theorem pw_or1 (ha:PT X a tA):PW X (.BoolOp .Or [a] pos) tA:=by
 intro wh pins s σ H Q I h
 refine isTrue_or (thn (ha pins s σ H Q I h) fun c s1 e=>?_)
 cases c with
 | false=>exact isTrue_or_nil e
 | true=>exact e
theorem jfr (ha:PT X a tA) (hb:PW X (.BoolOp .And (b :: rest) pos) tB'):PW X (.BoolOp .And (a :: b :: rest) pos) (tAnd tA tB'):=by
 intro wh pins s σ H Q I h
 refine isTrue_and (thn (ha pins s σ H _ I h) fun c s1 ⟨H1,I1,q1⟩=>?_)
 cases c with
 | true=>exact hb wh pins s1 σ H1 Q I1 q1
 | false=>exact ⟨H1,I1,q1⟩
theorem pw_or (ha:PT X a tA) (hb:PW X (.BoolOp .Or (b :: rest) pos) tB'):PW X (.BoolOp .Or (a :: b :: rest) pos) (tOr tA tB'):=by
 intro wh pins s σ H Q I h
 refine isTrue_or (thn (ha pins s σ H _ I h) fun c s1 ⟨H1,I1,q1⟩=>?_)
 cases c with
 | true=>exact ⟨H1,I1,q1⟩
 | false=>exact hb wh pins s1 σ H1 Q I1 q1
theorem jfs (ha:PT X a tA):PT X (.UnaryOp .Not a pos) (tNot tA):=by
 intro pins s σ H Q I h
 exact isTrue_not (ha pins s σ H (fun c H1=>Q (!c) H1) I h)
theorem jex {op} {t:TE} (h:PE X a t):PE X (.BoolOp op [a] pos) t:=fun pins s σ H Q I hw=>BoolOp_one (h pins s σ H Q I hw)
def tIf (t:TT) (ta tb:TE):TE:=fun σ H Q=>t σ H fun c H1=>if c = true then ta σ H1 Q else tb σ H1 Q
theorem jfc {c:Expr} (hc:PT X c tA) (ha:PE X a ta) (hb:PE X b tb):PE X (.IfExp c a b pos) (tIf tA ta tb):=by
 intro pins s σ H Q I h
 refine wpAny_IfExp (thn (hc pins s σ H _ I h) fun d s1 ⟨H1,I1,q1⟩=>?_)
 cases d with
 | true=>exact ha pins s1 σ H1 Q I1 q1
 | false=>exact hb pins s1 σ H1 Q I1 q1
end
end L2
namespace L2
open PySem PySem.Spec PyProof.Rows
def SqL (K:PySem.W.Frag) (H:Hp) (a:Addr) (xs:List V):Prop :=
 Rd H a (.lst xs) ∨
  ∃ (o:Obj) (its:Array Value) (n:Nat),K.lookup a = some o∧o.cls = .type "list"∧o.dict = none∧o.data = .seq its n∧its.size ≤ sizeLine∧Vals xs its.toList
def SqT (K:PySem.W.Frag) (H:Hp) (a:Addr) (xs:List V):Prop :=
 Rd H a (.tup xs) ∨
  ∃ (o:Obj) (its:Array Value) (n:Nat),K.lookup a = some o∧o.cls = .type "tuple"∧o.data = .seq its n∧its.size ≤ sizeLine∧Vals xs its.toList
def absV:Value→Option V
 | .none=>some .non
 | .bool b=>some (.bl b)
 | .int i _=>some (.int i)
 | .str x _=>some (.str x)
 | .bytes b _=>some (.byt b)
 | .float b _=>some (.flt b)
 | .ref a=>some (.ref a)
 | .type n=>some (.ty n)
 | _=>none
theorem RelV.abs {x:V} {u:Value} (r:RelV x u):absV u = some x:=by
 cases x with
 | non=>cases r; rfl
 | bl _=>cases r; rfl
 | int _=>obtain ⟨t,rfl⟩:=r; rfl
 | str _=>obtain ⟨t,rfl⟩:=r; rfl
 | byt _=>obtain ⟨t,rfl⟩:=r; rfl
 | flt _=>obtain ⟨t,rfl⟩:=r; rfl
 | ref _=>cases r; rfl
 | ty _=>cases r; rfl
theorem RelV.inj {x y:V} {u:Value} (r:RelV x u) (q:RelV y u):x = y:=Option.some.inj (r.abs.symm.trans q.abs)
theorem Vals.inj:∀ {xs ys:List V} {us:List Value},Vals xs us→Vals ys us→xs = ys
 | _,_,_,.nil,.nil=>rfl
 | _,_,_,.cons r t,.cons r' t'=>by rw [r.inj r',Vals.inj t t']
section
variable {X:Cx} {pins:List (Addr × Obj)} {σ:St} {H:Hp} {s:Shared} {a:Addr} {xs ys:List V}
theorem SqL.of {K:PySem.W.Frag} (h:H a = some (.lst xs)):SqL K H a xs:=.inl (.inl h)
theorem SqT.of {K:PySem.W.Frag} (h:H a = some (.tup xs)):SqT K H a xs:=.inl (.inl h)
theorem Inv.list (I:Inv X pins σ H s) (h:SqL X.K H a xs):∃ its:List Value,Vals xs its∧PlainL s.heap a its.toArray∧xs.length ≤ sizeLine:=by
 rcases h with h | ⟨o,its,n,hk,hc,hd,hs,hz,r⟩
 ·obtain ⟨z,its,n,r,e⟩:=h.ok I.hok
  exact ⟨its,r,⟨_,n,e,rfl,rfl,rfl⟩,z⟩
 ·refine ⟨its.toList,r,⟨o,n,I.kIn a o hk,hc,hd,by simpa using hs⟩,?_⟩
  have e:=r.length
  simp only [Array.length_toList] at e
  omega
theorem Inv.tuple (I:Inv X pins σ H s) (h:SqT X.K H a xs):∃ its:List Value,Vals xs its∧IsTup s.heap a its.toArray∧xs.length ≤ sizeLine:=by
 rcases h with h | ⟨o,its,n,hk,hc,hs,hz,r⟩
 ·obtain ⟨z,its,r,p⟩:=h.ok I.hok
  exact ⟨its,r,p,z⟩
 ·refine ⟨its.toList,r,⟨o,I.kIn a o hk,hc,n,by simpa using hs⟩,?_⟩
  have e:=r.length
  simp only [Array.length_toList] at e
  omega
theorem Inv.list_inj (I:Inv X pins σ H s) (h:SqL X.K H a xs) (h':SqL X.K H a ys):xs = ys:=by
 obtain ⟨its,r,⟨o,n,e,_,_,d⟩,_⟩:=I.list h
 obtain ⟨its',r',⟨o',n',e',_,_,d'⟩,_⟩:=I.list h'
 rw [e] at e'; cases e'
 rw [d] at d'
 injection d' with d1 _
 have:its = its':=by simpa using congrArg Array.toList d1
 subst this
 exact r.inj r'
theorem Inv.tuple_inj (I:Inv X pins σ H s) (h:SqT X.K H a xs) (h':SqT X.K H a ys):xs = ys:=by
 obtain ⟨its,r,⟨o,e,_,n,d⟩,_⟩:=I.tuple h
 obtain ⟨its',r',⟨o',e',_,n',d'⟩,_⟩:=I.tuple h'
 rw [e] at e'; cases e'
 rw [d] at d'
 injection d' with d1 _
 have:its = its':=by simpa using congrArg Array.toList d1
 subst this
 exact r.inj r'
end
abbrev Cx.wish (X:Cx) (E:Value→Shared→Prop):Cx:={ X with xe:=E }
abbrev Cx.nox (X:Cx):Cx:=X.wish fun _ _=>False
theorem Cx.Ok.wish {X:Cx} (ok:X.Ok) (E:Value→Shared→Prop):(X.wish E).Ok :=
 ⟨ok.mod,ok.kind,ok.glob,ok.blt,ok.above,ok.inj,ok.has,ok.cab,ok.hd,ok.frames,ok.stk,ok.exf,ok.bs,ok.bsz,ok.noex,ok.exfs,ok.funs,ok.frf⟩
theorem Cx.Ok.unwish {X:Cx} {E:Value→Shared→Prop} (ok:(X.wish E).Ok):X.Ok :=
 ⟨ok.mod,ok.kind,ok.glob,ok.blt,ok.above,ok.inj,ok.has,ok.cab,ok.hd,ok.frames,ok.stk,ok.exf,ok.bs,ok.bsz,ok.noex,ok.exfs,ok.funs,ok.frf⟩
section
variable {X:Cx} {pins:List (Addr × Obj)} {σ:St} {H:Hp} {s:Shared} {E:Value→Shared→Prop}
theorem Inv.wish (I:Inv X pins σ H s) (E:Value→Shared→Prop):Inv (X.wish E) pins σ H s:=⟨I.ok.wish E,I.os,I.bare,I.base,I.loc,I.cell,I.free,I.freeC,I.pin,I.hok,I.len⟩
theorem Inv.unwish (I:Inv (X.wish E) pins σ H s):Inv X pins σ H s:=⟨I.ok.unwish,I.os,I.bare,I.base,I.loc,I.cell,I.free,I.freeC,I.pin,I.hok,I.len⟩
theorem SP.unwish {D:Ends} {f:Flow} {s':Shared} (h:SP (X.wish E) pins D f s'):SP X pins D f s':=by
 cases f with
 | next=>obtain ⟨σ',H',I,q⟩:=h; exact ⟨σ',H',I.unwish,q⟩
 | brk=>obtain ⟨σ',H',I,q⟩:=h; exact ⟨σ',H',I.unwish,q⟩
 | cont=>obtain ⟨σ',H',I,q⟩:=h; exact ⟨σ',H',I.unwish,q⟩
 | ret u=>obtain ⟨v,σ',H',I,r,q⟩:=h; exact ⟨v,σ',H',I.unwish,r,q⟩
theorem PSs.nox {st:List Stmt} {t:TS} (h:PSs X.nox st t):PSs X st t:=fun pins s σ H D I hw =>
 wpAny_mono (h pins s σ H D (I.wish _) hw) (fun _ _ q=>q.unwish) fun _ _ z=>False.elim z
end
section
variable {X:Cx} {st:Stmt} {rest:List Stmt} {t u:TS} {e:Expr} {te:TE} {pos:Pos}
def jaw:TS:=fun D σ H=>D.nx σ H
def tSeq (t u:TS):TS:=fun D σ H=>t { D with nx:=u D } σ H
theorem jbu:PSs X [] jaw:=fun _ _ σ H _ I h=>wpAny_execs_nil ⟨σ,H,I,h⟩
theorem ja5 (h1:PS X st t) (h2:PSs X rest u):PSs X (st :: rest) (tSeq t u):=by
 intro pins s σ H D I h
 refine wpAny_execs_cons (thn (h1 pins s σ H { D with nx:=u D } I h) fun f s1 q=>?_)
 cases f with
 | next =>
  obtain ⟨σ',H',I',q⟩:=q
  exact h2 pins s1 σ' H' D I' q
 | ret v=>exact q
 | brk=>exact q
 | cont=>exact q
theorem jan (h1:PS X st t):PSs X [st] t:=by
 intro pins s σ H D I h
 refine wpAny_execs_cons (thn (h1 pins s σ H D I h) fun f s1 q=>?_)
 cases f with
 | next=>exact wpAny_execs_nil q
 | ret v=>exact q
 | brk=>exact q
 | cont=>exact q
theorem Inv.quiet {pins:List (Addr × Obj)} {σ:St} {H:Hp} {s:Shared} (I:Inv X pins σ H s):interactive X.env = false:=by simp [interactive,I.ok.kind]
def jax (te:TE):TS:=fun D σ H=>te σ H fun _ H1=>D.nx σ H1
theorem jby (he:PE X e te) (hs:swapsWith e none pos.line X.env = pure false:=by rfl):PS X (.Expr e pos) (jax te):=by
 intro pins s σ H D I h
 exact wpAny_Expr_any (thn (he pins s σ H _ I h) fun v s1 ⟨x,H1,I1,r1,q1⟩=>⟨σ,H1,I1,q1⟩) I.quiet hs
def tRet (te:TE):TS:=fun D σ H=>te σ H D.rt
theorem jbq (he:PE X e te):PS X (.Return (some e) pos) (tRet te):=by
 intro pins s σ H D I h
 exact wpAny_Return_some (thn (he pins s σ H _ I h) fun v s1 ⟨x,H1,I1,r1,q1⟩=>⟨x,σ,H1,I1,r1,q1⟩)
def jb2:TS:=fun D _ H=>D.rt .non H
def tIfS (c:TT) (t u:TS):TS:=fun D σ H=>c σ H fun b H1=>if b = true then t D σ H1 else u D σ H1
theorem jct {c:Expr} {a b:List Stmt} {tc:TT} (hc:PT X c tc) (ha:PSs X a t) (hb:PSs X b u):PS X (.If c a b pos) (tIfS tc t u):=by
 intro pins s σ H D I h
 refine wpAny_If (thn (hc pins s σ H _ I h) fun d s1 ⟨H1,I1,q1⟩=>?_)
 cases d with
 | true=>exact ha pins s1 σ H1 D I1 q1
 | false=>exact hb pins s1 σ H1 D I1 q1
def jqa:TS:=fun _ _ _=>False
theorem jdq:PS X st jqa:=fun _ _ _ _ _ _ h=>h.elim
theorem jnq {sts:List Stmt}:PSs X sts jqa:=fun _ _ _ _ _ _ h=>h.elim
end
abbrev TG:=V→St→Hp→(St→Hp→Prop)→Prop
abbrev TGs:=List V→St→Hp→(St→Hp→Prop)→Prop
def PG (X:Cx) (target:Expr) (t:TG):Prop :=
 ∀ (pins:List (Addr × Obj)) (s:Shared) (σ:St) (H:Hp) (v:V) (u:Value) (Q:St→Hp→Prop),Inv X pins σ H s→RelV v u→t v σ H Q →
  wpAny (model X.prog X.w) X.A (assign target X.env u) (fun _ s'=>∃ σ' H',Inv X pins σ' H' s'∧Q σ' H') X.xe s
def PGs (X:Cx) (ts:List Expr) (t:TGs):Prop :=
 ∀ (pins:List (Addr × Obj)) (s:Shared) (σ:St) (H:Hp) (vs:List V) (us:List Value) (Q:St→Hp→Prop),Inv X pins σ H s→Vals vs us→t vs σ H Q →
  wpAny (model X.prog X.w) X.A (assignInOrder ((assignEach ts X.env).map (·.2)) us) (fun _ s'=>∃ σ' H',Inv X pins σ' H' s'∧Q σ' H') X.xe s
abbrev TSet:=V→V→V→Hp→(Hp→Prop)→Prop
def PSet (X:Cx) (t:TSet):Prop :=
 ∀ (pins:List (Addr × Obj)) (s:Shared) (σ:St) (H:Hp) (o i v:V) (ov iv u:Value) (Q:Hp→Prop),Inv X pins σ H s→RelV o ov→RelV i iv→RelV v u→t o i v H Q →
  wpAny (model X.prog X.w) X.A (setItem ov iv u) (fun _ s'=>∃ H',Inv X pins σ H' s'∧Q H') X.xe s
abbrev TIp:=V→V→Hp→VK→Prop
def PIp (X:Cx) (op:Operator) (t:TIp):Prop :=
 ∀ (pins:List (Addr × Obj)) (s:Shared) (σ:St) (H:Hp) (x y:V) (v u:Value) (Q:VK),Inv X pins σ H s→RelV x v→RelV y u→t x y H Q →
  wpAny (model X.prog X.w) X.A (inplaceOp op v u) (EP X pins σ Q) X.xe s
section
variable {X:Cx} {pos:Pos}
def jal (i:Nat):TG:=fun v σ H Q=>Q (σ.set i (some v)) H
theorem jbb {i:Nat} {x:Str} (hN:X.N.Nodup) (hi:X.N[i]? = some x) (hx:Loc X.env.scope x) (hf:X.fn x = true ∨ X.env.scope.names.lookup x = some .local:=by first | exact .inl rfl | exact .inr rfl | assumption):PG X (.Name x pos) (jal i):=by
 intro pins s σ H v u Q I r h
 exact wpAny_assign_Name (jhj I hN hi hx r (fun s' I'=>⟨_,H,I',h⟩) hf)
def gNil:TGs:=fun vs σ H Q=>vs = []∧Q σ H
def gCons (t:TG) (u:TGs):TGs:=fun vs σ H Q=>∃ v r,vs = v :: r∧t v σ H fun σ' H'=>u r σ' H' Q
theorem jrf:PGs X [] gNil:=by
 intro pins s σ H vs us Q I r h
 obtain ⟨e,h⟩:=h
 subst e
 cases r
 exact assignInOrder_nil ⟨σ,H,I,h⟩
theorem jph {e:Expr} {es:List Expr} {t:TG} {u:TGs} (h1:PG X e t) (h2:PGs X es u)
  (hs:(assignEach (e :: es) X.env).map (·.2) = assign e X.env :: (assignEach es X.env).map (·.2):=by rfl):PGs X (e :: es) (gCons t u):=by
 intro pins s σ H vs us Q I r h
 obtain ⟨v,vr,e1,h⟩:=h
 subst e1
 cases r with
 | cons r rr =>
  rw [hs]
  refine assignInOrder_cons (thn (h1 pins s σ H _ _ _ I r h) fun _ s1 ⟨σ1,H1,I1,q1⟩=>?_)
  exact h2 pins s1 σ1 H1 _ _ Q I1 rr q1
def gTup (K:PySem.W.Frag) (n:Nat) (t:TGs):TG:=fun v σ H Q=>∃ a xs,v = .ref a∧SqT K H a xs∧xs.length = n∧t xs σ H Q
theorem pg_tup {es:List Expr} {k:Nat} {t:TGs} {n:Nat} (hc:X.calm = true) (h:PGs X es t)
  (hn:(assignEach es X.env).length = n:=by rfl) (hst:(assignEach es X.env).findIdx? (·.1) = none:=by rfl):PG X (.Tuple es k pos) (gTup X.K n t):=by
 intro pins s σ H v u Q I r hw
 obtain ⟨a,xs,e1,hq,hl,hw⟩:=hw
 subst e1
 cases r
 obtain ⟨its,rv,ht,hz⟩:=I.tuple hq
 refine assign_Tuple_tuple (I.ok.hd hc) ht (by simp [hn,← hl,rv.length]) hst fun h' hx=>?_
 have I1:Inv X pins σ H { s with heap:=h' }:=I.kept (t':=s.toks) fun b o e=>hx b o (Nat.ne_of_lt (Heap.lt_size e)) e
 exact h pins _ σ H xs _ Q I1 (by simpa using rv) hw
def gSub (to ti:TE) (t:TSet):TG:=fun v σ H Q=>to σ H fun o H1=>ti σ H1 fun i H2=>t o i v H2 fun H3=>Q σ H3
theorem jlo {o i:Expr} {to ti:TE} {t:TSet} (ho:PE X o to) (hi:PE X i ti) (hs:PSet X t)
  (ha:∀ v,assign (.Subscript o i pos) X.env v = (do
   let ov ← holding [v] (eval o X.env)
   let iv ← holding [v,ov] (eval i X.env)
   standAt pos
   holding [v,ov,iv] (setItem ov iv v)
   release [v,ov,iv] []):=by intro _; rfl):PG X (.Subscript o i pos) (gSub to ti t):=by
 intro pins s σ H v u Q I r h
 rw [ha]
 refine wpAny_bind (wpAny_holding (thn (ho pins s σ H _ I h) fun ov s1 ⟨x,H1,I1,r1,q1⟩=>?_))
 refine wpAny_bind (wpAny_holding (thn (hi pins s1 σ H1 _ I1 q1) fun iv s2 ⟨y,H2,I2,r2,q2⟩=>?_))
 refine wpAny_bind (wpAny_standAt (wpAny_bind (wpAny_holding (thn (hs pins s2 σ H2 x y v ov iv u _ I2 r1 r2 r q2) fun _ s3 ⟨H3,I3,q3⟩=>?_))))
 exact wpAny_release ⟨σ,H3,I3,q3⟩
def tAsg (te:TE) (g:TG):TS:=fun D σ H=>te σ H fun x H1=>g x σ H1 D.nx
theorem jj5 {tg e:Expr} {te:TE} {g:TG} (he:PE X e te) (hg:PG X tg g) (hs:swapsWithSole [tg] e pos.line X.env = pure false:=by rfl) (hw:swappedStores [tg] e X.env = pure none:=by rfl)
  (h1:(assignEach [tg] X.env).map (·.2) = [assign tg X.env]:=by rfl):PS X (.Assign [tg] e pos) (tAsg te g):=by
 intro pins s σ H D I h
 refine wpAny_Assign_stores (thn (he pins s σ H _ I h) fun v s1 ⟨x,H1,I1,r1,q1⟩=>?_) hs hw
 rw [h1]
 exact thn (hg pins s1 σ H1 x v _ I1 r1 q1) fun _ s2 q=>q
theorem jbe {i:Nat} {x:Str} {e:Expr} {te:TE} {pos':Pos} (hN:X.N.Nodup) (hi:X.N[i]? = some x) (hx:Loc X.env.scope x) (he:PE X e te) (hs:swapsWith e (some (.Name x pos')) pos.line X.env = pure false:=by rfl) (hf:X.fn x = true ∨ X.env.scope.names.lookup x = some .local:=by first | exact .inl rfl | exact .inr rfl | assumption) :
  PS X (.Assign [.Name x pos'] e pos) (tAsg te (jal i)):=by
 intro pins s σ H D I h
 refine wpAny_Assign_Name (thn (he pins s σ H _ I h) fun v s1 ⟨y,H1,I1,r1,q1⟩=>?_) hs
 exact jhj I1 hN hi hx r1 (fun s2 I2=>⟨_,H1,I2,q1⟩) hf
def tAug (i:Nat) (te:TE) (ti:TIp):TS:=fun D σ H=>∃ x,σ[i]? = some (some x)∧te σ H fun y H1=>ti x y H1 fun z H2=>D.nx (σ.set i (some z)) H2
theorem ps_aug {i:Nat} {x:Str} {e:Expr} {te:TE} {op:Operator} {ti:TIp} {pos':Pos} (hN:X.N.Nodup) (hi:X.N[i]? = some x) (hx:Loc X.env.scope x) (he:PE X e te) (ho:PIp X op ti) (hf:X.fn x = true ∨ X.env.scope.names.lookup x = some .local:=by first | exact .inl rfl | exact .inr rfl | assumption) :
  PS X (.AugAssign (.Name x pos') op e pos) (tAug i te ti):=by
 intro pins s σ H D I h
 obtain ⟨v,e1,h⟩:=h
 obtain ⟨m,hn,hl⟩:=I.loc
 have vis:Vis X.env.scope x:=by rcases hx with k | k; exact .inl k; exact .inr (.inl k)
 obtain ⟨u,r,l⟩:=hl i x v hi e1 vis
 refine wpAny_AugAssign_Name ?_
 have go:wpAny (model X.prog X.w) X.A (eval e X.env) (fun w s₂=>wpAny (model X.prog X.w) X.A (inplaceOp op u w) (fun r s₃=>wpAny (model X.prog X.w) X.A (storeName X.env x r) (fun _=>SP X pins D .next) X.xe s₃) X.xe s₂) X.xe s:=by
  refine thn (he pins s σ H _ I h) fun w s1 ⟨y,H1,I1,r1,q1⟩=>?_
  refine thn (ho pins s1 σ H1 v y u w _ I1 r r1 q1) fun z s2 ⟨zv,H2,I2,r2,q2⟩=>?_
  exact jhj I2 hN hi hx r2 (fun s3 I3=>⟨_,H2,I3,q2⟩) hf
 rcases l with ⟨hk,hm⟩ | ⟨hk,c,hc,hcell⟩
 ·exact wpAny_loadName_local I.ok.kind hk hn hm go
 ·rcases hk with hk | hk
  ·exact wpAny_loadName_cell I.ok.kind hk hc hcell go
  ·rcases hx with k | k
   ·have:X.env.scope.names.lookup x = some .free:=hk
    rw [k] at this; cases this
   ·have:X.env.scope.names.lookup x = some .free:=hk
    rw [k] at this; cases this
def jb9 (to ti te:TE) (tget:V→V→Hp→VK→Prop) (tip:TIp) (tset:TSet):TS:=fun D σ H=>to σ H fun o H1=>ti σ H1 fun i H2=>tget o i H2 fun x H3=>te σ H3 fun y H4=>tip x y H4 fun z H5=>tset o i z H5 fun H6=>D.nx σ H6
def PGet (X:Cx) (t:V→V→Hp→VK→Prop):Prop :=
 ∀ (pins:List (Addr × Obj)) (s:Shared) (σ:St) (H:Hp) (o i:V) (ov iv:Value) (Q:VK),Inv X pins σ H s→RelV o ov→RelV i iv→t o i H Q →
  wpAny (model X.prog X.w) X.A (getItem ov iv) (EP X pins σ Q) X.xe s
theorem jnr {o i e:Expr} {to ti te:TE} {tget:V→V→Hp→VK→Prop} {tip:TIp} {tset:TSet} {op:Operator} {tpos:Pos} (ho:PE X o to) (hi:PE X i ti) (hg:PGet X tget) (he:PE X e te) (hp:PIp X op tip) (hs:PSet X tset)
  (ha:∀ ov iv new,augStore i ov iv new = (do holding [new,ov,iv] (setItem ov iv new); release [new,ov,iv] []; pure .next):=by intros; rfl):PS X (.AugAssign (.Subscript o i tpos) op e pos) (jb9 to ti te tget tip tset):=by
 intro pins s σ H D I h
 refine wpAny_AugAssign_SubscriptAny (thn (ho pins s σ H _ I h) fun ov s1 ⟨x1,H1,I1,r1,q1⟩=>?_) ha
 refine thn (hi pins s1 σ H1 _ I1 q1) fun iv s2 ⟨x2,H2,I2,r2,q2⟩=>?_
 refine thn (hg pins s2 σ H2 x1 x2 ov iv _ I2 r1 r2 q2) fun old s3 ⟨x3,H3,I3,r3,q3⟩=>?_
 refine thn (he pins s3 σ H3 _ I3 q3) fun v s4 ⟨x4,H4,I4,r4,q4⟩=>?_
 refine thn (hp pins s4 σ H4 x3 x4 old v _ I4 r3 r4 q4) fun new s5 ⟨x5,H5,I5,r5,q5⟩=>?_
 exact thn (hs pins s5 σ H5 x1 x2 x5 ov iv new _ I5 r1 r2 r5 q5) fun _ s6 ⟨H6,I6,q6⟩=>⟨σ,H6,I6,q6⟩
end
section
variable {X:Cx} {pos:Pos}
def jq9 (c:TT) (tb:TS):TS:=fun D σ H=>∃ W:Nat→St→Hp→Prop,(∃ m,W m σ H)∧∀ m σ H,W m σ H →
 c σ H fun b H1=>if b = true then ∃ N:St→Hp→Prop,(∀ σ' H',N σ' H'→∃ m',m' < m∧W m' σ' H')∧tb { D with nx:=N,ct:=N,bk:=D.nx } σ H1 else D.nx σ H1
theorem jdp {c:Expr} {body:List Stmt} {tc:TT} {tb:TS} (hp:PassesOwn (model X.prog X.w) X.A X.env X.xe) (hc:PT X c tc) (hb:PSs X body tb):PS X (.While c body [] pos) (jq9 tc tb):=by
 intro pins s σ H D I h
 obtain ⟨W,⟨m0,w0⟩,turn⟩:=h
 refine wpAny_While (codeAny_whileLoop (fun n s'=>∃ σ' H',Inv X pins σ' H' s'∧W n σ' H') ?_ m0 ⟨σ,H,I,w0⟩)
 rintro n s1 ⟨σ1,H1,I1,w1⟩
 refine wpAny_passesOwn hp (thn (hc pins s1 σ1 H1 _ I1 (turn n σ1 H1 w1)) fun b s2 ⟨H2,I2,q2⟩=>?_)
 cases b with
 | true =>
  obtain ⟨N,hN,q2⟩:=q2
  rw [if_pos rfl]
  refine wpAny_passesOwn hp (thn (hb pins s2 σ1 H2 _ I2 q2) fun f s3 q3=>?_)
  cases f with
  | next =>
   obtain ⟨σ3,H3,I3,n3⟩:=q3
   obtain ⟨m',hm,w3⟩:=hN σ3 H3 n3
   exact ⟨m',hm,σ3,H3,I3,w3⟩
  | cont =>
   obtain ⟨σ3,H3,I3,n3⟩:=q3
   obtain ⟨m',hm,w3⟩:=hN σ3 H3 n3
   exact ⟨m',hm,σ3,H3,I3,w3⟩
  | brk=>exact q3
  | ret v=>exact q3
 | false =>
  rw [if_neg Bool.false_ne_true]
  exact wpAny_execs_nil ⟨σ1,H2,I2,q2⟩
end
structure It where
 go:Nat→Hp→Prop
 yld:Nat→Hp→V→Hp→Prop
 stop:Nat→Hp→Prop
def FpOk (X:Cx) (pins:List (Addr × Obj)) (H:Hp) (b:Addr):Prop :=
 H b = none∧b ≠ X.env.locals∧b ∉ X.fs∧(b ∈ X.ex ∨ X.s₀.heap.objs.size ≤ b)∧(∀ x c,X.env.cells.lookup x = some c→c ≠ b)∧∀ p ∈ X.pn ++ pins,p.1 ≠ b
theorem Inv.fpOk {X:Cx} {pins:List (Addr × Obj)} {σ:St} {H H':Hp} {s:Shared} {b:Addr} (I:Inv X pins σ H s) (hb:s.heap.objs.size ≤ b) (hn:H' b = none):FpOk X pins H' b:=by
 refine ⟨hn,Nat.ne_of_gt (Nat.lt_of_lt_of_le I.lt hb),I.nofs hb,.inr (Nat.le_trans I.sz hb),fun x c e z=>?_,fun p hp z=>?_⟩
 ·obtain ⟨v,q⟩:=I.cell x c e
  exact absurd (Nat.lt_of_lt_of_le q.lt (by rw [z]; exact hb)) (Nat.lt_irrefl _)
 ·exact absurd (Nat.lt_of_lt_of_le (Heap.lt_size (I.pin p hp).1) (by rw [z]; exact hb)) (Nat.lt_irrefl _)
structure Turn (P:Program) (w:World) (K:PySem.W.Frag) (tg:Expr) (J:It) (fp:List Addr) (it:Addr) (tn:Nat→Heap→Prop):Prop where
 mem:it ∈ fp
 obj:∀ i h,tn i h→∀ b ∈ fp,∃ o,h.get? b = some o∧∀ v,o.data ≠ .cell v
 keep:∀ i h h',tn i h→(∀ b ∈ fp,∀ o,h.get? b = some o→h'.get? b = some o)→tn i h'
 item:∀ (X:Cx),X.prog = P→X.w = w→X.K = K→X.calm = true→∀ (i:Nat) (pins:List (Addr × Obj)) (s:Shared) (σ:St) (H:Hp) (E:Value→Shared→Prop),Inv X pins σ H s→(∀ b ∈ fp,FpOk X pins H b)→tn i s.heap→J.go i H →
  wpAny (model P w) X.A (pyNext (.ref it)) (fun r s1=>∃ u,r = some u ∧
   wpAny (model P w) X.A (letOwnedTupleGo tg (.ref it) u) (fun _ s2=>∃ x H',Inv X pins σ H' s2∧RelV x u∧J.yld i H x H'∧tn (i + 1) s2.heap∧∀ b ∈ fp,H' b = none) E s1) E s
 done:∀ (X:Cx),X.prog = P→X.w = w→X.K = K→X.calm = true→∀ (i:Nat) (pins:List (Addr × Obj)) (s:Shared) (σ:St) (H:Hp) (E:Value→Shared→Prop),Inv X pins σ H s→(∀ b ∈ fp,FpOk X pins H b)→tn i s.heap→J.stop i H →
  wpAny (model P w) X.A (pyNext (.ref it)) (fun r s1=>r = none∧Inv X pins σ H s1) E s
 self:∀ (A:Around) (i:Nat) (s:Shared) (Q:Value→Shared→Prop) (E:Value→Shared→Prop),tn i s.heap→Q (.ref it) s→wpAny (model P w) A (pyIter (.ref it)) Q E s
abbrev TI:=St→Hp→(It→Hp→Prop)→Prop
def PIE (X:Cx) (pins:List (Addr × Obj)) (σ:St) (tg:Expr) (R:It→Hp→Prop) (itv:Value) (s2:Shared):Prop :=
 ∃ (it:Addr) (fp:List Addr) (tn:Nat→Heap→Prop) (J:It) (H':Hp),itv = .ref it∧Inv X pins σ H' s2∧Turn X.prog X.w X.K tg J fp it tn∧tn 0 s2.heap∧(∀ b ∈ fp,FpOk X pins H' b)∧R J H'
def PI (X:Cx) (tg iter:Expr) (wi:TI):Prop :=
 ∀ (pins:List (Addr × Obj)) (s:Shared) (σ:St) (H:Hp) (R:It→Hp→Prop),Inv X pins σ H s→wi σ H R →
  wpAny (model X.prog X.w) X.A (eval iter X.env) (fun v s1=>wpAny (model X.prog X.w) X.A (pyIter v) (PIE X pins σ tg R) X.xe s1) X.xe s
theorem js2 {M:Model} {A:Around} {E:Value→Shared→Prop} {s:Shared} {tg:Expr} {it:Addr} {u:Value} {o:Obj} {n:String} {vs:Array Value} {Q:Unit→Shared→Prop} (ho:s.heap.get? it = some o) (hc:o.cls = .type n) (hd:o.data = .fields vs)
    (hn:["enumerate","zip","dict_itemiterator","dict_reverseitemiterator","odict_iterator","itertools.zip_longest","itertools.pairwise"].contains n = false) (hQ:Q () s):wpAny M A (letOwnedTupleGo tg (.ref it) u) Q E s:=by
  unfold letOwnedTupleGo
  cases tg <;> first
    | exact wpAny_pure hQ
    | (cases u <;> first
        | exact wpAny_pure hQ
        | (refine wpAny_bind (wpAny_load ho ?_)
           rw [hc,hd]
           show wpAny M A (if (["enumerate","zip","dict_itemiterator","dict_reverseitemiterator","odict_iterator","itertools.zip_longest","itertools.pairwise"].contains n && vs[0]? == some (rawInt _)) = true then _ else _) Q E s
           rw [if_neg (by intro h; rw [hn,Bool.false_and] at h; cases h)]
           exact wpAny_pure hQ))
def Itl (K:PySem.W.Frag) (a:Addr):It :=
 ⟨fun i H=>∃ xs x,SqL K H a xs∧xs[i]? = some x,fun i H x H'=>H' = H∧∀ xs,SqL K H a xs→xs[i]? = some x,fun i H=>∃ xs,SqL K H a xs∧xs.length ≤ i⟩
def Itr (lo:Int) (n:Nat):It:=⟨fun i _=>i < n,fun i H x H'=>H' = H∧x = .int (lo + i),fun i _=>n ≤ i⟩
theorem jmw {P:Program} {w:World} {K:PySem.W.Frag} {tg:Expr} (a it:Addr):Turn P w K tg (Itl K a) [it] it (fun i h=>h.IsListIter it a i) where
 mem:=by simp
 obj:=fun i h st b hb=>by
  have e:b = it:=by simpa using hb
  subst e
  obtain ⟨o,e,c,d⟩:=st
  exact ⟨o,e,fun v z=>by rw [d] at z; cases z⟩
 keep:=fun i h h' st k=>st.at fun o e=>k it (by simp) o e
 item:=by
  intro X hP hw hK hc i pins s σ H E I hf st hg
  subst hP hw hK
  obtain ⟨xs,x,hq,hx⟩:=hg
  obtain ⟨its,rv,p,hz⟩:=I.list hq
  obtain ⟨u,hu,ru⟩:=rv.get hx
  obtain ⟨f0,f1,f2,f3,f4,f5⟩:=hf it (by simp)
  refine wpAny_pyNext_list_item st p.isList (x:=u) (by simpa using hu) fun h' st' sb=>?_
  have I1:Inv X pins σ H { s with heap:=h' }:=I.turned (t':=s.toks) (fun b o hb e=>(sb.2 b hb).trans e) f0 f1 f3 f4 f5
  obtain ⟨o,e,c,d⟩:=id st'
  exact ⟨u,rfl,js2 (s:={ s with heap:=h' }) e c d (by decide) ⟨x,H,I1,ru,⟨rfl,fun ys hy=>by rw [I.list_inj hy hq]; exact hx⟩,st',fun b hb=>(hf b hb).1⟩⟩
 done:=by
  intro X hP hw hK hc i pins s σ H E I hf st hg
  subst hP hw hK
  obtain ⟨xs,hq,hx⟩:=hg
  obtain ⟨its,rv,p,hz⟩:=I.list hq
  obtain ⟨f0,f1,f2,f3,f4,f5⟩:=hf it (by simp)
  have hl:=rv.length
  exact wpAny_pyNext_list_end (I.ok.hd hc) st p.isList (by simp; omega) fun h' eb=>⟨rfl,I.turned (t':=s.toks) (fun b o hb e=>eb b o hb e) f0 f1 f3 f4 f5⟩
 self:=fun _ _ _ _ _ st h=>wpAny_pyIter_listiter st h
theorem jm7 {P:Program} {w:World} {K:PySem.W.Frag} {tg:Expr} (it:Addr) (lo:Int) (n:Nat):Turn P w K tg (Itr lo n) [it] it (fun i h=>IsRangeIter h it (lo + (i:Nat) * 1) ((n:Int) - (i:Nat)) 1) where
 mem:=by simp
 obj:=fun i h st b hb=>by
  have e:b = it:=by simpa using hb
  subst e
  exact ⟨_,st,fun v z=>by
   have z':Data.fields _ = Data.cell v:=z
   cases z'⟩
 keep:=fun i h h' st k=>k it (by simp) _ st
 item:=by
  intro X hP hw hK hc i pins s σ H E I hf st hg
  subst hP hw hK
  obtain ⟨f0,f1,f2,f3,f4,f5⟩:=hf it (by simp)
  have W:=Walks.range (prog:=X.prog) (w:=X.w) (I.ok.hd hc) it lo 1 n
  refine W.item i s _ _ hg st fun v h' tk hv st' kk=>?_
  obtain ⟨t,rfl⟩:=hv
  have I1:Inv X pins σ H { s with heap:=h',toks:=tk }:=I.turned (fun b o hb e=>kk b o (by simpa using hb) e) f0 f1 f3 f4 f5
  refine ⟨_,rfl,js2 (s:={ s with heap:=h',toks:=tk }) (n:="range_iterator") st' rfl rfl (by decide) ⟨.int (lo + i),H,I1,⟨t,?_⟩,⟨rfl,rfl⟩,st',fun b hb=>(hf b hb).1⟩⟩
  rw [Int.mul_one]
 done:=by
  intro X hP hw hK hc i pins s σ H E I hf st hg
  subst hP hw hK
  obtain ⟨f0,f1,f2,f3,f4,f5⟩:=hf it (by simp)
  exact wpAny_pyNext_range_end (I.ok.hd hc) st (by have:n ≤ i:=hg; omega) fun h' eb=>⟨rfl,I.turned (t':=s.toks) (fun b o hb e=>eb b o hb e) f0 f1 f3 f4 f5⟩
 self:=fun _ _ _ _ _ st h=>wpAny_pyIter_rangeiter st h
end L2
namespace L2
open PySem PySem.Spec PyProof.Rows
section
variable {X:Cx} {tg:Expr}
def jcu (K:PySem.W.Frag) (tl:TE):TI:=fun σ H R=>tl σ H fun x H1=>∃ a,x = .ref a∧(∃ xs,SqL K H1 a xs)∧R (Itl K a) H1
theorem jbx {l:Expr} {tl:TE} (hl:PE X l tl):PI X tg l (jcu X.K tl):=by
 intro pins s σ H R I h
 refine thn (hl pins s σ H _ I h) fun v s1 ⟨x,H1,I1,r1,q1⟩=>?_
 obtain ⟨a,e,⟨xs,hq⟩,q⟩:=q1
 subst e
 cases r1
 obtain ⟨its,rv,p,hz⟩:=I1.list hq
 refine wpAny_pyIter_list p.isList ?_
 refine ⟨s1.heap.objs.size,[s1.heap.objs.size],_,_,H1,rfl,I1.kept (t':=s1.toks) fun b o e=>Heap.get?_push_of_some _ e,jmw a _,⟨_,Heap.get?_push_size _ rfl,rfl,rfl⟩,fun b hb=>?_,q⟩
 have e:b = s1.heap.objs.size:=by simpa using hb
 subst e
 exact I1.fpOk (Nat.le_refl _) (I1.hok.fresh (Nat.le_refl _))
theorem jlg {pins:List (Addr × Obj)} {σ:St} {H:Hp} {s:Shared} {R:It→Hp→Prop} {E:Value→Shared→Prop} {lo hi:Int} {t u v:Tok} {tk:Nat} (I:Inv X pins σ H s) (h1:-(2 ^ 62) ≤ lo) (h2:lo < 2 ^ 62) (h3:-(2 ^ 62) ≤ hi) (h4:hi < 2 ^ 62)
  (q:R (Itr lo (hi - lo).toNat) H):wpAny (model X.prog X.w) X.A (pyIter (.ref s.heap.objs.size)) (PIE X pins σ tg R) E { s with heap:=s.heap.push { cls:=.type "range",data:=.fields #[.int lo t,.int hi u,.int 1 v] },toks:=tk }:=by
 refine wpAny_pyIter_range (IsRange.new ..) (small_one h1 h2 h3 h4) ?_
 have I1:Inv X pins σ H { s with heap:=s.heap.push { cls:=.type "range",data:=.fields #[.int lo t,.int hi u,.int 1 v] },toks:=tk }:=I.kept fun b o e=>Heap.get?_push_of_some _ e
 refine ⟨(s.heap.push { cls:=.type "range",data:=.fields #[.int lo t,.int hi u,.int 1 v] }).objs.size,[(s.heap.push { cls:=.type "range",data:=.fields #[.int lo t,.int hi u,.int 1 v] }).objs.size],_,_,H,rfl,
  I1.kept (t':=tk) fun b o e=>Heap.get?_push_of_some _ e,jm7 _ lo (hi - lo).toNat,?_,fun b hb=>?_,q⟩
 ·have e1:lo + ((0:Nat):Int) * 1 = lo:=by simp
  have e2:(((hi - lo).toNat:Nat):Int) - ((0:Nat):Int) = Builtin.Range.rangeSize lo hi 1:=by rw [rangeSize_one]; split <;> omega
  show IsRangeIter _ _ (lo + ((0:Nat):Int) * 1) ((((hi - lo).toNat:Nat):Int) - ((0:Nat):Int)) 1
  rw [e1,e2]
  exact Heap.get?_push_size _ rfl
 ·have e:b = (s.heap.push { cls:=.type "range",data:=.fields #[.int lo t,.int hi u,.int 1 v] }).objs.size:=by simpa using hb
  subst e
  exact I1.fpOk (Nat.le_refl _) (I1.hok.fresh (Nat.le_refl _))
def jmn (ta:TA):TI:=fun σ H R=>ta σ H fun vs H1=>∃ j:Int,vs = [.int j]∧-(2 ^ 62) ≤ j∧j < 2 ^ 62∧R (Itr 0 j.toNat) H1
def iRng2 (ta:TA):TI:=fun σ H R=>ta σ H fun vs H1=>∃ i j:Int,vs = [.int i,.int j]∧(-(2 ^ 62) ≤ i∧i < 2 ^ 62∧-(2 ^ 62) ≤ j∧j < 2 ^ 62)∧R (Itr i (j - i).toNat) H1
theorem jdl {a:Expr} {ta:TA} {p pos:Pos} (hg:Gl X "range") (hm:X.mg "range" = none) (ha:PA X [a] ta) (hs:starEach [a] X.env = [(false,eval a X.env)]:=by rfl):PI X tg (.Call (.Name "range" p) [a] [] pos) (jmn ta):=by
 intro pins s σ H R I h
 refine Call_ (jg5 I hg hm boot_range (PyProof.Rows.callWith_type1 (thn (ha pos pins s σ H _ I h) fun us s1 ⟨vs,H1,I1,r1,q1⟩=>?_) hs rfl))
 obtain ⟨j,e,q1,q2,q⟩:=q1
 subst e
 cases r1 with
 | cons r rr =>
  cases rr
  obtain ⟨t,rfl⟩:=r
  exact call_range_1 (jlg I1 (by omega) (by omega) q1 q2 (by simpa using q))
theorem jnu {a b:Expr} {ta:TA} {p pos:Pos} (hg:Gl X "range") (hm:X.mg "range" = none) (ha:PA X [a,b] ta) (hs:starEach [a,b] X.env = [(false,eval a X.env),(false,eval b X.env)]:=by rfl) (hs2:starEach [b] X.env = [(false,eval b X.env)]:=by rfl) :
  PI X tg (.Call (.Name "range" p) [a,b] [] pos) (iRng2 ta):=by
 intro pins s σ H R I h
 refine Call_ (jg5 I hg hm boot_range (PyProof.Rows.callWith_type1 (thn (ha pos pins s σ H _ I h) fun us s1 ⟨vs,H1,I1,r1,q1⟩=>?_) (by rw [hs,hs2]) (by rw [hs2]; rfl)))
 obtain ⟨i,j,e,⟨q1,q2,q3,q4⟩,q⟩:=q1
 subst e
 cases r1 with
 | cons r rr =>
  cases rr with
  | cons r' rr =>
   cases rr
   obtain ⟨t,rfl⟩:=r
   obtain ⟨t',rfl⟩:=r'
   exact call_range_2 (jlg I1 q1 q2 q3 q4 q)
def tFor (wi:TI) (g:TG) (tb:TS):TS:=fun D σ H=>wi σ H fun J H1=>∃ W:Nat→Nat→St→Hp→Prop,(∃ m,W 0 m σ H1)∧∀ i m σ H,W i m σ H →
 (J.stop i H∧D.nx σ H) ∨ (J.go i H∧∃ N:St→Hp→Prop,(∀ σ' H',N σ' H'→∃ m',m' < m∧W (i + 1) m' σ' H')∧∀ x H',J.yld i H x H'→g x σ H' fun σ2 H2=>tb { D with nx:=N,ct:=N,bk:=D.nx } σ2 H2)
def jj6 (fp:List Addr) (h:Heap):List (Addr × Obj):=fp.filterMap fun b=>(h.get? b).map fun o=>(b,o)
theorem jdr {fp:List Addr} {h:Heap} {b:Addr} {o:Obj} (hb:b ∈ fp) (e:h.get? b = some o):(b,o) ∈ jj6 fp h:=List.mem_filterMap.mpr ⟨b,hb,by rw [e]; rfl⟩
theorem jo0 {fp:List Addr} {h:Heap} {p:Addr × Obj} (hp:p ∈ jj6 fp h):p.1 ∈ fp∧h.get? p.1 = some p.2:=by
 obtain ⟨b,hb,e⟩:=List.mem_filterMap.mp hp
 cases q:h.get? b with
 | none=>rw [q] at e; cases e
 | some o =>
  rw [q] at e
  have e':(b,o) = p:=Option.some.inj e
  subst e'
  exact ⟨hb,q⟩
theorem Inv.pinned {pins:List (Addr × Obj)} {σ:St} {H:Hp} {s:Shared} {fp:List Addr} (I:Inv X pins σ H s) (hf:∀ b ∈ fp,FpOk X pins H b) (ho:∀ b ∈ fp,∃ o,s.heap.get? b = some o∧∀ v,o.data ≠ .cell v):Inv X (pins ++ jj6 fp s.heap) σ H s :=
 I.pins_of fun p hp=>(List.mem_append.mp hp).elim (fun z=>I.pin p (List.mem_append_right _ z)) fun z=>by
  obtain ⟨hb,e⟩:=jo0 z
  obtain ⟨f0,f1,f2,_⟩:=hf p.1 hb
  obtain ⟨o,e',d⟩:=ho p.1 hb
  rw [e] at e'; cases e'
  exact ⟨e,f0,f1,f2,d⟩
theorem Inv.unpinned {pins pl:List (Addr × Obj)} {σ:St} {H:Hp} {s:Shared} (I:Inv X (pins ++ pl) σ H s):Inv X pins σ H s:=I.pins_of fun p hp=>I.pin p (List.mem_append_right _ (List.mem_append_left _ hp))
theorem jca {iter:Expr} {body:List Stmt} {wi:TI} {g:TG} {tb:TS} {pos:Pos} (hp:PassesOwn (model X.prog X.w) X.A X.env X.xe) (hc:X.calm = true) (hi:PI X tg iter wi) (hg:PG X tg g) (hb:PSs X body tb)
  (hs:∀ x,foldedSetIterable iter X.env x = pure x:=by intro _; rfl):PS X (.For tg iter body [] pos) (tFor wi g tb):=by
 intro pins s σ H D I h
 refine wpAny_For (thn (hi pins s σ H _ I h) fun v s1 h1=>thn h1 fun itv s2 h2=>?_) hs
 obtain ⟨it,fp,tn,J,H2,e,I2,T,st2,f2,W,⟨m0,w0⟩,turn⟩:=h2
 subst e
  -- what stays true of the iterator's objects through the loop
 have stat:∀ {H':Hp},(∀ b ∈ fp,H' b = none)→∀ b ∈ fp,FpOk X pins H' b:=fun hn b hb=>⟨hn b hb,(f2 b hb).2⟩
 refine codeAny_forLoop_any (fun n s'=>∃ i σ' H',Inv X pins σ' H' s'∧tn i s'.heap∧(∀ b ∈ fp,H' b = none)∧W i n σ' H') ?_ m0 ⟨0,σ,H2,I2,st2,fun b hb=>(f2 b hb).1,w0⟩
 rintro n s3 ⟨i,σ3,H3,I3,st3,fr3,w3⟩
 rcases turn i n σ3 H3 w3 with ⟨stop,qn⟩ | ⟨go,N,hN,step⟩
 ·refine wpAny_passesOwn hp (thn (T.done X rfl rfl rfl hc i pins s3 σ3 H3 X.xe I3 (stat fr3) st3 stop) fun r s4 ⟨hr,I4⟩=>?_)
  subst hr
  exact wpAny_execs_nil ⟨σ3,H3,I4,qn⟩
 ·refine wpAny_passesOwn hp (thn (T.item X rfl rfl rfl hc i pins s3 σ3 H3 X.xe I3 (stat fr3) st3 go) fun r s4 ⟨u,hr,h4⟩=>?_)
  subst hr
  refine wpAny_passesOwn hp (thn h4 fun _ s5 ⟨x,H5,I5,r5,y5,st5,fr5⟩=>?_)
  have I5':=I5.pinned (stat fr5) (T.obj _ _ st5)
  refine wpAny_passesOwn hp (thn (hg _ s5 σ3 H5 x u _ I5' r5 (step x H5 y5)) fun _ s6 ⟨σ6,H6,I6,q6⟩=>?_)
  refine wpAny_passesOwn hp (thn (hb _ s6 σ6 H6 _ I6 q6) fun f s7 q7=>?_)
  have again:∀ {σ7:St} {H7:Hp},Inv X (pins ++ jj6 fp s5.heap) σ7 H7 s7→N σ7 H7→∃ m,m < n∧∃ i σ' H',Inv X pins σ' H' s7∧tn i s7.heap∧(∀ b ∈ fp,H' b = none)∧W i m σ' H':=fun {σ7 H7} I7 n7=>by
   obtain ⟨m',hm,w7⟩:=hN σ7 H7 n7
   refine ⟨m',hm,i + 1,σ7,H7,I7.unpinned,T.keep _ _ _ st5 fun b hb o e=>(I7.pin (b,o) (List.mem_append_right _ (List.mem_append_right _ (jdr hb e)))).1,fun b hb=>?_,w7⟩
   obtain ⟨o,e,d⟩:=T.obj _ _ st5 b hb
   exact (I7.pin (b,o) (List.mem_append_right _ (List.mem_append_right _ (jdr hb e)))).2.1
  cases f with
  | next=>obtain ⟨σ7,H7,I7,n7⟩:=q7; exact again I7 n7
  | cont=>obtain ⟨σ7,H7,I7,n7⟩:=q7; exact again I7 n7
  | brk=>obtain ⟨σ7,H7,I7,q7⟩:=q7; exact ⟨σ7,H7,I7.unpinned,q7⟩
  | ret v=>obtain ⟨x7,σ7,H7,I7,r7,q7⟩:=q7; exact ⟨x7,σ7,H7,I7.unpinned,r7,q7⟩
end
theorem jc9 {K:PySem.W.Frag} {a:Addr} {xs:List V} {g:TG} {tb:TS} {D:Ends} {σ:St} {H:Hp} (Pv:Nat→St→Hp→Prop) (h0:Pv 0 σ H) (hl:∀ i σ H,i ≤ xs.length→Pv i σ H→SqL K H a xs)
  (hs:∀ i x σ H,xs[i]? = some x→Pv i σ H→g x σ H fun σ2 H2=>tb { D with nx:=Pv (i + 1),ct:=Pv (i + 1),bk:=D.nx } σ2 H2) (hd:∀ σ H,Pv xs.length σ H→D.nx σ H) :
  ∃ W:Nat→Nat→St→Hp→Prop,(∃ m,W 0 m σ H)∧∀ i m σ H,W i m σ H →
   ((Itl K a).stop i H∧D.nx σ H) ∨ ((Itl K a).go i H∧∃ N:St→Hp→Prop,(∀ σ' H',N σ' H'→∃ m',m' < m∧W (i + 1) m' σ' H')∧∀ x H',(Itl K a).yld i H x H'→g x σ H' fun σ2 H2=>tb { D with nx:=N,ct:=N,bk:=D.nx } σ2 H2):=by
 refine ⟨fun i m σ H=>m = xs.length - i∧i ≤ xs.length∧Pv i σ H,⟨xs.length,by simp,Nat.zero_le _,h0⟩,?_⟩
 rintro i m σ H ⟨rfl,hi,p⟩
 have q:=hl i σ H hi p
 by_cases hlt:i < xs.length
 ·refine .inr ⟨⟨xs,xs[i],q,by simp [hlt]⟩,Pv (i + 1),fun σ' H' p'=>⟨xs.length - (i + 1),by omega,rfl,hlt,p'⟩,fun x H' y=>?_⟩
  obtain ⟨e,y⟩:=y
  subst e
  exact hs i x σ _ (y xs q) p
 ·have e:i = xs.length:=by omega
  subst e
  exact .inl ⟨⟨xs,q,Nat.le_refl _⟩,hd σ H p⟩
theorem jec {lo:Int} {n:Nat} {g:TG} {tb:TS} {D:Ends} {σ:St} {H:Hp} (Pv:Nat→St→Hp→Prop) (h0:Pv 0 σ H)
  (hs:∀ i σ H,i < n→Pv i σ H→g (.int (lo + i)) σ H fun σ2 H2=>tb { D with nx:=Pv (i + 1),ct:=Pv (i + 1),bk:=D.nx } σ2 H2) (hd:∀ σ H,Pv n σ H→D.nx σ H) :
  ∃ W:Nat→Nat→St→Hp→Prop,(∃ m,W 0 m σ H)∧∀ i m σ H,W i m σ H →
   ((Itr lo n).stop i H∧D.nx σ H) ∨ ((Itr lo n).go i H∧∃ N:St→Hp→Prop,(∀ σ' H',N σ' H'→∃ m',m' < m∧W (i + 1) m' σ' H')∧∀ x H',(Itr lo n).yld i H x H'→g x σ H' fun σ2 H2=>tb { D with nx:=N,ct:=N,bk:=D.nx } σ2 H2):=by
 refine ⟨fun i m σ H=>m = n - i∧i ≤ n∧Pv i σ H,⟨n,by simp,Nat.zero_le _,h0⟩,?_⟩
 rintro i m σ H ⟨rfl,hi,p⟩
 by_cases hlt:i < n
 ·refine .inr ⟨hlt,Pv (i + 1),fun σ' H' p'=>⟨n - (i + 1),by omega,rfl,hlt,p'⟩,fun x H' y=>?_⟩
  obtain ⟨e,y⟩:=y
  subst e y
  exact hs i σ _ hlt p
 ·have e:i = n:=by omega
  subst e
  exact .inl ⟨Nat.le_refl _,hd σ H p⟩
theorem jf4 {c:TT} {tb:TS} {D:Ends} {σ:St} {H:Hp} (Pv:St→Hp→Prop) (μ:St→Hp→Nat) (h0:Pv σ H)
  (hs:∀ σ H,Pv σ H→c σ H fun b H1=>if b = true then tb { D with nx:=fun σ' H'=>Pv σ' H'∧μ σ' H' < μ σ H,ct:=fun σ' H'=>Pv σ' H'∧μ σ' H' < μ σ H,bk:=D.nx } σ H1 else D.nx σ H1)
  (mono:∀ σ H Q Q',(∀ b H1,Q b H1→Q' b H1)→c σ H Q→c σ H Q'):jq9 c tb D σ H:=by
 refine ⟨fun m σ H=>m = μ σ H∧Pv σ H,⟨_,rfl,h0⟩,?_⟩
 rintro m σ H ⟨rfl,p⟩
 refine mono σ H _ _ (fun b H1 q=>?_) (hs σ H p)
 cases b with
 | true=>exact ⟨_,fun σ' H' ⟨p',l⟩=>⟨_,l,rfl,p'⟩,q⟩
 | false=>exact q
end L2
namespace L2
open PySem PySem.Spec PyProof.Rows
abbrev R2:=V→V→Hp→VK→Prop
def OpR (X:Cx) (f:Value→Value→Sem Value) (r:R2):Prop :=
 ∀ (pins:List (Addr × Obj)) (s:Shared) (σ:St) (H:Hp) (x y:V) (v u:Value) (Q:VK),Inv X pins σ H s→RelV x v→RelV y u→r x y H Q →
  wpAny (model X.prog X.w) X.A (f v u) (EP X pins σ Q) X.xe s
def UnR (X:Cx) (f:Value→Sem Value) (r:V→Hp→VK→Prop):Prop :=
 ∀ (pins:List (Addr × Obj)) (s:Shared) (σ:St) (H:Hp) (x:V) (v:Value) (Q:VK),Inv X pins σ H s→RelV x v→r x H Q →
  wpAny (model X.prog X.w) X.A (f v) (EP X pins σ Q) X.xe s
def jd9 (X:Cx) (f:Value) (r:List V→Hp→VK→Prop):Prop :=
 ∀ (pins:List (Addr × Obj)) (s:Shared) (σ:St) (H:Hp) (xs:List V) (us:List Value) (Q:VK),Inv X pins σ H s→Vals xs us→r xs H Q →
  wpAny (model X.prog X.w) X.A (call f us) (EP X pins σ Q) X.xe s
def TruR (X:Cx) (r:V→Hp→(Bool→Hp→Prop)→Prop):Prop :=
 ∀ (pins:List (Addr × Obj)) (s:Shared) (σ:St) (H:Hp) (x:V) (v:Value) (Q:Bool→Hp→Prop),Inv X pins σ H s→RelV x v→r x H Q →
  wpAny (model X.prog X.w) X.A (truthy v) (TP X pins σ Q) X.xe s
def tOp (r:R2) (ta tb:TE):TE:=fun σ H Q=>ta σ H fun x H1=>tb σ H1 fun y H2=>r x y H2 Q
def tUn (r:V→Hp→VK→Prop) (ta:TE):TE:=fun σ H Q=>ta σ H fun x H1=>r x H1 Q
def rI (C:Int→Int→Prop) (g:Int→Int→V):R2:=fun x y H Q=>∃ i j,x = .int i∧y = .int j∧C i j∧Q (g i j) H
def rI0 (g:Int→Int→V):R2:=fun x y H Q=>∃ i j,x = .int i∧y = .int j∧Q (g i j) H
def rU (g:Int→V):V→Hp→VK→Prop:=fun x H Q=>∃ i,x = .int i∧Q (g i) H
section
variable {X:Cx} {a b c:Expr} {ta tb tc:TE} {pos:Pos}
theorem binT (ha:PE X a ta) (hb:PE X b tb) {pins:List (Addr × Obj)} {s:Shared} {σ:St} {H:Hp} {R:V→V→Hp→Prop} (I:Inv X pins σ H s)
  (h:ta σ H fun x H1=>tb σ H1 fun y H2=>R x y H2) {Q:Value→Shared→Prop} {f:Value→Value→Sem Value}
  (hf:∀ v u s2 x y H2,Inv X pins σ H2 s2→RelV x v→RelV y u→R x y H2→wpAny (model X.prog X.w) X.A (f v u) Q X.xe s2) :
  wpAny (model X.prog X.w) X.A (eval a X.env) (fun v s₁=>wpAny (model X.prog X.w) X.A (eval b X.env) (fun u s₂=>wpAny (model X.prog X.w) X.A (f v u) Q X.xe s₂) X.xe s₁) X.xe s:=by
 refine thn (ha pins s σ H _ I h) fun v s1 ⟨x,H1,I1,r1,q1⟩=>?_
 refine thn (hb pins s1 σ H1 _ I1 q1) fun u s2 ⟨y,H2,I2,r2,q2⟩=>?_
 exact hf v u s2 x y H2 I2 r1 r2 q2
theorem jc6 {op:Operator} {r:R2} (ho:OpR X (binaryOp op) r) (ha:PE X a ta) (hb:PE X b tb):PE X (.BinOp a op b pos) (tOp r ta tb):=by
 intro pins s σ H Q I h
 exact wpAny_BinOp (binT ha hb I h fun v u s2 x y H2 I2 rx ry q=>ho pins s2 σ H2 x y v u Q I2 rx ry q)
theorem jpi {op:UnaryOp} {r:V→Hp→VK→Prop} (ho:UnR X (unaryOp op) r) (ha:PE X a ta):PE X (.UnaryOp op a pos) (tUn r ta):=by
 intro pins s σ H Q I h
 exact UnaryOp_ (thn (ha pins s σ H _ I h) fun v s1 ⟨x,H1,I1,r1,q1⟩=>ho pins s1 σ H1 x v Q I1 r1 q1)
theorem opI {f:Value→Value→Sem Value} {C:Int→Int→Prop} {g:Int→Int→Int}
  (rule:∀ (i j:Int) (t u:Tok) (s:Shared) (Q:Value→Shared→Prop) (E:Value→Shared→Prop),C i j→Q (.int (g i j) s.toks) { s with toks:=s.toks + 1 }→wpAny (model X.prog X.w) X.A (f (.int i t) (.int j u)) Q E s) :
  OpR X f (rI C fun i j=>.int (g i j)):=by
 intro pins s σ H x y v u Q I rx ry h
 obtain ⟨i,j,rfl,rfl,hc,q⟩:=h
 obtain ⟨t,rfl⟩:=rx
 obtain ⟨t',rfl⟩:=ry
 exact rule i j t t' s _ _ hc ⟨.int (g i j),H,I.tok _,⟨_,rfl⟩,q⟩
theorem opI0 {f:Value→Value→Sem Value} {g:Int→Int→Int}
  (rule:∀ (i j:Int) (t u:Tok) (s:Shared) (Q:Value→Shared→Prop) (E:Value→Shared→Prop),Q (.int (g i j) s.toks) { s with toks:=s.toks + 1 }→wpAny (model X.prog X.w) X.A (f (.int i t) (.int j u)) Q E s) :
  OpR X f (rI0 fun i j=>.int (g i j)):=by
 intro pins s σ H x y v u Q I rx ry h
 obtain ⟨i,j,rfl,rfl,q⟩:=h
 obtain ⟨t,rfl⟩:=rx
 obtain ⟨t',rfl⟩:=ry
 exact rule i j t t' s _ _ ⟨.int (g i j),H,I.tok _,⟨_,rfl⟩,q⟩
theorem opB0 {f:Value→Value→Sem Value} {g:Int→Int→Bool}
  (rule:∀ (i j:Int) (t u:Tok) (s:Shared) (Q:Value→Shared→Prop) (E:Value→Shared→Prop),Q (.bool (g i j)) s→wpAny (model X.prog X.w) X.A (f (.int i t) (.int j u)) Q E s) :
  OpR X f (rI0 fun i j=>.bl (g i j)):=by
 intro pins s σ H x y v u Q I rx ry h
 obtain ⟨i,j,rfl,rfl,q⟩:=h
 obtain ⟨t,rfl⟩:=rx
 obtain ⟨t',rfl⟩:=ry
 exact rule i j t t' s _ _ ⟨.bl (g i j),H,I,rfl,q⟩
def CDiv (i j:Int):Prop:=0 < j∧j < 1073741824
def CPow (i j:Int):Prop:=0 ≤ j∧j ≤ 1000000∧i.natAbs < 2 ^ 64
def CMul (i j:Int):Prop:=(-(2 ^ 64) < i∧i < 2 ^ 64) ∨ (-(2 ^ 64) < j∧j < 2 ^ 64)
theorem CMul.ok {i j:Int} (h:CMul i j):IntMulOk i j:=by
 rcases h with ⟨h1,h2⟩ | ⟨h1,h2⟩
 ·exact .of_left (intBits_le_64 h1 h2)
 ·exact .of_right (intBits_le_64 h1 h2)
theorem op_add:OpR X (binaryOp .Add) (rI0 fun i j=>.int (i + j)):=opI0 fun _ _ _ _ _ _ _ q=>add_int q
theorem op_sub:OpR X (binaryOp .Sub) (rI0 fun i j=>.int (i - j)):=opI0 fun _ _ _ _ _ _ _ q=>sub_int q
theorem op_mul:OpR X (binaryOp .Mult) (rI CMul fun i j=>.int (i * j)):=opI fun _ _ _ _ _ _ _ hc q=>mul_int q hc.ok
theorem jrk:OpR X (binaryOp .FloorDiv) (rI CDiv fun i j=>.int (i / j)):=opI fun i j _ _ _ _ _ hc q=>by
 have h1:(0:Int) < j:=hc.1
 have h2:j < 1073741824:=hc.2
 exact floordiv_int (by omega) (by rw [Int.fdiv_eq_ediv_of_nonneg i (by omega)]; exact q) (.inl (PyProof.noPylong_small (by omega)))
theorem op_mod:OpR X (binaryOp .Mod) (rI (fun _ j=>0 < j) fun i j=>.int (i % j)):=opI fun i j _ _ _ _ _ hc q=>by
 have h1:(0:Int) < j:=hc
 exact mod_int' (by omega) (by rw [Int.fmod_eq_emod_of_nonneg i (by omega)]; exact q)
theorem op_pow:OpR X (binaryOp .Pow) (rI CPow fun i j=>.int (i ^ j.toNat)):=opI fun _ _ _ _ _ _ _ hc q=>pow_int_small hc.1 hc.2.1 hc.2.2 q
theorem jry:OpR X (inplaceOp .Add) (rI0 fun i j=>.int (i + j)):=opI0 fun _ _ _ _ _ _ _ q=>iadd_int q
theorem unI {f:Value→Sem Value} {g:Int→Int}
  (rule:∀ (i:Int) (t:Tok) (s:Shared) (Q:Value→Shared→Prop) (E:Value→Shared→Prop),Q (.int (g i) s.toks) { s with toks:=s.toks + 1 }→wpAny (model X.prog X.w) X.A (f (.int i t)) Q E s) :
  UnR X f (rU fun i=>.int (g i)):=by
 intro pins s σ H x v Q I rx h
 obtain ⟨i,rfl,q⟩:=h
 obtain ⟨t,rfl⟩:=rx
 exact rule i t s _ _ ⟨.int (g i),H,I.tok _,⟨_,rfl⟩,q⟩
theorem un_neg:UnR X (unaryOp .USub) (rU fun i=>.int (-i)):=unI fun _ _ _ _ _ q=>neg_int q
end
def scal:V→V→Bool
 | .non,.non=>true | .non,.int _=>true | .int _,.non=>true | .non,.bl _=>true | .bl _,.non=>true | .non,.str _=>true | .str _,.non=>true
 | .int _,.int _=>true | .bl _,.bl _=>true | .str _,.str _=>true | .byt _,.byt _=>true
 | .int _,.str _=>true | .str _,.int _=>true | .bl _,.str _=>true | .str _,.bl _=>true
 | _,_=>false
def rEq:R2:=fun x y H Q=>scal x y = true∧Q (.bl (decide (x = y))) H
def rNe:R2:=fun x y H Q=>scal x y = true∧Q (.bl (!decide (x = y))) H
theorem jop {i j:Int}:decide (V.int i = V.int j) = (i == j):=by
 rw [Bool.eq_iff_iff]
 simp
theorem jqx {i j:Bool}:decide (V.bl i = V.bl j) = (i == j):=by
 rw [Bool.eq_iff_iff]
 simp
theorem joo {i j:Str}:decide (V.str i = V.str j) = (i == j):=by
 rw [Bool.eq_iff_iff]
 simp
theorem joq {i j:Array UInt8}:decide (V.byt i = V.byt j) = (i.toList == j.toList):=by
 rw [Bool.eq_iff_iff]
 cases i
 cases j
 simp
section
variable {X:Cx} {a b c:Expr} {ta tb tc:TE} {pos:Pos}
theorem jc0 {pins:List (Addr × Obj)} {σ:St} {H:Hp} {s:Shared} {Q:VK} {k k':Bool} (I:Inv X pins σ H s) (q:Q (.bl k) H) (e:k = k'):EP X pins σ Q (.bool k') s:=by
 subst e
 exact ⟨.bl k,H,I,rfl,q⟩
theorem op_eq:OpR X (compareOp .Eq) rEq:=by
 intro pins s σ H x y v u Q I rx ry h
 obtain ⟨hs,q⟩:=h
 cases x with
 | non =>
  cases rx
  cases y with
  | non=>cases ry; exact PySem.EqNone.eq_none_none (jc0 I q (by simp))
  | bl j=>cases ry; exact PySem.EqNone.eq_none_bool (jc0 I q (by simp))
  | int j=>obtain ⟨t',rfl⟩:=ry; exact PySem.EqNone.eq_none_int (jc0 I q (by simp))
  | str j=>obtain ⟨t',rfl⟩:=ry; exact PySem.EqNone.eq_none_str (jc0 I q (by simp))
  | _=>exact absurd (show false = true from hs) Bool.false_ne_true
 | bl i =>
  cases rx
  cases y with
  | non=>cases ry; exact PySem.EqNone.eq_bool_none (jc0 I q (by simp))
  | bl j=>cases ry; exact eq_bool (jc0 I q jqx)
  | str j=>obtain ⟨t',rfl⟩:=ry; exact PySem.EqMixed.eq_bool_str (jc0 I q (by simp))
  | _=>exact absurd (show false = true from hs) Bool.false_ne_true
 | int i =>
  obtain ⟨t,rfl⟩:=rx
  cases y with
  | non=>cases ry; exact PySem.EqNone.eq_int_none (jc0 I q (by simp))
  | int j=>obtain ⟨t',rfl⟩:=ry; exact eq_int (jc0 I q jop)
  | str j=>obtain ⟨t',rfl⟩:=ry; exact PySem.EqMixed.eq_int_str (jc0 I q (by simp))
  | _=>exact absurd (show false = true from hs) Bool.false_ne_true
 | str i =>
  obtain ⟨t,rfl⟩:=rx
  cases y with
  | non=>cases ry; exact PySem.EqNone.eq_str_none (jc0 I q (by simp))
  | bl j=>cases ry; exact PySem.EqMixed.eq_str_bool (jc0 I q (by simp))
  | int j=>obtain ⟨t',rfl⟩:=ry; exact PySem.EqMixed.eq_str_int (jc0 I q (by simp))
  | str j=>obtain ⟨t',rfl⟩:=ry; exact eq_str (jc0 I q joo)
  | _=>exact absurd (show false = true from hs) Bool.false_ne_true
 | byt i =>
  obtain ⟨t,rfl⟩:=rx
  cases y with
  | byt j=>obtain ⟨t',rfl⟩:=ry; exact PySem.W.eq_bytes (jc0 I q joq)
  | _=>exact absurd (show false = true from hs) Bool.false_ne_true
 | _=>cases y <;> exact absurd (show false = true from hs) Bool.false_ne_true
theorem op_ne:OpR X (compareOp .NotEq) rNe:=by
 intro pins s σ H x y v u Q I rx ry h
 obtain ⟨hs,q⟩:=h
 cases x with
 | non =>
  cases rx
  cases y with
  | non=>cases ry; exact PySem.EqNone.ne_none_none (jc0 I q (by simp))
  | bl j=>cases ry; exact PySem.EqNone.ne_none_bool (jc0 I q (by simp))
  | int j=>obtain ⟨t',rfl⟩:=ry; exact PySem.EqNone.ne_none_int (jc0 I q (by simp))
  | str j=>obtain ⟨t',rfl⟩:=ry; exact PySem.EqNone.ne_none_str (jc0 I q (by simp))
  | _=>exact absurd (show false = true from hs) Bool.false_ne_true
 | bl i =>
  cases rx
  cases y with
  | non=>cases ry; exact PySem.EqNone.ne_bool_none (jc0 I q (by simp))
  | bl j=>cases ry; exact ne_bool (jc0 I q (congrArg not jqx))
  | str j=>obtain ⟨t',rfl⟩:=ry; exact PySem.EqMixed.ne_bool_str (jc0 I q (by simp))
  | _=>exact absurd (show false = true from hs) Bool.false_ne_true
 | int i =>
  obtain ⟨t,rfl⟩:=rx
  cases y with
  | non=>cases ry; exact PySem.EqNone.ne_int_none (jc0 I q (by simp))
  | int j=>obtain ⟨t',rfl⟩:=ry; exact ne_int (jc0 I q (congrArg not jop))
  | str j=>obtain ⟨t',rfl⟩:=ry; exact PySem.EqMixed.ne_int_str (jc0 I q (by simp))
  | _=>exact absurd (show false = true from hs) Bool.false_ne_true
 | str i =>
  obtain ⟨t,rfl⟩:=rx
  cases y with
  | non=>cases ry; exact PySem.EqNone.ne_str_none (jc0 I q (by simp))
  | bl j=>cases ry; exact PySem.EqMixed.ne_str_bool (jc0 I q (by simp))
  | int j=>obtain ⟨t',rfl⟩:=ry; exact PySem.EqMixed.ne_str_int (jc0 I q (by simp))
  | str j=>obtain ⟨t',rfl⟩:=ry; exact ne_str (jc0 I q (congrArg not joo))
  | _=>exact absurd (show false = true from hs) Bool.false_ne_true
 | byt i =>
  obtain ⟨t,rfl⟩:=rx
  cases y with
  | byt j=>obtain ⟨t',rfl⟩:=ry; exact PySem.W.ne_bytes (jc0 I q (congrArg not joq))
  | _=>exact absurd (show false = true from hs) Bool.false_ne_true
 | _=>cases y <;> exact absurd (show false = true from hs) Bool.false_ne_true
theorem op_lt:OpR X (compareOp .Lt) (rI0 fun i j=>.bl (decide (i < j))):=opB0 fun _ _ _ _ _ _ _ q=>lt_int q
theorem op_le:OpR X (compareOp .LtE) (rI0 fun i j=>.bl (decide (i ≤ j))):=opB0 fun _ _ _ _ _ _ _ q=>le_int q
theorem op_gt:OpR X (compareOp .Gt) (rI0 fun i j=>.bl (decide (j < i))):=opB0 fun _ _ _ _ _ _ _ q=>gt_int q
theorem op_ge:OpR X (compareOp .GtE) (rI0 fun i j=>.bl (decide (j ≤ i))):=opB0 fun _ _ _ _ _ _ _ q=>ge_int q
theorem op_isN:OpR X (compareOp .Is) (fun x y H Q=>y = .non∧Q (.bl (decide (x = .non))) H):=by
 intro pins s σ H x y v u Q I rx ry h
 obtain ⟨rfl,q⟩:=h
 cases ry
 refine is_none_gen (jc0 I q ?_)
 cases x <;> first
  | (cases rx; rfl)
  | (obtain ⟨t,rfl⟩:=rx; rfl)
theorem jrj:OpR X (compareOp .IsNot) (fun x y H Q=>y = .non∧Q (.bl (!decide (x = .non))) H):=by
 intro pins s σ H x y v u Q I rx ry h
 obtain ⟨rfl,q⟩:=h
 cases ry
 refine isnot_none_gen (jc0 I q ?_)
 cases x <;> first
  | (cases rx; rfl)
  | (obtain ⟨t,rfl⟩:=rx; rfl)
theorem jbv (b:Expr) {op:CmpOp} (h:op ≠ .In:=by decide) (h2:op ≠ .NotIn:=by decide):behindInMarks op b = false:=by
 have e1:(op == CmpOp.In) = false:=by cases op <;> first | rfl | exact absurd rfl h
 have e2:(op == CmpOp.NotIn) = false:=by cases op <;> first | rfl | exact absurd rfl h2
 cases b <;> simp [behindInMarks,e1,e2]
theorem jch {op:CmpOp} {r:R2} (ho:OpR X (compareOp op) r) (ha:PE X a ta) (hb:PE X b tb) (hm:behindInMarks op b = false):PE X (.Compare a [op] [b] pos) (tOp r ta tb):=by
 intro pins s σ H Q I h
 exact wpAny_Compare1 (binT ha hb I h fun v u s2 x y H2 I2 rx ry q=>ho pins s2 σ H2 x y v u Q I2 rx ry q) hm
def TruV (K:PySem.W.Frag) (x:V) (H:Hp) (k:Bool):Prop :=
 match x with
 | .non=>k = false
 | .bl b=>k = b
 | .int i=>k = (i != 0)
 | .str y=>y.length ≤ sizeLine∧k = ((y.length:Int) != 0)
 | .byt y=>y.size ≤ sizeLine∧k = ((y.size:Int) != 0)
 | .ref p=>(∃ xs,SqL K H p xs∧k = !xs.isEmpty) ∨ (∃ xs,SqT K H p xs∧k = !xs.isEmpty) ∨ ∃ kvs,H p = some (.dK kvs)∧k = !kvs.isEmpty
 | _=>False
theorem jmm {κ:Type} {kvs:List (κ × V)} {vs:List (κ × Value)} (r:KV kvs vs):(!vs.isEmpty) = !kvs.isEmpty:=by
 cases r <;> rfl
theorem jh5 {xs:List V} {its:List Value} (r:Vals xs its):(!its.toArray.isEmpty) = !xs.isEmpty:=by
 cases r <;> simp
theorem jh0:(sizeLine:Nat) < 2 ^ 63:=by rw [sizeLine_eq]; decide
theorem tru_ok:TruR X (fun x H Q=>∃ k,TruV X.K x H k∧Q k H):=by
 intro pins s σ H x v Q I rx h
 obtain ⟨k,e,q⟩:=h
 have hl:=jh0
 have hs:sizeLine = 16777216:=sizeLine_eq
 cases x with
 | non =>
  cases rx
  have e':k = false:=e
  subst e'
  exact truthy_none ⟨H,I,q⟩
 | bl b =>
  cases rx
  have e':k = b:=e
  subst e'
  exact wpAny_truthy_bool ⟨H,I,q⟩
 | int i =>
  obtain ⟨t,rfl⟩:=rx
  have e':k = (i != 0):=e
  subst e'
  exact PySem.P.truthy_int ⟨H,I,q⟩
 | str y =>
  obtain ⟨t,rfl⟩:=rx
  obtain ⟨hy,e'⟩:y.length ≤ sizeLine∧k = ((y.length:Int) != 0):=e
  subst e'
  exact PySem.P.truthy_str (by omega) ⟨H,I.tok _,q⟩
 | byt y =>
  obtain ⟨t,rfl⟩:=rx
  obtain ⟨hy,e'⟩:y.size ≤ sizeLine∧k = ((y.size:Int) != 0):=e
  subst e'
  exact PySem.W.truthy_bytes (by omega) ⟨H,I.tok _,q⟩
 | ref p =>
  cases rx
  have e':(∃ xs,SqL X.K H p xs∧k = !xs.isEmpty) ∨ (∃ xs,SqT X.K H p xs∧k = !xs.isEmpty) ∨ ∃ kvs,H p = some (.dK kvs)∧k = !kvs.isEmpty:=e
  rcases e' with ⟨xs,hx,e'⟩ | ⟨xs,hx,e'⟩ | ⟨kvs,hx,e'⟩
  ·subst e'
   obtain ⟨its,r,pl,hz⟩:=I.list hx
   have hlen:=r.length
   exact wpAny_truthy_list pl.isList (by simp only [List.size_toArray]; omega) ⟨H,I.tok _,by rw [jh5 r]; exact q⟩
  ·subst e'
   obtain ⟨its,r,pl,hz⟩:=I.tuple hx
   have hlen:=r.length
   exact truthy_tuple pl (by simp only [List.size_toArray]; omega) ⟨H,I.tok _,by rw [jh5 r]; exact q⟩
  ·subst e'
   obtain ⟨hz,hS,vs,r,m⟩:kvs.length ≤ sizeLine∧(p == sysModules) = false∧∃ vs,KV kvs vs∧s.heap.DictOf (jbz X.prog X.w) p vs:=I.hok p _ hx
   have hlen:kvs.length = vs.length:=Paired.length r
   exact wpAny_truthy_dict hS m (by omega) ⟨H,I.tok _,by rw [jmm r]; exact q⟩
 | _=>exact (show False from e).elim
theorem jpf (ha:PE X a ta) (he:∀ whole,isTrue a X.env whole = (do let v ← whole; standAt a.pos; holding [v] (truthy v))) :
  PT X a (fun σ H Q=>ta σ H fun x H'=>∃ k,TruV X.K x H' k∧Q k H'):=by
 intro pins s σ H Q I h
 exact isTrue_plain (thn (ha pins s σ H _ I h) fun v s1 ⟨x,H1,I1,r1,q1⟩=>tru_ok pins s1 σ H1 x v Q I1 r1 q1) (he _)
theorem jk4 {x:V} {us:List Value} (r:Vals [x] us):∃ u,us = [u]∧RelV x u:=by
 cases r with
 | cons r1 r2=>cases r2; exact ⟨_,rfl,r1⟩
theorem vals2 {x y:V} {us:List Value} (r:Vals [x,y] us):∃ u w',us = [u,w']∧RelV x u∧RelV y w':=by
 cases r with
 | cons r1 r2 =>
  cases r2 with
  | cons r3 r4=>cases r4; exact ⟨_,_,rfl,r1,r3⟩
theorem jow (hc:X.calm = true):jd9 X (.builtin "max") (fun xs H Q=>∃ i j,xs = [.int i,.int j]∧Q (.int (if j > i then j else i)) H):=by
 intro pins s σ H xs us Q I r h
 obtain ⟨i,j,rfl,q⟩:=h
 obtain ⟨u,w',rfl,⟨t,rfl⟩,⟨t',rfl⟩⟩:=vals2 r
 refine max_two_ints (I.ok.hd hc) fun h' tk k=>⟨_,H,I.kept k,?_,q⟩
 by_cases hj:j > i
 ·rw [if_pos hj,if_pos hj]; exact ⟨_,rfl⟩
 ·rw [if_neg hj,if_neg hj]; exact ⟨_,rfl⟩
theorem jov (hc:X.calm = true):jd9 X (.builtin "min") (fun xs H Q=>∃ i j,xs = [.int i,.int j]∧Q (.int (if j < i then j else i)) H):=by
 intro pins s σ H xs us Q I r h
 obtain ⟨i,j,rfl,q⟩:=h
 obtain ⟨u,w',rfl,⟨t,rfl⟩,⟨t',rfl⟩⟩:=vals2 r
 refine min_two_ints (I.ok.hd hc) fun h' tk k=>⟨_,H,I.kept k,?_,q⟩
 by_cases hj:j < i
 ·rw [if_pos hj,if_pos hj]; exact ⟨_,rfl⟩
 ·rw [if_neg hj,if_neg hj]; exact ⟨_,rfl⟩
theorem jox:jd9 X (.type "int") (fun xs H Q=>(∃ i,xs = [.int i]∧Q (.int i) H) ∨ ∃ k,xs = [.bl k]∧Q (.int (if k then 1 else 0)) H):=by
 intro pins s σ H xs us Q I r h
 rcases h with ⟨i,rfl,q⟩ | ⟨k,rfl,q⟩
 ·obtain ⟨u,rfl,t,rfl⟩:=jk4 r
  exact call_int_int ⟨.int i,H,I,⟨_,rfl⟩,q⟩
 ·obtain ⟨u,rfl,r1⟩:=jk4 r
  cases r1
  exact call_int_bool ⟨.int (if k then 1 else 0),H,I.tok _,⟨_,rfl⟩,q⟩
end
end L2
namespace L2
open PySem PySem.Spec PyProof.Rows
structure ObjM (h:Heap) (x dx C:Addr) (mA:Str→Option Value):Prop where
 obj:h.get? x = some (PySem.W.instObj C dx)
 ns:h.Ns1 dx mA
 ne:dx ≠ x
theorem jo6 {h:Heap} {dx:Addr} {mA:Str→Option Value} (n:h.Ns1 dx mA):∃ od,h.get? dx = some od∧∀ name,PySem.W.lookIn name od = some (mA name):=by
 obtain ⟨o,es,ep,ho,hd,hk,_,hm⟩:=n
 refine ⟨o,ho,fun name=>?_⟩
 have e:=hm name
 unfold nsFind findBy at e
 rw [← Array.find?_toList] at e
 unfold PySem.W.lookIn
 rw [hd]
 dsimp only
 split
 ·rename_i y q
  rw [q] at e
  exact congrArg some e
 ·rename_i q
  rw [q] at e
  have a:es.toList.any (·.refKey) = false:=by
   rw [List.any_eq_false]
   intro y hy
   obtain ⟨z,t,hkey⟩:=hk y (Array.mem_toList_iff.mp hy)
   simp [DictEntry.refKey,hkey]
  have a':¬ es.toList.any (·.refKey) = true:=by rw [a]; exact Bool.false_ne_true
  rw [if_neg a']
  exact congrArg some e
theorem ObjM.look {h:Heap} {x dx C:Addr} {mA:Str→Option Value} (I:ObjM h x dx C mA):∃ od,PySem.W.InstAt h x (PySem.W.instObj C dx) C (some od)∧∀ name,PySem.W.lookIn name od = some (mA name) :=
 let ⟨od,ho,hl⟩:=jo6 I.ns
 ⟨od,⟨I.obj,rfl,rfl,ho⟩,hl⟩
section
variable {prog:Program} {w:World} {A:Around} {E:Value→Shared→Prop} {s:Shared} {K:PySem.W.Frag} {x dx C f:Addr} {mA:Str→Option Value} {name:Str} {v:Value}
theorem js3 {expr:Bool} {Q:Value→Shared→Prop} (X:K.In s.heap) (I:ObjM s.heap x dx C mA) (hg:PySem.W.plainGet K C name = true) (hh:PySem.W.hasDictIn K C = true)
  (ha:PySem.W.findIn K (.ref C) name = some none) (hv:mA name = some v) (hv':PySem.W.handedIn v = true) (h:Q v { s with toks:=s.toks + 1 }) :
  wpAny (model prog w) A (getAttr (.ref x) name expr) Q E s:=by
 obtain ⟨od,J,hl⟩:=I.look
 exact PySem.W.get_value X J (PySem.W.plainGet_of hg).1 (PySem.W.findObj_own hh ha rfl (by rw [hl,hv])) hv' h
theorem jpx {pl:Sem Bool} {Q:Value × List Value→Shared→Prop} (X:K.In s.heap) (I:ObjM s.heap x dx C mA) (hg:PySem.W.plainGet K C name = true)
  (hf:PySem.W.findIn K (.ref C) name = some (some (.ref f))) (ht:PySem.W.isFn K (.ref f) = true) (hv:mA name = none) (h:Q (.ref f,[.ref x]) s) :
  wpAny (model prog w) A (getMethod (.ref x) name pl) Q E s:=by
 obtain ⟨od,J,hl⟩:=I.look
 exact PySem.W.method_fn X J (PySem.W.plainGet_of hg).1 (PySem.W.plainGet_of hg).2 hf (beq_iff_eq.mp ht) (by show (PySem.W.lookIn name od).map (·.isSome) = some false; rw [hl,hv]; rfl) h
theorem jr6 {ns:List Str} {Q:Unit→Shared→Prop} (X:K.In s.heap) (I:ObjM s.heap x dx C mA)
  (hs:PySem.W.findIn K (.ref C) "__setattr__" = some (some (.builtin "object.__setattr__"))) (hp:PySem.W.plainOver K C = true) (ht:PySem.W.takerIn K C name = some none) (hh:PySem.W.hasDictIn K C = true)
  (hw:PySem.Within mA ns) (hsz:ns.length ≤ sizeLine)
  (h:∀ h',ObjM h' x dx C (fun y=>if y = name then some v else mA y)→Heap.SameBut dx s.heap h'→Q () { s with heap:=h',toks:=s.toks + 2 }) :
  wpAny (model prog w) A (setAttr (.ref x) name v) Q E s:=by
 obtain ⟨od,J,hl⟩:=I.look
 refine PySem.W.set_plain X J hs (PySem.W.osa_open (s:={ s with toks:=s.toks + 1 }) (r:=none) X J hp ht fun b=>?_)
 obtain ⟨cd,hc,hd'⟩:=PySem.W.any_some hh
 have hx:s.heap.get? x = some ⟨.ref C,some dx,.plain,#[]⟩:=I.obj
 refine wpAny_bind (wpAny_pure (wpAny_bind (wpAny_bind (wpAny_loadPart hx (wpAny_bind (PySem.W.Looks.here (s:={ s with toks:=s.toks + 1 }) (PySem.W.looks_clsIn X hc) ?_))))))
 rw [hd']
 refine wpAny_pure (a:=some dx) (wpAny_bind (wpAny_pure (wpAny_bind ?_)))
 refine wpAny_nsSet1 (s:={ s with toks:=s.toks + 1 }) I.ns fun h' hn2 hs2=>?_
 obtain ⟨oD,esD,epD,hoD,hdD,hcD⟩:=hn2.count (PySem.Within.cons name v hw)
 refine wpAny_bind (wpAny_lookBehind hoD (by rw [hdD]; exact pastItsLine_dict (Nat.le_trans hcD (by rw [List.length_cons]; omega))) ?_)
 exact wpAny_pure (h _ ⟨(hs2.2 _ (Ne.symm I.ne)).trans I.obj,hn2,I.ne⟩ hs2)
theorem jps {R:Result→Shared→Prop} {vs:List Value} {kw:List (Str × Value)} (X:K.In s.heap) (hm:PySem.W.makesIn K C = true)
  (hi:PySem.W.findIn K (.ref C) "__init__" = some (some (.ref f))) (hf:PySem.W.typeIn K (.ref f) = some (.type "function"))
  (h:codeAny (model prog w) (A.under (.builtin "type.__call__" ⟨.ref C :: vs,kw⟩)) (.call (.ref f) ⟨.ref (s.heap.objs.size + 1) :: vs,kw⟩) (PySem.W.InitBack (s.heap.objs.size + 1) R)
   { s with heap:=(s.heap.push PySem.W.emptyDict).push (PySem.W.instObj C s.heap.objs.size) }) :
  codeAny (model prog w) A (.call (.ref C) ⟨vs,kw⟩) R s:=by
 obtain ⟨hh,g,d,t,os⟩:=s
 exact PySem.W.make_core (PySem.W.makes_of X hm) (PySem.W.looks_findIn X hi) (fun self=>PySem.W.bind_fn X self hf) (.inl rfl) h
end
def putF (f:Str) (v:V):List (Str × V)→List (Str × V)
 | []=>[(f,v)]
 | (g,x) :: r=>if g = f then (g,v) :: r else (g,x) :: putF f v r
theorem jg1 (f g:Str) (v:V):∀ fs:List (Str × V),(putF f v fs).lookup g = if g = f then some v else fs.lookup g
 | []=>by
  show List.lookup g [(f,v)] = _
  by_cases h:g = f
  ·have hb:(g == f) = true:=beq_iff_eq.mpr h
   simp only [List.lookup,hb,if_pos h]
  ·have hb:(g == f) = false:=beq_eq_false_iff_ne.mpr h
   simp only [List.lookup,hb,if_neg h]
 | (k,x) :: r=>by
  have ih:=jg1 f g v r
  rw [show putF f v ((k,x) :: r) = (if k = f then (k,v) :: r else (k,x) :: putF f v r) from rfl]
  by_cases hk:k = f
  ·rw [if_pos hk]
   by_cases h:g = k
   ·have hb:(g == k) = true:=beq_iff_eq.mpr h
    simp only [List.lookup,hb,if_pos (h.trans hk)]
   ·have hb:(g == k) = false:=beq_eq_false_iff_ne.mpr h
    simp only [List.lookup,hb,if_neg (fun e:g = f=>h (e.trans hk.symm))]
  ·rw [if_neg hk]
   by_cases h:g = k
   ·have hb:(g == k) = true:=beq_iff_eq.mpr h
    simp only [List.lookup,hb,if_neg (fun e:g = f=>hk (h.symm.trans e))]
   ·have hb:(g == k) = false:=beq_eq_false_iff_ne.mpr h
    simp only [List.lookup,hb]
    exact ih
theorem jg7 (f:Str) (v:V):∀ fs:List (Str × V),f ∈ (putF f v fs).map (·.1)∧∀ g,g ∈ fs.map (·.1)→g ∈ (putF f v fs).map (·.1)
 | []=>⟨by simp [putF],fun g h=>by simp at h⟩
 | (k,x) :: r=>by
  obtain ⟨i1,i2⟩:=jg7 f v r
  rw [show putF f v ((k,x) :: r) = (if k = f then (k,v) :: r else (k,x) :: putF f v r) from rfl]
  by_cases hk:k = f
  ·rw [if_pos hk]
   subst hk
   exact ⟨by simp,fun g h=>by simpa using h⟩
  ·rw [if_neg hk]
   refine ⟨?_,fun g h=>?_⟩
   ·rw [List.map_cons]
    exact List.mem_cons_of_mem _ i1
   ·rw [List.map_cons] at h ⊢
    rcases List.mem_cons.mp h with e | e
    ·exact List.mem_cons.mpr (.inl e)
    ·exact List.mem_cons_of_mem _ (i2 g e)
theorem jg4 (f:Str) (v:V):∀ fs:List (Str × V),(putF f v fs).length ≤ fs.length + 1
 | []=>by simp [putF]
 | (k,x) :: r=>by
  have ih:=jg4 f v r
  rw [show putF f v ((k,x) :: r) = (if k = f then (k,v) :: r else (k,x) :: putF f v r) from rfl]
  by_cases hk:k = f
  ·rw [if_pos hk,List.length_cons,List.length_cons]; omega
  ·rw [if_neg hk,List.length_cons,List.length_cons]; omega
theorem RelO.some_of {v:V} {o:Option Value} (r:RelO (some v) o):∃ u,o = some u∧RelV v u:=by
 cases o with
 | none=>exact (show False from r).elim
 | some u=>exact ⟨u,rfl,r⟩
theorem RelO.none_of {o:Option Value} (r:RelO none o):o = none:=by
 cases o with
 | none=>rfl
 | some u=>exact (show False from r).elim
theorem joj {v:V} {u:Value} (r:RelV v u):PySem.W.handedIn u = true:=by
 cases v with
 | non=>cases (show u = Value.none from r); rfl
 | bl b=>cases (show u = Value.bool b from r); rfl
 | int i=>obtain ⟨t,e⟩:=(show ∃ t,u = Value.int i t from r); cases e; rfl
 | str x=>obtain ⟨t,e⟩:=(show ∃ t,u = Value.str x t from r); cases e; rfl
 | byt b=>obtain ⟨t,e⟩:=(show ∃ t,u = Value.bytes b t from r); cases e; rfl
 | flt b=>obtain ⟨t,e⟩:=(show ∃ t,u = Value.float b t from r); cases e; rfl
 | ref a=>cases (show u = Value.ref a from r); rfl
 | ty n=>cases (show u = Value.type n from r); rfl
section
variable {P:Program} {w:World} {H H':Hp} {h h':Heap} {a C dx:Addr} {fs fs':List (Str × V)}
theorem ji7 (hok:HOk P w H h) (e:H a = some (.ins C dx fs)):∃ mA,ObjM h a dx C mA∧(∀ f,RelO (fs.lookup f) (mA f))∧PySem.Within mA (fs.map (·.1))∧fs.length ≤ 1000∧H dx = some (.own a):=by
 obtain ⟨d,z,ne,ob,mA,n,r,q⟩:=(show jcp P w H h a (.ins C dx fs) from hok a _ e)
 exact ⟨mA,⟨ob,n,ne⟩,r,q,z,d⟩
end
structure Cls (K:PySem.W.Frag) (C:Addr):Prop where
 pg:PySem.W.plainGet K C Str.empty = true
 hd:PySem.W.hasDictIn K C = true
 po:PySem.W.plainOver K C = true
 sa:PySem.W.findIn K (.ref C) "__setattr__" = some (some (.builtin "object.__setattr__"))
theorem Cls.get {K:PySem.W.Frag} {C:Addr} (c:Cls K C) (f:Str):PySem.W.plainGet K C f = true:=c.pg
def jeh (K:PySem.W.Frag) (C:Addr) (f:Str):Prop:=PySem.W.findIn K (.ref C) f = some none
theorem jeh.taker {K:PySem.W.Frag} {C:Addr} {f:Str} (n:jeh K C f):PySem.W.takerIn K C f = some none:=by
 unfold PySem.W.takerIn
 rw [show PySem.W.findIn K (.ref C) f = some none from n]
 rfl
structure Meth (K:PySem.W.Frag) (C:Addr) (m:Str) (f:Addr):Prop where
 at_:PySem.W.findIn K (.ref C) m = some (some (.ref f))
 fn:PySem.W.isFn K (.ref f) = true
 kp:PySem.W.keepIn K (.ref f) = true
section
variable {X:Cx} {pins:List (Addr × Obj)} {σ:St} {H:Hp} {s:Shared} {a C dx:Addr} {fs:List (Str × V)} {f:Str} {v:V} {A:Around} {E:Value→Shared→Prop}
theorem jmo {b:Bool} {Q:Value→Shared→Prop} (I:Inv X pins σ H s) (e:H a = some (.ins C dx fs)) (c:Cls X.K C) (n:jeh X.K C f) (l:fs.lookup f = some v)
  (h:∀ u s',Inv X pins σ H s'→RelV v u→Q u s'):wpAny (model X.prog X.w) A (getAttr (.ref a) f b) Q E s:=by
 obtain ⟨mA,O,r,_,_,_⟩:=ji7 I.hok e
 obtain ⟨u,hu,ru⟩:=RelO.some_of (v:=v) (o:=mA f) (by rw [← l]; exact r f)
 exact js3 I.kIn O (c.get f) c.hd n hu (joj ru) (h u _ (I.tok _) ru)
theorem jh8 {m:Str} {g:Addr} {pl:Sem Bool} {Q:Value × List Value→Shared→Prop} (I:Inv X pins σ H s) (e:H a = some (.ins C dx fs)) (c:Cls X.K C) (k:Meth X.K C m g) (l:fs.lookup m = none)
  (h:Q (.ref g,[.ref a]) s):wpAny (model X.prog X.w) A (getMethod (.ref a) m pl) Q E s:=by
 obtain ⟨mA,O,r,_,_,_⟩:=ji7 I.hok e
 have hn:mA m = none:=RelO.none_of (by rw [← l]; exact r m)
 exact jpx I.kIn O (c.get m) k.at_ k.fn hn h
theorem jmb {y:V} {u:Value} {Q:Unit→Shared→Prop} (I:Inv X pins σ H s) (e:H a = some (.ins C dx fs)) (c:Cls X.K C) (n:jeh X.K C f) (hl:fs.length < 1000) (ry:RelV y u)
  (h:∀ s',Inv X pins σ (upd H a (.ins C dx (putF f y fs))) s'→Q () s'):wpAny (model X.prog X.w) A (setAttr (.ref a) f u) Q E s:=by
 obtain ⟨mA,O,r,wi,_,ho⟩:=ji7 I.hok e
 have hz:(fs.map (·.1)).length ≤ sizeLine:=by rw [List.length_map,sizeLine_eq]; omega
 refine jr6 I.kIn O c.sa c.po n.taker c.hd wi hz fun h' O' sb=>h _ ?_
 have hd:∃ o,h'.get? dx = some o:=let ⟨o,_,_,e',_⟩:=O'.ns; ⟨o,e'⟩
 refine I.write (x:=a) (e:=dx) (by rw [e]; exact True.intro) (.inr ho) (fun b q hb z=>(sb.2 b hb).trans z) hd ?_
 refine ⟨by rw [jaj O.ne]; exact ho,?_,O.ne,O'.obj,_,O'.ns,fun g=>?_,fun g hg=>?_⟩
 ·have:=jg4 f y fs; omega
 ·show RelO ((putF f y fs).lookup g) (if g = f then some u else mA g)
  rw [jg1]
  by_cases q:g = f
  ·rw [if_pos q,if_pos q]; exact ry
  ·rw [if_neg q,if_neg q]; exact r g
 ·by_cases q:g = f
  ·rw [q]; exact (jg7 f y fs).1
  ·refine (jg7 f y fs).2 g (wi g fun z=>hg ?_)
   show (if g = f then some u else mA g) = none
   rw [if_neg q]; exact z
theorem Inv.made (I:Inv X pins σ H s):Inv X pins σ (upd (upd H s.heap.objs.size (.own (s.heap.objs.size + 1))) (s.heap.objs.size + 1) (.ins C s.heap.objs.size []))
  { s with heap:=(s.heap.push PySem.W.emptyDict).push (PySem.W.instObj C s.heap.objs.size) }:=by
 have e1:(s.heap.push PySem.W.emptyDict).get? s.heap.objs.size = some PySem.W.emptyDict:=Heap.get?_push_size s.heap rfl
 have e2:((s.heap.push PySem.W.emptyDict).push (PySem.W.instObj C s.heap.objs.size)).get? (s.heap.objs.size + 1) = some (PySem.W.instObj C s.heap.objs.size):=by
  have:=Heap.get?_push_size (s.heap.push PySem.W.emptyDict) (o:=PySem.W.instObj C s.heap.objs.size) rfl
  rwa [Heap.size_push] at this
 have e3:(s.heap.push PySem.W.emptyDict).Ns s.heap.objs.size (fun _=>none):=⟨PySem.W.emptyDict,#[],_,e1,rfl,(fun e he=>absurd he (by simp)),fun _=>rfl⟩
 have I1:=I.laid (a:=s.heap.objs.size) (o:=.own (s.heap.objs.size + 1)) (h':=s.heap.push PySem.W.emptyDict) (t':=s.toks) (fun b u q=>Heap.get?_push_of_some _ q) (Nat.le_refl _) ⟨_,e1⟩
 refine I1.laid (a:=s.heap.objs.size + 1) (o:=.ins C s.heap.objs.size []) (t':=s.toks) (fun b u q=>Heap.get?_push_of_some _ q) (Nat.le_of_eq (Heap.size_push _ _)) ?_
 have ne:s.heap.objs.size ≠ s.heap.objs.size + 1:=Nat.ne_of_lt (Nat.lt_succ_self _)
 refine ⟨by rw [jaj ne,ja1],Nat.zero_le _,ne,e2,fun _=>none,(Heap.Ns1.of_empty e3).at fun o q=>Heap.get?_push_of_some _ q,fun _=>True.intro,fun y hy=>absurd rfl hy⟩
theorem jsc {prog:Program} {w:World} {env:Env} {e:Expr} {f:Str} {pos:Pos} {s:Shared} {Q:Value→Shared→Prop} (hb:attributeBase e f env (eval e env) = eval e env)
  (h:wpAny (model prog w) A (eval e env) (fun o s₁=>wpAny (model prog w) A (getAttr o f true) Q E s₁) E s):wpAny (model prog w) A (eval (.Attribute e f pos) env) Q E s :=
 Attribute_any_ h (by rw [arm_eval_Attribute,hb])
end
section
variable {X:Cx} {o e value:Expr} {f:Str} {pos pos' tpos:Pos} {ta tv:TE}
end
section
variable {X:Cx} {pins:List (Addr × Obj)} {σ:St} {H:Hp} {s:Shared} {A:Around} {E:Value→Shared→Prop} {Q:Value→Shared→Prop} {c:Value} {b:Bool}
inductive TyOf (K:PySem.W.Frag) (H:Hp):V→Value→Prop where
 | non:TyOf K H .non (.type "NoneType")
 | bl (x:Bool):TyOf K H (.bl x) (.type "bool")
 | int (i:Int):TyOf K H (.int i) (.type "int")
 | str (x:Str):TyOf K H (.str x) (.type "str")
 | flt (x:UInt64):TyOf K H (.flt x) (.type "float")
 | lst {a:Addr} {xs:List V} (e:H a = some (.lst xs)):TyOf K H (.ref a) (.type "list")
 | frz {a:Addr} {o:Obj} {xs:List V} (e:H a = some (.frz o (.lst xs))):TyOf K H (.ref a) (.type "list")
 | tup {a:Addr} {xs:List V} (e:H a = some (.tup xs)):TyOf K H (.ref a) (.type "tuple")
 | dK {a:Addr} {kvs:List (Key × V)} (e:H a = some (.dK kvs)):TyOf K H (.ref a) (.type "dict")
 | dT {a:Addr} {kvs:List (List Key × V)} (e:H a = some (.dT kvs)):TyOf K H (.ref a) (.type "dict")
 | ins {a C dx:Addr} {fs:List (Str × V)} (e:H a = some (.ins C dx fs)) (cl:Cls K C) (ha:PySem.W.findIn K (.ref C) "__class__" = some (some (.builtin "object.__class__")))
   (hn:PySem.W.specialIn K (.builtin "object.__class__") "__get__" = some (some (.builtin "getset_descriptor.__get__"))) (htk:PySem.W.takesIn K (.builtin "object.__class__") = some true)
   (hm:PySem.W.mroIn K C (.type "object") = some true):TyOf K H (.ref a) (.ref C)
theorem jof {x:V} {u t:Value} (I:Inv X pins σ H s) (rx:RelV x u) (ty:TyOf X.K H x t) (e:PySem.W.kitOne X.K t c = some b) (h:∀ tk,Q (.bool b) { s with toks:=tk }) :
  wpAny (model X.prog X.w) A (call (.builtin "isinstance") [u,c]) Q E s:=by
 cases ty with
 | non=>cases (show u = Value.none from rx); exact PySem.W.kia_one PySem.W.kitx_none I.kIn True.intro e (fun z=>nomatch z) h
 | bl y=>cases (show u = Value.bool y from rx); exact PySem.W.kia_one PySem.W.kitx_bool I.kIn True.intro e (fun z=>nomatch z) h
 | int i=>obtain ⟨t,q⟩:=(show ∃ t,u = Value.int i t from rx); cases q; exact PySem.W.kia_one PySem.W.kitx_int I.kIn True.intro e (fun z=>nomatch z) h
 | str y=>obtain ⟨t,q⟩:=(show ∃ t,u = Value.str y t from rx); cases q; exact PySem.W.kia_one PySem.W.kitx_str I.kIn True.intro e (fun z=>nomatch z) h
 | flt y=>obtain ⟨t,q⟩:=(show ∃ t,u = Value.float y t from rx); cases q; exact PySem.W.kia_one PySem.W.kitx_float I.kIn True.intro e (fun z=>nomatch z) h
 | @lst a xs ea =>
  cases (show u = Value.ref a from rx)
  obtain ⟨_,_,n,_,h1⟩:=(show jcp X.prog X.w H s.heap a (.lst xs) from I.hok a _ ea)
  exact PySem.W.kia_one PySem.W.kitx_list I.kIn ⟨_,h1,rfl⟩ e (fun z=>nomatch z) h
 | @frz a ob xs ea =>
  cases (show u = Value.ref a from rx)
  obtain ⟨_,_,_,n,_,h1⟩:=(show jcp X.prog X.w H s.heap a (.frz ob (.lst xs)) from I.hok a _ ea)
  exact PySem.W.kia_one PySem.W.kitx_list I.kIn ⟨_,h1,rfl⟩ e (fun z=>nomatch z) h
 | @tup a xs ea =>
  cases (show u = Value.ref a from rx)
  obtain ⟨_,_,_,p⟩:=(show jcp X.prog X.w H s.heap a (.tup xs) from I.hok a _ ea)
  obtain ⟨o,h1,h2,_⟩:=p
  exact PySem.W.kia_one PySem.W.kitx_tuple I.kIn ⟨o,h1,h2⟩ e (fun z=>nomatch z) h
 | @dK a kvs ea =>
  cases (show u = Value.ref a from rx)
  obtain ⟨_,_,vs,_,p⟩:=(show jcp X.prog X.w H s.heap a (.dK kvs) from I.hok a _ ea)
  obtain ⟨o,es,ep,h1,h2,_⟩:=p
  exact PySem.W.kia_one PySem.W.kitx_dict I.kIn ⟨o,h1,h2.1⟩ e (fun z=>nomatch z) h
 | @dT a kvs ea =>
  cases (show u = Value.ref a from rx)
  obtain ⟨_,_,xs,_,o,es,ep,h1,h2,_⟩:=(show jcp X.prog X.w H s.heap a (.dT kvs) from I.hok a _ ea)
  exact PySem.W.kia_one PySem.W.kitx_dict I.kIn ⟨o,h1,h2.1⟩ e (fun z=>nomatch z) h
 | @ins a C dx fs ea cl ha hn htk hm =>
  cases (show u = Value.ref a from rx)
  obtain ⟨mA,O,_⟩:=ji7 I.hok ea
  obtain ⟨od,J,_⟩:=O.look
  exact PySem.W.kia_one (PySem.W.kitx_own (cl.get _) cl.hd ha hn htk hm) I.kIn J e (fun z=>nomatch z) h
end
end L2
namespace L2
open PySem PySem.Spec PyProof.Rows
structure Room (k:Nat) (A:Around):Prop where
 hd:A.handled = none
 dp:A.depth + 3 * k + 5 < recursionLimit
 un:A.units + 16 * k + 200 < cLine
 gd:A.guards = some []
theorem Room.mono {j k:Nat} {A:Around} (r:Room k A) (h:j ≤ k):Room j A:=⟨r.hd,by have:=r.dp; omega,by have:=r.un; omega,by first | exact r.gd | (simp only [Around.deeper,Around.in1,Around.under]; exact r.gd)⟩
theorem Room.deeper {k:Nat} {A:Around} (r:Room (k + 1) A) (env:Env):Room k (A.deeper env) :=
 ⟨r.hd,by have:=r.dp; show A.depth + 1 + 3 * k + 5 < _; omega,by have:=r.un; show A.units + 3 + 16 * k + 200 < _; omega,by first | exact r.gd | (simp only [Around.deeper,Around.in1,Around.under]; exact r.gd)⟩
theorem jml {A:Around} {C:Addr} {us:List Value} {kw:List (Str × Value)}:(A.under (.builtin "type.__call__" ⟨.ref C :: us,kw⟩)).depth = A.depth + 1:=by
 first | rfl | simp [Around.under,Code.weight,Code.isCreation,Code.isGuard,Code.isCaller,Code.frames,Code.isFrame,guardIds]
theorem jmk {A:Around} {C:Addr} {us:List Value} {kw:List (Str × Value)}:(A.under (.builtin "type.__call__" ⟨.ref C :: us,kw⟩)).units = A.units + 1:=by
 first | rfl | simp [Around.under,Code.cUnits,Code.frames,Code.isFrame]
theorem Room.make {k:Nat} {A:Around} (r:Room (k + 1) A) (C:Addr) (us:List Value) (kw:List (Str × Value)):Room k (A.under (.builtin "type.__call__" ⟨.ref C :: us,kw⟩)) :=
 ⟨r.hd,by have:=r.dp; rw [jml]; omega,by have:=r.un; rw [jmk]; omega,by first | exact r.gd | (simp only [Around.deeper,Around.in1,Around.under]; exact r.gd)⟩
theorem Room.depth {k:Nat} {A:Around} (r:Room k A):A.depth < recursionLimit:=by have:=r.dp; omega
theorem Room.units {k:Nat} {A:Around} (r:Room k A):A.units + 64 < cLine:=by have:=r.un; omega
def tNil:TA:=fun _ H Q=>Q [] H
def jap (ta:TE) (tr:TA):TA:=fun σ H Q=>ta σ H fun x H1=>tr σ H1 fun xs H2=>Q (x :: xs) H2
section
variable {X:Cx} {e:Expr} {es:List Expr} {te:TE} {t:TA} {pos:Pos}
theorem jah:PA X [] tNil:=fun _ _ _ _ H Q I h=>Calls.spliced_nil ⟨[],H,I,.nil,h⟩
theorem ja0 (ha:PE X e te) (hr:PA X es t) (hs:starEach (e :: es) X.env = (false,eval e X.env) :: starEach es X.env:=by rfl):PA X (e :: es) (jap te t):=by
 intro pos pins s σ H Q I h
 rw [hs]
 show wpAny _ _ (spliced ((false,eval e X.env) :: backTo pos (starEach es X.env))) _ _ s
 refine Calls.spliced_cons (thn (ha pins s σ H _ I h) fun u s1 ⟨x,H1,I1,r1,q1⟩=>?_)
 exact thn (hr pos pins s1 σ H1 _ I1 q1) fun us s2 ⟨xs,H2,I2,r2,q2⟩=>⟨x :: xs,H2,I2,.cons r1 r2,q2⟩
def tTup (t:TA):TE:=fun σ H Q=>t σ H fun xs H1=>xs.length ≤ sizeLine∧∀ p,H1 p = none→Q (.ref p) (upd H1 p (.tup xs))
def tLst (t:TA):TE:=fun σ H Q=>t σ H fun xs H1=>xs.length ≤ sizeLine∧∀ p,H1 p = none→Q (.ref p) (upd H1 p (.lst xs))
theorem jd6 {x1} (h:PA X es t):PE X (.Tuple es x1 pos) (tTup t):=by
 intro pins s σ H Q I hq
 refine wpAny_Tuple_spliced (thn (h pos pins s σ H _ I hq) fun us s1 ⟨xs,H1,I1,r,z,q⟩=>⟨by rw [← r.length]; exact z,?_⟩)
 have hf:H1 s1.heap.objs.size = none:=I1.hok.fresh (Nat.le_refl _)
 refine ⟨.ref s1.heap.objs.size,upd H1 s1.heap.objs.size (.tup xs),I1.laid (t':=s1.toks) (fun b u e=>Heap.get?_push_of_some _ e) (Nat.le_refl _) ?_,rfl,q _ hf⟩
 exact ⟨z,us,r,⟨_,Heap.get?_push_size _ rfl,rfl,_,rfl⟩⟩
theorem jcd (h:PA X es t):PE X (.List es pos) (tLst t):=by
 intro pins s σ H Q I hq
 refine wpAny_List_spliced (thn (h pos pins s σ H _ I hq) fun us s1 ⟨xs,H1,I1,r,z,q⟩=>⟨by rw [← r.length]; exact z,?_⟩)
 have hf:H1 s1.heap.objs.size = none:=I1.hok.fresh (Nat.le_refl _)
 refine ⟨.ref s1.heap.objs.size,upd H1 s1.heap.objs.size (.lst xs),I1.laid (t':=s1.toks) (fun b u e=>Heap.get?_push_of_some _ e) (Nat.le_refl _) ?_,rfl,q _ hf⟩
 exact ⟨z,us,0,r,Heap.get?_push_size _ rfl⟩
end
abbrev Sp:=List V→Hp→VK→XK→Prop
abbrev CXT:=List Env→Hp→Shared→XK→Value→Shared→Prop
structure Env0 (P:Program) (w:World) (K:PySem.W.Frag) (mg:Str→Option Value) (base:Heap) (A:Around) (outer:List Env) (s:Shared) (H:Hp):Prop where
 frames:A.frames = some outer
 mod:Mod K mg base
 bs:∀ b o,base.get? b = some o→s.heap.get? b = some o∧H b = none
 bsz:base.objs.size ≤ s.heap.objs.size
 funs:s.heap.FunFrames base outer
 frf:∀ b ∈ frs outer,H b = none
 hok:HOk P w H s.heap
 bare:AllBare s.gens
def CE (outer:List Env) (P:Program) (w:World) (H:Hp) (s:Shared) (Q:VK) (u:Value) (s':Shared):Prop :=
 ∃ v H',s'.os = s.os∧AllBare s'.gens∧Un (frs outer) [] H H' s.heap s'.heap∧HOk P w H' s'.heap∧RelV v u∧Q v H'
def CR (CX:CXT) (outer:List Env) (P:Program) (w:World) (H:Hp) (s:Shared) (Q:VK) (E:XK) (r:Result) (s':Shared):Prop :=
 match r with
 | .ok (.ret u)=>CE outer P w H s Q u s'
 | .ok _=>False
 | .error e=>CX outer H s E e s'
structure FnOk (P:Program) (w:World) (K:PySem.W.Frag) (mg:Str→Option Value) (base:Heap) (CX:CXT) (k:Nat) (f:Addr) (fd:FuncData) (ps:List Str) (sp:Sp):Prop where
 len:∀ vs H Q E,sp vs H Q E→vs.length = ps.length
 run:∀ (A:Around) (outer:List Env) (s:Shared) (H:Hp) (args:Args) (us:List Value) (vs:List V) (Q:VK) (E:XK),Room k A→Env0 P w K mg base A outer s H→BindsTo s fd args (ps.zip us)→Vals vs us→sp vs H Q E →
  codeAny (model P w) A (.call (.ref f) args) (CR CX outer P w H s Q E) s
theorem FnOk.mono {P:Program} {w:World} {K:PySem.W.Frag} {mg:Str→Option Value} {base:Heap} {CX:CXT} {j k:Nat} {f:Addr} {fd:FuncData} {ps:List Str} {sp:Sp} (F:FnOk P w K mg base CX j f fd ps sp) (h:j ≤ k) :
  FnOk P w K mg base CX k f fd ps sp:=⟨F.len,fun A outer s H args us vs Q E hr=>F.run A outer s H args us vs Q E (hr.mono h)⟩
theorem Env0.make {P:Program} {w:World} {K:PySem.W.Frag} {mg:Str→Option Value} {base:Heap} {A:Around} {outer:List Env} {s:Shared} {H:Hp} (e:Env0 P w K mg base A outer s H) (C:Addr) (us:List Value) (kw:List (Str × Value)) :
  Env0 P w K mg base (A.under (.builtin "type.__call__" ⟨.ref C :: us,kw⟩)) outer s H:=⟨by first | exact e.frames | (simpa [Around.under,Code.envs,Code.isFrame,pushEnvs] using e.frames),e.mod,e.bs,e.bsz,e.funs,e.frf,e.hok,e.bare⟩
section
variable {X:Cx} {pins:List (Addr × Obj)} {σ:St} {H:Hp} {s s':Shared}
theorem Inv.env0 (I:Inv X pins σ H s):Env0 X.prog X.w X.K X.mg X.base X.A X.stack s H :=
 ⟨I.ok.frames,I.ok.mod,I.bs,Nat.le_trans I.ok.bsz I.sz,I.stack,I.stkFree,I.hok,I.bare⟩
theorem Inv.after {Q:VK} {u:Value} (I:Inv X pins σ H s) (h:CE X.stack X.prog X.w H s Q u s'):EP X pins σ Q u s':=by
 obtain ⟨v,H',os,bare,un,hok,r,q⟩:=h
 obtain ⟨hh,g,d,t,os'⟩:=s'
 obtain rfl:os' = s.os:=os
 exact ⟨v,H',I.call (h':=hh) (g':=g) (d':=d) (t':=t) (ch:=[]) un hok bare (fun b z=>absurd z (by simp)),r,q⟩
end
def jay (sp:Sp) (dvs:List V) (E:XK) (t:TA):TE:=fun σ H Q=>t σ H fun vs H1=>sp (vs ++ dvs) H1 Q E
def jr2 (C:Addr) (m:Str) (sp:Sp) (dvs:List V) (E:XK) (ta:TE) (t:TA):TE:=fun σ H Q=>ta σ H fun x H1=>∃ a dx fs,x = .ref a∧H1 a = some (.ins C dx fs)∧fs.lookup m = none ∧
 t σ H1 fun vs H2=>sp (x :: (vs ++ dvs)) H2 Q E
def jb8 (C:Addr) (sp:Sp) (dvs:List V) (E:XK) (t:TA):TE:=fun σ H Q=>t σ H fun vs H1=>∀ x dx,H1 x = none→H1 dx = none→dx ≠ x →
 sp (.ref x :: (vs ++ dvs)) (upd (upd H1 dx (.own x)) x (.ins C dx [])) (fun v H2=>v = .non∧Q (.ref x) H2) E
def jei (K:PySem.W.Frag) (fd:FuncData) (ps:List Str) (ds:List Value):Prop :=
 ∀ (s:Shared) (us:List Value),K.In s.heap→(us ++ ds).length = ps.length→BindsTo s fd ⟨us,[]⟩ (ps.zip (us ++ ds))
theorem jei.all {K:PySem.W.Frag} {fd:FuncData} {ps:List Str} (h:∀ us:List Value,us.length = ps.length→bindArgs fd ⟨us,[]⟩ = pure (ps.zip us)):jei K fd ps []:=fun s us _ hl=>by
 rw [List.append_nil] at hl ⊢
 exact .of_eq (h us hl)
def jeg (CX:CXT) (X:Cx) (E:XK):Prop:=∀ (pins:List (Addr × Obj)) (σ:St) (H:Hp) (s:Shared) (e:Value) (s':Shared),Inv X pins σ H s→CX X.stack H s E e s'→X.xe e s'
section
variable {X:Cx} {CX:CXT} {k:Nat} {f C:Addr} {fd:FuncData} {ps:List Str} {sp:Sp} {dvs:List V} {ds:List Value} {E:XK} {x m:Str} {p pos apos:Pos} {e o:Expr} {es:List Expr} {ta:TE} {t:TA}
theorem jni {pins:List (Addr × Obj)} {σ:St} {H:Hp} {s:Shared} {Q:VK} {us:List Value} {vs:List V} (F:FnOk X.prog X.w X.K X.mg X.base CX k f fd ps sp) (hr:Room k X.A) (hb:jei X.K fd ps ds) (hd:Vals dvs ds) (hx:jeg CX X E)
  (I:Inv X pins σ H s) (r:Vals vs us) (h:sp (vs ++ dvs) H Q E):wpAny (model X.prog X.w) X.A (call (.ref f) us) (EP X pins σ Q) X.xe s:=by
 have r2:Vals (vs ++ dvs) (us ++ ds):=r.append hd
 have hl:(us ++ ds).length = ps.length:=by rw [← r2.length]; exact F.len _ _ _ _ h
 refine wpAny_call (codeAny_mono (F.run X.A X.stack s H ⟨us,[]⟩ (us ++ ds) (vs ++ dvs) Q E hr I.env0 (hb s us I.kIn hl) r2 h) fun r s' hq=>?_)
 cases r with
 | error e=>exact hx pins σ H s e s' I hq
 | ok fl =>
  cases fl with
  | ret u=>exact I.after hq
  | next=>exact False.elim hq
  | brk=>exact False.elim hq
  | cont=>exact False.elim hq
theorem jbg (F:FnOk X.prog X.w X.K X.mg X.base CX k f fd ps sp) (hr:Room k X.A) (hg:Gl X x) (hm:X.mg x = some (.ref f)) (hk:PySem.W.keepIn X.K (.ref f) = true) (hb:jei X.K fd ps ds) (hd:Vals dvs ds) (hx:jeg CX X E)
  (ha:PA X (e :: es) t) (hdb:(x == ("__debug__":Str)) = false:=by decide) (he:starEach (e :: es) X.env = (false,eval e X.env) :: starEach es X.env:=by rfl) (hpl:(backTo pos (starEach es X.env)).any (·.1) = false:=by rfl) :
  PE X (.Call (.Name x p) (e :: es) [] pos) (jay sp dvs E t):=by
 intro pins s σ H Q I h
 refine wpAny_Call_Name_kw (jkv I hg hm ?_ hdb)
 refine PySem.W.callWith_K (h₀:=X.base) I.ok.mod.kin hk (thn (ha pos pins s σ H _ I h) fun us s1 ⟨vs,H1,I1,r,q⟩=>⟨I1.kIn,?_⟩) he hpl
 exact jni F hr hb hd hx I1 r q
theorem jrg {pl:Sem Bool} (he:PE X o ta) (c:Cls X.K C) (hm:Meth X.K C m f) (F:FnOk X.prog X.w X.K X.mg X.base CX k f fd ps sp) (hr:Room k X.A) (hb:jei X.K fd ps ds) (hd:Vals dvs ds) (hx:jeg CX X E) (ha:PA X (e :: es) t)
  (hst:starEach (e :: es) X.env = (false,eval e X.env) :: starEach es X.env:=by rfl) (hpl:(backTo pos (starEach es X.env)).any (·.1) = false:=by rfl)
  (ht:eval (.Call (.Attribute o m apos) (e :: es) [] pos) X.env = (do
   let ov ← eval o X.env
   standAt apos.atName
   let (f,first) ← holding [ov] (getMethod ov m pl)
   callWith pos f first (backTo pos (starEach (e :: es) X.env)) (backToKw pos (keywordEach [] X.env))):=by rfl) :
  PE X (.Call (.Attribute o m apos) (e :: es) [] pos) (jr2 C m sp dvs E ta t):=by
 intro pins s σ H Q I h
 refine PySem.W.methodCall_KW (pl:=pl) (thn (he pins s σ H _ I h) fun u s1 ⟨x,H1,I1,rx,a,dx,fs,ex,ea,l,q⟩=>?_) ht
 subst ex
 obtain rfl:u = Value.ref a:=rx
 refine jh8 I1 ea c hm l ?_
 refine PySem.W.callWith_K (first:=[.ref a]) (h₀:=X.base) I.ok.mod.kin hm.kp (thn (ha pos pins s1 σ H1 _ I1 q) fun us s2 ⟨vs,H2,I2,r,q2⟩=>⟨I2.kIn,?_⟩) hst hpl
 exact jni (us:=.ref a :: us) (vs:=.ref a :: vs) F hr hb hd hx I2 (.cons rfl r) q2
theorem jpk {pl:Sem Bool} (he:PE X o ta) (c:Cls X.K C) (hm:Meth X.K C m f) (F:FnOk X.prog X.w X.K X.mg X.base CX k f fd ps sp) (hr:Room k X.A) (hb:jei X.K fd ps ds) (hd:Vals dvs ds) (hx:jeg CX X E)
  (ht:eval (.Call (.Attribute o m apos) [] [] pos) X.env = (do
   let ov ← eval o X.env
   standAt apos.atName
   let (f,first) ← holding [ov] (getMethod ov m pl)
   callWith pos f first (backTo pos (starEach [] X.env)) (backToKw pos (keywordEach [] X.env))):=by rfl) :
  PE X (.Call (.Attribute o m apos) [] [] pos) (jr2 C m sp dvs E ta tNil):=by
 intro pins s σ H Q I h
 refine PySem.W.methodCall_KW (pl:=pl) (thn (he pins s σ H _ I h) fun u s1 ⟨x,H1,I1,rx,a,dx,fs,ex,ea,l,q⟩=>?_) ht
 subst ex
 obtain rfl:u = Value.ref a:=rx
 refine jh8 I1 ea c hm l ?_
 exact PySem.W.callWith_K0 (first:=[.ref a]) I1.kIn hm.kp (jni (us:=[.ref a]) (vs:=[.ref a]) F hr hb hd hx I1 (.cons rfl .nil) q)
structure Mk (K:PySem.W.Frag) (C f:Addr):Prop where
 makes:PySem.W.makesIn K C = true
 init:PySem.W.findIn K (.ref C) "__init__" = some (some (.ref f))
 fn:PySem.W.isFn K (.ref f) = true
 kp:PySem.W.keepIn K (.ref C) = true
theorem jp9 {pins:List (Addr × Obj)} {σ:St} {H:Hp} {s:Shared} {Q:VK} {us:List Value} {vs:List V} (M:Mk X.K C f) (F:FnOk X.prog X.w X.K X.mg X.base CX k f fd ps sp) (hr:Room (k + 1) X.A) (hb:jei X.K fd ps ds) (hd:Vals dvs ds)
  (hx:jeg CX X E) (I:Inv X pins σ H s) (r:Vals vs us)
  (h:∀ x dx,H x = none→H dx = none→dx ≠ x→sp (.ref x :: (vs ++ dvs)) (upd (upd H dx (.own x)) x (.ins C dx [])) (fun v H2=>v = .non∧Q (.ref x) H2) E) :
  wpAny (model X.prog X.w) X.A (call (.ref C) us) (EP X pins σ Q) X.xe s:=by
 have hq:=h (s.heap.objs.size + 1) s.heap.objs.size (I.hok.fresh (Nat.le_succ _)) (I.hok.fresh (Nat.le_refl _)) (Nat.ne_of_lt (Nat.lt_succ_self _))
 have I2:=Inv.made (C:=C) I
 have r2:Vals (V.ref (s.heap.objs.size + 1) :: (vs ++ dvs)) (Value.ref (s.heap.objs.size + 1) :: (us ++ ds)):=.cons rfl (r.append hd)
 have hl:(Value.ref (s.heap.objs.size + 1) :: us ++ ds).length = ps.length:=by
  have e:=r2.length
  rw [F.len _ _ _ _ hq] at e
  exact e.symm
 refine wpAny_call (jps (f:=f) I.kIn M.makes M.init (beq_iff_eq.mp M.fn) (codeAny_mono (F.run _ X.stack _ _ ⟨Value.ref (s.heap.objs.size + 1) :: us,[]⟩ (Value.ref (s.heap.objs.size + 1) :: (us ++ ds)) _ _ E (hr.make C us [])
  (I2.env0.make C us []) (hb _ (Value.ref (s.heap.objs.size + 1) :: us) I2.kIn hl) r2 hq) fun r s' hq'=>?_))
 cases r with
 | error e=>exact hx pins σ _ _ e s' I2 hq'
 | ok fl =>
  cases fl with
  | ret u =>
   obtain ⟨v,H',I3,rv,ev,q3⟩:=I2.after hq'
   subst ev
   exact ⟨rv,⟨V.ref (s.heap.objs.size + 1),H',I3,rfl,q3⟩⟩
  | next=>exact False.elim hq'
  | brk=>exact False.elim hq'
  | cont=>exact False.elim hq'
theorem jrh (M:Mk X.K C f) (F:FnOk X.prog X.w X.K X.mg X.base CX k f fd ps sp) (hr:Room (k + 1) X.A) (hg:Gl X x) (hm:X.mg x = some (.ref C)) (hb:jei X.K fd ps ds) (hd:Vals dvs ds) (hx:jeg CX X E)
  (ha:PA X (e :: es) t) (hdb:(x == ("__debug__":Str)) = false:=by decide) (he:starEach (e :: es) X.env = (false,eval e X.env) :: starEach es X.env:=by rfl) (hpl:(backTo pos (starEach es X.env)).any (·.1) = false:=by rfl) :
  PE X (.Call (.Name x p) (e :: es) [] pos) (jb8 C sp dvs E t):=by
 intro pins s σ H Q I h
 refine wpAny_Call_Name_kw (jkv I hg hm ?_ hdb)
 refine PySem.W.callWith_K (h₀:=X.base) I.ok.mod.kin M.kp (thn (ha pos pins s σ H _ I h) fun us s1 ⟨vs,H1,I1,r,q⟩=>⟨I1.kIn,?_⟩) he hpl
 exact jp9 M F hr hb hd hx I1 r q
end
section
variable {X:Cx} {CX:CXT} {k:Nat} {f C:Addr} {fd:FuncData} {ps ks:List Str} {sp:Sp} {E:XK} {x m:Str} {p pos apos kpos:Pos} {e o:Expr} {es:List Expr} {kws:List Keyword} {te ta:TE} {t tk:TA} {nm:Option Str}
variable {g:List Value→List Value→List Value} {gV:List V→List V→List V}
end
structure FnScope (N P:List Str) (sc:Scope):Prop where
 kind:sc.kind = .function
 co:sc.isCoroutine = false
 gen:sc.isGenerator = false
 nd:N.Nodup
 pre:N.take P.length = P
 par:∀ x ∈ P,sc.names.lookup x = some .local ∨ sc.names.lookup x = some .cell
 nofree:∀ y ∈ sc.names,y.2 ≠ .free
theorem jjw {kindOf:Str→Option NameKind} {x:Str}:∀ {binds:List (Str × Value)} {m:Str→Option Value},(∀ v,(x,v) ∉ binds)→bindL kindOf binds m x = m x
 | [],_,_=>rfl
 | (n,v) :: r,m,h=>by
  unfold bindL
  rw [jjw fun w hw=>h w (List.mem_cons_of_mem _ hw)]
  split
  ·have:x ≠ n:=by rintro rfl; exact h v List.mem_cons_self
   simp [this]
  ·rfl
theorem jjy {kindOf:Str→Option NameKind} {x:Str}:∀ {binds:List (Str × Value)} {m:Str→Option Value},(∀ v,(x,v) ∉ binds)→bindC kindOf binds m x = m x
 | [],_,_=>rfl
 | (n,v) :: r,m,h=>by
  unfold bindC
  rw [jjy fun w hw=>h w (List.mem_cons_of_mem _ hw)]
  split
  ·rfl
  ·have:x ≠ n:=by rintro rfl; exact h v List.mem_cons_self
   simp [this]
theorem jjx {kindOf:Str→Option NameKind} {x:Str} {v:Value}:∀ {P:List Str} {vs:List Value} {i:Nat} {m:Str→Option Value},P.Nodup→P[i]? = some x→vs[i]? = some v→kindOf x = some .local →
  bindL kindOf (P.zip vs) m x = some v
 | [],_,_,_,_,h,_,_=>by simp at h
 | _ :: _,[],_,_,_,_,h,_=>by simp at h
 | p :: P,w :: vs,0,m,nd,h1,h2,hk=>by
  simp at h1 h2; subst h1; subst h2
  show bindL kindOf ((p,w) :: P.zip vs) m p = _
  unfold bindL
  rw [jjw fun v hv=>(List.nodup_cons.mp nd).1 (List.of_mem_zip hv).1,if_pos hk]
  simp
 | p :: P,w :: vs,i + 1,m,nd,h1,h2,hk=>by
  show bindL kindOf ((p,w) :: P.zip vs) m x = _
  unfold bindL
  exact jjx (i:=i) (List.nodup_cons.mp nd).2 (by simpa using h1) (by simpa using h2) hk
theorem jjz {kindOf:Str→Option NameKind} {x:Str} {v:Value}:∀ {P:List Str} {vs:List Value} {i:Nat} {m:Str→Option Value},P.Nodup→P[i]? = some x→vs[i]? = some v→kindOf x ≠ some .local →
  bindC kindOf (P.zip vs) m x = some v
 | [],_,_,_,_,h,_,_=>by simp at h
 | _ :: _,[],_,_,_,_,h,_=>by simp at h
 | p :: P,w :: vs,0,m,nd,h1,h2,hk=>by
  simp at h1 h2; subst h1; subst h2
  show bindC kindOf ((p,w) :: P.zip vs) m p = _
  unfold bindC
  rw [jjy fun v hv=>(List.nodup_cons.mp nd).1 (List.of_mem_zip hv).1,if_neg hk]
  simp
 | p :: P,w :: vs,i + 1,m,nd,h1,h2,hk=>by
  show bindC kindOf ((p,w) :: P.zip vs) m x = _
  unfold bindC
  exact jjz (i:=i) (List.nodup_cons.mp nd).2 (by simpa using h1) (by simpa using h2) hk
def jam (N:List Str) (vs:List V):St:=vs.map some ++ List.replicate (N.length - vs.length) none
def cxOf (CX:CXT) (P:Program) (w:World) (K:PySem.W.Frag) (mg:Str→Option Value) (base:Heap) (N:List Str) (qual:Str) (scope:Scope) (f:Addr) (cd:Value) (A:Around) (outer:List Env) (s:Shared) (H:Hp) (E:XK):Cx where
 prog:=P
 w:=w
 K:=K
 mg:=mg
 base:=base
 A:=A.deeper (envOfC qual scope s.heap.objs.size f cd)
 N:=N
 s₀:=s
 H₀:=H
 env:=envOfC qual scope s.heap.objs.size f cd
 outer:=outer
 stack:=envOfC qual scope s.heap.objs.size f cd :: outer
 ex:=[]
 calm:=true
 fn:=fun _=>true
 pn:=[]
 xe:=fun e s'=>wpAny (model P w) (A.deeper (envOfC qual scope s.heap.objs.size f cd)) (leaving (envOfC qual scope s.heap.objs.size f cd) e) (fun _ s''=>CX outer H s E e s'') (fun e' s''=>CX outer H s E e' s'') s'
theorem jm5 {sc:Scope} {n:Nat} {x:Str} (h:sc.names.lookup x = some .cell):∃ c,(cellsFrom n sc.names []).lookup x = some c:=by
 have q:=PySem.W.cellsFrom_some sc.names n [] (.inl h)
 exact Option.isSome_iff_exists.mp q
theorem jog {CX:CXT} {P:Program} {w:World} {K:PySem.W.Frag} {mg:Str→Option Value} {base:Heap} {N ps:List Str} {qual:Str} {scope:Scope} {f:Addr} {cd:Value} {A:Around} {outer:List Env} {s s1:Shared} {H:Hp} {E:XK} {us:List Value} {vs:List V}
  (S:FnScope N ps scope) (hd:A.handled = none) (e0:Env0 P w K mg base A outer s H) (hl:vs.length = ps.length) (r:Vals vs us)
  (x:InCallC s s.heap.objs.size (bindL (envOfC qual scope s.heap.objs.size f cd).kindOf (ps.zip us) fun _=>none) (cellsFrom (s.heap.objs.size + 1) scope.names []) (bindC (envOfC qual scope s.heap.objs.size f cd).kindOf (ps.zip us) fun _=>none) s1) :
  Inv (cxOf CX P w K mg base N qual scope f cd A outer s H E) [] (jam N vs) H s1:=by
 have hpl:ps.length ≤ N.length:=by have:=congrArg List.length S.pre; rw [List.length_take] at this; omega
 obtain ⟨h1,tk,rfl,hk⟩:=x.done
 have noA:∀ b:Addr,b ∉ (cxOf CX P w K mg base N qual scope f cd A outer s H E).ex:=fun b z=>absurd (show b ∈ ([]:List Addr) from z) (by simp)
 refine ⟨⟨e0.mod,S.kind,rfl,rfl,Nat.le_refl _,fun y z c h1 h2=>?_,fun y hy=>?_,fun y c _ h=>?_,fun _=>hd,Around.frames_deeper e0.frames,.inr ⟨rfl,rfl⟩,fun b z=>absurd z (noA b),e0.bs,e0.bsz,fun b _ _=>noA b,fun b z=>absurd z (noA b),e0.funs,e0.frf⟩,
  rfl,e0.bare,Un.kept hk,⟨_,x.toInCall.ns,fun i y v h1 h2 h3=>?_⟩,fun y c h=>⟨_,x.cell y c h⟩,e0.hok.fresh (Nat.le_refl _),fun y c h=>?_,fun p hp=>absurd (show p ∈ ([]:List (Addr × Obj)) from hp) (by simp),e0.hok.kept hk,?_⟩
 ·exact name_of_addr x.apart (PySem.mem_of_lookup h1) (PySem.mem_of_lookup h2)
 ·have hy:scope.names.lookup y = some .cell ∨ scope.names.lookup y = some .free:=hy
  rcases hy with hy | hy
  ·exact jm5 hy
  ·exact absurd rfl (S.nofree _ (PySem.mem_of_lookup hy))
 ·exact Nat.le_of_lt (x.above y c (PySem.mem_of_lookup h))
 ·have hi:i < vs.length:=by
   unfold jam at h2
   by_cases hi:i < vs.length
   ·exact hi
   ·rw [List.getElem?_append_right (by simpa using hi)] at h2
    rw [List.getElem?_replicate] at h2
    split at h2 <;> cases h2
  have ha:vs[i]? = some v:=by
   unfold jam at h2
   rw [List.getElem?_append_left (by simpa using hi),List.getElem?_map] at h2
   cases e:vs[i]? with
   | none=>rw [e] at h2; cases h2
   | some a=>rw [e] at h2; cases h2; rfl
  obtain ⟨u,hu,rv⟩:=r.get ha
  have hp:ps[i]? = some y:=by
   rw [← S.pre,List.getElem?_take_of_lt (by omega)]; exact h1
  have ndP:ps.Nodup:=by rw [← S.pre]; exact S.nd.sublist (List.take_sublist _ _)
  refine ⟨u,rv,?_⟩
  rcases S.par y (List.mem_of_getElem? hp) with k | k
  ·exact .inl ⟨k,jjx ndP hp hu k⟩
  ·obtain ⟨c,e⟩:=jm5 (n:=s.heap.objs.size + 1) k
   refine .inr ⟨.inl k,c,e,?_⟩
   have q:=x.cell y c e
   rw [jjz ndP hp hu (by show scope.names.lookup y ≠ _; rw [k]; decide)] at q
   exact q
 ·exact e0.hok.fresh (Nat.le_of_lt (x.above y c (PySem.mem_of_lookup h)))
 ·unfold jam
  show _ = N.length
  rw [List.length_append,List.length_map,List.length_replicate]
  omega
theorem fn_of {CX:CXT} {P:Program} {w:World} {K:PySem.W.Frag} {mg:Str→Option Value} {base:Heap} {k:Nat} {f:Addr} {name qual:Str} {params:Arguments} {body:List Stmt} {scope:Scope} {dV kV doc pm cdv ct oc:Value} {an od:Option Addr}
  {osl:Array (Option Value)} {N ps:List Str} {sp:Sp} (lk:K.lookup f = some ⟨oc,od,.func (PySem.W.fnOf name qual params body scope dV kV doc pm an cdv ct),osl⟩) (hcd:PySem.W.codeIn K cdv qual = true) (S:FnScope N ps scope)
  (len:∀ vs H Q E,sp vs H Q E→vs.length = ps.length)
  (hbody:∀ (A:Around) (outer:List Env) (s:Shared) (H:Hp) (vs:List V) (Q:VK) (E:XK),Room k (A.deeper (envOfC qual scope s.heap.objs.size f cdv))→sp vs H Q E →
   ∃ t,PSs (cxOf CX P w K mg base N qual scope f cdv A outer s H E) body t∧t { nx:=fun _ H'=>Q .non H',rt:=Q } (jam N vs) H) :
  FnOk P w K mg base CX (k + 1) f (PySem.W.fnOf name qual params body scope dV kV doc pm an cdv ct) ps sp:=by
 refine ⟨len,fun A outer s H args us vs Q E hr e0 hb r hsp=>?_⟩
 have hl:=len _ _ _ _ hsp
 have KX:K.In s.heap:=e0.mod.kin.keeps fun b o e=>(e0.bs b o e).1
 have lim:s.heap.NoLimit:=e0.mod.nolimit.keeps fun b o e=>(e0.bs b o e).1
 have hkind:∀ y ∈ ps.zip us,scope.names.lookup y.1 = some .local ∨ (scope.names.lookup y.1 = some .cell∧((cellsFrom (s.heap.objs.size + 1) scope.names []).lookup y.1).isSome = true):=fun ⟨n,v⟩ hy=>by
  rcases S.par n (List.of_mem_zip hy).1 with q | q
  ·exact .inl q
  ·exact .inr ⟨q,PySem.W.cellsFrom_some _ _ _ (.inl q)⟩
 refine codeAny_call_function hr.depth (KX _ _ lk) rfl S.co S.gen rfl (PySem.W.codeRec_of KX hcd) (hb _ _ _ _ ?_)
 refine wpAny_newFunctionEnv_cells S.kind hkind fun env he s1 x=>?_
 subst he
 refine ⟨lim.keeps x.toInCall.keep,codeAny_func ?_⟩
 obtain ⟨t,ht,hq⟩:=hbody A outer s H vs Q E (hr.deeper _) hsp
 have I:Inv (cxOf CX P w K mg base N qual scope f cdv A outer s H E) [] (jam N vs) H s1:=jog S hr.hd e0 hl r x
 refine wpAny_mono (ht [] s1 (jam N vs) H _ I hq) (fun fl s' hs=>?_) fun e s' hs=>hs
 have fin:∀ {σ':St} {H':Hp} {v:V} {u:Value},Inv (cxOf CX P w K mg base N qual scope f cdv A outer s H E) [] σ' H' s'→RelV v u→Q v H'→CE outer P w H s Q u s' :=
  fun {σ' H' v u} J rv q=>⟨v,H',J.os,J.bare,J.base,J.hok,rv,q⟩
 cases fl with
 | ret u =>
  obtain ⟨v,σ',H',J,rv,q⟩:=hs
  exact fin J rv q
 | next =>
  obtain ⟨σ',H',J,q⟩:=hs
  exact fin (v:=V.non) (u:=Value.none) J rfl q
 | brk =>
  obtain ⟨_,_,_,q⟩:=hs
  exact False.elim q
 | cont =>
  obtain ⟨_,_,_,q⟩:=hs
  exact False.elim q
end L2
namespace L2
open PySem PySem.Spec PyProof.Rows
section
variable {X:Cx} {x:Str} {p pos:Pos} {e:Expr} {es:List Expr} {t:TA} {id T:String} {r:List V→Hp→VK→Prop}
def tCB (r:List V→Hp→VK→Prop) (t:TA):TE:=fun σ H Q=>t σ H fun vs H1=>r vs H1 Q
theorem jbp (hc:jd9 X (.builtin id) r) (hg:Gl X x) (hm:X.mg x = none) (hv:bootBuiltins x = some (.builtin id)) (ha:PA X (e :: es) t) (hn:x ≠ "__name__":=by decide) (hdb:(x == ("__debug__":Str)) = false:=by decide)
  (he:starEach (e :: es) X.env = (false,eval e X.env) :: starEach es X.env:=by rfl) (hpl:(backTo pos (starEach es X.env)).any (·.1) = false:=by rfl):PE X (.Call (.Name x p) (e :: es) [] pos) (tCB r t):=by
 intro pins s σ H Q I h
 refine wpAny_Call_Name_kw (jg5 I hg hm hv ?_ hn hdb)
 exact PyProof.Rows.callWith_builtin1 (thn (ha pos pins s σ H _ I h) fun us s1 ⟨vs,H1,I1,r1,q1⟩=>hc pins s1 σ H1 vs us Q I1 r1 q1) he hpl
theorem jcn (hc:jd9 X (.type T) r) (hg:Gl X x) (hm:X.mg x = none) (hv:bootBuiltins x = some (.type T)) (ha:PA X (e :: es) t) (hn:x ≠ "__name__":=by decide) (hdb:(x == ("__debug__":Str)) = false:=by decide)
  (he:starEach (e :: es) X.env = (false,eval e X.env) :: starEach es X.env:=by rfl) (hpl:(backTo pos (starEach es X.env)).any (·.1) = false:=by rfl):PE X (.Call (.Name x p) (e :: es) [] pos) (tCB r t):=by
 intro pins s σ H Q I h
 refine wpAny_Call_Name_kw (jg5 I hg hm hv ?_ hn hdb)
 exact PyProof.Rows.callWith_type1 (thn (ha pos pins s σ H _ I h) fun us s1 ⟨vs,H1,I1,r1,q1⟩=>hc pins s1 σ H1 vs us Q I1 r1 q1) he hpl
end
end L2
namespace HT
open PySem PyProof.Rows
def lexLt:List Int→List Int→Bool
 | [],[]=>false
 | [],_ :: _=>true
 | _ :: _,[]=>false
 | x :: xs,y :: ys=>if x = y then lexLt xs ys else decide (x < y)
theorem lexLt_cons (x y:Int) (xs ys:List Int):lexLt (x :: xs) (y :: ys) = if x = y then lexLt xs ys else decide (x < y):=rfl
theorem ji3:lexLt [] [] = false:=rfl
theorem jgl (y:Int) (ys:List Int):lexLt [] (y :: ys) = true:=rfl
theorem jgm (x:Int) (xs:List Int):lexLt (x :: xs) [] = false:=rfl
theorem jq1 (A:Around) (s:Shared) (a:Int) (t:Tok) (c:Int) (u:Tok):∃ e,SeqAt.EqAt A s (.int a t) (.int c u) e∧(e = true ↔ a = c) :=
 ⟨(a == c),SeqAt.EqAt.int_int a t c u,by simp⟩
theorem jpc (A:Around) (s:Shared) (a:Int) (t:Tok) (c:Int) (u:Tok) (prog:Program) (w:World) (E:Value→Shared→Prop) (Q:Value→Shared→Prop) (h:Q (.bool (decide (a < c))) s) :
  wpAny (model prog w) A (richCompare .Lt (.int a t) (.int c u)) Q E s :=
 (PyProof.Rows.lt_int h:wpAny (model prog w) A (compareOp .Lt (.int a t) (.int c u)) Q E s)
section
open PySem.SeqAt
open PySem.AutoSeq1 (wpAny_loadPart')
open PySem.MeetsSeq PySem.MeetsSeq2 PySem.MeetsSeq3
theorem jhh (l b:Addr) (items items2:Array Value) (n n2:Nat) (dd dd2:Option Addr) (sl sl2:Array (Option Value)) (ns ms:List Int) (hi:IntsAre items.toList ns) (hj:IntsAre items2.toList ms) :
  Meets (Builtin.«tuple.__lt__» ⟨[.ref l,.ref b],[]⟩)
   (fun _ R s=>s.heap.get? l = some { cls:=.type "tuple",dict:=dd,data:=.seq items n,slots:=sl }∧s.heap.get? b = some { cls:=.type "tuple",dict:=dd2,data:=.seq items2 n2,slots:=sl2 } ∧
    R (.ok (.ret (.bool (lexLt ns ms)))) s) :=
 .of_wp fun prog w A R s h=>by
  obtain ⟨hp,g,d,tk,os⟩:=s; obtain ⟨hl,hb,h⟩:=h
  have f2:=AutoSeq1.sub_tuple_tuple
  have z1:items.size = ns.length:=by rw [← hi.length]; simp
  have z2:items2.size = ms.length:=by rw [← hj.length]; simp
  wp_walk using wpAny_loadPart' hl,wpAny_loadPart' hb,wpAny_forIn_list _ (fun rest b s'=>b.1 = none∧s' = ⟨hp,g,d,tk,os⟩∧∃ (vs ws:List Value) (ns' ms':List Int),rest = vs.zip ws ∧
   IntsAre vs ns'∧IntsAre ws ms'∧ns'.length + items2.size = ms'.length + items.size∧R (.ok (.ret (.bool (lexLt ns' ms')))) ⟨hp,g,d,tk,os⟩) _
  case turn =>
   rintro ⟨y,x⟩ rest b s' ⟨hb',rfl,vs,ws,ns',ms',hz,hvi,hwi,hlen,hR⟩
   cases hvi with
   | nil=>rw [List.zip_nil_left] at hz; cases hz
   | cons a t hvi' =>
    cases hwi with
    | nil=>rw [List.zip_nil_right] at hz; cases hz
    | cons c u hwi' =>
     rw [List.zip_cons_cons] at hz
     injection hz with hyx hrest
     injection hyx with hy hx
     subst hy hx
     rw [lexLt_cons] at hR
     simp only [List.length_cons] at hlen
     obtain ⟨e,he,hiff⟩:=jq1 A.in1 ⟨hp,g,d,tk,os⟩ a t c u
     refine wpAny_bind (he prog w _ _ ?_)
     cases e with
     | true =>
      rw [if_pos (hiff.mp rfl)] at hR
      wp_walk
      exact ⟨rfl,rfl,_,_,_,_,hrest,hvi',hwi',by omega,hR⟩
     | false =>
      rw [if_neg (fun q=>absurd (hiff.mpr q) Bool.false_ne_true)] at hR
      have hri:=jpc A.in1 ⟨hp,g,d,tk,os⟩ a t c u prog w
      wp_walk using hri
      exact ⟨_,rfl,by simpa using hR⟩
  case fin =>
   rintro ⟨b1,b2⟩ s' ⟨hb',rfl,vs,ws,ns',ms',hz,hvi,hwi,hlen,hR⟩
   simp only at hb'
   subst hb'
   have hv:lexLt ns' ms' = decide (items.size < items2.size):=by
    cases hvi with
    | nil =>
     cases hwi with
     | nil =>
      simp only [List.length_nil] at hlen
      rw [ji3]
      exact (decide_eq_false (by omega)).symm
     | cons c u hw =>
      simp only [List.length_nil,List.length_cons] at hlen
      rw [jgl]
      exact (decide_eq_true (by omega)).symm
    | cons a t hv =>
     cases hwi with
     | nil =>
      simp only [List.length_nil,List.length_cons] at hlen
      rw [jgm]
      exact (decide_eq_false (by omega)).symm
     | cons c u hw =>
      rw [List.zip_cons_cons] at hz
      cases hz
   rw [hv] at hR
   wp_walk
   exact ⟨_,rfl,by simpa [Builtin.Tuple.tupleCompareSizes] using hR⟩
  case h =>
   exact ⟨rfl,rfl,items.toList,items2.toList,ns,ms,rfl,hi,hj,by omega,h⟩
end
section
variable {prog:Program} {w:World} {A:Around} {E:Value→Shared→Prop} {s:Shared}
theorem lt_tupInts {l b:Addr} {items items2:Array Value} {ns ms:List Int} {Q:Value→Shared→Prop} (hl:IsTup s.heap l items) (hb:IsTup s.heap b items2) (hi:IntsAre items.toList ns) (hj:IntsAre items2.toList ms)
  (hu:A.units < cLine) (h:Q (.bool (lexLt ns ms)) s):wpAny (model prog w) A (compareOp .Lt (.ref l) (.ref b)) Q E s:=by
 obtain ⟨⟨cls,dd,data,sl⟩,ho,hc,n,hd⟩:=id hl
 obtain ⟨⟨cls2,dd2,data2,sl2⟩,ho2,hc2,n2,hd2⟩:=id hb
 simp only at hc hd hc2 hd2
 subst hc hd hc2 hd2
 exact richCompare_meets_room (op:=.Lt) ⟨_,ho,rfl⟩ ⟨_,ho2,rfl⟩ PySem.F.slot_tuple_lt PySem.F.entry_tuple_lt (PySem.F.args_tuple_lt_2 _ _) (jhh l b items items2 n n2 dd dd2 sl sl2 ns ms hi hj)
  ⟨ho,ho2,show Value.bool (lexLt ns ms) ≠ Value.notImplemented∧Q (.bool (lexLt ns ms)) s from ⟨(fun x=>nomatch x),h⟩⟩ hu
def sIx (n d:Nat):Option Int→Nat
 | none=>d
 | some v=>if v < 0 then (v + (n:Int)).toNat else min v.toNat n
end
end HT
namespace L2
open PySem PySem.Spec PyProof.Rows
abbrev TO:=St→Hp→(Option Int→Hp→Prop)→Prop
def PO (X:Cx) (e:Option Expr) (t:TO):Prop :=
 ∀ (pins:List (Addr × Obj)) (s:Shared) (σ:St) (H:Hp) (Q:Option Int→Hp→Prop),Inv X pins σ H s→t σ H Q →
  wpAny (model X.prog X.w) X.A (evalPart e X.env) (fun u s'=>∃ o H',Inv X pins σ H' s'∧IsPart u o∧Q o H') X.xe s
def ja4:TO:=fun _ H Q=>Q none H
theorem jds {ns:List Int}:∀ {us:List Value},Vals (ns.map V.int) us→IntsAre us ns:=by
 induction ns with
 | nil=>intro us r; rw [List.map_nil] at r; cases r; exact .nil
 | cons n ns ih =>
  intro us r
  rw [List.map_cons] at r
  cases r with
  | cons r1 r2 =>
   obtain ⟨t,e⟩:=r1
   subst e
   exact .cons n t (ih r2)
section
variable {X:Cx} {e:Expr} {te:TE} {lo hi:Option Expr} {tl th:TO} {pos p2:Pos}
theorem jrc:PO X none ja4:=by
 intro pins s σ H Q I h
 rw [evalPart_none]
 exact wpAny_pure ⟨none,H,I,.none,h⟩
def SlR (X:Cx) (r:V→Option Int→Option Int→Hp→VK→Prop):Prop :=
 ∀ (pins:List (Addr × Obj)) (s:Shared) (σ:St) (H:Hp) (x:V) (v vl vu:Value) (lo hi:Option Int) (sl:Addr) (Q:VK),Inv X pins σ H s→RelV x v→s.heap.IsSliceOf sl vl vu .none→IsPart vl lo→IsPart vu hi→r x lo hi H Q →
  ∃ T id,typeLookup (.type T) "__getitem__" = pure (some (.builtin id))∧s.TypeIs v T∧wpAny (model X.prog X.w) X.A (getItem v (.ref sl)) (EP X pins σ Q) X.xe s
def tSl (r:V→Option Int→Option Int→Hp→VK→Prop) (te:TE) (tl th:TO):TE:=fun σ H Q=>te σ H fun x H1=>tl σ H1 fun l H2=>th σ H2 fun u H3=>r x l u H3 Q
theorem jpj {r:V→Option Int→Option Int→Hp→VK→Prop} (hr:SlR X r) (he:PE X e te) (hl:PO X lo tl) (hu:PO X hi th):PE X (.Subscript e (.Slice lo hi none p2) pos) (tSl r te tl th):=by
 intro pins s σ H Q I h
 refine Subscript_ (thn (he pins s σ H _ I h) fun v s1 ⟨x,H1,I1,r1,q1⟩=>?_)
 refine wpAny_Slice (thn (hl pins s1 σ H1 _ I1 q1) fun vl s2 ⟨l,H2,I2,pl,q2⟩=>thn (hu pins s2 σ H2 _ I2 q2) fun vu s3 ⟨u,H3,I3,pu,q3⟩=>?_)
 rw [evalPart_none]
 refine wpAny_pure ?_
 have I4:Inv X pins σ H3 { s3 with heap:=s3.heap.push { cls:=.type "slice",data:=.fields #[vl,vu,.none] } }:=I3.kept (t':=s3.toks) fun b ob q=>Heap.get?_push_of_some _ q
 obtain ⟨T,id,hT,ht,hg⟩:=hr pins { s3 with heap:=s3.heap.push { cls:=.type "slice",data:=.fields #[vl,vu,.none] } } σ H3 x v vl vu l u s3.heap.objs.size Q I4 r1 (Heap.IsSliceOf.new ..) pl pu q3
 show wpAny (model X.prog X.w) X.A (subscriptTail e (.Slice lo hi none p2) v (.ref s3.heap.objs.size)) (EP X pins σ Q) X.xe { s3 with heap:=s3.heap.push { cls:=.type "slice",data:=.fields #[vl,vu,.none] } }
 exact tail_any (ops:=[.ref s3.heap.objs.size,v]) ht hT hg (by with_unfolding_all rfl)
def cutV (xs:List V) (lo hi:Option Int):List V:=(xs.drop (HT.sIx xs.length 0 lo)).take (HT.sIx xs.length xs.length hi - HT.sIx xs.length 0 lo)
theorem jl0 (xs:List V) (lo hi:Option Int):(cutV xs lo hi).length ≤ xs.length:=by
 unfold cutV
 rw [List.length_take,List.length_drop]
 omega
def rLtT (K:PySem.W.Frag):R2:=fun x y H Q=>∃ a b ns ms,x = .ref a∧y = .ref b∧SqT K H a (ns.map V.int)∧SqT K H b (ms.map V.int)∧Q (.bl (HT.lexLt ns ms)) H
theorem op_ltT (hu:X.A.units < cLine):OpR X (compareOp .Lt) (rLtT X.K):=by
 intro pins s σ H x y v u Q I rx ry h
 obtain ⟨a,b,ns,ms,rfl,rfl,ha,hb,q⟩:=h
 cases rx
 cases ry
 obtain ⟨its,r1,p1,_⟩:=I.tuple ha
 obtain ⟨its2,r2,p2,_⟩:=I.tuple hb
 have i1:IntsAre its.toArray.toList ns:=jds r1
 have i2:IntsAre its2.toArray.toList ms:=jds r2
 exact HT.lt_tupInts p1 p2 i1 i2 hu ⟨.bl (HT.lexLt ns ms),H,I,rfl,q⟩
end
end L2
namespace L2
open PySem PySem.Spec PyProof.Rows
def ixN (n:Nat) (i:Int):Option Nat:=if 0 ≤ i then (if i < n then some i.toNat else none) else if -(n:Int) ≤ i then some (i + n).toNat else none
def atI {α:Type} (xs:List α) (i:Int):Option α:=(ixN xs.length i).bind fun j=>xs[j]?
theorem jod {n:Nat} {i:Int} {j:Nat} (h:ixN n i = some j):seqIndex? i n = some j∧j < n∧-(n:Int) ≤ i∧i < n:=by
 unfold ixN at h
 by_cases h0:0 ≤ i
 ·rw [if_pos h0] at h
  by_cases h1:i < n
  ·rw [if_pos h1] at h
   have e:i.toNat = j:=Option.some.inj h
   exact ⟨by rw [seqIndex_of h0 h1,e],by omega,by omega,h1⟩
  ·rw [if_neg h1] at h; cases h
 ·rw [if_neg h0] at h
  by_cases h1:-(n:Int) ≤ i
  ·rw [if_pos h1] at h
   have e:(i + n).toNat = j:=Option.some.inj h
   exact ⟨by rw [seqIndex_neg (by omega) h1,e],by omega,h1,by omega⟩
  ·rw [if_neg h1] at h; cases h
theorem jl3 {α:Type} {xs:List α} {i:Int} {v:α} (h:atI xs i = some v):∃ j,seqIndex? i xs.length = some j∧xs[j]? = some v∧j < xs.length∧-(xs.length:Int) ≤ i∧i < xs.length:=by
 unfold atI at h
 cases e:ixN xs.length i with
 | none=>rw [e] at h; cases h
 | some j =>
  rw [e] at h
  obtain ⟨h1,h2,h3,h4⟩:=jod e
  exact ⟨j,h1,h,h2,h3,h4⟩
theorem jci {α:Type} {xs:List α} {j:Nat} {v:α} (h:xs[j]? = some v):atI xs (j:Int) = some v:=by
 have hj:j < xs.length:=(List.getElem?_eq_some_iff.mp h).1
 have e:ixN xs.length (j:Int) = some j:=by
  unfold ixN
  rw [if_pos (by omega),if_pos (by omega)]; simp
 unfold atI; rw [e]; exact h
def jsd (b:Expr):Prop:=∀ o i,subscripted b false o i = operate [o,i] (getItem o i)
def IxR (X:Cx) (r:R2):Prop :=
 ∀ (value slice:Expr) (pins:List (Addr × Obj)) (s:Shared) (σ:St) (H:Hp) (x y:V) (v u:Value) (Q:VK),Inv X pins σ H s→RelV x v→RelV y u→r x y H Q →
  subscripted slice false v u = operate [v,u] (getItem v u)→wpAny (model X.prog X.w) X.A (subscriptTail value slice v u) (EP X pins σ Q) X.xe s
def MtR (X:Cx) (id:String) (r:V→List V→Hp→VK→Prop):Prop :=
 ∀ (pins:List (Addr × Obj)) (s:Shared) (σ:St) (H:Hp) (x:V) (xs:List V) (v:Value) (us:List Value) (Q:VK),Inv X pins σ H s→RelV x v→Vals xs us→r x xs H Q →
  wpAny (model X.prog X.w) X.A (call (.builtin id) (v :: us)) (EP X pins σ Q) X.xe s
section
variable {X:Cx} {a b:Expr} {ta tb:TE} {pos:Pos}
theorem IxR.or {r r':R2} (h:IxR X r) (h':IxR X r'):IxR X (fun x y H Q=>r x y H Q ∨ r' x y H Q):=by
 intro value slice pins s σ H x y v u Q I rx ry q hs
 rcases q with q | q
 ·exact h value slice pins s σ H x y v u Q I rx ry q hs
 ·exact h' value slice pins s σ H x y v u Q I rx ry q hs
theorem jbk {r:R2} (hr:IxR X r) (ha:PE X a ta) (hb:PE X b tb) (hs:jsd b):PE X (.Subscript a b pos) (tOp r ta tb):=by
 intro pins s σ H Q I h
 exact Subscript_ (binT ha hb I h fun v u s2 x y H2 I2 rx ry q=>hr a b pins s2 σ H2 x y v u Q I2 rx ry q (hs _ _))
def rIxL (K:PySem.W.Frag):R2:=fun x y H Q=>∃ p xs i v,x = .ref p∧y = .int i∧SqL K H p xs∧atI xs i = some v∧Q v H
def rIxT (K:PySem.W.Frag):R2:=fun x y H Q=>∃ p xs i v,x = .ref p∧y = .int i∧SqT K H p xs∧atI xs i = some v∧Q v H
theorem joc:IxR X (rIxL X.K):=by
 intro value slice pins s σ H x y v u Q I rx ry h hs
 obtain ⟨p,xs,i,z,rfl,rfl,hq,he,q⟩:=h
 cases rx
 obtain ⟨t,rfl⟩:=ry
 obtain ⟨its,r,pl,hz⟩:=I.list hq
 obtain ⟨j,h1,h2,h3,h4,h5⟩:=jl3 he
 obtain ⟨w,ew,rw'⟩:=r.get h2
 have hl:=r.length
 have hn:=jh0
 have fin:EP X pins σ Q w s:=⟨z,H,I,rw',q⟩
 by_cases h0:0 ≤ i
 ·have hj:i.toNat = j:=by
   rw [seqIndex_of h0 h5] at h1
   exact Option.some.inj h1
  exact item_listR pl.isList h0 (by omega) (by rw [hj]; simpa using ew) fin hs
 ·have hj:(i + (its.toArray.size:Int)).toNat = j:=by
   rw [seqIndex_neg (by omega) h4] at h1
   rw [List.size_toArray,← hl]
   exact Option.some.inj h1
  exact subscriptTail_builtinR (x:=w) pl.isList.typeIs slot_list_getitem.lookup
   (wpAny_getItem_list_neg (Q:=fun r s'=>r = w∧EP X pins σ Q r s') pl.isList (by omega) (by rw [List.size_toArray] <;> omega) (by omega) (by rw [hj]; simpa using ew) ⟨rfl,fin⟩) hs
theorem ix_tup:IxR X (rIxT X.K):=by
 intro value slice pins s σ H x y v u Q I rx ry h hs
 obtain ⟨p,xs,i,z,rfl,rfl,hq,he,q⟩:=h
 cases rx
 obtain ⟨t,rfl⟩:=ry
 obtain ⟨its,r,pl,hz⟩:=I.tuple hq
 obtain ⟨j,h1,h2,h3,h4,h5⟩:=jl3 he
 obtain ⟨w,ew,rw'⟩:=r.get h2
 have hl:=r.length
 have hn:=jh0
 have fin:EP X pins σ Q w s:=⟨z,H,I,rw',q⟩
 exact subscriptTail_builtinR (x:=w) pl.typeIs slot_tuple_getitem.lookup
  (getItem_tuple (j:=j) (Q:=fun r s'=>r = w∧EP X pins σ Q r s') pl (by omega) (by omega) (by rw [List.size_toArray,← hl]; exact h1) (by simpa using ew) ⟨rfl,fin⟩) hs
theorem jmj (its:List Value) (n j:Nat) (u:Value):Obj.mapSeq (·.setIfInBounds j u) { cls:=.type "list",data:=.seq its.toArray n } = { cls:=.type "list",data:=.seq (its.set j u).toArray n }:=by
 simp [Obj.mapSeq]
theorem Inv.lst {pins:List (Addr × Obj)} {σ:St} {H:Hp} {s:Shared} {p:Addr} {xs:List V} (I:Inv X pins σ H s) (h:H p = some (.lst xs)) :
  ∃ (its:List Value) (n:Nat),Vals xs its∧s.heap.get? p = some { cls:=.type "list",data:=.seq its.toArray n }∧xs.length ≤ sizeLine:=by
 obtain ⟨z,its,n,r,e⟩:=I.hok p _ h
 exact ⟨its,n,r,e,z⟩
theorem Inv.lstUpd {pins:List (Addr × Obj)} {σ:St} {H:Hp} {s:Shared} {p:Addr} {xs ys:List V} {its its':List Value} {n n':Nat} {f:Obj→Obj} (I:Inv X pins σ H s) (h:H p = some (.lst xs))
  (ho:s.heap.get? p = some { cls:=.type "list",data:=.seq its.toArray n }) (hf:f { cls:=.type "list",data:=.seq its.toArray n } = { cls:=.type "list",data:=.seq its'.toArray n' }) (r:Vals ys its') (hz:ys.length ≤ sizeLine) (t:Nat) :
  Inv X pins σ (upd H p (.lst ys)) { s with heap:=s.heap.update p f,toks:=t }:=by
 have e:(s.heap.update p f).get? p = some { cls:=.type "list",data:=.seq its'.toArray n' }:=by
  rw [Heap.get?_update_self f ho (by rw [hf] <;> rfl),hf]
 refine I.write (x:=p) (e:=p) (by rw [h]; trivial) (.inl rfl) (fun b u hb q=>(Heap.get?_update_other _ _ (Ne.symm hb)).trans q) ⟨_,e⟩ ?_
 exact ⟨hz,its',n',r,e⟩
def rSetL:V→V→V→Hp→(Hp→Prop)→Prop:=fun o i v H Q=>∃ p xs k j,o = .ref p∧i = .int k∧H p = some (.lst xs)∧ixN xs.length k = some j∧Q (upd H p (.lst (xs.set j v)))
theorem jp7:PSet X rSetL:=by
 intro pins s σ H o i v ov iv u Q I ro ri rv h
 obtain ⟨p,xs,k,j,rfl,rfl,hp,hj,q⟩:=h
 cases ro
 obtain ⟨t,rfl⟩:=ri
 obtain ⟨its,n,r,ho,hz⟩:=I.lst hp
 obtain ⟨h1,h2,h3,h4⟩:=jod hj
 have hl:=r.length
 have hn:=jh0
 have I':Inv X pins σ (upd H p (.lst (xs.set j v))) { s with heap:=s.heap.update p (Obj.mapSeq (·.setIfInBounds j u)) } :=
  I.lstUpd hp ho (jmj its n j u) (r.set rv j) (by rw [List.length_set]; exact hz) s.toks
 by_cases h0:0 ≤ k
 ·have hk:k.toNat = j:=by
   rw [seqIndex_of h0 h4] at h1
   exact Option.some.inj h1
  exact PySem.W.ki_setAt ho h0 (by omega) (by rw [List.size_toArray,← hl]; exact h4) (by rw [hk]; exact ⟨_,I',q⟩)
 ·have hk:(k + (its.toArray.size:Int)).toNat = j:=by
   rw [seqIndex_neg (by omega) h3] at h1
   rw [List.size_toArray,← hl]
   exact Option.some.inj h1
  exact PySem.W.ki_setBack ho (by omega) (by rw [List.size_toArray,← hl]; exact h3) (by omega) (by rw [hk]; exact ⟨_,I',q⟩)
theorem jj0 (lo hi:Option Int) (n:Nat):(sliceBounds lo hi none n).1 = ((HT.sIx n 0 lo:Nat):Int)∧(sliceBounds lo hi none n).2.1 = ((HT.sIx n n hi:Nat):Int)∧(sliceBounds lo hi none n).2.2 = 1:=by
 refine ⟨?_,?_,rfl⟩
 ·cases lo with
  | none=>simp [sliceBounds,HT.sIx]
  | some i =>
   simp only [sliceBounds,HT.sIx,Option.getD_none,show (1:Int) > 0 by decide,if_true]
   by_cases h:i < 0
   ·simp only [h,if_true] <;> omega
   ·simp only [h,if_false] <;> omega
 ·cases hi with
  | none=>simp [sliceBounds,HT.sIx]
  | some i =>
   simp only [sliceBounds,HT.sIx,Option.getD_none,show (1:Int) > 0 by decide,if_true]
   by_cases h:i < 0
   ·simp only [h,if_true] <;> omega
   ·simp only [h,if_false] <;> omega
theorem jhn (its:List Value) (lo hi:Option Int):slicePick its.toArray lo hi none = ((its.drop (HT.sIx its.length 0 lo)).take (HT.sIx its.length its.length hi - HT.sIx its.length 0 lo)).toArray:=by
 obtain ⟨h1,h2,h3⟩:=jj0 lo hi its.toArray.size
 unfold slicePick
 rw [h1,h2,h3]
 simp only [sliceRange_one,pick_run,List.size_toArray] <;> rfl
def rSlL (K:PySem.W.Frag):V→Option Int→Option Int→Hp→VK→Prop:=fun x lo hi H Q=>∃ a xs,x = .ref a∧SqL K H a xs∧∀ p,H p = none→Q (.ref p) (upd H p (.lst (cutV xs lo hi)))
theorem jr5:SlR X (rSlL X.K):=by
 intro pins s σ H x v vl vu lo hi sl Q I rx hs pl pu h
 obtain ⟨a,xs,rfl,hx,q⟩:=h
 cases rx
 obtain ⟨its,r,ht,hz⟩:=I.list hx
 have hlen:=r.length
 refine ⟨"list",_,slot_list_getitem.lookup,ht.isList.typeIs,?_⟩
 refine wpAny_getItem_list_slice ht.isList hs pl pu .none (by simp) ?_ (by rw [List.size_toArray] <;> omega)
 rw [jhn,← hlen]
 refine ⟨.ref s.heap.objs.size,_,I.laid (t':=s.toks) (o:=.lst (cutV xs lo hi)) (fun b ob q=>Heap.get?_push_of_some _ q) (Nat.le_refl _) ?_,rfl,q _ (I.hok.fresh (Nat.le_refl _))⟩
 exact ⟨Nat.le_trans (jl0 xs lo hi) hz,_,0,(r.drop (HT.sIx xs.length 0 lo)).take (HT.sIx xs.length xs.length hi - HT.sIx xs.length 0 lo),Heap.get?_push_size _ rfl⟩
def jcz:V→Bool
 | .non=>true
 | .bl _=>true
 | .int _=>true
 | .str _=>true
 | _=>false
def eqV:V→V→Bool
 | .non,.non=>true
 | .bl a,.bl b=>a == b
 | .bl a,.int b=>(if a then 1 else 0) == b
 | .int a,.bl b=>a == (if b then 1 else 0)
 | .int a,.int b=>a == b
 | .str a,.str b=>a == b
 | _,_=>false
theorem jqu {A:Around} {s:Shared} {y x:V} {u v:Value} (ry:RelV y u) (rx:RelV x v) (fy:jcz y = true) (fx:jcz x = true):SeqAt.EqAt A s u v (eqV y x):=by
 cases y with
 | non =>
  cases ry
  cases x with
  | non=>cases rx; exact SeqAt.EqAt.same _
  | bl b=>cases rx; exact SeqAt.EqAt.none_bool b
  | int b=>obtain ⟨t,rfl⟩:=rx; exact SeqAt.EqAt.none_int b t
  | str b=>obtain ⟨t,rfl⟩:=rx; exact SeqAt.EqAt.none_str b t
  | _=>exact absurd (show false = true from fx) Bool.false_ne_true
 | bl a =>
  cases ry
  cases x with
  | non=>cases rx; exact SeqAt.EqAt.bool_none a
  | bl b=>cases rx; exact SeqAt.EqAt.bool_bool a b
  | int b=>obtain ⟨t,rfl⟩:=rx; exact SeqAt.EqAt.bool_int a b t
  | str b=>obtain ⟨t,rfl⟩:=rx; exact SeqAt.EqAt.bool_str a b t
  | _=>exact absurd (show false = true from fx) Bool.false_ne_true
 | int a =>
  obtain ⟨t',rfl⟩:=ry
  cases x with
  | non=>cases rx; exact SeqAt.EqAt.int_none a t'
  | bl b=>cases rx; exact SeqAt.EqAt.int_bool a t' b
  | int b=>obtain ⟨t,rfl⟩:=rx; exact SeqAt.EqAt.int_int a t' b t
  | str b=>obtain ⟨t,rfl⟩:=rx; exact SeqAt.EqAt.int_str a t' b t
  | _=>exact absurd (show false = true from fx) Bool.false_ne_true
 | str a =>
  obtain ⟨t',rfl⟩:=ry
  cases x with
  | non=>cases rx; exact SeqAt.EqAt.str_none a t'
  | bl b=>cases rx; exact SeqAt.EqAt.str_bool a t' b
  | int b=>obtain ⟨t,rfl⟩:=rx; exact SeqAt.EqAt.str_int a t' b t
  | str b=>obtain ⟨t,rfl⟩:=rx; exact SeqAt.EqAt.str_str a t' b t
  | _=>exact absurd (show false = true from fx) Bool.false_ne_true
 | _=>exact absurd (show false = true from fy) Bool.false_ne_true
def eqU (x:V) (u:Value):Bool:=match u with
 | .none=>eqV .non x
 | .bool b=>eqV (.bl b) x
 | .int i _=>eqV (.int i) x
 | .str z _=>eqV (.str z) x
 | _=>false
theorem jqt {x y:V} {u:Value} (r:RelV y u) (f:jcz y = true):eqU x u = eqV y x:=by
 cases y with
 | non=>cases r; rfl
 | bl b=>cases r; rfl
 | int i=>obtain ⟨t,rfl⟩:=r; rfl
 | str z=>obtain ⟨t,rfl⟩:=r; rfl
 | _=>exact absurd (show false = true from f) Bool.false_ne_true
theorem jgf {x:V}:∀ {xs:List V} {us:List Value},Vals xs us→xs.all jcz = true→us.any (eqU x) = xs.any fun y=>eqV y x
 | _,_,.nil,_=>rfl
 | y :: xs,u :: us,.cons r t,f=>by
  rw [List.all_cons,Bool.and_eq_true] at f
  rw [List.any_cons,List.any_cons,jqt r f.1,jgf t f.2]
theorem jea {A:Around} {s:Shared} {x:V} {v:Value} (rx:RelV x v) (fx:jcz x = true):∀ {xs:List V} {us:List Value},Vals xs us→xs.all jcz = true→∀ u ∈ us,SeqAt.EqAt A s u v (eqU x u)
 | _,_,.nil,_=>fun u hu=>by cases hu
 | y :: xs,u :: us,.cons r t,f=>fun u' hu=>by
  rw [List.all_cons,Bool.and_eq_true] at f
  rcases List.mem_cons.mp hu with rfl | hu
  ·rw [jqt r f.1]; exact jqu r rx f.1 fx
  ·exact jea rx fx t f.2 u' hu
def inV (x:V) (xs:List V):Bool:=xs.any fun y=>eqV y x
def rIn (K:PySem.W.Frag) (neg:Bool):R2:=fun x y H Q=>∃ p xs,y = .ref p∧(SqL K H p xs ∨ SqT K H p xs)∧jcz x = true∧xs.all jcz = true∧Q (.bl (if neg then !inV x xs else inV x xs)) H
theorem jny:OpR X (compareOp .In) (rIn X.K false):=by
 intro pins s σ H x y v u Q I rx ry h
 obtain ⟨p,xs,rfl,hq,fx,fs,q⟩:=h
 cases ry
 rcases hq with hq | hq
 ·obtain ⟨its,r,pl,hz⟩:=I.list hq
  refine SeqAt.in_listAt (eqU x) pl.isList (fun w hw=>jea rx fx r fs w (by simpa using hw)) ⟨.bl _,H,I,rfl,?_⟩
  rw [show its.toArray.any (eqU x) = its.any (eqU x) by simp,jgf r fs]
  exact q
 ·obtain ⟨its,r,pl,hz⟩:=I.tuple hq
  refine SeqAt.in_tupleAt (eqU x) pl (fun w hw=>jea rx fx r fs w (by simpa using hw)) ⟨.bl _,H,I,rfl,?_⟩
  rw [show its.toArray.any (eqU x) = its.any (eqU x) by simp,jgf r fs]
  exact q
theorem jj8:OpR X (compareOp .NotIn) (rIn X.K true):=by
 intro pins s σ H x y v u Q I rx ry h
 obtain ⟨p,xs,rfl,hq,fx,fs,q⟩:=h
 cases ry
 rcases hq with hq | hq
 ·obtain ⟨its,r,pl,hz⟩:=I.list hq
  refine SeqAt.notIn_listAt (eqU x) pl.isList (fun w hw=>jea rx fx r fs w (by simpa using hw)) ⟨.bl _,H,I,rfl,?_⟩
  rw [show its.toArray.any (eqU x) = its.any (eqU x) by simp,jgf r fs]
  exact q
 ·obtain ⟨its,r,pl,hz⟩:=I.tuple hq
  refine SeqAt.notIn_tupleAt (eqU x) pl (fun w hw=>jea rx fx r fs w (by simpa using hw)) ⟨.bl _,H,I,rfl,?_⟩
  rw [show its.toArray.any (eqU x) = its.any (eqU x) by simp,jgf r fs]
  exact q
theorem jdn:jd9 X (.builtin "len") (fun xs H Q=>∃ p ys,xs = [.ref p]∧(SqL X.K H p ys ∨ SqT X.K H p ys)∧Q (.int ys.length) H):=by
 intro pins s σ H xs us Q I r h
 obtain ⟨p,ys,rfl,hq,q⟩:=h
 obtain ⟨u,rfl,rx⟩:=jk4 r
 cases rx
 have hn:=jh0
 rcases hq with hq | hq
 ·obtain ⟨its,r',pl,hz⟩:=I.list hq
  have hlen:=r'.length
  exact Calls.call_len_list pl.isList (by simp only [List.size_toArray] <;> omega) ⟨.int ys.length,H,I.tok _,⟨s.toks + 1,by rw [List.size_toArray,hlen]⟩,q⟩
 ·obtain ⟨its,r',pl,hz⟩:=I.tuple hq
  have hlen:=r'.length
  exact len_tuple pl (by simp only [List.size_toArray] <;> omega) ⟨.int ys.length,H,I.tok _,⟨s.toks + 1,by rw [List.size_toArray,hlen]⟩,q⟩
theorem jjv:jd9 X (.type "list") (fun xs H Q=>∃ p ys,xs = [.ref p]∧(SqL X.K H p ys ∨ SqT X.K H p ys)∧∀ l,H l = none→Q (.ref l) (upd H l (.lst ys))):=by
 intro pins s σ H xs us Q I r h
 obtain ⟨p,ys,rfl,hq,q⟩:=h
 obtain ⟨u,rfl,rx⟩:=jk4 r
 cases rx
 have fin:∀ (its:List Value),Vals ys its→ys.length ≤ sizeLine→∀ (h':Heap) (c':Nat),(∀ b o',s.heap.get? b = some o'→h'.get? b = some o') →
   h'.get? s.heap.objs.size = some { cls:=.type "list",dict:=none,data:=.seq its.toArray c',slots:=#[] }→EP X pins σ Q (.ref s.heap.objs.size) { s with heap:=h' }:=fun its r' hz h' c' kp e =>
  ⟨.ref s.heap.objs.size,_,I.laid (t':=s.toks) kp (Nat.le_refl _) (show jcp X.prog X.w _ h' _ (.lst ys) from ⟨hz,its,c',r',e⟩),rfl,q _ (I.hok.fresh (Nat.le_refl _))⟩
 rcases hq with hq | hq
 ·obtain ⟨its,r',pl,hz⟩:=I.list hq
  have hlen:=r'.length
  obtain ⟨o,ho,hc,n,hd⟩:=pl.isList
  exact call_list_seq p (.inl rfl) ho hc hd (fun h' c' kp e=>fin its r' hz h' c' kp e) (by simp only [List.size_toArray] <;> omega)
 ·obtain ⟨its,r',pl,hz⟩:=I.tuple hq
  have hlen:=r'.length
  obtain ⟨o,ho,hc,n,hd⟩:=pl
  exact call_list_seq p (.inr rfl) ho hc hd (fun h' c' kp e=>fin its r' hz h' c' kp e) (by simp only [List.size_toArray] <;> omega)
def tyV (K:PySem.W.Frag) (T:String) (x:V) (H:Hp):Prop:=match x with
 | .str _=>T = "str"
 | .int _=>T = "int"
 | .ref p=>(T = "list"∧∃ xs,SqL K H p xs) ∨ (T = "tuple"∧∃ o,K.lookup p = some o∧o.cls = .type "tuple"∧o.dict = none) ∨
   (T = "dict"∧((∃ kvs,H p = some (.dK kvs)) ∨ ∃ kvs,H p = some (.dT kvs))) ∨ (T = "set"∧∃ S n,H p = some (.set S n))
 | _=>False
theorem jq8 {pins:List (Addr × Obj)} {σ:St} {H:Hp} {s:Shared} {T:String} {x:V} {v:Value} (I:Inv X pins σ H s) (r:RelV x v) (ty:tyV X.K T x H) :
  s.TypeIs v T∧∀ a,v = .ref a→∃ ob,s.heap.get? a = some ob∧ob.dict = none:=by
 cases x with
 | str z =>
  obtain ⟨t,rfl⟩:=r
  cases (show T = "str" from ty)
  exact ⟨typeIs_str s z t,fun _ e=>nomatch e⟩
 | int i =>
  obtain ⟨t,rfl⟩:=r
  cases (show T = "int" from ty)
  exact ⟨typeIs_int s i t,fun _ e=>nomatch e⟩
 | ref p =>
  cases r
  rcases ty with ⟨rfl,xs,hq⟩ | ⟨rfl,o,hk,hc,hd⟩ | ⟨rfl,hk⟩ | ⟨rfl,S,n,hk⟩
  ·obtain ⟨its,_,pl,_⟩:=I.list hq
   refine ⟨pl.isList.typeIs,fun a e=>?_⟩
   cases e
   obtain ⟨o,n,e,c,hd,_⟩:=pl
   exact ⟨o,e,hd⟩
  ·refine ⟨⟨o,I.kIn p o hk,hc⟩,fun a e=>?_⟩
   cases e
   exact ⟨o,I.kIn _ o hk,hd⟩
  ·have z:∃ o,s.heap.get? p = some o∧o.ExactDict:=by
    rcases hk with ⟨kvs,hk⟩ | ⟨kvs,hk⟩
    ·obtain ⟨_,_,_,_,o,_,_,e,ex,_⟩:=I.hok p _ hk
     exact ⟨o,e,ex⟩
    ·obtain ⟨_,_,_,_,o,_,_,e,ex,_⟩:=I.hok p _ hk
     exact ⟨o,e,ex⟩
   obtain ⟨o,e,ex⟩:=z
   refine ⟨⟨o,e,ex.1⟩,fun a e2=>?_⟩
   cases e2
   exact ⟨o,e,ex.2.1⟩
  ·obtain ⟨o,_,_,_,e,ex,_⟩:=I.hok p _ hk
   refine ⟨⟨o,e,ex.1⟩,fun a e2=>?_⟩
   cases e2
   exact ⟨o,e,ex.2.1⟩
 | _=>exact False.elim ty
variable {o e:Expr} {es:List Expr} {to:TE} {t:TA} {name:Str} {apos cpos:Pos} {T id:String} {r:V→List V→Hp→VK→Prop}
/- xs.append(e),list.index on a module's tuple .. are MtR facts of 06m -/
end
end L2
namespace L2
open PySem PySem.Spec PyProof.Rows
def MtM (X:Cx) (id:String) (r:V→List V→Hp→VK→Prop):Prop :=
 ∀ (pins:List (Addr × Obj)) (s:Shared) (σ:St) (H:Hp) (x:V) (xs:List V) (v:Value) (us:List Value) (Q:VK),Inv X pins σ H s→RelV x v→Vals xs us→r x xs H Q →
  wpAny (model X.prog X.w) X.A (call (.builtin id) (v :: us)) (EP X pins σ Q) X.xe s
theorem Vals.one:∀ {x:V} {us:List Value},Vals [x] us→∃ u,us = [u]∧RelV x u
 | _,_,.cons r .nil=>⟨_,rfl,r⟩
theorem Vals.two:∀ {x y:V} {us:List Value},Vals [x,y] us→∃ u v,us = [u,v]∧RelV x u∧RelV y v
 | _,_,_,.cons r (.cons q .nil)=>⟨_,_,rfl,r,q⟩
theorem Vals.zero:∀ {us:List Value},Vals [] us→us = []
 | _,.nil=>rfl
theorem Vals.dropLast {xs:List V} {us:List Value} (h:Vals xs us):Vals xs.dropLast us.dropLast:=by
 induction h with
 | nil=>exact .nil
 | cons r t ih =>
  cases t with
  | nil=>exact .nil
  | cons q t'=>exact .cons r ih
theorem jmp {α:Type} (l:List α):l.eraseIdx (l.length - 1) = l.dropLast:=by
 induction l with
 | nil=>rfl
 | cons a r ih =>
  cases r with
  | nil=>rfl
  | cons b r =>
   have e:(a :: b :: r).length - 1 = ((b :: r).length - 1) + 1:=by
    have h1:(a :: b :: r).length = r.length + 2:=rfl
    have h2:(b :: r).length = r.length + 1:=rfl
    omega
   rw [e,List.eraseIdx_cons_succ,ih]
   all_goals rfl
section
variable {X:Cx} {pins:List (Addr × Obj)} {σ:St} {H:Hp} {s:Shared} {l b:Addr} {xs ys zs:List V}
theorem Inv.lset {its its':List Value} {n:Nat} {f:Array Value→Array Value} {t':Nat} (I:Inv X pins σ H s) (hH:H l = some (.lst xs))
  (e:s.heap.get? l = some { cls:=.type "list",data:=.seq its.toArray n }) (hf:f its.toArray = its'.toArray) (hv:Vals ys its') (hz:ys.length ≤ sizeLine) :
  Inv X pins σ (upd H l (.lst ys)) { s with heap:=s.heap.update l (Obj.mapSeq f),toks:=t' }:=by
 have q:=PySem.IsL.update e f
 rw [hf] at q
 refine I.write (x:=l) (e:=l) (by rw [hH]; exact trivial) (.inl rfl) (fun b' u hb hu=>(Heap.get?_update_other s.heap (Obj.mapSeq f) (Ne.symm hb)).trans hu) ⟨_,q⟩ ?_
 exact ⟨hz,its',_,hv,q⟩
theorem Inv.lnew {its:List Value} {t':Nat} (I:Inv X pins σ H s) (hv:Vals ys its) (hz:ys.length ≤ sizeLine) :
  Inv X pins σ (upd H s.heap.objs.size (.lst ys)) { s with heap:=s.heap.push { cls:=.type "list",data:=.seq its.toArray },toks:=t' } :=
 I.laid (fun _ _ q=>Heap.get?_push_of_some _ q) (Nat.le_refl _) ⟨hz,its,0,hv,Heap.get?_push_size _ rfl⟩
theorem Inv.fresh (I:Inv X pins σ H s):H s.heap.objs.size = none:=I.hok.fresh (Nat.le_refl _)
theorem Inv.lstM (I:Inv X pins σ H s) (hH:H l = some (.lst xs)):xs.length ≤ sizeLine∧∃ (its:List Value) (n:Nat),Vals xs its∧xs.length = its.length∧s.heap.get? l = some { cls:=.type "list",data:=.seq its.toArray n }:=by
 obtain ⟨z,its,n,r,e⟩:=I.hok l _ hH
 exact ⟨z,its,n,r,r.length,e⟩
end
section
variable {X:Cx}
def jnl:V→List V→Hp→VK→Prop:=fun x vs H Q=>∃ l xs y,x = .ref l∧vs = [y]∧H l = some (.lst xs)∧xs.length < sizeLine∧Q .non (upd H l (.lst (xs ++ [y])))
theorem jji:MtM X "list.append" jnl:=by
 intro pins s σ H x vs v us Q I rx rv h
 obtain ⟨l,xs,y,rfl,rfl,hH,hz,q⟩:=h
 cases rx
 obtain ⟨u,rfl,ru⟩:=rv.one
 obtain ⟨z,its,n,r,hl,e⟩:=I.lstM hH
 refine call_meets F.slot_list_append ⟨_,e,rfl⟩ F.entry_list_append (F.args_list_append_2 _ _) (PySem.list_append l its.toArray n u (by rw [List.size_toArray]; omega)) ⟨e,?_⟩
 refine ⟨.non,_,I.lset (its':=its ++ [u]) hH e (by simp) (r.append (.cons ru .nil)) ?_,rfl,q⟩
 rw [List.length_append,List.length_singleton]
 omega
def rPop:V→List V→Hp→VK→Prop:=fun x vs H Q=>∃ l xs y,x = .ref l∧vs = []∧H l = some (.lst xs)∧xs[xs.length - 1]? = some y∧Q y (upd H l (.lst xs.dropLast))
theorem mt_pop:MtM X "list.pop" rPop:=by
 intro pins s σ H x vs v us Q I rx rv h
 obtain ⟨l,xs,y,rfl,rfl,hH,hy,q⟩:=h
 cases rx
 have hus:=rv.zero
 subst hus
 obtain ⟨z,its,n,r,hl,e⟩:=I.lstM hH
 obtain ⟨u,hu,ru⟩:=r.get hy
 have hy':its.toArray[its.toArray.size - 1]? = some u:=by
  show its.toArray[its.length - 1]? = some u
  rw [← Array.getElem?_toList,← hl]
  exact hu
 refine call_meets F.slot_list_pop ⟨_,e,rfl⟩ F.entry_list_pop (F.args_list_pop_1 _) (MeetsSeq.list_pop_last l its.toArray n u hy' (by rw [List.size_toArray]; omega)) ⟨e,?_⟩
 refine ⟨y,_,I.lset (its':=its.dropLast) hH e ?_ r.dropLast ?_,ru,q⟩
 ·show its.toArray.eraseIdxIfInBounds (its.toArray.size - 1) = its.dropLast.toArray
  rw [List.size_toArray,List.eraseIdxIfInBounds_toArray,jmp]
 ·rw [List.length_dropLast]
  omega
def rCat:R2:=fun x y H Q=>∃ l b xs zs,x = .ref l∧y = .ref b∧H l = some (.lst xs)∧H b = some (.lst zs)∧xs.length + zs.length ≤ sizeLine∧∀ p,H p = none→Q (.ref p) (upd H p (.lst (xs ++ zs)))
theorem op_cat:OpR X (binaryOp .Add) rCat:=by
 intro pins s σ H x y v u Q I rx ry h
 obtain ⟨l,b,xs,zs,rfl,rfl,hH,hB,hz,q⟩:=h
 cases rx
 cases ry
 obtain ⟨z,its,n,r,hl,e⟩:=I.lstM hH
 obtain ⟨z2,its2,n2,r2,hl2,e2⟩:=I.lstM hB
 refine PySem.P.add_list e e2 ?_ (by rw [List.size_toArray,List.size_toArray]; omega)
 have ea:its.toArray ++ its2.toArray = (its ++ its2).toArray:=by simp
 rw [ea]
 exact ⟨.ref _,_,I.lnew (t':=s.toks) (r.append r2) (by rw [List.length_append]; omega),rfl,q _ I.fresh⟩
end
section
variable {prog:Program} {w:World} {A:Around} {E:Value→Shared→Prop} {s:Shared}
end
section
variable {X:Cx}
end
end L2
namespace Att
open PySem PySem.W PySem.Calls PyProof.Rows
theorem jg9 {P:Params} {h:Heap}:∀ (ns:List Int) (vs:List Value),WellAll P h vs (ns.map WData.int)→IntsAre vs ns:=by
 intro ns
 induction ns with
 | nil =>
  intro vs w
  rw [List.map_nil] at w
  cases w
  exact .nil
 | cons n ns ih =>
  intro vs w
  rw [List.map_cons] at w
  cases w with
  | cons a b =>
   cases a
   exact .cons _ _ (ih _ b)
theorem jnh {l:OpenLaw} {n:Nat} (hn:l.most = some n) {P:Params} {h:Heap} {args:List WData} {vals:List Value}
  (hpre:l.row.toRowW.claim.pre args = true) (hwl:WellAll P h vals args) :
  ∃ a vs ns,vals = [Value.ref a]∧args = [WData.list (ns.map WData.int)]∧h.get? a = some { cls:=.type "list",data:=.seq vs.toArray }∧IntsAre vs ns∧ns.length ≤ n:=by
 have hsh:WShape.hasAll [] args [.list .int] = true:=(pre_splitW hpre).1
 have hc:l.pre.holds [] { args:=args } = true:=(pre_splitW hpre).2
 obtain ⟨d,r,rfl,h1,h2⟩:=hasAllW_cons hsh
 obtain rfl:=hasAllW_nil h2
 obtain ⟨xs,rfl,h3⟩:=hasW_list h1
 obtain ⟨ns,rfl⟩:=items_int h3
 have hlen:ns.length ≤ n:=by
  unfold OpenLaw.pre at hc
  have h4:(WTm.not (.lt (.lit (.int (n:Int))) (.len (.arg 0)))).holds [] { args:=[.list (ns.map .int)] } = true:=by
   have h4:=(holds_andW hc).1
   rw [hn] at h4
   exact h4
  have h5:=condW_of h4 (w_not (w_lt w_lit (w_len_list (w_arg rfl))))
  rw [List.length_map] at h5
  refine Nat.le_of_not_lt fun q=>?_
  have q':(n:Int) < ((ns.length:Nat):Int):=by omega
  first
   | (rw [decide_eq_true q'] at h5; exact absurd h5 (by decide))
   | (simp at h5; omega)
 cases hwl with
 | cons w1 w2 =>
  cases w2
  cases w1 with
  | list ho hall=>exact ⟨_,_,ns,rfl,rfl,ho,jg9 ns _ hall,hlen⟩
theorem jns (l:OpenLaw) (args:List WData):l.row.toRowW.claim.post args (.bool true) args = true :=
 postW_of (r:=l.row.toRowW) (X:=(true == true))
  (show WShape.has [] (.bool true) .bool = true by first | rfl | decide | simp [WShape.has,WShape.arms,WShape.armsAll])
  (show (WTm.eq .res (.lit (.bool true))).value [] { args:=args,res:=some (.bool true),after:=args } = some (.bool (true == true)) from w_eq_bool (w_res rfl) w_lit) rfl
theorem attach_call {l:OpenLaw} {n:Nat} {q:Program} {loose:List Str} {XP:(Str→Option Value)→Heap→Prop} {YP:World→Heap→Prop} {d:DefRec}
  (hn:l.most = some n) (hdf:d.params.defaults = [])
  (call:∀ (w:World) (s₀ s₁:Shared) (mg mb:Str→Option Value) (fa:Addr) (o:Obj) (pm cd doc:Value) (a:Addr) (vs:List Value) (ns:List Int),
   Ground q loose [] XP w s₀ mg mb s₁.heap→YP w s₁.heap →
   s₁.heap.get? fa = some o→o.data = .func (docDef d.name d.params d.body d.scope pm cd doc)→s₁.heap.CodeRec cd d.name→mg d.name = some (.ref fa) →
   s₁.heap.get? a = some { cls:=.type "list",data:=.seq vs.toArray }→IntsAre vs ns→ns.length ≤ n→s₁.gens = #[] →
   codeAny (model l.prog w) callerA (.call (.ref fa) ⟨[.ref a],[]⟩) (fun r s'=>r = .ok (.ret (.bool true))∧OldK s₁.heap s'.heap∧s'.os = s₁.os∧AllBare s'.gens) s₁) :
  WalkO q loose XP YP l.row.toRowW d [] (fun f vs=>PySem.call f vs):=by
 intro w s₀ s₁ mg mb G Y fa o pm cd doc dV kV ho hd hcd hD hmg hg args vals as hpre hlay hrd hwl hlo
 obtain rfl:dV = .none:=Dflts.none hD hdf
 obtain rfl:kV = .none:=Dflts.noKw hD
 obtain ⟨a,vs,ns,rfl,rfl,hobj,hints,hlen⟩:=jnh hn hpre hwl
 refine enter_call (codeAny_mono (call w s₀ s₁ mg mb fa o pm cd doc a vs ns G Y ho (fd_plain hd) hcd hmg hobj hints hlen hg) fun r s' hq=>?_)
 obtain ⟨rfl,h2,h3,h4⟩:=hq
 exact ⟨.inl ⟨.bool true,.bool true,[],rfl,fun _=>rfl,.bool true,jns l _,fun _=>⟨List.Pairwise.nil,fun _ hm=>(nomatch hm)⟩⟩,h2,h3,h4⟩
section
variable {prog:Program} {w:World} {A:Around} {E:Value→Shared→Prop} {s:Shared} {K:Frag}
end
end Att
namespace L2
open PySem PySem.Spec PyProof.Rows
theorem jfl:∀ {vs:List Value} {ns:List Int},IntsAre vs ns→Vals (ns.map V.int) vs
 | _,_,.nil=>.nil
 | _,_,.cons n t h=>.cons ⟨t,rfl⟩ (jfl h)
def Only (H:Hp):Prop:=∀ b,H b = none ∨ ∃ o xs,H b = some (.frz o (.lst xs))
theorem jpt {P:Program} {w:World} {K:PySem.W.Frag} {mg mb:Str→Option Value} {CX:CXT} {k:Nat} {fa a:Addr} {fd:FuncData} {x:Str} {sp:Sp} {s₁:Shared} {vs:List Value} {ns:List Int}
  (KX:K.In s₁.heap) (hns:s₁.heap.Ns mainGlobals mg) (hb:s₁.heap.Ns builtinsNs mb) (hbb:∀ x:Str,x ≠ "__name__"→mb x = bootBuiltins x) (hlim:s₁.heap.NoLimit) (hg:s₁.gens = #[])
  (ha:s₁.heap.get? a = some { cls:=.type "list",data:=.seq vs.toArray }) (hi:IntsAre vs ns) (hl:ns.length ≤ sizeLine) (hr:Room k callerA)
  (F:∀ base:Heap,K.In base→base.Ns mainGlobals mg→FnOk P w K mg base CX k fa fd [x] sp) (hbind:∀ (s:Shared) (u:Value),BindsTo s fd ⟨[u],[]⟩ [(x,u)])
  (hsp:∀ H:Hp,Only H→SqL K H a (ns.map V.int)→sp [.ref a] H (fun v _=>v = .bl true) fun _ _ _=>False)
  (hCX:∀ H e s',CX [] H s₁ (fun _ _ _=>False) e s'→False) :
  codeAny (model P w) callerA (.call (.ref fa) ⟨[.ref a],[]⟩) (fun r s'=>r = .ok (.ret (.bool true))∧OldK s₁.heap s'.heap∧s'.os = s₁.os∧AllBare s'.gens) s₁:=by
 have rv:=jfl hi
 have lenV:=hi.length
  -- from an abstract heap in which nothing but the script may be tracked
 have core:∀ H:Hp,Only H→SqL K H a (ns.map V.int)→HOk P w H s₁.heap→(∀ b,H b ≠ none→b = a)→(H a ≠ none→K.lookup a = none) →
   codeAny (model P w) callerA (.call (.ref fa) ⟨[.ref a],[]⟩) (fun r s'=>r = .ok (.ret (.bool true))∧OldK s₁.heap s'.heap∧s'.os = s₁.os∧AllBare s'.gens) s₁:=by
  intro H hO hS hok hA hK
  have base_of:∀ {b:Addr} {o:Obj},s₁.heap.get? b = some o→H b = none→(hidT s₁.heap H).get? b = some o:=fun e n=>jpv e n
  have noA:∀ {b:Addr} {o:Obj} {es:Array DictEntry} {ep:Nat},s₁.heap.get? b = some o→o.data = .dict es ep→H b = none:=fun {b o es ep} e d=>by
   cases q:H b with
   | none=>rfl
   | some u =>
    have e':b = a:=hA b (by rw [q]; simp)
    subst e'
    rw [ha] at e; cases e
    have d':Data.seq vs.toArray _ = Data.dict es ep:=d
    cases d'
  have nsK:∀ {b:Addr} {m:Str→Option Value},s₁.heap.Ns b m→(hidT s₁.heap H).Ns b m:=fun {b m} ⟨o,es,ep,e,d,r⟩=>⟨o,es,ep,base_of e (noA e d),d,r⟩
  have hKb:K.In (hidT s₁.heap H):=fun b o e=>base_of (KX b o e) (by
   cases q:H b with
   | none=>rfl
   | some u =>
    have e':b = a:=hA b (by rw [q]; simp)
    subst e'
    rw [hK (by rw [q]; simp)] at e; cases e)
  have hM:Mod K mg (hidT s₁.heap H):=⟨hKb,nsK hns,⟨mb,nsK hb,hbb⟩,let ⟨mc,h1,h2⟩:=hlim; ⟨mc,nsK h1,h2⟩⟩
  have e0:Env0 P w K mg (hidT s₁.heap H) callerA [] s₁ H:=⟨rfl,hM,fun b o e=>jro e,Nat.le_of_eq (joi _ _),trivial,fun b hb=>absurd (show b ∈ ([]:List Addr) from hb) (by simp),hok,.of_eq hg⟩
  refine codeAny_mono ((F _ hKb (nsK hns)).run callerA [] s₁ H ⟨[.ref a],[]⟩ [.ref a] [.ref a] _ _ hr e0 (hbind s₁ (.ref a)) (.cons rfl .nil) (hsp H hO hS)) fun r s' h=>?_
  cases r with
  | error e=>exact (hCX H e s' h).elim
  | ok fl =>
   cases fl with
   | next=>exact False.elim h
   | brk=>exact False.elim h
   | cont=>exact False.elim h
   | ret u =>
    obtain ⟨v,H',os,bare,un,hok',r',q⟩:=h
    have q':v = .bl true:=q
    subst q'
    obtain rfl:u = Value.bool true:=r'
    refine ⟨rfl,OldK.of_keep fun b o e=>?_,os,bare⟩
    cases q:H b with
    | none=>exact un.keep b o e q (by intro z; exact absurd (show b ∈ ([]:List Addr) from z) (by simp)) (by simp)
    | some u =>
     rcases hO b with z | ⟨ob,xs,z⟩
     ·rw [q] at z; cases z
     ·have z2:=un.frzs b ob _ z
      obtain ⟨e1,_⟩:=hok b _ z
      obtain ⟨e2,_⟩:=hok' b _ z2
      rw [e] at e1; cases e1
      exact e2
 cases hk:K.lookup a with
 | some o =>
    -- the script is one of the module's own objects
  have e:=KX a o hk
  rw [ha] at e
  cases e
  refine core (fun _=>none) (fun _=>.inl rfl) (.inr ⟨_,vs.toArray,_,hk,rfl,rfl,rfl,by rw [List.size_toArray,lenV]; exact hl,by simpa using rv⟩) (fun b u z=>by have z':(none:Option HO) = some u:=z; cases z') (fun b z=>absurd rfl z) fun z=>absurd rfl z
 | none =>
  refine core (fun b=>if b = a then some (.frz { cls:=.type "list",data:=.seq vs.toArray } (.lst (ns.map V.int))) else none) (fun b=>?_) (.inl (.inr ⟨{ cls:=.type "list",data:=.seq vs.toArray },if_pos rfl⟩)) (fun b u z=>?_) (fun b z=>?_) fun _=>hk
  ·by_cases hb:b = a
   ·exact .inr ⟨_,_,if_pos hb⟩
   ·exact .inl (if_neg hb)
  ·by_cases hb:b = a
   ·have z':=(if_pos hb).symm.trans z
    cases z'
    subst hb
    exact ⟨ha,by rw [List.length_map]; exact hl,vs,_,rv,ha⟩
   ·have z':=(if_neg hb).symm.trans z
    cases z'
  ·by_cases hb:b = a
   ·exact hb
   ·exact absurd (if_neg hb) z
end L2
namespace L2
open PySem PySem.Spec PyProof.Rows
abbrev KOf {K:PySem.W.Frag} {h:Heap} (_:K.In h):PySem.W.Frag:=K
theorem jmu {l:PySem.W.OpenLaw} {n k:Nat} {q:Program} {loose:List Str} {XP:(Str→Option Value)→Heap→Prop} {YP:World→Heap→Prop} {d:DefRec} {K:Params→PySem.W.Frag} {CX:World→CXT} {sp:World→Sp} {x:Str}
    (hn:l.most = some n) (hn2:n ≤ sizeLine) (hdf:d.params.defaults = []) (hr:Room k callerA)
    (hY:∀ (w:World) (h:Heap),YP w h→(K w.params).In h)
    (F:∀ (w:World) (mg:Str→Option Value) (fa:Addr) (h:Heap),(K w.params).In h→h.Ns mainGlobals mg→mg d.name = some (.ref fa) →
      ∃ fd:FuncData,(∀ (s:Shared) (u:Value),BindsTo s fd ⟨[u],[]⟩ [(x,u)]) ∧
        ∀ base:Heap,(K w.params).In base→base.Ns mainGlobals mg→FnOk l.prog w (K w.params) mg base (CX w) k fa fd [x] (sp w))
    (hsp:∀ (w:World) (H:Hp) (a:Addr) (ns:List Int),ns.length ≤ n→Only H→SqL (K w.params) H a (ns.map V.int)→sp w [.ref a] H (fun v _=>v = .bl true) fun _ _ _=>False)
    (hCX:∀ (w:World) (H:Hp) (s:Shared) (e:Value) (s':Shared),CX w [] H s (fun _ _ _=>False) e s'→False) :
    PySem.W.WalkO q loose XP YP l.row.toRowW d [] (fun f vs=>PySem.call f vs):=by
  refine Att.attach_call hn hdf fun w s₀ s₁ mg mb fa o pm cd doc a vs ns G Y ho hd hcd hmg hobj hints hlen hg=>?_
  have KX:=hY w _ Y
  obtain ⟨fd,hb,hF⟩:=F w mg fa _ KX G.T.g hmg
  exact jpt KX G.T.g G.T.b G.T.builtins G.T.nolimit hg hobj hints (Nat.le_trans hlen hn2) hr hF hb (fun H hO hS=>hsp w H a ns hlen hO hS) fun H e s'=>hCX w H s₁ e s'
end L2
/- THE LAST THEOREM (shape; LID,My.* are yours):
   My.Adr: a structure of the addresses that your layer names (classes,functions); My.Txt K t: a structure (Prop) of the equations over K;
   My.txt_mk:{K} {implicit addresses ..} (e1:nsIn K mainGlobals "law" = some (some (.ref f))) (e2:K.lookup f = some ⟨oc,od,.func (fnOf "law" "law" params body scope dV kV doc pm an cdv ct),sl⟩) (e3:codeIn K cdv "law" = true) ..:∃ t,My.Txt K t
set_option maxRecDepth 100000 in
set_option maxHeartbeats 0 in
theorem PySem.Challenge.cw_LID_holds : PySem.Challenge.rw_LID.Holds := by
 w_on; o_law; k_head; (case hw=>w_witness2)
 k_fill
 refine L2.jmu (l:=PySem.Challenge.rw_LID) (n:=63) (k:=40) (x:="script") (CX:=fun w=>..) (sp:=fun _=>My.sp_law) rfl (by decide) rfl ⟨rfl,by decide,by decide⟩ (fun w h Y=>PySem.W.kIn_of Y) ?F ?S ?C
 case F =>
  intro w mg fa h KX G hmg
  have T:∃ t,My.Txt (L2.KOf KX) t:=by
   dsimp only [L2.KOf]                          -- K must stand as «<heap const> w.params» for k_is
   refine' My.txt_mk ?e1 ?e2 ?e3 ..
   (case e1=>PySem.W.k_is)                    -- in the order: a name -> its address -> its object -> its parts
   (case e2=>PySem.W.k_is)
   ..
  obtain ⟨t,T⟩:=T
  have e0:=hmg.symm.trans (PySem.W.mg_of KX G T.law)
  cases e0                                       -- fa is the law's own address
  exact ⟨_,fun s u=>.of_eq rfl,fun base kb nb=>My.law_fn T kb nb⟩     -- if «.of_eq rfl» comes too early: refine' ⟨_,?b,fun base kb nb=>My.law_fn T kb nb⟩; exact fun s u=>.of_eq rfl
 case S=>exact fun w H a ns hl hO hS=>..
 case C=>exact ..
(the tactic k_is has no namespace: write k_is) -/
namespace L2
open PySem PySem.Spec PyProof.Rows
def jdm (s:Stmt):Arguments:=match s with
 | .FunctionDef _ a _ _ _ _ _ _ _ _=>a
 | _=>{ posonlyargs:=[],args:=[],vararg:=none,kwonlyargs:=[],kw_defaults:=[],kwarg:=none,defaults:=[] }
def jdi (s:Stmt):List Stmt:=match s with
 | .FunctionDef _ _ b _ _ _ _ _ _ _=>b
 | _=>[]
def jbc (s:Stmt):Scope:=match s with
 | .FunctionDef _ _ _ _ _ _ sc _ _ _=>sc
 | _=>{ kind:=.function,names:=[],isGenerator:=false,isCoroutine:=false }
abbrev CX0:CXT:=fun _ _ _ _ _ _=>False
abbrev E0:XK:=fun _ _ _=>False
theorem jbt {X:Cx}:jeg CX0 X E0:=fun _ _ _ _ _ _ _ h=>h.elim
structure Fun (K:PySem.W.Frag) (x qual:Str) (st:Stmt) (f:Addr) (fd:FuncData):Prop where
 ex:∃ (oc:Value) (od:Option Addr) (kV doc pm:Value) (an:Option Addr) (cdv ct:Value) (osl:Array (Option Value)),
  fd = PySem.W.fnOf x qual (jdm st) (jdi st) (jbc st) .none kV doc pm an cdv ct∧K.lookup f = some ⟨oc,od,.func fd,osl⟩∧PySem.W.codeIn K cdv qual = true
 kp:PySem.W.keepIn K (.ref f) = true
section
variable {P:Program} {w:World} {K:PySem.W.Frag} {mg:Str→Option Value} {base:Heap}
theorem Fun.ok {x qual:Str} {st:Stmt} {f:Addr} {fd:FuncData} {N ps:List Str} {k:Nat} {sp:Sp} (F:Fun K x qual st f fd) (S:FnScope N ps (jbc st)) (len:∀ vs H Q E,sp vs H Q E→vs.length = ps.length)
  (hbody:∀ (cdv:Value) (A:Around) (outer:List Env) (s:Shared) (H:Hp) (vs:List V) (Q:VK) (E:XK),Room k (A.deeper (envOfC qual (jbc st) s.heap.objs.size f cdv))→sp vs H Q E →
   ∃ t,PSs (cxOf CX0 P w K mg base N qual (jbc st) f cdv A outer s H E).nox (jdi st) t∧t { nx:=fun _ H'=>Q .non H',rt:=Q } (jam N vs) H):FnOk P w K mg base CX0 (k + 1) f fd ps sp:=by
 obtain ⟨oc,od,kV,doc,pm,an,cdv,ct,osl,rfl,lk,hcd⟩:=F.ex
 refine fn_of lk hcd S len fun A outer s H vs Q E hr hsp=>?_
 obtain ⟨t,h,q⟩:=hbody cdv A outer s H vs Q E hr hsp
 exact ⟨t,h.nox,q⟩
theorem Fun.binds {x qual:Str} {st:Stmt} {f:Addr} {fd:FuncData} {ps:List Str} (F:Fun K x qual st f fd)
  (h:∀ (kV doc pm:Value) (an:Option Addr) (cdv ct:Value) (us:List Value),us.length = ps.length→bindArgs (PySem.W.fnOf x qual (jdm st) (jdi st) (jbc st) .none kV doc pm an cdv ct) ⟨us,[]⟩ = pure (ps.zip us)):jei K fd ps []:=by
 obtain ⟨oc,od,kV,doc,pm,an,cdv,ct,osl,rfl,lk,hcd⟩:=F.ex
 exact .all (h kV doc pm an cdv ct)
theorem jbm {x qual:Str} {st:Stmt} {f:Addr} {oc:Value} {od an:Option Addr} {osl:Array (Option Value)} {kV doc pm cdv ct:Value} (l:K.lookup f = some ⟨oc,od,.func (PySem.W.fnOf x qual (jdm st) (jdi st) (jbc st) .none kV doc pm an cdv ct),osl⟩)
  (c:PySem.W.codeIn K cdv qual = true) (k:PySem.W.keepIn K (.ref f) = true):Fun K x qual st f (PySem.W.fnOf x qual (jdm st) (jdi st) (jbc st) .none kV doc pm an cdv ct):=⟨⟨oc,od,kV,doc,pm,an,cdv,ct,osl,rfl,l,c⟩,k⟩
end
theorem jcb {A:Around} {k:Nat} (hr:Room k A):A.units + 1 < cLine:=Nat.lt_of_le_of_lt (Nat.add_le_add_left (by decide:1 ≤ 64) _) hr.units
section
variable {X:Cx}
end
theorem ite2 {c A B:Prop} [Decidable c] (h1:c→A) (h2:¬ c→B):if c then A else B:=by
 by_cases h:c
 ·rw [if_pos h]
  exact h1 h
 ·rw [if_neg h]
  exact h2 h
def Same (H H':Hp):Prop:=∀ b o,H b = some o→H' b = some o
theorem Same.refl (H:Hp):Same H H:=fun _ _ h=>h
theorem Same.trans {H H1 H2:Hp} (a:Same H H1) (b:Same H1 H2):Same H H2:=fun c o h=>b c o (a c o h)
theorem Same.free {H H':Hp} (e:Same H H') {l:Addr} (h:H' l = Option.none):H l = Option.none:=by
 cases q:H l with
 | none=>rfl
 | some o =>
  rw [e l o q] at h
  cases h
end L2
set_option maxHeartbeats 8000000
namespace L2
open PySem PySem.Spec PyProof.Rows
section
variable {κ:Type} [DecidableEq κ]
def valV (kvs:List (κ × V)) (k:κ):Option V:=(kvs.find? fun kv=>decide (kv.1 = k)).map (·.2)
def putK (kvs:List (κ × V)) (k:κ) (v:V):List (κ × V) :=
 if (kvs.any fun kv=>decide (kv.1 = k)) = true then kvs.map (fun kv=>if kv.1 = k then (kv.1,v) else kv) else kvs ++ [(k,v)]
def dropK (kvs:List (κ × V)) (k:κ):List (κ × V):=kvs.filter fun kv=>decide (kv.1 ≠ k)
theorem jf5 {p:κ × V} {r:List (κ × V)} {k:κ} (e:p.1 = k):valV (p :: r) k = some p.2:=by simp [valV,List.find?_cons,e]
theorem jf6 {p:κ × V} {r:List (κ × V)} {k:κ} (e:¬ p.1 = k):valV (p :: r) k = valV r k:=by simp [valV,List.find?_cons,e]
theorem je2 (k:κ):∀ kvs:List (κ × V),(kvs.any fun kv=>decide (kv.1 = k)) = (valV kvs k).isSome
 | []=>rfl
 | p :: r=>by
  rw [List.any_cons]
  by_cases e:p.1 = k
  ·simp only [jf5 e,decide_eq_true e,Bool.true_or,Option.isSome_some]
  ·rw [jf6 e,decide_eq_false e,Bool.false_or]; exact je2 k r
theorem je0 (kvs:List (κ × V)) (k:κ) (v:V):(putK kvs k v).length ≤ kvs.length + 1:=by
 unfold putK
 split
 ·rw [List.length_map]; omega
 ·rw [List.length_append,List.length_cons,List.length_nil]; omega
theorem jlk {kvs:List (κ × V)} {k:κ} (v:V) (h:valV kvs k = none):putK kvs k v = kvs ++ [(k,v)]:=by
 unfold putK
 rw [je2,h]
 exact if_neg (by decide)
theorem RelO.isSome_eq {o:Option V} {u:Option Value} (r:RelO o u):o.isSome = u.isSome:=by
 cases o with
 | none=>cases u with
  | none=>rfl
  | some _=>exact (show False from r).elim
 | some _=>cases u with
  | none=>exact (show False from r).elim
  | some _=>rfl
theorem RelO.getD {o:Option V} {u:Option Value} {d:V} {d':Value} (r:RelO o u) (rd:RelV d d'):RelV (o.getD d) (u.getD d'):=by
 cases o with
 | none=>cases u with
  | none=>exact rd
  | some _=>exact (show False from r).elim
 | some _=>cases u with
  | none=>exact (show False from r).elim
  | some _=>exact r
theorem KV.val {kvs:List (κ × V)} {vs:List (κ × Value)} (r:KV kvs vs) (k:κ):RelO (valV kvs k) (valueAt vs k):=by
 unfold KV at r
 induction r with
 | nil=>exact True.intro
 | @cons p q ps qs h t ih =>
  obtain ⟨h1,h2⟩:=h
  by_cases e:p.1 = k
  ·have e':q.1 = k:=h1.symm.trans e
   have b:valueAt (q :: qs) k = some q.2:=by simp [valueAt,List.find?_cons,e']
   rw [jf5 e,b]; exact h2
  ·have e':¬ q.1 = k:=fun z=>e (h1.trans z)
   have b:valueAt (q :: qs) k = valueAt qs k:=by simp [valueAt,List.find?_cons,e']
   rw [jf6 e,b]; exact ih
theorem KV.any {kvs:List (κ × V)} {vs:List (κ × Value)} (r:KV kvs vs) (k:κ):(kvs.any fun kv=>decide (kv.1 = k)) = vs.any fun kv=>decide (kv.1 = k):=by
 unfold KV at r
 induction r with
 | nil=>rfl
 | cons h t ih=>rw [List.any_cons,List.any_cons,ih,h.1]
theorem KV.repl {kvs:List (κ × V)} {vs:List (κ × Value)} (r:KV kvs vs) (k:κ) {y:V} {u:Value} (ry:RelV y u) :
  KV (kvs.map fun kv=>if kv.1 = k then (kv.1,y) else kv) (vs.map fun kv=>if kv.1 = k then (kv.1,u) else kv):=by
 unfold KV at r ⊢
 induction r with
 | nil=>exact .nil
 | @cons p q ps qs h t ih =>
  rw [List.map_cons,List.map_cons]
  refine .cons ?_ ih
  obtain ⟨h1,h2⟩:=h
  by_cases e:p.1 = k
  ·rw [if_pos e,if_pos (h1.symm.trans e)]; exact ⟨h1,ry⟩
  ·rw [if_neg e,if_neg (fun z=>e (h1.trans z))]; exact ⟨h1,h2⟩
theorem KV.put {kvs:List (κ × V)} {vs:List (κ × Value)} (r:KV kvs vs) (k:κ) {y:V} {u:Value} (ry:RelV y u):KV (putK kvs k y) (stored vs k u):=by
 unfold putK stored
 rw [r.any k]
 by_cases e:(vs.any fun kv=>decide (kv.1 = k)) = true
 ·rw [if_pos e,if_pos e]; exact r.repl k ry
 ·rw [if_neg e,if_neg e]; exact Paired.snoc r ⟨rfl,ry⟩
theorem KV.drop {kvs:List (κ × V)} {vs:List (κ × Value)} (r:KV kvs vs) (k:κ):KV (dropK kvs k) (without vs k):=by
 unfold KV at r ⊢
 unfold dropK without
 induction r with
 | nil=>exact .nil
 | @cons p q ps qs h t ih =>
  obtain ⟨h1,h2⟩:=h
  rw [List.filter_cons,List.filter_cons]
  by_cases e:p.1 = k
  ·have a:¬ decide (p.1 ≠ k) = true:=by simp [e]
   have b:¬ decide (q.1 ≠ k) = true:=by simp [h1.symm.trans e]
   rw [if_neg a,if_neg b]; exact ih
  ·have e':¬ q.1 = k:=fun z=>e (h1.trans z)
   have a:decide (p.1 ≠ k) = true:=by simp [e]
   have b:decide (q.1 ≠ k) = true:=by simp [e']
   rw [if_pos a,if_pos b]; exact .cons ⟨h1,h2⟩ ih
theorem KV.keys {kvs:List (κ × V)} {vs:List (κ × Value)} (r:KV kvs vs):kvs.map (·.1) = vs.map (·.1):=by
 unfold KV at r
 induction r with
 | nil=>rfl
 | cons h t ih=>rw [List.map_cons,List.map_cons,ih,h.1]
theorem KV.length {kvs:List (κ × V)} {vs:List (κ × Value)} (r:KV kvs vs):kvs.length = vs.length:=Paired.length r
end
theorem jjo {P:Program} {w:World} {k:Key} {u:Value} (r:RelV (kV k) u):(jbz P w).is k u = true:=by
 cases k with
 | inl i=>obtain ⟨t,e⟩:=(show ∃ t,u = Value.int i t from r); subst e; exact jkt P w i t
 | inr x=>obtain ⟨t,e⟩:=(show ∃ t,u = Value.str x t from r); subst e; exact jks P w x t
theorem jjp {P:Program} {w:World}:∀ {ks:List Key} {us:List Value},Vals (ks.map kV) us→ItemsAre (jbz P w) ks us
 | [],_,r=>by rw [List.map_nil] at r; cases r; exact .nil
 | k :: ks,_,r=>by
  rw [List.map_cons] at r
  cases r with
  | cons h t=>exact .cons (jjo h) (jjp t)
abbrev KT (H:Hp):List (List Key × V)→List (List Key × Addr × Value)→Prop:=Paired fun p q=>p.1 = q.1∧H q.2.1 = some (.tup (p.1.map kV))∧RelV p.2 q.2.2
theorem KT.val {H:Hp} {kvs:List (List Key × V)} {xs:List (List Key × Addr × Value)} (r:KT H kvs xs) (k:List Key):RelO (valV kvs k) ((atKey xs k).map (·.2)):=by
 induction r with
 | nil=>exact True.intro
 | @cons p q ps qs h t ih =>
  obtain ⟨h1,_,h2⟩:=h
  by_cases e:p.1 = k
  ·have e':q.1 = k:=h1.symm.trans e
   have b:atKey (q :: qs) k = some q.2:=by simp [atKey,List.find?_cons,e']
   rw [jf5 e,b]; exact h2
  ·have e':¬ q.1 = k:=fun z=>e (h1.trans z)
   have b:atKey (q :: qs) k = atKey qs k:=by simp [atKey,List.find?_cons,e']
   rw [jf6 e,b]; exact ih
theorem KT.repl {H:Hp} {kvs:List (List Key × V)} {xs:List (List Key × Addr × Value)} (r:KT H kvs xs) (k:List Key) {y:V} {u:Value} (ry:RelV y u) :
  KT H (kvs.map fun kv=>if kv.1 = k then (kv.1,y) else kv) (xs.map (putAt k u)):=by
 induction r with
 | nil=>exact .nil
 | @cons p q ps qs h t ih =>
  rw [List.map_cons,List.map_cons]
  refine .cons ?_ ih
  obtain ⟨h1,h2,h3⟩:=h
  unfold putAt
  by_cases e:p.1 = k
  ·rw [if_pos e,if_pos (h1.symm.trans e)]; exact ⟨h1,h2,ry⟩
  ·rw [if_neg e,if_neg (fun z=>e (h1.trans z))]; exact ⟨h1,h2,h3⟩
theorem KT.put {H:Hp} {kvs:List (List Key × V)} {xs:List (List Key × Addr × Value)} (r:KT H kvs xs) (k:List Key) {b:Addr} {y:V} {u:Value} (hb:H b = some (.tup (k.map kV))) (ry:RelV y u) :
  KT H (putK kvs k y) (storedH xs k b u):=by
 have e:(kvs.any fun kv=>decide (kv.1 = k)) = (atKey xs k).isSome:=by
  rw [je2,(r.val k).isSome_eq,Option.isSome_map]
 unfold putK storedH
 rw [e]
 by_cases q:(atKey xs k).isSome = true
 ·rw [if_pos q,if_pos q]; exact r.repl k ry
 ·rw [if_neg q,if_neg q]; exact Paired.snoc r ⟨rfl,hb,ry⟩
theorem KT.keeps {H H':Hp} {kvs:List (List Key × V)} {xs:List (List Key × Addr × Value)} (r:KT H kvs xs) (ht:∀ b ys,H b = some (.tup ys)→H' b = some (.tup ys)):KT H' kvs xs :=
 Paired.mapP r fun _ _ z=>⟨z.1,ht _ _ z.2.1,z.2.2⟩
section
variable {P:Program} {w:World} {H:Hp} {h:Heap} {a:Addr}
theorem rd_of {u:HO} (ok:HOk P w H h) (e:Rd H a u):jcp P w H h a u:=e.ok ok
theorem jkz {kvs:List (Key × V)} (ok:HOk P w H h) (e:Rd H a (.dK kvs)):kvs.length ≤ sizeLine∧(a == sysModules) = false∧∃ vs,KV kvs vs∧h.DictOf (jbz P w) a vs :=
 show jcp P w H h a (.dK kvs) from rd_of ok e
theorem jmq {kvs:List (Key × V)} (ok:HOk P w H h) (e:H a = some (.dK kvs)):kvs.length ≤ sizeLine∧(a == sysModules) = false∧∃ vs,KV kvs vs∧h.DictOf (jbz P w) a vs:=jkz ok (.inl e)
theorem jh4 {ks:List Key} (ok:HOk P w H h) (e:H a = some (.tup (ks.map kV))):(tupleKind (jbz P w)).is h ks a:=by
 obtain ⟨_,its,r,o,h1,h2,n,h3⟩:=(show jcp P w H h a (.tup (ks.map kV)) from ok a _ e)
 exact ⟨o,its.toArray,n,h1,h2,h3,by simpa using jjp r⟩
theorem jky {kvs:List (List Key × V)} (ok:HOk P w H h) (e:Rd H a (.dT kvs)):kvs.length ≤ sizeLine∧(a == sysModules) = false ∧
  ∃ xs,KT H kvs xs∧h.DictOfH (tupleKind (jbz P w)) a xs:=by
 obtain ⟨z,y,xs,r,o,es,ep,h1,h2,h3,h4,h5⟩:=(show jcp P w H h a (.dT kvs) from rd_of ok e)
 refine ⟨z,y,xs,r,o,es,ep,h1,h2,h3,h4,fun x hx=>?_,h5⟩
 have all:∀ {l:List (List Key × V)} {m:List (List Key × Addr × Value)},KT H l m→∀ x ∈ m,(tupleKind (jbz P w)).is h x.1 x.2.1:=by
  intro l m q
  induction q with
  | nil=>intro x hx; exact nomatch hx
  | @cons p q ps qs hq t ih =>
   intro x hx
   rcases List.mem_cons.mp hx with e | hx
   ·subst e
    exact jh4 ok (by rw [← hq.1]; exact hq.2.1)
   ·exact ih x hx
 exact all r x hx
theorem dt_of {kvs:List (List Key × V)} (ok:HOk P w H h) (e:H a = some (.dT kvs)):kvs.length ≤ sizeLine∧(a == sysModules) = false ∧
  ∃ xs,KT H kvs xs∧h.DictOfH (tupleKind (jbz P w)) a xs:=jky ok (.inl e)
end
def DGet (H:Hp) (a:Addr) (y:V) (r:Option V):Prop :=
 (∃ kvs k,Rd H a (.dK kvs)∧y = kV k∧r = valV kvs k) ∨ ∃ kvs k b,Rd H a (.dT kvs)∧y = .ref b∧H b = some (.tup (k.map kV))∧r = valV kvs k
def DPut (H:Hp) (a:Addr) (y v:V) (H':Hp):Prop :=
 (∃ kvs k,H a = some (.dK kvs)∧y = kV k∧kvs.length < sizeLine∧H' = upd H a (.dK (putK kvs k v))) ∨
 ∃ kvs k b,H a = some (.dT kvs)∧y = .ref b∧H b = some (.tup (k.map kV))∧kvs.length < sizeLine∧H' = upd H a (.dT (putK kvs k v))
theorem DGet.k {H:Hp} {a:Addr} {kvs:List (Key × V)} {k:Key} (e:H a = some (.dK kvs)):DGet H a (kV k) (valV kvs k):=.inl ⟨kvs,k,.inl e,rfl,rfl⟩
theorem DGet.t {H:Hp} {a b:Addr} {kvs:List (List Key × V)} {k:List Key} (e:H a = some (.dT kvs)) (eb:H b = some (.tup (k.map kV))):DGet H a (.ref b) (valV kvs k):=.inr ⟨kvs,k,b,.inl e,rfl,eb,rfl⟩
theorem DPut.k {H:Hp} {a:Addr} {kvs:List (Key × V)} {k:Key} {v:V} (e:H a = some (.dK kvs)) (hl:kvs.length < sizeLine):DPut H a (kV k) v (upd H a (.dK (putK kvs k v))):=.inl ⟨kvs,k,e,rfl,hl,rfl⟩
theorem DPut.t {H:Hp} {a b:Addr} {kvs:List (List Key × V)} {k:List Key} {v:V} (e:H a = some (.dT kvs)) (eb:H b = some (.tup (k.map kV))) (hl:kvs.length < sizeLine) :
  DPut H a (.ref b) v (upd H a (.dT (putK kvs k v))):=.inr ⟨kvs,k,b,e,rfl,eb,hl,rfl⟩
section
variable {X:Cx} {pins:List (Addr × Obj)} {σ:St} {H:Hp} {s:Shared} {a:Addr} {y v:V} {u r:Value} {o:Option V} {A:Around} {E:Value→Shared→Prop}
theorem Inv.big (I:Inv X pins σ H s):sysModules < s.heap.objs.size:=by
 have h:mainGlobals < s.heap.objs.size:=(I.mod.glob.keeps I.bk).lt
 exact Nat.lt_trans (by decide) h
theorem jjs {Q:Value→Shared→Prop} (hu:A.units + 1 < cLine) (I:Inv X pins σ H s) (g:DGet H a y (some v)) (ry:RelV y u) (h:∀ w' s',Inv X pins σ H s'→RelV v w'→Q w' s') :
  wpAny (model X.prog X.w) A (getItem (.ref a) u) Q E s:=by
 rcases g with ⟨kvs,k,e,ey,l⟩ | ⟨kvs,k,b,e,ey,eb,l⟩
 ·subst ey
  obtain ⟨z,hd,vs,rel,dd⟩:=jkz I.hok e
  obtain ⟨w',hw,rw'⟩:=RelO.some_of (v:=v) (o:=valueAt vs k) (by rw [l]; exact rel.val k)
  exact wpAny_getItem_of (jjo ry) dd.mapOf hw (h w' _ (I.tok _) rw')
 ·subst ey
  cases (show u = Value.ref b from ry)
  obtain ⟨z,hd,xs,rel,dd⟩:=jky I.hok e
  obtain ⟨w',hw,rw'⟩:=RelO.some_of (v:=v) (o:=(atKey xs k).map (·.2)) (by rw [l]; exact rel.val k)
  obtain ⟨p,hp,hp2⟩:=Option.map_eq_some_iff.mp hw
  refine wpAny_getItem_heap (tupleKind_room_in1 hu) (jh4 I.hok eb) dd hp ?_
  rw [hp2]
  exact h w' _ (I.tok _) rw'
theorem d_in {Q:Value→Shared→Prop} (hu:A.units + 1 < cLine) (I:Inv X pins σ H s) (g:DGet H a y o) (ry:RelV y u) (h:∀ s',Inv X pins σ H s'→Q (.bool o.isSome) s') :
  wpAny (model X.prog X.w) A (compareOp .In u (.ref a)) Q E s:=by
 rcases g with ⟨kvs,k,e,ey,l⟩ | ⟨kvs,k,b,e,ey,eb,l⟩
 ·subst ey
  obtain ⟨z,hd,vs,rel,dd⟩:=jkz I.hok e
  refine wpAny_in_of (jjo ry) hd dd.mapOf ?_
  rw [← (rel.val k).isSome_eq,← l]
  exact h _ (I.tok _)
 ·subst ey
  cases (show u = Value.ref b from ry)
  obtain ⟨z,hd,xs,rel,dd⟩:=jky I.hok e
  refine wpAny_in_heap (tupleKind_room_in1 hu) (jh4 I.hok eb) hd dd ?_
  have q:=(rel.val k).isSome_eq
  rw [Option.isSome_map] at q
  rw [← q,← l]
  exact h _ (I.tok _)
theorem js6 {Q:Value→Shared→Prop} (hu:A.units + 1 < cLine) (I:Inv X pins σ H s) (g:DGet H a y o) (ry:RelV y u) (h:∀ s',Inv X pins σ H s'→Q (.bool (!o.isSome)) s') :
  wpAny (model X.prog X.w) A (compareOp .NotIn u (.ref a)) Q E s:=by
 rcases g with ⟨kvs,k,e,ey,l⟩ | ⟨kvs,k,b,e,ey,eb,l⟩
 ·subst ey
  obtain ⟨z,hd,vs,rel,dd⟩:=jkz I.hok e
  refine wpAny_notIn_of (jjo ry) hd dd.mapOf ?_
  rw [← (rel.val k).isSome_eq,← l]
  exact h _ (I.tok _)
 ·subst ey
  cases (show u = Value.ref b from ry)
  obtain ⟨z,hd,xs,rel,dd⟩:=jky I.hok e
  refine wpAny_notIn_heap (tupleKind_room_in1 hu) (jh4 I.hok eb) hd dd ?_
  have q:=(rel.val k).isSome_eq
  rw [Option.isSome_map] at q
  rw [← q,← l]
  exact h _ (I.tok _)
theorem jib {h':Heap} {t':Nat} {ob:HO} (I:Inv X pins σ H s) (mu:Mut (H a)) (hs:Heap.SameBut a s.heap h') (he:∃ q,h'.get? a = some q) (new:jcp X.prog X.w (upd H a ob) h' a ob) :
  Inv X pins σ (upd H a ob) { s with heap:=h',toks:=t' } :=
 I.write (x:=a) (e:=a) mu (.inl rfl) (fun b q hb z=>(hs.2 b hb).trans z) he new
theorem jm1 {P:Program} {w:World} {H':Hp} {h':Heap} {kvs:List (Key × V)} {vs:List (Key × Value)} (z:kvs.length ≤ sizeLine) (hd:(a == sysModules) = false) (rel:KV kvs vs) (dd:h'.DictOf (jbz P w) a vs) :
  jcp P w H' h' a (.dK kvs):=⟨z,hd,vs,rel,dd⟩
theorem jor {H':Hp} {Q:Unit→Shared→Prop} (hu:A.units + 1 < cLine) (I:Inv X pins σ H s) (g:DPut H a y v H') (ry:RelV y u) (rv:RelV v r) (h:∀ s',Inv X pins σ H' s'→Q () s') :
  wpAny (model X.prog X.w) A (setItem (.ref a) u r) Q E s:=by
 rcases g with ⟨kvs,k,e,ey,l,eH⟩ | ⟨kvs,k,b,e,ey,eb,l,eH⟩
 ·subst ey eH
  obtain ⟨z,hd,vs,rel,dd⟩:=jmq I.hok e
  have hz:vs.length ≤ sizeLine:=by rw [← rel.length]; exact z
  have hl:(putK kvs k v).length ≤ sizeLine:=by have:=je0 kvs k v; omega
  refine wpAny_setItem_pairs (hsz:=hz) (jjo ry) dd fun h' dd' hs=>h _ ?_
  have he:∃ q,h'.get? a = some q:=let ⟨q,_,_,hq,_⟩:=dd'; ⟨q,hq⟩
  exact jib I (by rw [e]; exact True.intro) hs he (jm1 hl hd (rel.put k rv) dd')
 ·subst ey eH
  cases (show u = Value.ref b from ry)
  obtain ⟨z,hd,xs,rel,dd⟩:=dt_of I.hok e
  have hz:xs.length ≤ sizeLine:=by rw [← Paired.length rel]; exact z
  have hl:(putK kvs k v).length ≤ sizeLine:=by have:=je0 kvs k v; omega
  refine wpAny_setItem_heap (hsz:=hz) (tupleKind_room_in1 hu) (jh4 I.hok eb) dd fun h' dd' hs=>h _ ?_
  obtain ⟨q,es,ep,hq,h2,h3,h4,_,h5⟩:=dd'
  refine jib I (by rw [e]; exact True.intro) hs ⟨q,hq⟩ ⟨hl,hd,_,(rel.put k eb rv).keeps fun c ys ec=>?_,q,es,ep,hq,h2,h3,h4,h5⟩
  rw [jaj (jgk ec e (fun z=>nomatch z))]
  exact ec
end
section
variable {X:Cx} {pins:List (Addr × Obj)} {σ:St} {H:Hp} {s:Shared} {a:Addr} {kvs:List (Key × V)} {k:Key} {u:Value} {A:Around} {E:Value→Shared→Prop}
end
def NoSl (i:Expr):Prop:=∀ ov iv,subscripted i false ov iv = operate [ov,iv] (getItem ov iv)
theorem jn1 {prog:Program} {w:World} {A:Around} {E:Value→Shared→Prop} {s:Shared} {env:Env} {value slice:Expr} {pos:Pos} {T id:String} {Q:Value→Shared→Prop}
  (hl:typeLookup (.type T) "__getitem__" = pure (some (.builtin id))) (hs:NoSl slice)
  (h:wpAny (model prog w) A (eval value env) (fun o s₁=>wpAny (model prog w) A (eval slice env) (fun i s₂=>s₂.TypeIs o T∧wpAny (model prog w) A (getItem o i) Q E s₂) E s₁) E s) :
  wpAny (model prog w) A (eval (.Subscript value slice pos) env) Q E s:=by
 refine Subscript_ (wpAny_mono h (fun o s₁ h₁=>wpAny_mono h₁ (fun i s₂ h₂=>?_) fun _ _ x=>x) fun _ _ x=>x)
 obtain ⟨hT,h₂⟩:=h₂
 unfold subscriptTail
 refine wpAny_bind ?_
 rw [getitemInPython_of_ne hT.not_modules]
 refine wpAny_bind (wpAny_specialOf hT hl ?_)
 have fin:wpAny (model prog w) A (subscripted slice false o i) (fun r s₃=>wpAny (model prog w) A (letTemporaryGo value o r >>= fun _=>pure r) Q E s₃) E s₂:=by
  rw [hs o i]
  exact wpAny_operating (wpAny_mono h₂ (fun r s₃ h₃=>wpAny_bind (wpAny_letTemporaryGo (wpAny_pure h₃))) fun _ _ x=>x)
 first
  | exact wpAny_pure (wpAny_bind fin)
  | exact wpAny_bind (wpAny_pure (wpAny_bind fin))
  | exact wpAny_bind fin
theorem jgd {X:Cx} {pins:List (Addr × Obj)} {σ:St} {H:Hp} {s:Shared} {a:Addr} {y:V} {o:Option V} (I:Inv X pins σ H s) (g:DGet H a y o):s.TypeIs (.ref a) "dict":=by
 rcases g with ⟨kvs,k,e,_,_⟩ | ⟨kvs,k,b,e,_,_,_⟩
 ·obtain ⟨_,_,vs,_,dd⟩:=jkz I.hok e
  exact dd.typeIs
 ·obtain ⟨_,_,xs,_,dd⟩:=jky I.hok e
  exact dd.typeIs
def jr3 (td ty:TE):TE:=fun σ H Q=>td σ H fun x H1=>ty σ H1 fun y H2=>∃ a v,x = .ref a∧DGet H2 a y (some v)∧Q v H2
section
variable {X:Cx} {o i e value:Expr} {pos pos' tpos:Pos} {td ty tv:TE}
theorem jen (hu:X.A.units + 1 < cLine) (ho:PE X o td) (hi:PE X i ty) (hs:NoSl i):PE X (.Subscript o i pos) (jr3 td ty):=by
 intro pins s σ H Q I h
 refine jn1 PySem.F.slot_dict_getitem.lookup hs (thn (ho pins s σ H _ I h) fun u s1 ⟨x,H1,I1,rx,q1⟩=>thn (hi pins s1 σ H1 _ I1 q1) fun iv s2 ⟨y,H2,I2,ry,a,v,ex,g,q2⟩=>?_)
 subst ex
 obtain rfl:u = Value.ref a:=rx
 exact ⟨jgd I2 g,jjs hu I2 g ry fun w' s3 I3 rw'=>⟨v,H2,I3,rw',q2⟩⟩
end
theorem jm2 {P:Program} {w:World} {H:Hp} (h:Heap) (hb:sysModules < h.objs.size):jcp P w H (h.push { cls:=.type "dict",data:=.dict #[] }) h.objs.size (.dK []) :=
 ⟨Nat.zero_le _,beq_eq_false_iff_ne.mpr (Ne.symm (Nat.ne_of_lt hb)),[],.nil,Heap.DictOf.new h⟩
def ja9:TE:=fun _ H Q=>∀ p,H p = none→Q (.ref p) (upd H p (.dK []))
section
variable {X:Cx} {pos:Pos}
theorem jhv:PE X (.Dict [] [] pos) ja9:=fun pins s σ H Q I h =>
 wpAny_Dict_empty ⟨.ref s.heap.objs.size,_,I.laid (a:=s.heap.objs.size) (o:=.dK []) (t':=s.toks) (fun _ _ q=>Heap.get?_push_of_some _ q) (Nat.le_refl _) (jm2 s.heap I.big),rfl,h _ (I.hok.fresh (Nat.le_refl _))⟩
end
def jn0:List (TE × TE)→St→Hp→(List (V × V)→Hp→Prop)→Prop
 | [],_,H,Q=>Q [] H
 | (tk,tv) :: r,σ,H,Q=>tk σ H fun x H1=>tv σ H1 fun y H2=>jn0 r σ H2 fun ps H3=>Q ((x,y) :: ps) H3
abbrev VV:List (V × V)→List (Value × Value)→Prop:=Paired fun p q=>RelV p.1 q.1∧RelV p.2 q.2
def PPs (X:Cx) (pos:Pos) (keys:List (Option Expr)) (values:List Expr) (trs:List (TE × TE)):Prop :=
 ∀ (pins:List (Addr × Obj)) (s:Shared) (σ:St) (H:Hp) (Q:List (V × V)→Hp→Prop),Inv X pins σ H s→jn0 trs σ H Q →
  wpAny (model X.prog X.w) X.A (evalPairs (pairTrees keys values X.env pos)) (fun vs s'=>∃ ps H',Inv X pins σ H' s'∧VV ps vs∧Q ps H') X.xe s
theorem jkd {X:Cx} {pos:Pos}:PPs X pos [] [] []:=fun pins s σ H Q I h=>pairTrees_nil_walk ⟨[],H,I,.nil,h⟩
theorem jhu {X:Cx} {pos:Pos} {k v:Expr} {ks:List (Option Expr)} {vs:List Expr} {tk tv:TE} {trs:List (TE × TE)} (hk:PE X k tk) (hv:PE X v tv) (hr:PPs X pos ks vs trs) :
  PPs X pos (some k :: ks) (v :: vs) ((tk,tv) :: trs):=fun pins s σ H Q I h =>
 pairTrees_cons_walk (thn (hk pins s σ H _ I h) fun u s1 ⟨x,H1,I1,rx,q1⟩=>thn (hv pins s1 σ H1 _ I1 q1) fun w2 s2 ⟨y,H2,I2,ry,q2⟩ =>
  thn (hr pins s2 σ H2 _ I2 q2) fun ws s3 ⟨ps,H3,I3,rel,q3⟩=>⟨(x,y) :: ps,H3,I3,.cons ⟨rx,ry⟩ rel,q3⟩)
def jdw (kvs more:List (Key × V)):List (Key × V):=more.foldl (fun acc kv=>putK acc kv.1 kv.2) kvs
theorem KV.merge:∀ {more:List (Key × V)} {rs:List (Key × Value)} {kvs:List (Key × V)} {vs:List (Key × Value)},KV more rs→KV kvs vs→KV (jdw kvs more) (merged vs rs):=by
 intro more rs kvs vs r
 unfold KV at r
 induction r generalizing kvs vs with
 | nil=>intro q; exact q
 | @cons p q ps qs h t ih =>
  intro r0
  have e:KV (putK kvs p.1 p.2) (stored vs q.1 q.2):=by
   have:=r0.put p.1 h.2
   rw [← h.1]; exact this
  exact ih e
theorem jdf:∀ (more kvs:List (Key × V)),(jdw kvs more).length ≤ kvs.length + more.length
 | [],kvs=>by show kvs.length ≤ kvs.length + 0; omega
 | p :: r,kvs=>by
  have h1:=jdf r (putK kvs p.1 p.2)
  have h2:=je0 kvs p.1 p.2
  show (jdw (putK kvs p.1 p.2) r).length ≤ _
  rw [List.length_cons]; omega
theorem jhb {P:Program} {w:World}:∀ {kvs:List (Key × V)} {ws:List (Value × Value)},VV (kvs.map fun kv=>(kV kv.1,kv.2)) ws→∃ rs,Carries (jbz P w) ws rs∧KV kvs rs
 | [],_,r=>by rw [List.map_nil] at r; cases r; exact ⟨[],True.intro,.nil⟩
 | p :: kvs,_,r=>by
  rw [List.map_cons] at r
  cases r with
  | @cons a b as bs h t =>
   obtain ⟨rs,c,q⟩:=jhb (P:=P) (w:=w) t
   obtain ⟨b1,b2⟩:=b
   exact ⟨(p.1,b2) :: rs,⟨jjo h.1,rfl,c⟩,.cons ⟨rfl,h.2⟩ q⟩
def tDisp (trs:List (TE × TE)):TE:=fun σ H Q=>∀ p,H p = none→jn0 trs σ (upd H p (.dK [])) fun ps H2=>H2 p = some (.dK [])∧∃ kvs:List (Key × V),ps = kvs.map (fun kv=>(kV kv.1,kv.2))∧kvs.length ≤ 15∧Q (.ref p) (upd H2 p (.dK (jdw [] kvs)))
theorem jkg {X:Cx} {pos:Pos} {keys:List (Option Expr)} {values:List Expr} {trs:List (TE × TE)} (h:PPs X pos keys values trs) (hall:keys.all (·.isSome) = true) (hl:keys.length = values.length) (h0:keys ≠ [])
  (h15:keys.length ≤ 15):PE X (.Dict keys values pos) (tDisp trs):=by
 intro pins s σ H Q I q
 have hn:=I.hok.fresh (Nat.le_refl s.heap.objs.size)
 have I1:=I.laid (a:=s.heap.objs.size) (o:=.dK []) (h':=s.heap.push { cls:=.type "dict",data:=.dict #[] }) (t':=s.toks) (fun _ _ q=>Heap.get?_push_of_some _ q) (Nat.le_refl _) (jm2 s.heap I.big)
 refine wpAny_Dict_walk (knd:=jbz X.prog X.w) hall hl h0 h15 (thn (h pins _ σ _ _ I1 (q _ hn)) fun ws s2 ⟨ps,H2,I2,rel,e,kvs,ep,lk,q2⟩=>?_)
 subst ep
 obtain ⟨rs,c,rk⟩:=jhb (P:=X.prog) (w:=X.w) rel
 obtain ⟨z,hd,vs0,r0,dd⟩:=jmq I2.hok e
 cases r0
 refine ⟨rs,c,dd,fun h' dd' hs=>⟨.ref s.heap.objs.size,_,?_,rfl,q2⟩⟩
 have hz:(jdw [] kvs).length ≤ sizeLine:=by
  have h1:=jdf kvs []
  rw [List.length_nil] at h1
  rw [sizeLine_eq]; omega
 have he:∃ q,h'.get? s.heap.objs.size = some q:=let ⟨q,_,_,hq,_⟩:=dd'; ⟨q,hq⟩
 exact jib I2 (by rw [e]; exact True.intro) hs he (jm1 hz hd (rk.merge .nil) dd')
structure M1 (X:Cx) (o:Expr) (m:Str) (apos:Pos) (e:Expr) (cpos:Pos):Prop where
 base:attributeBase o m X.env (eval o X.env) = eval o X.env
 few:((backTo cpos (starEach [e] X.env)).all (fun x=>!x.1) && (backToKw cpos (keywordEach [] X.env)).all (fun x=>x.1.isSome)
  && decide (([e]:List Expr).length + ([]:List Keyword).length + (if ([]:List Keyword).isEmpty then 0 else 1) < 30)) = true
 line:(apos.endLine == cpos.line) = true
 trees:backTo cpos (starEach [e] X.env) = [(false,eval e X.env)]
structure M2 (X:Cx) (o:Expr) (m:Str) (apos:Pos) (e f:Expr) (cpos:Pos):Prop where
 base:attributeBase o m X.env (eval o X.env) = eval o X.env
 few:((backTo cpos (starEach [e,f] X.env)).all (fun x=>!x.1) && (backToKw cpos (keywordEach [] X.env)).all (fun x=>x.1.isSome)
  && decide (([e,f]:List Expr).length + ([]:List Keyword).length + (if ([]:List Keyword).isEmpty then 0 else 1) < 30)) = true
 line:(apos.endLine == cpos.line) = true
 trees:backTo cpos (starEach [e,f] X.env) = [(false,eval e X.env),(false,eval f X.env)]
def IsD (H:Hp) (a:Addr):Prop:=(∃ kvs,Rd H a (.dK kvs)) ∨ ∃ kvs,Rd H a (.dT kvs)
theorem jqo {X:Cx} {pins:List (Addr × Obj)} {σ:St} {H:Hp} {s:Shared} {a:Addr} (I:Inv X pins σ H s) (d:IsD H a) :
  s.TypeIs (.ref a) "dict"∧(∀ b,Value.ref a = .ref b→∃ ob,s.heap.get? b = some ob∧ob.dict = none)∧(a == sysModules) = false:=by
 rcases d with ⟨kvs,e⟩ | ⟨kvs,e⟩
 ·obtain ⟨_,hd,vs,_,dd⟩:=jkz I.hok e
  refine ⟨dd.typeIs,fun b q=>?_,hd⟩
  cases q
  obtain ⟨ob,_,_,h1,h2,_⟩:=dd
  exact ⟨ob,h1,h2.2.1⟩
 ·obtain ⟨_,hd,xs,_,dd⟩:=jky I.hok e
  refine ⟨dd.typeIs,fun b q=>?_,hd⟩
  cases q
  obtain ⟨ob,_,_,h1,h2,_⟩:=dd
  exact ⟨ob,h1,h2.2.1⟩
section
variable {X:Cx} {pins:List (Addr × Obj)} {σ:St} {H:Hp} {s:Shared} {a:Addr} {y d:V} {u r:Value} {o:Option V} {A:Around} {E:Value→Shared→Prop}
theorem d_get1 {Q:Value→Shared→Prop} (hu:A.units + 1 < cLine) (I:Inv X pins σ H s) (g:DGet H a y o) (ry:RelV y u) (h:∀ w' s',Inv X pins σ H s'→RelV (o.getD .non) w'→Q w' s') :
  wpAny (model X.prog X.w) A (call (.builtin "dict.get") [.ref a,u]) Q E s:=by
 rcases g with ⟨kvs,k,e,ey,l⟩ | ⟨kvs,k,b,e,ey,eb,l⟩
 ·subst ey
  obtain ⟨z,hd,vs,rel,dd⟩:=jkz I.hok e
  refine call_meetsIn PySem.F.slot_dict_get dd.typeIs PySem.F.entry_dict_get (PySem.F.args_dict_get_2 _ _) (meets_dict_get (jbz X.prog X.w) a (jjo ry) hd) ⟨_,dd.mapOf,h _ _ (I.tok _) ?_⟩
  rw [l]
  exact (rel.val k).getD rfl
 ·subst ey
  cases (show u = Value.ref b from ry)
  obtain ⟨z,hd,xs,rel,dd⟩:=jky I.hok e
  refine call_meetsIn PySem.F.slot_dict_get dd.typeIs PySem.F.entry_dict_get (PySem.F.args_dict_get_2 _ _) (meetsH_dict_get (tupleKind (jbz X.prog X.w)) a b hd) ⟨tupleKind_room_in1 hu,k,xs,jh4 I.hok eb,dd,h _ _ (I.tok _) ?_⟩
  rw [l]
  exact (rel.val k).getD rfl
end
section
variable {X:Cx} {o e f:Expr} {apos cpos:Pos} {td ty tx:TE}
end
section
variable {X:Cx} {pins:List (Addr × Obj)} {σ:St} {H:Hp} {s:Shared} {a:Addr} {kvs:List (Key × V)} {A:Around} {E:Value→Shared→Prop}
end
section
variable {X:Cx} {pins:List (Addr × Obj)} {σ:St} {H:Hp} {s:Shared} {a:Addr} {y:V} {u:Value} {A:Around} {E:Value→Shared→Prop}
end
end L2
namespace L2
open PySem PySem.Spec PyProof.Rows
section
variable {κ:Type} [DecidableEq κ]
end
end L2
namespace L2
open PySem PySem.Spec PyProof.Rows
def jco (env:Env):List (Str × NameKind)→List (Str × Addr)→List (Str × Addr)
 | [],acc=>acc
 | (n,k) :: r,acc=>jco env r (if k == .free then (n,(env.cells.lookup n).getD 0) :: acc else acc)
theorem jdc {scope:Scope} {env:Env} (h:∀ y ∈ scope.names,y.2 = .free→∃ c,env.cells.lookup y.1 = some c) :
    closureFor scope env = pure (jco env scope.names []):=by
  have key:∀ (l:List (Str × NameKind)) (acc:List (Str × Addr)),(∀ y ∈ l,y.2 = .free→∃ c,env.cells.lookup y.1 = some c) →
      (forIn l acc fun (x:Str × NameKind) (r:List (Str × Addr)) =>
        (if x.2 == NameKind.free then do
          let c ← cellOf env x.1
          pure (ForInStep.yield ((x.1,c) :: r))
        else pure (ForInStep.yield r):Sem (ForInStep (List (Str × Addr))))) = pure (jco env l acc):=by
    intro l
    induction l with
    | nil=>intro acc _; rfl
    | cons y r ih =>
      intro acc hy
      obtain ⟨n,k⟩:=y
      rw [List.forIn_cons]
      by_cases hk:k = .free
      · subst hk
        obtain ⟨c,hc⟩:=hy (n,.free) List.mem_cons_self rfl
        have e1:cellOf env n = pure c:=by unfold cellOf; rw [hc]
        simp only [beq_self_eq_true,if_true]
        rw [e1]
        show (pure c >>= fun c=>pure (ForInStep.yield ((n,c) :: acc))) >>= _ = _
        have e2:jco env ((n,NameKind.free) :: r) acc = jco env r ((n,c) :: acc):=by
          have hc':env.cells.lookup n = some c:=hc
          show jco env r (if (NameKind.free == NameKind.free) = true then (n,(env.cells.lookup n).getD 0) :: acc else acc) = _
          rw [hc']
          rfl
        rw [e2]
        exact ih _ fun z hz=>hy z (List.mem_cons_of_mem _ hz)
      · have hb:(k == NameKind.free) = false:=by simpa using hk
        simp only [hb,Bool.false_eq_true,if_false]
        have e2:jco env ((n,k) :: r) acc = jco env r acc:=by
          show jco env r (if (k == NameKind.free) = true then _ else acc) = _
          rw [hb]; rfl
        rw [e2]
        exact ih _ fun z hz=>hy z (List.mem_cons_of_mem _ hz)
  unfold closureFor
  have e:=key scope.names [] h
  have e3:∀ (f:Str × NameKind→List (Str × Addr)→Sem (ForInStep (List (Str × Addr)))),(f = fun x r=>(if x.2 == NameKind.free then do
          let c ← cellOf env x.1
          pure (ForInStep.yield ((x.1,c) :: r))
        else pure (ForInStep.yield r)))→(forIn scope.names [] f >>= fun r=>pure r) = (pure (jco env scope.names []):Sem (List (Str × Addr))):=by
    intro f hf
    rw [hf,e]
    rfl
  exact e3 _ rfl
theorem jee {env:Env} {x:Str}:∀ (l:List (Str × NameKind)) (acc:List (Str × Addr)) (c:Addr),(jco env l acc).lookup x = some c →
  ((∃ y ∈ l,y.1 = x∧y.2 = .free)∧(env.cells.lookup x).getD 0 = c) ∨ acc.lookup x = some c
 | [],acc,c,h=>.inr h
 | (n,k) :: r,acc,c,h=>by
  rcases jee r _ c h with ⟨⟨y,hy,e⟩,q⟩ | q
  ·exact .inl ⟨⟨y,List.mem_cons_of_mem _ hy,e⟩,q⟩
  ·by_cases hk:k = .free
   ·subst hk
    have q':List.lookup x ((n,(env.cells.lookup n).getD 0) :: acc) = some c:=q
    rw [List.lookup_cons] at q'
    cases hx:x == n with
    | true =>
     rw [hx] at q'
     have hx':x = n:=by simpa using hx
     subst hx'
     exact .inl ⟨⟨_,List.mem_cons_self,rfl,rfl⟩,Option.some.inj q'⟩
    | false=>rw [hx] at q'; exact .inr q'
   ·have hb:(k == NameKind.free) = false:=by simpa using hk
    rw [hb] at q
    exact .inr q
theorem jeu {env:Env} {x:Str}:∀ (l:List (Str × NameKind)) (acc:List (Str × Addr)),((∃ y ∈ l,y.1 = x∧y.2 = .free) ∨ (acc.lookup x).isSome)→((jco env l acc).lookup x).isSome
 | [],acc,h=>by
  rcases h with ⟨y,hy,_⟩ | h
  ·cases hy
  ·exact h
 | (n,k) :: r,acc,h=>by
  show ((jco env r (if (k == NameKind.free) = true then _ else acc)).lookup x).isSome
  refine jeu r _ ?_
  rcases h with ⟨y,hy,e1,e2⟩ | h
  ·rcases List.mem_cons.mp hy with rfl | hy
   ·have e2':k = .free:=e2
    have e1':n = x:=e1
    subst e2' e1'
    refine .inr ?_
    simp [List.lookup_cons]
   ·exact .inl ⟨y,hy,e1,e2⟩
  ·refine .inr ?_
   split
   ·rw [List.lookup_cons]
    split
    ·rfl
    ·exact h
   ·exact h
structure CpScope (X:Cx) (scope:Scope) (N:List Str) (src:List (Option Nat)):Prop where
 kind:scope.kind = .function
 nocell:∀ y ∈ scope.names,y.2 ≠ .cell
 locs:∀ y ∈ scope.names,y.2 = .local→scope.names.lookup y.1 = some .local
 frees:∀ y ∈ scope.names,y.2 = .free→scope.names.lookup y.1 = some .free∧X.env.scope.names.lookup y.1 = some .cell
 nd:N.Nodup
 len:src.length = N.length
 cap:∀ (i j:Nat),src[i]? = some (some j)→X.N[j]? = N[i]?∧(N[i]?).elim False (fun x=>scope.names.lookup x = some .free)
def cst (src:List (Option Nat)) (σ:St):St:=src.map fun o=>o.bind fun j=>(σ[j]?).join
theorem jd7 {env:Env} (hk:env.scope.kind = .function):∀ {names:List (Str × NameKind)} {x:Str},names.lookup x = some .free→env.kindOf x = some .cell →
  (names.map fun (n,k)=>if (k == NameKind.free && env.scope.kind == .function && env.kindOf n == some .cell) then (n,NameKind.cell) else (n,k)).lookup x = some .cell
 | [],_,h,_=>by simp at h
 | (n,k) :: r,x,h,hc=>by
  have ih:=@jd7 env hk r x
  show List.lookup x ((if (k == NameKind.free && env.scope.kind == .function && env.kindOf n == some .cell) = true then (n,NameKind.cell) else (n,k)) :: _) = _
  cases hx:x == n with
  | true =>
   simp only [List.lookup_cons,hx] at h
   cases h
   have hx':x = n:=by simpa using hx
   subst hx'
   rw [if_pos (by rw [hk,hc]; rfl)]
   simp [List.lookup_cons]
  | false =>
   simp only [List.lookup_cons,hx] at h
   by_cases hq:(k == NameKind.free && env.scope.kind == .function && env.kindOf n == some .cell) = true
   ·rw [if_pos hq]; simp only [List.lookup_cons,hx]; exact ih h hc
   ·rw [if_neg hq]; simp only [List.lookup_cons,hx]; exact ih h hc
theorem jcm {env:Env}:∀ {names:List (Str × NameKind)} {x:Str} {k':NameKind},
  (names.map fun (n,k)=>if (k == NameKind.free && env.scope.kind == .function && env.kindOf n == some .cell) then (n,NameKind.cell) else (n,k)).lookup x = some k' →
   names.lookup x = some k' ∨ (names.lookup x = some .free∧k' = .cell)
 | [],_,_,h=>by simp at h
 | (n,k) :: r,x,k',h=>by
  have ih:=@jcm env r x k'
  have h:List.lookup x ((if (k == NameKind.free && env.scope.kind == .function && env.kindOf n == some .cell) = true then (n,NameKind.cell) else (n,k)) :: _) = _:=h
  cases hx:x == n with
  | true =>
   by_cases hq:(k == NameKind.free && env.scope.kind == .function && env.kindOf n == some .cell) = true
   ·rw [if_pos hq] at h
    have h1:=h
    simp only [List.lookup_cons,hx]
    have:k = .free:=by
     have:=(Bool.and_eq_true _ _ ▸ (Bool.and_eq_true _ _ ▸ hq).1).1
     simpa using this
    subst this
    refine .inr ⟨rfl,?_⟩
    have h2:List.lookup x ((n,NameKind.cell) :: (r.map fun (n,k)=>if (k == NameKind.free && env.scope.kind == .function && env.kindOf n == some .cell) then (n,NameKind.cell) else (n,k))) = some k':=h1
    simp only [List.lookup_cons,hx] at h2
    exact (Option.some.inj h2).symm
   ·rw [if_neg hq] at h
    simp only [List.lookup_cons,hx] at h ⊢
    exact .inl h
  | false =>
   have h':List.lookup x (r.map fun (n,k)=>if (k == NameKind.free && env.scope.kind == .function && env.kindOf n == some .cell) then (n,NameKind.cell) else (n,k)) = some k':=by
    by_cases hq:(k == NameKind.free && env.scope.kind == .function && env.kindOf n == some .cell) = true
    ·rw [if_pos hq] at h
     simpa only [List.lookup_cons,hx] using h
    ·rw [if_neg hq] at h
     simpa only [List.lookup_cons,hx] using h
   simp only [List.lookup_cons,hx]
   exact ih h'
def Cx.block (X:Cx) (scope:Scope) (N:List Str) (fp:List Addr) (s₀:Shared) (H₀:Hp) (C:Addr):Cx where
 prog:=X.prog
 w:=X.w
 K:=X.K
 mg:=X.mg
 base:=X.base
 A:=X.A
 N:=N
 s₀:=s₀
 H₀:=H₀
 env:=compEnvC scope (jco X.env scope.names []) C X.env
 outer:=X.stack
 stack:=X.stack
 ex:=fp
 calm:=X.calm
 fn:=fun _=>false
 pn:=[]
 xe:=fun _ _=>False
theorem job {o:Option (Option V)} {v:V} (h:o.join = some v):o = some (some v):=by
 cases o with
 | none=>cases h
 | some z=>cases z with
  | none=>cases h
  | some z=>rw [show z = v from Option.some.inj h]
theorem Inv.enter {X:Cx} {scope:Scope} {N:List Str} {src:List (Option Nat)} {pins:List (Addr × Obj)} {σ:St} {H:Hp} {s s4:Shared} {fp:List Addr} (S:CpScope X scope N src) (I:Inv X pins σ H s)
  (f2:∀ b ∈ fp,FpOk X pins H b) (lt:∀ b ∈ fp,b < s.heap.objs.size) (hns:s4.heap.Ns s.heap.objs.size fun _=>none) (hk:∀ b o,s.heap.get? b = some o→s4.heap.get? b = some o) (hos:s4.os = s.os) (hg:s4.gens = s.gens) :
  Inv (X.block scope N fp s H s.heap.objs.size) [] (cst src σ) H s4:=by
 have cells:∀ x c,(jco X.env scope.names []).lookup x = some c→X.env.cells.lookup x = some c:=fun x c e=>by
  rcases jee _ _ _ e with ⟨⟨y,hy,e1,e2⟩,q⟩ | q
  ·obtain ⟨c',hc'⟩:=I.ok.has y.1 (.inl (S.frees y hy e2).2)
   rw [e1] at hc'
   rw [hc'] at q ⊢
   exact congrArg some q
  ·cases q
 refine ⟨⟨I.mod,S.kind,I.ok.glob,I.ok.blt,Nat.le_refl _,fun x y c h1 h2=>I.ok.inj x y c (cells x c h1) (cells y c h2),fun x hx=>?_,fun x c h=>absurd (show false = true from h) Bool.false_ne_true,I.ok.hd,I.ok.frames,.inl rfl,fun b hb=>?_,I.bs,
   Nat.le_trans I.ok.bsz I.sz,fun b o e hb=>?_,fun b hb z=>?_,I.stack,I.stkFree⟩,hos,?_,Un.kept hk,⟨fun _=>none,hns,fun i x v h1 h2 h3=>?_⟩,fun x c e=>?_,I.fresh,fun x c e=>I.freeC x c (cells x c e),fun p hp=>?_,I.hok.kept hk,?_⟩
 ·have hx':(scope.names.map fun (n,k)=>if (k == NameKind.free && X.env.scope.kind == .function && X.env.kindOf n == some .cell) then (n,NameKind.cell) else (n,k)).lookup x = some .cell ∨ (scope.names.map fun (n,k)=>if (k == NameKind.free && X.env.scope.kind == .function && X.env.kindOf n == some .cell) then (n,NameKind.cell) else (n,k)).lookup x = some .free:=hx
  have hf:scope.names.lookup x = some .free:=by
   rcases hx' with h | h
   ·rcases jcm h with h | h
    ·exact absurd rfl (S.nocell _ (PySem.mem_of_lookup h))
    ·exact h.1
   ·rcases jcm h with h | h
    ·exact h
    ·cases h.2
  have hsome:=jeu (env:=X.env) (x:=x) scope.names [] (.inl ⟨_,PySem.mem_of_lookup hf,rfl,rfl⟩)
  exact Option.isSome_iff_exists.mp hsome
 ·exact ⟨Nat.ne_of_lt (lt b hb),fun x c e=>(f2 b hb).2.2.2.2.1 x c (cells x c e)⟩
 ·have hb':b ∈ fp:=hb
  rcases (f2 b hb').2.2.2.1 with z | z
  ·exact I.ok.noex b o e z
  ·exact absurd (Nat.lt_of_lt_of_le (Heap.lt_size e) (Nat.le_trans I.ok.bsz z)) (Nat.lt_irrefl _)
 ·have hb':b ∈ fp:=hb
  have z':b ∈ frs X.stack:=z
  rcases List.mem_cons.mp (I.stkSub b z') with e | e
  ·exact (f2 b hb').2.1 e
  ·exact (f2 b hb').2.2.1 e
 ·rw [hg]; exact I.bare
 ·have h2':(src.map fun o=>o.bind fun j=>(σ[j]?).join)[i]? = some (some v):=h2
  rw [List.getElem?_map] at h2'
  cases e:src[i]? with
  | none=>rw [e] at h2'; cases h2'
  | some o =>
   rw [e] at h2'
   cases o with
   | none=>cases h2'
   | some j =>
    have h4:(σ[j]?).join = some v:=Option.some.inj h2'
    have h5:=job h4
    obtain ⟨c1,c2⟩:=S.cap i j e
    have h1':N[i]? = some x:=h1
    rw [h1'] at c1 c2
    have c2':scope.names.lookup x = some .free:=c2
    have c3:=(S.frees _ (PySem.mem_of_lookup c2') rfl).2
    obtain ⟨m,hn,hl⟩:=I.loc
    obtain ⟨u,r,l⟩:=hl j x v c1 h5 (.inr (.inl c3))
    refine ⟨u,r,?_⟩
    have c3':X.env.kindOf x = some .cell:=c3
    rcases l with ⟨k,_⟩ | ⟨_,c,e1,z⟩
    ·rw [c3'] at k; cases k
    ·refine .inr ⟨.inl (jd7 I.ok.kind c2' c3'),c,?_,?_⟩
     ·have hs:=jeu (env:=X.env) (x:=x) scope.names [] (.inl ⟨_,PySem.mem_of_lookup c2',rfl,rfl⟩)
      obtain ⟨c',hc'⟩:=Option.isSome_iff_exists.mp hs
      have:=cells x c' hc'
      rw [e1] at this
      cases this
      exact hc'
     ·obtain ⟨o,ho,hd⟩:=z
      exact ⟨o,hk c o ho,hd⟩
 ·obtain ⟨v,o,ho,hd⟩:=I.cell x c (cells x c e)
  exact ⟨v,o,hk c o ho,hd⟩
 ·exact absurd (show p ∈ ([]:List (Addr × Obj)) from hp) (by simp)
 ·show (src.map _).length = N.length
  rw [List.length_map]
  exact S.len
def PIf (X:Cx) (ifs:List Expr) (t:TT):Prop :=
 ∀ (pins:List (Addr × Obj)) (s:Shared) (σ:St) (H:Hp) (Q:Bool→Hp→Prop),Inv X pins σ H s→t σ H Q →
  wpAny (model X.prog X.w) X.A (forIn ifs true fun c r=>if r = true then do let ok ← isTrue c X.env (eval c X.env); pure (ForInStep.yield ok) else pure (ForInStep.yield r)) (TP X pins σ Q) X.xe s
def jav:TT:=fun _ H Q=>Q true H
theorem jdz {X:Cx}:PIf X [] jav:=fun pins s σ H Q I h=>wpAny_tests_nil ⟨H,I,h⟩
theorem jd5 {X:Cx} {c:Expr} {t:TT} (h:PT X c t):PIf X [c] t:=fun pins s σ H Q I hq=>wpAny_tests_one (h pins s σ H Q I hq)
def jp0 (J:It) (src:List (Option Nat)) (g:TG) (tc:TT) (te:TE) (Q:VK) (σ:St) (H:Hp) (l:Addr):Prop :=
 ∃ W:Nat→Nat→St→Hp→Prop,(∃ m,W 0 m (cst src σ) (upd H l (.lst [])))∧∀ i m σ' H,W i m σ' H →
  (J.stop i H∧Q (.ref l) H) ∨ (J.go i H∧∃ N:St→Hp→Prop,(∀ σ' H',N σ' H'→∃ m',m' < m∧W (i + 1) m' σ' H')∧∀ x H',J.yld i H x H'→g x σ' H' fun σ2 H2=>tc σ2 H2 fun b H3 =>
   if b = true then te σ2 H3 fun v H4=>∃ xs,H4 l = some (.lst xs)∧xs.length < sizeLine∧N σ2 (upd H4 l (.lst (xs ++ [v]))) else N σ2 H3)
theorem jc3 {J:It} {src:List (Option Nat)} {g:TG} {tc:TT} {te:TE} {Q:VK} {σ:St} {H:Hp} {l:Addr} (n:Nat) (Iv:Nat→St→Hp→Prop) (h0:Iv 0 (cst src σ) (upd H l (.lst [])))
  (hs:∀ i σ' Hc,i < n→Iv i σ' Hc→J.go i Hc∧∀ x H',J.yld i Hc x H'→g x σ' H' fun σ2 H2=>tc σ2 H2 fun b H3 =>
   if b = true then te σ2 H3 fun v H4=>∃ xs,H4 l = some (.lst xs)∧xs.length < sizeLine∧Iv (i + 1) σ2 (upd H4 l (.lst (xs ++ [v]))) else Iv (i + 1) σ2 H3)
  (hd:∀ σ' Hc,Iv n σ' Hc→J.stop n Hc∧Q (.ref l) Hc):jp0 J src g tc te Q σ H l:=by
 refine ⟨fun i m σ' Hc=>m = n - i∧i ≤ n∧Iv i σ' Hc,⟨n,by simp,Nat.zero_le _,h0⟩,?_⟩
 rintro i m σ' Hc ⟨rfl,hi,p⟩
 by_cases hlt:i < n
 ·obtain ⟨go,step⟩:=hs i σ' Hc hlt p
  exact .inr ⟨go,Iv (i + 1),fun σ2 H2 p'=>⟨n - (i + 1),by omega,rfl,hlt,p'⟩,step⟩
 ·have e:i = n:=by omega
  subst e
  exact .inl (hd σ' Hc p)
theorem jjt {X:Cx} {elt tg iter:Expr} {ifs:List Expr} {scope:Scope} {pos:Pos} {N:List Str} {src:List (Option Nat)} {g:TG} {tc:TT} {te:TE} {pins:List (Addr × Obj)} {σ:St} {H2:Hp} {s2:Shared}
  {fp:List Addr} {it:Addr} {tn:Nat→Heap→Prop} {J:It} {Q:VK} {E:Value→Shared→Prop} {RR:Value→Addr→Result→Shared→Prop} (S:CpScope X scope N src) (hc:X.calm = true)
  (hg:∀ fp s₀ H₀ C,PG (X.block scope N fp s₀ H₀ C) tg g) (ht:∀ fp s₀ H₀ C,PIf (X.block scope N fp s₀ H₀ C) ifs tc) (he:∀ fp s₀ H₀ C,PE (X.block scope N fp s₀ H₀ C) elt te)
  (I2:Inv X pins σ H2 s2) (T:Turn X.prog X.w X.K tg J fp it tn) (st2:tn 0 s2.heap) (f2:∀ b ∈ fp,FpOk X pins H2 b) (hw:∀ l,H2 l = none→jp0 J src g tc te Q σ H2 l)
  (hRR:∀ l C H' s',Inv X pins σ H' s'→(∃ m,s'.heap.Ns C m)→FpOk X pins H' C→Q (.ref l) H'→RR (.ref l) C (.ok .next) s') :
  wpAny (model X.prog X.w) X.A (newList []) (fun acc s₃=>wpAny (model X.prog X.w) X.A (newFunctionEnv scope X.env.globals (jco X.env scope.names []) [] X.env.qual none .none (some X.env)) (fun cenv s₄ =>
   codeAny (model X.prog X.w) X.A (.compStart (.ListComp elt [⟨tg,iter,ifs,0⟩] scope pos) 0 (.ref it) acc { cenv with scope:=relabel scope X.env }) (RR acc cenv.locals) s₄) E s₃) E s2:=by
 have hl0:H2 s2.heap.objs.size = none:=I2.fresh
 have I3:Inv X pins σ (upd H2 s2.heap.objs.size (.lst [])) { s2 with heap:=s2.heap.push { cls:=.type "list",data:=.seq ([]:List Value).toArray } }:=I2.lnew (ys:=[]) (its:=[]) (t':=s2.toks) .nil (Nat.zero_le _)
 have ltf:∀ b ∈ fp,b < s2.heap.objs.size:=fun b hb=>by
  obtain ⟨o,e,_⟩:=T.obj _ _ st2 b hb
  exact Heap.lt_size e
 have f3:∀ b ∈ fp,FpOk X pins (upd H2 s2.heap.objs.size (.lst [])) b:=fun b hb=>⟨by rw [jaj (Nat.ne_of_lt (ltf b hb))]; exact (f2 b hb).1,(f2 b hb).2⟩
 obtain ⟨W,⟨m0,w0⟩,turn⟩:=hw _ hl0
 refine wpAny_newObj_type (wpAny_newFunctionEnv S.nocell (by intro y hy; simp at hy) (fun h₁ hns₁ hsb₁=>?_) S.kind)
 dsimp only at hns₁ hsb₁ ⊢
 revert I3 f3
 intro I3 f3
 have st1:tn 0 (s2.heap.push { cls:=.type "list",data:=.seq ([]:List Value).toArray }):=T.keep _ _ _ st2 fun b hb o e=>Heap.get?_push_of_some _ e
 have lt3:∀ b ∈ fp,b < (s2.heap.push { cls:=.type "list",data:=.seq ([]:List Value).toArray }).objs.size:=fun b hb=>by rw [Heap.size_push]; exact Nat.lt_succ_of_lt (ltf b hb)
 generalize hH:s2.heap.push { cls:=.type "list",data:=.seq ([]:List Value).toArray } = h3 at I3 st1 lt3 hns₁ hsb₁ ⊢
 have hk:∀ b o,h3.get? b = some o→h₁.get? b = some o:=fun b o e=>hsb₁.extBut b o (Nat.ne_of_lt (Heap.lt_size e)) (Heap.get?_push_of_some _ e)
 have Ib:Inv (X.block scope N fp { s2 with heap:=h3 } (upd H2 s2.heap.objs.size (.lst [])) h3.objs.size) [] (cst src σ) (upd H2 s2.heap.objs.size (.lst [])) { s2 with heap:=h₁,toks:=s2.toks + ([]:List (Str × Value)).length } :=
  Inv.enter (s:={ s2 with heap:=h3 }) S I3 f3 lt3 hns₁ hk rfl rfl
 have fpB:∀ {H':Hp},(∀ b ∈ fp,H' b = none)→∀ b ∈ fp,FpOk (X.block scope N fp { s2 with heap:=h3 } (upd H2 s2.heap.objs.size (.lst [])) h3.objs.size) [] H' b:=fun hn b hb =>
  ⟨hn b hb,(Ib.ok.exf b hb).1,Ib.ok.exfs b hb,.inl hb,(Ib.ok.exf b hb).2,fun p hp=>absurd (show p ∈ ([]:List (Addr × Obj)) from hp) (by simp)⟩
 have tn1:tn 0 h₁:=T.keep _ _ _ st1 fun b _ o e=>hk b o e
 have loop:∀ s₃:Shared,s₃ = { s2 with heap:=h₁,toks:=s2.toks + ([]:List (Str × Value)).length } →
   codeAny (model X.prog X.w) X.A (.compLoop (.ListComp elt [⟨tg,iter,ifs,0⟩] scope pos) 0 (.ref it) (.ref s2.heap.objs.size) (compEnvC scope (jco X.env scope.names []) h3.objs.size X.env))
    (RR (.ref s2.heap.objs.size) h3.objs.size) s₃:=by
  rintro s₃ rfl
  refine codeAny_loop rfl (fun n s'=>∃ i σ' H',Inv (X.block scope N fp { s2 with heap:=h3 } (upd H2 s2.heap.objs.size (.lst [])) h3.objs.size) [] σ' H' s'∧tn i s'.heap∧(∀ b ∈ fp,H' b = none)∧W i n σ' H') ?_ m0
   ⟨0,_,_,Ib,tn1,fun b hb=>(f3 b hb).1,w0⟩
  rintro n s5 ⟨i,σ5,H5,I5,st5,fr5,w5⟩
  show wpAny _ X.A ((compTurn (.ListComp elt [⟨tg,iter,ifs,0⟩] scope pos) 0 (.ref it) (.ref s2.heap.objs.size) (compEnvC scope (jco X.env scope.names []) h3.objs.size X.env)).onRaise (fun x=>do noteFrame x (compEnvC scope (jco X.env scope.names []) h3.objs.size X.env); theTreesLotGoes x)) _ _ s5
  refine wpAny_noted ?_
  rw [compTurn_list]
  refine wpAny_bind (wpAny_standAt (wpAny_bind ?_))
  rcases turn i n σ5 H5 w5 with ⟨stop,qn⟩ | ⟨go,N',hN',step⟩
  ·refine thn (T.done (X.block scope N fp { s2 with heap:=h3 } (upd H2 s2.heap.objs.size (.lst [])) h3.objs.size) rfl rfl rfl hc i [] s5 σ5 H5 _ I5 (fpB fr5) st5 stop) fun r s6 ⟨hr,I6⟩=>?_
   subst hr
   refine wpAny_pure ?_
   have u6:Un (frs X.stack) fp (upd H2 s2.heap.objs.size (.lst [])) H5 h3 s6.heap:=I6.base
   have hf6:H5 h3.objs.size = none:=I6.free
   have I7:Inv X pins σ H5 s6:=I3.call' (ch:=fp) I6.os u6 I6.hok I6.bare fun b hb=>⟨(f3 b hb).2.2.2.1,(f3 b hb).2.1,(f3 b hb).2.2.2.2.1,(f3 b hb).2.2.2.2.2⟩
   obtain ⟨m,hm,_⟩:=I6.loc
   exact hRR _ _ H5 s6 I7 ⟨m,hm⟩ (I3.fpOk (Nat.le_refl _) hf6) qn
  ·refine thn (T.item (X.block scope N fp { s2 with heap:=h3 } (upd H2 s2.heap.objs.size (.lst [])) h3.objs.size) rfl rfl rfl hc i [] s5 σ5 H5 _ I5 (fpB fr5) st5 go) fun r s6 ⟨u,hr,h6⟩=>?_
   subst hr
   refine wpAny_bind (thn h6 fun _ s7 ⟨x,H7,I7,r7,y7,st7,fr7⟩=>?_)
   have I7':=I7.pinned (fpB fr7) (T.obj _ _ st7)
   have fin:∀ {σ9:St} {H9:Hp} {s9:Shared},Inv (X.block scope N fp { s2 with heap:=h3 } (upd H2 s2.heap.objs.size (.lst [])) h3.objs.size) ([] ++ jj6 fp s7.heap) σ9 H9 s9→N' σ9 H9 →
     ∃ m,m < n∧∃ i σ' H',Inv (X.block scope N fp { s2 with heap:=h3 } (upd H2 s2.heap.objs.size (.lst [])) h3.objs.size) [] σ' H' s9∧tn i s9.heap∧(∀ b ∈ fp,H' b = none)∧W i m σ' H':=fun {σ9 H9 s9} I9 n9=>by
    obtain ⟨m',hm,w9⟩:=hN' σ9 H9 n9
    refine ⟨m',hm,i + 1,σ9,H9,I9.unpinned,T.keep _ _ _ st7 fun b hb o e=>(I9.pin (b,o) (List.mem_append_right _ (List.mem_append_right _ (jdr hb e)))).1,fun b hb=>?_,w9⟩
    obtain ⟨o,e,d⟩:=T.obj _ _ st7 b hb
    exact (I9.pin (b,o) (List.mem_append_right _ (List.mem_append_right _ (jdr hb e)))).2.1
   refine wpAny_bind (wpAny_mono (hg fp _ _ _ _ s7 σ5 H7 x u _ I7' r7 (step x H7 y7)) (fun _ s8 ⟨σ8,H8,I8,q8⟩=>?_) fun _ _ z=>False.elim z)
   refine wpAny_bind (wpAny_mono (ht fp _ _ _ _ s8 σ8 H8 _ I8 q8) (fun ok s9 ⟨H9,I9,q9⟩=>?_) fun _ _ z=>False.elim z)
   cases ok with
   | false=>exact wpAny_pure ⟨rfl,fin I9 q9⟩
   | true =>
    refine wpAny_bind (wpAny_bind (wpAny_mono (he fp _ _ _ _ s9 σ8 H9 _ I9 q9) (fun v s10 ⟨y,H10,I10,r10,xs,hx,hz,q10⟩=>?_) fun _ _ z=>False.elim z))
    refine wpAny_bind (wpAny_mono (jji (X:=X.block scope N fp { s2 with heap:=h3 } (upd H2 s2.heap.objs.size (.lst [])) h3.objs.size) _ s10 σ8 H10 (.ref s2.heap.objs.size) [y] _ [v] (fun _ H11=>N' σ8 H11) I10 rfl (.cons r10 .nil) ⟨_,xs,y,rfl,rfl,hx,hz,q10⟩)
     (fun _ s11 ⟨_,H11,I11,_,q11⟩=>wpAny_pure (wpAny_pure ⟨rfl,fin I11 q11⟩)) fun _ _ z=>False.elim z)
 exact codeAny_compStart_list (loop _ rfl) (T.self _ 0 _ _ _ tn1 (loop _ rfl))
def jp4 (src:List (Option Nat)) (wi:TI) (g:TG) (tc:TT) (te:TE):TE:=fun σ H Q=>wi σ H fun J H1=>∀ l,H1 l = none→jp0 J src g tc te Q σ H1 l
theorem jcg {X:Cx} {elt tg iter:Expr} {ifs:List Expr} {scope:Scope} {pos:Pos} {N:List Str} {src:List (Option Nat)} {wi:TI} {g:TG} {tc:TT} {te:TE} (S:CpScope X scope N src) (hc:X.calm = true)
  (hi:PI X tg iter wi) (hg:∀ fp s₀ H₀ C,PG (X.block scope N fp s₀ H₀ C) tg g) (ht:∀ fp s₀ H₀ C,PIf (X.block scope N fp s₀ H₀ C) ifs tc) (he:∀ fp s₀ H₀ C,PE (X.block scope N fp s₀ H₀ C) elt te)
  (hs:∀ x,foldedSetIterable iter X.env x = pure x:=by intro _; rfl):PE X (.ListComp elt [⟨tg,iter,ifs,0⟩] scope pos) (jp4 src wi g tc te):=by
 intro pins s σ H Q I h
 rw [eval_ListComp]
 refine wpAny_comprehension_free (use:=none) rfl hs (jdc fun y hy e=>I.ok.has y.1 (.inl (S.frees y hy e).2)) S.kind S.locs ?_
 refine thn (hi pins s σ H _ I h) fun v s1 h1=>thn h1 fun itv s2 h2=>?_
 obtain ⟨it,fp,tn,J,H2,e,I2,T,st2,f2,hw⟩:=h2
 subst e
 refine jjt (RR:=fun acc C=>compPost (model X.prog X.w) X.A X.xe none (EP X pins σ Q) acc C) S hc hg ht he I2 T st2 f2 hw ?_
 intro l C H' s' I' hm fC q
 obtain ⟨m,hm⟩:=hm
 refine ⟨m,hm,fun h' hs'=>?_⟩
 exact ⟨.ref l,H',I'.turned (t':=s'.toks) (fun b o hb e=>hs'.extBut b o hb e) fC.1 fC.2.1 fC.2.2.2.1 fC.2.2.2.2.1 fC.2.2.2.2.2,rfl,q⟩
theorem jkb {X:Cx} {i:Nat} {x:Str} {pos' spos:Pos} {elt tg iter:Expr} {ifs:List Expr} {scope:Scope} {pos:Pos} {N:List Str} {src:List (Option Nat)} {wi:TI} {g:TG} {tc:TT} {te:TE} (hN:X.N.Nodup) (hix:X.N[i]? = some x) (hx:Loc X.env.scope x)
  (S:CpScope X scope N src) (hc:X.calm = true)
  (hi:PI X tg iter wi) (hg:∀ fp s₀ H₀ C,PG (X.block scope N fp s₀ H₀ C) tg g) (ht:∀ fp s₀ H₀ C,PIf (X.block scope N fp s₀ H₀ C) ifs tc) (he:∀ fp s₀ H₀ C,PE (X.block scope N fp s₀ H₀ C) elt te)
  (hsw:swapsWith (.ListComp elt [⟨tg,iter,ifs,0⟩] scope pos) (some (.Name x pos')) spos.line X.env = pure true:=by rfl)
  (hs:∀ x,foldedSetIterable iter X.env x = pure x:=by intro _; rfl) (hf:X.fn x = true ∨ X.env.scope.names.lookup x = some .local:=by first | exact .inl rfl | exact .inr rfl | assumption) :
  PS X (.Assign [.Name x pos'] (.ListComp elt [⟨tg,iter,ifs,0⟩] scope pos) spos) (tAsg (jp4 src wi g tc te) (jal i)):=by
 intro pins s σ H D I h
 rw [exec_Assign_Name_used _ _ _ _ hsw]
 refine wpAny_bind (wpAny_standAt (wpAny_bind ?_))
 show wpAny _ X.A (do let _ ← comprehension (.ListComp elt [⟨tg,iter,ifs,0⟩] scope pos) scope X.env _ (newList []) false (eval iter X.env) (some (assign (.Name x pos') X.env))) _ _ s
 refine wpAny_bind (wpAny_mono (wpAny_comprehension_free (use:=some (assign (.Name x pos') X.env)) (Q:=fun _ s'=>SP X pins D .next s') rfl hs (jdc fun y hy e=>I.ok.has y.1 (.inl (S.frees y hy e).2)) S.kind S.locs
  (thn (hi pins s σ H _ I h) fun v s1 h1=>thn h1 fun itv s2 h2=>?_)) (fun _ s' hq=>wpAny_pure (wpAny_pure hq)) fun _ _ e=>e)
 obtain ⟨it,fp,tn,J,H2,e,I2,T,st2,f2,hw⟩:=h2
 subst e
 refine jjt (Q:=fun v H'=>D.nx (σ.set i (some v)) H') (RR:=fun acc C=>compPost (model X.prog X.w) X.A X.xe (some (assign (.Name x pos') X.env)) (fun _ s'=>SP X pins D .next s') acc C) S hc hg ht he I2 T st2 f2 hw ?_
 intro l C H' s' I' hm fC q
 obtain ⟨m,hm⟩:=hm
 show wpAny _ X.A (assign (.Name x pos') X.env (.ref l)) _ _ _
 refine wpAny_assign_Name (jiw I' hN hix hx (v:=.ref l) rfl (fun s'' I'' ⟨a,sb,ha⟩=>?_) hf)
 have hCa:C ≠ a:=by
  rcases ha with rfl | ha
  ·exact fC.2.1
  ·exact fun z=>fC.2.2.2.2.1 x a ha z.symm
 refine ⟨m,hm.sameBut sb hCa,fun h' hs'=>?_⟩
 exact ⟨_,H',I''.turned (t':=s''.toks) (fun b o hb e=>hs'.extBut b o hb e) fC.1 fC.2.1 fC.2.2.2.1 fC.2.2.2.2.1 fC.2.2.2.2.2,q⟩
end L2
namespace L2
open PySem PySem.Spec PyProof.Rows
theorem Inv.turnedNew {X:Cx} {pins:List (Addr × Obj)} {σ:St} {H:Hp} {s:Shared} {h':Heap} {ch:List Addr} {t:Addr} {o:HO} {t':Nat} (I:Inv X pins σ H s) (hsz:s.heap.objs.size ≤ t)
  (k:∀ b ob,b ∉ ch→s.heap.get? b = some ob→h'.get? b = some ob) (hch:∀ b ∈ ch,FpOk X pins H b) (new:jcp X.prog X.w (upd H t o) h' t o) :
  Inv X pins σ (upd H t o) { s with heap:=h',toks:=t' }:=by
 have hn:H t = none:=I.hok.fresh hsz
 have nt:∀ {b ob},s.heap.get? b = some ob→b ≠ t:=fun q=>Nat.ne_of_lt (Nat.lt_of_lt_of_le (Heap.lt_size q) hsz)
 have u:Un (frs X.stack) ch H (upd H t o) s.heap h' :=
  ⟨fun b ob q _ _ hx=>k b ob hx q,fun b ob q _ _ hx=>⟨ob.slots,k b ob hx q⟩,fun b ob q n _=>by rw [jaj (nt q)]; exact n,fun b ob q hx=>⟨ob,k b ob hx q⟩,
   fun b xs q=>by rw [jaj (ja6 q hn)]; exact q,fun b ob xs q=>by rw [jaj (ja6 q hn)]; exact q,fun b ps q=>⟨#[],by rw [jaj (ja6 q hn),q]; simp⟩⟩
 refine I.call (g':=s.gens) (t':=t') (d':=s.drawn) u (fun b ob e=>?_) I.bare fun b hb=>⟨(hch b hb).2.2.2.1,(hch b hb).2.1,(hch b hb).2.2.2.2.1,(hch b hb).2.2.2.2.2⟩
 by_cases hb:b = t
 ·subst hb; rw [ja1] at e; cases e; exact new
 ·rw [jaj hb] at e
  have ntr:∀ {c u},H c = some u→c ∉ ch:=fun q z=>by rw [(hch _ z).1] at q; cases q
  refine (I.hok b ob e).stay (fun c v hc q=>k c v ?_ q) (fun c q=>by rw [jaj (ja6 q hn)]; exact q) fun c xs q=>by rw [jaj (ja6 q hn)]; exact q
  rcases hc with z | z
  ·rw [z]; exact ntr e
  ·exact ntr z
theorem Inv.turnedAll {X:Cx} {pins:List (Addr × Obj)} {σ:St} {H:Hp} {s:Shared} {h':Heap} {ch:List Addr} {t':Nat} (I:Inv X pins σ H s)
  (k:∀ b ob,b ∉ ch→s.heap.get? b = some ob→h'.get? b = some ob) (hch:∀ b ∈ ch,FpOk X pins H b):Inv X pins σ H { s with heap:=h',toks:=t' }:=by
 have u:Un (frs X.stack) ch H H s.heap h' :=
  ⟨fun b ob q _ _ hx=>k b ob hx q,fun b ob q _ _ hx=>⟨ob.slots,k b ob hx q⟩,fun b ob q n _=>n,fun b ob q hx=>⟨ob,k b ob hx q⟩,fun b xs q=>q,fun b ob xs q=>q,fun b ps q=>⟨#[],by rw [q]; simp⟩⟩
 refine I.call (g':=s.gens) (t':=t') (d':=s.drawn) u (fun b ob e=>?_) I.bare fun b hb=>⟨(hch b hb).2.2.2.1,(hch b hb).2.1,(hch b hb).2.2.2.2.1,(hch b hb).2.2.2.2.2⟩
 have ntr:∀ {c u},H c = some u→c ∉ ch:=fun q z=>by rw [(hch _ z).1] at q; cases q
 refine (I.hok b ob e).stay (fun c v hc q=>k c v ?_ q) (fun c q=>q) fun c xs q=>q
 rcases hc with z | z
 ·rw [z]; exact ntr e
 ·exact ntr z
def Ite (K:PySem.W.Frag) (a:Addr):It :=
 ⟨fun i H=>∃ xs x,SqL K H a xs∧xs[i]? = some x,fun i H x H'=>∃ t y,H t = none∧x = .ref t∧H' = upd H t (.tup [.int i,y])∧∀ xs,SqL K H a xs→xs[i]? = some y,fun i H=>∃ xs,SqL K H a xs∧xs.length ≤ i⟩
theorem jmx {P:Program} {w:World} {K:PySem.W.Frag} {elts:List Expr} {x1:Nat} {pos:Pos} (a e it:Addr) (hne:e ≠ it) :
  Turn P w K (.Tuple elts x1 pos) (Ite K a) [e,it] e (fun i h=>(∃ old,IsEnum h e it i old)∧h.IsListIter it a i) where
 mem:=by simp
 obj:=fun i h st b hb=>by
  obtain ⟨⟨old,he⟩,hit⟩:=st
  have q:b = e ∨ b = it:=by simpa using hb
  rcases q with rfl | rfl
  ·exact ⟨_,he,fun v z=>by
    have z':Data.fields _ = Data.cell v:=z
    cases z'⟩
  ·obtain ⟨o,e1,c,d⟩:=hit
   exact ⟨o,e1,fun v z=>by rw [d] at z; cases z⟩
 keep:=fun i h h' st k=>by
  obtain ⟨⟨old,he⟩,hit⟩:=st
  exact ⟨⟨old,k e (by simp) _ he⟩,hit.at fun o z=>k it (by simp) o z⟩
 item:=by
  intro X hP hw hK hc i pins s σ H E I hf st hg
  subst hP hw hK
  obtain ⟨⟨old,he⟩,hit⟩:=st
  obtain ⟨xs,x,hq,hx⟩:=hg
  obtain ⟨its,rv,p,hz⟩:=I.list hq
  obtain ⟨u,hu,ru⟩:=rv.get hx
  have elt:e < s.heap.objs.size:=Heap.lt_size he
  have ilt:it < s.heap.objs.size:=by obtain ⟨_,z,_⟩:=hit; exact Heap.lt_size z
  refine wpAny_pyNext_enum_item he hit p.isList (x:=u) (by simpa using hu) hne fun h1 ho hit1 hT hsz1 hk1=>?_
  refine ⟨_,rfl,wpAny_letOwnedTupleGo_enum ho fun h2 he2 hs2=>?_⟩
  replace hs2:Heap.SameBut e h1 h2:=hs2
  have kk:∀ b ob,b ∉ [e,it]→s.heap.get? b = some ob→h2.get? b = some ob:=fun b ob hb q=>by
   have hb':b ≠ e∧b ≠ it:=by simpa using hb
   exact hs2.extBut b ob hb'.1 (hk1 b ob hb'.1 hb'.2 q)
  have hT2:h2.get? s.heap.objs.size = some { cls:=.type "tuple",data:=.seq #[.int i s.toks,u] }:=(hs2.2 _ (Nat.ne_of_gt elt)).trans hT
  refine ⟨.ref s.heap.objs.size,upd H s.heap.objs.size (.tup [.int i,x]),I.turnedNew (ch:=[e,it]) (Nat.le_refl _) kk hf ?_,rfl,⟨_,x,I.fresh,rfl,rfl,fun ys hy=>by rw [I.list_inj hy hq]; exact hx⟩,⟨⟨u,by simpa using he2⟩,hit1.at fun o z=>(hs2.2 it hne.symm).trans z⟩,fun b hb=>?_⟩
  ·exact ⟨by show 2 ≤ sizeLine; decide,[.int i s.toks,u],.cons ⟨_,rfl⟩ (.cons ru .nil),⟨_,hT2,rfl,_,rfl⟩⟩
  ·have hb':b = e ∨ b = it:=by simpa using hb
   have:b ≠ s.heap.objs.size:=by
    rcases hb' with rfl | rfl
    ·exact Nat.ne_of_lt elt
    ·exact Nat.ne_of_lt ilt
   rw [jaj this]
   exact (hf b hb).1
 done:=by
  intro X hP hw hK hc i pins s σ H E I hf st hg
  subst hP hw hK
  obtain ⟨⟨old,he⟩,hit⟩:=st
  obtain ⟨xs,hq,hx⟩:=hg
  obtain ⟨its,rv,p,hz⟩:=I.list hq
  have hl:=rv.length
  refine wpAny_pyNext_enum_end (I.ok.hd hc) he hit p.isList (by simp; omega) fun h' eb=>⟨rfl,I.turnedAll (ch:=[e,it]) (t':=s.toks) (fun b o hb q=>eb b o (fun z=>hb (by simp [z])) q) hf⟩
 self:=fun _ _ _ _ _ st h=>by
  obtain ⟨⟨old,he⟩,_⟩:=st
  exact wpAny_pyIter_enum he h
def iEnum (K:PySem.W.Frag) (ta:TA):TI:=fun σ H R=>ta σ H fun vs H1=>∃ a,vs = [.ref a]∧(∃ xs,SqL K H1 a xs)∧R (Ite K a) H1
theorem jke {X:Cx} {elts:List Expr} {x1:Nat} {tpos:Pos} {a:Expr} {ta:TA} {p pos:Pos} (hg:Gl X "enumerate") (hm:X.mg "enumerate" = none) (ha:PA X [a] ta) (hs:starEach [a] X.env = [(false,eval a X.env)]:=by rfl) :
  PI X (.Tuple elts x1 tpos) (.Call (.Name "enumerate" p) [a] [] pos) (iEnum X.K ta):=by
 intro pins s σ H R I h
 refine Call_ (jg5 I hg hm boot_enumerate (PyProof.Rows.callWith_type1 (thn (ha pos pins s σ H _ I h) fun us s1 ⟨vs,H1,I1,r1,q1⟩=>?_) hs rfl))
 obtain ⟨a,e,⟨xs,hq⟩,q⟩:=q1
 subst e
 cases r1 with
 | cons r rr =>
  cases rr
  cases r
  obtain ⟨its,rv,pl,hz⟩:=I1.list hq
  refine call_enumerate_list pl.isList fun h' he hit hsz hk=>?_
  refine wpAny_pyIter_enum he ?_
  have I2:Inv X pins σ H1 { s1 with heap:=h' }:=I1.kept (t':=s1.toks) fun b o q=>hk b o q
  refine ⟨_,[s1.heap.objs.size + 1,s1.heap.objs.size],_,_,H1,rfl,I2,jmx a _ _ (Nat.succ_ne_self _),⟨⟨_,he⟩,hit⟩,fun b hb=>?_,q⟩
  have hb':b = s1.heap.objs.size + 1 ∨ b = s1.heap.objs.size:=by simpa using hb
  rcases hb' with rfl | rfl
  ·exact I1.fpOk (Nat.le_succ _) (I1.hok.fresh (Nat.le_succ _))
  ·exact I1.fpOk (Nat.le_refl _) (I1.hok.fresh (Nat.le_refl _))
end L2
namespace L2
open PySem PySem.Spec PyProof.Rows
section
variable {prog:Program} {w:World} {A:Around} {E:Value→Shared→Prop} {s:Shared}
theorem jmh {j t:Addr} {k:Nat} {ar:Array Value} {x:Value} {Q:Value→Shared→Prop} (hj:s.heap.IsTupleIter j t k) (ht:s.heap.IsTuple t ar) (hx:ar[k]? = some x)
  (hQ:∀ h',h'.IsTupleIter j t (k + 1)→Heap.SameBut j s.heap h'→Q x { s with heap:=h' }):wpAny (model prog w) A (Builtin.SmallTypes.nextOf (.ref j)) Q E s:=by
 obtain ⟨ob,e0,hcl,hdt⟩:=id hj
 obtain ⟨ot,e1,_,nt,hdl⟩:=ht
 unfold Builtin.SmallTypes.nextOf
 refine wpAny_bind (wpAny_callSpecial?_slot (name:=Str.ofString "__next__") hj.typeIs F.slot_tuple_iterator_next (wpAny_call_entry F.slot_tuple_iterator_next hj.typeIs F.entry_tuple_iterator_next ?_ (F.args_tuple_iterator_next_1 _)))
 show wpAny _ _ (field (.ref j) 0 >>= _) _ _ s
 refine wpAny_bind (wpAny_field e0 hdt (x:=.ref t) rfl ?_)
 show wpAny _ _ (if (Value.ref t == Value.none) = true then _ else _) _ _ s
 rw [if_neg (show ¬ ((Value.ref t == Value.none) = true) from Bool.false_ne_true)]
 show wpAny _ _ (field (.ref j) 1 >>= _) _ _ s
 refine wpAny_bind (wpAny_field e0 hdt (x:=.int k 0) rfl ?_)
 show wpAny _ _ (seqItems? (.ref t) >>= _) _ _ s
 refine wpAny_bind (wpAny_seqItems e1 hdl ?_)
 simp only [Int.toNat_natCast,hx]
 refine wpAny_bind (wpAny_setField e0 hdt (by simp) (wpAny_pure ⟨x,rfl,wpAny_pure (hQ _ ?_ (Heap.SameBut.update ..))⟩))
 exact ⟨_,Heap.get?_update_self _ e0 (Obj.isFreed_of_fields (Obj.data_mapFields hdt _)),(Obj.cls_mapFields ..).trans hcl,by rw [Obj.data_mapFields hdt]; simp [rawInt]⟩
theorem jgj {j t:Addr} {k:Nat} {ar:Array Value} {Q:Value→Shared→Prop} (hh:A.handled = none) (hj:s.heap.IsTupleIter j t k) (ht:s.heap.IsTuple t ar) (hx:ar[k]? = none)
  (hE:∀ h' e,Heap.ExtBut j s.heap h'→(∃ o,h'.get? e = some o∧o.cls = .type "StopIteration")→E (.ref e) { s with heap:=h' }):wpAny (model prog w) A (Builtin.SmallTypes.nextOf (.ref j)) Q E s:=by
 obtain ⟨ob,e0,hcl,hdt⟩:=id hj
 obtain ⟨ot,e1,_,nt,hdl⟩:=ht
 unfold Builtin.SmallTypes.nextOf
 refine wpAny_bind (wpAny_callSpecial?_slot (name:=Str.ofString "__next__") hj.typeIs F.slot_tuple_iterator_next (wpAny_call_entry F.slot_tuple_iterator_next hj.typeIs F.entry_tuple_iterator_next ?_ (F.args_tuple_iterator_next_1 _)))
 show wpAny _ _ (field (.ref j) 0 >>= _) _ _ s
 refine wpAny_bind (wpAny_field e0 hdt (x:=.ref t) rfl ?_)
 show wpAny _ _ (if (Value.ref t == Value.none) = true then _ else _) _ _ s
 rw [if_neg (show ¬ ((Value.ref t == Value.none) = true) from Bool.false_ne_true)]
 show wpAny _ _ (field (.ref j) 1 >>= _) _ _ s
 refine wpAny_bind (wpAny_field e0 hdt (x:=.int k 0) rfl ?_)
 show wpAny _ _ (seqItems? (.ref t) >>= _) _ _ s
 refine wpAny_bind (wpAny_seqItems e1 hdl ?_)
 simp only [Int.toNat_natCast,hx]
 refine wpAny_bind (wpAny_rule (wpAny_bind (wpAny_setField e0 hdt (by simp) ?_)))
 show wpAny _ _ (newExc (.type "StopIteration") [] >>= _) _ _ _
 refine wpAny_bind ?_
 simp only [newExc,newTuple]
 refine wpAny_bind (wpAny_newObj_type ?_ (by size_fits))
 refine wpAny_bind (m:=firstArgMember _ _) (wpAny_of_eq (a:=Value.none) (by first | rfl | (simp only [firstArgMember]; rfl)) ?_)
 refine wpAny_newObj_type ?_ (by size_fits)
 simp only [raiseNew]
 refine wpAny_bind (wpAny_handled ?_)
 first | rw [show A.in1.handled = none from hh] | rw [hh]
 refine wpAny_bind (wpAny_pure (wpAny_throw ?_))
 exact hE _ _ (((Heap.SameBut.update ..).extBut.push _).push _) ⟨_,Heap.get?_push_size _ rfl,rfl⟩
def IsSq (b:Bool) (h:Heap) (l:Addr) (ar:Array Value):Prop:=if b = true then h.IsList l ar else h.IsTuple l ar
def jck (b:Bool) (h:Heap) (j l:Addr) (k:Nat):Prop:=if b = true then h.IsListIter j l k else h.IsTupleIter j l k
theorem IsSq.at' {b:Bool} {h h':Heap} {l:Addr} {ar:Array Value} (x:IsSq b h l ar) (k:∀ o,h.get? l = some o→h'.get? l = some o):IsSq b h' l ar:=by
 cases b with
 | true=>obtain ⟨o,e,r⟩:=(show h.IsList l ar from x); exact (show h'.IsList l ar from ⟨o,k o e,r⟩)
 | false=>obtain ⟨o,e,r⟩:=(show h.IsTuple l ar from x); exact (show h'.IsTuple l ar from ⟨o,k o e,r⟩)
theorem jck.at' {b:Bool} {h h':Heap} {j l:Addr} {i:Nat} (x:jck b h j l i) (k:∀ o,h.get? j = some o→h'.get? j = some o):jck b h' j l i:=by
 cases b with
 | true=>obtain ⟨o,e,r⟩:=(show h.IsListIter j l i from x); exact (show h'.IsListIter j l i from ⟨o,k o e,r⟩)
 | false=>obtain ⟨o,e,r⟩:=(show h.IsTupleIter j l i from x); exact (show h'.IsTupleIter j l i from ⟨o,k o e,r⟩)
theorem jck.obj {b:Bool} {h:Heap} {j l:Addr} {i:Nat} (x:jck b h j l i):∃ o,h.get? j = some o∧∀ v,o.data ≠ .cell v:=by
 cases b with
 | true=>obtain ⟨o,e,_,d⟩:=(show h.IsListIter j l i from x); exact ⟨o,e,fun v z=>by rw [d] at z; cases z⟩
 | false=>obtain ⟨o,e,_,d⟩:=(show h.IsTupleIter j l i from x); exact ⟨o,e,fun v z=>by rw [d] at z; cases z⟩
theorem jfy {b:Bool} {j l:Addr} {k:Nat} {ar:Array Value} {x:Value} {Q:Value→Shared→Prop} (hj:jck b s.heap j l k) (hl:IsSq b s.heap l ar) (hx:ar[k]? = some x)
  (hQ:∀ h',jck b h' j l (k + 1)→Heap.SameBut j s.heap h'→Q x { s with heap:=h' }):wpAny (model prog w) A (Builtin.SmallTypes.nextOf (.ref j)) Q E s:=by
 cases b with
 | true=>exact wpAny_nextOf_list_item (show s.heap.IsListIter j l k from hj) (show s.heap.IsList l ar from hl) hx fun h' a b=>hQ h' a b
 | false=>exact jmh (show s.heap.IsTupleIter j l k from hj) (show s.heap.IsTuple l ar from hl) hx fun h' a b=>hQ h' a b
theorem je8 {b:Bool} {j l:Addr} {k:Nat} {ar:Array Value} {Q:Value→Shared→Prop} (hh:A.handled = none) (hj:jck b s.heap j l k) (hl:IsSq b s.heap l ar) (hx:ar[k]? = none)
  (hE:∀ h' e,Heap.ExtBut j s.heap h'→(∃ o,h'.get? e = some o∧o.cls = .type "StopIteration")→E (.ref e) { s with heap:=h' }):wpAny (model prog w) A (Builtin.SmallTypes.nextOf (.ref j)) Q E s:=by
 cases b with
 | true=>exact wpAny_nextOf_list_end hh (show s.heap.IsListIter j l k from hj) (show s.heap.IsList l ar from hl) hx hE
 | false=>exact jgj hh (show s.heap.IsTupleIter j l k from hj) (show s.heap.IsTuple l ar from hl) hx hE
theorem jin {b:Bool} {z TI TO i1 i2 l1 l2:Addr} {k1 k2:Nat} {xs ys:Array Value} {x y v0 v1:Value} {Q:Value→Shared→Prop} (D:ZipApart z TI TO i1 i2 l1 l2)
  (hz:IsZip s.heap z TI TO .none) (hTI:IsPair s.heap TI (.ref i1) (.ref i2)) (hTO:IsPair s.heap TO v0 v1)
  (h1:jck b s.heap i1 l1 k1) (h2:jck b s.heap i2 l2 k2) (hl1:IsSq b s.heap l1 xs) (hl2:IsSq b s.heap l2 ys) (hx:xs[k1]? = some x) (hy:ys[k2]? = some y)
  (hQ:∀ h',IsZip h' z TI TO (rawInt s.heap.objs.size)→IsPair h' TO x y→jck b h' i1 l1 (k1 + 1)→jck b h' i2 l2 (k2 + 1)→IsPair h' s.heap.objs.size x y →
   (∀ c o,c ≠ z→c ≠ TO→c ≠ i1→c ≠ i2→s.heap.get? c = some o→h'.get? c = some o)→Q (.ref s.heap.objs.size) { s with heap:=h' }) :
  wpAny (model prog w) A (Builtin.«zip.__next__» ⟨[.ref z],[]⟩) (fun fin s'=>∃ v,fin = .done (.ret v)∧Q v s') E s:=by
 show wpAny _ _ (field (.ref z) 2 >>= _) _ _ _
 refine wpAny_bind (wpAny_field hz rfl (x:=.bool false) rfl ?_)
 show wpAny _ _ (field (.ref z) 3 >>= _) _ _ _
 refine wpAny_bind (wpAny_field hz rfl (x:=.ref TI) rfl ?_)
 refine wpAny_bind (wpAny_seqItems hTI rfl ?_)
 show wpAny _ _ (Builtin.SmallTypes.ownedTupleIsFree (.ref z) >>= _) _ _ _
 refine wpAny_bind ?_
 unfold Builtin.SmallTypes.ownedTupleIsFree
 refine wpAny_bind (wpAny_field hz rfl (x:=.none) rfl (wpAny_pure ?_))
 simp only [if_true]
 refine wpAny_bind (wpAny_rule ?_)
 refine wpAny_bind (wpAny_field hz rfl (x:=.ref TO) rfl ?_)
 refine wpAny_bind (wpAny_setField_rec hz (by simp) fun g1 hzA sA=>?_)
 replace hzA:IsZip g1 z TI TO .ellipsis:=hzA
 refine wpAny_bind ?_
 simp only [List.zipIdx_cons,List.zipIdx_nil,List.forIn_cons,List.forIn_nil]
 refine wpAny_bind (wpAny_bind (wpAny_onRaise ?_))
 show wpAny _ _ (Builtin.SmallTypes.nextOf (.ref i1) >>= _) _ _ _
 refine wpAny_bind (jfy (b:=b) (h1.at' fun o e=>sA.extBut _ o D.i1z e) (hl1.at' fun o e=>sA.extBut _ o D.l1z e) hx fun g2 h1B sB=>wpAny_pure ?_)
 have TOB:IsPair g2 TO v0 v1:=sB.extBut _ _ D.TOi1 (sA.extBut _ _ D.TOz hTO)
 refine wpAny_bind (wpAny_seqItems TOB rfl ?_)
 refine wpAny_bind (wpAny_updateSeq_pair TOB fun g3 TOC sC=>?_)
 replace TOC:IsPair g3 TO x v1:=TOC
 refine wpAny_bind (wpAny_letGo (wpAny_pure ?_))
 refine wpAny_bind (wpAny_bind (wpAny_onRaise ?_))
 show wpAny _ _ (Builtin.SmallTypes.nextOf (.ref i2) >>= _) _ _ _
 refine wpAny_bind (jfy (b:=b) (h2.at' fun o e=>sC.extBut _ o D.TOi2.symm (sB.extBut _ o D.i12.symm (sA.extBut _ o D.i2z e))) (hl2.at' fun o e=>sC.extBut _ o D.l2TO (sB.extBut _ o D.l2i1 (sA.extBut _ o D.l2z e))) hy fun g4 h2D sD=>wpAny_pure ?_)
 have TOD:IsPair g4 TO x v1:=sD.extBut _ _ D.TOi2 TOC
 refine wpAny_bind (wpAny_seqItems TOD rfl ?_)
 refine wpAny_bind (wpAny_updateSeq_pair TOD fun g5 TOE sE=>?_)
 replace TOE:IsPair g5 TO x y:=TOE
 refine wpAny_bind (wpAny_letGo (wpAny_pure (wpAny_pure ?_)))
 refine wpAny_bind (wpAny_seqItems TOE rfl ?_)
 refine wpAny_bind (wpAny_newTuple ?_)
 have hsz:g5.objs.size = s.heap.objs.size:=by rw [sE.1,sD.1,sC.1,sB.1,sA.1]
 have hzE:IsZip g5 z TI TO .ellipsis:=sE.extBut _ _ D.TOz.symm (sD.extBut _ _ D.i2z.symm (sC.extBut _ _ D.TOz.symm (sB.extBut _ _ D.i1z.symm hzA)))
 have hkE:∀ c o,c ≠ z→c ≠ TO→c ≠ i1→c ≠ i2→s.heap.get? c = some o→g5.get? c = some o:=fun c o c1 c2 c3 c4 e=>sE.extBut _ _ c2 (sD.extBut _ _ c4 (sC.extBut _ _ c2 (sB.extBut _ _ c3 (sA.extBut _ _ c1 e))))
 have h1E:jck b g5 i1 l1 (k1 + 1):=h1B.at' fun o e=>sE.extBut _ o D.TOi1.symm (sD.extBut _ o D.i12 (sC.extBut _ o D.TOi1.symm e))
 have h2E:jck b g5 i2 l2 (k2 + 1):=h2D.at' fun o e=>sE.extBut _ o D.TOi2.symm e
 have zlt:z < g5.objs.size:=Heap.lt_size hzE
 show wpAny _ _ (Builtin.SmallTypes.ownedTupleHandOut (.ref z) (.ref g5.objs.size) >>= _) _ _ _
 refine wpAny_bind ?_
 unfold Builtin.SmallTypes.ownedTupleHandOut
 have hzF:IsZip (g5.push { cls:=.type "tuple",data:=.seq #[x,y] }) z TI TO .ellipsis:=Heap.get?_push_of_some _ hzE
 refine wpAny_bind (wpAny_setField_rec hzF (by simp) fun g7 hzG sG=>?_)
 replace hzG:IsZip g7 z TI TO (rawInt g5.objs.size):=hzG
 refine wpAny_setField_rec hzG (by simp) fun g8 hzI sI=>?_
 replace hzI:IsZip g8 z TI TO (rawInt g5.objs.size):=hzI
 have up:∀ c o,c ≠ z→g5.get? c = some o→g8.get? c = some o:=fun c o c1 e=>sI.extBut _ _ c1 (sG.extBut _ _ c1 (Heap.get?_push_of_some _ e))
 have hTI8:IsPair g8 g5.objs.size x y:=sI.extBut _ _ (Nat.ne_of_gt zlt) (sG.extBut _ _ (Nat.ne_of_gt zlt) (Heap.get?_push_size _ rfl))
 rw [hsz] at hzI hTI8
 refine wpAny_pure ⟨_,rfl,?_⟩
 show Q (.ref g5.objs.size) _
 rw [hsz]
 exact hQ g8 hzI (up _ _ D.TOz TOE) (h1E.at' fun o e=>up _ o D.i1z e) (h2E.at' fun o e=>up _ o D.i2z e) hTI8 fun c o c1 c2 c3 c4 e=>up c o c1 (hkE c o c1 c2 c3 c4 e)
theorem jk3 {b:Bool} {z TI TO i1 i2 l1 l2:Addr} {k1 k2:Nat} {xs ys:Array Value} {v0 v1:Value} {Q:Fin→Shared→Prop} (hh:A.handled = none) (D:ZipApart z TI TO i1 i2 l1 l2)
  (hz:IsZip s.heap z TI TO .none) (hTI:IsPair s.heap TI (.ref i1) (.ref i2)) (hTO:IsPair s.heap TO v0 v1)
  (h1:jck b s.heap i1 l1 k1) (h2:jck b s.heap i2 l2 k2) (hl1:IsSq b s.heap l1 xs) (hl2:IsSq b s.heap l2 ys) (hend:xs[k1]? = none ∨ ys[k2]? = none)
  (hE:∀ h' e,(∀ c o,c ≠ z→c ≠ TO→c ≠ i1→c ≠ i2→s.heap.get? c = some o→h'.get? c = some o)→(∃ o,h'.get? e = some o∧o.cls = .type "StopIteration")→E (.ref e) { s with heap:=h' }) :
  wpAny (model prog w) A (Builtin.«zip.__next__» ⟨[.ref z],[]⟩) Q E s:=by
 show wpAny _ _ (field (.ref z) 2 >>= _) _ _ _
 refine wpAny_bind (wpAny_field hz rfl (x:=.bool false) rfl ?_)
 show wpAny _ _ (field (.ref z) 3 >>= _) _ _ _
 refine wpAny_bind (wpAny_field hz rfl (x:=.ref TI) rfl ?_)
 refine wpAny_bind (wpAny_seqItems hTI rfl ?_)
 show wpAny _ _ (Builtin.SmallTypes.ownedTupleIsFree (.ref z) >>= _) _ _ _
 refine wpAny_bind ?_
 unfold Builtin.SmallTypes.ownedTupleIsFree
 refine wpAny_bind (wpAny_field hz rfl (x:=.none) rfl (wpAny_pure ?_))
 simp only [if_true]
 refine wpAny_bind (wpAny_rule ?_)
 refine wpAny_bind (wpAny_field hz rfl (x:=.ref TO) rfl ?_)
 refine wpAny_bind (wpAny_setField_rec hz (by simp) fun g1 hzA sA=>?_)
 replace hzA:IsZip g1 z TI TO .ellipsis:=hzA
 refine wpAny_bind ?_
 simp only [List.zipIdx_cons,List.zipIdx_nil,List.forIn_cons,List.forIn_nil]
 refine wpAny_bind (wpAny_bind (wpAny_onRaise ?_))
 show wpAny _ _ (Builtin.SmallTypes.nextOf (.ref i1) >>= _) _ _ _
 cases hx:xs[k1]? with
 | none =>
  refine wpAny_bind (je8 (b:=b) hh (h1.at' fun o e=>sA.extBut _ o D.i1z e) (hl1.at' fun o e=>sA.extBut _ o D.l1z e) hx fun g2 ex sB he=>?_)
  obtain ⟨oe,hoe,hce⟩:=he
  have hzB:IsZip g2 z TI TO .ellipsis:=sB _ _ D.i1z.symm hzA
  have hez:ex ≠ z:=fun q=>by subst q; rw [hzB] at hoe; cases hoe; simp at hce
  refine wpAny_setField_rec hzB (by simp) fun g3 _ sC=>hE g3 ex (fun c o c1 _ c3 _ q=>sC.extBut _ _ c1 (sB _ _ c3 (sA.extBut _ _ c1 q))) ⟨oe,sC.extBut _ _ hez hoe,hce⟩
 | some x =>
  have hy:ys[k2]? = none:=by rcases hend with h | h; rw [hx] at h; cases h; exact h
  refine wpAny_bind (jfy (b:=b) (h1.at' fun o e=>sA.extBut _ o D.i1z e) (hl1.at' fun o e=>sA.extBut _ o D.l1z e) hx fun g2 h1B sB=>wpAny_pure ?_)
  have TOB:IsPair g2 TO v0 v1:=sB.extBut _ _ D.TOi1 (sA.extBut _ _ D.TOz hTO)
  refine wpAny_bind (wpAny_seqItems TOB rfl ?_)
  refine wpAny_bind (wpAny_updateSeq_pair TOB fun g3 TOC sC=>?_)
  refine wpAny_bind (wpAny_letGo (wpAny_pure ?_))
  refine wpAny_bind (wpAny_bind (wpAny_onRaise ?_))
  show wpAny _ _ (Builtin.SmallTypes.nextOf (.ref i2) >>= _) _ _ _
  refine wpAny_bind (je8 (b:=b) hh (h2.at' fun o e=>sC.extBut _ o D.TOi2.symm (sB.extBut _ o D.i12.symm (sA.extBut _ o D.i2z e))) (hl2.at' fun o e=>sC.extBut _ o D.l2TO (sB.extBut _ o D.l2i1 (sA.extBut _ o D.l2z e))) hy fun g4 ex sD he=>?_)
  obtain ⟨oe,hoe,hce⟩:=he
  have hzD:IsZip g4 z TI TO .ellipsis:=sD _ _ D.i2z.symm (sC.extBut _ _ D.TOz.symm (sB.extBut _ _ D.i1z.symm hzA))
  have hez:ex ≠ z:=fun q=>by subst q; rw [hzD] at hoe; cases hoe; simp at hce
  refine wpAny_setField_rec hzD (by simp) fun g5 _ sE=>hE g5 ex (fun c o c1 c2 c3 c4 q=>sE.extBut _ _ c1 (sD _ _ c4 (sC.extBut _ _ c2 (sB.extBut _ _ c3 (sA.extBut _ _ c1 q))))) ⟨oe,sE.extBut _ _ hez hoe,hce⟩
end
abbrev zpIt (b:Bool) (l:Addr):Obj:={ cls:=.type (if b = true then "list_iterator" else "tuple_iterator"),data:=.fields #[.ref l,.int 0 0] }
abbrev zp2 (b:Bool) (h:Heap) (l1 l2:Addr):Heap:=(h.push (zpIt b l1)).push (zpIt b l2)
abbrev zp3 (b:Bool) (h:Heap) (l1 l2:Addr):Heap:=(zp2 b h l1 l2).push { cls:=.type "tuple",data:=.seq #[.ref h.objs.size,.ref (h.push (zpIt b l1)).objs.size] }
abbrev zp4 (b:Bool) (h:Heap) (l1 l2:Addr):Heap:=(zp3 b h l1 l2).push { cls:=.type "tuple",data:=.seq #[.none,.none] }
abbrev zp5 (b:Bool) (h:Heap) (l1 l2:Addr):Heap:=(zp4 b h l1 l2).push { cls:=.type "zip",data:=.fields #[.none,.bool false,.bool false,.ref (zp2 b h l1 l2).objs.size,.ref (zp3 b h l1 l2).objs.size] }
theorem jms (l1 l2:Addr) (xs ys:Array Value) :
  Meets (Builtin.«zip.__new__» ⟨[.type "zip",.ref l1,.ref l2],[]⟩) (fun _ R s=>s.heap.IsTuple l1 xs∧s.heap.IsTuple l2 ys∧R (.ok (.ret (.ref (zp4 false s.heap l1 l2).objs.size))) { s with heap:=zp5 false s.heap l1 l2 }) :=
 .of_wp fun prog w A R s h=>by
  obtain ⟨hp,g,d,tk,os⟩:=s; obtain ⟨hl1,hl2,h⟩:=h
  have hsub:=sub_zip
  have hL1:Heap.IsTuple (Shared.heap ⟨hp,g,d,tk,os⟩) l1 xs:=hl1
  have hL2:Heap.IsTuple (Shared.heap ⟨hp.push { cls:=.type "tuple_iterator",data:=.fields #[.ref l1,.int 0 0] },g,d,tk,os⟩) l2 ys:=Heap.IsTuple.push hl2 _
  wp_walk using wpAny_pyIter_tuple hL1,wpAny_pyIter_tuple hL2
  exact ⟨_,rfl,h⟩
section
variable {prog:Program} {w:World} {A:Around} {E:Value→Shared→Prop} {s:Shared}
theorem jsb {b:Bool} {l1 l2:Addr} {xs ys:Array Value} {Q:Value→Shared→Prop} (hl1:IsSq b s.heap l1 xs) (hl2:IsSq b s.heap l2 ys)
  (h:∀ h',IsZip h' (s.heap.objs.size + 4) (s.heap.objs.size + 2) (s.heap.objs.size + 3) .none→IsPair h' (s.heap.objs.size + 2) (.ref s.heap.objs.size) (.ref (s.heap.objs.size + 1)) →
   IsPair h' (s.heap.objs.size + 3) .none .none→jck b h' s.heap.objs.size l1 0→jck b h' (s.heap.objs.size + 1) l2 0→(∀ c o,s.heap.get? c = some o→h'.get? c = some o)→Q (.ref (s.heap.objs.size + 4)) { s with heap:=h' }) :
  wpAny (model prog w) A (call (.type "zip") [.ref l1,.ref l2]) Q E s:=by
 cases b with
 | true=>exact call_zip_2 (show s.heap.IsList l1 xs from hl1) (show s.heap.IsList l2 ys from hl2) fun h' a1 a2 a3 a4 a5 _ a7=>h h' a1 a2 a3 a4 a5 a7
 | false =>
  refine callType_new F.called_zip (by decide) (F.typeCall_zip_2 _ _) (F.newCall_zip_2 _ _) (fun obj=>F.args_object_init_3 obj _ _) F.entry_zip_new (jms l1 l2 xs ys) ⟨hl1,hl2,?_⟩
  have q1:(s.heap.push (zpIt false l1)).objs.size = s.heap.objs.size + 1:=Heap.size_push ..
  have q2:(zp2 false s.heap l1 l2).objs.size = s.heap.objs.size + 2:=by rw [Heap.size_push,q1]
  have q3:(zp3 false s.heap l1 l2).objs.size = s.heap.objs.size + 3:=by rw [Heap.size_push,q2]
  have q4:(zp4 false s.heap l1 l2).objs.size = s.heap.objs.size + 4:=by rw [Heap.size_push,q3]
  have p5:(zp5 false s.heap l1 l2).get? (zp4 false s.heap l1 l2).objs.size = some _:=Heap.get?_push_size _ rfl
  have p4:(zp5 false s.heap l1 l2).get? (zp3 false s.heap l1 l2).objs.size = some _:=Heap.get?_push_of_some _ (Heap.get?_push_size _ rfl)
  have p3:(zp5 false s.heap l1 l2).get? (zp2 false s.heap l1 l2).objs.size = some _:=Heap.get?_push_of_some _ (Heap.get?_push_of_some _ (Heap.get?_push_size _ rfl))
  have p2:(zp5 false s.heap l1 l2).get? (s.heap.push (zpIt false l1)).objs.size = some _:=Heap.get?_push_of_some _ (Heap.get?_push_of_some _ (Heap.get?_push_of_some _ (Heap.get?_push_size _ rfl)))
  have p1:(zp5 false s.heap l1 l2).get? s.heap.objs.size = some _:=Heap.get?_push_of_some _ (Heap.get?_push_of_some _ (Heap.get?_push_of_some _ (Heap.get?_push_of_some _ (Heap.get?_push_size _ rfl))))
  show _∧_
  rw [q2,q3,q4] at p5
  rw [q1,q2] at p3
  rw [q3] at p4
  rw [q1] at p2
  rw [q4]
  exact ⟨⟨_,p5,rfl⟩,h _ p5 p3 p4 (show Heap.IsTupleIter _ _ _ _ from ⟨_,p1,rfl,rfl⟩) (show Heap.IsTupleIter _ _ _ _ from ⟨_,p2,rfl,rfl⟩) fun c o x =>
   Heap.get?_push_of_some _ (Heap.get?_push_of_some _ (Heap.get?_push_of_some _ (Heap.get?_push_of_some _ (Heap.get?_push_of_some _ x))))⟩
end
def SqB (b:Bool) (K:PySem.W.Frag) (H:Hp) (a:Addr) (xs:List V):Prop:=if b = true then SqL K H a xs else SqT K H a xs
theorem Inv.sqB {X:Cx} {pins:List (Addr × Obj)} {σ:St} {H:Hp} {s:Shared} {b:Bool} {a:Addr} {xs:List V} (I:Inv X pins σ H s) (h:SqB b X.K H a xs):∃ its:List Value,Vals xs its∧IsSq b s.heap a its.toArray∧xs.length ≤ sizeLine:=by
 cases b with
 | true =>
  obtain ⟨its,r,p,z⟩:=I.list (show SqL X.K H a xs from h)
  exact ⟨its,r,p.isList,z⟩
 | false =>
  obtain ⟨its,r,p,z⟩:=I.tuple (show SqT X.K H a xs from h)
  exact ⟨its,r,(show s.heap.IsTuple a its.toArray from p),z⟩
theorem Inv.sqB_inj {X:Cx} {pins:List (Addr × Obj)} {σ:St} {H:Hp} {s:Shared} {b:Bool} {a:Addr} {xs ys:List V} (I:Inv X pins σ H s) (h:SqB b X.K H a xs) (h':SqB b X.K H a ys):xs = ys:=by
 cases b with
 | true=>exact I.list_inj (show SqL X.K H a xs from h) (show SqL X.K H a ys from h')
 | false=>exact I.tuple_inj (show SqT X.K H a xs from h) (show SqT X.K H a ys from h')
def Itz (b:Bool) (K:PySem.W.Frag) (a c:Addr):It :=
  ⟨fun i H=>∃ xs ys x y,SqB b K H a xs∧SqB b K H c ys∧xs[i]? = some x∧ys[i]? = some y,
   fun i H v H'=>∃ t x y,H t = none∧v = .ref t∧H' = upd H t (.tup [x,y])∧(∀ xs,SqB b K H a xs→xs[i]? = some x)∧∀ ys,SqB b K H c ys→ys[i]? = some y,
   fun i H=>∃ xs ys,SqB b K H a xs∧SqB b K H c ys∧(xs.length ≤ i ∨ ys.length ≤ i)⟩
theorem jdv {X:Cx} {pins:List (Addr × Obj)} {σ:St} {H:Hp} {s:Shared} {b:Bool} {a j:Addr} {xs:List V} (I:Inv X pins σ H s) (h:SqB b X.K H a xs) (f:FpOk X pins H j):a ≠ j:=by
 intro e
 subst e
 have key:∀ {o},X.K.lookup a = some o→False:=fun {o} q=>by
  have q1:=I.mod.kin a o q
  rcases f.2.2.2.1 with z | z
  ·exact I.ok.noex a o q1 z
  ·exact absurd (Nat.lt_of_lt_of_le (Heap.lt_size q1) (Nat.le_trans I.ok.bsz z)) (Nat.lt_irrefl _)
 cases b with
 | true =>
  rcases (show SqL X.K H a xs from h) with (h | ⟨o,h⟩) | ⟨o,its,n,hk,_⟩
  ·rw [f.1] at h; cases h
  ·rw [f.1] at h; cases h
  ·exact key hk
 | false =>
  rcases (show SqT X.K H a xs from h) with (h | ⟨o,h⟩) | ⟨o,its,n,hk,_⟩
  ·rw [f.1] at h; cases h
  ·rw [f.1] at h; cases h
  ·exact key hk
structure ZpA (z TI TO i1 i2:Addr):Prop where
 TIz:TI ≠ z
 TOz:TO ≠ z
 i1z:i1 ≠ z
 i2z:i2 ≠ z
 TITO:TI ≠ TO
 TIi1:TI ≠ i1
 TIi2:TI ≠ i2
 TOi1:TO ≠ i1
 TOi2:TO ≠ i2
 i12:i1 ≠ i2
theorem jp3 {P:Program} {w:World} {K:PySem.W.Frag} {elts:List Expr} {x1:Nat} {pos:Pos} (b:Bool) (a c z TI TO i1 i2:Addr) (D0:ZpA z TI TO i1 i2) :
  Turn P w K (.Tuple elts x1 pos) (Itz b K a c) [z,TI,TO,i1,i2] z (fun i h=>IsZip h z TI TO .none∧IsPair h TI (.ref i1) (.ref i2)∧(∃ u v,IsPair h TO u v)∧jck b h i1 a i∧jck b h i2 c i) where
 mem:=by simp
 obj:=fun i h st d hd=>by
  obtain ⟨hz,hTI,⟨u,v,hTO⟩,h1,h2⟩:=st
  have q:d = z ∨ d = TI ∨ d = TO ∨ d = i1 ∨ d = i2:=by simpa using hd
  rcases q with rfl | rfl | rfl | rfl | rfl
  ·exact ⟨_,hz,fun v z=>by
    have z':Data.fields _ = Data.cell v:=z
    cases z'⟩
  ·exact ⟨_,hTI,fun v z=>by
    have z':Data.seq _ _ = Data.cell v:=z
    cases z'⟩
  ·exact ⟨_,hTO,fun v z=>by
    have z':Data.seq _ _ = Data.cell v:=z
    cases z'⟩
  ·exact h1.obj
  ·exact h2.obj
 keep:=fun i h h' st k=>by
  obtain ⟨hz,hTI,⟨u,v,hTO⟩,h1,h2⟩:=st
  exact ⟨k z (by simp) _ hz,k TI (by simp) _ hTI,⟨u,v,k TO (by simp) _ hTO⟩,h1.at' fun o e=>k i1 (by simp) o e,h2.at' fun o e=>k i2 (by simp) o e⟩
 item:=by
  intro X hP hw hK hc i pins s σ H E I hf st hg
  subst hP hw hK
  obtain ⟨hz,hTI,⟨u0,v0,hTO⟩,h1,h2⟩:=st
  obtain ⟨xs,ys,x,y,hq1,hq2,hx,hy⟩:=hg
  obtain ⟨its1,rv1,p1,hz1⟩:=I.sqB hq1
  obtain ⟨its2,rv2,p2,hz2⟩:=I.sqB hq2
  obtain ⟨u1,hu1,ru1⟩:=rv1.get hx
  obtain ⟨u2,hu2,ru2⟩:=rv2.get hy
  have D:ZipApart z TI TO i1 i2 a c:=⟨D0.TIz,D0.TOz,D0.i1z,D0.i2z,D0.TITO,D0.TIi1,D0.TIi2,D0.TOi1,D0.TOi2,D0.i12,
   jdv I hq1 (hf z (by simp)),jdv I hq1 (hf TO (by simp)),jdv I hq1 (hf i1 (by simp)),jdv I hq1 (hf i2 (by simp)),jdv I hq2 (hf z (by simp)),jdv I hq2 (hf TO (by simp)),jdv I hq2 (hf i1 (by simp)),jdv I hq2 (hf i2 (by simp))⟩
  have zlt:z < s.heap.objs.size:=Heap.lt_size hz
  have hT:s.TypeIs (.ref z) "zip":=⟨_,hz,rfl⟩
  unfold pyNext
  refine wpAny_bind (wpAny_attempt (wpAny_callSpecial?_slot (name:=Str.ofString "__next__") hT F.slot_zip_next (wpAny_call_entry F.slot_zip_next hT F.entry_zip_next
   (jin (b:=b) D hz hTI hTO h1 h2 p1 p2 (x:=u1) (y:=u2) (by simpa using hu1) (by simpa using hu2) fun h' a1 a2 a3 a4 a5 a7=>wpAny_pure ?_) (F.args_zip_next_1 _))))
  refine ⟨_,rfl,wpAny_letOwnedTupleGo_zip a1 fun g hz' hs'=>?_⟩
  replace hs':Heap.SameBut z h' g:=hs'
  have kk:∀ d ob,d ∉ [z,TI,TO,i1,i2]→s.heap.get? d = some ob→g.get? d = some ob:=fun d ob hd q=>by
   have hd':d ≠ z∧d ≠ TI∧d ≠ TO∧d ≠ i1∧d ≠ i2:=by simpa using hd
   exact hs'.extBut _ _ hd'.1 (a7 d ob hd'.1 hd'.2.2.1 hd'.2.2.2.1 hd'.2.2.2.2 q)
  have hT2:g.get? s.heap.objs.size = some { cls:=.type "tuple",data:=.seq #[u1,u2] }:=hs'.extBut _ _ (Nat.ne_of_gt zlt) a5
  refine ⟨.ref s.heap.objs.size,upd H s.heap.objs.size (.tup [x,y]),I.turnedNew (ch:=[z,TI,TO,i1,i2]) (t':=s.toks) (Nat.le_refl _) kk hf ?_,rfl,
   ⟨_,x,y,I.fresh,rfl,rfl,fun zs hq=>by rw [I.sqB_inj hq hq1]; exact hx,fun zs hq=>by rw [I.sqB_inj hq hq2]; exact hy⟩,
   ⟨hz',hs'.extBut _ _ D.TIz (a7 _ _ D.TIz D.TITO D.TIi1 D.TIi2 hTI),⟨_,_,hs'.extBut _ _ D.TOz a2⟩,a3.at' fun o e=>hs'.extBut _ _ D.i1z e,a4.at' fun o e=>hs'.extBut _ _ D.i2z e⟩,fun d hd=>?_⟩
  ·exact ⟨by show 2 ≤ sizeLine; decide,[u1,u2],.cons ru1 (.cons ru2 .nil),⟨_,hT2,rfl,_,rfl⟩⟩
  ·have dlt:d < s.heap.objs.size:=by
    have q:d = z ∨ d = TI ∨ d = TO ∨ d = i1 ∨ d = i2:=by simpa using hd
    rcases q with rfl | rfl | rfl | rfl | rfl
    ·exact zlt
    ·exact Heap.lt_size hTI
    ·exact Heap.lt_size hTO
    ·obtain ⟨o,e,_⟩:=h1.obj; exact Heap.lt_size e
    ·obtain ⟨o,e,_⟩:=h2.obj; exact Heap.lt_size e
   rw [jaj (Nat.ne_of_lt dlt)]
   exact (hf d hd).1
 done:=by
  intro X hP hw hK hc i pins s σ H E I hf st hg
  subst hP hw hK
  obtain ⟨hz,hTI,⟨u0,v0,hTO⟩,h1,h2⟩:=st
  obtain ⟨xs,ys,hq1,hq2,hlen⟩:=hg
  obtain ⟨its1,rv1,p1,hz1⟩:=I.sqB hq1
  obtain ⟨its2,rv2,p2,hz2⟩:=I.sqB hq2
  have e1:=rv1.length
  have e2:=rv2.length
  have D:ZipApart z TI TO i1 i2 a c:=⟨D0.TIz,D0.TOz,D0.i1z,D0.i2z,D0.TITO,D0.TIi1,D0.TIi2,D0.TOi1,D0.TOi2,D0.i12,
   jdv I hq1 (hf z (by simp)),jdv I hq1 (hf TO (by simp)),jdv I hq1 (hf i1 (by simp)),jdv I hq1 (hf i2 (by simp)),jdv I hq2 (hf z (by simp)),jdv I hq2 (hf TO (by simp)),jdv I hq2 (hf i1 (by simp)),jdv I hq2 (hf i2 (by simp))⟩
  have hT:s.TypeIs (.ref z) "zip":=⟨_,hz,rfl⟩
  unfold pyNext
  refine wpAny_bind (wpAny_attempt (wpAny_callSpecial?_slot (name:=Str.ofString "__next__") hT F.slot_zip_next (wpAny_call_entry F.slot_zip_next hT F.entry_zip_next
   (jk3 (b:=b) (I.ok.hd hc) D hz hTI hTO h1 h2 p1 p2 (by rcases hlen with h | h; exact .inl (by simp; omega); exact .inr (by simp; omega)) fun h' e hk he=>?_) (F.args_zip_next_1 _))))
  obtain ⟨o,ho,hcl⟩:=he
  refine wpAny_bind (wpAny_isInstance (T:="StopIteration") (b:=true) ⟨o,ho,hcl⟩ isSubtype_stop ?_)
  exact wpAny_pure ⟨rfl,I.turnedAll (ch:=[z,TI,TO,i1,i2]) (t':=s.toks) (fun d ob hd q=>by
   have hd':d ≠ z∧d ≠ TI∧d ≠ TO∧d ≠ i1∧d ≠ i2:=by simpa using hd
   exact hk d ob hd'.1 hd'.2.2.1 hd'.2.2.2.1 hd'.2.2.2.2 q) hf⟩
 self:=fun _ _ _ _ _ st h=>wpAny_pyIter_zip st.1 h
theorem jk2 {X:Cx} {b:Bool} {elts:List Expr} {x1:Nat} {tpos:Pos} {pins:List (Addr × Obj)} {σ:St} {H1:Hp} {s1:Shared} {R:It→Hp→Prop} {a c:Addr} {xs ys:List V} (I1:Inv X pins σ H1 s1) (hq1:SqB b X.K H1 a xs) (hq2:SqB b X.K H1 c ys) (q:R (Itz b X.K a c) H1) :
  wpAny (model X.prog X.w) X.A (call (.type "zip") [.ref a,.ref c]) (fun v s2=>wpAny (model X.prog X.w) X.A (pyIter v) (PIE X pins σ (.Tuple elts x1 tpos) R) X.xe s2) X.xe s1:=by
 obtain ⟨its1,rv1,p1,hz1⟩:=I1.sqB hq1
 obtain ⟨its2,rv2,p2,hz2⟩:=I1.sqB hq2
 refine jsb p1 p2 fun h' a1 a2 a3 a4 a5 hk=>?_
 refine wpAny_pyIter_zip a1 ?_
 have I2:Inv X pins σ H1 { s1 with heap:=h' }:=I1.kept (t':=s1.toks) fun b o q=>hk b o q
 have ne:∀ i j:Nat,i ≠ j→s1.heap.objs.size + i ≠ s1.heap.objs.size + j:=fun i j h e=>h (Nat.add_left_cancel e)
 refine ⟨_,[s1.heap.objs.size + 4,s1.heap.objs.size + 2,s1.heap.objs.size + 3,s1.heap.objs.size,s1.heap.objs.size + 1],_,_,H1,rfl,I2,jp3 b a c _ _ _ _ _ ⟨ne 2 4 (by decide),ne 3 4 (by decide),ne 0 4 (by decide),ne 1 4 (by decide),ne 2 3 (by decide),ne 2 0 (by decide),ne 2 1 (by decide),ne 3 0 (by decide),ne 3 1 (by decide),ne 0 1 (by decide)⟩,
  ⟨a1,a2,⟨_,_,a3⟩,a4,a5⟩,fun d hd=>?_,q⟩
 have hd':d = s1.heap.objs.size + 4 ∨ d = s1.heap.objs.size + 2 ∨ d = s1.heap.objs.size + 3 ∨ d = s1.heap.objs.size ∨ d = s1.heap.objs.size + 1:=by simpa using hd
 have hle:s1.heap.objs.size ≤ d:=by
  rcases hd' with e | e | e | e | e <;> rw [e]
  ·exact Nat.le_add_right _ _
  ·exact Nat.le_add_right _ _
  ·exact Nat.le_add_right _ _
  ·exact Nat.le_refl _
  ·exact Nat.le_add_right _ _
 exact I1.fpOk hle (I1.hok.fresh hle)
def iZipE (K:PySem.W.Frag) (ta:TA):TI:=fun σ H R=>ta σ H fun vs H1=>∃ (b:Bool) (a c:Addr),vs = [.ref a,.ref c]∧(∃ xs,SqB b K H1 a xs)∧(∃ ys,SqB b K H1 c ys)∧R (Itz b K a c) H1
theorem jre {X:Cx} {elts:List Expr} {x1:Nat} {tpos:Pos} {a c:Expr} {ta:TA} {p pos:Pos} (hg:Gl X "zip") (hm:X.mg "zip" = none) (ha:PA X [a,c] ta) (hs:starEach [a,c] X.env = [(false,eval a X.env),(false,eval c X.env)]:=by rfl) (hs2:starEach [c] X.env = [(false,eval c X.env)]:=by rfl) :
  PI X (.Tuple elts x1 tpos) (.Call (.Name "zip" p) [a,c] [] pos) (iZipE X.K ta):=by
 intro pins s σ H R I h
 refine Call_ (jg5 I hg hm boot_zip (PyProof.Rows.callWith_type1 (thn (ha pos pins s σ H _ I h) fun us s1 ⟨vs,H1,I1,r1,q1⟩=>?_) (by rw [hs,hs2]) (by rw [hs2]; rfl)))
 obtain ⟨b,a,c,e,⟨xs,hq1⟩,⟨ys,hq2⟩,q⟩:=q1
 subst e
 cases r1 with
 | cons r rr =>
  cases rr with
  | cons r' rr =>
   cases rr
   cases r
   cases r'
   exact jk2 I1 hq1 hq2 q
end L2
namespace L2
open PySem PySem.Spec PyProof.Rows
theorem jjj:typeLookup (.type "list") "keys" = pure none:=by rw [typeLookup_type,builtinLookup_eq_fast]; kernel_rfl
theorem jg3:typeLookup (.type "list") "__getattr__" = pure none:=by rw [typeLookup_type,builtinLookup_eq_fast]; kernel_rfl
theorem jhi:isSubtype (.type "AttributeError") (.type "AttributeError") = pure true:=by rw [isSubtype_type]; kernel_rfl
section
variable {prog:Program} {w:World} {A:Around} {E:Value→Shared→Prop} {h:Heap} {g:Array GenState} {d:Drawn} {t:Nat} {os:OsState} {a:Addr} {o:Obj}
theorem jmc {α:Type} {Q:α→Shared→Prop} {u:Value} {x msg:Str} (hh:A.handled = none) (hm:msg.length ≤ sizeLine)
  (hE:∀ h' e tk,(∀ b o,h.get? b = some o→h'.get? b = some o)→(∃ o,h'.get? e = some o∧o.cls = .type "AttributeError")→E (.ref e) ⟨h',g,d,tk,os⟩) :
  wpAny (model prog w) A (raiseAttrError u x msg:Sem α) Q E ⟨h,g,d,t,os⟩:=by
 unfold raiseAttrError
 refine wpAny_bind (wpAny_mkStr ?_ hm)
 simp only [newExc,newTuple]
 refine wpAny_bind (wpAny_bind (wpAny_newObj_type ?_ (by size_fits)))
 refine wpAny_bind (m:=firstArgMember _ _) (wpAny_of_eq (a:=Value.none) (by first | rfl | (simp only [firstArgMember]; rfl)) ?_)
 refine wpAny_newObj_type ?_ (by size_fits)
 refine wpAny_bind (wpAny_mkText ?_)
 dsimp only
 refine wpAny_bind ?_
 unfold noteAttr
 generalize hh1:h.push { cls:=.type "tuple",data:=.seq #[.str msg t] } = h1
 have k1:∀ b o,h.get? b = some o→h1.get? b = some o:=fun b o q=>by rw [← hh1]; exact Heap.get?_push_of_some _ q
 have hg:(h1.push { cls:=.type "AttributeError",data:=.fields #[.ref h.objs.size,.none,.none,.none,.bool false,.none,unsetMember,unsetMember] }).get? h1.objs.size = some _:=Heap.get?_push_size _ rfl
 have k2:∀ b o,h.get? b = some o→(h1.push { cls:=.type "AttributeError",data:=.fields #[.ref h.objs.size,.none,.none,.none,.bool false,.none,unsetMember,unsetMember] }).get? b = some o:=fun b o q=>Heap.get?_push_of_some _ (k1 b o q)
 have nb:∀ b o,h.get? b = some o→b ≠ h1.objs.size:=fun b o q=>Nat.ne_of_lt (Heap.lt_size (k1 b o q))
 show wpAny _ _ (lacksNameAndObj (.ref h1.objs.size) >>= _) _ _ ⟨h1.push { cls:=.type "AttributeError",data:=.fields #[.ref h.objs.size,.none,.none,.none,.bool false,.none,unsetMember,unsetMember] },g,d,t + 1 + 1,os⟩
 generalize hh2:h1.push { cls:=.type "AttributeError",data:=.fields #[.ref h.objs.size,.none,.none,.none,.bool false,.none,unsetMember,unsetMember] } = h2 at hg k2
 generalize h1.objs.size = e at hg nb
 clear hh2 k1 hh1
 have hT:(⟨h2,g,d,t + 1 + 1,os⟩:Shared).TypeIs (.ref e) "AttributeError":=⟨_,hg,rfl⟩
 refine wpAny_bind ?_
 unfold lacksNameAndObj
 refine wpAny_bind (wpAny_isInstance hT jhi ?_)
 simp only [Bool.not_true,Bool.false_eq_true,if_false]
 refine wpAny_bind (wpAny_load hg ?_)
 show wpAny _ _ (pure true) _ _ _
 refine wpAny_pure ?_
 simp only [if_true]
 refine wpAny_bind (wpAny_rule (wpAny_bind (wpAny_typeOf hT ?_)))
 show wpAny _ _ (layMembers e 6 #[_,u]) _ _ _
 unfold layMembers
 refine wpAny_bind (wpAny_load hg ?_)
 show wpAny _ _ (update e _) _ _ _
 refine wpAny_update hg ?_
 refine wpAny_raiseNew_none hh (hE _ _ _ (fun b o q=>?_) ⟨_,Heap.get?_update_self _ hg rfl,rfl⟩)
 exact (Heap.get?_update_other _ _ (nb b o q).symm).trans (k2 b o q)
theorem jjd {tk:Tok} {Q:PySem.Fin→Shared→Prop} {its:Array Value} {n:Nat} (hx:h.get? a = some { cls:=.type "list",dict:=none,data:=.seq its n,slots:=#[] }) (hh:A.handled = none)
  (hE:∀ h' e tk,(∀ b o,h.get? b = some o→h'.get? b = some o)→(∃ o,h'.get? e = some o∧o.cls = .type "AttributeError")→E (.ref e) ⟨h',g,d,tk,os⟩) :
  wpAny (model prog w) A (Builtin.«object.__getattribute__» ⟨[.ref a,.str "keys" tk],[]⟩) Q E ⟨h,g,d,t,os⟩:=by
 have hT:(⟨h,g,d,t,os⟩:Shared).TypeIs (.ref a) "list":=⟨_,hx,rfl⟩
 have f4:=jjj
 repeat (any_goals (first | assumption | wp_step))
 refine jmc hh (by decide +kernel) hE
theorem jo2 {tk:Tok} {Q:Value→Shared→Prop} {its:Array Value} {n:Nat} (hx:h.get? a = some { cls:=.type "list",dict:=none,data:=.seq its n,slots:=#[] }) (hh:A.handled = none)
  (hE:∀ h' e tk,(∀ b o,h.get? b = some o→h'.get? b = some o)→(∃ o,h'.get? e = some o∧o.cls = .type "AttributeError")→E (.ref e) ⟨h',g,d,tk,os⟩) :
  wpAny (model prog w) A (getAttrBy (.ref a) (.str "keys" tk) false) Q E ⟨h,g,d,t,os⟩:=by
 have hT:(⟨h,g,d,t,os⟩:Shared).TypeIs (.ref a) "list":=⟨_,hx,rfl⟩
 have f2:=F.slot_list_getattribute.lookup
 have f3:=F.slot_list_getattribute.bind (.ref a)
 repeat (any_goals (first | assumption | wp_step))
 refine codeAny_call_builtin F.slot_list_getattribute.plain F.entry_list_ga (F.slot_list_getattribute.check _ _ _ _ _ _ _ _ (show (⟨h,g,d,t,os⟩:Shared).TypeIs (.ref a) "list" from ⟨_,hx,rfl⟩) (F.args_list_getattribute_2 _ _) (jjd hx ?_ ?_))
 ·exact hh
 ·intro h' e tk k q
  obtain ⟨oe,he,hc⟩:=q
  have hT2:(⟨h',g,d,tk,os⟩:Shared).TypeIs (.ref e) "AttributeError":=⟨_,he,hc⟩
  have f5:=jhi
  have f6:=jg3
  show wpAny _ A (getattributeRaised (Value.ref a) _ (Value.type "list") (.ref e) none false false) _ _ _
  have done:=hE h' e tk k ⟨oe,he,hc⟩
  unfold getattributeRaised
  repeat (any_goals (first | assumption | wp_step))
theorem nokeys {Q:Option Value→Shared→Prop} {its:Array Value} {n:Nat} (hx:h.get? a = some { cls:=.type "list",dict:=none,data:=.seq its n,slots:=#[] }) (hh:A.handled = none)
  (hq:∀ h' tk,(∀ b o,h.get? b = some o→h'.get? b = some o)→Q none ⟨h',g,d,tk,os⟩):wpAny (model prog w) A (getAttr? (.ref a) "keys") Q E ⟨h,g,d,t,os⟩:=by
 unfold getAttr? getAttrBy?
 refine wpAny_bind (wpAny_mkText (wpAny_bind (wpAny_attempt (jo2 hx hh fun h' e tk k q=>?_))))
 obtain ⟨oe,he,hc⟩:=q
 refine wpAny_bind (wpAny_isInstance (T:="AttributeError") (b:=true) ⟨_,he,hc⟩ jhi ?_)
 exact wpAny_pure (hq h' tk k)
end
end L2
namespace L2
open PySem PySem.Spec PyProof.Rows
theorem jcs:entryFor table "dict.update.loop" = some Builtin.«dict.update.loop»:=entryFor_of_fast (by kernel_rfl)
theorem jc2:plainId "dict.update.loop" = true:=by decide +kernel
theorem jm9 {K:Type} [DecidableEq K] (kvs:List (K × Value)) (k:K) (v:Value):(stored kvs k v).length ≤ kvs.length + 1:=by
 unfold stored
 split
 ·rw [List.length_map]; omega
 ·rw [List.length_append]; exact Nat.le_refl _
section
variable {prog:Program} {w:World} {A:Around} {E:Value→Shared→Prop} {K:Type} [DecidableEq K] {knd:KeyKind prog w K} {R:Result→Shared→Prop}
theorem jom {d it l:Addr} {its:Array Value} {more:List (K × Value)} (hh:A.handled = none) (hlen:more.length = its.size) (hsz:its.size ≤ 1000) (hdl:l ≠ d) (hdi:it ≠ d) (hil:l ≠ it) :
  ∀ (k i:Nat) (tk0:Tok) (s:Shared) (kvs:List (K × Value)),its.size - i = k→i ≤ its.size→kvs.length ≤ i→s.heap.IsListIter it l i→s.heap.IsList l its→s.heap.DictOf knd d kvs →
   (∀ (j:Nat) (q:K × Value),more[j]? = some q→∃ t kv,its[j]? = some (.ref t)∧s.heap.IsTuple t #[kv,q.2]∧knd.is q.1 kv = true) →
   (∀ h' tk,h'.DictOf knd d (merged kvs (more.drop i))→(∀ b o,b ≠ d→b ≠ it→s.heap.get? b = some o→h'.get? b = some o)→R (.ok (.ret .none)) { s with heap:=h',toks:=tk }) →
   codeAny (model prog w) A (.builtin "dict.update.loop" ⟨[.ref d,.ref it,.int i tk0,.none],[]⟩) R s:=by
 intro k
 induction k with
 | zero =>
  intro i tk0 s kvs hk hi hkl hit hl hd hp hR
  have e:i = its.size:=by omega
  subst e
  refine codeAny_builtin jcs ?_
  rw [Around.under_plainId jc2 _]
  show wpAny _ A.in1 (pyNext (.ref it) >>= _) _ _ s
  refine wpAny_bind (wpAny_pyNext_list_end hh hit hl (by simp) fun h' eb=>?_)
  show wpAny _ A.in1 (Builtin.Dict.addKeywords d [] >>= _) _ _ _
  refine wpAny_bind (wpAny_pure (wpAny_pure ?_))
  refine hR h' s.toks ?_ fun b o _ hb q=>eb b o hb q
  rw [List.drop_eq_nil_of_le (by omega)]
  exact hd.extBut eb hdi.symm
 | succ k ih =>
  intro i tk0 s kvs hk hi hkl hit hl hd hp hR
  have hlt:i < its.size:=by omega
  have hlm:i < more.length:=by omega
  obtain ⟨t,kv,hu,ht,hkey⟩:=hp i more[i] (by simp [hlm])
  refine codeAny_builtin jcs ?_
  rw [Around.under_plainId jc2 _]
  show wpAny _ A.in1 (pyNext (.ref it) >>= _) _ _ s
  refine wpAny_bind (wpAny_pyNext_list_item hit hl hu fun h1 hit1 sb1=>?_)
  have nti:t ≠ it:=fun z=>by
   subst z
   obtain ⟨o,e1,c1,_⟩:=ht
   obtain ⟨o',e2,c2,_⟩:=hit
   rw [e1] at e2; cases e2; rw [c1] at c2; exact absurd c2 (by decide)
  have ntd:t ≠ d:=fun z=>by
   subst z
   obtain ⟨o,e1,c1,_⟩:=ht
   obtain ⟨o',_,_,e2,c2,_⟩:=hd
   rw [e1] at e2; cases e2; rw [c2.1] at c1; exact absurd c1 (by decide)
  have ht1:h1.IsTuple t #[kv,more[i].2]:=ht.extBut sb1.extBut nti
  have hd1:h1.DictOf knd d kvs:=hd.extBut sb1.extBut hdi.symm
  show wpAny _ A.in1 (holding [.ref t] _ >>= _) _ _ _
  refine wpAny_bind (wpAny_holding ?_)
  refine wpAny_bind (m:=(Builtin.Dict.pairItems (.ref t)).tryCatch _) ?_
  refine wpAny_tryCatch ?_
  unfold Builtin.Dict.pairItems
  refine wpAny_bind (wpAny_typeOf ht1.typeIs ?_)
  obtain ⟨ot,e1,c1,n1,d1⟩:=id ht1
  rw [if_pos (by decide)]
  refine wpAny_bind (wpAny_seqItems e1 d1 ?_)
  refine wpAny_pure ?_
  show wpAny _ A.in1 (holding [kv,more[i].2] (dictSet d kv more[i].2)) _ _ _
  refine wpAny_holding (wpAny_dictSet_pairs hkey hd1 (fun h2 hd2 sb2=>?_) (by have:=(by decide:1000 ≤ sizeLine); omega))
  replace sb2:Heap.SameBut d h1 h2:=sb2
  have kk:∀ b o,b ≠ d→b ≠ it→s.heap.get? b = some o→h2.get? b = some o:=fun b o b1 b2 q=>sb2.extBut b o b1 (sb1.extBut b o b2 q)
  refine wpAny_pure ⟨plainId_quiet jc2 _,?_⟩
  have hik:((i:Int) + 1) = ((i + 1:Nat):Int):=by omega
  show codeAny _ _ (.builtin "dict.update.loop" ⟨[.ref d,.ref it,rawInt ((i:Int) + 1),.none],[]⟩) _ _
  rw [hik]
  refine ih (i + 1) 0 _ (stored kvs more[i].1 more[i].2) (by omega) (by omega) ?_ (hit1.extBut sb2.extBut hdi) ((hl.extBut sb1.extBut hil).extBut sb2.extBut hdl) hd2 ?_ ?_
  ·have:=jm9 kvs more[i].1 more[i].2
   omega
  ·intro j q hq
   obtain ⟨t',kv',a1,a2,a3⟩:=hp j q hq
   have n1:t' ≠ it:=fun z=>by
    subst z
    obtain ⟨o,e1,c1,_⟩:=a2
    obtain ⟨o',e2,c2,_⟩:=hit
    rw [e1] at e2; cases e2; rw [c1] at c2; exact absurd c2 (by decide)
   have n2:t' ≠ d:=fun z=>by
    subst z
    obtain ⟨o,e1,c1,_⟩:=a2
    obtain ⟨o',_,_,e2,c2,_⟩:=hd
    rw [e1] at e2; cases e2; rw [c2.1] at c1; exact absurd c1 (by decide)
   exact ⟨t',kv',a1,(a2.extBut sb1.extBut n1).extBut sb2.extBut n2,a3⟩
  ·intro h' tk hd' k'
   refine hR h' tk ?_ fun b o b1 b2 q=>k' b o b1 b2 (kk b o b1 b2 q)
   rw [List.drop_eq_getElem_cons hlm]
   exact hd'
theorem jgn {l:Addr} {its:Array Value} {c:Nat} {more:List (K × Value)} {s:Shared} {Q:Value→Shared→Prop} (hh:A.handled = none) (hl:s.heap.get? l = some { cls:=.type "list",dict:=none,data:=.seq its c,slots:=#[] }) (hlen:more.length = its.size) (hsz:its.size ≤ 1000)
  (hp:∀ (j:Nat) (q:K × Value),more[j]? = some q→∃ t kv,its[j]? = some (.ref t)∧s.heap.IsTuple t #[kv,q.2]∧knd.is q.1 kv = true)
  (h:∀ h' tk,h'.DictOf knd s.heap.objs.size (merged [] more)→(∀ b o,s.heap.get? b = some o→h'.get? b = some o)→Q (.ref s.heap.objs.size) { s with heap:=h',toks:=tk }) :
  wpAny (model prog w) A (call (.type "dict") [.ref l]) Q E s:=by
 refine callType_codes (Q₁:=fun obj s₁=>obj = .ref s.heap.objs.size∧s₁ = { s with heap:=s.heap.push { cls:=.type "dict",data:=.dict #[] } }) F.kt_called_dict (F.kt_typeCall_dict_1 _) F.entry_dict_init (kt_code_dict_new _ ⟨rfl,rfl⟩) ?_
 rintro obj s₁ ⟨rfl,rfl⟩
 have hnew:(s.heap.push { cls:=.type "dict",data:=.dict #[] }).DictOf knd s.heap.objs.size []:=Heap.DictOf.new s.heap
 have hl1:(s.heap.push { cls:=.type "dict",data:=.dict #[] }).get? l = some { cls:=.type "list",dict:=none,data:=.seq its c,slots:=#[] }:=Heap.get?_push_of_some _ hl
 have k1:∀ b o,s.heap.get? b = some o→(s.heap.push { cls:=.type "dict",data:=.dict #[] }).get? b = some o:=fun b o q=>Heap.get?_push_of_some _ q
 have llt:l < s.heap.objs.size:=Heap.lt_size hl
 generalize s.heap.push { cls:=.type "dict",data:=.dict #[] } = h1 at hnew hl1 k1
 refine ⟨hnew.typeIs,F.args_dict_init_2 _ _,?_⟩
 unfold Builtin.«dict.__init__»
 refine wpAny_bind ?_
 unfold Builtin.Dict.selfAndRest
 refine wpAny_bind (wpAny_notOrdered_dict hnew.typeIs ?_)
 show wpAny _ _ (pure (s.heap.objs.size,[Value.ref l])) _ _ _
 refine wpAny_pure ?_
 show wpAny _ _ (Builtin.Dict.updateFrom "dict.__init__" s.heap.objs.size (.ref l) [] .none) _ _ _
 unfold Builtin.Dict.updateFrom
 refine wpAny_bind (wpAny_typeOf (T:="list") ⟨_,hl1,rfl⟩ ?_)
 rw [if_pos (by decide)]
 refine wpAny_bind (nokeys hl1 hh fun h2 tk2 k2=>?_)
 have hl2:=k2 _ _ hl1
 have hd2:h2.DictOf knd s.heap.objs.size []:=let ⟨o,es,ep,ho,r⟩:=hnew; ⟨o,es,ep,k2 _ _ ho,r⟩
 have dlt:s.heap.objs.size < h2.objs.size:=by obtain ⟨_,_,_,ho,_⟩:=hd2; exact Heap.lt_size ho
 simp only [Option.isNone_none,if_true]
 refine wpAny_bind (wpAny_rule ?_)
 have hL:Heap.IsList h2 l its:=⟨_,hl2,rfl,_,rfl⟩
 refine wpAny_bind (wpAny_pyIter_list (s:={ s with heap:=h2,toks:=tk2 }) hL ?_)
 refine wpAny_pure ⟨plainId_quiet jc2 _,?_⟩
 have hit:(h2.push { cls:=.type "list_iterator",data:=.fields #[.ref l,.int 0 0] }).IsListIter h2.objs.size l 0:=⟨_,Heap.get?_push_size _ rfl,rfl,rfl⟩
 refine jom (A:=A.in1) (knd:=knd) (more:=more) hh hlen hsz (Nat.ne_of_lt llt) (Nat.ne_of_gt dlt) (Nat.ne_of_lt (Nat.lt_trans llt dlt)) its.size 0 0 { s with heap:=h2.push { cls:=.type "list_iterator",data:=.fields #[.ref l,.int 0 0] },toks:=tk2 } [] rfl (Nat.zero_le _) (Nat.le_refl _) hit (hL.push _) (hd2.push _) ?_ ?_
 ·intro j q hq
  obtain ⟨t,kv,a1,a2,a3⟩:=hp j q hq
  obtain ⟨o,e,r⟩:=a2
  exact ⟨t,kv,a1,⟨o,Heap.get?_push_of_some _ (k2 _ _ (k1 _ _ e)),r⟩,a3⟩
 ·intro h' tk hd' k'
  rw [List.drop_zero] at hd'
  refine ⟨rfl,h h' tk hd' fun b o q=>k' b o (Nat.ne_of_lt (Heap.lt_size q)) (Nat.ne_of_lt (Heap.lt_size (k2 _ _ (k1 _ _ q)))) (Heap.get?_push_of_some _ (k2 _ _ (k1 _ _ q)))⟩
end
def PairAt (H:Hp) (v:V) (p:Key × V):Prop:=∃ t,v = .ref t∧H t = some (.tup [kV p.1,p.2])
def rDictL (K:PySem.W.Frag):List V→Hp→VK→Prop:=fun vs H Q=>∃ l xs kvs,vs = [.ref l]∧H l = some (.lst xs)∧Paired (PairAt H) xs kvs∧xs.length ≤ 1000∧(kvs.map (·.1)).Nodup∧∀ d,H d = none→Q (.ref d) (upd H d (.dK kvs))
theorem jgx {X:Cx} {pins:List (Addr × Obj)} {σ:St} {H:Hp} {s:Shared} (I:Inv X pins σ H s):∀ {xs:List V} {kvs:List (Key × V)} {its:List Value},Paired (PairAt H) xs kvs→Vals xs its →
  ∃ more:List (Key × Value),KV kvs more∧∀ (j:Nat) (q:Key × Value),more[j]? = some q→∃ t kv,its[j]? = some (.ref t)∧s.heap.IsTuple t #[kv,q.2]∧(jbz X.prog X.w).is q.1 kv = true
 | _,_,_,.nil,.nil=>⟨[],.nil,fun j q h=>by simp at h⟩
 | _,_,_,.cons hp tp,.cons rv tr=>by
  obtain ⟨more,hk,hm⟩:=jgx I tp tr
  obtain ⟨t,rfl,ht⟩:=hp
  cases rv
  obtain ⟨_,its',rt,hi⟩:=I.hok t _ ht
  obtain ⟨u1,u2,rfl,r1,r2⟩:=rt.two
  refine ⟨(_,u2) :: more,.cons ⟨rfl,r2⟩ hk,fun j q h=>?_⟩
  cases j with
  | zero =>
   simp at h
   subst h
   exact ⟨t,u1,rfl,hi,jjo r1⟩
  | succ j =>
   obtain ⟨t',kv,a1,a2,a3⟩:=hm j q (by simpa using h)
   exact ⟨t',kv,by simpa using a1,a2,a3⟩
theorem jmr {X:Cx} (hc:X.calm = true):jd9 X (.type "dict") (rDictL X.K):=by
 intro pins s σ H vs us Q I rv h
 obtain ⟨l,xs,kvs,rfl,hl,hp,hz,hn,q⟩:=h
 obtain ⟨u,rfl,ru⟩:=rv.one
 cases ru
 obtain ⟨z,its,n,r,hlen,e⟩:=I.lstM hl
 obtain ⟨more,hkv,hm⟩:=jgx I hp r
 have hlm:kvs.length = more.length:=Paired.length hkv
 have hlx:xs.length = kvs.length:=Paired.length hp
 refine jgn (knd:=jbz X.prog X.w) (more:=more) (I.ok.hd hc) e (by rw [List.size_toArray]; omega) (by rw [List.size_toArray]; omega) (fun j q hj=>?_) fun h' tk dd k=>?_
 ·obtain ⟨t,kv,a1,a2,a3⟩:=hm j q hj
  exact ⟨t,kv,by simpa using a1,a2,a3⟩
 ·refine ⟨.ref s.heap.objs.size,upd H s.heap.objs.size (.dK kvs),I.laid k (Nat.le_refl _) ?_,rfl,q _ I.fresh⟩
  rw [merged_nil_of_nodup more (by rw [← hkv.keys]; exact hn)] at dd
  exact jm1 (by have:=(by decide:1000 ≤ sizeLine); omega) (by have:=I.big; exact beq_false_of_ne (Nat.ne_of_gt this)) hkv dd
end L2
namespace L2
open PySem PySem.Spec PyProof.Rows
inductive Knd (H:Hp):V→String→Prop where
 | non:Knd H .non "NoneType"
 | bl {x:Bool}:Knd H (.bl x) "bool"
 | int {i:Int}:Knd H (.int i) "int"
 | str {x:Str}:Knd H (.str x) "str"
 | lst {a:Addr} {xs:List V} (e:H a = some (.lst xs)):Knd H (.ref a) "list"
 | tup {a:Addr} {xs:List V} (e:H a = some (.tup xs)):Knd H (.ref a) "tuple"
 | dK {a:Addr} {kvs:List (Key × V)} (e:H a = some (.dK kvs)):Knd H (.ref a) "dict"
theorem Knd.ty {K:PySem.W.Frag} {H:Hp} {v:V} {n:String} (h:Knd H v n):TyOf K H v (.type n):=by
 cases h with
 | non=>exact .non
 | bl=>exact .bl _
 | int=>exact .int _
 | str=>exact .str _
 | lst e=>exact .lst e
 | tup e=>exact .tup e
 | dK e=>exact .dK e
def isiK (a b:String):Bool:=a == b || (a == "bool" && b == "int")
def ji4:List String:=["NoneType","bool","int","str","list","tuple","dict"]
theorem jrt {K:PySem.W.Frag}:∀ a ∈ ji4,∀ b ∈ ji4,PySem.W.kitOne K (.type a) (.type b) = some (isiK a b):=by
 intro a ha b hb
 have ha':a = "NoneType" ∨ a = "bool" ∨ a = "int" ∨ a = "str" ∨ a = "list" ∨ a = "tuple" ∨ a = "dict":=by simpa [ji4] using ha
 have hb':b = "NoneType" ∨ b = "bool" ∨ b = "int" ∨ b = "str" ∨ b = "list" ∨ b = "tuple" ∨ b = "dict":=by simpa [ji4] using hb
 rcases ha' with rfl | rfl | rfl | rfl | rfl | rfl | rfl <;> rcases hb' with rfl | rfl | rfl | rfl | rfl | rfl | rfl <;> rfl
def rIsi:List V→Hp→VK→Prop:=fun vs H Q=>∃ x n T,vs = [x,.ty T]∧Knd H x n∧T ∈ ji4∧Q (.bl (isiK n T)) H
theorem Knd.mem {H:Hp} {v:V} {n:String} (h:Knd H v n):n ∈ ji4:=by cases h <;> simp [ji4]
theorem jq5 {X:Cx}:jd9 X (.builtin "isinstance") rIsi:=by
 intro pins s σ H vs us Q I rv h
 obtain ⟨x,n,T,rfl,hk,hT,q⟩:=h
 obtain ⟨u1,u2,rfl,r1,r2⟩:=rv.two
 cases (show u2 = Value.type T from r2)
 exact jof I r1 hk.ty (jrt n hk.mem T hT) fun tk=>⟨.bl _,H,I.tok tk,rfl,q⟩
end L2
namespace L2
open PySem PySem.Spec PyProof.Rows
section
variable {X:Cx} {e a b c o i:Expr} {es:List Expr} {t t' ta tb tc td te:TE} {pos p p2:Pos}
theorem PE.imp (h:PE X e t) (hi:∀ σ H Q,t' σ H Q→t σ H Q):PE X e t':=fun pins s σ H Q I q=>h pins s σ H Q I (hi σ H Q q)
theorem PG.imp {t t':TG} (h:PG X e t) (hi:∀ v σ H Q,t' v σ H Q→t v σ H Q):PG X e t':=fun pins s σ H v u Q I r q=>h pins s σ H v u Q I r (hi v σ H Q q)
theorem PGs.imp {t t':TGs} (h:PGs X es t) (hi:∀ v σ H Q,t' v σ H Q→t v σ H Q):PGs X es t':=fun pins s σ H v u Q I r q=>h pins s σ H v u Q I r (hi v σ H Q q)
theorem OpR.imp {f:Value→Value→Sem Value} {r r':R2} (h:OpR X f r) (hi:∀ x y H Q,r' x y H Q→r x y H Q):OpR X f r':=fun pins s σ H x y v u Q I rx ry q=>h pins s σ H x y v u Q I rx ry (hi x y H Q q)
theorem jd9.imp {f:Value} {r r':List V→Hp→VK→Prop} (h:jd9 X f r) (hi:∀ vs H Q,r' vs H Q→r vs H Q):jd9 X f r':=fun pins s σ H xs us Q I rv q=>h pins s σ H xs us Q I rv (hi xs H Q q)
theorem IxR.imp {r r':R2} (h:IxR X r) (hi:∀ x y H Q,r' x y H Q→r x y H Q):IxR X r':=fun value slice pins s σ H x y v u Q I rx ry q hs=>h value slice pins s σ H x y v u Q I rx ry (hi x y H Q q) hs
theorem MtR.imp {id:String} {r r':V→List V→Hp→VK→Prop} (h:MtR X id r) (hi:∀ x vs H Q,r' x vs H Q→r x vs H Q):MtR X id r':=fun pins s σ H x xs v us Q I rx rv q=>h pins s σ H x xs v us Q I rx rv (hi x xs H Q q)
theorem PSet.imp {t t':TSet} (h:PSet X t) (hi:∀ o i v H Q,t' o i v H Q→t o i v H Q):PSet X t':=fun pins s σ H o i v ov iv u Q I r1 r2 r3 q=>h pins s σ H o i v ov iv u Q I r1 r2 r3 (hi o i v H Q q)
theorem SlR.imp {r r':V→Option Int→Option Int→Hp→VK→Prop} (h:SlR X r) (hi:∀ x l u H Q,r' x l u H Q→r x l u H Q):SlR X r':=fun pins s σ H x v vl vu lo hi' sl Q I rx hs pl pu q=>h pins s σ H x v vl vu lo hi' sl Q I rx hs pl pu (hi x lo hi' H Q q)
def fVar (i:Nat):TE:=fun σ H Q=>match σ[i]? with
 | some (some v)=>Q v H
 | _=>False
theorem qv (i:Nat) {x:Str} {pos:Pos} (hN:X.N[i]? = some x:=by rfl) (hv:Vis X.env.scope x:=by first | exact Or.inl rfl | exact Or.inr (Or.inl rfl) | exact Or.inr (Or.inr rfl)) (hd:(x == ("__debug__":Str)) = false:=by decide)
  (hcd:(x == ("__classdict__":Str)) = false:=by decide):PE X (.Name x pos) (fVar i):=(pe_var hN hv hd hcd).imp fun σ H Q q=>by
 unfold fVar at q
 split at q
 ·rename_i v e; exact ⟨v,e,q⟩
 ·exact q.elim
def fI (g:Int→Int→V):R2:=fun x y H Q=>match x,y with
 | .int i,.int j=>Q (g i j) H
 | _,_=>False
def fIC (C:Int→Int→Prop) (g:Int→Int→V):R2:=fun x y H Q=>match x,y with
 | .int i,.int j=>C i j∧Q (g i j) H
 | _,_=>False
theorem fI.r {g:Int→Int→V} {x y:V} {H:Hp} {Q:VK} (h:fI g x y H Q):rI0 g x y H Q:=by
 unfold fI at h
 split at h
 ·exact ⟨_,_,rfl,rfl,h⟩
 ·exact h.elim
theorem fIC.r {C:Int→Int→Prop} {g:Int→Int→V} {x y:V} {H:Hp} {Q:VK} (h:fIC C g x y H Q):rI C g x y H Q:=by
 unfold fIC at h
 split at h
 ·exact ⟨_,_,rfl,rfl,h.1,h.2⟩
 ·exact h.elim
theorem jdy:OpR X (binaryOp .Add) (fI fun i j=>.int (i + j)):=op_add.imp fun _ _ _ _=>fI.r
theorem q_sub:OpR X (binaryOp .Sub) (fI fun i j=>.int (i - j)):=op_sub.imp fun _ _ _ _=>fI.r
theorem jk9:OpR X (binaryOp .Mult) (fIC CMul fun i j=>.int (i * j)):=op_mul.imp fun _ _ _ _=>fIC.r
theorem jhr:OpR X (binaryOp .Mod) (fIC (fun _ j=>0 < j) fun i j=>.int (i % j)):=op_mod.imp fun _ _ _ _=>fIC.r
theorem jnn:OpR X (binaryOp .FloorDiv) (fIC CDiv fun i j=>.int (i / j)):=jrk.imp fun _ _ _ _=>fIC.r
theorem jra:OpR X (binaryOp .Pow) (fIC CPow fun i j=>.int (i ^ j.toNat)):=op_pow.imp fun _ _ _ _=>fIC.r
theorem q_lt:OpR X (compareOp .Lt) (fI fun i j=>.bl (decide (i < j))):=op_lt.imp fun _ _ _ _=>fI.r
theorem q_le:OpR X (compareOp .LtE) (fI fun i j=>.bl (decide (i ≤ j))):=op_le.imp fun _ _ _ _=>fI.r
theorem q_gt:OpR X (compareOp .Gt) (fI fun i j=>.bl (decide (i > j))):=op_gt.imp fun _ _ _ _=>fI.r
theorem q_ge:OpR X (compareOp .GtE) (fI fun i j=>.bl (decide (i ≥ j))):=op_ge.imp fun _ _ _ _=>fI.r
theorem jlj:PIp X .Add (fI fun i j=>.int (i + j)):=fun pins s σ H x y v u Q I rx ry q=>jry pins s σ H x y v u Q I rx ry q.r
def fNeg:V→Hp→VK→Prop:=fun x H Q=>match x with
 | .int i=>Q (.int (-i)) H
 | _=>False
theorem jpd:UnR X (unaryOp .USub) fNeg:=fun pins s σ H x v Q I rx q=>by
 cases x <;> first
  | exact False.elim q
  | exact un_neg pins s σ H _ v Q I rx ⟨_,rfl,q⟩
def fEq:R2:=fun x y H Q=>match x,y with
 | .int i,.int j=>Q (.bl (decide (i = j))) H
 | .bl i,.bl j=>Q (.bl (decide (i = j))) H
 | .str i,.str j=>Q (.bl (decide (i = j))) H
 | _,_=>False
def fNe:R2:=fun x y H Q=>match x,y with
 | .int i,.int j=>Q (.bl (!decide (i = j))) H
 | .bl i,.bl j=>Q (.bl (!decide (i = j))) H
 | .str i,.str j=>Q (.bl (!decide (i = j))) H
 | _,_=>False
theorem dI (i j:Int):decide (V.int i = V.int j) = decide (i = j):=by simp
theorem dB (i j:Bool):decide (V.bl i = V.bl j) = decide (i = j):=by simp
theorem dS (i j:Str):decide (V.str i = V.str j) = decide (i = j):=by simp
theorem q_eq:OpR X (compareOp .Eq) fEq:=op_eq.imp fun x y H Q h=>by
 unfold fEq at h
 split at h
 ·exact ⟨rfl,by rw [dI]; exact h⟩
 ·exact ⟨rfl,by rw [dB]; exact h⟩
 ·exact ⟨rfl,by rw [dS]; exact h⟩
 ·exact h.elim
theorem q_ne:OpR X (compareOp .NotEq) fNe:=op_ne.imp fun x y H Q h=>by
 unfold fNe at h
 split at h
 ·exact ⟨rfl,by rw [dI]; exact h⟩
 ·exact ⟨rfl,by rw [dB]; exact h⟩
 ·exact ⟨rfl,by rw [dS]; exact h⟩
 ·exact h.elim
def jao:V→Bool
 | .non=>true
 | _=>false
def fIsN (f:Bool→Bool):R2:=fun x y H Q=>match y with
 | .non=>Q (.bl (f (jao x))) H
 | _=>False
theorem dN (x:V):decide (x = V.non) = jao x:=by cases x <;> simp [jao]
theorem q_isN:OpR X (compareOp .Is) (fIsN id):=op_isN.imp fun x y H Q h=>by
 unfold fIsN at h
 split at h
 ·exact ⟨rfl,by rw [dN]; exact h⟩
 ·exact h.elim
theorem jql:OpR X (compareOp .IsNot) (fIsN not):=jrj.imp fun x y H Q h=>by
 unfold fIsN at h
 split at h
 ·exact ⟨rfl,by rw [dN]; exact h⟩
 ·exact h.elim
def fAnd (ta tb:TE):TE:=fun σ H Q=>ta σ H fun x H1=>match x with
 | .bl c=>if c = true then tb σ H1 Q else Q (.bl false) H1
 | _=>False
def fOr (ta tb:TE):TE:=fun σ H Q=>ta σ H fun x H1=>match x with
 | .bl c=>if c = true then Q (.bl true) H1 else tb σ H1 Q
 | _=>False
def fNot (ta:TE):TE:=fun σ H Q=>ta σ H fun x H1=>match x with
 | .bl c=>Q (.bl (!c)) H1
 | _=>False
def fB (t:TE):TT:=fun σ H Q=>t σ H fun x H1=>match x with
 | .bl c=>Q c H1
 | _=>False
variable {rest:List Expr}
theorem jfq (ha:PE X a ta) (hb:PE X (.BoolOp .And (b :: rest) pos) tb):PE X (.BoolOp .And (a :: b :: rest) pos) (fAnd ta tb):=by
  intro pins s σ H Q I h
  refine BoolOp_and (thn (ha pins s σ H _ I h) fun v s1 ⟨x,H1,I1,r1,q1⟩=>?_)
  cases x <;> first
    | exact False.elim q1
    | (rename_i c
       cases r1
       refine wpAny_truthy_bool ?_
       cases c with
       | true=>exact hb pins s1 σ H1 Q I1 q1
       | false=>exact ⟨.bl false,H1,I1,rfl,q1⟩)
theorem q_not (ha:PE X a ta):PE X (.UnaryOp .Not a pos) (fNot ta):=by
  intro pins s σ H Q I h
  refine UnaryOp_ (thn (ha pins s σ H _ I h) fun v s1 ⟨x,H1,I1,r1,q1⟩=>?_)
  cases x <;> first
    | exact False.elim q1
    | (rename_i c
       cases r1
       exact not_of (wpAny_truthy_bool ⟨.bl (!c),H1,I1,rfl,q1⟩))
theorem jew {t:TE} (h:PE X e t) (he:∀ whole,isTrue e X.env whole = (do let v ← whole; standAt e.pos; holding [v] (truthy v)):=by intro _; rfl):PT X e (fB t):=by
  intro pins s σ H Q I hw
  refine isTrue_plain (thn (h pins s σ H _ I hw) fun v s1 ⟨x,H1,I1,r1,q1⟩=>?_) (he _)
  cases x <;> first
    | exact False.elim q1
    | (cases r1
       exact wpAny_truthy_bool ⟨H1,I1,q1⟩)
theorem jbw {op:CmpOp} {r:R2} (ho:OpR X (compareOp op) r) (ha:PE X a ta) (hb:PE X b tb) (hm:behindInMarks op b = false):PT X (.Compare a [op] [b] pos) (fB (tOp r ta tb)):=by
  intro pins s σ H Q I h
  refine wpAny_isTrue_Compare1 (thn (ha pins s σ H _ I h) fun v s1 ⟨x,H1,I1,r1,q1⟩=>thn (hb pins s1 σ H1 _ I1 q1) fun u s2 ⟨y,H2,I2,r2,q2⟩ =>
    thn (ho pins s2 σ H2 x y v u _ I2 r1 r2 q2) fun c s3 ⟨z,H3,I3,r3,q3⟩=>?_) hm
  cases z <;> first
    | exact False.elim q3
    | (cases r3
       exact wpAny_truthy_bool ⟨H3,I3,q3⟩)
theorem jfo {op:CmpOp} {t:TE} (h:PC X op a b t) (h1:behindInMarks op b = false:=by first | exact jls _ (by decide) (by decide) | rfl):PT X (.Compare a [op] [b] pos) (fB t):=by
  intro pins s σ H Q I hw
  refine wpAny_isTrue_Compare1 (thn (h pins s σ H _ I hw) fun v s1 h1=>thn h1 fun u s2 h2=>thn h2 fun c s3 ⟨x,H1,I1,r1,q1⟩=>?_) h1
  cases x <;> first
    | exact False.elim q1
    | (cases r1
       exact wpAny_truthy_bool ⟨H1,I1,q1⟩)
def jab (r r':R2) (ta tb tc:TE):TE:=fun σ H Q=>ta σ H fun x H1=>tb σ H1 fun y H2=>r x y H2 fun z H3=>match z with
 | .bl k=>(if k = true then tc σ H3 fun w' H4=>r' y w' H4 Q else Q (.bl false) H3)
 | _=>False
theorem jno {op op':CmpOp} {g:Int→Int→Bool} {r':R2} (ho:OpR X (compareOp op) (fI fun i j=>.bl (g i j))) (ho':OpR X (compareOp op') r') (ha:PE X a ta) (hb:PE X b tb) (hc:PE X c tc)
  (hm:lastMarks [op,op'] [b,c] = false:=by with_unfolding_all rfl):PE X (.Compare a [op,op'] [b,c] pos) (jab (fI fun i j=>.bl (g i j)) r' ta tb tc):=by
 intro pins s σ H Q I h
 refine Compare_chain (thn (ha pins s σ H _ I h) fun v s1 ⟨x,H1,I1,r1,q1⟩=>chain_link (thn (hb pins s1 σ H1 _ I1 q1) fun u s2 ⟨y,H2,I2,r2,q2⟩ =>
  thn (ho pins s2 σ H2 x y v u (fun z H3=>∃ k,z = .bl k∧(if k = true then tc σ H3 fun w' H4=>r' y w' H4 Q else Q (.bl false) H3)) I2 r1 r2 ?_) fun d s3 ⟨z,H3,I3,r3,k,e,q3⟩=>?_)) hm
 ·dsimp only at q2
  unfold fI at q2 ⊢
  cases x <;> cases y <;> first
   | exact q2.elim
   | exact ⟨_,rfl,q2⟩
 ·subst e
  cases r3
  refine wpAny_truthy_bool ?_
  cases k with
  | false=>exact ite_ff ⟨.bl false,H3,I3,rfl,q3⟩
  | true=>exact ite_tt (chain_last (thn (hc pins s3 σ H3 _ I3 q3) fun w' s4 ⟨z',H4,I4,r4,q4⟩=>ho' pins s4 σ H4 y z' u w' Q I4 r2 r4 q4))
def jbl (H:Hp) (p:Addr):Option (List V):=match H p with
 | some (.lst xs)=>some xs
 | some (.tup xs)=>some xs
 | some (.frz _ (.lst xs))=>some xs
 | _=>none
theorem jf9 {K:PySem.W.Frag} {H:Hp} {p:Addr} {xs:List V} (h:jbl H p = some xs):SqL K H p xs ∨ SqT K H p xs:=by
 unfold jbl at h
 split at h
 ·rename_i ys e; cases h; exact .inl (.inl (.inl e))
 ·rename_i ys e; cases h; exact .inr (SqT.of e)
 ·rename_i o ys e; cases h; exact .inl (.inl (.inr ⟨_,e⟩))
 ·cases h
def fIx:R2:=fun x y H Q=>match x,y with
 | .ref p,.int i=>match jbl H p with
  | some xs=>match atI xs i with
   | some v=>Q v H
   | none=>False
  | none=>False
 | _,_=>False
theorem q_ix:IxR X fIx:=(joc.or ix_tup).imp fun x y H Q h=>by
 unfold fIx at h
 split at h
 ·split at h
  ·rename_i xs e
   split at h
   ·rename_i v ev
    rcases jf9 (K:=X.K) e with z | z
    ·exact .inl ⟨_,_,_,_,rfl,rfl,z,ev,h⟩
    ·exact .inr ⟨_,_,_,_,rfl,rfl,z,ev,h⟩
   ·exact h.elim
  ·exact h.elim
 ·exact h.elim
def fLen:List V→Hp→VK→Prop:=fun vs H Q=>match vs with
 | [.ref p]=>match jbl H p with
  | some xs=>Q (.int xs.length) H
  | none=>False
 | _=>False
theorem jfp:jd9 X (.builtin "len") fLen:=jdn.imp fun vs H Q h=>by
 unfold fLen at h
 split at h
 ·split at h
  ·rename_i xs e; exact ⟨_,xs,rfl,jf9 e,h⟩
  ·exact h.elim
 ·exact h.elim
def ja2:List V→Hp→VK→Prop:=fun vs H Q=>match vs with
 | [.ref p]=>match jbl H p with
  | some xs=>∀ l,H l = none→Q (.ref l) (upd H l (.lst xs))
  | none=>False
 | _=>False
theorem jli:jd9 X (.type "list") ja2:=jjv.imp fun vs H Q h=>by
 unfold ja2 at h
 split at h
 ·split at h
  ·rename_i xs e; exact ⟨_,xs,rfl,jf9 e,h⟩
  ·exact h.elim
 ·exact h.elim
def fMin:List V→Hp→VK→Prop:=fun vs H Q=>match vs with
 | [.int i,.int j]=>Q (.int (if j < i then j else i)) H
 | _=>False
theorem q_min (hc:X.calm = true):jd9 X (.builtin "min") fMin:=(jov hc).imp fun vs H Q h=>by
 unfold fMin at h
 split at h
 ·exact ⟨_,_,rfl,h⟩
 ·exact h.elim
def fSlL:V→Option Int→Option Int→Hp→VK→Prop:=fun x lo hi H Q=>match x with
 | .ref a=>match H a with
  | some (.lst xs)=>∀ p,H p = none→Q (.ref p) (upd H p (.lst (cutV xs lo hi)))
  | _=>False
 | _=>False
theorem q_slL:SlR X fSlL:=jr5.imp fun x l u H Q h=>by
 unfold fSlL at h
 split at h
 ·split at h
  ·rename_i xs e; exact ⟨_,xs,rfl,SqL.of e,h⟩
  ·exact h.elim
 ·exact h.elim
def ja3:V→List V→Hp→VK→Prop:=fun x vs H Q=>match x,vs with
 | .ref l,[y]=>match H l with
  | some (.lst xs)=>xs.length < sizeLine∧Q .non (upd H l (.lst (xs ++ [y])))
  | _=>False
 | _,_=>False
theorem jc5:MtR X "list.append" ja3:=MtR.imp (r:=jnl) (fun pins s σ H x xs v us Q I rx rv q=>jji pins s σ H x xs v us Q I rx rv q) fun x vs H Q h=>by
 unfold ja3 at h
 split at h
 ·split at h
  ·rename_i xs e; exact ⟨_,xs,_,rfl,rfl,e,h.1,h.2⟩
  ·exact h.elim
 ·exact h.elim
def fBM (r:V→List V→Hp→VK→Prop) (to:TE) (t:TA):TE:=fun σ H Q=>to σ H fun x H1=>(∃ a xs,x = .ref a∧H1 a = some (.lst xs))∧t σ H1 fun xs H2=>r x xs H2 Q
def jar:TSet:=fun o i v H Q=>match o,i with
 | .ref p,.int k=>match H p with
  | some (.lst xs)=>match ixN xs.length k with
   | some j=>Q (upd H p (.lst (xs.set j v)))
   | none=>False
  | _=>False
 | _,_=>False
theorem jgu:PSet X jar:=jp7.imp fun o i v H Q h=>by
 unfold jar at h
 split at h
 ·split at h
  ·rename_i xs e
   split at h
   ·rename_i j ej; exact ⟨_,xs,_,j,rfl,rfl,e,ej,h⟩
   ·exact h.elim
  ·exact h.elim
 ·exact h.elim
def jau:TGs:=fun vs σ H Q=>match vs with
 | []=>Q σ H
 | _=>False
def ja7 (t:TG) (u:TGs):TGs:=fun vs σ H Q=>match vs with
 | v :: r=>t v σ H fun σ' H'=>u r σ' H' Q
 | []=>False
theorem jcc:PGs X [] jau:=jrf.imp fun v σ H Q h=>by
 unfold jau at h
 split at h
 ·exact ⟨rfl,h⟩
 ·exact h.elim
theorem jbf {t:TG} {u:TGs} (h1:PG X e t) (h2:PGs X es u) (hs:(assignEach (e :: es) X.env).map (·.2) = assign e X.env :: (assignEach es X.env).map (·.2):=by rfl):PGs X (e :: es) (ja7 t u):=(jph h1 h2 hs).imp fun v σ H Q h=>by
 unfold ja7 at h
 split at h
 ·exact ⟨_,_,rfl,h⟩
 ·exact h.elim
def jat (n:Nat) (t:TGs):TG:=fun v σ H Q=>match v with
 | .ref a=>match H a with
  | some (.tup xs)=>xs.length = n∧t xs σ H Q
  | _=>False
 | _=>False
theorem jcr {k:Nat} {t:TGs} {n:Nat} (hc:X.calm = true) (h:PGs X es t) (hn:(assignEach es X.env).length = n:=by rfl) (hst:(assignEach es X.env).findIdx? (·.1) = none:=by rfl):PG X (.Tuple es k pos) (jat n t) :=
 (pg_tup hc h hn hst).imp fun v σ H Q q=>by
  unfold jat at q
  split at q
  ·split at q
   ·rename_i xs e; exact ⟨_,xs,rfl,SqT.of e,q.1,q.2⟩
   ·exact q.elim
  ·exact q.elim
def fDIn (f:Bool→Bool) (ty td:TE):TE:=fun σ H Q=>ty σ H fun y H1=>td σ H1 fun x H2=>match y,x with
 | .int n,.ref a=>match H2 a with
  | some (.dK kvs)=>Q (.bl (f (valV kvs (Sum.inl n:Key)).isSome)) H2
  | _=>False
 | _,_=>False
def jb1 (td ty:TE):TE:=fun σ H Q=>td σ H fun x H1=>ty σ H1 fun y H2=>match x,y with
 | .ref a,.int n=>match H2 a with
  | some (.dK kvs)=>match valV kvs (Sum.inl n:Key) with
   | some v=>Q v H2
   | none=>False
  | _=>False
 | _,_=>False
end
section
variable {X:Cx} {o i:Expr} {td ty:TE} {pos:Pos}
theorem jqr {f:Bool→Bool} {H2:Hp} {Q:VK} {y x:V} (h:(match y,x with
  | .int n,.ref a=>match H2 a with
    | some (.dK kvs)=>Q (.bl (f (valV kvs (Sum.inl n:Key)).isSome)) H2
    | _=>False
  | _,_=>False)):∃ a ov,x = .ref a∧DGet H2 a y ov∧Q (.bl (f ov.isSome)) H2:=by
  cases y <;> cases x <;> first
    | exact h.elim
    | (rename_i n a
       dsimp only at h
       split at h
       · rename_i kvs e; exact ⟨a,_,rfl,DGet.k (k:=Sum.inl n) e,h⟩
       · exact h.elim)
theorem jj4 (hu:X.A.units + 1 < cLine) (hi:PE X i ty) (ho:PE X o td):PC X .In i o (fDIn id ty td):=by
 intro pins s σ H Q I h
 refine thn (hi pins s σ H _ I h) fun iv s1 ⟨y,H1,I1,ry,q1⟩=>thn (ho pins s1 σ H1 _ I1 q1) fun u s2 ⟨x,H2,I2,rx,q2⟩=>?_
 obtain ⟨a,ov,ex,g,q3⟩:=jqr q2
 subst ex
 obtain rfl:u = Value.ref a:=rx
 exact d_in hu I2 g ry fun s' I3=>⟨.bl ov.isSome,H2,I3,rfl,q3⟩
theorem jde (hu:X.A.units + 1 < cLine) (hi:PE X i ty) (ho:PE X o td):PC X .NotIn i o (fDIn not ty td):=by
 intro pins s σ H Q I h
 refine thn (hi pins s σ H _ I h) fun iv s1 ⟨y,H1,I1,ry,q1⟩=>thn (ho pins s1 σ H1 _ I1 q1) fun u s2 ⟨x,H2,I2,rx,q2⟩=>?_
 obtain ⟨a,ov,ex,g,q3⟩:=jqr q2
 subst ex
 obtain rfl:u = Value.ref a:=rx
 exact js6 hu I2 g ry fun s' I3=>⟨.bl (!ov.isSome),H2,I3,rfl,q3⟩
theorem jd4 (hu:X.A.units + 1 < cLine) (ho:PE X o td) (hi:PE X i ty) (hs:NoSl i):PE X (.Subscript o i pos) (jb1 td ty):=by
  intro pins s σ H Q I h
  refine jn1 PySem.F.slot_dict_getitem.lookup hs (thn (ho pins s σ H _ I h) fun u s1 ⟨x,H1,I1,rx,q1⟩=>thn (hi pins s1 σ H1 _ I1 q1) fun iv s2 ⟨y,H2,I2,ry,q2⟩=>?_)
  cases x <;> cases y <;> first
    | exact False.elim q2
    | (dsimp only at q2
       split at q2
       · rename_i kvs e
         split at q2
         · rename_i v ev
           cases rx
           have g:∀ {a:Addr} {n:Int},H2 a = some (.dK kvs)→valV kvs (Sum.inl n:Key) = some v→DGet H2 a (.int n) (some v):=fun e1 e2=>e2 ▸ DGet.k (k:=Sum.inl _) e1
           have g:=g e ev
           exact ⟨jgd I2 g,jjs hu I2 g ry fun w' s3 I3 rw'=>⟨v,H2,I3,rw',q2⟩⟩
         · exact q2.elim
       · exact q2.elim)
theorem q_bm {e:Expr} {es:List Expr} {to:TE} {t:TA} {name:Str} {apos cpos:Pos} {id:String} {r:V→List V→Hp→VK→Prop} (pa:PlainAttrs "list") (slot:Slot "list" name id) (hty:typeOf (.builtin id) = pure (.type "method_descriptor")) (hm:MtR X id r) (ho:PE X o to) (ha:PA X (e :: es) t)
  (hbase:attributeBase o name X.env (eval o X.env) = eval o X.env:=by rfl)
  (hfew:((backTo cpos (starEach (e :: es) X.env)).all (fun x=>!x.1) && (backToKw cpos (keywordEach [] X.env)).all (fun x=>x.1.isSome)
   && decide ((e :: es).length + ([]:List Keyword).length + (if ([]:List Keyword).isEmpty then 0 else 1) < 30)) = true:=by rfl)
  (hline:(apos.endLine == cpos.line) = true:=by rfl) (hs:starEach (e :: es) X.env = (false,eval e X.env) :: starEach es X.env:=by rfl) (hplain:(backTo cpos (starEach es X.env)).any (·.1) = false:=by rfl) :
  PE X (.Call (.Attribute o name apos) (e :: es) [] cpos) (fBM r to t):=by
 intro pins s σ H Q I h
 refine wpAny_Call_method_late hbase hfew hline rfl (thn (ho pins s σ H _ I h) fun v s1 ⟨x,H1,I1,r1,⟨a,xs,ex,ea⟩,q1⟩=>?_)
 subst ex
 obtain ⟨h1,h2⟩:=jq8 (T:="list") I1 r1 (.inl ⟨rfl,_,SqL.of ea⟩)
 refine ⟨"list",id,pa,slot,hty,h1,h2,?_⟩
 have hA:=ha cpos pins s1 σ H1 _ I1 q1
 rw [hs] at hA ⊢
 refine Calls.callWith_builtin (by show (false || (backTo cpos (starEach es X.env)).any (·.1)) = false; rw [hplain] <;> rfl) (Calls.evalArgs_plain ?_)
 exact thn hA fun us s2 ⟨vs,H2,I2,r2,q2⟩=>hm pins s2 σ H2 _ vs v us Q I2 r1 r2 q2
end
inductive Kd where
 | non | bl | int | str | lst | tup | dct
 deriving DecidableEq
def Kd.nm:Kd→String
 | .non=>"NoneType"
 | .bl=>"bool"
 | .int=>"int"
 | .str=>"str"
 | .lst=>"list"
 | .tup=>"tuple"
 | .dct=>"dict"
def kd (H:Hp) (v:V):Option Kd:=match v with
 | .non=>some .non
 | .bl _=>some .bl
 | .int _=>some .int
 | .str _=>some .str
 | .ref a=>match H a with
  | some (.lst _)=>some .lst
  | some (.tup _)=>some .tup
  | some (.dK _)=>some .dct
  | _=>none
 | _=>none
def isi (a b:Kd):Bool:=match a,b with
 | .bl,.int=>true
 | .non,.non=>true
 | .bl,.bl=>true
 | .int,.int=>true
 | .str,.str=>true
 | .lst,.lst=>true
 | .tup,.tup=>true
 | .dct,.dct=>true
 | _,_=>false
theorem kd_knd {H:Hp} {v:V} {k:Kd} (h:kd H v = some k):Knd H v k.nm:=by
 unfold kd at h
 split at h
 ·cases h; exact .non
 ·cases h; exact .bl
 ·cases h; exact .int
 ·cases h; exact .str
 ·split at h
  ·rename_i e; cases h; exact .lst e
  ·rename_i e; cases h; exact .tup e
  ·rename_i e; cases h; exact .dK e
  ·cases h
 ·cases h
theorem isi_K (a b:Kd):isiK a.nm b.nm = isi a b:=by cases a <;> cases b <;> rfl
theorem Kd.mem (b:Kd):b.nm ∈ ji4:=by cases b <;> simp [ji4,Kd.nm]
def fIsi (T:Kd):List V→Hp→VK→Prop:=fun vs H Q=>match vs with
 | [x,y]=>y = .ty T.nm∧match kd H x with
  | some k=>Q (.bl (isi k T)) H
  | none=>False
 | _=>False
theorem jpe {X:Cx} (T:Kd):jd9 X (.builtin "isinstance") (fIsi T):=jq5.imp fun vs H Q h=>by
 unfold fIsi at h
 split at h
 ·obtain ⟨rfl,h⟩:=h
  split at h
  ·rename_i k e
   exact ⟨_,_,_,rfl,kd_knd e,Kd.mem T,by rw [isi_K]; exact h⟩
  ·exact h.elim
 ·exact h.elim
def fAug (i:Nat) (te:TE) (ti:TIp):TS:=fun D σ H=>match σ[i]? with
 | some (some x)=>te σ H fun y H1=>ti x y H1 fun z H2=>D.nx (σ.set i (some z)) H2
 | _=>False
theorem jlh {X:Cx} {pos:Pos} {i:Nat} {x:Str} {e:Expr} {te:TE} {op:Operator} {ti:TIp} {pos':Pos} (hN:X.N.Nodup) (hi:X.N[i]? = some x) (hx:Loc X.env.scope x) (he:PE X e te) (ho:PIp X op ti) (hf:X.fn x = true ∨ X.env.scope.names.lookup x = some .local:=by first | exact .inl rfl | exact .inr rfl | assumption) :
  PS X (.AugAssign (.Name x pos') op e pos) (fAug i te ti):=fun pins s σ H D I h=>ps_aug hN hi hx he ho hf pins s σ H D I (by
 unfold fAug at h
 split at h
 ·rename_i x e; exact ⟨x,e,h⟩
 ·exact h.elim)
def jaz (t:TE):TO:=fun σ H Q=>t σ H fun x H1=>match x with
 | .int i=>Q (some i) H1
 | _=>False
theorem jr8 {X:Cx} {e:Expr} {te:TE} (h:PE X e te):PO X (some e) (jaz te):=by
  intro pins s σ H Q I hw
  rw [evalPart_some]
  refine thn (h pins s σ H _ I hw) fun u s1 ⟨x,H1,I1,r1,q1⟩=>?_
  cases x <;> first
    | exact False.elim q1
    | (obtain ⟨t,rfl⟩:=r1
       exact ⟨some _,H1,I1,.int _ t,q1⟩)
def jag (f:List Bool→Bool):List V→Hp→VK→Prop:=fun vs H Q=>match vs with
 | [.ref l]=>match H l with
  | some (.lst xs)=>∃ bs:List Bool,xs = bs.map V.bl∧Q (.bl (f bs)) H
  | _=>False
 | _=>False
def ja8:List V→Hp→VK→Prop:=fun vs H Q=>match vs with
 | [.ref l]=>match H l with
  | some (.lst xs)=>∃ kvs:List (Key × V),Paired (PairAt H) xs kvs∧xs.length ≤ 1000∧(kvs.map (·.1)).Nodup∧∀ d,H d = none→Q (.ref d) (upd H d (.dK kvs))
  | _=>False
 | _=>False
theorem jhs {X:Cx} (hc:X.calm = true):jd9 X (.type "dict") ja8:=(jmr hc).imp fun vs H Q h=>by
 unfold ja8 at h
 split at h
 ·split at h
  ·rename_i xs e
   obtain ⟨kvs,h1,h2,h3,h4⟩:=h
   exact ⟨_,xs,kvs,rfl,e,h1,h2,h3,h4⟩
  ·exact h.elim
 ·exact h.elim
def fLtT:R2:=fun x y H Q=>match x,y with
 | .ref a,.ref b=>match H a,H b with
  | some (.tup [.int i,.int j]),some (.tup [.int k,.int l])=>Q (.bl (HT.lexLt [i,j] [k,l])) H
  | _,_=>False
 | _,_=>False
theorem q_ltT {X:Cx} (hu:X.A.units < cLine):OpR X (compareOp .Lt) fLtT:=(op_ltT hu).imp fun x y H Q h=>by
 unfold fLtT at h
 split at h
 ·split at h
  ·rename_i a b _ _ i j k l e1 e2
   exact ⟨a,b,[i,j],[k,l],rfl,rfl,SqT.of e1,SqT.of e2,h⟩
  ·exact h.elim
 ·exact h.elim
def capB (XN:List Str) (names:List (Str × NameKind)):List Str→List (Option Nat)→Bool
 | [],[]=>true
 | x :: N,none :: r=>capB XN names N r
 | x :: N,some j :: r=>(XN[j]? == some x) && (names.lookup x == some .free) && capB XN names N r
 | _,_=>false
theorem jl1 {XN:List Str} {names:List (Str × NameKind)}:∀ {N:List Str} {src:List (Option Nat)},capB XN names N src = true→src.length = N.length∧∀ (i j:Nat),src[i]? = some (some j)→XN[j]? = N[i]?∧(N[i]?).elim False (fun x=>names.lookup x = some .free)
 | [],[],_=>⟨rfl,fun i j e=>by simp at e⟩
 | x :: N,none :: r,h=>by
  obtain ⟨h1,h2⟩:=jl1 (N:=N) (src:=r) h
  refine ⟨by simp [h1],fun i j e=>?_⟩
  cases i with
  | zero=>simp at e
  | succ i=>exact h2 i j (by simpa using e)
 | x :: N,some k :: r,h=>by
  have h':((XN[k]? == some x) && (names.lookup x == some .free) && capB XN names N r) = true:=h
  rw [Bool.and_eq_true,Bool.and_eq_true] at h'
  obtain ⟨h1,h2⟩:=jl1 (N:=N) (src:=r) h'.2
  refine ⟨by simp [h1],fun i j e=>?_⟩
  cases i with
  | zero =>
   have e':k = j:=by simpa using e
   subst e'
   exact ⟨by simpa using h'.1.1,by simpa using h'.1.2⟩
  | succ i=>exact h2 i j (by simpa using e)
def jlr:List Str→Bool
 | []=>true
 | x :: r=>!(r.contains x) && jlr r
theorem jbj:∀ {l:List Str},jlr l = true→l.Nodup
 | [],_=>List.nodup_nil
 | x :: r,h=>by
  have h':(!(r.contains x) && jlr r) = true:=h
  rw [Bool.and_eq_true] at h'
  exact List.nodup_cons.mpr ⟨by simpa using h'.1,jbj h'.2⟩
def cpB (XN:List Str) (outer:List (Str × NameKind)) (scope:Scope) (N:List Str) (src:List (Option Nat)):Bool :=
 (scope.kind == .function) && scope.names.all (fun y=>y.2 != .cell) && scope.names.all (fun y=>y.2 != .local || scope.names.lookup y.1 == some .local) &&
  scope.names.all (fun y=>y.2 != .free || (scope.names.lookup y.1 == some .free && outer.lookup y.1 == some .cell)) && jlr N && capB XN scope.names N src
theorem CpScope.of {X:Cx} {scope:Scope} {N:List Str} {src:List (Option Nat)} (h:cpB X.N X.env.scope.names scope N src = true):CpScope X scope N src:=by
 unfold cpB at h
 simp only [Bool.and_eq_true] at h
 obtain ⟨⟨⟨⟨⟨h1,h2⟩,h3⟩,h4⟩,h5⟩,h6⟩:=h
 rw [List.all_eq_true] at h2 h3 h4
 obtain ⟨l,c⟩:=jl1 h6
 refine ⟨by simpa using h1,fun y hy=>by simpa using h2 y hy,fun y hy e=>?_,fun y hy e=>?_,jbj h5,l,c⟩
 ·have:=h3 y hy
  rw [e] at this
  simpa using this
 ·have:=h4 y hy
  rw [e] at this
  simpa using this
end L2
namespace L2
open PySem PySem.Spec PyProof.Rows
theorem jlz {K:PySem.W.Frag} {a:Addr} {xs:List V} {g:TG} {tb:TS} {D:Ends} {σ:St} {H:Hp} (Pv:Nat→St→Hp→Prop) (h0:Pv 0 σ H) (hl:∀ i σ H,i ≤ xs.length→Pv i σ H→SqL K H a xs)
  (hs:∀ i x σ H t,xs[i]? = some x→Pv i σ H→H t = none→g (.ref t) σ (upd H t (.tup [.int i,x])) fun σ2 H2=>tb { D with nx:=Pv (i + 1),ct:=Pv (i + 1),bk:=D.nx } σ2 H2) (hd:∀ σ H,Pv xs.length σ H→D.nx σ H) :
  ∃ W:Nat→Nat→St→Hp→Prop,(∃ m,W 0 m σ H)∧∀ i m σ H,W i m σ H →
   ((Ite K a).stop i H∧D.nx σ H) ∨ ((Ite K a).go i H∧∃ N:St→Hp→Prop,(∀ σ' H',N σ' H'→∃ m',m' < m∧W (i + 1) m' σ' H')∧∀ x H',(Ite K a).yld i H x H'→g x σ H' fun σ2 H2=>tb { D with nx:=N,ct:=N,bk:=D.nx } σ2 H2):=by
 refine ⟨fun i m σ H=>m = xs.length - i∧i ≤ xs.length∧Pv i σ H,⟨xs.length,by simp,Nat.zero_le _,h0⟩,?_⟩
 rintro i m σ H ⟨rfl,hi,p⟩
 have q:=hl i σ H hi p
 by_cases hlt:i < xs.length
 ·refine .inr ⟨⟨xs,xs[i],q,by simp [hlt]⟩,Pv (i + 1),fun σ' H' p'=>⟨xs.length - (i + 1),by omega,rfl,hlt,p'⟩,fun x H' y=>?_⟩
  obtain ⟨t,z,ht,e1,e2,y⟩:=y
  subst e1 e2
  exact hs i z σ _ t (y xs q) p ht
 ·have e:i = xs.length:=by omega
  subst e
  exact .inl ⟨⟨xs,q,Nat.le_refl _⟩,hd σ H p⟩
theorem jbo {wi:TI} {g:TG} {tb:TS} {D:Ends} {σ:St} {H:Hp} (J:It) (H1:Hp) (h1:∀ R:It→Hp→Prop,R J H1→wi σ H R)
  (h2:∃ W:Nat→Nat→St→Hp→Prop,(∃ m,W 0 m σ H1)∧∀ i m σ H,W i m σ H→(J.stop i H∧D.nx σ H) ∨ (J.go i H∧∃ N:St→Hp→Prop,(∀ σ' H',N σ' H'→∃ m',m' < m∧W (i + 1) m' σ' H')∧∀ x H',J.yld i H x H'→g x σ H' fun σ2 H2=>tb { D with nx:=N,ct:=N,bk:=D.nx } σ2 H2)) :
  tFor wi g tb D σ H:=h1 _ h2
theorem jbr {src:List (Option Nat)} {wi:TI} {g:TG} {tc:TT} {te:TE} {Q:VK} {σ:St} {H:Hp} (J:It) (H1:Hp) (h1:∀ R:It→Hp→Prop,R J H1→wi σ H R) (h2:∀ l,H1 l = none→jp0 J src g tc te Q σ H1 l):jp4 src wi g tc te σ H Q:=h1 _ h2
theorem jai {H:Hp} {p:Addr} (h:H p = none) (o:HO):Same H (upd H p o):=fun b u q=>by rw [jaj (ja6 q h)]; exact q
theorem jbh {H H':Hp} {p:Addr} {o:HO} (s:Same H H') (h:H p = none):Same H (upd H' p o):=fun b u q=>by rw [jaj (ja6 q h)]; exact s b u q
def Pr (H:Hp) (v:V) (p:Int × Int):Prop:=∃ t,v = .ref t∧H t = some (.tup [.int p.1,.int p.2])
theorem Pr.same {H H':Hp} {v:V} {p:Int × Int} (h:Pr H v p) (s:Same H H'):Pr H' v p:=let ⟨t,e,q⟩:=h; ⟨t,e,s _ _ q⟩
def jrv:HO→Bool
 | .tup _=>true
 | .frz _ _=>true
 | _=>false
def TupS (H H':Hp):Prop:=∀ b o,jrv o = true→H b = some o→H' b = some o
theorem Same.tups {H H':Hp} (s:Same H H'):TupS H H':=fun b o _ q=>s b _ q
theorem TupS.trans {H H1 H2:Hp} (a:TupS H H1) (b:TupS H1 H2):TupS H H2:=fun c o i q=>b c o i (a c o i q)
theorem jd0 {H:Hp} {l:Addr} {xs ys:List V} (h:H l = some (.lst xs)):TupS H (upd H l (.lst ys)):=fun b o i q=>by
 have:b ≠ l:=fun z=>by rw [z,h] at q; cases q; cases i
 rw [jaj this]
 exact q
theorem jf7 {H:Hp} {l:Addr} {o:HO} (h:H l = none):TupS H (upd H l o):=(jai h o).tups
theorem Pr.tups {H H':Hp} {v:V} {p:Int × Int} (h:Pr H v p) (s:TupS H H'):Pr H' v p:=let ⟨t,e,q⟩:=h; ⟨t,e,s _ _ rfl q⟩
def Scr (K:PySem.W.Frag) (H:Hp) (a:Addr) (ns:List Int):Prop :=
 (∃ o,H a = some (.frz o (.lst (ns.map V.int)))) ∨ ∃ (o:Obj) (its:Array Value) (n:Nat),K.lookup a = some o∧o.cls = .type "list"∧o.dict = none∧o.data = .seq its n∧its.size ≤ sizeLine∧Vals (ns.map V.int) its.toList
theorem Scr.sq {K:PySem.W.Frag} {H:Hp} {a:Addr} {ns:List Int} (h:Scr K H a ns):SqL K H a (ns.map V.int):=h.elim (fun ⟨o,q⟩=>.inl (.inr ⟨o,q⟩)) .inr
theorem Scr.of {K:PySem.W.Frag} {H:Hp} {a:Addr} {ns:List Int} (h:SqL K H a (ns.map V.int)) (o:Only H):Scr K H a ns:=by
 rcases h with (h | ⟨ob,h⟩) | h
 ·rcases o a with z | ⟨ob,xs,z⟩
  ·rw [h] at z; cases z
  ·rw [h] at z; cases z
 ·exact .inl ⟨ob,h⟩
 ·exact .inr h
theorem Scr.tups {K:PySem.W.Frag} {H H':Hp} {a:Addr} {ns:List Int} (h:Scr K H a ns) (s:TupS H H'):Scr K H' a ns:=h.elim (fun ⟨o,q⟩=>.inl ⟨o,s _ _ rfl q⟩) .inr
abbrev Prs (H:Hp):List V→List (Int × Int)→Prop:=Paired (Pr H)
theorem Prs.tups {H H':Hp} (s:TupS H H') {xs:List V} {ps:List (Int × Int)} (h:Prs H xs ps):Prs H' xs ps:=Paired.mapP h fun _ _ q=>q.tups s
theorem Prs.same {H H':Hp} (s:Same H H') {xs:List V} {ps:List (Int × Int)} (h:Prs H xs ps):Prs H' xs ps:=Prs.tups s.tups h
theorem jbi {α β:Type} {F:α→β→Prop}:∀ {xs:List α} {ys:List β} {i:Nat} {x:α},Paired F xs ys→xs[i]? = some x→∃ y,ys[i]? = some y∧F x y
 | _,_,_,_,.nil,e=>by simp at e
 | _,_,0,_,.cons r _,e=>by simp at e; subst e; exact ⟨_,rfl,r⟩
 | _,_,i + 1,y,.cons _ t,e=>by
  obtain ⟨u,h1,h2⟩:=jbi (i:=i) t (by simpa using e)
  exact ⟨u,by simpa using h1,h2⟩
theorem jcj {α β:Type} {F:α→β→Prop}:∀ {xs:List α} {ys:List β} {i:Nat} {y:β},Paired F xs ys→ys[i]? = some y→∃ x,xs[i]? = some x∧F x y
 | _,_,_,_,.nil,e=>by simp at e
 | _,_,0,_,.cons r _,e=>by simp at e; subst e; exact ⟨_,rfl,r⟩
 | _,_,i + 1,y,.cons _ t,e=>by
  obtain ⟨u,h1,h2⟩:=jcj (i:=i) t (by simpa using e)
  exact ⟨u,by simpa using h1,h2⟩
theorem jc7 {α β:Type} {F:α→β→Prop} {a:α} {b:β} {l₁:List α} {l₂:List β} (h:Paired F l₁ l₂) (r:F a b):Paired F (l₁ ++ [a]) (l₂ ++ [b]):=Paired.snoc h r
theorem jm0 {α:Type} {l:List α} {i:Nat} {x:α} (h:l[i]? = some x):l.drop i = x :: l.drop (i + 1):=by
 obtain ⟨h1,h2⟩:=List.getElem?_eq_some_iff.mp h
 rw [List.drop_eq_getElem_cons h1,h2]
theorem jbn {α:Type} {l:List α} {i:Nat} {x:α} (h:l[i]? = some x):l.take (i + 1) = l.take i ++ [x]:=by
 obtain ⟨h1,h2⟩:=List.getElem?_eq_some_iff.mp h
 rw [List.take_succ,h]
 rfl
inductive Dt where
 | non
 | bl (b:Bool)
 | int (i:Int)
 | str (x:Str)
 | tup (ds:List Dt)
 | lst (ds:List Dt)
mutual
def Rep (H:Hp):Dt→V→Prop
 | .non,v=>v = .non
 | .bl b,v=>v = .bl b
 | .int i,v=>v = .int i
 | .str x,v=>v = .str x
 | .tup ds,v=>∃ a vs,v = .ref a∧H a = some (.tup vs)∧Reps H ds vs
 | .lst ds,v=>∃ a vs,v = .ref a∧H a = some (.lst vs)∧Reps H ds vs
def Reps (H:Hp):List Dt→List V→Prop
 | [],vs=>vs = []
 | d :: ds,vs=>∃ v r,vs = v :: r∧Rep H d v∧Reps H ds r
end
mutual
theorem Rep.same {H H':Hp} (s:Same H H'):∀ (d:Dt) {v:V},Rep H d v→Rep H' d v
 | .non,_,h=>by rw [Rep] at *; exact h
 | .bl _,_,h=>by rw [Rep] at *; exact h
 | .int _,_,h=>by rw [Rep] at *; exact h
 | .str _,_,h=>by rw [Rep] at *; exact h
 | .tup ds,_,h=>by
  rw [Rep] at *
  obtain ⟨a,vs,e,q,r⟩:=h
  exact ⟨a,vs,e,s _ _ q,Reps.same s ds r⟩
 | .lst ds,_,h=>by
  rw [Rep] at *
  obtain ⟨a,vs,e,q,r⟩:=h
  exact ⟨a,vs,e,s _ _ q,Reps.same s ds r⟩
theorem Reps.same {H H':Hp} (s:Same H H'):∀ (ds:List Dt) {vs:List V},Reps H ds vs→Reps H' ds vs
 | [],_,h=>by rw [Reps] at *; exact h
 | d :: ds,_,h=>by
  rw [Reps] at *
  obtain ⟨v,r,e,h1,h2⟩:=h
  exact ⟨v,r,e,Rep.same s d h1,Reps.same s ds h2⟩
end
theorem Reps.len {H:Hp}:∀ {ds:List Dt} {vs:List V},Reps H ds vs→vs.length = ds.length
 | [],_,h=>by rw [Reps] at h; subst h; rfl
 | d :: ds,_,h=>by
  rw [Reps] at h
  obtain ⟨v,r,e,h1,h2⟩:=h
  rw [e,List.length_cons,List.length_cons,Reps.len h2]
theorem Reps.at {H:Hp}:∀ {ds:List Dt} {vs:List V} {i:Nat} {v:V},Reps H ds vs→vs[i]? = some v→∃ d,ds[i]? = some d∧Rep H d v
 | [],_,i,v,h,e=>by rw [Reps] at h; rw [h] at e; simp at e
 | d :: ds,_,i,v,h,e=>by
  rw [Reps] at h
  obtain ⟨w,r,e1,h1,h2⟩:=h
  subst e1
  cases i with
  | zero=>simp at e; subst e; exact ⟨d,rfl,h1⟩
  | succ i =>
   obtain ⟨d',q1,q2⟩:=Reps.at h2 (i:=i) (by simpa using e)
   exact ⟨d',by simpa using q1,q2⟩
theorem jeb {H:Hp}:∀ (ns:List Int),Reps H (ns.map Dt.int) (ns.map V.int)
 | []=>by rw [List.map_nil,Reps,List.map_nil]
 | n :: r=>by rw [List.map_cons,Reps,List.map_cons]; exact ⟨_,_,rfl,(by rw [Rep]),jeb r⟩
end L2
namespace L2
open PySem PySem.Spec PyProof.Rows
def fMax:List V→Hp→VK→Prop:=fun vs H Q=>match vs with
 | [.int i,.int j]=>Q (.int (if i < j then j else i)) H
 | _=>False
theorem q_max {X:Cx} (hc:X.calm = true):jd9 X (.builtin "max") fMax:=(jow hc).imp fun vs H Q h=>by
 unfold fMax at h
 split at h
 ·refine ⟨_,_,rfl,?_⟩
  first | exact h | (rename_i i j; by_cases c:i < j <;> simp_all)
 ·exact h.elim
def fInL (neg:Bool):R2:=fun x y H Q=>match y with
 | .ref p=>match jbl H p with
  | some xs=>jcz x = true∧xs.all jcz = true∧Q (.bl (if neg = true then !inV x xs else inV x xs)) H
  | none=>False
 | _=>False
theorem jqq {K:PySem.W.Frag} {neg:Bool} {x y:V} {H:Hp} {Q:VK} (h:fInL neg x y H Q):rIn K neg x y H Q:=by
 unfold fInL at h
 split at h
 ·split at h
  ·rename_i xs e
   obtain ⟨h1,h2,h3⟩:=h
   exact ⟨_,xs,rfl,jf9 e,h1,h2,h3⟩
  ·exact h.elim
 ·exact h.elim
theorem jka {X:Cx}:OpR X (compareOp .In) (fInL false):=jny.imp fun _ _ _ _=>jqq
theorem je6 {X:Cx}:OpR X (compareOp .NotIn) (fInL true):=jj8.imp fun _ _ _ _=>jqq
theorem flat_ints (ns:List Int):(ns.map V.int).all jcz = true:=by
 rw [List.all_eq_true]
 intro v hv
 obtain ⟨n,_,e⟩:=List.mem_map.mp hv
 rw [← e]
 rfl
theorem jce (n:Int) (ns:List Int):inV (.int n) (ns.map V.int) = decide (n ∈ ns):=by
 rw [Bool.eq_iff_iff,inV,List.any_eq_true,decide_eq_true_iff]
 constructor
 ·rintro ⟨v,hv,e⟩
  obtain ⟨m,hm,e2⟩:=List.mem_map.mp hv
  subst e2
  have:m = n:=by simpa [eqV] using e
  rw [← this]
  exact hm
 ·intro h
  exact ⟨.int n,List.mem_map_of_mem h,by simp [eqV]⟩
end L2
namespace L2
open PySem PySem.Spec PyProof.Rows
theorem jjl {P:Program} {w:World}:∀ {kvs:List (Key × V)} {vs:List (Key × Value)} {ns:List Int},KV kvs vs→kvs.map (·.1) = ns.map Sum.inl→∀ {us:List Value},us.length = vs.length→(∀ (j:Nat) (v:Value),us[j]? = some v→∃ k x,vs[j]? = some (k,x)∧(jbz P w).is k v = true)→IntsAre us ns
 | [],_,ns,.nil,hk,us,hl,_=>by
  cases ns with
  | nil=>cases us with
   | nil=>exact .nil
   | cons _ _=>simp at hl
  | cons _ _=>simp at hk
 | kv :: kvs,_,ns,.cons (b:=b) r t,hk,us,hl,hv=>by
  cases ns with
  | nil=>simp at hk
  | cons n ns =>
   cases us with
   | nil=>simp at hl
   | cons u us =>
    rw [List.map_cons,List.map_cons] at hk
    injection hk with hk1 hk2
    obtain ⟨k,x,e1,e2⟩:=hv 0 u rfl
    simp only [List.getElem?_cons_zero,Option.some.injEq] at e1
    have hkn:k = Sum.inl n:=by rw [← hk1,r.1,e1]
    rw [hkn] at e2
    rcases jc1 (show jjn (Sum.inl n) u = true from e2) with ⟨i,t',ei,ev⟩ | ⟨y,t',ei,ev⟩
    ·cases ei
     rw [ev]
     refine .cons n t' (jjl (P:=P) (w:=w) t hk2 (by simpa using hl) fun j v hj=>?_)
     obtain ⟨k',x',z1,z2⟩:=hv (j + 1) v (by simpa using hj)
     exact ⟨k',x',by simpa using z1,z2⟩
    ·cases ei
def rSortD:List V→Hp→VK→Prop:=fun vs H Q=>∃ (p:Addr) (kvs:List (Key × V)) (ns:List Int),vs = [.ref p]∧H p = some (.dK kvs)∧kvs.map (·.1) = ns.map Sum.inl∧ns.length < 64 ∧
 ∀ (l:Addr) (ms:List Int),H l = none→ms.Perm ns→ms.Pairwise (· ≤ ·)→Q (.ref l) (upd H l (.lst (ms.map V.int)))
theorem jhc {X:Cx} (hc:X.calm = true):jd9 X (.builtin "sorted") rSortD:=by
 intro pins s σ H xs us Q I r h
 obtain ⟨p,kvs,ns,rfl,e,hk,h64,q⟩:=h
 obtain ⟨u,rfl,rx⟩:=jk4 r
 cases rx
 obtain ⟨z,lo,vs',rel,dd⟩:=jmq I.hok e
 obtain ⟨ep,hat⟩:=dd.dictAt
 have hkl:=rel.length
 refine Calls.call_function_entry kind_sorted plain_sorted entry_sorted (args_sorted1 _) ?_
 unfold Builtin.«sorted»
 refine wpAny_bind (m:=checkCount "sorted" 1 1 _) (wpAny_pure ?_)
 refine wpAny_bind (PySem.W.kdu_collect (PySem.W.kdl_dict (knd:=jbz X.prog X.w) (kvs:=vs') (ep:=ep) lo) (I.ok.hd hc) hat (by omega) fun h' tk acc hkp hacc=>?_)
 have hl:acc.toList.length = vs'.length:=by rw [Array.length_toList]; exact hacc.1
 have hI:IntsAre acc.toList ns:=jjl rel hk hl fun j v ej=>hacc.2 j v (by rw [← Array.getElem?_toList]; exact ej)
 have hnl:ns.length = kvs.length:=by
  have:=congrArg List.length hk
  simpa using this.symm
 refine wpAny_bind (wpAny_newList ?_ (by omega))
 have hoL:(h'.push (seqObj "list" acc.toList.toArray 0)).get? h'.objs.size = some (seqObj "list" acc.toList.toArray 0):=Heap.get?_push_size _ rfl
 show wpAny _ _ _ _ _ { s with heap:=h'.push (seqObj "list" acc.toList.toArray 0),toks:=tk }
 refine wpAny_bind (wpAny_holding (wpAny_call_entry slot_list_sort ⟨_,hoL,rfl⟩ entry_list_sort (list_sort_tree hoL hI (by omega) fun out ms a1 a2 a3=>⟨_,rfl,?_⟩) (args_list_sort _)))
 refine wpAny_pure ⟨_,rfl,?_⟩
 have hlt:∀ b o,h'.get? b = some o→b < h'.objs.size:=fun b o eb=>Heap.lt_size eb
 have kp:∀ b o,h'.get? b = some o→(sortedHeap (h'.push (seqObj "list" acc.toList.toArray 0)) h'.objs.size acc.toList out).get? b = some o:=fun b o eb=>by
  rw [sortedHeap_old (Nat.ne_of_lt (hlt b o eb)) (by rw [size_push']; exact Nat.lt_succ_of_lt (hlt b o eb)),Heap.get?_push_ne _ _ _ (Nat.ne_of_lt (hlt b o eb))]
  exact eb
 obtain ⟨c,hcc⟩:=sortedHeap_at (out:=out) hoL
 have hml:=a2.length_eq
 have I1:Inv X pins σ H { s with heap:=h',toks:=tk }:=I.kept hkp
 refine ⟨.ref h'.objs.size,_,I1.laid (t':=tk) kp (Nat.le_refl _) (show jcp X.prog X.w _ _ _ (.lst (ms.map V.int)) from ⟨?_,out.toList,c,jfl a1,?_⟩),rfl,q _ ms (I1.hok.fresh (Nat.le_refl _)) a2 a3⟩
 ·rw [List.length_map,hml]; exact Nat.le_trans (Nat.le_of_lt h64) (by decide)
 ·rw [hcc]
end L2
namespace L2
open PySem PySem.Spec PyProof.Rows
mutual
def eqP:Dt→Dt→Bool
 | .non,.non=>true
 | .bl a,.bl b=>a == b
 | .bl a,.int b=>(if a then 1 else 0) == b
 | .int a,.bl b=>a == (if b then 1 else 0)
 | .int a,.int b=>a == b
 | .str a,.str b=>a == b
 | .tup a,.tup b=>eqPs a b
 | .lst a,.lst b=>eqPs a b
 | _,_=>false
def eqPs:List Dt→List Dt→Bool
 | [],[]=>true
 | a :: r,b :: t=>eqP a b && eqPs r t
 | _,_=>false
end
mutual
def depP:Dt→Nat
 | .tup a=>jcq a + 1
 | .lst a=>jcq a + 1
 | _=>0
def jcq:List Dt→Nat
 | []=>0
 | a :: r=>max (depP a) (jcq r)
end
def jes (a b:List Dt) (j:Nat):Bool:=match a[j]?,b[j]? with
 | some x,some y=>eqP x y
 | _,_=>false
theorem jdh:∀ {a b:List Dt},a.length ≠ b.length→eqPs a b = false
 | [],[],h=>absurd rfl h
 | [],_ :: _,_=>by simp [eqPs]
 | _ :: _,[],_=>by simp [eqPs]
 | x :: a,y :: b,h=>by
  rw [eqPs,jdh (by simpa using h),Bool.and_false]
theorem jnk:∀ (n:Nat) (f:Nat→Bool),(List.range (n + 1)).all f = (f 0 && (List.range n).all fun j=>f (j + 1)):=fun n f=>by
 rw [List.range_succ_eq_map,List.all_cons,List.all_map]
 rfl
theorem jd2:∀ {a b:List Dt},a.length = b.length→eqPs a b = (List.range a.length).all (jes a b)
 | [],[],_=>by rw [eqPs]; rfl
 | [],_ :: _,h=>by simp at h
 | _ :: _,[],h=>by simp at h
 | x :: a,y :: b,h=>by
  rw [eqPs,jd2 (a:=a) (b:=b) (by simpa using h),List.length_cons,jnk]
  rfl
theorem jff:∀ {a:List Dt} {j:Nat} {d:Dt},a[j]? = some d→depP d ≤ jcq a
 | [],_,_,h=>by simp at h
 | x :: a,0,d,h=>by
  simp at h; subst h
  rw [jcq]; omega
 | x :: a,j + 1,d,h=>by
  have:=jff (a:=a) (j:=j) (by simpa using h)
  rw [jcq]; omega
def jd8:Dt→Option V
 | .non=>some .non
 | .bl b=>some (.bl b)
 | .int i=>some (.int i)
 | .str x=>some (.str x)
 | _=>none
theorem jq0 {d e:Dt} {x y:V} (hd:jd8 d = some x) (he:jd8 e = some y):eqP d e = eqV x y:=by
 cases d <;> cases e <;> simp only [jd8,Option.some.injEq,reduceCtorEq] at hd he <;> subst hd <;> subst he <;> simp [eqP,eqV]
theorem jhq {H:Hp} {d:Dt} {x v:V} (hd:jd8 d = some x) (h:Rep H d v):v = x∧jcz x = true:=by
 cases d <;> simp only [jd8,Option.some.injEq,reduceCtorEq] at hd <;> subst hd <;> rw [Rep] at h <;> exact ⟨h,rfl⟩
section
variable {X:Cx} {pins:List (Addr × Obj)} {σ:St} {H:Hp} {s:Shared}
theorem Inv.tupE (I:Inv X pins σ H s) {a:Addr} {vs:List V} (e:H a = some (.tup vs)):∃ its:List Value,Vals vs its∧s.heap.IsTuple a its.toArray:=by
 obtain ⟨its,r,p,_⟩:=I.tuple (SqT.of e)
 exact ⟨its,r,p⟩
theorem Inv.lstE (I:Inv X pins σ H s) {a:Addr} {vs:List V} (e:H a = some (.lst vs)):∃ its:List Value,Vals vs its∧s.heap.IsList a its.toArray:=by
 obtain ⟨its,r,p,_⟩:=I.list (SqL.of e)
 exact ⟨its,r,p.isList⟩
mutual
theorem jed:∀ d:Dt,eqP d d = true
 | .non=>by simp [eqP]
 | .bl _=>by simp [eqP]
 | .int _=>by simp [eqP]
 | .str _=>by simp [eqP]
 | .tup a=>by rw [eqP]; exact jgb a
 | .lst a=>by rw [eqP]; exact jgb a
theorem jgb:∀ a:List Dt,eqPs a a = true
 | []=>by rw [eqPs]
 | d :: r=>by rw [eqPs,jed d,jgb r]; rfl
end
mutual
theorem Rep.inj {H:Hp}:∀ {d e:Dt} {v:V},Rep H d v→Rep H e v→d = e
 | .non,e,v,h1,h2=>by rw [Rep] at h1; subst h1; cases e <;> simp [Rep] at h2 ⊢
 | .bl _,e,v,h1,h2=>by rw [Rep] at h1; subst h1; cases e <;> simp [Rep] at h2 ⊢; exact h2
 | .int _,e,v,h1,h2=>by rw [Rep] at h1; subst h1; cases e <;> simp [Rep] at h2 ⊢; exact h2
 | .str _,e,v,h1,h2=>by rw [Rep] at h1; subst h1; cases e <;> simp [Rep] at h2 ⊢; exact h2
 | .tup ds,e,v,h1,h2=>by
  rw [Rep] at h1
  obtain ⟨a,vs,rfl,q,r⟩:=h1
  cases e with
  | tup es =>
   rw [Rep] at h2
   obtain ⟨a',vs',e',q',r'⟩:=h2
   cases e'
   rw [q] at q'; cases q'
   rw [Reps.inj r r']
  | lst es =>
   rw [Rep] at h2
   obtain ⟨a',vs',e',q',r'⟩:=h2
   cases e'
   rw [q] at q'; cases q'
  | non=>rw [Rep] at h2; cases h2
  | bl _=>rw [Rep] at h2; cases h2
  | int _=>rw [Rep] at h2; cases h2
  | str _=>rw [Rep] at h2; cases h2
 | .lst ds,e,v,h1,h2=>by
  rw [Rep] at h1
  obtain ⟨a,vs,rfl,q,r⟩:=h1
  cases e with
  | lst es =>
   rw [Rep] at h2
   obtain ⟨a',vs',e',q',r'⟩:=h2
   cases e'
   rw [q] at q'; cases q'
   rw [Reps.inj r r']
  | tup es =>
   rw [Rep] at h2
   obtain ⟨a',vs',e',q',r'⟩:=h2
   cases e'
   rw [q] at q'; cases q'
  | non=>rw [Rep] at h2; cases h2
  | bl _=>rw [Rep] at h2; cases h2
  | int _=>rw [Rep] at h2; cases h2
  | str _=>rw [Rep] at h2; cases h2
theorem Reps.inj {H:Hp}:∀ {ds es:List Dt} {vs:List V},Reps H ds vs→Reps H es vs→ds = es
 | [],es,vs,h1,h2=>by
  rw [Reps] at h1; subst h1
  cases es with
  | nil=>rfl
  | cons e es=>rw [Reps] at h2; obtain ⟨_,_,z,_⟩:=h2; cases z
 | d :: ds,es,vs,h1,h2=>by
  rw [Reps] at h1
  obtain ⟨v,r,rfl,q1,q2⟩:=h1
  cases es with
  | nil=>rw [Reps] at h2; cases h2
  | cons e es =>
   rw [Reps] at h2
   obtain ⟨v',r',z,p1,p2⟩:=h2
   cases z
   rw [Rep.inj q1 p1,Reps.inj q2 p2]
end
theorem jez {d e:Dt} (hd:jd8 d = none) {y:V} (he:jd8 e = some y):eqP d e = false∧eqP e d = false:=by
 cases d <;> cases e <;> simp only [jd8,Option.some.injEq,reduceCtorEq] at hd he <;> simp [eqP]
theorem jqv:∀ (n:Nat) {A:Around} (I:Inv X pins σ H s) {d e:Dt} {x y:V} {u v:Value},depP d ≤ n→A.units + n < cLine→Rep H d x→Rep H e y→RelV x u→RelV y v→SeqAt.EqAt A s u v (eqP d e):=by
 intro n
 induction n with
 | zero =>
  intro A I d e x y u v hn hu rd re rx ry
  have hf:∃ z,jd8 d = some z:=by
   cases d <;> simp only [depP,jd8] at hn ⊢ <;> first | exact ⟨_,rfl⟩ | omega
  obtain ⟨z,hz⟩:=hf
  obtain ⟨rfl,fz⟩:=jhq hz rd
  cases he:jd8 e with
  | some y' =>
   obtain ⟨rfl,fy⟩:=jhq he re
   rw [jq0 hz he]
   exact jqu rx ry fz fy
  | none =>
   rw [(jez he hz).2]
   have hu0:A.units < cLine:=by omega
   cases e <;> simp only [jd8,reduceCtorEq] at he
   ·rw [Rep] at re
    obtain ⟨a,vs,rfl,q,_⟩:=re
    cases ry
    obtain ⟨its,_,p⟩:=I.tupE q
    cases d <;> simp only [jd8,Option.some.injEq,reduceCtorEq] at hz <;> subst hz
    ·cases rx; exact SeqAt.EqAt.none_tuple p hu0
    ·cases rx; exact SeqAt.EqAt.bool_tuple _ p hu0
    ·obtain ⟨t,rfl⟩:=rx; exact SeqAt.EqAt.int_tuple _ _ p hu0
    ·obtain ⟨t,rfl⟩:=rx; exact SeqAt.EqAt.str_tuple _ _ p hu0
   ·rw [Rep] at re
    obtain ⟨a,vs,rfl,q,_⟩:=re
    cases ry
    obtain ⟨its,_,p⟩:=I.lstE q
    cases d <;> simp only [jd8,Option.some.injEq,reduceCtorEq] at hz <;> subst hz
    ·cases rx; exact SeqAt.EqAt.none_list p hu0
    ·cases rx; exact SeqAt.EqAt.bool_list _ p hu0
    ·obtain ⟨t,rfl⟩:=rx; exact SeqAt.EqAt.int_list _ _ p hu0
    ·obtain ⟨t,rfl⟩:=rx; exact SeqAt.EqAt.str_list _ _ p hu0
 | succ n ih =>
  intro A I d e x y u v hn hu rd re rx ry
  have hu0:A.units < cLine:=by omega
  have items:∀ {ds es:List Dt} {vs ws:List V} {its its2:List Value},jcq ds ≤ n→Reps H ds vs→Reps H es ws→Vals vs its→Vals ws its2 →
    ∀ j (h1:j < its.toArray.size) (h2:j < its2.toArray.size),SeqAt.EqAt A.in1 s its.toArray[j] its2.toArray[j] (jes ds es j):=by
   intro ds es vs ws its its2 hdp r1 r2 w1 w2 j h1 h2
   rw [List.size_toArray] at h1 h2
   have l1:=w1.length
   have l2:=w2.length
   obtain ⟨u',e1,q1⟩:=w1.get (i:=j) (x:=vs[j]'(by omega)) (List.getElem?_eq_getElem _)
   obtain ⟨v',e2,q2⟩:=w2.get (i:=j) (x:=ws[j]'(by omega)) (List.getElem?_eq_getElem _)
   obtain ⟨d',f1,g1⟩:=r1.at (i:=j) (List.getElem?_eq_getElem (by omega))
   obtain ⟨e',f2,g2⟩:=r2.at (i:=j) (List.getElem?_eq_getElem (by omega))
   rw [List.getElem?_eq_getElem h1] at e1
   rw [List.getElem?_eq_getElem h2] at e2
   cases e1; cases e2
   have hj:jes ds es j = eqP d' e':=by unfold jes; rw [f1,f2]
   rw [hj]
   have:=jff f1
   exact ih (A:=A.in1) I (by omega) (by show A.units + 1 + n < cLine; omega) g1 g2 q1 q2
  cases hf:jd8 d with
  | some z =>
   refine ih I ?_ (by omega) rd re rx ry
   cases d <;> simp only [jd8,reduceCtorEq] at hf <;> simp [depP]
  | none =>
   cases he:jd8 e with
   | some y' =>
    rw [(jez hf he).1]
    obtain ⟨rfl,fy⟩:=jhq he re
    cases d <;> simp only [jd8,reduceCtorEq] at hf
    ·rw [Rep] at rd
     obtain ⟨a,vs,rfl,q,_⟩:=rd
     cases rx
     obtain ⟨its,_,p⟩:=I.tupE q
     cases e <;> simp only [jd8,Option.some.injEq,reduceCtorEq] at he <;> subst he
     ·cases ry; exact SeqAt.EqAt.tuple_none p hu0
     ·cases ry; exact SeqAt.EqAt.tuple_bool _ p hu0
     ·obtain ⟨t,rfl⟩:=ry; exact SeqAt.EqAt.tuple_int _ _ p hu0
     ·obtain ⟨t,rfl⟩:=ry; exact SeqAt.EqAt.tuple_str _ _ p hu0
    ·rw [Rep] at rd
     obtain ⟨a,vs,rfl,q,_⟩:=rd
     cases rx
     obtain ⟨its,_,p⟩:=I.lstE q
     cases e <;> simp only [jd8,Option.some.injEq,reduceCtorEq] at he <;> subst he
     ·cases ry; exact SeqAt.EqAt.list_none p hu0
     ·cases ry; exact SeqAt.EqAt.list_bool _ p hu0
     ·obtain ⟨t,rfl⟩:=ry; exact SeqAt.EqAt.list_int _ _ p hu0
     ·obtain ⟨t,rfl⟩:=ry; exact SeqAt.EqAt.list_str _ _ p hu0
   | none =>
    cases d <;> simp only [jd8,reduceCtorEq] at hf <;> cases e <;> simp only [jd8,reduceCtorEq] at he
    ·rename_i ds es
     have hn':jcq ds ≤ n:=by rw [depP] at hn; omega
     have rd0:=rd
     have re0:=re
     rw [Rep] at rd
     rw [Rep] at re
     obtain ⟨a,vs,rfl,q,r1⟩:=rd
     obtain ⟨b,ws,rfl,q2,r2⟩:=re
     cases rx; cases ry
     by_cases hab:a = b
     ·subst hab
      rw [Rep.inj rd0 re0,jed]
      exact SeqAt.EqAt.same _
     ·obtain ⟨its,w1,p1⟩:=I.tupE q
      obtain ⟨its2,w2,p2⟩:=I.tupE q2
      have k:=SeqAt.RcAt.tuples p1 p2 hu0 (items hn' r1 r2 w1 w2)
      have e0:((List.range (min its.toArray.size its2.toArray.size)).all (jes ds es) && its.toArray.size == its2.toArray.size) = eqP (.tup ds) (.tup es):=by
       have l1:=w1.length
       have l2:=w2.length
       have l3:=r1.len
       have l4:=r2.len
       rw [eqP,List.size_toArray,List.size_toArray]
       by_cases hl:ds.length = es.length
       ·rw [jd2 hl,← l1,← l2,l3,l4,hl,Nat.min_self]
        simp
       ·rw [jdh hl]
        have:(its.length == its2.length) = false:=by
         rw [beq_eq_false_iff_ne]; omega
        rw [this,Bool.and_false]
      rw [e0] at k
      exact .of_refs hab k
    ·rename_i ds es
     rw [Rep] at rd
     rw [Rep] at re
     obtain ⟨a,vs,rfl,q,r1⟩:=rd
     obtain ⟨b,ws,rfl,q2,r2⟩:=re
     cases rx; cases ry
     obtain ⟨its,w1,p1⟩:=I.tupE q
     obtain ⟨its2,w2,p2⟩:=I.lstE q2
     have:eqP (.tup ds) (.lst es) = false:=by simp [eqP]
     rw [this]
     exact SeqAt.EqAt.tuple_list p1 p2 hu0
    ·rename_i ds es
     rw [Rep] at rd
     rw [Rep] at re
     obtain ⟨a,vs,rfl,q,r1⟩:=rd
     obtain ⟨b,ws,rfl,q2,r2⟩:=re
     cases rx; cases ry
     obtain ⟨its,w1,p1⟩:=I.lstE q
     obtain ⟨its2,w2,p2⟩:=I.tupE q2
     have:eqP (.lst ds) (.tup es) = false:=by simp [eqP]
     rw [this]
     exact SeqAt.EqAt.list_tuple p1 p2 hu0
    ·rename_i ds es
     have hn':jcq ds ≤ n:=by rw [depP] at hn; omega
     have rd0:=rd
     have re0:=re
     rw [Rep] at rd
     rw [Rep] at re
     obtain ⟨a,vs,rfl,q,r1⟩:=rd
     obtain ⟨b,ws,rfl,q2,r2⟩:=re
     cases rx; cases ry
     by_cases hab:a = b
     ·subst hab
      rw [Rep.inj rd0 re0,jed]
      exact SeqAt.EqAt.same _
     ·obtain ⟨its,w1,p1⟩:=I.lstE q
      obtain ⟨its2,w2,p2⟩:=I.lstE q2
      have l1:=w1.length
      have l2:=w2.length
      have l3:=r1.len
      have l4:=r2.len
      refine .of_refs hab ?_
      rw [eqP]
      by_cases hl:ds.length = es.length
      ·rw [jd2 hl]
       have k:=SeqAt.RcAt.lists p1 p2 (by rw [List.size_toArray,List.size_toArray]; omega) hu0 (items hn' r1 r2 w1 w2)
       rw [List.size_toArray,← l1,l3] at k
       exact k
      ·rw [jdh hl]
       exact SeqAt.RcAt.lists_lengths p1 p2 (by rw [List.size_toArray,List.size_toArray]; simp; omega) hu0
end
end L2
namespace L2
open PySem PySem.Spec PyProof.Rows
section
variable {prog:Program} {w:World} {A:Around} {R:Result→Shared→Prop} {I:Addr} {fp wr:List Addr} {n:Nat} {P:Nat→Value→Prop} {St:Nat→Heap→Prop}
def Best (val:Nat→Int) (n:Nat) (m:Int):Prop:=(∃ i,i < n∧m = val i)∧∀ i,i < n→val i ≤ m
theorem Best.keep {val:Nat→Int} {j:Nat} {m:Int} (h:Best val j m) (hb:¬ val j > m):Best val (j + 1) m :=
 ⟨let ⟨i,hi,e⟩:=h.1; ⟨i,Nat.lt_succ_of_lt hi,e⟩,fun i hi=>by
  rcases Nat.lt_succ_iff_lt_or_eq.mp hi with z | z
  ·exact h.2 i z
  ·rw [z]; omega⟩
end
section
variable {X:Cx}
def tCBK (r:List V→List V→Hp→VK→Prop) (t tk:TA):TE:=fun σ H Q=>t σ H fun vs H1=>tk σ H1 fun zs H2=>r vs zs H2 Q
end
end L2
namespace L2
open PySem PySem.Spec PyProof.Rows
section
variable {X:Cx} {pins:List (Addr × Obj)} {σ:St} {H:Hp} {s:Shared}
theorem ji5 (n:Nat) {A:Around} (I:Inv X pins σ H s) {ds es:List Dt} {vs ws:List V} {its its2:List Value} (hdp:jcq ds ≤ n) (hu:A.units + n < cLine) (r1:Reps H ds vs) (r2:Reps H es ws) (w1:Vals vs its) (w2:Vals ws its2) :
  ∀ j (h1:j < its.toArray.size) (h2:j < its2.toArray.size),SeqAt.EqAt A s its.toArray[j] its2.toArray[j] (jes ds es j):=by
 intro j h1 h2
 rw [List.size_toArray] at h1 h2
 have l1:=w1.length
 have l2:=w2.length
 obtain ⟨u',e1,q1⟩:=w1.get (i:=j) (x:=vs[j]'(by omega)) (List.getElem?_eq_getElem _)
 obtain ⟨v',e2,q2⟩:=w2.get (i:=j) (x:=ws[j]'(by omega)) (List.getElem?_eq_getElem _)
 obtain ⟨d',f1,g1⟩:=r1.at (i:=j) (List.getElem?_eq_getElem (by omega))
 obtain ⟨e',f2,g2⟩:=r2.at (i:=j) (List.getElem?_eq_getElem (by omega))
 rw [List.getElem?_eq_getElem h1] at e1
 rw [List.getElem?_eq_getElem h2] at e2
 cases e1; cases e2
 have hj:jes ds es j = eqP d' e':=by unfold jes; rw [f1,f2]
 rw [hj]
 have:=jff f1
 exact jqv n I (by omega) hu g1 g2 q1 q2
theorem jgp {ds es:List Dt} {vs ws:List V} {its its2:List Value} (r1:Reps H ds vs) (r2:Reps H es ws) (w1:Vals vs its) (w2:Vals ws its2) :
  ((List.range (min its.toArray.size its2.toArray.size)).all (jes ds es) && its.toArray.size == its2.toArray.size) = eqPs ds es:=by
 have l1:=w1.length
 have l2:=w2.length
 have l3:=r1.len
 have l4:=r2.len
 rw [List.size_toArray,List.size_toArray]
 by_cases hl:ds.length = es.length
 ·rw [jd2 hl,← l1,← l2,l3,l4,hl,Nat.min_self]
  simp
 ·rw [jdh hl]
  have:(its.length == its2.length) = false:=by
   rw [beq_eq_false_iff_ne]; omega
  rw [this,Bool.and_false]
def rEqD (neg:Bool):R2:=fun x y H Q=>∃ d e,Rep H d x∧Rep H e y∧depP d ≤ 20∧((∃ ds es,d = .lst ds∧e = .lst es) ∨ ∃ ds es,d = .tup ds∧e = .tup es)∧Q (.bl (if neg = true then !eqP d e else eqP d e)) H
theorem op_eqD (hu:X.A.units + 64 < cLine):OpR X (compareOp .Eq) (rEqD false):=by
 intro pins s σ H x y v u Q I rx ry h
 obtain ⟨d,e,rd,re,hd,hk,q⟩:=h
 have hu0:X.A.units < cLine:=by omega
 rcases hk with ⟨ds,es,rfl,rfl⟩ | ⟨ds,es,rfl,rfl⟩
 ·have hn':jcq ds ≤ 20:=by rw [depP] at hd; omega
  rw [Rep] at rd re
  obtain ⟨a,vs,rfl,q1,r1⟩:=rd
  obtain ⟨b,ws,rfl,q2,r2⟩:=re
  cases rx; cases ry
  obtain ⟨its,w1,p1⟩:=I.lstE q1
  obtain ⟨its2,w2,p2⟩:=I.lstE q2
  have l1:=w1.length
  have l2:=w2.length
  have l3:=r1.len
  have l4:=r2.len
  by_cases hl:ds.length = es.length
  ·refine SeqAt.RcAt.lists (e:=jes ds es) p1 p2 (by rw [List.size_toArray,List.size_toArray]; omega) hu0 (ji5 20 I hn' (by show X.A.units + 1 + 20 < cLine; omega) r1 r2 w1 w2) _ _ _ _ ⟨.bl _,H,I,rfl,?_⟩
   rw [List.size_toArray,← l1,l3,← jd2 hl]
   rw [eqP] at q
   exact q
  ·refine SeqAt.RcAt.lists_lengths p1 p2 (by rw [List.size_toArray,List.size_toArray]; simp; omega) hu0 _ _ _ _ ⟨.bl _,H,I,rfl,?_⟩
   rw [eqP,jdh hl] at q
   exact q
 ·have hn':jcq ds ≤ 20:=by rw [depP] at hd; omega
  rw [Rep] at rd re
  obtain ⟨a,vs,rfl,q1,r1⟩:=rd
  obtain ⟨b,ws,rfl,q2,r2⟩:=re
  cases rx; cases ry
  obtain ⟨its,w1,p1⟩:=I.tupE q1
  obtain ⟨its2,w2,p2⟩:=I.tupE q2
  refine SeqAt.RcAt.tuples (e:=jes ds es) p1 p2 hu0 (ji5 20 I hn' (by show X.A.units + 1 + 20 < cLine; omega) r1 r2 w1 w2) _ _ _ _ ⟨.bl _,H,I,rfl,?_⟩
  rw [jgp r1 r2 w1 w2]
  rw [eqP] at q
  exact q
theorem op_neD (hu:X.A.units + 64 < cLine):OpR X (compareOp .NotEq) (rEqD true):=by
 intro pins s σ H x y v u Q I rx ry h
 obtain ⟨d,e,rd,re,hd,hk,q⟩:=h
 have hu0:X.A.units < cLine:=by omega
 rcases hk with ⟨ds,es,rfl,rfl⟩ | ⟨ds,es,rfl,rfl⟩
 ·have hn':jcq ds ≤ 20:=by rw [depP] at hd; omega
  rw [Rep] at rd re
  obtain ⟨a,vs,rfl,q1,r1⟩:=rd
  obtain ⟨b,ws,rfl,q2,r2⟩:=re
  cases rx; cases ry
  obtain ⟨its,w1,p1⟩:=I.lstE q1
  obtain ⟨its2,w2,p2⟩:=I.lstE q2
  have l1:=w1.length
  have l2:=w2.length
  have l3:=r1.len
  have l4:=r2.len
  by_cases hl:ds.length = es.length
  ·refine SeqAt.RcNeAt.lists (e:=jes ds es) p1 p2 (by rw [List.size_toArray,List.size_toArray]; omega) hu0 (ji5 20 I hn' (by show X.A.units + 1 + 20 < cLine; omega) r1 r2 w1 w2) _ _ _ _ ⟨.bl _,H,I,rfl,?_⟩
   rw [List.size_toArray,← l1,l3,← jd2 hl]
   rw [eqP] at q
   exact q
  ·refine SeqAt.RcNeAt.lists_lengths p1 p2 (by rw [List.size_toArray,List.size_toArray]; simp; omega) hu0 _ _ _ _ ⟨.bl _,H,I,rfl,?_⟩
   rw [eqP,jdh hl] at q
   exact q
 ·have hn':jcq ds ≤ 20:=by rw [depP] at hd; omega
  rw [Rep] at rd re
  obtain ⟨a,vs,rfl,q1,r1⟩:=rd
  obtain ⟨b,ws,rfl,q2,r2⟩:=re
  cases rx; cases ry
  obtain ⟨its,w1,p1⟩:=I.tupE q1
  obtain ⟨its2,w2,p2⟩:=I.tupE q2
  refine SeqAt.RcNeAt.tuples (e:=jes ds es) p1 p2 hu0 (ji5 20 I hn' (by show X.A.units + 1 + 20 < cLine; omega) r1 r2 w1 w2) _ _ _ _ ⟨.bl _,H,I,rfl,?_⟩
  rw [jgp r1 r2 w1 w2]
  rw [eqP] at q
  exact q
theorem RelV.inj' {x y:V} {u:Value} (h1:RelV x u) (h2:RelV y u):x = y:=Option.some.inj (h1.abs.symm.trans h2.abs)
open Classical in
def eqW (H:Hp) (d:Dt) (u:Value):Bool:=if h:∃ c,∃ x,RelV x u∧Rep H c x then eqP h.choose d else false
theorem jqs {H:Hp} {d c:Dt} {x:V} {u:Value} (r:RelV x u) (p:Rep H c x):eqW H d u = eqP c d:=by
 unfold eqW
 have h:∃ c,∃ x,RelV x u∧Rep H c x:=⟨c,x,r,p⟩
 rw [dif_pos h]
 obtain ⟨y,r2,p2⟩:=h.choose_spec
 have:=RelV.inj' r r2
 subst this
 rw [Rep.inj p2 p]
theorem joz {H:Hp} {d:Dt}:∀ {cs:List Dt} {xs:List V} {us:List Value},Reps H cs xs→Vals xs us→us.any (eqW H d) = cs.any fun c=>eqP c d
 | [],_,_,h,r=>by
  rw [Reps] at h; subst h
  cases r
  rfl
 | c :: cs,_,_,h,r=>by
  rw [Reps] at h
  obtain ⟨v,t,rfl,h1,h2⟩:=h
  cases r with
  | cons r1 r2=>rw [List.any_cons,List.any_cons,jqs r1 h1,joz h2 r2]
def rInD (neg:Bool):R2:=fun x y H Q=>∃ (d:Dt) (p:Addr) (xs:List V) (cs:List Dt),Rep H d x∧y = .ref p∧H p = some (.lst xs)∧Reps H cs xs∧jcq cs ≤ 20∧Q (.bl (if neg = true then !cs.any (fun c=>eqP c d) else cs.any fun c=>eqP c d)) H
theorem jpu (hu:X.A.units + 64 < cLine) (I:Inv X pins σ H s) {d:Dt} {x:V} {v:Value} {cs:List Dt} {xs:List V} {its:List Value} (rd:Rep H d x) (rx:RelV x v) (rc:Reps H cs xs) (r:Vals xs its) (hd:jcq cs ≤ 20) :
  ∀ y,y ∈ its.toArray→SeqAt.EqAt X.A.in1 s y v (eqW H d y):=by
 intro y hy
 have hy':y ∈ its:=by simpa using hy
 obtain ⟨j,hj,e⟩:=List.mem_iff_getElem.mp hy'
 have l1:=r.length
 obtain ⟨u',e1,q1⟩:=r.get (i:=j) (x:=xs[j]'(by omega)) (List.getElem?_eq_getElem _)
 obtain ⟨c,f1,g1⟩:=rc.at (i:=j) (List.getElem?_eq_getElem (by omega))
 rw [List.getElem?_eq_getElem hj] at e1
 cases e1
 rw [← e,jqs q1 g1]
 have:=jff f1
 exact jqv 20 I (by omega) (by show X.A.units + 1 + 20 < cLine; omega) g1 rd q1 rx
theorem jj7 (hu:X.A.units + 64 < cLine):OpR X (compareOp .NotIn) (rInD true):=by
 intro pins s σ H x y v u Q I rx ry h
 obtain ⟨d,p,xs,cs,rd,rfl,e,rc,hd,q⟩:=h
 cases ry
 obtain ⟨its,r,pl⟩:=I.lstE e
 refine SeqAt.notIn_listAt (eqW H d) pl (jpu hu I rd rx rc r hd) ⟨.bl _,H,I,rfl,?_⟩
 rw [show its.toArray.any (eqW H d) = its.any (eqW H d) by simp,joz rc r]
 exact q
end
end L2
namespace L2
open PySem PySem.Spec PyProof.Rows
section
variable {X:Cx} {o i e f value:Expr} {td ty tv tx:TE} {pos pos' apos cpos:Pos}
def jaa (td ty tv:TE):TS:=fun D σ H=>tv σ H fun v H1=>td σ H1 fun x H2=>ty σ H2 fun y H3=>match x,y with
 | .ref a,.int n=>match H3 a with
  | some (.dK kvs)=>kvs.length < sizeLine∧D.nx σ (upd H3 a (.dK (putK kvs (Sum.inl n:Key) v)))
  | _=>False
 | _,_=>False
theorem dput_r {x y:V} {H3:Hp} {R:List (Key × V)→Addr→Int→Prop} (h:match x,y with
 | .ref a,.int n=>match H3 a with
  | some (.dK kvs)=>R kvs a n
  | _=>False
 | _,_=>False):∃ a n kvs,x = .ref a∧y = .int n∧H3 a = some (.dK kvs)∧R kvs a n:=by
 split at h
 ·split at h
  ·rename_i e; exact ⟨_,_,_,rfl,rfl,e,h⟩
  ·exact h.elim
 ·exact h.elim
theorem jgv (hu:X.A.units + 1 < cLine) (ho:PE X o td) (hi:PE X i ty) (hv:PE X value tv) (hs:swapsWith value (some (.Subscript o i pos')) pos.line X.env = pure false:=by rfl) :
  PS X (.Assign [.Subscript o i pos'] value pos) (jaa td ty tv):=by
 intro pins s σ H D I h
 refine wpAny_Assign_Subscript (thn (hv pins s σ H _ I h) fun r s1 ⟨v,H1,I1,rv,q1⟩=>thn (ho pins s1 σ H1 _ I1 q1) fun u s2 ⟨x,H2,I2,rx,q2⟩=>thn (hi pins s2 σ H2 _ I2 q2) fun iv s3 ⟨y,H3,I3,ry,q3⟩=>?_) hs
 obtain ⟨a,n,kvs,rfl,rfl,ea,q4,q5⟩:=dput_r (R:=fun kvs a n=>kvs.length < sizeLine∧D.nx σ (upd H3 a (.dK (putK kvs (Sum.inl n:Key) v)))) q3
 obtain rfl:u = Value.ref a:=rx
 exact jor hu I3 (DPut.k (k:=Sum.inl n) ea q4) ry rv fun s4 I4=>⟨σ,_,I4,q5⟩
def jad (td ty tx:TE):TE:=fun σ H Q=>td σ H fun x H1=>match x with
 | .ref a=>(∃ kvs,H1 a = some (.dK kvs))∧ty σ H1 fun y H2=>tx σ H2 fun z H3=>match y with
  | .int n=>match H3 a with
   | some (.dK kvs)=>Q ((valV kvs (Sum.inl n:Key)).getD z) H3
   | _=>False
  | _=>False
 | _=>False
def fCat:R2:=fun x y H Q=>match x,y with
 | .ref l,.ref b=>match H l,H b with
  | some (.lst xs),some (.lst zs)=>xs.length + zs.length ≤ sizeLine∧∀ p,H p = none→Q (.ref p) (upd H p (.lst (xs ++ zs)))
  | _,_=>False
 | _,_=>False
theorem q_cat:OpR X (binaryOp .Add) fCat:=op_cat.imp fun x y H Q h=>by
 unfold fCat at h
 split at h
 ·split at h
  ·rename_i e1 e2; exact ⟨_,_,_,_,rfl,rfl,e1,e2,h.1,h.2⟩
  ·exact h.elim
 ·exact h.elim
def jaf:V→List V→Hp→VK→Prop:=fun x vs H Q=>match x,vs with
 | .ref l,[]=>match H l with
  | some (.lst _)=>Q .non (upd H l (.lst []))
  | _=>False
 | _,_=>False
def fBM0 (r:V→List V→Hp→VK→Prop) (to:TE):TE:=fun σ H Q=>to σ H fun x H1=>(∃ a xs,x = .ref a∧H1 a = some (.lst xs))∧r x [] H1 Q
theorem q_bm0 {to:TE} {name:Str} {id:String} {r:V→List V→Hp→VK→Prop} (pa:PlainAttrs "list") (slot:Slot "list" name id) (hty:typeOf (.builtin id) = pure (.type "method_descriptor")) (hm:MtR X id r) (ho:PE X o to)
  (hbase:attributeBase o name X.env (eval o X.env) = eval o X.env:=by rfl) (hline:(apos.endLine == cpos.line) = true:=by rfl):PE X (.Call (.Attribute o name apos) [] [] cpos) (fBM0 r to):=by
 intro pins s σ H Q I h
 refine wpAny_Call_method0_late hbase hline (thn (ho pins s σ H _ I h) fun v s1 ⟨x,H1,I1,r1,⟨a,xs,ex,ea⟩,q1⟩=>?_)
 subst ex
 obtain ⟨h1,h2⟩:=jq8 (T:="list") I1 r1 (.inl ⟨rfl,_,SqL.of ea⟩)
 exact ⟨"list",id,pa,slot,hty,h1,h2,Calls.callWith_builtin rfl (PySem.evalArgs_none (hm pins s1 σ H1 _ [] v [] Q I1 r1 .nil q1))⟩
def fSlT:V→Option Int→Option Int→Hp→VK→Prop:=fun x lo hi H Q=>match x with
 | .ref a=>match H a with
  | some (.tup xs)=>¬ (HT.sIx xs.length 0 lo = 0∧HT.sIx xs.length xs.length hi = xs.length)∧∀ p,H p = none→Q (.ref p) (upd H p (.tup (cutV xs lo hi)))
  | _=>False
 | _=>False
def jas:List V→Hp→VK→Prop:=fun vs H Q=>match vs with
 | [.bl k]=>Q (.int (if k = true then 1 else 0)) H
 | [.int i]=>Q (.int i) H
 | _=>False
theorem jnm:jd9 X (.type "int") jas:=jox.imp fun vs H Q h=>by
 unfold jas at h
 split at h
 ·exact .inr ⟨_,rfl,h⟩
 ·exact .inl ⟨_,rfl,h⟩
 ·exact h.elim
end
end L2
namespace L2
open PySem PySem.Spec PyProof.Rows
section
variable {prog:Program} {w:World} {A:Around} {E:Value→Shared→Prop}
end
section
variable {X:Cx} {es:List Expr} {pos:Pos}
def jb7 (n:Nat) (t:TGs):TG:=fun v σ H Q=>match v with
 | .ref a=>match H a with
  | some (.lst xs)=>xs.length = n∧t xs σ H Q
  | _=>False
 | _=>False
end
end L2
namespace So
open PySem PyProof.Rows
def kv (R:Keyed→Int) (xs:Array Keyed) (i:Nat):Int:=(xs[i]?.map R).getD 0
theorem kv_eq {R:Keyed→Int} {xs ys:Array Keyed} {i j:Nat} (h:xs[i]? = ys[j]?):kv R xs i = kv R ys j:=by unfold kv; rw [h]
theorem kv_at {R:Keyed→Int} {xs:Array Keyed} {i:Nat} {x:Keyed} (h:xs[i]? = some x):kv R xs i = R x:=by unfold kv; rw [h]; rfl
def Up (R:Keyed→Int) (xs:Array Keyed) (a b:Nat):Prop:=∀ i j,a ≤ i→i ≤ j→j < b→kv R xs i ≤ kv R xs j
def Fore (lo:Nat) (xs ys:Array Keyed):Prop:=∀ i,i < lo→ys[i]? = xs[i]?
theorem Fore.tr {lo:Nat} {xs ys zs:Array Keyed} (a:Fore lo xs ys) (b:Fore lo ys zs):Fore lo xs zs:=fun i h=>(b i h).trans (a i h)
theorem Up.one {R:Keyed→Int} {xs:Array Keyed} {a b:Nat} (h:b ≤ a + 1):Up R xs a b:=fun i j h1 h2 h3=>by
 have e:i = j:=by omega
 rw [e]; exact Int.le_refl _
structure Bs (κ:SortKind) (a₀:Array Keyed) (pd:Array (Nat × Nat × Nat)) (st:SortSt):Prop where
 perm:(arrOf st).Perm a₀
 kind:kindOf st = κ
 ok:failedOf st = none
 pend:pendingOf st = pd
section
variable {prog:Program} {w:World} {A:Around} {E:Value→Shared→Prop} {s:Shared} {R:Keyed→Int} {κ:SortKind} {a₀:Array Keyed} {pd:Array (Nat × Nat × Nat)}
theorem Bs.size {st:SortSt} (b:Bs κ a₀ pd st):(arrOf st).size = a₀.size:=b.perm.size_eq
end
end So
namespace So
open PySem PyProof.Rows
section
variable {prog:Program} {w:World} {A:Around} {E:Value→Shared→Prop} {s:Shared} {R:Keyed→Int} {κ:SortKind} {a₀:Array Keyed} {pd:Array (Nat × Nat × Nat)}
end
end So
namespace So
open PySem PyProof.Rows
def Le (R:Keyed→Int):Keyed→Keyed→Prop:=fun x y=>R x ≤ R y
def MS (R:Keyed→Int) (o la lb tot:List Keyed):Prop:=(o ++ la).Pairwise (Le R)∧(o ++ lb).Pairwise (Le R)∧(o ++ (la ++ lb)).Perm tot
def Fi (R:Keyed→Int) (l tot:List Keyed):Prop:=l.Pairwise (Le R)∧l.Perm tot
section
variable {R:Keyed→Int} {o la lb tot xs:List Keyed}
theorem MS.a (h:MS R o (xs ++ la) lb tot) (hx:∀ x ∈ xs,∀ y ∈ lb,R x ≤ R y):MS R (o ++ xs) la lb tot:=by
 obtain ⟨h1,h2,h3⟩:=h
 refine ⟨by rw [List.append_assoc]; exact h1,?_,by rw [List.append_assoc,← List.append_assoc xs]; exact h3⟩
 rw [List.append_assoc,List.pairwise_append]
 rw [List.pairwise_append] at h1 h2
 obtain ⟨o1,o2,o3⟩:=h1
 obtain ⟨p1,p2,p3⟩:=h2
 rw [List.pairwise_append] at o2
 refine ⟨o1,List.pairwise_append.mpr ⟨o2.1,p2,hx⟩,fun x m y n=>?_⟩
 rcases List.mem_append.mp n with n | n
 ·exact o3 x m y (List.mem_append_left _ n)
 ·exact p3 x m y n
theorem MS.b (h:MS R o la (xs ++ lb) tot) (hx:∀ x ∈ xs,∀ y ∈ la,R x ≤ R y):MS R (o ++ xs) la lb tot:=by
 have z:MS R o (xs ++ lb) la tot:=⟨h.2.1,h.1,(List.Perm.append_left _ List.perm_append_comm).trans h.2.2⟩
 have q:=z.a hx
 exact ⟨q.2.1,q.1,(List.Perm.append_left _ List.perm_append_comm).trans q.2.2⟩
theorem MS.last (h:MS R o la lb tot) (hx:∀ y ∈ lb,∀ x ∈ la,R y ≤ R x):Fi R (o ++ lb ++ la) tot:=by
 obtain ⟨h1,h2,h3⟩:=h
 refine ⟨?_,?_⟩
 ·rw [List.append_assoc,List.pairwise_append]
  rw [List.pairwise_append] at h1 h2
  refine ⟨h1.1,List.pairwise_append.mpr ⟨h2.2.1,h1.2.1,hx⟩,fun x m y n=>?_⟩
  rcases List.mem_append.mp n with n | n
  ·exact h2.2.2 x m y n
  ·exact h1.2.2 x m y n
 ·rw [List.append_assoc]; exact (List.Perm.append_left _ List.perm_append_comm).trans h3
end
section
variable {a:Array Keyed} {R:Keyed→Int} {i k:Nat}
theorem Up.le (u:Up R a 0 a.size) {j:Nat} {x y:Keyed} (hx:a[i]? = some x) (hy:a[j]? = some y) (h:i ≤ j):R x ≤ R y:=by
 have z:=u i j (Nat.zero_le _) h (Array.getElem?_eq_some_iff.mp hy).1
 rwa [kv_at hx,kv_at hy] at z
end
section
variable {M:Model} {A:Around} {E:Value→Shared→Prop} {s:Shared} {σ α:Type}
end
section
variable {R:Keyed→Int} {a b out:Array Keyed} {ia ib k:Nat} {tot:List Keyed}
end
section
variable {prog:Program} {w:World} {A:Around} {E:Value→Shared→Prop} {s:Shared} {R:Keyed→Int} {κ:SortKind} {a₀:Array Keyed} {pd:Array (Nat × Nat × Nat)}
end
end So
namespace So
open PySem PyProof.Rows
def MH (R:Keyed→Int) (la lb o tot:List Keyed):Prop:=(la ++ o).Pairwise (Le R)∧(lb ++ o).Pairwise (Le R)∧(la ++ (lb ++ o)).Perm tot
section
variable {R:Keyed→Int} {o la lb tot xs:List Keyed}
theorem MH.a (h:MH R (la ++ xs) lb o tot) (hx:∀ x ∈ xs,∀ y ∈ lb,R y ≤ R x):MH R la lb (xs ++ o) tot:=by
 obtain ⟨h1,h2,h3⟩:=h
 refine ⟨by rw [← List.append_assoc]; exact h1,?_,?_⟩
 ·rw [List.append_assoc,List.pairwise_append] at h1
  rw [List.pairwise_append] at h2 ⊢
  refine ⟨h2.1,h1.2.1,fun y hy x hx2=>?_⟩
  rcases List.mem_append.mp hx2 with n | n
  ·exact hx x n y hy
  ·exact h2.2.2 y hy x n
 ·refine List.Perm.trans ?_ h3
  rw [List.append_assoc]
  refine List.Perm.append_left _ ?_
  rw [← List.append_assoc,← List.append_assoc]
  exact List.Perm.append_right _ List.perm_append_comm
theorem MH.swap (h:MH R la lb o tot):MH R lb la o tot:=by
 refine ⟨h.2.1,h.1,List.Perm.trans ?_ h.2.2⟩
 rw [← List.append_assoc,← List.append_assoc]
 exact List.Perm.append_right _ List.perm_append_comm
theorem MH.b (h:MH R la (lb ++ xs) o tot) (hx:∀ x ∈ xs,∀ y ∈ la,R y ≤ R x):MH R la lb (xs ++ o) tot:=(h.swap.a hx).swap
theorem MH.first (h:MH R la lb o tot) (hx:∀ y ∈ lb,∀ x ∈ la,R y ≤ R x):Fi R (lb ++ la ++ o) tot:=by
 obtain ⟨h1,h2,h3⟩:=h.swap
 refine ⟨?_,by rw [List.append_assoc]; exact h3⟩
 rw [List.append_assoc]
 rw [List.pairwise_append] at h1 h2 ⊢
 refine ⟨h1.1,List.pairwise_append.mpr h2,fun y hy x hx2=>?_⟩
 rcases List.mem_append.mp hx2 with n | n
 ·exact hx y hy x n
 ·exact h1.2.2 y hy x n
end
section
variable {a:Array Keyed} {R:Keyed→Int} {i k n:Nat}
end
section
variable {R:Keyed→Int} {a b out:Array Keyed} {na nb k:Nat} {tot:List Keyed}
end
section
variable {prog:Program} {w:World} {A:Around} {E:Value→Shared→Prop} {s:Shared} {R:Keyed→Int} {κ:SortKind} {a₀:Array Keyed} {pd:Array (Nat × Nat × Nat)}
end
end So
namespace So
open PySem PyProof.Rows
section
variable {prog:Program} {w:World} {A:Around} {E:Value→Shared→Prop} {s:Shared} {R:Keyed→Int} {κ:SortKind} {a₀:Array Keyed} {pd:Array (Nat × Nat × Nat)}
theorem Up.ext {xs:Array Keyed} {lo hi:Nat} (u:Up R xs lo hi) (h:hi ≤ xs.size):Up R (xs.extract lo hi) 0 (xs.extract lo hi).size:=fun i j _ h2 h3=>by
 rw [Array.size_extract] at h3
 have e:∀ k,k < hi - lo→(xs.extract lo hi)[k]? = xs[lo + k]?:=fun k hk=>by
  rw [Array.getElem?_extract]
  rw [if_pos (by omega)]
 rw [kv_eq (e i (by omega)),kv_eq (e j (by omega))]
 exact u _ _ (by omega) (by omega) (by omega)
end
end So
namespace So
open PySem PyProof.Rows
def two (pd:Array (Nat × Nat × Nat)):List (Nat × Nat):=pd.toList.map fun t=>(t.1,t.2.1)
def Ch (R:Keyed→Int) (xs:Array Keyed):Nat→List (Nat × Nat)→Nat→Prop
 | p,[],q=>p = q
 | p,(s,n) :: r,q=>s = p∧1 ≤ n∧Up R xs s (s + n)∧Ch R xs (s + n) r q
section
variable {R:Keyed→Int} {xs ys:Array Keyed}
theorem Ch.le:∀ {l:List (Nat × Nat)} {p q:Nat},Ch R xs p l q→p + l.length ≤ q
 | [],p,q,h=>by rw [show p = q from h]; exact Nat.le_refl _
 | (s,n) :: l,p,q,⟨a,b,c,d⟩=>by
  have z:=Ch.le d
  rw [List.length_cons]; omega
end
section
variable {prog:Program} {w:World} {A:Around} {E:Value→Shared→Prop} {s:Shared} {R:Keyed→Int} {κ:SortKind} {a₀:Array Keyed} {pd:Array (Nat × Nat × Nat)}
end
end So
namespace So
open PySem PyProof.Rows
section
variable {prog:Program} {w:World} {A:Around} {E:Value→Shared→Prop} {s:Shared}
theorem Up.all {R:Keyed→Int} {xs:Array Keyed} (u:Up R xs 0 xs.size):xs.toList.Pairwise (Le R):=by
 rw [List.pairwise_iff_getElem]
 intro i j hi hj hij
 rw [Array.length_toList] at hi hj
 exact u.le (getElem?_pos xs i hi) (getElem?_pos xs j hj) (Nat.le_of_lt hij)
def PairAt (h:Heap) (v:Value) (x y:Int):Prop:=∃ a o t u n,v = .ref a∧h.get? a = some o∧o.cls = .type "tuple"∧o.data = .seq #[.int x t,.int y u] n
end
end So
namespace L2
open PySem PySem.Spec PyProof.Rows
end L2
namespace L2
open PySem PySem.Spec PyProof.Rows
def rSum:List V→Hp→VK→Prop:=fun vs H Q=>∃ (p:Addr) (ns:List Int),vs = [.ref p]∧H p = some (.lst (ns.map V.int))∧Q (.int ns.sum) H
theorem q_sum {X:Cx} (hc:X.calm = true):jd9 X (.builtin "sum") rSum:=by
 intro pins s σ H xs us Q I r h
 obtain ⟨p,ns,rfl,e,q⟩:=h
 obtain ⟨u,rfl,rx⟩:=jk4 r
 cases rx
 obtain ⟨its,r',pl,_⟩:=I.list (SqL.of e)
 have hI:=jds r'
 obtain ⟨zs,hz⟩:=hI.allInts.items
 have hn:=hI.numsOf
 have hl:=pl.isList
 rw [hz] at hl
 refine sum_intListG (I.ok.hd hc) hl fun h' tk t' hk=>?_
 have e2:preSum (numAt zs) zs.size = ns.sum:=by
  rw [preSum_eq,List.take_of_length_le (by simp),← hn,← nums_intItems,← hz]
 rw [e2]
 exact ⟨.int ns.sum,H,I.kept hk,⟨t',rfl⟩,q⟩
def fIsB (f:Bool→Bool):R2:=fun x y H Q=>match x,y with
 | .bl a,.bl b=>Q (.bl (f (a == b))) H
 | _,_=>False
end L2
namespace L2
open PySem PySem.Spec PyProof.Rows
def Itd (d:Addr) (o:Obj) (kvs:List (Key × V)):It :=
 ⟨fun i H=>H d = some (.frz o (.dK kvs))∧i < kvs.length,fun i H x H'=>H' = H∧∃ kv,kvs[i]? = some kv∧x = kV kv.1,fun i H=>H d = some (.frz o (.dK kvs))∧kvs.length ≤ i⟩
theorem jpb {k:Key} {v:Value} (h:jjn k v = true):RelV (kV k) v:=by
 rcases jc1 h with ⟨i,t,rfl,rfl⟩ | ⟨x,t,rfl,rfl⟩
 ·exact ⟨t,rfl⟩
 ·exact ⟨t,rfl⟩
theorem kv_at {kvs:List (Key × V)} {vs:List (Key × Value)} (r:KV kvs vs) {i:Nat} {k:Key} {x:Value} (e:vs[i]? = some (k,x)):∃ kv,kvs[i]? = some kv∧kv.1 = k:=by
 obtain ⟨kv,e1,e2⟩:=jcj r e
 exact ⟨kv,e1,e2.1⟩
theorem jiv {P:Program} {w:World} {K:PySem.W.Frag} {tg:Expr} (d it:Addr) (o:Obj) (kvs:List (Key × V)) (vs:List (Key × Value)) (ep:Nat) (hne:d ≠ it) (rk:KV kvs vs)
  (hD:∀ h:Heap,h.get? d = some o→h.DictAt (jbz P w) d vs ep):Turn P w K tg (Itd d o kvs) [it] it (fun i h=>h.IsKeyIter it d i vs.length ep) where
 mem:=by simp
 obj:=fun i h st b hb=>by
  have e:b = it:=by simpa using hb
  subst e
  obtain ⟨o,e,c,d⟩:=st
  exact ⟨o,e,fun v z=>by rw [d] at z; cases z⟩
 keep:=fun i h h' st k=>st.at fun o e=>k it (by simp) o e
 item:=by
  intro X hP hw hK hc i pins s σ H E I hf st hg
  subst hP hw hK
  obtain ⟨hq,hx⟩:=hg
  obtain ⟨eo,_⟩:=(show s.heap.get? d = some o∧_ from I.hok _ _ hq)
  have hl:=rk.length
  obtain ⟨⟨k,x⟩,hx'⟩:∃ p,vs[i]? = some p:=⟨vs[i]'(by omega),List.getElem?_eq_getElem _⟩
  obtain ⟨f0,f1,f2,f3,f4,f5⟩:=hf it (by simp)
  refine wpAny_pyNext_dict_item st (hD _ eo) hx' fun key h' hkey st' sb=>?_
  have I1:Inv X pins σ H { s with heap:=h' }:=I.turned (t':=s.toks) (fun b o hb e=>(sb.2 b hb).trans e) f0 f1 f3 f4 f5
  obtain ⟨kv,e1,e2⟩:=kv_at rk hx'
  obtain ⟨o',e,c,dd⟩:=id st'
  exact ⟨key,rfl,js2 (s:={ s with heap:=h' }) e c dd (by decide) ⟨kV k,H,I1,jpb hkey,⟨rfl,kv,e1,by rw [e2]⟩,st',fun b hb=>(hf b hb).1⟩⟩
 done:=by
  intro X hP hw hK hc i pins s σ H E I hf st hg
  subst hP hw hK
  obtain ⟨hq,hx⟩:=hg
  obtain ⟨eo,_⟩:=(show s.heap.get? d = some o∧_ from I.hok _ _ hq)
  have hl:=rk.length
  obtain ⟨f0,f1,f2,f3,f4,f5⟩:=hf it (by simp)
  exact wpAny_pyNext_dict_end (I.ok.hd hc) st (hD _ eo) (List.getElem?_eq_none_iff.mpr (by omega)) fun h' eb=>⟨rfl,I.turned (t':=s.toks) (fun b o hb e=>eb b o hb e) f0 f1 f3 f4 f5⟩
 self:=fun _ _ _ _ _ st h=>wpAny_pyIter_keyiter st h
def iDct (tl:TE):TI:=fun σ H R=>tl σ H fun v H1=>∃ d kvs,v = .ref d∧H1 d = some (.dK kvs)∧∀ o,R (Itd d o kvs) (upd H1 d (.frz o (.dK kvs)))
theorem jkf {X:Cx} {tg l:Expr} {tl:TE} (hl:PE X l tl):PI X tg l (iDct tl):=by
 intro pins s σ H R I h
 refine thn (hl pins s σ H _ I h) fun v s1 ⟨x,H1,I1,r1,q1⟩=>?_
 obtain ⟨d,kvs,e,hd,q⟩:=q1
 subst e
 cases r1
 obtain ⟨z,lo,vs,rel,dd⟩:=jmq I1.hok hd
 obtain ⟨ep,hat⟩:=dd.dictAt
 obtain ⟨o,es,eo,rest⟩:=id hat
 have I2:Inv X pins σ (upd H1 d (.frz o (.dK kvs))) { s1 with heap:=s1.heap,toks:=s1.toks } :=
  I1.write (x:=d) (e:=d) (by rw [hd]; exact True.intro) (.inl rfl) (fun b u _ q=>q) ⟨o,eo⟩ (show jcp X.prog X.w _ s1.heap d (.frz o (.dK kvs)) from ⟨eo,z,lo,vs,rel,dd⟩)
 have I2:Inv X pins σ (upd H1 d (.frz o (.dK kvs))) s1:=I2
 have hdl:d < s1.heap.objs.size:=Heap.lt_size eo
 refine wpAny_pyIter_dict lo hat ?_
 refine ⟨s1.heap.objs.size,[s1.heap.objs.size],_,_,_,rfl,I2.kept (t':=s1.toks) fun b o e=>Heap.get?_push_of_some _ e,jiv d _ o kvs vs ep (Nat.ne_of_lt hdl) rel fun h e=>⟨o,es,e,rest⟩,⟨_,Heap.get?_push_size _ rfl,rfl,rfl⟩,fun b hb=>?_,q o⟩
 have e:b = s1.heap.objs.size:=by simpa using hb
 subst e
 exact I2.fpOk (Nat.le_refl _) (I2.hok.fresh (Nat.le_refl _))
theorem ji9 {d:Addr} {o:Obj} {kvs:List (Key × V)} {g:TG} {tb:TS} {D:Ends} {σ:St} {H:Hp} (Pv:Nat→St→Hp→Prop) (h0:Pv 0 σ H) (hl:∀ i σ H,i ≤ kvs.length→Pv i σ H→H d = some (.frz o (.dK kvs)))
  (hs:∀ i kv σ H,kvs[i]? = some kv→Pv i σ H→g (kV kv.1) σ H fun σ2 H2=>tb { D with nx:=Pv (i + 1),ct:=Pv (i + 1),bk:=D.nx } σ2 H2) (hd:∀ σ H,Pv kvs.length σ H→D.nx σ H) :
  ∃ W:Nat→Nat→St→Hp→Prop,(∃ m,W 0 m σ H)∧∀ i m σ H,W i m σ H →
   ((Itd d o kvs).stop i H∧D.nx σ H) ∨ ((Itd d o kvs).go i H∧∃ N:St→Hp→Prop,(∀ σ' H',N σ' H'→∃ m',m' < m∧W (i + 1) m' σ' H')∧∀ x H',(Itd d o kvs).yld i H x H'→g x σ H' fun σ2 H2=>tb { D with nx:=N,ct:=N,bk:=D.nx } σ2 H2):=by
 refine ⟨fun i m σ H=>m = kvs.length - i∧i ≤ kvs.length∧Pv i σ H,⟨kvs.length,by simp,Nat.zero_le _,h0⟩,?_⟩
 rintro i m σ H ⟨rfl,hi,p⟩
 have q:=hl i σ H hi p
 by_cases hlt:i < kvs.length
 ·refine .inr ⟨⟨q,hlt⟩,Pv (i + 1),fun σ' H' p'=>⟨kvs.length - (i + 1),by omega,rfl,hlt,p'⟩,fun x H' y=>?_⟩
  obtain ⟨e,kv,e1,e2⟩:=y
  subst e e2
  exact hs i kv σ H' e1 p
 ·have e:i = kvs.length:=by omega
  subst e
  exact .inl ⟨⟨q,Nat.le_refl _⟩,hd σ H p⟩
def tDUpd (td ty:TE):TE:=fun σ H Q=>td σ H fun x H1=>∃ a,x = .ref a∧IsD H1 a∧ty σ H1 fun y H2=>∃ b kvs more,y = .ref b∧a ≠ b∧H2 a = some (.dK kvs)∧H2 b = some (.dK more)∧kvs.length + more.length ≤ 1000∧Q .non (upd H2 a (.dK (jdw kvs more)))
theorem jri {X:Cx} {o e:Expr} {apos cpos:Pos} {td ty:TE} (ho:PE X o td) (he:PE X e ty) (m:M1 X o "update" apos e cpos:=by exact ⟨rfl,rfl,rfl,rfl⟩):PE X (.Call (.Attribute o "update" apos) [e] [] cpos) (tDUpd td ty):=by
 intro pins s σ H Q I h
 refine wpAny_Call_method m.base m.few m.line PySem.F.plainAttrs_dict PySem.F.slot_dict_update PySem.F.type_dict_update (thn (ho pins s σ H _ I h) fun u s1 ⟨x,H1,I1,rx,a,ex,d,q1⟩=>?_)
 subst ex
 obtain rfl:u = Value.ref a:=rx
 obtain ⟨t1,t2,_⟩:=jqo I1 d
 refine ⟨t1,t2,?_⟩
 rw [m.trees]
 refine Calls.callWith_builtin rfl (Calls.evalArgs_plain (Calls.spliced_cons (thn (he pins s1 σ H1 _ I1 q1) fun iv s2 ⟨y,H2,I2,ry,b,kvs,more,ey,hab,ea,eb,hl,q2⟩=>Calls.spliced_nil ?_)))
 subst ey
 obtain rfl:iv = Value.ref b:=ry
 obtain ⟨z1,lo1,vs1,rel1,dd1⟩:=jmq I2.hok ea
 obtain ⟨z2,lo2,vs2,rel2,dd2⟩:=jmq I2.hok eb
 have h1000:(1000:Nat) ≤ sizeLine:=by decide
 refine call_meetsIn PySem.F.slot_dict_update dd1.typeIs PySem.F.entry_dict_update (PySem.F.args_dict_update_2 _ _) (meets_dict_update (jbz X.prog X.w) a b hab lo2)
  ⟨vs1,vs2,dd1,dd2,by rw [← rel1.length,← rel2.length]; omega,fun h' dd' _ hs=>?_⟩
 have hm:=jdf more kvs
 have he:∃ q,h'.get? a = some q:=let ⟨q,_,_,hq,_⟩:=dd'; ⟨q,hq⟩
 exact ⟨.non,_,jib I2 (by rw [ea]; exact True.intro) hs he (jm1 (by omega) lo1 (rel2.merge rel1) dd'),rfl,q2⟩
theorem q_pop {X:Cx}:MtR X "list.pop" rPop:=fun pins s σ H x xs v us Q I rx rv q=>mt_pop pins s σ H x xs v us Q I rx rv q
end L2
namespace L2
open PySem PySem.Spec PyProof.Rows
section
variable {X:Cx}
def jb4:V→List V→Hp→VK→Prop:=fun x vs H Q=>match x,vs with
 | .ref l,[.int k,y]=>match H l with
  | some (.lst xs)=>(0 ≤ k∧k ≤ xs.length∧xs.length < 1000)∧Q .non (upd H l (.lst (xs.take k.toNat ++ y :: xs.drop k.toNat)))
  | _=>False
 | _,_=>False
def joh (tl:TE):TI:=fun σ H R=>tl σ H fun v H1=>∃ d kvs o,v = .ref d∧H1 d = some (.frz o (.dK kvs))∧R (Itd d o kvs) H1
theorem jfb {tg l:Expr} {tl:TE} (hl:PE X l tl):PI X tg l (joh tl):=by
 intro pins s σ H R I h
 refine thn (hl pins s σ H _ I h) fun v s1 ⟨x,H1,I1,r1,q1⟩=>?_
 obtain ⟨d,kvs,o,e,hd,q⟩:=q1
 subst e
 cases r1
 obtain ⟨eo,hk⟩:=(show s1.heap.get? d = some o∧_ from I1.hok _ _ hd)
 obtain ⟨z,lo,vs,rel,dd⟩:=hk
 obtain ⟨ep,hat⟩:=dd.dictAt
 obtain ⟨o',es,eo',rest⟩:=id hat
 obtain rfl:o = o':=Option.some.inj (eo.symm.trans eo')
 have hdl:d < s1.heap.objs.size:=Heap.lt_size eo
 refine wpAny_pyIter_dict lo hat ?_
 refine ⟨s1.heap.objs.size,[s1.heap.objs.size],_,_,_,rfl,I1.kept (t':=s1.toks) fun b o e=>Heap.get?_push_of_some _ e,jiv d _ o kvs vs ep (Nat.ne_of_lt hdl) rel fun h e=>⟨o,es,e,rest⟩,⟨_,Heap.get?_push_size _ rfl,rfl,rfl⟩,fun b hb=>?_,q⟩
 have e:b = s1.heap.objs.size:=by simpa using hb
 subst e
 exact I1.fpOk (Nat.le_refl _) (I1.hok.fresh (Nat.le_refl _))
end
end L2
namespace My
open PySem L2
theorem sl0:(0 ≤ sizeLine) = True:=eq_true (by decide)
theorem sl1:(1 ≤ sizeLine) = True:=eq_true (by decide)
theorem sl2:(2 ≤ sizeLine) = True:=eq_true (by decide)
theorem sl3:(3 ≤ sizeLine) = True:=eq_true (by decide)
theorem sl4:(4 ≤ sizeLine) = True:=eq_true (by decide)
end My
local macro_rules | `(tactic| walk_at "RD") => `(tactic| try simp only [L2.jb4, L2.fIsB, L2.tSeq, L2.jaw, L2.jax, L2.tRet, L2.jb2, L2.tIfS, L2.tAsg, L2.jal, L2.fAug, L2.tOp, L2.tUn, L2.tC, L2.fVar, L2.fI, L2.fIC, L2.fNeg, L2.fEq, L2.fNe, L2.fIsN, L2.jao, L2.fAnd, L2.fOr, L2.fNot, L2.fB, L2.tNot, L2.tAnd, L2.tOr, L2.jab, L2.fIx, L2.fLen, L2.ja2, L2.fMin, L2.fMax, L2.fInL, L2.fSlL, L2.tSl, L2.jaz, L2.ja4, L2.ja3, L2.fBM, L2.jar, L2.gSub, L2.jau, L2.ja7, L2.jat, L2.jb7, L2.jad, L2.jaa, L2.ja9, L2.fCat, L2.jaf, L2.fBM0, L2.fSlT, L2.jas, L2.tCBK, L2.fDIn, L2.jb1, L2.fIsi, L2.jag, L2.ja8, L2.fLtT, L2.jay, L2.tCB, L2.jap, L2.tNil, L2.tTup, L2.tLst, L2.tIf, L2.jav, L2.Kd.nm, L2.jam, List.map_cons, List.map_nil, List.length_cons, List.length_nil, Nat.reduceAdd, Nat.reduceSub, List.replicate_succ, List.replicate_zero, List.getElem?_cons_zero, List.getElem?_cons_succ, List.set_cons_zero, List.set_cons_succ, List.append_nil, List.nil_append, List.cons_append, eq_self, true_and, and_true, if_true, Bool.false_eq_true, if_false, Bool.not_true, Bool.not_false, id_eq, My.sl0, My.sl1, My.sl2, My.sl3, My.sl4])
local macro_rules | `(tactic| simp_arith [$args,*]) => `(tactic| try simp only [L2.jb4, L2.fIsB, L2.tSeq, L2.jaw, L2.jax, L2.tRet, L2.jb2, L2.tIfS, L2.tAsg, L2.jal, L2.fAug, L2.tOp, L2.tUn, L2.tC, L2.fVar, L2.fI, L2.fIC, L2.fNeg, L2.fEq, L2.fNe, L2.fIsN, L2.jao, L2.fAnd, L2.fOr, L2.fNot, L2.fB, L2.tNot, L2.tAnd, L2.tOr, L2.jab, L2.fIx, L2.fLen, L2.ja2, L2.fMin, L2.fMax, L2.fInL, L2.fSlL, L2.tSl, L2.jaz, L2.ja4, L2.ja3, L2.fBM, L2.jar, L2.gSub, L2.jau, L2.ja7, L2.jat, L2.jb7, L2.jad, L2.jaa, L2.ja9, L2.fCat, L2.jaf, L2.fBM0, L2.fSlT, L2.jas, L2.tCBK, L2.fDIn, L2.jb1, L2.fIsi, L2.jag, L2.ja8, L2.fLtT, L2.jay, L2.tCB, L2.jap, L2.tNil, L2.tTup, L2.tLst, L2.tIf, L2.jav, L2.Kd.nm, L2.jam, List.map_cons, List.map_nil, List.length_cons, List.length_nil, Nat.reduceAdd, Nat.reduceSub, List.replicate_succ, List.replicate_zero, List.getElem?_cons_zero, List.getElem?_cons_succ, List.set_cons_zero, List.set_cons_succ, List.append_nil, List.nil_append, List.cons_append, eq_self, true_and, and_true, if_true, Bool.false_eq_true, if_false, Bool.not_true, Bool.not_false, id_eq, My.sl0, My.sl1, My.sl2, My.sl3, My.sl4, $args,*])
namespace My
open PySem L2
theorem szl {n:Nat} (h:n ≤ 1000):n ≤ sizeLine:=Nat.le_trans h (by decide)
theorem szl' {n:Nat} (h:n ≤ 1000):n < sizeLine:=Nat.lt_of_le_of_lt h (by decide)
def top (i:Nat):Stmt:=PySem.Challenge.pw_touchall_k61_whole_two_sets_hold_all.main.body.getD i (.Pass ⟨0,0,0,0⟩)
structure DefAt (K:PySem.W.Frag) (mg:Str→Option Value) (x:Str) (st:Stmt) (ps:List Str) (f:Addr) (fd:FuncData):Prop where
 F:Fun K x x st f fd
 b:jei K fd ps []
 m:mg x = some (.ref f)
structure Blt (mg:Str→Option Value):Prop where
 len:mg "len" = none
 isinstance:mg "isinstance" = none
 all:mg "all" = none
 min:mg "min" = none
 list:mg "list" = none
 dict:mg "dict" = none
 int:mg "int" = none
 bool:mg "bool" = none
 str:mg "str" = none
 tuple:mg "tuple" = none
 range:mg "range" = none
 enumerate:mg "enumerate" = none
 zip:mg "zip" = none
 max:mg "max" = none
 any:mg "any" = none
 sum:mg "sum" = none
 sorted:mg "sorted" = none
structure Cst (mg:Str→Option Value) (t1 t2 t3 t4:Tok):Prop where
 MOST_PLACES:mg "MOST_PLACES" = some (.int 40 t1)
 MOST_TIES:mg "MOST_TIES" = some (.int 120 t2)
 LAST_PLACE:mg "LAST_PLACE" = some (.int 999 t3)
 MOST_PRICE:mg "MOST_PRICE" = some (.int 1000000000000 t4)
section
variable {P:Program} {w:World} {K:PySem.W.Frag} {mg:Str→Option Value} {base:Heap} {c1 c2 c3 c4:Tok}
theorem at0 {α:Type} {x:α} {r:List α}:atI (x :: r) 0 = some x:=by
 have e:atI (x :: r) ((0:Nat):Int) = some x:=jci rfl
 exact e
theorem at1 {α:Type} {x y:α} {r:List α}:atI (x :: y :: r) 1 = some y:=by
 have e:atI (x :: y :: r) ((1:Nat):Int) = some y:=jci rfl
 exact e
theorem at2 {α:Type} {x y z:α} {r:List α}:atI (x :: y :: z :: r) 2 = some z:=by
 have e:atI (x :: y :: z :: r) ((2:Nat):Int) = some z:=jci rfl
 exact e
def jmt:Kd→Bool
 | .int=>true
 | _=>false
def jn2:Sp:=fun vs H Q _=>∃ x k,vs = [x]∧kd H x = some k∧Q (.bl (jmt k)) H
def jfm:Sp:=fun vs H Q _=>∃ a xs m,vs = [.ref a,.int m]∧H a = some (.tup xs)∧Q (.bl (decide ((xs.length:Int) = m))) H
def jek:Sp:=fun vs H Q _=>∃ a xs m,vs = [.ref a,.int m]∧H a = some (.lst xs)∧Q (.bl (decide ((xs.length:Int) ≤ m))) H
def jn7:Sp:=fun vs H Q _=>∃ x p,vs = [x]∧Pr H x p∧Q (.bl true) H
def je3:Sp:=fun vs H Q _=>∃ x p l s,vs = [x,.int l,.int s]∧Pr H x p∧(l < p.1∧p.1 ≤ 999∧1 ≤ p.2∧p.2 ≤ 1000000000000 - s)∧Q (.bl true) H
def hasK (kvs:List (Key × V)) (n:Int):Bool:=(valV kvs (Sum.inl n:Key)).isSome
def jfn:Sp:=fun vs H Q _=>∃ x p y q d kvs,vs = [x,y,.ref d]∧Pr H x p∧Pr H y q∧H d = some (.dK kvs)∧(HT.lexLt [q.1,q.2] [p.1,p.2] = true∧p.1 < p.2∧hasK kvs p.1 = true∧hasK kvs p.2 = true)∧Q (.bl true) H
theorem jkq {f:Addr} {fd:FuncData}  (B:Blt mg) (D:DefAt K mg "is_whole" (top 11) ["thing"] f fd):FnOk P w K mg base CX0 1 f fd ["thing"] jn2:=by
 have sc:FnScope ["thing"] ["thing"] (jbc (top 11)):=⟨rfl,rfl,rfl,by decide +kernel,rfl,by decide +kernel,by decide +kernel⟩
 refine D.F.ok sc (fun vs H Q E h=>?_) (fun cdv A outer s H vs Q E hr h=>?_)
 ·obtain ⟨x,k,rfl,_⟩:=h
  rfl
 obtain ⟨x,k,rfl,ek,h⟩:=h
 have hu:=jcb hr
 have hu0:_ < PySem.cLine:=Nat.lt_of_succ_lt hu
 refine ⟨_,(jan (jbq (jfq (jbp (jpe .int) rfl B.isinstance PyProof.Rows.boot_isinstance (ja0 (qv 0) (ja0 (jhw (v:=.ty "int") rfl B.int PyProof.Rows.boot_int rfl) jah))) (jex (q_not (jbp (jpe .bl) rfl B.isinstance PyProof.Rows.boot_isinstance (ja0 (qv 0) (ja0 (jhw (v:=.ty "bool") rfl B.bool PyProof.Rows.boot_bool rfl) jah)))))))),?_⟩
 simp_arith [ek]
 cases k <;> simpa only [isi,jmt,if_true,if_false,Bool.false_eq_true,Bool.not_true,Bool.not_false] using h
theorem jgi {f:Addr} {fd:FuncData}  (B:Blt mg) (D:DefAt K mg "is_tuple_of" (top 12) ["thing","many"] f fd):FnOk P w K mg base CX0 1 f fd ["thing","many"] jfm:=by
 have sc:FnScope ["thing","many"] ["thing","many"] (jbc (top 12)):=⟨rfl,rfl,rfl,by decide +kernel,rfl,by decide +kernel,by decide +kernel⟩
 refine D.F.ok sc (fun vs H Q E h=>?_) (fun cdv A outer s H vs Q E hr h=>?_)
 ·obtain ⟨a,xs,m,rfl,_⟩:=h
  rfl
 obtain ⟨a,xs,m,rfl,ea,h⟩:=h
 have hu:=jcb hr
 have hu0:_ < PySem.cLine:=Nat.lt_of_succ_lt hu
 refine ⟨_,(jan (jbq (jfq (jbp (jpe .tup) rfl B.isinstance PyProof.Rows.boot_isinstance (ja0 (qv 0) (ja0 (jhw (v:=.ty "tuple") rfl B.tuple PyProof.Rows.boot_tuple rfl) jah))) (jex (jch q_eq (jbp jfp rfl B.len PySem.boot_len (ja0 (qv 0) jah)) (qv 1) (jbv _)))))),?_⟩
 simp_arith [kd,ea,jbl,isi]
 exact h
theorem jf2 {f:Addr} {fd:FuncData}  (B:Blt mg) (D:DefAt K mg "is_list_up_to" (top 14) ["thing","most"] f fd):FnOk P w K mg base CX0 1 f fd ["thing","most"] jek:=by
 have sc:FnScope ["thing","most"] ["thing","most"] (jbc (top 14)):=⟨rfl,rfl,rfl,by decide +kernel,rfl,by decide +kernel,by decide +kernel⟩
 refine D.F.ok sc (fun vs H Q E h=>?_) (fun cdv A outer s H vs Q E hr h=>?_)
 ·obtain ⟨a,xs,m,rfl,_⟩:=h
  rfl
 obtain ⟨a,xs,m,rfl,ea,h⟩:=h
 have hu:=jcb hr
 have hu0:_ < PySem.cLine:=Nat.lt_of_succ_lt hu
 refine ⟨_,(jan (jbq (jfq (jbp (jpe .lst) rfl B.isinstance PyProof.Rows.boot_isinstance (ja0 (qv 0) (ja0 (jhw (v:=.ty "list") rfl B.list PyProof.Rows.boot_list rfl) jah))) (jex (jch q_le (jbp jfp rfl B.len PySem.boot_len (ja0 (qv 0) jah)) (qv 1) (jbv _)))))),?_⟩
 simp_arith [kd,ea,jbl,isi]
 exact h
theorem jdt {f:Addr} {fd:FuncData} {f_is_tuple_of:Addr} {d_is_tuple_of:FuncData} {f_is_whole:Addr} {d_is_whole:FuncData} (B:Blt mg) (D:DefAt K mg "is_pair_of_wholes" (top 13) ["thing"] f fd) (D_is_tuple_of:DefAt K mg "is_tuple_of" (top 12) ["thing","many"] f_is_tuple_of d_is_tuple_of) (G_is_tuple_of:FnOk P w K mg base CX0 1 f_is_tuple_of d_is_tuple_of ["thing","many"] jfm) (D_is_whole:DefAt K mg "is_whole" (top 11) ["thing"] f_is_whole d_is_whole) (G_is_whole:FnOk P w K mg base CX0 1 f_is_whole d_is_whole ["thing"] jn2):FnOk P w K mg base CX0 2 f fd ["thing"] jn7:=by
 have sc:FnScope ["thing"] ["thing"] (jbc (top 13)):=⟨rfl,rfl,rfl,by decide +kernel,rfl,by decide +kernel,by decide +kernel⟩
 refine D.F.ok sc (fun vs H Q E h=>?_) (fun cdv A outer s H vs Q E hr h=>?_)
 ·obtain ⟨x,p,rfl,_⟩:=h
  rfl
 obtain ⟨x,p,rfl,⟨a,rfl,ea⟩,h⟩:=h
 have hu:=jcb hr
 have hu0:_ < PySem.cLine:=Nat.lt_of_succ_lt hu
 refine ⟨_,(jan (jbq (jfq (jbg G_is_tuple_of (hr.mono (by decide)) rfl D_is_tuple_of.m D_is_tuple_of.F.kp D_is_tuple_of.b .nil jbt (ja0 (qv 0) (ja0 jak jah))) (jfq (jbg G_is_whole (hr.mono (by decide)) rfl D_is_whole.m D_is_whole.F.kp D_is_whole.b .nil jbt (ja0 (jbk q_ix (qv 0) jak (fun _ _=>rfl)) jah)) (jex (jbg G_is_whole (hr.mono (by decide)) rfl D_is_whole.m D_is_whole.F.kp D_is_whole.b .nil jbt (ja0 (jbk q_ix (qv 0) jak (fun _ _=>rfl)) jah))))))),?_⟩
 simp_arith [jbl,ea,at0,at1]
 refine ⟨a,_,2,rfl,ea,?_⟩
 simp_arith [jbl,ea,at0,at1,Int.cast_ofNat_Int,decide_true]
 refine ⟨_,.int,rfl,rfl,?_⟩
 simp_arith [jmt,jbl,ea,at0,at1]
 exact ⟨_,.int,rfl,rfl,h⟩
theorem jfv {f:Addr} {fd:FuncData} {f_is_pair_of_wholes:Addr} {d_is_pair_of_wholes:FuncData} (B:Blt mg) (C:Cst mg c1 c2 c3 c4) (D:DefAt K mg "place_stands" (top 21) ["thing","last","spent"] f fd) (D_is_pair_of_wholes:DefAt K mg "is_pair_of_wholes" (top 13) ["thing"] f_is_pair_of_wholes d_is_pair_of_wholes) (G_is_pair_of_wholes:FnOk P w K mg base CX0 2 f_is_pair_of_wholes d_is_pair_of_wholes ["thing"] jn7):FnOk P w K mg base CX0 3 f fd ["thing","last","spent"] je3:=by
 have sc:FnScope ["thing","last","spent"] ["thing","last","spent"] (jbc (top 21)):=⟨rfl,rfl,rfl,by decide +kernel,rfl,by decide +kernel,by decide +kernel⟩
 refine D.F.ok sc (fun vs H Q E h=>?_) (fun cdv A outer s H vs Q E hr h=>?_)
 ·obtain ⟨x,p,l,s,rfl,_⟩:=h
  rfl
 obtain ⟨x,p,l,sp,rfl,hp,⟨b1,b2,b3,b4⟩,h⟩:=h
 obtain ⟨a,rfl,ea⟩:=id hp
 have hu:=jcb hr
 have hu0:_ < PySem.cLine:=Nat.lt_of_succ_lt hu
 refine ⟨_,(ja5 (jct (jfs (jew (jbg G_is_pair_of_wholes (hr.mono (by decide)) rfl D_is_pair_of_wholes.m D_is_pair_of_wholes.F.kp D_is_pair_of_wholes.b .nil jbt (ja0 (qv 0) jah)))) (jan (jbq jft)) jbu) (jan (jbq (jfq (jno q_lt q_le (qv 1) (jbk q_ix (qv 0) jak (fun _ _=>rfl)) (jcy (v:=.int 999) rfl C.LAST_PLACE ⟨_,rfl⟩)) (jex (jno q_le q_le jak (jbk q_ix (qv 0) jak (fun _ _=>rfl)) (jc6 q_sub (jcy (v:=.int 1000000000000) rfl C.MOST_PRICE ⟨_,rfl⟩) (qv 2)))))))),?_⟩
 walk_at "RD"
 refine ⟨_,p,rfl,hp,?_⟩
 simp_arith [jbl,ea,at0,at1,decide_eq_true b1,decide_eq_true b2,decide_eq_true b3,decide_eq_true b4]
 exact h
theorem jhy {f:Addr} {fd:FuncData} {f_is_pair_of_wholes:Addr} {d_is_pair_of_wholes:FuncData} (B:Blt mg) (D:DefAt K mg "tie_stands" (top 22) ["thing","last","prices"] f fd) (D_is_pair_of_wholes:DefAt K mg "is_pair_of_wholes" (top 13) ["thing"] f_is_pair_of_wholes d_is_pair_of_wholes) (G_is_pair_of_wholes:FnOk P w K mg base CX0 2 f_is_pair_of_wholes d_is_pair_of_wholes ["thing"] jn7):FnOk P w K mg base CX0 3 f fd ["thing","last","prices"] jfn:=by
 have sc:FnScope ["thing","last","prices"] ["thing","last","prices"] (jbc (top 22)):=⟨rfl,rfl,rfl,by decide +kernel,rfl,by decide +kernel,by decide +kernel⟩
 refine D.F.ok sc (fun vs H Q E h=>?_) (fun cdv A outer s H vs Q E hr h=>?_)
 ·obtain ⟨x,p,y,q,d,kvs,rfl,_⟩:=h
  rfl
 obtain ⟨x,p,y,q,d,kvs,rfl,hp,hq,hd,⟨b1,b2,b3,b4⟩,h⟩:=h
 obtain ⟨a,rfl,ea⟩:=id hp
 obtain ⟨b,rfl,eb⟩:=id hq
 unfold hasK at b3 b4
 have hu:=jcb hr
 have hu0:_ < PySem.cLine:=Nat.lt_of_succ_lt hu
 refine ⟨_,(ja5 (jct (jfs (jew (jbg G_is_pair_of_wholes (hr.mono (by decide)) rfl D_is_pair_of_wholes.m D_is_pair_of_wholes.F.kp D_is_pair_of_wholes.b .nil jbt (ja0 (qv 0) jah)))) (jan (jbq jft)) jbu) (jan (jbq (jfq (jch (q_ltT hu0) (qv 1) (qv 0) (jbv _)) (jfq (jch q_lt (jbk q_ix (qv 0) jak (fun _ _=>rfl)) (jbk q_ix (qv 0) jak (fun _ _=>rfl)) (jbv _)) (jfq (jlp (jj4 hu (jbk q_ix (qv 0) jak (fun _ _=>rfl)) (qv 2))) (jex (jlp (jj4 hu (jbk q_ix (qv 0) jak (fun _ _=>rfl)) (qv 2)))))))))),?_⟩
 walk_at "RD"
 refine ⟨_,p,rfl,hp,?_⟩
 simp_arith [jbl,ea,eb,hd,at0,at1,b1,decide_eq_true b2,b3,b4]
 exact h
end
end My
namespace My
open PySem L2
section
variable {P:Program} {w:World} {K:PySem.W.Frag} {mg:Str→Option Value} {base:Heap} {c1 c2 c3 c4:Tok}
def PlOk:Int→Int→List (Int × Int)→Prop
 | _,_,[]=>True
 | l,s,p :: r=>(l < p.1∧p.1 ≤ 999∧1 ≤ p.2∧p.2 ≤ 1000000000000 - s)∧PlOk p.1 (s + p.2) r
def jc8 (ps:List (Int × Int)):List (Key × V):=ps.map fun p=>(Sum.inl p.1,V.int p.2)
def TiOk (kvs:List (Key × V)):Int × Int→List (Int × Int)→Prop
 | _,[]=>True
 | q,p :: r=>(HT.lexLt [q.1,q.2] [p.1,p.2] = true∧p.1 < p.2∧hasK kvs p.1 = true∧hasK kvs p.2 = true)∧TiOk kvs p r
structure WebOk (ps ts:List (Int × Int)):Prop where
 pl:ps.length ≤ 40
 p:PlOk (-1) 0 ps
 tl:ts.length ≤ 120
 t:TiOk (jc8 ps) (-1,-1) ts
def jdj (H:Hp) (v:V) (ps ts:List (Int × Int)):Prop :=
 ∃ u pa ta xs ys,v = .ref u∧H u = some (.tup [.ref pa,.ref ta])∧H pa = some (.lst xs)∧H ta = some (.lst ys)∧Prs H xs ps∧Prs H ys ts
theorem jdj.same {H H':Hp} {v:V} {ps ts:List (Int × Int)} (h:jdj H v ps ts) (s:Same H H'):jdj H' v ps ts:=by
 obtain ⟨u,pa,ta,xs,ys,e,h1,h2,h3,h4,h5⟩:=h
 exact ⟨u,pa,ta,xs,ys,e,s _ _ h1,s _ _ h2,s _ _ h3,Prs.same s h4,Prs.same s h5⟩
theorem PlOk.gt:∀ {ps:List (Int × Int)} {l s:Int},PlOk l s ps→∀ p ∈ ps,l < p.1
 | [],_,_,_,_,h=>by cases h
 | q :: r,l,s,h,p,hp=>by
  rcases List.mem_cons.mp hp with e | hp
  ·rw [e]; exact h.1.1
  ·have:=PlOk.gt h.2 p hp
   have:=h.1.1
   omega
theorem PlOk.nodup:∀ {ps:List (Int × Int)} {l s:Int},PlOk l s ps→(ps.map (·.1)).Nodup
 | [],_,_,_=>List.nodup_nil
 | q :: r,l,s,h=>by
  rw [List.map_cons]
  refine List.nodup_cons.mpr ⟨fun hm=>?_,PlOk.nodup h.2⟩
  obtain ⟨p,hp,e⟩:=List.mem_map.mp hm
  have:=PlOk.gt h.2 p hp
  omega
theorem jh3 {ps:List (Int × Int)} (h:(ps.map (·.1)).Nodup):((jc8 ps).map (·.1)).Nodup:=by
 unfold jc8
 rw [List.map_map]
 have e:((fun (x:Key × V)=>x.1) ∘ fun (p:Int × Int)=>((Sum.inl p.1:Key),V.int p.2)) = (fun (n:Int)=>(Sum.inl n:Key)) ∘ fun (p:Int × Int)=>p.1:=rfl
 rw [e,← List.map_map]
 unfold List.Nodup at h ⊢
 rw [List.pairwise_map]
 exact h.imp fun q z=>q (Sum.inl.inj z)
theorem jhx {H:Hp}:∀ {xs:List V} {ps:List (Int × Int)},Prs H xs ps→Paired (PairAt H) xs (jc8 ps)
 | _,_,.nil=>.nil
 | _,_,.cons r t=>by
  obtain ⟨a,e,q⟩:=r
  exact .cons ⟨a,e,q⟩ (jhx t)
theorem jhf:∀ {ps:List (Int × Int)} {p:Int × Int},(ps.map (·.1)).Nodup→p ∈ ps→valV (jc8 ps) (Sum.inl p.1:Key) = some (.int p.2)
 | [],_,_,h=>by cases h
 | q :: r,p,hn,h=>by
  rw [List.map_cons] at hn
  unfold jc8 valV
  rw [List.map_cons,List.find?_cons]
  rcases List.mem_cons.mp h with e | h
  ·rw [e]
   simp
  ·have hne:q.1 ≠ p.1:=fun z=>(List.nodup_cons.mp hn).1 (by rw [z]; exact List.mem_map_of_mem h)
   have hd:decide ((Sum.inl q.1:Key) = Sum.inl p.1) = false:=decide_eq_false fun z=>hne (Sum.inl.inj z)
   dsimp only
   rw [hd]
   exact jhf (List.nodup_cons.mp hn).2 h
theorem js0 {ps:List (Int × Int)} {p:Int × Int} (hn:(ps.map (·.1)).Nodup) (h:p ∈ ps):hasK (jc8 ps) p.1 = true:=by
 unfold hasK
 rw [jhf hn h]
 rfl
def jev:Sp:=fun vs H Q _=>∃ a xs ps,vs = [.ref a]∧H a = some (.lst xs)∧Prs H xs ps∧ps.length ≤ 40∧PlOk (-1) 0 ps∧∀ H',Same H H'→Q .non H'
def jgs:Sp:=fun vs H Q _=>∃ a d xs ts kvs,vs = [.ref a,.ref d]∧H a = some (.lst xs)∧H d = some (.dK kvs)∧Prs H xs ts∧ts.length ≤ 120∧TiOk kvs (-1,-1) ts∧∀ H',Same H H'→Q .non H'
def jiy:Sp:=fun vs H Q _=>∃ v ps ts,vs = [v]∧jdj H v ps ts∧WebOk ps ts∧∀ H',Same H H'→Q .non H'
theorem jeo {f:Addr} {fd:FuncData} {f_is_list_up_to:Addr} {d_is_list_up_to:FuncData} {f_place_stands:Addr} {d_place_stands:FuncData} (B:Blt mg) (C:Cst mg c1 c2 c3 c4) (D:DefAt K mg "look_at_places" (top 23) ["places"] f fd) (D_is_list_up_to:DefAt K mg "is_list_up_to" (top 14) ["thing","most"] f_is_list_up_to d_is_list_up_to) (G_is_list_up_to:FnOk P w K mg base CX0 1 f_is_list_up_to d_is_list_up_to ["thing","most"] jek) (D_place_stands:DefAt K mg "place_stands" (top 21) ["thing","last","spent"] f_place_stands d_place_stands) (G_place_stands:FnOk P w K mg base CX0 3 f_place_stands d_place_stands ["thing","last","spent"] je3):FnOk P w K mg base CX0 4 f fd ["places"] jev:=by
 have sc:FnScope ["places","last","spent","number","thing"] ["places"] (jbc (top 23)):=⟨rfl,rfl,rfl,by decide +kernel,rfl,by decide +kernel,by decide +kernel⟩
 refine D.F.ok sc (fun vs H Q E h=>?_) (fun cdv A outer s H vs Q E hr h=>?_)
 ·obtain ⟨a,xs,ps,rfl,_⟩:=h
  rfl
 obtain ⟨a,xs,ps,rfl,ea,hp,hl,ok,h⟩:=h
 have hlx:xs.length = ps.length:=Paired.length hp
 have hu:=jcb hr
 have hu0:_ < PySem.cLine:=Nat.lt_of_succ_lt hu
 refine ⟨_,(ja5 (jct (jfs (jew (jbg G_is_list_up_to (hr.mono (by decide)) rfl D_is_list_up_to.m D_is_list_up_to.F.kp D_is_list_up_to.b .nil jbt (ja0 (qv 0) (ja0 (jcy (v:=.int 40) rfl C.MOST_PLACES ⟨_,rfl⟩) jah))))) (jan jdq) jbu) (ja5 (jbe (i:=1) sc.nd rfl (Or.inl rfl) (jpi jpd jak)) (ja5 (jbe (i:=2) sc.nd rfl (Or.inl rfl) jak) (jan (jca PassesOwn.never rfl (jke rfl B.enumerate (ja0 (qv 0) jah)) (jcr (n:=2) rfl (jbf (jbb (i:=3) sc.nd rfl (Or.inl rfl)) (jbf (jbb (i:=4) sc.nd rfl (Or.inl rfl)) jcc))) (ja5 (jct (jfs (jew (jbg G_place_stands (hr.mono (by decide)) rfl D_place_stands.m D_place_stands.F.kp D_place_stands.b .nil jbt (ja0 (qv 4) (ja0 (qv 1) (ja0 (qv 2) jah)))))) (jan jdq) jbu) (ja5 (jbe (i:=1) sc.nd rfl (Or.inl rfl) (jbk q_ix (qv 4) jak (fun _ _=>rfl))) (jan (jlh (i:=2) sc.nd rfl (Or.inl rfl) (jbk q_ix (qv 4) jak (fun _ _=>rfl)) jlj))))))))),?_⟩
 walk_at "RD"
 refine ⟨a,xs,40,rfl,ea,?_⟩
 rw [decide_eq_true (show (xs.length:Int) ≤ 40 by omega)]
 walk_at "RD"
 refine ⟨a,rfl,⟨xs,SqL.of ea⟩,jlz (K:=K) (a:=a) (xs:=xs) (fun i σ H1=>∃ l sp nb th,σ = [some (.ref a),some (.int l),some (.int sp),nb,th]∧Same H H1∧PlOk l sp (ps.drop i)) ⟨-1,0,none,none,rfl,Same.refl _,ok⟩ (fun i σ H1 _ ⟨_,_,_,_,_,s1,_⟩=>SqL.of (s1 _ _ ea)) ?_ ?_⟩
 ·rintro i x σ H1 t hi ⟨l,sp,nb,th,rfl,s1,ok1⟩ ht
  obtain ⟨p,hpi,px⟩:=jbi hp hi
  rw [jm0 hpi] at ok1
  have s2:Same H (upd H1 t (.tup [.int i,x])):=s1.trans (jai ht _)
  have px2:=px.same s2
  obtain ⟨u,rfl,eu⟩:=id px2
  simp_arith [ja1]
  refine ⟨_,p,l,sp,rfl,px2,ok1.1,?_⟩
  simp_arith [jbl,eu,at0,at1]
  exact ⟨_,_,_,_,rfl,s2,ok1.2⟩
 ·rintro σ H1 ⟨l,sp,nb,th,rfl,s1,_⟩
  exact h H1 s1
theorem jfw {f:Addr} {fd:FuncData} {f_is_list_up_to:Addr} {d_is_list_up_to:FuncData} {f_tie_stands:Addr} {d_tie_stands:FuncData} (B:Blt mg) (C:Cst mg c1 c2 c3 c4) (D:DefAt K mg "look_at_ties" (top 24) ["ties","prices"] f fd) (D_is_list_up_to:DefAt K mg "is_list_up_to" (top 14) ["thing","most"] f_is_list_up_to d_is_list_up_to) (G_is_list_up_to:FnOk P w K mg base CX0 1 f_is_list_up_to d_is_list_up_to ["thing","most"] jek) (D_tie_stands:DefAt K mg "tie_stands" (top 22) ["thing","last","prices"] f_tie_stands d_tie_stands) (G_tie_stands:FnOk P w K mg base CX0 3 f_tie_stands d_tie_stands ["thing","last","prices"] jfn):FnOk P w K mg base CX0 4 f fd ["ties","prices"] jgs:=by
 have sc:FnScope ["ties","prices","last","number","thing"] ["ties","prices"] (jbc (top 24)):=⟨rfl,rfl,rfl,by decide +kernel,rfl,by decide +kernel,by decide +kernel⟩
 refine D.F.ok sc (fun vs H Q E h=>?_) (fun cdv A outer s H vs Q E hr h=>?_)
 ·obtain ⟨a,d,xs,ts,kvs,rfl,_⟩:=h
  rfl
 obtain ⟨a,d,xs,ts,kvs,rfl,ea,ed,hp,hl,ok,h⟩:=h
 have hlx:xs.length = ts.length:=Paired.length hp
 have hu:=jcb hr
 have hu0:_ < PySem.cLine:=Nat.lt_of_succ_lt hu
 refine ⟨_,(ja5 (jct (jfs (jew (jbg G_is_list_up_to (hr.mono (by decide)) rfl D_is_list_up_to.m D_is_list_up_to.F.kp D_is_list_up_to.b .nil jbt (ja0 (qv 0) (ja0 (jcy (v:=.int 120) rfl C.MOST_TIES ⟨_,rfl⟩) jah))))) (jan jdq) jbu) (ja5 (jbe (i:=2) sc.nd rfl (Or.inl rfl) (jd6 (ja0 (jpi jpd jak) (ja0 (jpi jpd jak) jah)))) (jan (jca PassesOwn.never rfl (jke rfl B.enumerate (ja0 (qv 0) jah)) (jcr (n:=2) rfl (jbf (jbb (i:=3) sc.nd rfl (Or.inl rfl)) (jbf (jbb (i:=4) sc.nd rfl (Or.inl rfl)) jcc))) (ja5 (jct (jfs (jew (jbg G_tie_stands (hr.mono (by decide)) rfl D_tie_stands.m D_tie_stands.F.kp D_tie_stands.b .nil jbt (ja0 (qv 4) (ja0 (qv 2) (ja0 (qv 1) jah)))))) (jan jdq) jbu) (jan (jbe (i:=2) sc.nd rfl (Or.inl rfl) (qv 4)))))))),?_⟩
 walk_at "RD"
 refine ⟨a,xs,120,rfl,ea,?_⟩
 rw [decide_eq_true (show (xs.length:Int) ≤ 120 by omega)]
 walk_at "RD"
 intro t0 ht0
 refine ⟨a,rfl,⟨xs,SqL.of (jai ht0 _ _ _ ea)⟩,jlz (K:=K) (a:=a) (xs:=xs) (fun i σ H1=>∃ lv q nb th,σ = [some (.ref a),some (.ref d),some lv,nb,th]∧Same H H1∧Pr H1 lv q∧TiOk kvs q (ts.drop i)) ⟨_,(-1,-1),none,none,rfl,jai ht0 _,⟨t0,rfl,ja1⟩,ok⟩ (fun i σ H1 _ ⟨_,_,_,_,_,s1,_⟩=>SqL.of (s1 _ _ ea)) ?_ ?_⟩
 ·rintro i x σ H1 t hi ⟨lv,q,nb,th,rfl,s1,pq,ok1⟩ ht
  obtain ⟨p,hpi,px⟩:=jbi hp hi
  rw [jm0 hpi] at ok1
  have s2:Same H (upd H1 t (.tup [.int i,x])):=s1.trans (jai ht _)
  have px2:=px.same s2
  simp_arith [ja1]
  refine ⟨_,p,_,q,d,kvs,rfl,px2,pq.same (jai ht _),s2 _ _ ed,ok1.1,?_⟩
  walk_at "RD"
  exact ⟨_,_,_,_,rfl,s2,px2,ok1.2⟩
 ·rintro σ H1 ⟨lv,q,nb,th,rfl,s1,_⟩
  exact h H1 s1
theorem jgh {f:Addr} {fd:FuncData} {f_is_tuple_of:Addr} {d_is_tuple_of:FuncData} {f_look_at_places:Addr} {d_look_at_places:FuncData} {f_look_at_ties:Addr} {d_look_at_ties:FuncData} (B:Blt mg) (D:DefAt K mg "look_at_web" (top 25) ["thing"] f fd) (D_is_tuple_of:DefAt K mg "is_tuple_of" (top 12) ["thing","many"] f_is_tuple_of d_is_tuple_of) (G_is_tuple_of:FnOk P w K mg base CX0 1 f_is_tuple_of d_is_tuple_of ["thing","many"] jfm) (D_look_at_places:DefAt K mg "look_at_places" (top 23) ["places"] f_look_at_places d_look_at_places) (G_look_at_places:FnOk P w K mg base CX0 4 f_look_at_places d_look_at_places ["places"] jev) (D_look_at_ties:DefAt K mg "look_at_ties" (top 24) ["ties","prices"] f_look_at_ties d_look_at_ties) (G_look_at_ties:FnOk P w K mg base CX0 4 f_look_at_ties d_look_at_ties ["ties","prices"] jgs):FnOk P w K mg base CX0 5 f fd ["thing"] jiy:=by
 have sc:FnScope ["thing"] ["thing"] (jbc (top 25)):=⟨rfl,rfl,rfl,by decide +kernel,rfl,by decide +kernel,by decide +kernel⟩
 refine D.F.ok sc (fun vs H Q E h=>?_) (fun cdv A outer s H vs Q E hr h=>?_)
 ·obtain ⟨v,ps,ts,rfl,_⟩:=h
  rfl
 obtain ⟨v,ps,ts,rfl,hw,ok,h⟩:=h
 obtain ⟨u,pa,ta,xs,ys,rfl,eu,ep,et,pp,pt⟩:=hw
 have hlx:xs.length = ps.length:=Paired.length pp
 have okl:=ok.pl
 have hu:=jcb hr
 have hu0:_ < PySem.cLine:=Nat.lt_of_succ_lt hu
 refine ⟨_,(ja5 (jct (jfs (jew (jbg G_is_tuple_of (hr.mono (by decide)) rfl D_is_tuple_of.m D_is_tuple_of.F.kp D_is_tuple_of.b .nil jbt (ja0 (qv 0) (ja0 jak jah))))) (jan jdq) jbu) (ja5 (jby (jbg G_look_at_places (hr.mono (by decide)) rfl D_look_at_places.m D_look_at_places.F.kp D_look_at_places.b .nil jbt (ja0 (jbk q_ix (qv 0) jak (fun _ _=>rfl)) jah))) (jan (jby (jbg G_look_at_ties (hr.mono (by decide)) rfl D_look_at_ties.m D_look_at_ties.F.kp D_look_at_ties.b .nil jbt (ja0 (jbk q_ix (qv 0) jak (fun _ _=>rfl)) (ja0 (jcn (jhs rfl) rfl B.dict PyProof.Rows.boot_dict (ja0 (jbk q_ix (qv 0) jak (fun _ _=>rfl)) jah)) jah))))))),?_⟩
 walk_at "RD"
 refine ⟨u,_,2,rfl,eu,?_⟩
 simp_arith [jbl,eu,at0,at1,Int.cast_ofNat_Int,decide_true]
 refine ⟨pa,xs,ps,rfl,ep,pp,ok.pl,ok.p,fun H1 s1=>?_⟩
 simp_arith [jbl,s1 _ _ eu,s1 _ _ ep,at0,at1]
 refine ⟨jc8 ps,jhx (Prs.same s1 pp),by omega,jh3 ok.p.nodup,fun d hd=>?_⟩
 have s2:Same H (upd H1 d (.dK (jc8 ps))):=s1.trans (jai hd _)
 exact ⟨ta,d,ys,ts,_,rfl,s2 _ _ et,ja1,Prs.same s2 pt,ok.tl,ok.t,fun H3 s3=>h H3 (s2.trans s3)⟩
end
end My
namespace My
open PySem L2
section
variable {P:Program} {w:World} {K:PySem.W.Frag} {mg:Str→Option Value} {base:Heap} {c1 c2 c3 c4:Tok}
theorem ix30:ixN 3 0 = some 0:=rfl
theorem ix31:ixN 3 1 = some 1:=rfl
theorem ix32:ixN 3 2 = some 2:=rfl
def StO (o:HO):Prop:=∃ c st fl,o = .lst [.int c,.int st,.bl fl]∧0 ≤ st∧st < 4294967296
theorem StO.imm {o:HO} (h:StO o):jrv o = false:=by obtain ⟨_,_,_,rfl,_⟩:=h; rfl
def jnc (K:PySem.W.Frag):Sp:=fun vs H Q _=>∃ a k ns,vs = [.ref a,.int k]∧Scr K H a ns∧0 ≤ k∧k ≤ 1000∧∀ s o,H s = none→StO o→Q (.ref s) (upd H s o)
def jqb:Sp:=fun vs H Q _=>∃ s o m,vs = [.ref s,.int m]∧H s = some o∧StO o∧1 ≤ m∧m < 1073741824∧∀ d o,0 ≤ d→d < m→StO o→Q (.int d) (upd H s o)
theorem cmR {i j:Int} (h1:-(2 ^ 64) < j) (h2:j < 2 ^ 64):CMul i j:=.inr ⟨h1,h2⟩
theorem cmL {i j:Int} (h1:-(2 ^ 64) < i) (h2:i < 2 ^ 64):CMul i j:=.inl ⟨h1,h2⟩
def Dr:Int→List (Int × Int)→Prop
 | _,[]=>True
 | l,p :: r=>(l < p.1∧p.1 ≤ l + 23∧1 ≤ p.2∧p.2 ≤ 1000000000)∧Dr p.1 r
def jo7 (l:Int):List (Int × Int)→Int
 | []=>l
 | p :: r=>jo7 p.1 r
theorem Dr.snoc:∀ {ps:List (Int × Int)} {l:Int} {p:Int × Int},Dr l ps→(jo7 l ps < p.1∧p.1 ≤ jo7 l ps + 23∧1 ≤ p.2∧p.2 ≤ 1000000000)→Dr l (ps ++ [p])
 | [],_,_,_,h=>⟨h,trivial⟩
 | q :: r,_,_,h,h2=>⟨h.1,Dr.snoc h.2 h2⟩
theorem jh2:∀ {ps:List (Int × Int)} {l:Int} {p:Int × Int},jo7 l (ps ++ [p]) = p.1
 | [],_,_=>rfl
 | q :: r,_,_=>jh2 (ps:=r)
def But (s:Addr) (H H':Hp):Prop:=∀ b o,b ≠ s→H b = some o→H' b = some o
theorem But.trans {s:Addr} {H H1 H2:Hp} (a:But s H H1) (b:But s H1 H2):But s H H2:=fun c o n q=>b c o n (a c o n q)
theorem But.at (s:Addr) (H:Hp) (o:HO):But s H (upd H s o):=fun b u n q=>by rw [jaj n]; exact q
theorem But.new {s t:Addr} {H:Hp} {o:HO} (h:H t = none):But s H (upd H t o):=fun b u n q=>by rw [jaj (ja6 q h)]; exact q
theorem But.tups {s:Addr} {H H':Hp} (h:But s H H') {o:HO} (e:H s = some o) (i:jrv o = false):TupS H H':=fun b u z q=>h b u (fun x=>by rw [x,e] at q; cases q; rw [i] at z; cases z) q
theorem at3 {α:Type} {x y z u:α} {r:List α}:atI (x :: y :: z :: u :: r) 3 = some u:=by
 have e:atI (x :: y :: z :: u :: r) ((3:Nat):Int) = some u:=jci rfl
 exact e
theorem menu4 {a b c e d:Int} (h0:0 ≤ d) (h1:d < 4):∃ v,atI [V.int a,.int b,.int c,.int e] d = some (.int v)∧(v = a ∨ v = b ∨ v = c ∨ v = e):=by
 have hd:d = 0 ∨ d = 1 ∨ d = 2 ∨ d = 3:=by omega
 rcases hd with rfl | rfl | rfl | rfl
 ·exact ⟨a,at0,.inl rfl⟩
 ·exact ⟨b,at1,.inr (.inl rfl)⟩
 ·exact ⟨c,at2,.inr (.inr (.inl rfl))⟩
 ·exact ⟨e,at3,.inr (.inr (.inr rfl))⟩
theorem p9:(10:Int) ^ Int.toNat 9 = 1000000000:=by decide
def jqj:Sp:=fun vs H Q _=>∃ v ps ts,vs = [v]∧jdj H v ps ts∧∀ v' H',Same H H'→jdj H' v' ps ts→Q v' H'
theorem jkn {f:Addr} {fd:FuncData}  (B:Blt mg) (D:DefAt K mg "_law_take" (top 44) ["_law_state","_law_many"] f fd):FnOk P w K mg base CX0 1 f fd ["_law_state","_law_many"] jqb:=by
 have sc:FnScope ["_law_state","_law_many","_law_digit","_law_number"] ["_law_state","_law_many"] (jbc (top 44)):=⟨rfl,rfl,rfl,by decide +kernel,rfl,by decide +kernel,by decide +kernel⟩
 refine D.F.ok sc (fun vs H Q E h=>?_) (fun cdv A outer s H vs Q E hr h=>?_)
 ·obtain ⟨s,o,m,rfl,_⟩:=h
  rfl
 obtain ⟨st,o,m,rfl,es,⟨c,x,fl,rfl,x0,x1⟩,m0,m1,h⟩:=h
 have hu:=jcb hr
 have hu0:_ < PySem.cLine:=Nat.lt_of_succ_lt hu
 refine ⟨_,(ja5 (jct (jew (jbk q_ix (qv 0) jak (fun _ _=>rfl))) (ja5 (jbe (i:=2) sc.nd rfl (Or.inl rfl) (jc6 jhr (jbk q_ix (qv 0) jak (fun _ _=>rfl)) (qv 1))) (ja5 (jj5 (jc6 jnn (jbk q_ix (qv 0) jak (fun _ _=>rfl)) (qv 1)) (jlo (qv 0) jak jgu)) (ja5 (jj5 (jch q_gt (jbk q_ix (qv 0) jak (fun _ _=>rfl)) jak (jbv _)) (jlo (qv 0) jak jgu)) (jan (jbq (qv 2)))))) jbu) (ja5 (jj5 (jc6 jhr (jc6 jdy (jc6 jk9 (jbk q_ix (qv 0) jak (fun _ _=>rfl)) jak) jak) jak) (jlo (qv 0) jak jgu)) (ja5 (jbe (i:=3) sc.nd rfl (Or.inl rfl) (jc6 jnn (jc6 jhr (jc6 jk9 (jbk q_ix (qv 0) jak (fun _ _=>rfl)) (jbk q_ix (qv 0) jak (fun _ _=>rfl))) jak) jak)) (ja5 (jct (jbw q_gt (qv 1) (jc6 jra jak jak) (jbv _)) (ja5 (jj5 (jc6 jhr (jc6 jdy (jc6 jk9 (jbk q_ix (qv 0) jak (fun _ _=>rfl)) jak) jak) jak) (jlo (qv 0) jak jgu)) (jan (jbe (i:=3) sc.nd rfl (Or.inl rfl) (jc6 jdy (jc6 jk9 (qv 3) jak) (jbk q_ix (qv 0) jak (fun _ _=>rfl)))))) jbu) (jan (jbq (jc6 jhr (qv 3) (qv 1)))))))),?_⟩
 simp_arith [jbl,es,at0,at1,at2,ix30,ix31,ix32,ja1,jhg]
 have lo:∀ n:Int,0 ≤ n % m:=fun n=>Int.emod_nonneg _ (by omega)
 have hi:∀ n:Int,n % m < m:=fun n=>Int.emod_lt_of_pos _ (by omega)
 have y0:0 ≤ (x * 48271 + 39373) % 2147483647:=Int.emod_nonneg _ (by decide)
 have y1:(x * 48271 + 39373) % 2147483647 < 2147483647:=Int.emod_lt_of_pos _ (by decide)
 generalize (x * 48271 + 39373) % 2147483647 = y at y0 y1
 have z0:0 ≤ (y * 48271 + 39373) % 2147483647:=Int.emod_nonneg _ (by decide)
 have z1:(y * 48271 + 39373) % 2147483647 < 2147483647:=Int.emod_lt_of_pos _ (by decide)
 generalize (y * 48271 + 39373) % 2147483647 = z at z0 z1
 have cd:CDiv c m:=⟨by omega,by omega⟩
 have cd2:∀ n:Int,CDiv n 16:=fun n=>⟨by decide,by decide⟩
 have cp:CPow 10 6:=⟨by decide,by decide,by decide⟩
 refine ite2 (fun _=>⟨by omega,cd,h _ _ (lo _) (hi _) ⟨_,_,_,rfl,x0,x1⟩⟩) (fun _=>⟨cmR (by decide) (by decide),by decide,cmL (by omega) (by omega),by decide,cd2 _,cp,?_⟩)
 refine ite2 (fun _=>⟨cmR (by decide) (by decide),by decide,cmR (by decide) (by decide),by omega,h _ _ (lo _) (hi _) ⟨_,_,_,rfl,z0,by omega⟩⟩) (fun _=>⟨by omega,h _ _ (lo _) (hi _) ⟨_,_,_,rfl,y0,by omega⟩⟩)
theorem jjb {f:Addr} {fd:FuncData}  (B:Blt mg) (D:DefAt K mg "_law_begun" (top 43) ["_law_script","_law_k"] f fd):FnOk P w K mg base CX0 1 f fd ["_law_script","_law_k"] (jnc K):=by
 have sc:FnScope ["_law_script","_law_k","_law_cell","_law_mixed"] ["_law_script","_law_k"] (jbc (top 43)):=⟨rfl,rfl,rfl,by decide +kernel,rfl,by decide +kernel,by decide +kernel⟩
 refine D.F.ok sc (fun vs H Q E h=>?_) (fun cdv A outer s H vs Q E hr h=>?_)
 ·obtain ⟨a,k,ns,rfl,_⟩:=h
  rfl
 obtain ⟨a,k,ns,rfl,hs,k0,k1,h⟩:=h
 have hu:=jcb hr
 have hu0:_ < PySem.cLine:=Nat.lt_of_succ_lt hu
 refine ⟨_,(ja5 (jbe (i:=2) sc.nd rfl (Or.inl rfl) jak) (ja5 (jct (jbw q_lt (qv 1) (jbp jdn rfl B.len PySem.boot_len (ja0 (qv 0) jah)) (jbv _)) (jan (jbe (i:=2) sc.nd rfl (Or.inl rfl) (jbk joc (qv 0) (qv 1) (fun _ _=>rfl)))) jbu) (ja5 (jbe (i:=3) sc.nd rfl (Or.inl rfl) (jc6 jdy (jc6 jdy (jc6 jhr (qv 2) jak) (jc6 jk9 jak (qv 1))) (jc6 jk9 jak (jc6 jnn (qv 1) jak)))) (jan (jbq (jcd (ja0 (qv 2) (ja0 (jc6 jhr (qv 3) jak) (ja0 (jch q_ge (qv 2) (jc6 jra jak jak) (jbv _)) jah))))))))),?_⟩
 walk_at "RD"
 refine ⟨a,_,rfl,.inl hs.sq,?_⟩
 simp_arith [List.length_map,rIxL]
 have q0:∀ n:Int,0 ≤ n % 2147483629:=fun n=>Int.emod_nonneg _ (by decide)
 have q1:∀ n:Int,n % 2147483629 < 2147483629:=fun n=>Int.emod_lt_of_pos _ (by decide)
 have cp:CPow 10 18:=⟨by decide,by decide,by decide⟩
 have cd:CDiv k 7:=⟨by decide,by decide⟩
 refine ite2 (fun c=>?_) (fun c=>?_)
 ·have c':k < (ns.length:Int):=of_decide_eq_true c
  have hk:k.toNat < ns.length:=by omega
  have e1:atI (ns.map V.int) ((k.toNat:Nat):Int) = some (.int ns[k.toNat]):=jci (by rw [List.getElem?_map,List.getElem?_eq_getElem hk]; rfl)
  rw [show ((k.toNat:Nat):Int) = k by omega] at e1
  refine ⟨a,_,k,_,rfl,rfl,hs.sq,e1,?_⟩
  walk_at "RD"
  exact ⟨by decide,cmL (by decide) (by decide),cd,cmL (by decide) (by decide),by decide,cp,fun p hp=>h p _ hp ⟨_,_,_,rfl,q0 _,by have:=q1 (ns[k.toNat] % 2147483629 + 104729 * k + 7919 * (k / 7)); omega⟩⟩
 ·exact ⟨by decide,cmL (by decide) (by decide),cd,cmL (by decide) (by decide),by decide,cp,fun p hp=>h p _ hp ⟨_,_,_,rfl,q0 _,by have:=q1 (0 % 2147483629 + 104729 * k + 7919 * (k / 7)); omega⟩⟩
end
end My
namespace My
open PySem L2
section
variable {P:Program} {w:World} {K:PySem.W.Frag} {mg:Str→Option Value} {base:Heap} {c1 c2 c3 c4:Tok}
end
end My
namespace My
open PySem L2
section
variable {P:Program} {w:World} {K:PySem.W.Frag} {mg:Str→Option Value} {base:Heap} {c1 c2 c3 c4:Tok}
def SeOk (kvs:List (Key × V)):Int→List Int→Prop
 | _,[]=>True
 | l,n :: r=>(hasK kvs n = true∧l < n)∧SeOk kvs n r
theorem SeOk.gt {kvs:List (Key × V)}:∀ {ss:List Int} {l:Int},SeOk kvs l ss→∀ n ∈ ss,l < n
 | [],_,_,_,h=>by cases h
 | q :: r,l,h,n,hn=>by
  rcases List.mem_cons.mp hn with e | hn
  ·rw [e]; exact h.1.2
  ·have:=SeOk.gt h.2 n hn
   have:=h.1.2
   omega
theorem jdg {α:Type} {f:α→Bool} {l:List α} {i:Nat} {x:α} (h:l[i]? = some x):(l.take (i + 1)).filter f = (l.take i).filter f ++ (if f x = true then [x] else []):=by
 rw [jbn h,List.filter_append,List.filter_cons]
 rfl
end
end My
namespace My
open PySem L2
section
variable {P:Program} {w:World} {K:PySem.W.Frag} {mg:Str→Option Value} {base:Heap} {c1 c2 c3 c4:Tok}
def nr (n:Int) (t:Int × Int):List Int:=if t.1 = n then [t.2] else if t.2 = n then [t.1] else []
def jc4 (ts:List (Int × Int)) (n:Int):List Int:=ts.flatMap (nr n)
theorem jmi {ts:List (Int × Int)} {j:Nat} {t:Int × Int} (h:ts[j]? = some t) (n:Int):jc4 (ts.take (j + 1)) n = jc4 (ts.take j) n ++ nr n t:=by
 unfold jc4
 rw [jbn h,List.flatMap_append]
 simp
theorem jje:∀ (ts:List (Int × Int)) (n:Int),(jc4 ts n).length ≤ ts.length
 | [],n=>by simp [jc4]
 | t :: r,n=>by
  have ih:=jje r n
  have e:jc4 (t :: r) n = nr n t ++ jc4 r n:=by simp [jc4]
  have e2:(nr n t).length ≤ 1:=by
   unfold nr
   split
   ·simp
   ·split <;> simp
  rw [e,List.length_append,List.length_cons]
  omega
def kz:List (Int × Int)→List Addr→List (Key × V)
 | p :: r,a :: s=>(Sum.inl p.1,V.ref a) :: kz r s
 | _,_=>[]
theorem jo8:∀ {ps:List (Int × Int)} {as:List Addr} {p:Int × Int} {a:Addr},ps.length = as.length→kz (ps ++ [p]) (as ++ [a]) = kz ps as ++ [(Sum.inl p.1,V.ref a)]
 | [],[],_,_,_=>rfl
 | [],_ :: _,_,_,h=>by simp at h
 | _ :: _,[],_,_,h=>by simp at h
 | q :: r,b :: s,p,a,h=>by
  have ih:=jo8 (ps:=r) (as:=s) (p:=p) (a:=a) (by simpa using h)
  show (Sum.inl q.1,V.ref b) :: kz (r ++ [p]) (s ++ [a]) = _
  rw [ih]
  rfl
theorem jer:∀ {ps:List (Int × Int)} {as:List Addr},ps.length = as.length→(kz ps as).map (·.1) = ps.map fun p=>(Sum.inl p.1:Key)
 | [],[],_=>rfl
 | [],_ :: _,h=>by simp at h
 | _ :: _,[],h=>by simp at h
 | q :: r,b :: s,h=>by
  show (Sum.inl q.1:Key) :: (kz r s).map (·.1) = _
  rw [jer (by simpa using h)]
  rfl
theorem jjk:∀ {ps:List (Int × Int)} {as:List Addr} {i:Nat} {p:Int × Int} {a:Addr},(ps.map (·.1)).Nodup→ps[i]? = some p→as[i]? = some a→valV (kz ps as) (Sum.inl p.1:Key) = some (.ref a)
 | [],_,i,_,_,_,h,_=>by simp at h
 | _ :: _,[],i,_,_,_,_,h=>by simp at h
 | q :: r,b :: s,i,p,a,hn,h1,h2=>by
  rw [List.map_cons] at hn
  unfold valV
  show Option.map _ (List.find? _ ((Sum.inl q.1,V.ref b) :: kz r s)) = _
  rw [List.find?_cons]
  cases i with
  | zero =>
   simp at h1 h2
   subst h1 h2
   simp
  | succ i =>
   have hp:p ∈ r:=List.mem_of_getElem? (by simpa using h1)
   have hne:q.1 ≠ p.1:=fun z=>(List.nodup_cons.mp hn).1 (by rw [z]; exact List.mem_map_of_mem hp)
   have hd:decide ((Sum.inl q.1:Key) = Sum.inl p.1) = false:=decide_eq_false fun z=>hne (Sum.inl.inj z)
   dsimp only
   rw [hd]
   exact jjk (List.nodup_cons.mp hn).2 (i:=i) (by simpa using h1) (by simpa using h2)
theorem jfe {ps:List (Int × Int)} {n:Int} (h:hasK (jc8 ps) n = true):∃ (i:Nat) (p:Int × Int),ps[i]? = some p∧p.1 = n:=by
 unfold hasK valV jc8 at h
 rw [Option.isSome_map,List.find?_isSome] at h
 obtain ⟨kv,hm,he⟩:=h
 obtain ⟨p,hp,e⟩:=List.mem_map.mp hm
 subst e
 obtain ⟨i,hi,e2⟩:=List.mem_iff_getElem.mp hp
 refine ⟨i,p,by rw [List.getElem?_eq_getElem hi,e2],?_⟩
 exact Sum.inl.inj (of_decide_eq_true he)
theorem TiOk.at {kvs:List (Key × V)}:∀ {ts:List (Int × Int)} {q:Int × Int},TiOk kvs q ts→∀ t ∈ ts,t.1 < t.2∧hasK kvs t.1 = true∧hasK kvs t.2 = true
 | [],_,_,_,h=>by cases h
 | p :: r,q,h,t,ht=>by
  rcases List.mem_cons.mp ht with e | ht
  ·rw [e]; exact ⟨h.1.2.1,h.1.2.2.1,h.1.2.2.2⟩
  ·exact TiOk.at h.2 t ht
def jl7 (H:Hp) (ps ts:List (Int × Int)) (as:List Addr):Prop:=∀ (i:Nat) (p:Int × Int) (a:Addr),ps[i]? = some p→as[i]? = some a→H a = some (.lst ((jc4 ts p.1).map V.int))
def jix:Sp:=fun vs H Q _=>∃ v ps ts,vs = [v]∧jdj H v ps ts∧WebOk ps ts∧∀ d as H',H d = none→Same H H'→H' d = some (.dK (kz ps as))→as.length = ps.length→jl7 H' ps ts as→Q (.ref d) H'
theorem je7 {α:Type} {l:List α} (h:l.Nodup) {i j:Nat} {a b:α} (h1:l[i]? = some a) (h2:l[j]? = some b) (hij:i ≠ j):a ≠ b:=by
 intro e
 subst e
 obtain ⟨p1,q1⟩:=List.getElem?_eq_some_iff.mp h1
 obtain ⟨p2,q2⟩:=List.getElem?_eq_some_iff.mp h2
 exact hij ((List.getElem_inj h).mp (q1.trans q2.symm))
theorem jpw {α:Type} {l:List α} {x y:α} {i:Nat} (h:(l ++ [x])[i]? = some y):l[i]? = some y ∨ (i = l.length∧y = x):=by
 by_cases hi:i < l.length
 ·left
  rw [List.getElem?_append_left hi] at h
  exact h
 ·right
  rw [List.getElem?_append_right (by omega)] at h
  by_cases h0:i - l.length = 0
  ·rw [h0] at h
   simp at h
   exact ⟨by omega,h.symm⟩
  ·have:i - l.length = (i - l.length - 1) + 1:=by omega
   rw [this] at h
   simp at h
theorem SeOk.has {kvs:List (Key × V)}:∀ {ss:List Int} {l:Int},SeOk kvs l ss→∀ n ∈ ss,hasK kvs n = true
 | [],_,_,_,h=>by cases h
 | q :: r,l,h,n,hn=>by
  rcases List.mem_cons.mp hn with e | hn
  ·rw [e]; exact h.1.1
  ·exact SeOk.has h.2 n hn
theorem jkl {f:Addr} {fd:FuncData}  (B:Blt mg) (D:DefAt K mg "nears_in" (top 26) ["web"] f fd):FnOk P w K mg base CX0 1 f fd ["web"] jix:=by
 have sc:FnScope ["web","nears","one","other"] ["web"] (jbc (top 26)):=⟨rfl,rfl,rfl,by decide +kernel,rfl,by decide +kernel,by decide +kernel⟩
 refine D.F.ok sc (fun vs H Q E h=>?_) (fun cdv A outer s H vs Q E hr h=>?_)
 ·obtain ⟨v,ps,ts,rfl,_⟩:=h
  rfl
 obtain ⟨v,ps,ts,rfl,hw,wok,h⟩:=h
 obtain ⟨x,pa,ta,xs,ys,rfl,ex,ep,et,pp,pt⟩:=id hw
 have hlx:xs.length = ps.length:=Paired.length pp
 have hly:ys.length = ts.length:=Paired.length pt
 have okl:=wok.pl
 have okt:=wok.tl
 have hnd:=wok.p.nodup
 have hu:=jcb hr
 have hu0:_ < PySem.cLine:=Nat.lt_of_succ_lt hu
 refine ⟨_,(ja5 (jbe (i:=1) sc.nd rfl (Or.inl rfl) (jcn (jhs rfl) rfl B.dict PyProof.Rows.boot_dict (ja0 (jcg (CpScope.of (N:=["place","price"]) (src:=[none,none]) (by rfl)) rfl (jbx (jbk q_ix (qv 0) jak (fun _ _=>rfl))) (fun _ _ _ _=>(jcr (n:=2) rfl (jbf (jbb (i:=0) (jbj (l:=["place","price"]) (by rfl)) rfl (Or.inl rfl)) (jbf (jbb (i:=1) (jbj (l:=["place","price"]) (by rfl)) rfl (Or.inl rfl)) jcc)))) (fun _ _ _ _=>jdz) (fun _ _ _ _=>(jd6 (ja0 (qv 0) (ja0 (jcd jah) jah))))) jah))) (ja5 (jca PassesOwn.never rfl (jbx (jbk q_ix (qv 0) jak (fun _ _=>rfl))) (jcr (n:=2) rfl (jbf (jbb (i:=2) sc.nd rfl (Or.inl rfl)) (jbf (jbb (i:=3) sc.nd rfl (Or.inl rfl)) jcc))) (ja5 (jby (q_bm PySem.F.plainAttrs_list PySem.F.slot_list_append PySem.F.type_list_append jc5 (jd4 hu (qv 1) (qv 2) (fun _ _=>rfl)) (ja0 (qv 3) jah))) (jan (jby (q_bm PySem.F.plainAttrs_list PySem.F.slot_list_append PySem.F.type_list_append jc5 (jd4 hu (qv 1) (qv 3) (fun _ _=>rfl)) (ja0 (qv 2) jah)))))) (jan (jbq (qv 1))))),?_⟩
 walk_at "RD"
 refine jbr (Itl K pa) H (fun R hR=>?_) (fun l hl0=>jc3 ps.length (fun i σ' Hc=>∃ w1 w2 zs as,σ' = [w1,w2]∧Same H Hc∧Hc l = some (.lst zs)∧as.length = i∧as.Nodup∧(∀ a ∈ as,H a = none∧a ≠ l∧Hc a = some (.lst []))∧Paired (PairAt Hc) zs (kz (ps.take i) as)) ⟨none,none,[],[],rfl,jai hl0 _,ja1,rfl,List.nodup_nil,(fun _ h=>by cases h),.nil⟩ ?_ ?_)
 ·unfold jcu
  simp_arith [jbl,ex,at0]
  exact ⟨pa,rfl,⟨_,SqL.of ep⟩,hR⟩
 ·rintro i σ' Hc hi ⟨w1,w2,zs,as,rfl,s2,ez,hla,nda,ha,pz⟩
  have x1:xs[i]? = some (xs[i]'(by omega)):=List.getElem?_eq_getElem _
  have z1:SqL K Hc pa xs:=SqL.of (s2 _ _ ep)
  have hlt:(ps.take i).length = as.length:=by rw [List.length_take]; omega
  have hlz:zs.length = (kz (ps.take i) as).length:=Paired.length pz
  have hlz2:zs.length ≤ i:=by
   have e:=congrArg List.length (jer hlt)
   rw [List.length_map,List.length_map] at e
   omega
  refine ⟨⟨_,_,z1,x1⟩,?_⟩
  rintro y H' ⟨rfl,hy⟩
  obtain ⟨q,hq,pq⟩:=jbi pp (hy _ z1)
  obtain ⟨t,rfl,ht⟩:=pq.same s2
  simp_arith [ht]
  intro a1 ha1 t2 ht2
  have na1:a1 ≠ l:=fun z=>by rw [z,ez] at ha1; cases ha1
  have nt2:t2 ≠ a1:=fun z=>by rw [z,ja1] at ht2; cases ht2
  have s3:=jai ha1 (.lst [])
  have s4:=jai ht2 (.tup [.int q.1,.ref a1])
  have ez2:=s4 _ _ (s3 _ _ ez)
  have t6:=jd0 (ys:=zs ++ [.ref t2]) ez2
  refine ⟨zs,ez2,szl' (by omega),_,_,zs ++ [.ref t2],as ++ [a1],rfl,jbh (s2.trans (s3.trans s4)) hl0,(by first | rfl | exact ja1),(by rw [List.length_append,hla]; rfl),?_,?_,?_⟩
  ·rw [List.nodup_append]
   refine ⟨nda,(by simp),fun a hm b hb=>?_⟩
   have hb':b = a1:=by simpa using hb
   intro z
   rw [hb'] at z
   have:=(ha a hm).2.2
   rw [z,ha1] at this
   cases this
  ·intro a hm
   rcases List.mem_append.mp hm with hm | hm
   ·obtain ⟨q1,q2,q3⟩:=ha a hm
    refine ⟨q1,q2,?_⟩
    rw [jaj q2]
    exact s4 _ _ (s3 _ _ q3)
   ·have e:a = a1:=by simpa using hm
    subst e
    refine ⟨s2.free ha1,na1,?_⟩
    rw [jaj na1]
    exact s4 _ _ ja1
  ·rw [jbn hq,jo8 hlt]
   refine jc7 (Paired.mapP pz fun v p q=>?_) ⟨t2,rfl,t6 _ _ rfl ja1⟩
   obtain ⟨b,e,q⟩:=q
   exact ⟨b,e,t6 _ _ rfl (s4 _ _ (s3 _ _ q))⟩
 rintro σ' Hc ⟨w1,w2,zs,as,rfl,s2,ez,hla,nda,ha,pz⟩
 refine ⟨⟨_,SqL.of (s2 _ _ ep),by omega⟩,?_⟩
 rw [List.take_length] at pz
 have hlz:zs.length = (kz ps as).length:=Paired.length pz
 have hkk:=jer (ps:=ps) (as:=as) hla.symm
 have hlz2:zs.length = ps.length:=by
  have e:=congrArg List.length hkk
  rw [List.length_map,List.length_map] at e
  omega
 simp_arith [ez]
 refine ⟨kz ps as,pz,by omega,?_,fun d hd=>?_⟩
 ·rw [hkk]
  have hnd2:=hnd
  unfold List.Nodup at hnd2 ⊢
  rw [List.pairwise_map] at hnd2 ⊢
  exact hnd2.imp fun q z=>q (Sum.inl.inj z)
 have s3:=jai hd (.dK (kz ps as))
 have ed:upd Hc d (.dK (kz ps as)) d = some (.dK (kz ps as)):=ja1
 have hd0:=s2.free hd
 have ha3:∀ a ∈ as,H a = none∧a ≠ d∧upd Hc d (.dK (kz ps as)) a = some (.lst []):=fun a hm=>by
  obtain ⟨q1,q2,q3⟩:=ha a hm
  exact ⟨q1,ja6 q3 hd,s3 _ _ q3⟩
 have s23:=s2.trans s3
 generalize upd Hc d (.dK (kz ps as)) = H2 at s23 ed ha3
 clear s3 s2 ez pz ha hlz hd
 refine jbo (Itl K ta) H2 (fun R hR=>?_) (jc9 (K:=K) (a:=ta) (xs:=ys) (fun j σ H3=>∃ v1 v2,σ = [some (.ref x),some (.ref d),v1,v2]∧Same H H3∧H3 d = some (.dK (kz ps as))∧jl7 H3 ps (ts.take j) as) ⟨none,none,rfl,s23,ed,fun i p a _ h2=>(ha3 a (List.mem_of_getElem? h2)).2.2⟩ (fun i σ H3 _ ⟨_,_,_,s3,_⟩=>SqL.of (s3 _ _ et)) ?_ ?_)
 ·unfold jcu
  simp_arith [jbl,s23 _ _ ex,at1]
  exact ⟨ta,rfl,⟨_,SqL.of (s23 _ _ et)⟩,hR⟩
 ·rintro j y σ H3 hj ⟨v1,v2,rfl,s3,ed3,hN⟩
  obtain ⟨q,hq,pq⟩:=jbi pt hj
  obtain ⟨t,rfl,ht⟩:=pq.same s3
  obtain ⟨b1,b2,b3⟩:=wok.t.at q (List.mem_of_getElem? hq)
  obtain ⟨i1,p1,g1,e1⟩:=jfe b2
  obtain ⟨i2,p2,g2,e2⟩:=jfe b3
  have hi1:i1 < as.length:=by have:=(List.getElem?_eq_some_iff.mp g1).1; omega
  have hi2:i2 < as.length:=by have:=(List.getElem?_eq_some_iff.mp g2).1; omega
  have A1:as[i1]? = some as[i1]:=List.getElem?_eq_getElem hi1
  have A2:as[i2]? = some as[i2]:=List.getElem?_eq_getElem hi2
  generalize as[i1] = a1 at A1
  generalize as[i2] = a2 at A2
  have V1:=jjk hnd g1 A1
  have V2:=jjk hnd g2 A2
  have n12:i1 ≠ i2:=fun z=>by rw [z,g2] at g1; cases g1; omega
  have na:a1 ≠ a2:=je7 nda A1 A2 n12
  rw [e1] at V1
  rw [e2] at V2
  have M1:=hN i1 p1 a1 g1 A1
  have M2:=hN i2 p2 a2 g2 A2
  have hlj:∀ n,(jc4 (ts.take j) n).length ≤ 120:=fun n=>Nat.le_trans (jje _ _) (by rw [List.length_take]; omega)
  have nd1:d ≠ a1:=((ha3 a1 (List.mem_of_getElem? A1)).2.1).symm
  have nd2:d ≠ a2:=((ha3 a2 (List.mem_of_getElem? A2)).2.1).symm
  simp_arith [ht,ed3,V1]
  refine ⟨⟨a1,_,rfl,M1⟩,?_⟩
  simp_arith [M1]
  refine ⟨szl' (by rw [List.length_map]; have:=hlj p1.1; omega),?_⟩
  simp_arith [jaj nd1,ed3,V2]
  refine ⟨⟨a2,_,rfl,(by rw [jaj na.symm]; exact M2)⟩,?_⟩
  simp_arith [jaj na.symm,M2]
  refine ⟨szl' (by rw [List.length_map]; have:=hlj p2.1; omega),_,_,rfl,?_,?_,?_⟩
  ·intro b o hb
   rw [jaj (ja6 hb (ha3 a2 (List.mem_of_getElem? A2)).1),jaj (ja6 hb (ha3 a1 (List.mem_of_getElem? A1)).1)]
   exact s3 b o hb
  ·rw [jaj nd2,jaj nd1]
   exact ed3
  ·intro i p a hp ha'
   rw [jmi hq,List.map_append]
   have hpe:∀ {k:Nat} {r:Int × Int},ps[k]? = some r→r.1 = p.1→k = i:=fun {k r} hr he=>by
    have h1:(ps.map (·.1))[k]? = some r.1:=by rw [List.getElem?_map,hr]; rfl
    have h2:(ps.map (·.1))[i]? = some p.1:=by rw [List.getElem?_map,hp]; rfl
    by_cases z:k = i
    ·exact z
    ·exact absurd he (je7 hnd h1 h2 z)
   by_cases c2:i = i2
   ·subst c2
    rw [g2] at hp
    cases hp
    rw [A2] at ha'
    cases ha'
    have e3:nr p2.1 q = [q.1]:=by
     unfold nr
     rw [if_neg (by omega),if_pos e2.symm]
    rw [ja1,e3]
    rfl
   by_cases c1:i = i1
   ·subst c1
    rw [g1] at hp
    cases hp
    rw [A1] at ha'
    cases ha'
    have e3:nr p1.1 q = [q.2]:=by
     unfold nr
     rw [if_pos e1.symm]
    rw [jaj na,ja1,e3]
    rfl
   have n1:a ≠ a1:=je7 nda ha' A1 c1
   have n2:a ≠ a2:=je7 nda ha' A2 c2
   have e3:nr p.1 q = []:=by
    unfold nr
    rw [if_neg (fun z=>c1 (hpe g1 (e1.trans z)).symm),if_neg (fun z=>c2 (hpe g2 (e2.trans z)).symm)]
   rw [jaj n2,jaj n1,e3,List.map_nil,List.append_nil]
   exact hN i p a hp ha'
 ·rintro σ H3 ⟨v1,v2,rfl,s3,ed3,hN⟩
  rw [hly,List.take_length] at hN
  walk_at "RD"
  exact h d as H3 hd0 s3 ed3 hla hN
end
end My
namespace My
open PySem L2
section
variable {P:Program} {w:World} {K:PySem.W.Frag} {mg:Str→Option Value} {base:Heap} {c1 c2 c3 c4:Tok}
theorem Dr.pl:∀ {ps:List (Int × Int)} {l s:Int},Dr l ps→l + 23 * ps.length ≤ 999→s + 1000000000 * ps.length ≤ 1000000000000→PlOk l s ps
 | [],_,_,_,_,_=>trivial
 | p :: r,l,s,h,h1,h2=>by
  have e:((p :: r).length:Int) = r.length + 1:=by simp
  rw [e] at h1 h2
  obtain ⟨⟨a1,a2,a3,a4⟩,h3⟩:=h
  exact ⟨⟨a1,by omega,a3,by omega⟩,Dr.pl h3 (by omega) (by omega)⟩
theorem Dr.gt:∀ {ps:List (Int × Int)} {l:Int},Dr l ps→∀ p ∈ ps,l < p.1
 | [],_,_,_,h=>by cases h
 | q :: r,l,h,p,hp=>by
  rcases List.mem_cons.mp hp with e | hp
  ·rw [e]; exact h.1.1
  ·have:=Dr.gt h.2 p hp
   have:=h.1.1
   omega
theorem Dr.rise:∀ {ps:List (Int × Int)} {l:Int},Dr l ps→∀ (i j:Nat) (p q:Int × Int),i < j→ps[i]? = some p→ps[j]? = some q→p.1 < q.1
 | [],_,_,i,j,p,q,_,h,_=>by simp at h
 | r :: rs,l,h,i,j,p,q,hij,hi,hj=>by
  cases j with
  | zero=>omega
  | succ j =>
   have hj':rs[j]? = some q:=by simpa using hj
   cases i with
   | zero =>
    have e:r = p:=by simpa using hi
    subst e
    exact Dr.gt h.2 q (List.mem_of_getElem? hj')
   | succ i=>exact Dr.rise h.2 i j p q (by omega) (by simpa using hi) hj'
theorem lex_lt {a b c d:Int} (h:a < c):HT.lexLt [a,b] [c,d] = true:=by
 rw [HT.lexLt_cons,if_neg (by omega)]
 exact decide_eq_true h
theorem lex_eq {a b d:Int} (h:b < d):HT.lexLt [a,b] [a,d] = true:=by
 rw [HT.lexLt_cons,if_pos rfl,HT.lexLt_cons,if_neg (by omega)]
 exact decide_eq_true h
def jg6 (q:Int × Int):List (Int × Int)→Int × Int
 | []=>q
 | p :: r=>jg6 p r
theorem jh1:∀ {ts:List (Int × Int)} {q p:Int × Int},jg6 q (ts ++ [p]) = p
 | [],_,_=>rfl
 | t :: r,_,_=>jh1 (ts:=r)
theorem TiOk.snoc {kvs:List (Key × V)}:∀ {ts:List (Int × Int)} {q p:Int × Int},TiOk kvs q ts→(HT.lexLt [(jg6 q ts).1,(jg6 q ts).2] [p.1,p.2] = true∧p.1 < p.2∧hasK kvs p.1 = true∧hasK kvs p.2 = true)→TiOk kvs q (ts ++ [p])
 | [],_,_,_,h=>⟨h,trivial⟩
 | t :: r,_,_,h,h2=>⟨h.1,TiOk.snoc h.2 h2⟩
theorem PlOk.rise:∀ {ps:List (Int × Int)} {l s:Int},PlOk l s ps→∀ (i j:Nat) (p q:Int × Int),i < j→ps[i]? = some p→ps[j]? = some q→p.1 < q.1
 | [],_,_,_,i,j,p,q,_,h,_=>by simp at h
 | r :: rs,l,s,h,i,j,p,q,hij,hi,hj=>by
  cases j with
  | zero=>omega
  | succ j =>
   have hj':rs[j]? = some q:=by simpa using hj
   cases i with
   | zero =>
    have e:r = p:=by simpa using hi
    subst e
    exact PlOk.gt h.2 q (List.mem_of_getElem? hj')
   | succ i=>exact PlOk.rise h.2 i j p q (by omega) (by simpa using hi) hj'
theorem jqp {ps:List (Int × Int)} (hn:(ps.map (·.1)).Nodup) {i:Nat} {p:Int × Int} (h:ps[i]? = some p):hasK (jc8 ps) p.1 = true:=js0 hn (List.mem_of_getElem? h)
end
end My
namespace My
open PySem L2
inductive Rch (ts:List (Int × Int)) (a:Int):Int→Prop
 | refl:Rch ts a a
 | step {m n:Int}:Rch ts a m→n ∈ jc4 ts m→Rch ts a n
section
variable {ts:List (Int × Int)} {m n a b:Int}
theorem je9 (ho:∀ t ∈ ts,t.1 < t.2):n ∈ jc4 ts m ↔ (m,n) ∈ ts ∨ (n,m) ∈ ts:=by
 unfold jc4
 rw [List.mem_flatMap]
 constructor
 ·rintro ⟨t,ht,hn⟩
  unfold nr at hn
  split at hn
  ·rename_i c
   have e:n = t.2:=by simpa using hn
   exact .inl (by rw [e,← c]; exact ht)
  ·split at hn
   ·rename_i c
    have e:n = t.1:=by simpa using hn
    exact .inr (by rw [e,← c]; exact ht)
   ·cases hn
 ·rintro (h | h)
  ·refine ⟨_,h,?_⟩
   unfold nr
   rw [if_pos rfl]
   exact List.mem_singleton.mpr rfl
  ·refine ⟨_,h,?_⟩
   have:=ho _ h
   dsimp only at this
   unfold nr
   rw [if_neg (by dsimp only; omega),if_pos rfl]
   exact List.mem_singleton.mpr rfl
theorem jo3 (ho:∀ t ∈ ts,t.1 < t.2) (h:n ∈ jc4 ts m):m ∈ jc4 ts n:=by
 rw [je9 ho] at h ⊢
 exact h.symm
theorem Rch.trans {c:Int} (h1:Rch ts a b) (h2:Rch ts b c):Rch ts a c:=by
 induction h2 with
 | refl=>exact h1
 | step _ hn ih=>exact .step ih hn
theorem Rch.symm (ho:∀ t ∈ ts,t.1 < t.2) (h:Rch ts a b):Rch ts b a:=by
 induction h with
 | refl=>exact .refl
 | step _ hn ih=>exact (Rch.step .refl (jo3 ho hn)).trans ih
theorem Rch.mono {ts':List (Int × Int)} (hs:∀ m n,n ∈ jc4 ts m→n ∈ jc4 ts' m) (h:Rch ts a b):Rch ts' a b:=by
 induction h with
 | refl=>exact .refl
 | step _ hn ih=>exact .step ih (hs _ _ hn)
end
theorem jep (ts:List (Int × Int)) (t:Int × Int) (m:Int):jc4 (ts ++ [t]) m = jc4 ts m ++ nr m t:=by
 unfold jc4
 rw [List.flatMap_append]
 simp
def Ends (ps ts:List (Int × Int)):Prop:=∀ t ∈ ts,t.1 < t.2∧t.1 ∈ ps.map (·.1)∧t.2 ∈ ps.map (·.1)
theorem Ends.near {ps ts:List (Int × Int)} (h:Ends ps ts) {m n:Int} (hn:n ∈ jc4 ts m):n ∈ ps.map (·.1):=by
 rcases (je9 fun t ht=>(h t ht).1).mp hn with z | z
 ·exact (h _ z).2.2
 ·exact (h _ z).2.1
theorem Rch.pl {ps ts:List (Int × Int)} (h:Ends ps ts) {a b:Int} (ha:a ∈ ps.map (·.1)) (r:Rch ts a b):b ∈ ps.map (·.1):=by
 induction r with
 | refl=>exact ha
 | step _ hn _=>exact h.near hn
structure LabOk (ps ts:List (Int × Int)) (f:Int→Int):Prop where
 cls:∀ m n,m ∈ ps.map (·.1)→n ∈ ps.map (·.1)→(f m = f n ↔ Rch ts m n)
 le:∀ m,m ∈ ps.map (·.1)→f m ≤ m
 fix:∀ m,m ∈ ps.map (·.1)→f (f m) = f m
 pl:∀ m,m ∈ ps.map (·.1)→f m ∈ ps.map (·.1)
theorem LabOk.none {ps:List (Int × Int)}:LabOk ps [] fun n=>n:=by
 refine ⟨fun m n _ _=>⟨fun h=>h ▸ .refl,fun h=>?_⟩,fun _ _=>Int.le_refl _,fun _ _=>rfl,fun _ h=>h⟩
 induction h with
 | refl=>rfl
 | step _ hn _=>simp [jc4] at hn
theorem LabOk.put {ps ts:List (Int × Int)} {f:Int→Int} (h:LabOk ps ts f) (he:Ends ps ts) {a b u v:Int} (ha:a ∈ ps.map (·.1)) (hb:b ∈ ps.map (·.1)) (hab:a < b) (huv:u ≤ v) (hor:(u = f a∧v = f b) ∨ (u = f b∧v = f a)) :
  LabOk ps (ts ++ [(a,b)]) fun n=>if f n = v then u else f n:=by
 have he':Ends ps (ts ++ [(a,b)]):=fun t ht=>by
  rcases List.mem_append.mp ht with ht | ht
  ·exact he t ht
  ·rw [List.mem_singleton.mp ht]; exact ⟨hab,ha,hb⟩
 have ho:∀ t ∈ ts ++ [(a,b)],t.1 < t.2:=fun t ht=>(he' t ht).1
 have more:∀ m n,n ∈ jc4 ts m→n ∈ jc4 (ts ++ [(a,b)]) m:=fun m n hn=>by rw [jep]; exact List.mem_append_left _ hn
 have ab:Rch (ts ++ [(a,b)]) a b:=.step .refl ((je9 ho).mpr (.inl (List.mem_append_right _ (List.mem_singleton.mpr rfl))))
 have ba:=ab.symm ho
 have fu:f u = u:=by rcases hor with ⟨e,_⟩ | ⟨e,_⟩ <;> rw [e]; exact h.fix _ ha; exact h.fix _ hb
 have pu:u ∈ ps.map (·.1):=by rcases hor with ⟨e,_⟩ | ⟨e,_⟩ <;> rw [e]; exact h.pl _ ha; exact h.pl _ hb
 have ea:(if f a = v then u else f a) = u:=by rcases hor with ⟨e1,e2⟩ | ⟨e1,e2⟩ <;> split <;> omega
 have eb:(if f b = v then u else f b) = u:=by rcases hor with ⟨e1,e2⟩ | ⟨e1,e2⟩ <;> split <;> omega
 have toA:∀ m,m ∈ ps.map (·.1)→(f m = v ∨ f m = u)→Rch (ts ++ [(a,b)]) m a:=fun m hm q=>by
  have hc:f m = f a ∨ f m = f b:=by rcases hor with ⟨e1,e2⟩ | ⟨e1,e2⟩ <;> omega
  rcases hc with c | c
  ·exact ((h.cls m a hm ha).mp c).mono more
  ·exact (((h.cls m b hm hb).mp c).mono more).trans ba
 refine ⟨fun m n hm hn=>⟨fun q=>?_,fun r=>?_⟩,fun m hm=>?_,fun m hm=>?_,fun m hm=>?_⟩
 ·by_cases c1:f m = v
  ·have c2:f n = v ∨ f n = u:=by
    try dsimp only at q
    rw [if_pos c1] at q
    by_cases c2:f n = v
    ·exact .inl c2
    ·rw [if_neg c2] at q; exact .inr q.symm
   exact (toA m hm (.inl c1)).trans ((toA n hn c2).symm ho)
  ·try dsimp only at q
   rw [if_neg c1] at q
   by_cases c2:f n = v
   ·rw [if_pos c2] at q
    exact (toA m hm (.inr q)).trans ((toA n hn (.inl c2)).symm ho)
   ·rw [if_neg c2] at q
    exact ((h.cls m n hm hn).mp q).mono more
 ·clear hn
  induction r with
  | refl=>rfl
  | @step k n r' hn' ih =>
   rw [ih]
   have hk:=r'.pl he' hm
   have hn2:=he'.near hn'
   rw [jep] at hn'
   rcases List.mem_append.mp hn' with z | z
   ·have e:=(h.cls k n hk hn2).mpr (.step .refl z)
    try dsimp only
    rw [e]
   ·unfold nr at z
    split at z
    ·rename_i c
     have e:n = b:=by simpa using z
     have c':a = k:=c
     try dsimp only
     rw [e,← c',ea,eb]
    ·split at z
     ·rename_i c
      have e:n = a:=by simpa using z
      have c':b = k:=c
      try dsimp only
      rw [e,← c',ea,eb]
     ·cases z
 ·have:=h.le m hm
  try dsimp only
  split <;> omega
 ·try dsimp only
  by_cases c:f m = v
  ·rw [if_pos c,fu]
   split <;> rfl
  ·rw [if_neg c,h.fix m hm,if_neg c]
 ·try dsimp only
  split
  ·exact pu
  ·exact h.pl m hm
end My
namespace My
open PySem L2
section
variable {P:Program} {w:World} {K:PySem.W.Frag} {mg:Str→Option Value} {base:Heap} {c1 c2 c3 c4:Tok}
theorem jdb:∀ {ks L:List Int},ks.Nodup→(∀ n ∈ ks,n ∈ L)→ks.length ≤ L.length
 | [],_,_,_=>Nat.zero_le _
 | k :: r,L,h,hs=>by
  rw [List.nodup_cons] at h
  have hk:=hs k (.head _)
  have ih:=jdb (ks:=r) (L:=L.erase k) h.2 fun n hn=>(List.mem_erase_of_ne (fun z=>h.1 (by rw [← z]; exact hn))).mpr (hs n (.tail _ hn))
  have e:=List.length_erase_of_mem hk
  have hp:0 < L.length:=List.length_pos_of_mem hk
  rw [List.length_cons]
  omega
theorem Rd.same {H H':Hp} {a:Addr} {u:HO} (h:Rd H a u) (s:Same H H'):Rd H' a u:=by
 rcases h with e | ⟨o,e⟩
 ·exact .inl (s _ _ e)
 ·exact .inr ⟨o,s _ _ e⟩
theorem tFor_hideI {ι:Type} {wi:TI} {g:TG} {tb:TS} {D:L2.Ends} {σ:St} {H:Hp} (J:ι→It) (H1:ι→Hp) (ok:ι→Prop) (h1:∀ R:It→Hp→Prop,(∀ i,ok i→R (J i) (H1 i))→wi σ H R)
  (h2:∀ i0,ok i0→∃ W:Nat→Nat→St→Hp→Prop,(∃ m,W 0 m σ (H1 i0))∧∀ i m σ H,W i m σ H→((J i0).stop i H∧D.nx σ H) ∨ ((J i0).go i H∧∃ N:St→Hp→Prop,(∀ σ' H',N σ' H'→∃ m',m' < m∧W (i + 1) m' σ' H')∧∀ x H',(J i0).yld i H x H'→g x σ H' fun σ2 H2=>tb { D with nx:=N,ct:=N,bk:=D.nx } σ2 H2)) :
  tFor wi g tb D σ H:=h1 _ h2
theorem jrs {ps:List (Int × Int)} {as:List Addr} (hl:as.length = ps.length) {j:Nat} {kv:Key × V} (h:(kz ps as)[j]? = some kv):∃ p,ps[j]? = some p∧kv.1 = Sum.inl p.1:=by
 have z:=congrArg (fun l=>l[j]?) (jer (ps:=ps) (as:=as) hl.symm)
 rw [List.getElem?_map,h,List.getElem?_map] at z
 cases e:ps[j]? with
 | none=>rw [e] at z; cases z
 | some p=>rw [e] at z; exact ⟨p,rfl,Option.some.inj z⟩
theorem kz_len {ps:List (Int × Int)} {as:List Addr} (hl:as.length = ps.length):(kz ps as).length = ps.length:=by
 have z:=congrArg List.length (jer (ps:=ps) (as:=as) hl.symm)
 rwa [List.length_map,List.length_map] at z
theorem WebOk.ends {ps ts:List (Int × Int)} (h:WebOk ps ts):Ends ps ts:=fun t ht=>by
 obtain ⟨a,b,c⟩:=h.t.at t ht
 obtain ⟨i,p,hp,e⟩:=jfe b
 obtain ⟨i2,p2,hp2,e2⟩:=jfe c
 exact ⟨a,by rw [← e]; exact List.mem_map_of_mem (List.mem_of_getElem? hp),by rw [← e2]; exact List.mem_map_of_mem (List.mem_of_getElem? hp2)⟩
def gk (l:List (Int × V)):List (Key × V):=l.map fun p=>((Sum.inl p.1:Key),p.2)
theorem jjq (l:List (Int × V)) (n:Int):(valV (gk l) (Sum.inl n:Key)).isSome = decide (n ∈ l.map (·.1)):=by
 rw [← je2]
 unfold gk
 rw [Bool.eq_iff_iff,List.any_eq_true,decide_eq_true_iff]
 constructor
 ·rintro ⟨kv,hkv,e⟩
  obtain ⟨q,hq,rfl⟩:=List.mem_map.mp hkv
  have e2:q.1 = n:=Sum.inl.inj (of_decide_eq_true e)
  rw [← e2]
  exact List.mem_map_of_mem hq
 ·intro h
  obtain ⟨q,hq,e⟩:=List.mem_map.mp h
  have e':q.1 = n:=e
  exact ⟨_,List.mem_map_of_mem hq,decide_eq_true (by rw [e'])⟩
theorem jh6:∀ {l:List (Int × V)} {p:Int × V},(l.map (·.1)).Nodup→p ∈ l→valV (gk l) (Sum.inl p.1:Key) = some p.2
 | [],_,_,h=>by cases h
 | q :: r,p,hn,h=>by
  rw [List.map_cons,List.nodup_cons] at hn
  by_cases c:q.1 = p.1
  ·rcases List.mem_cons.mp h with e | h
   ·rw [e]
    exact jf5 (p:=((Sum.inl q.1:Key),q.2)) rfl
   ·exact absurd (by rw [c]; exact List.mem_map_of_mem h) hn.1
  ·rcases List.mem_cons.mp h with e | h
   ·exact absurd (by rw [e]) c
   ·show valV (((Sum.inl q.1:Key),q.2) :: gk r) _ = _
    rw [jf6 (fun z=>c (Sum.inl.inj z))]
    exact jh6 hn.2 h
theorem jlx {l:List (Int × V)} {n:Int} {v:V} (h:n ∉ l.map (·.1)):putK (gk l) (Sum.inl n:Key) v = gk (l ++ [(n,v)]):=by
 unfold putK
 rw [if_neg]
 ·unfold gk; rw [List.map_append]; rfl
 ·rw [je2,jjq]
  simpa using h
theorem jly:∀ {more l:List (Int × V)},(∀ n ∈ more.map (·.1),n ∉ l.map (·.1))→(more.map (·.1)).Nodup→jdw (gk l) (gk more) = gk (l ++ more)
 | [],l,_,_=>by rw [List.append_nil]; rfl
 | p :: r,l,h,nd=>by
  rw [List.map_cons,List.nodup_cons] at nd
  show jdw (putK (gk l) (Sum.inl p.1:Key) p.2) (gk r) = _
  rw [jlx (h p.1 (.head _)),jly (fun m hm=>?_) nd.2,List.append_assoc]
  ·rfl
  ·intro z
   rw [List.map_append] at z
   rcases List.mem_append.mp z with z | z
   ·exact h m (by rw [List.map_cons]; exact .tail _ hm) z
   ·have e:m = p.1:=by simpa using z
    rw [e] at hm; exact nd.1 hm
theorem jh7 (l:List (Int × V)):(gk l).length = l.length:=by unfold gk; rw [List.length_map]
theorem gk_at {l:List (Int × V)} {j:Nat} {kv:Key × V} (h:(gk l)[j]? = some kv):∃ p,l[j]? = some p∧kv.1 = Sum.inl p.1:=by
 unfold gk at h
 rw [List.getElem?_map] at h
 obtain ⟨p,hp,e⟩:=Option.map_eq_some_iff.mp h
 exact ⟨p,hp,by rw [← e]⟩
def Col (ts:List (Int × Int)) (col:Int→Bool):Prop:=∀ m n,n ∈ jc4 ts m→col n = !(col m)
def Tree (ts:List (Int × Int)) (c:Int) (ab:List (Int × V)):Prop:=∀ (i:Nat) (p:Int × V),ab[i]? = some p→(p.2 = .non∧p.1 = c) ∨ ∃ m,p.2 = .int m∧m ∈ (ab.take i).map (·.1)∧p.1 ∈ jc4 ts m
structure MetOk (ts:List (Int × Int)) (c:Int) (ab:List (Int × V)):Prop where
 nd:(ab.map (·.1)).Nodup
 all:∀ n,n ∈ ab.map (·.1) ↔ Rch ts c n
 tree:Tree ts c ab
theorem Tree.snoc {ts:List (Int × Int)} {c m n:Int} {ab:List (Int × V)} (h:Tree ts c ab) (hm:m ∈ ab.map (·.1)) (hn:n ∈ jc4 ts m):Tree ts c (ab ++ [(n,.int m)]):=fun i p hp=>by
 rcases jpw hp with e | ⟨rfl,rfl⟩
 ·have hi:=(List.getElem?_eq_some_iff.mp e).1
  rcases h i p e with z | ⟨k,z1,z2,z3⟩
  ·exact .inl z
  ·refine .inr ⟨k,z1,?_,z3⟩
   rw [List.take_append_of_le_length (by omega)]
   exact z2
 ·refine .inr ⟨m,rfl,?_,hn⟩
  rw [List.take_left']
  ·exact hm
  ·rfl
structure Bf (ps ts:List (Int × Int)) (c:Int) (i:Nat) (x:Option Int) (j:Nat) (ab:List (Int × V)):Prop where
 c_in:c ∈ ab.map (·.1)
 nd:(ab.map (·.1)).Nodup
 sub:∀ n ∈ ab.map (·.1),Rch ts c n
 cl:∀ m ∈ (ab.map (·.1)).take i,∀ n ∈ jc4 ts m,n ∈ ab.map (·.1)
 xin:∀ m,x = some m→(ab.map (·.1))[i]? = some m∧∀ n ∈ (jc4 ts m).take j,n ∈ ab.map (·.1)
 tree:Tree ts c ab
 il:i ≤ ab.length
theorem Bf.len {ps ts:List (Int × Int)} {c:Int} {i:Nat} {x:Option Int} {j:Nat} {ab:List (Int × V)} (h:Bf ps ts c i x j ab) (he:Ends ps ts) (hc:c ∈ ps.map (·.1)):ab.length ≤ ps.length:=by
 have z:=jdb h.nd fun n hn=>(h.sub n hn).pl he hc
 rwa [List.length_map,List.length_map] at z
def jr4:Sp:=fun vs H Q _=>∃ nd c ps ts as,vs = [.ref nd,.int c]∧Rd H nd (.dK (kz ps as))∧as.length = ps.length∧jl7 H ps ts as∧Ends ps ts∧(ps.map (·.1)).Nodup∧ps.length ≤ 40∧ts.length ≤ 120∧c ∈ ps.map (·.1) ∧
 ∀ d H' ab,H d = none→Same H H'→H' d = some (.dK (gk ab))→MetOk ts c ab→ab.length ≤ 40→Q (.ref d) H'
def jse (col:Int→Bool) (c:Int) (lv:List (Int × V)):Prop:=∀ p ∈ lv,∃ x:Int,p.2 = .int x∧x % 2 = if col p.1 = col c then 0 else 1
def jhl:Sp:=fun vs H Q _=>∃ a ab ts c col,vs = [.ref a]∧H a = some (.dK (gk ab))∧(ab.map (·.1)).Nodup∧Tree ts c ab∧Col ts col∧ab.length ≤ 40 ∧
 ∀ d H' lv o,H d = none→But a H H'→H' a = some (.frz o (.dK (gk ab)))→H' d = some (.dK (gk lv))→lv.map (·.1) = ab.map (·.1)→jse col c lv→Q (.ref d) H'
def spOdd:Sp:=fun vs H Q _=>∃ nd c ps ts as col,vs = [.ref nd,.int c]∧Rd H nd (.dK (kz ps as))∧as.length = ps.length∧jl7 H ps ts as∧Ends ps ts∧(ps.map (·.1)).Nodup∧ps.length ≤ 40∧ts.length ≤ 120∧c ∈ ps.map (·.1)∧Col ts col ∧
 ∀ H',Same H H'→Q .non H'
theorem jkm {f:Addr} {fd:FuncData}  (B:Blt mg) (D:DefAt K mg "met_from" (top 28) ["nears","place"] f fd):FnOk P w K mg base CX0 1 f fd ["nears","place"] jr4:=by
 have sc:FnScope ["nears","place","above","line","done","here","there"] ["nears","place"] (jbc (top 28)):=⟨rfl,rfl,rfl,by decide +kernel,rfl,by decide +kernel,by decide +kernel⟩
 refine D.F.ok sc (fun vs H Q E h=>?_) (fun cdv A outer s H vs Q E hr h=>?_)
 ·obtain ⟨nd,c,ps,ts,as,rfl,_⟩:=h
  rfl
 obtain ⟨nd,c,ps,ts,as,rfl,hrd,hla,hne,hen,hnd,hpl,htl,hc,h⟩:=h
 have hu:=jcb hr
 have hu0:_ < PySem.cLine:=Nat.lt_of_succ_lt hu
 refine ⟨_,(ja5 (jbe (i:=2) sc.nd rfl (Or.inl rfl) (jkg (jhu (qv 1) jgw jkd) rfl rfl (fun z=>nomatch z) (by decide))) (ja5 (jbe (i:=3) sc.nd rfl (Or.inl rfl) (jcd (ja0 (qv 1) jah))) (ja5 (jbe (i:=4) sc.nd rfl (Or.inl rfl) jak) (ja5 (jdp PassesOwn.never (jbw q_lt (qv 4) (jbp jfp rfl B.len PySem.boot_len (ja0 (qv 3) jah)) (jbv _)) (ja5 (jbe (i:=5) sc.nd rfl (Or.inl rfl) (jbk q_ix (qv 3) (qv 4) (fun _ _=>rfl))) (ja5 (jca PassesOwn.never rfl (jbx (jen hu (qv 0) (qv 5) (fun _ _=>rfl))) (jbb (i:=6) sc.nd rfl (Or.inl rfl)) (jan (jct (jfo (jde hu (qv 6) (qv 2))) (ja5 (jgv hu (qv 2) (qv 6) (qv 5)) (jan (jby (q_bm PySem.F.plainAttrs_list PySem.F.slot_list_append PySem.F.type_list_append jc5 (qv 3) (ja0 (qv 6) jah))))) jbu))) (jan (jlh (i:=4) sc.nd rfl (Or.inl rfl) jak jlj))))) (jan (jbq (qv 2))))))),?_⟩
 walk_at "RD"
 intro md hmd
 walk_at "RD"
 refine ⟨ja1,[((Sum.inl c:Key),V.non)],rfl,(by show 1 ≤ 15; decide),?_⟩
 rw [jhg,show jdw [] [((Sum.inl c:Key),V.non)] = gk [(c,.non)] from rfl]
 intro tl htl1
 have nmt:md ≠ tl:=fun z=>by rw [← z,ja1] at htl1; cases htl1
 have htl0:H tl = none:=by rw [← htl1,jaj nmt.symm]
 have s0:Same H (upd (upd H md (.dK (gk [(c,.non)]))) tl (.lst [.int c])):=(jai hmd _).trans (jai htl1 _)
 have em0:upd (upd H md (.dK (gk [(c,.non)]))) tl (.lst [.int c]) md = some (.dK (gk [(c,.non)])):=by rw [jaj nmt,ja1]
 have et0:upd (upd H md (.dK (gk [(c,.non)]))) tl (.lst [.int c]) tl = some (.lst ((([(c,V.non)]:List (Int × V)).map (·.1)).map V.int)):=ja1
 generalize upd (upd H md (.dK (gk [(c,.non)]))) tl (.lst [.int c]) = H0 at s0 em0 et0
 have t0:Tree ts c [(c,.non)]:=fun i p hp=>by
  have hi:=(List.getElem?_eq_some_iff.mp hp).1
  have e:i = 0:=by simp at hi; omega
  subst e
  cases hp
  exact .inl ⟨rfl,rfl⟩
 have b0:Bf ps ts c 0 none 0 [(c,.non)]:=⟨.head _,by simp,fun n hn=>by rw [List.mem_singleton.mp hn]; exact .refl,(fun m hm=>by rw [List.take_zero] at hm; cases hm),(fun _ z=>nomatch z),t0,Nat.zero_le _⟩
 refine ⟨fun m σ H1=>∃ hh th i ab,σ = [some (.ref nd),some (.int c),some (.ref md),some (.ref tl),some (.int ((i:Nat):Int)),hh,th]∧Same H H1∧H1 md = some (.dK (gk ab))∧H1 tl = some (.lst ((ab.map (·.1)).map V.int))∧Bf ps ts c i none 0 ab∧m = ps.length - i,⟨_,none,none,0,[(c,.non)],rfl,s0,em0,et0,b0,rfl⟩,?_⟩
 rintro m σ H1 ⟨hh,th,i,ab,rfl,s1,em,et,g,rfl⟩
 have hlen:=g.len hen hc
 simp_arith [jbl,et,List.length_map]
 by_cases ci:i < ab.length
 ·rw [if_pos (decide_eq_true (by omega))]
  refine ⟨_,fun σ' H' q=>q,?_⟩
  obtain ⟨x,hx⟩:∃ x,(ab.map (·.1))[i]? = some x:=⟨_,List.getElem?_eq_getElem (by rw [List.length_map]; exact ci)⟩
  have hxk:x ∈ ab.map (·.1):=List.mem_of_getElem? hx
  have hxp:x ∈ ps.map (·.1):=(g.sub x hxk).pl hen hc
  rw [show atI ((ab.map (·.1)).map V.int) ((i:Nat):Int) = some (.int x) from jci (by rw [List.getElem?_map,hx]; rfl)]
  obtain ⟨p,hp,epx⟩:=List.mem_map.mp hxp
  obtain ⟨k,hk,epk⟩:=List.mem_iff_getElem.mp hp
  have xi:ps[k]? = some p:=by rw [List.getElem?_eq_getElem hk,epk]
  have ai:as[k]? = some (as[k]'(by omega)):=List.getElem?_eq_getElem _
  generalize as[k]'(by omega) = ax at ai
  have eax:=hne k p ax xi ai
  rw [epx] at eax
  have vax:=jjk hnd xi ai
  rw [epx] at vax
  have g2:Bf ps ts c i (some x) 0 ab:=⟨g.c_in,g.nd,g.sub,g.cl,fun m hm=>by cases hm; exact ⟨hx,fun n hn=>by rw [List.take_zero] at hn; cases hn⟩,g.tree,g.il⟩
  clear g
  dsimp only
  refine jbo (Itl K ax) H1 (fun R hR=>?_) (jc9 (K:=K) (a:=ax) (xs:=(jc4 ts x).map V.int) (fun j σ H3=>∃ th ab1,σ = [some (.ref nd),some (.int c),some (.ref md),some (.ref tl),some (.int ((i:Nat):Int)),some (.int x),th]∧Same H H3∧H3 md = some (.dK (gk ab1))∧H3 tl = some (.lst ((ab1.map (·.1)).map V.int))∧Bf ps ts c i (some x) j ab1) ⟨_,ab,rfl,s1,em,et,g2⟩ (fun j σ H3 _ ⟨_,_,_,s3,_⟩=>SqL.of (s3 _ _ eax)) ?_ ?_)
  ·unfold jcu
   walk_at "RD"
   exact ⟨nd,_,rfl,.inl ⟨_,Sum.inl x,My.Rd.same hrd s1,rfl,vax.symm⟩,ax,rfl,⟨_,SqL.of (s1 _ _ eax)⟩,hR⟩
  ·rintro j y σ H3 hj ⟨th1,ab1,rfl,s3,em3,et3,g3⟩
   rw [List.getElem?_map] at hj
   obtain ⟨n,hn,rfl⟩:=Option.map_eq_some_iff.mp hj
   have hnn:n ∈ jc4 ts x:=List.mem_of_getElem? hn
   have htk:∀ q ∈ (jc4 ts x).take (j + 1),q ∈ (jc4 ts x).take j ∨ q = n:=fun q hq=>by
    rw [jbn hn] at hq
    rcases List.mem_append.mp hq with z | z
    ·exact .inl z
    ·exact .inr (List.mem_singleton.mp z)
   have hx3:=(g3.xin x rfl).1
   have hxk3:x ∈ ab1.map (·.1):=List.mem_of_getElem? hx3
   simp_arith [em3,jjq]
   by_cases cn:n ∈ ab1.map (·.1)
   ·rw [decide_eq_true cn]
    walk_at "RD"
    exact ⟨_,ab1,rfl,s3,(by first | exact em3 | rfl),et3,⟨g3.c_in,g3.nd,g3.sub,g3.cl,fun m hm=>⟨(g3.xin m hm).1,fun q hq=>by
     cases hm
     rcases htk q hq with z | z
     ·exact (g3.xin _ rfl).2 q z
     ·rw [z]; exact cn⟩,g3.tree,g3.il⟩⟩
   ·rw [decide_eq_false cn]
    have em1:(ab1 ++ [(n,V.int x)]).map (·.1) = ab1.map (·.1) ++ [n]:=by rw [List.map_append]; rfl
    have g4:Bf ps ts c i (some x) (j + 1) (ab1 ++ [(n,V.int x)]):=by
     refine ⟨?_,?_,fun q hq=>?_,fun q hq z hz=>?_,fun q hq=>⟨?_,fun z hz=>?_⟩,g3.tree.snoc hxk3 hnn,?_⟩
     ·rw [em1]; exact List.mem_append_left _ g3.c_in
     ·rw [em1,List.nodup_append]
      exact ⟨g3.nd,by simp,fun a ha b hb=>fun z=>cn (by rw [List.mem_singleton.mp hb] at z; rw [← z]; exact ha)⟩
     ·rw [em1] at hq
      rcases List.mem_append.mp hq with z | z
      ·exact g3.sub q z
      ·rw [List.mem_singleton.mp z]; exact .step (g3.sub x hxk3) hnn
     ·rw [em1,List.take_append_of_le_length (by rw [List.length_map]; exact g3.il)] at hq
      rw [em1]
      exact List.mem_append_left _ (g3.cl q hq z hz)
     ·cases hq
      rw [em1,List.getElem?_append_left (List.getElem?_eq_some_iff.mp hx3).1]
      exact hx3
     ·cases hq
      rw [em1]
      rcases htk z hz with w1 | w1
      ·exact List.mem_append_left _ ((g3.xin _ rfl).2 z w1)
      ·exact List.mem_append_right _ (by rw [w1]; exact List.mem_singleton.mpr rfl)
     ·have:=g3.il
      rw [List.length_append]
      omega
    have hl4:=g4.len hen hc
    rw [List.length_append] at hl4
    have hl4':ab1.length + 1 ≤ ps.length:=hl4
    simp_arith [em3]
    refine ⟨by rw [jh7]; exact szl' (by omega),?_⟩
    rw [jlx cn]
    have et4:upd H3 md (.dK (gk (ab1 ++ [(n,.int x)]))) tl = some (.lst ((ab1.map (·.1)).map V.int)):=by rw [jaj nmt.symm]; exact et3
    refine ⟨⟨tl,_,rfl,et4⟩,?_⟩
    rw [et4]
    refine ⟨by rw [List.length_map,List.length_map]; exact szl' (by omega),_,ab1 ++ [(n,.int x)],rfl,jbh (jbh s3 hmd) htl0,?_,?_,g4⟩
    ·rw [jaj nmt,ja1]
    ·rw [ja1,em1,List.map_append]; rfl
  ·rintro σ H3 ⟨th1,ab1,rfl,s3,em3,et3,g3⟩
   have hx3:=(g3.xin x rfl).1
   have hil:i < ab1.length:=by
    have:=(List.getElem?_eq_some_iff.mp hx3).1
    rwa [List.length_map] at this
   walk_at "RD"
   refine ⟨ps.length - (i + 1),by omega,_,_,i + 1,ab1,rfl,s3,em3,et3,⟨g3.c_in,g3.nd,g3.sub,fun m hm n hn=>?_,(fun _ z=>nomatch z),g3.tree,hil⟩,rfl⟩
   rw [jbn hx3] at hm
   rcases List.mem_append.mp hm with z | z
   ·exact g3.cl m z n hn
   ·rw [List.mem_singleton.mp z] at hn
    refine (g3.xin x rfl).2 n ?_
    rw [List.length_map,List.take_length]
    exact hn
 ·rw [if_neg (by simp; omega)]
  walk_at "RD"
  have hil:=g.il
  have ei:i = ab.length:=by omega
  refine h md H1 ab hmd s1 em ⟨g.nd,fun n=>⟨g.sub n,fun r=>?_⟩,g.tree⟩ (by omega)
  induction r with
  | refl=>exact g.c_in
  | step _ hn ih=>exact g.cl _ (by rw [ei,← List.length_map (f:=fun (x:Int × V)=>x.1),List.take_length]; exact ih) _ hn
theorem jj9 {f:Addr} {fd:FuncData}  (B:Blt mg) (D:DefAt K mg "levels_by" (top 29) ["above"] f fd):FnOk P w K mg base CX0 1 f fd ["above"] jhl:=by
 have sc:FnScope ["above","levels","place"] ["above"] (jbc (top 29)):=⟨rfl,rfl,rfl,by decide +kernel,rfl,by decide +kernel,by decide +kernel⟩
 refine D.F.ok sc (fun vs H Q E h=>?_) (fun cdv A outer s H vs Q E hr h=>?_)
 ·obtain ⟨a,ab,ts,c,col,rfl,_⟩:=h
  rfl
 obtain ⟨a,ab,ts,c,col,rfl,ea,hnd,tree,hcol,hal,h⟩:=h
 have hu:=jcb hr
 have hu0:_ < PySem.cLine:=Nat.lt_of_succ_lt hu
 refine ⟨_,(ja5 (jbe (i:=1) sc.nd rfl (Or.inl rfl) jhv) (ja5 (jca PassesOwn.never rfl (jkf (qv 0)) (jbb (i:=2) sc.nd rfl (Or.inl rfl)) (jan (jgv hu (qv 1) (qv 2) (jfc (jbw q_isN (jen hu (qv 0) (qv 2) (fun _ _=>rfl)) jgw (jbv _)) jak (jc6 jdy (jd4 hu (qv 1) (jen hu (qv 0) (qv 2) (fun _ _=>rfl)) (fun _ _=>rfl)) jak))))) (jan (jbq (qv 1))))),?_⟩
 walk_at "RD"
 intro d hd
 have nad:a ≠ d:=ja6 ea hd
 refine tFor_hideI (ι:=Obj) (fun o=>Itd a o (gk ab)) (fun o=>upd (upd H d (.dK [])) a (.frz o (.dK (gk ab)))) (fun _=>True) (fun R hR=>?_) (fun o _=>?_)
 ·unfold iDct
  walk_at "RD"
  exact ⟨a,_,rfl,(by rw [jaj nad]; exact ea),fun o=>hR o trivial⟩
 have b0:But a H (upd (upd H d (.dK [])) a (.frz o (.dK (gk ab)))):=(But.new hd).trans (But.at _ _ _)
 have ea0:upd (upd H d (.dK [])) a (.frz o (.dK (gk ab))) a = some (.frz o (.dK (gk ab))):=ja1
 have ed0:upd (upd H d (.dK [])) a (.frz o (.dK (gk ab))) d = some (.dK (gk [])):=by rw [jaj nad.symm,ja1]; rfl
 generalize upd (upd H d (.dK [])) a (.frz o (.dK (gk ab))) = H0 at b0 ea0 ed0
 refine ji9 (fun j σ H1=>∃ v1 lv,σ = [some (.ref a),some (.ref d),v1]∧But a H H1∧H1 a = some (.frz o (.dK (gk ab)))∧H1 d = some (.dK (gk lv))∧lv.map (·.1) = (ab.take j).map (·.1)∧jse col c lv) ⟨none,[],rfl,b0,ea0,ed0,by simp,(fun p hp=>nomatch hp)⟩ (fun j σ H1 _ ⟨_,_,_,_,e1,_⟩=>e1) ?_ ?_
 ·rintro j kv σ H1 hj ⟨v1,lv,rfl,b1,ea1,ed1,hk,lok⟩
  obtain ⟨p,hp,ekv⟩:=gk_at hj
  rw [ekv]
  show jal 2 (.int p.1) _ _ _
  have hpm:p ∈ ab:=List.mem_of_getElem? hp
  have vp:=jh6 hnd hpm
  have hjl:j < ab.length:=(List.getElem?_eq_some_iff.mp hp).1
  have htk:(ab.take (j + 1)).map (·.1) = lv.map (·.1) ++ [p.1]:=by rw [jbn hp,List.map_append,hk]; rfl
  have ndk:((ab.take (j + 1)).map (·.1)).Nodup:=by rw [List.map_take]; exact List.Sublist.nodup (List.take_sublist _ _) hnd
  have hpk:p.1 ∉ lv.map (·.1):=fun z=>by
   rw [htk,List.nodup_append] at ndk
   exact ndk.2.2 p.1 z p.1 (List.mem_singleton.mpr rfl) rfl
  have ndl:(lv.map (·.1)).Nodup:=by
   rw [htk,List.nodup_append] at ndk
   exact ndk.1
  have hll:lv.length = j:=by
   have z:=congrArg List.length hk
   rw [List.length_map,List.length_map,List.length_take] at z
   omega
  have fin:∀ x:Int,(x % 2 = if col p.1 = col c then 0 else 1)→(gk lv).length < sizeLine∧∃ v1 lv',[some (V.ref a),some (V.ref d),some (V.int p.1)] = [some (V.ref a),some (V.ref d),v1]∧But a H (upd H1 d (.dK (putK (gk lv) (Sum.inl p.1:Key) (.int x))))∧upd H1 d (.dK (putK (gk lv) (Sum.inl p.1:Key) (.int x))) a = some (.frz o (.dK (gk ab)))∧upd H1 d (.dK (putK (gk lv) (Sum.inl p.1:Key) (.int x))) d = some (.dK (gk lv'))∧lv'.map (·.1) = (ab.take (j + 1)).map (·.1)∧jse col c lv':=fun x hx=>by
   rw [jlx hpk]
   refine ⟨by rw [jh7]; exact szl' (by omega),_,lv ++ [(p.1,.int x)],rfl,fun b u nb q=>?_,?_,ja1,?_,fun q hq=>?_⟩
   ·rw [jaj (ja6 q hd)]; exact b1 _ _ nb q
   ·rw [jaj nad]; exact ea1
   ·rw [htk,List.map_append]; rfl
   ·rcases List.mem_append.mp hq with z | z
    ·exact lok q z
    ·rw [List.mem_singleton.mp z]
     exact ⟨x,rfl,hx⟩
  walk_at "RD"
  refine ⟨a,_,rfl,.inl ⟨_,Sum.inl p.1,.inr ⟨o,ea1⟩,rfl,vp.symm⟩,?_⟩
  rcases tree j p hp with ⟨e1,e2⟩ | ⟨m,e1,e2,e3⟩
  ·rw [e1]
   refine ite2 (fun _=>?_) (fun z=>absurd rfl z)
   rw [ed1]
   exact fin 0 (by rw [e2,if_pos rfl]; rfl)
  ·rw [e1] at vp ⊢
   refine ite2 (fun z=>by cases z) (fun _=>?_)
   refine ⟨a,_,rfl,.inl ⟨_,Sum.inl p.1,.inr ⟨o,ea1⟩,rfl,vp.symm⟩,?_⟩
   rw [← hk] at e2
   obtain ⟨q,hq,eq⟩:=List.mem_map.mp e2
   have eq':q.1 = m:=eq
   obtain ⟨x,ex,hx⟩:=lok q hq
   have vq:=jh6 ndl hq
   rw [eq',ex] at vq
   rw [eq'] at hx
   have hc2:=hcol m p.1 e3
   dsimp only
   rw [ed1]
   dsimp only
   rw [vq]
   refine fin (x + 1) ?_
   rw [hc2]
   revert hx
   cases col m <;> cases col c <;> simp <;> omega
 ·rintro σ H1 ⟨v1,lv,rfl,b1,ea1,ed1,hk,lok⟩
  rw [jh7,List.take_length] at hk
  walk_at "RD"
  exact h d H1 lv o hd b1 ea1 ed1 hk lok
theorem jf1 {f:Addr} {fd:FuncData} {f_met_from:Addr} {d_met_from:FuncData} {f_levels_by:Addr} {d_levels_by:FuncData} (B:Blt mg) (D:DefAt K mg "odd_ring_from" (top 32) ["nears","place"] f fd) (D_met_from:DefAt K mg "met_from" (top 28) ["nears","place"] f_met_from d_met_from) (G_met_from:FnOk P w K mg base CX0 1 f_met_from d_met_from ["nears","place"] jr4) (D_levels_by:DefAt K mg "levels_by" (top 29) ["above"] f_levels_by d_levels_by) (G_levels_by:FnOk P w K mg base CX0 1 f_levels_by d_levels_by ["above"] jhl):FnOk P w K mg base CX0 2 f fd ["nears","place"] spOdd:=by
 have sc:FnScope ["nears","place","above","levels","here","there"] ["nears","place"] (jbc (top 32)):=⟨rfl,rfl,rfl,by decide +kernel,rfl,by decide +kernel,by decide +kernel⟩
 refine D.F.ok sc (fun vs H Q E h=>?_) (fun cdv A outer s H vs Q E hr h=>?_)
 ·obtain ⟨nd,c,ps,ts,as,col,rfl,_⟩:=h
  rfl
 obtain ⟨nd,c,ps,ts,as,col,rfl,hrd,hla,hne,hen,hnd,hpl,htl,hc,hcol,h⟩:=h
 have hu:=jcb hr
 have hu0:_ < PySem.cLine:=Nat.lt_of_succ_lt hu
 refine ⟨_,(ja5 (jbe (i:=2) sc.nd rfl (Or.inl rfl) (jbg G_met_from (hr.mono (by decide)) rfl D_met_from.m D_met_from.F.kp D_met_from.b .nil jbt (ja0 (qv 0) (ja0 (qv 1) jah)))) (ja5 (jbe (i:=3) sc.nd rfl (Or.inl rfl) (jbg G_levels_by (hr.mono (by decide)) rfl D_levels_by.m D_levels_by.F.kp D_levels_by.b .nil jbt (ja0 (qv 2) jah))) (ja5 (jca PassesOwn.never rfl (jfb (qv 2)) (jbb (i:=4) sc.nd rfl (Or.inl rfl)) (jan (jca PassesOwn.never rfl (jbx (jen hu (qv 0) (qv 4) (fun _ _=>rfl))) (jbb (i:=5) sc.nd rfl (Or.inl rfl)) (jan (jct (jbw q_eq (jd4 hu (qv 3) (qv 5) (fun _ _=>rfl)) (jd4 hu (qv 3) (qv 4) (fun _ _=>rfl)) (jbv _)) (jan jdq) jbu))))) (jan (jbq jgw))))),?_⟩
 walk_at "RD"
 refine ⟨nd,c,ps,ts,as,rfl,hrd,hla,hne,hen,hnd,hpl,htl,hc,fun md H1 ab hmd s1 em mok hal=>?_⟩
 walk_at "RD"
 refine ⟨md,ab,ts,c,col,rfl,em,mok.nd,mok.tree,hcol,hal,fun d H2 lv o hd b2 em2 ed2 hk lok=>?_⟩
 have s2:Same H H2:=fun b u q=>b2 _ _ (ja6 q hmd) (s1 _ _ q)
 walk_at "RD"
 refine jbo (Itd md o (gk ab)) H2 (fun R hR=>?_) (ji9 (fun j σ H3=>∃ v1 v2,σ = [some (.ref nd),some (.int c),some (.ref md),some (.ref d),v1,v2]∧H3 = H2) ⟨none,none,rfl,rfl⟩ (fun j σ H3 _ ⟨_,_,_,e⟩=>by rw [e]; exact em2) ?_ ?_)
 ·unfold joh
  walk_at "RD"
  exact ⟨md,_,o,rfl,em2,hR⟩
 ·rintro j kv σ H3 hj ⟨v1,v2,rfl,rfl⟩
  obtain ⟨p0,hp0,ekv⟩:=gk_at hj
  rw [ekv]
  show jal 4 (.int p0.1) _ _ _
  have hxk:p0.1 ∈ ab.map (·.1):=List.mem_map_of_mem (List.mem_of_getElem? hp0)
  have hxr:=(mok.all _).mp hxk
  have hxp:p0.1 ∈ ps.map (·.1):=hxr.pl hen hc
  generalize p0.1 = x at hxk hxr hxp
  obtain ⟨p,hp,epx⟩:=List.mem_map.mp hxp
  obtain ⟨k,hk0,epk⟩:=List.mem_iff_getElem.mp hp
  have xi:ps[k]? = some p:=by rw [List.getElem?_eq_getElem hk0,epk]
  have ai:as[k]? = some (as[k]'(by omega)):=List.getElem?_eq_getElem _
  generalize as[k]'(by omega) = ax at ai
  have eax:=hne k p ax xi ai
  rw [epx] at eax
  have vax:=jjk hnd xi ai
  rw [epx] at vax
  have lev:∀ n,n ∈ ab.map (·.1)→∃ y:Int,valV (gk lv) (Sum.inl n:Key) = some (.int y)∧y % 2 = if col n = col c then 0 else 1:=fun n hn=>by
   rw [← hk] at hn
   obtain ⟨q,hq,eq⟩:=List.mem_map.mp hn
   have eq':q.1 = n:=eq
   obtain ⟨y,ey,hy⟩:=lok q hq
   have vq:=jh6 (by rw [hk]; exact mok.nd) hq
   rw [eq',ey] at vq
   rw [eq'] at hy
   exact ⟨y,vq,hy⟩
  walk_at "RD"
  refine jbo (Itl K ax) H3 (fun R hR=>?_) (jc9 (K:=K) (a:=ax) (xs:=(jc4 ts x).map V.int) (fun j σ H4=>∃ v2,σ = [some (.ref nd),some (.int c),some (.ref md),some (.ref d),some (.int x),v2]∧H4 = H3) ⟨_,rfl,rfl⟩ (fun j σ H4 _ ⟨_,_,e⟩=>by rw [e]; exact SqL.of (s2 _ _ eax)) ?_ ?_)
  ·unfold jcu
   walk_at "RD"
   exact ⟨nd,_,rfl,.inl ⟨_,Sum.inl x,My.Rd.same hrd s2,rfl,vax.symm⟩,ax,rfl,⟨_,SqL.of (s2 _ _ eax)⟩,hR⟩
  ·rintro i y σ H4 hi ⟨v2,rfl,rfl⟩
   rw [List.getElem?_map] at hi
   obtain ⟨n,hn,rfl⟩:=Option.map_eq_some_iff.mp hi
   have hnn:n ∈ jc4 ts x:=List.mem_of_getElem? hn
   obtain ⟨y1,e1,h1⟩:=lev x hxk
   obtain ⟨y2,e2,h2⟩:=lev n ((mok.all _).mpr (.step hxr hnn))
   have hne12:¬ y2 = y1:=fun z=>by
    rw [hcol x n hnn] at h2
    rw [z,h1] at h2
    revert h2
    cases col x <;> cases col c <;> simp
   simp_arith [ed2,e1,e2,decide_eq_false hne12]
   first | exact ⟨_,rfl,rfl⟩ | exact ⟨rfl,rfl⟩ | rfl | simp
  ·rintro σ H4 ⟨v2,rfl,rfl⟩
   first | exact ⟨_,_,rfl,rfl⟩ | rfl | simp
 ·rintro σ H3 ⟨v1,v2,rfl,rfl⟩
  walk_at "RD"
  exact h H3 s2
end
end My
namespace My
open PySem L2
section
variable {P:Program} {w:World} {K:PySem.W.Frag} {mg:Str→Option Value} {base:Heap} {c1 c2 c3 c4:Tok}
def sdv (f:Int→Int) (col:Int→Bool) (n:Int):Int:=if col n = col (f n) then 0 else 1
def sdL (f:Int→Int) (col:Int→Bool) (ns:List Int) (b:Int):List Int:=ns.filter fun n=>decide (sdv f col n = b)
def jn3:Sp:=fun vs H Q _=>∃ v ps ts f col,vs = [v]∧jdj H v ps ts∧WebOk ps ts∧LabOk ps ts f∧Col ts col ∧
 ∀ t a1 a2 H',H a1 = none→H a2 = none→a1 ≠ a2→Same H H'→H' t = some (.tup [.str "sides",.ref a1,.ref a2])→H' a1 = some (.lst ((sdL f col (ps.map (·.1)) 0).map V.int))→H' a2 = some (.lst ((sdL f col (ps.map (·.1)) 1).map V.int))→Q (.ref t) H'
theorem jki {f:Addr} {fd:FuncData} {f_look_at_web:Addr} {d_look_at_web:FuncData} {f_nears_in:Addr} {d_nears_in:FuncData} {f_odd_ring_from:Addr} {d_odd_ring_from:FuncData} {f_levels_by:Addr} {d_levels_by:FuncData} {f_met_from:Addr} {d_met_from:FuncData} (B:Blt mg) (D:DefAt K mg "sides_of" (top 34) ["web"] f fd) (D_look_at_web:DefAt K mg "look_at_web" (top 25) ["thing"] f_look_at_web d_look_at_web) (G_look_at_web:FnOk P w K mg base CX0 5 f_look_at_web d_look_at_web ["thing"] jiy) (D_nears_in:DefAt K mg "nears_in" (top 26) ["web"] f_nears_in d_nears_in) (G_nears_in:FnOk P w K mg base CX0 1 f_nears_in d_nears_in ["web"] jix) (D_odd_ring_from:DefAt K mg "odd_ring_from" (top 32) ["nears","place"] f_odd_ring_from d_odd_ring_from) (G_odd_ring_from:FnOk P w K mg base CX0 2 f_odd_ring_from d_odd_ring_from ["nears","place"] spOdd) (D_levels_by:DefAt K mg "levels_by" (top 29) ["above"] f_levels_by d_levels_by) (G_levels_by:FnOk P w K mg base CX0 1 f_levels_by d_levels_by ["above"] jhl) (D_met_from:DefAt K mg "met_from" (top 28) ["nears","place"] f_met_from d_met_from) (G_met_from:FnOk P w K mg base CX0 1 f_met_from d_met_from ["nears","place"] jr4):FnOk P w K mg base CX0 6 f fd ["web"] jn3:=by
 have sc:FnScope ["web","nears","levels","place","ring","first","other"] ["web"] (jbc (top 34)):=⟨rfl,rfl,rfl,by decide +kernel,rfl,by decide +kernel,by decide +kernel⟩
 refine D.F.ok sc (fun vs H Q E h=>?_) (fun cdv A outer s H vs Q E hr h=>?_)
 ·obtain ⟨v,ps,ts,f,col,rfl,_⟩:=h
  rfl
 obtain ⟨v,ps,ts,fl,col,rfl,hw,wok,lab,hcol,h⟩:=h
 have okl:=wok.pl
 have okt:=wok.tl
 have hnd:=wok.p.nodup
 have hen:=wok.ends
 have hu:=jcb hr
 have hu0:_ < PySem.cLine:=Nat.lt_of_succ_lt hu
 refine ⟨_,(ja5 (jby (jbg G_look_at_web (hr.mono (by decide)) rfl D_look_at_web.m D_look_at_web.F.kp D_look_at_web.b .nil jbt (ja0 (qv 0) jah))) (ja5 (jbe (i:=1) sc.nd rfl (Or.inl rfl) (jbg G_nears_in (hr.mono (by decide)) rfl D_nears_in.m D_nears_in.F.kp D_nears_in.b .nil jbt (ja0 (qv 0) jah))) (ja5 (jbe (i:=2) sc.nd rfl (Or.inr rfl) jhv) (ja5 (jca PassesOwn.never rfl (jkf (qv 1)) (jbb (i:=3) sc.nd rfl (Or.inl rfl)) (jan (jct (jfo (jde hu (qv 3) (qv 2))) (ja5 (jbe (i:=4) sc.nd rfl (Or.inl rfl) (jbg G_odd_ring_from (hr.mono (by decide)) rfl D_odd_ring_from.m D_odd_ring_from.F.kp D_odd_ring_from.b .nil jbt (ja0 (qv 1) (ja0 (qv 3) jah)))) (ja5 (jct (jbw jql (qv 4) jgw (jbv _)) (jan (jbq (jd6 (ja0 jnv (ja0 (qv 4) jah))))) jbu) (jan (jby (jri (qv 2) (jbg G_levels_by (hr.mono (by decide)) rfl D_levels_by.m D_levels_by.F.kp D_levels_by.b .nil jbt (ja0 (jbg G_met_from (hr.mono (by decide)) rfl D_met_from.m D_met_from.F.kp D_met_from.b .nil jbt (ja0 (qv 1) (ja0 (qv 3) jah))) jah))))))) jbu))) (ja5 (jkb (i:=5) sc.nd rfl (Or.inl rfl) (CpScope.of (N:=["place","levels"]) (src:=[none,some 2]) (by rfl)) rfl (jfb (qv 1)) (fun _ _ _ _=>(jbb (i:=0) (jbj (l:=["place","levels"]) (by rfl)) rfl (Or.inl rfl))) (fun _ _ _ _=>(jd5 (jbw q_eq (jc6 jhr (jd4 hu (qv 1) (qv 0) (fun _ _=>rfl)) jak) jak (jbv _)))) (fun _ _ _ _=>(qv 0))) (ja5 (jkb (i:=6) sc.nd rfl (Or.inl rfl) (CpScope.of (N:=["place","levels"]) (src:=[none,some 2]) (by rfl)) rfl (jfb (qv 1)) (fun _ _ _ _=>(jbb (i:=0) (jbj (l:=["place","levels"]) (by rfl)) rfl (Or.inl rfl))) (fun _ _ _ _=>(jd5 (jbw q_eq (jc6 jhr (jd4 hu (qv 1) (qv 0) (fun _ _=>rfl)) jak) jak (jbv _)))) (fun _ _ _ _=>(qv 0))) (jan (jbq (jd6 (ja0 jnv (ja0 (qv 5) (ja0 (qv 6) jah)))))))))))),?_⟩
 walk_at "RD"
 refine ⟨v,ps,ts,rfl,hw,wok,fun H1 s1=>?_⟩
 walk_at "RD"
 refine ⟨v,ps,ts,rfl,hw.same s1,wok,fun nd as H2 hn2 s2 en2 hla ne2=>?_⟩
 have s12:=s1.trans s2
 have hn0:H nd = none:=by
  cases q:H nd with
  | none=>rfl
  | some u=>rw [s1 _ _ q] at hn2; cases hn2
 walk_at "RD"
 intro md hmd
 have hmd0:H md = none:=s12.free hmd
 have s3:Same H2 (upd H2 md (.dK [])):=jai hmd _
 have em3:upd H2 md (.dK []) md = some (.dK (gk [])):=ja1
 have nnm:nd ≠ md:=ja6 en2 hmd
 have en3:=s3 _ _ en2
 have ne3:jl7 (upd H2 md (.dK [])) ps ts as:=fun i p a h1 h2=>s3 _ _ (ne2 i p a h1 h2)
 have hma:∀ (i:Nat) (p:Int × Int) (a:Addr),ps[i]? = some p→as[i]? = some a→a ≠ md∧a ≠ nd:=fun i p a h1 h2=>⟨ja6 (ne2 i p a h1 h2) hmd,jgk (ne2 i p a h1 h2) en2 (fun z=>nomatch z)⟩
 have s13:=s12.trans s3
 generalize upd H2 md (.dK []) = H3 at em3 en3 ne3 s13
 clear s3 ne2 en2 hmd s2 s12 hn2 s1
 have hkl:=kz_len hla
 refine tFor_hideI (ι:=Obj) (fun o=>Itd nd o (kz ps as)) (fun o=>upd H3 nd (.frz o (.dK (kz ps as)))) (fun _=>True) (fun R hR=>?_) (fun o _=>?_)
 ·unfold iDct
  walk_at "RD"
  exact ⟨nd,_,rfl,en3,fun o=>hR o trivial⟩
 have s4:Same H (upd H3 nd (.frz o (.dK (kz ps as)))):=jbh s13 hn0
 have em4:upd H3 nd (.frz o (.dK (kz ps as))) md = some (.dK (gk [])):=by rw [jaj nnm.symm]; exact em3
 have en4:upd H3 nd (.frz o (.dK (kz ps as))) nd = some (.frz o (.dK (kz ps as))):=ja1
 have ne4:jl7 (upd H3 nd (.frz o (.dK (kz ps as)))) ps ts as:=fun i p a h1 h2=>by rw [jaj (hma i p a h1 h2).2]; exact ne3 i p a h1 h2
 generalize upd H3 nd (.frz o (.dK (kz ps as))) = H4 at s4 em4 en4 ne4
 clear s13 em3 en3 ne3
 refine ji9 (fun j σ H5=>∃ v1 v2 lv,σ = [some v,some (.ref nd),some (.ref md),v1,v2,none,none]∧Same H H5∧H5 nd = some (.frz o (.dK (kz ps as)))∧jl7 H5 ps ts as∧H5 md = some (.dK (gk lv))∧(lv.map (·.1)).Nodup∧(∀ n,n ∈ lv.map (·.1) ↔ n ∈ ps.map (·.1)∧fl n ∈ (ps.take j).map (·.1))∧(∀ q ∈ lv,∃ x:Int,q.2 = .int x∧x % 2 = sdv fl col q.1)) ⟨none,none,[],rfl,s4,en4,ne4,em4,List.nodup_nil,fun n=>by simp,(fun q hq=>nomatch hq)⟩ (fun j σ H5 _ ⟨_,_,_,_,_,en5,_⟩=>en5) ?_ ?_
 ·rintro j kv σ H5 hj ⟨v1,v2,lv,rfl,s5,en5,ne5,em5,ndk,hks,lok⟩
  obtain ⟨p,hp,ekv⟩:=jrs hla hj
  rw [ekv]
  have hpm:p ∈ ps:=List.mem_of_getElem? hp
  have hpn:p.1 ∈ ps.map (·.1):=List.mem_map_of_mem hpm
  have hnj:p.1 ∉ (ps.take j).map (·.1):=fun z=>by
   obtain ⟨q,hq,e⟩:=List.mem_map.mp z
   obtain ⟨i,hi,eq⟩:=List.mem_iff_getElem.mp hq
   rw [List.length_take] at hi
   rw [List.getElem_take] at eq
   have:=wok.p.rise i j q p (by omega) (by rw [List.getElem?_eq_getElem (by omega),eq]) hp
   omega
  have htk:∀ n,n ∈ (ps.take (j + 1)).map (·.1) ↔ n ∈ (ps.take j).map (·.1) ∨ n = p.1:=fun n=>by
   rw [jbn hp,List.map_append,List.mem_append]
   simp
  show jal 3 (.int p.1) _ _ _
  simp_arith [em5,jjq]
  by_cases cf:fl p.1 = p.1
  ·have hpk:p.1 ∉ lv.map (·.1):=fun z=>hnj (by have:=((hks p.1).mp z).2; rwa [cf] at this)
   rw [decide_eq_false hpk]
   walk_at "RD"
   refine ⟨nd,p.1,ps,ts,as,col,rfl,.inr ⟨o,en5⟩,hla,ne5,hen,hnd,okl,okt,hpn,hcol,fun H6 s6=>?_⟩
   walk_at "RD"
   have em6:=s6 _ _ em5
   refine ⟨md,rfl,.inl ⟨_,.inl em6⟩,nd,p.1,ps,ts,as,rfl,.inr ⟨o,s6 _ _ en5⟩,hla,fun i q a h1 h2=>s6 _ _ (ne5 i q a h1 h2),hen,hnd,okl,okt,hpn,fun ad H7 ab had s7 ead mok hal=>?_⟩
   walk_at "RD"
   refine ⟨ad,ab,ts,p.1,col,rfl,ead,mok.nd,mok.tree,hcol,hal,fun d H8 l2 o2 hd b8 ea8 ed8 hk2 lok2=>?_⟩
   have s67:=s6.trans s7
   have s58:Same H5 H8:=fun b u q=>b8 _ _ (ja6 (s6 _ _ q) had) (s67 _ _ q)
   have em8:=s58 _ _ em5
   have ndm:md ≠ d:=ja6 (s67 _ _ em5) hd
   have hk2':∀ n,n ∈ l2.map (·.1) ↔ n ∈ ps.map (·.1)∧fl n = p.1:=fun n=>by
    rw [hk2,mok.all]
    constructor
    ·intro r
     have hn:=r.pl hen hpn
     exact ⟨hn,by rw [← (lab.cls p.1 n hpn hn).mpr r,cf]⟩
    ·rintro ⟨hn,e⟩
     exact (lab.cls p.1 n hpn hn).mp (by rw [cf,e])
   have nd2:(l2.map (·.1)).Nodup:=by rw [hk2]; exact mok.nd
   have dis:∀ n ∈ l2.map (·.1),n ∉ lv.map (·.1):=fun n h1 h2=>hnj (by have z:=((hks n).mp h2).2; rwa [((hk2' n).mp h1).2] at z)
   have l1:=jdb ndk fun n hn=>((hks n).mp hn).1
   have l3:=jdb nd2 fun n hn=>((hk2' n).mp hn).1
   rw [List.length_map,List.length_map] at l1 l3
   refine ⟨d,gk lv,gk l2,rfl,ndm,em8,ed8,by rw [jh7,jh7]; omega,?_⟩
   rw [jly dis nd2]
   have k9:∀ b u,b ≠ md→H5 b = some u→upd H8 md (.dK (gk (lv ++ l2))) b = some u:=fun b u nb q=>by rw [jaj nb]; exact s58 _ _ q
   refine ⟨_,_,lv ++ l2,rfl,jbh (s5.trans s58) hmd0,k9 _ _ nnm en5,fun i q a h1 h2=>k9 _ _ (hma i q a h1 h2).1 (ne5 i q a h1 h2),ja1,?_,fun n=>?_,fun q hq=>?_⟩
   ·rw [List.map_append,List.nodup_append]
    exact ⟨ndk,nd2,fun a ha b hb z=>dis b hb (by rw [← z]; exact ha)⟩
   ·rw [List.map_append,List.mem_append,hks,hk2',htk]
    constructor
    ·rintro (⟨a,b⟩ | ⟨a,b⟩)
     ·exact ⟨a,.inl b⟩
     ·exact ⟨a,.inr b⟩
    ·rintro ⟨a,b | b⟩
     ·exact .inl ⟨a,b⟩
     ·exact .inr ⟨a,b⟩
   ·rcases List.mem_append.mp hq with z | z
    ·exact lok q z
    ·obtain ⟨x,ex,hx⟩:=lok2 q z
     refine ⟨x,ex,?_⟩
     rw [hx,sdv,((hk2' q.1).mp (List.mem_map_of_mem z)).2]
  ·have hfp:=lab.pl p.1 hpn
   have hfl:=lab.le p.1 hpn
   have hpk:p.1 ∈ lv.map (·.1):=by
    rw [hks]
    refine ⟨hpn,?_⟩
    obtain ⟨q,hq,e⟩:=List.mem_map.mp hfp
    obtain ⟨i,hi,eq⟩:=List.mem_iff_getElem.mp hq
    have xi:ps[i]? = some q:=by rw [List.getElem?_eq_getElem hi,eq]
    have hij:i < j:=by
     rcases Nat.lt_trichotomy i j with c | c | c
     ·exact c
     ·rw [c,hp] at xi; cases xi; exact absurd e.symm cf
     ·have:=wok.p.rise j i p q c hp xi
      have e':q.1 = fl p.1:=e
      omega
    rw [← e]
    exact List.mem_map_of_mem (List.mem_of_getElem? (i:=i) (by rw [List.getElem?_take,if_pos hij]; exact xi))
   rw [decide_eq_true hpk]
   walk_at "RD"
   refine ⟨_,_,lv,rfl,s5,en5,ne5,(by first | exact em5 | rfl),ndk,fun n=>?_,lok⟩
   rw [hks,htk]
   constructor
   ·rintro ⟨a,b⟩
    exact ⟨a,.inl b⟩
   ·rintro ⟨a,b | b⟩
    ·exact ⟨a,b⟩
    ·exact absurd (by rw [← b]; exact lab.fix n a) cf
 rintro σ H5 ⟨v1,v2,lv,rfl,s5,en5,ne5,em5,ndk,hks,lok⟩
 rw [hkl] at hks
 have hkz:=jer (ps:=ps) (as:=as) hla.symm
 have lev:∀ p ∈ ps,∃ x:Int,valV (gk lv) (Sum.inl p.1:Key) = some (.int x)∧x % 2 = sdv fl col p.1:=fun p hp=>by
  have hpn:p.1 ∈ ps.map (·.1):=List.mem_map_of_mem hp
  have hn:=(hks p.1).mpr ⟨hpn,by rw [List.take_length]; exact lab.pl p.1 hpn⟩
  obtain ⟨q,hq,e⟩:=List.mem_map.mp hn
  have e':q.1 = p.1:=e
  obtain ⟨x,ex,hx⟩:=lok q hq
  have vq:=jh6 ndk hq
  rw [e',ex] at vq
  rw [e'] at hx
  exact ⟨x,vq,hx⟩
 walk_at "RD"
 refine jbr (Itd nd o (kz ps as)) H5 (fun R hR=>?_) (fun l hl=>jc3 ps.length (fun i σ' Hc=>∃ w1,σ' = [w1,some (.ref md)]∧Same H5 Hc∧Hc l = some (.lst ((sdL fl col ((ps.map (·.1)).take i) 0).map V.int))) ⟨none,rfl,jai hl _,ja1⟩ ?_ ?_)
 ·unfold joh
  walk_at "RD"
  exact ⟨nd,_,o,rfl,en5,hR⟩
 ·rintro i σ' Hc hi ⟨w1,rfl,s6,el⟩
  refine ⟨⟨s6 _ _ (en5),by rw [hkl]; exact hi⟩,?_⟩
  rintro y H' ⟨rfl,kv,hkv,rfl⟩
  obtain ⟨p,hp,ekv⟩:=jrs hla hkv
  rw [ekv]
  obtain ⟨x,vx,hx⟩:=lev p (List.mem_of_getElem? hp)
  have hp1:(ps.map (·.1))[i]? = some p.1:=by rw [List.getElem?_map,hp]; rfl
  have ft:=jdg (f:=fun n=>decide (sdv fl col n = 0)) hp1
  have hls:(sdL fl col ((ps.map (·.1)).take i) 0).length ≤ i:=by
   unfold sdL
   refine Nat.le_trans (List.length_filter_le _ _) ?_
   rw [List.length_take]
   omega
  show jal 0 (.int p.1) _ _ _
  simp_arith [s6 _ _ (em5),vx]
  refine ⟨by decide,?_⟩
  rw [hx]
  refine ite2 (fun c1=>?_) (fun c1=>?_)
  ·refine ⟨_,el,by rw [List.length_map]; exact szl' (by omega),_,rfl,jbh s6 hl,?_⟩
   rw [ja1]
   unfold sdL
   rw [ft,if_pos c1,List.map_append]
   rfl
  ·unfold sdL at el ⊢
   rw [ft,if_neg c1,List.append_nil]
   exact ⟨_,rfl,s6,el⟩
 rintro σ' HA ⟨w7,rfl,s7,el7⟩
 refine ⟨⟨s7 _ _ (en5),by rw [hkl]; exact Nat.le_refl _⟩,?_⟩
 rw [show ps.length = (ps.map (·.1)).length by rw [List.length_map],List.take_length] at el7
 walk_at "RD"
 refine jbr (Itd nd o (kz ps as)) HA (fun R hR=>?_) (fun l2 hl2=>jc3 ps.length (fun i σ' Hc=>∃ w1,σ' = [w1,some (.ref md)]∧Same HA Hc∧Hc l2 = some (.lst ((sdL fl col ((ps.map (·.1)).take i) 1).map V.int))) ⟨none,rfl,jai hl2 _,ja1⟩ ?_ ?_)
 ·unfold joh
  walk_at "RD"
  exact ⟨nd,_,o,rfl,s7 _ _ en5,hR⟩
 ·rintro i σ' Hc hi ⟨w1,rfl,s6,el⟩
  refine ⟨⟨s6 _ _ (s7 _ _ en5),by rw [hkl]; exact hi⟩,?_⟩
  rintro y H' ⟨rfl,kv,hkv,rfl⟩
  obtain ⟨p,hp,ekv⟩:=jrs hla hkv
  rw [ekv]
  obtain ⟨x,vx,hx⟩:=lev p (List.mem_of_getElem? hp)
  have hp1:(ps.map (·.1))[i]? = some p.1:=by rw [List.getElem?_map,hp]; rfl
  have ft:=jdg (f:=fun n=>decide (sdv fl col n = 1)) hp1
  have hls:(sdL fl col ((ps.map (·.1)).take i) 1).length ≤ i:=by
   unfold sdL
   refine Nat.le_trans (List.length_filter_le _ _) ?_
   rw [List.length_take]
   omega
  show jal 0 (.int p.1) _ _ _
  simp_arith [s6 _ _ (s7 _ _ em5),vx]
  refine ⟨by decide,?_⟩
  rw [hx]
  refine ite2 (fun c1=>?_) (fun c1=>?_)
  ·refine ⟨_,el,by rw [List.length_map]; exact szl' (by omega),_,rfl,jbh s6 hl2,?_⟩
   rw [ja1]
   unfold sdL
   rw [ft,if_pos c1,List.map_append]
   rfl
  ·unfold sdL at el ⊢
   rw [ft,if_neg c1,List.append_nil]
   exact ⟨_,rfl,s6,el⟩
 rintro σ' HB ⟨w8,rfl,s8,el8⟩
 refine ⟨⟨s8 _ _ (s7 _ _ en5),by rw [hkl]; exact Nat.le_refl _⟩,?_⟩
 rw [show ps.length = (ps.map (·.1)).length by rw [List.length_map],List.take_length] at el8
 have s78:=s7.trans s8
 walk_at "RD"
 intro t ht
 have st:=jai ht (.tup [.str "sides",.ref l,.ref l2])
 exact h t l l2 _ (s5.free hl) (s5.free (s7.free hl2)) (ja6 el7 hl2) (s5.trans (s78.trans st)) ja1 (st _ _ (s8 _ _ el7)) (st _ _ el8)
end
end My
namespace My
open PySem L2
section
variable {P:Program} {w:World} {K:PySem.W.Frag} {mg:Str→Option Value} {base:Heap} {c1 c2 c3 c4:Tok}
def numD (ns:List Int):Dt:=.lst (ns.map Dt.int)
theorem jo1 {H:Hp} {l:Addr} {ns:List Int} (h:H l = some (.lst (ns.map V.int))):Rep H (numD ns) (.ref l):=by
 rw [numD,Rep]
 exact ⟨l,_,rfl,h,jeb ns⟩
theorem jh9:∀ (ns:List Int),jcq (ns.map Dt.int) = 0
 | []=>by rw [List.map_nil,jcq]
 | n :: r=>by rw [List.map_cons,jcq,jh9 r]; simp [depP]
theorem jq2 (ns:List Int):depP (numD ns) ≤ 1:=by rw [numD,depP,jh9]; omega
def sdk (f:Int→Int) (col:Int→Bool) (ks:List Int):List (Int × V):=ks.map fun n=>(n,V.int (sdv f col n))
theorem jfa (f:Int→Int) (col:Int→Bool) (ks:List Int):(sdk f col ks).map (·.1) = ks:=by
 unfold sdk
 rw [List.map_map]
 exact List.map_id' ks
theorem jp8 (f:Int→Int) (col:Int→Bool) (ks:List Int) (n:Int):sdk f col ks ++ [(n,V.int (sdv f col n))] = sdk f col (ks ++ [n]):=by
 unfold sdk
 rw [List.map_append]
 rfl
theorem jne {f:Int→Int} {col:Int→Bool} {ks:List Int} {n:Int} (nd:ks.Nodup) (h:n ∈ ks):valV (gk (sdk f col ks)) (Sum.inl n:Key) = some (.int (sdv f col n)) :=
 jh6 (l:=sdk f col ks) (p:=(n,V.int (sdv f col n))) (by rw [jfa]; exact nd) (by unfold sdk; exact List.mem_map_of_mem (f:=fun n=>(n,V.int (sdv f col n))) h)
theorem jnf {f:Int→Int} {col:Int→Bool} {ks:List Int} {n:Int} (h:n ∉ ks):putK (gk (sdk f col ks)) (Sum.inl n:Key) (.int (sdv f col n)) = gk (sdk f col (ks ++ [n])):=by
 rw [jlx (by rw [jfa]; exact h),jp8]
theorem jng (f:Int→Int) (col:Int→Bool) (ks:List Int):(gk (sdk f col ks)).length = ks.length:=by rw [jh7]; unfold sdk; rw [List.length_map]
structure Ds (ts:List (Int × Int)) (c:Int) (k0:List Int) (x:Option Int) (dn:Int→Prop) (ks td:List Int):Prop where
 c_in:c ∈ ks
 sup:∀ n ∈ k0,n ∈ ks
 nd:ks.Nodup
 sub:∀ n ∈ ks,n ∈ k0 ∨ Rch ts c n
 tin:∀ n ∈ td,n ∈ ks∧Rch ts c n
 cl:∀ m ∈ ks,m ∉ k0→m ∉ td→x ≠ some m→∀ n ∈ jc4 ts m,n ∈ ks
 xin:∀ m,x = some m→m ∈ ks∧Rch ts c m∧∀ n,dn n→n ∈ ks
 tl:td.length ≤ ks.length
theorem Ds.len {ps ts:List (Int × Int)} {c:Int} {k0:List Int} {x:Option Int} {dn:Int→Prop} {ks td:List Int} (h:Ds ts c k0 x dn ks td) (he:Ends ps ts) (hc:c ∈ ps.map (·.1)) (h0:∀ n ∈ k0,n ∈ ps.map (·.1)):ks.length ≤ ps.length:=by
 have z:=jdb h.nd fun n hn=>by
  rcases h.sub n hn with z | z
  ·exact h0 n z
  ·exact z.pl he hc
 rwa [List.length_map] at z
def jlb:Sp:=fun vs H Q _=>∃ v ps ts f col,vs = [v]∧jdj H v ps ts∧WebOk ps ts∧LabOk ps ts f∧Col ts col ∧
 ∀ d H' ks,H d = none→Same H H'→H' d = some (.dK (gk (sdk f col ks)))→ks.Nodup→(∀ p ∈ ps,p.1 ∈ ks)→Q (.ref d) H'
theorem jle {ps ts:List (Int × Int)} {f:Int→Int} {col:Int→Bool} (lab:LabOk ps ts f) (hcol:Col ts col) {m n:Int} (hm:m ∈ ps.map (·.1)) (hn:n ∈ ps.map (·.1)) (h:n ∈ jc4 ts m):sdv f col n = 1 - sdv f col m:=by
 have e:=(lab.cls m n hm hn).mpr (.step .refl h)
 unfold sdv
 rw [← e,hcol m n h]
 cases col m <;> cases col (f m) <;> simp
theorem jja {f:Addr} {fd:FuncData}  (B:Blt mg) (D:DefAt K mg "_law_sides" (top 46) ["_law_web"] f fd):FnOk P w K mg base CX0 1 f fd ["_law_web"] jlb:=by
 have sc:FnScope ["_law_web","_law_side","_law_place","_law_price","_law_waiting","_law_one","_law_tie"] ["_law_web"] (jbc (top 46)):=⟨rfl,rfl,rfl,by decide +kernel,rfl,by decide +kernel,by decide +kernel⟩
 refine D.F.ok sc (fun vs H Q E h=>?_) (fun cdv A outer s H vs Q E hr h=>?_)
 ·obtain ⟨v,ps,ts,f,col,rfl,_⟩:=h
  rfl
 obtain ⟨v,ps,ts,fl,col,rfl,hw,wok,lab,hcol,h⟩:=h
 have okl:=wok.pl
 have okt:=wok.tl
 have hnd:=wok.p.nodup
 have hen:=wok.ends
 obtain ⟨u,pa,ta,xs,ys,rfl,eu,ep,et,pp,pt⟩:=id hw
 have hlx:xs.length = ps.length:=Paired.length pp
 have hly:ys.length = ts.length:=Paired.length pt
 have hu:=jcb hr
 have hu0:_ < PySem.cLine:=Nat.lt_of_succ_lt hu
 refine ⟨_,(ja5 (jbe (i:=1) sc.nd rfl (Or.inl rfl) jhv) (ja5 (jca PassesOwn.never rfl (jbx (jbk q_ix (qv 0) jak (fun _ _=>rfl))) (jcr (n:=2) rfl (jbf (jbb (i:=2) sc.nd rfl (Or.inl rfl)) (jbf (jbb (i:=3) sc.nd rfl (Or.inl rfl)) jcc))) (jan (jct (jfo (jde hu (qv 2) (qv 1))) (ja5 (jgv hu (qv 1) (qv 2) jak) (ja5 (jbe (i:=4) sc.nd rfl (Or.inl rfl) (jcd (ja0 (qv 2) jah))) (jan (jdp PassesOwn.never (jbw (op_neD hr.units) (qv 4) (jcd jah) (jbv _)) (ja5 (jbe (i:=5) sc.nd rfl (Or.inl rfl) (q_bm0 PySem.F.plainAttrs_list PySem.F.slot_list_pop PySem.F.type_list_pop q_pop (qv 4))) (jan (jca PassesOwn.never rfl (jbx (jbk q_ix (qv 0) jak (fun _ _=>rfl))) (jbb (i:=6) sc.nd rfl (Or.inl rfl)) (jan (jct (PW.pt (jfr (jbw jka (qv 5) (qv 6) (by with_unfolding_all rfl)) (jem (jfo (jde hu (jbk q_ix (qv 6) (jcn jnm rfl B.int PyProof.Rows.boot_int (ja0 (jch q_eq (jbk q_ix (qv 6) jak (fun _ _=>rfl)) (qv 5) (jbv _)) jah)) (fun _ _=>rfl)) (qv 1)))))) (ja5 (jgv hu (qv 1) (jbk q_ix (qv 6) (jcn jnm rfl B.int PyProof.Rows.boot_int (ja0 (jch q_eq (jbk q_ix (qv 6) jak (fun _ _=>rfl)) (qv 5) (jbv _)) jah)) (fun _ _=>rfl)) (jc6 q_sub jak (jd4 hu (qv 1) (qv 5) (fun _ _=>rfl)))) (jan (jby (q_bm PySem.F.plainAttrs_list PySem.F.slot_list_append PySem.F.type_list_append jc5 (qv 4) (ja0 (jbk q_ix (qv 6) (jcn jnm rfl B.int PyProof.Rows.boot_int (ja0 (jch q_eq (jbk q_ix (qv 6) jak (fun _ _=>rfl)) (qv 5) (jbv _)) jah)) (fun _ _=>rfl)) jah))))) jbu))))))))) jbu))) (jan (jbq (qv 1))))),?_⟩
 walk_at "RD"
 intro md hmd
 have s0:Same H (upd H md (.dK [])):=jai hmd _
 have em0:upd H md (.dK []) md = some (.dK (gk (sdk fl col []))):=ja1
 generalize upd H md (.dK []) = H0 at s0 em0
 refine jbo (Itl K pa) H0 (fun R hR=>?_) (jc9 (K:=K) (a:=pa) (xs:=xs) (fun j σ H5=>∃ v2 v3 v4 v5 v6 ks,σ = [some (.ref u),some (.ref md),v2,v3,v4,v5,v6]∧Same H H5∧H5 md = some (.dK (gk (sdk fl col ks)))∧ks.Nodup∧(∀ n,n ∈ ks ↔ n ∈ ps.map (·.1)∧fl n ∈ (ps.take j).map (·.1))) ⟨none,none,none,none,none,[],rfl,s0,em0,List.nodup_nil,fun n=>by simp⟩ (fun j σ H5 _ ⟨_,_,_,_,_,_,_,s5,_⟩=>SqL.of (s5 _ _ ep)) ?_ ?_)
 ·unfold jcu
  simp_arith [jbl,s0 _ _ eu,at0]
  exact ⟨pa,rfl,⟨_,SqL.of (s0 _ _ ep)⟩,hR⟩
 ·rintro j y σ H5 hj ⟨v2,v3,v4,v5,v6,k0,rfl,s5,em5,ndk,hks⟩
  obtain ⟨p,hp,pq⟩:=jbi pp hj
  obtain ⟨t,rfl,ht⟩:=pq.same s5
  have hpm:p ∈ ps:=List.mem_of_getElem? hp
  have hpn:p.1 ∈ ps.map (·.1):=List.mem_map_of_mem hpm
  have hnj:p.1 ∉ (ps.take j).map (·.1):=fun z=>by
   obtain ⟨q,hq,e⟩:=List.mem_map.mp z
   obtain ⟨i,hi,eq⟩:=List.mem_iff_getElem.mp hq
   rw [List.length_take] at hi
   rw [List.getElem_take] at eq
   have:=wok.p.rise i j q p (by omega) (by rw [List.getElem?_eq_getElem (by omega),eq]) hp
   omega
  have htk:∀ n,n ∈ (ps.take (j + 1)).map (·.1) ↔ n ∈ (ps.take j).map (·.1) ∨ n = p.1:=fun n=>by
   rw [jbn hp,List.map_append,List.mem_append]
   simp
  simp_arith [ht,em5,jjq,jfa]
  by_cases cf:fl p.1 = p.1
  ·have hpk:p.1 ∉ k0:=fun z=>hnj (by have:=((hks p.1).mp z).2; rwa [cf] at this)
   rw [decide_eq_false hpk]
   have h0p:∀ n ∈ k0,n ∈ ps.map (·.1):=fun n hn=>((hks n).mp hn).1
   have l0:=jdb ndk h0p
   rw [List.length_map] at l0
   have sd0:sdv fl col p.1 = 0:=by unfold sdv; rw [cf,if_pos rfl]
   have apart:∀ n,Rch ts p.1 n→n ∉ k0:=fun n r z=>hnj (by have e:=(lab.cls p.1 n hpn (r.pl hen hpn)).mpr r; have z2:=((hks n).mp z).2; rwa [← e,cf] at z2)
   simp_arith [em5]
   refine ⟨by rw [jng]; exact szl' (by omega),?_⟩
   have sdp:=jnf (f:=fl) (col:=col) hpk
   rw [sd0] at sdp
   rw [sdp]
   intro wl hwl
   have nmw:md ≠ wl:=fun z=>by rw [← z,ja1] at hwl; cases hwl
   have hwl5:H5 wl = none:=by rw [← hwl,jaj nmw.symm]
   have hwl0:H wl = none:=s5.free hwl5
   have s6:Same H (upd (upd H5 md (.dK (gk (sdk fl col (k0 ++ [p.1]))))) wl (.lst [.int p.1])):=(jbh s5 hmd).trans (jai hwl _)
   have em6:upd (upd H5 md (.dK (gk (sdk fl col (k0 ++ [p.1]))))) wl (.lst [.int p.1]) md = some (.dK (gk (sdk fl col (k0 ++ [p.1])))):=by rw [jaj nmw,ja1]
   have ew6:upd (upd H5 md (.dK (gk (sdk fl col (k0 ++ [p.1]))))) wl (.lst [.int p.1]) wl = some (.lst ([p.1].map V.int)):=ja1
   generalize upd (upd H5 md (.dK (gk (sdk fl col (k0 ++ [p.1]))))) wl (.lst [.int p.1]) = H6 at s6 em6 ew6
   have d0:Ds ts p.1 k0 none (fun _=>False) (k0 ++ [p.1]) [p.1]:=by
    refine ⟨by simp,fun n hn=>List.mem_append_left _ hn,?_,fun n hn=>?_,fun n hn=>?_,fun m hm h1 h2=>?_,(fun _ z=>nomatch z),by simp⟩
    ·rw [List.nodup_append]
     exact ⟨ndk,by simp,fun a ha b hb=>fun z=>hpk (by rw [List.mem_singleton.mp hb] at z; rw [← z]; exact ha)⟩
    ·rcases List.mem_append.mp hn with z | z
     ·exact .inl z
     ·rw [List.mem_singleton.mp z]; exact .inr .refl
    ·rw [List.mem_singleton.mp hn]; exact ⟨by simp,.refl⟩
    ·rcases List.mem_append.mp hm with z | z
     ·exact absurd z h1
     ·exact absurd z h2
   refine ⟨fun m σ H1=>∃ hh th ks td,σ = [some (.ref u),some (.ref md),some (.int p.1),some (.int p.2),some (.ref wl),hh,th]∧Same H H1∧H1 md = some (.dK (gk (sdk fl col ks)))∧H1 wl = some (.lst (td.map V.int))∧Ds ts p.1 k0 none (fun _=>False) ks td∧m = 2 * (ps.length - ks.length) + td.length,⟨_,_,_,k0 ++ [p.1],[p.1],rfl,s6,em6,ew6,d0,rfl⟩,?_⟩
   rintro m σ H1 ⟨hh,th1,ks,td,rfl,s1,em,ew,g,rfl⟩
   walk_at "RD"
   intro el hel
   have sel:Same H1 (upd H1 el (.lst [])):=jai hel _
   have ew1:=sel _ _ ew
   have em1:=sel _ _ em
   have s1e:=s1.trans sel
   have eel:upd H1 el (.lst []) el = some (.lst (([]:List Int).map V.int)):=ja1
   generalize upd H1 el (.lst []) = H1' at sel ew1 em1 s1e eel
   refine ⟨numD td,numD [],jo1 ew1,jo1 eel,Nat.le_trans (jq2 td) (by decide),.inl ⟨_,_,rfl,rfl⟩,?_⟩
   dsimp only
   rw [if_pos rfl]
   rcases List.eq_nil_or_concat td with rfl | ⟨t0,x,rfl⟩
   ·rw [show (!eqP (numD []) (numD [])) = false by rw [jed]; rfl,if_neg (by decide)]
    refine ⟨_,_,_,_,_,ks,rfl,s1e,em1,g.nd,fun n=>?_⟩
    have all:∀ n,Rch ts p.1 n→n ∈ ks:=fun n r=>by
     induction r with
     | refl=>exact g.c_in
     | step r' hn ih=>exact g.cl _ ih (apart _ r') (by simp) (fun z=>nomatch z) _ hn
    rw [htk]
    constructor
    ·intro hn
     rcases g.sub n hn with z | z
     ·have:=(hks n).mp z
      exact ⟨this.1,.inl this.2⟩
     ·have hn2:=z.pl hen hpn
      exact ⟨hn2,.inr (by rw [← (lab.cls p.1 n hpn hn2).mpr z,cf])⟩
    ·rintro ⟨a,b | b⟩
     ·exact g.sup n ((hks n).mpr ⟨a,b⟩)
     ·exact all n ((lab.cls p.1 n hpn a).mp (by rw [cf,b]))
   ·rw [List.concat_eq_append] at ew1 g ⊢
    rw [show (!eqP (numD (t0 ++ [x])) (numD [])) = true by
     unfold numD
     rw [eqP,jdh (by simp)]
     rfl,if_pos rfl]
    refine ⟨_,fun σ' H' q=>q,⟨wl,_,rfl,ew1⟩,wl,_,.int x,rfl,rfl,ew1,?_,?_⟩
    ·rw [List.map_append,List.length_append]
     show ((t0.map V.int) ++ [V.int x])[(t0.map V.int).length + 1 - 1]? = _
     rw [Nat.add_sub_cancel,List.getElem?_append_right (Nat.le_refl _),Nat.sub_self]
     rfl
    have edl:((t0 ++ [x]).map V.int).dropLast = t0.map V.int:=by rw [List.map_append]; exact List.dropLast_concat
    rw [edl]
    have s2:Same H (upd H1' wl (.lst (t0.map V.int))):=jbh s1e hwl0
    have em2:upd H1' wl (.lst (t0.map V.int)) md = some (.dK (gk (sdk fl col ks))):=by rw [jaj nmw]; exact em1
    have ew2:upd H1' wl (.lst (t0.map V.int)) wl = some (.lst (t0.map V.int)):=ja1
    generalize upd H1' wl (.lst (t0.map V.int)) = H2 at s2 em2 ew2
    clear ew em s1 ew1 em1 s1e eel sel
    have hkl:=g.len hen hpn h0p
    have hgl:=g.tl
    rw [List.length_append] at hgl
    have hgl':t0.length + 1 ≤ ks.length:=hgl
    have hxt:=g.tin x (by simp)
    have g2:Ds ts p.1 k0 (some x) (fun n=>n ∈ jc4 (ts.take 0) x) ks t0:=⟨g.c_in,g.sup,g.nd,g.sub,fun n hn=>g.tin n (List.mem_append_left _ hn),fun m hm h1 hn hx=>g.cl m hm h1 (fun z=>by
     rcases List.mem_append.mp z with z | z
     ·exact hn z
     ·exact hx (by rw [List.mem_singleton.mp z])) (fun z=>nomatch z),fun m hm=>by cases hm; exact ⟨hxt.1,hxt.2,fun n hn=>by simp [jc4] at hn⟩,by omega⟩
    refine jbo (Itl K ta) H2 (fun R hR=>?_) (jc9 (K:=K) (a:=ta) (xs:=ys) (fun i σ H3=>∃ th ks1 td1,σ = [some (.ref u),some (.ref md),some (.int p.1),some (.int p.2),some (.ref wl),some (.int x),th]∧Same H H3∧H3 md = some (.dK (gk (sdk fl col ks1)))∧H3 wl = some (.lst (td1.map V.int))∧Ds ts p.1 k0 (some x) (fun n=>n ∈ jc4 (ts.take i) x) ks1 td1∧2 * (ps.length - ks1.length) + td1.length ≤ 2 * (ps.length - ks.length) + t0.length) ⟨_,ks,t0,rfl,s2,em2,ew2,g2,Nat.le_refl _⟩ (fun i σ H3 _ ⟨_,_,_,_,s3,_⟩=>SqL.of (s3 _ _ et)) ?_ ?_)
    ·unfold jcu
     simp_arith [jbl,s2 _ _ eu,at1]
     exact ⟨ta,rfl,⟨_,SqL.of (s2 _ _ et)⟩,hR⟩
    ·rintro i y σ H3 hi ⟨th2,ks1,td1,rfl,s3,em3,ew3,g3,hm3⟩
     obtain ⟨q,hq,qq⟩:=jbi pt hi
     obtain ⟨t2,rfl,ht2⟩:=qq.same s3
     have hqe:=hen q (List.mem_of_getElem? hq)
     have hsn:∀ n,n ∈ jc4 (ts.take (i + 1)) x ↔ n ∈ jc4 (ts.take i) x ∨ n ∈ nr x q:=fun n=>by
      rw [jbn hq,jep,List.mem_append]
     have hl3:=g3.len hen hpn h0p
     have ht3:=g3.tl
     obtain ⟨hx1,hx2,hx3⟩:=g3.xin x rfl
     have hxp:=hx2.pl hen hpn
     by_cases ci:inV (.int x) [V.int q.1,.int q.2] = true
     ·obtain ⟨n,en,eix⟩:∃ n,nr x q = [n]∧atI [V.int q.1,.int q.2] (if decide (q.1 = x) = true then 1 else 0) = some (.int n):=by
       unfold nr
       by_cases c1:q.1 = x
       ·exact ⟨q.2,by rw [if_pos c1],by rw [if_pos (decide_eq_true c1)]; exact at1⟩
       ·have c2:q.2 = x:=by
         simp only [inV,List.any_cons,List.any_nil,eqV,Bool.or_false,Bool.or_eq_true,beq_iff_eq] at ci
         rcases ci with z | z
         ·exact absurd z c1
         ·exact z
        exact ⟨q.1,by rw [if_neg c1,if_pos c2],by rw [if_neg (by simpa using c1)]; exact at0⟩
      have hnn:n ∈ jc4 ts x:=by
       unfold jc4
       rw [List.mem_flatMap]
       exact ⟨q,List.mem_of_getElem? hq,by rw [en]; exact .head _⟩
      have hnp:=hen.near hnn
      have hsd:=jle lab hcol hxp hnp hnn
      simp_arith [jbl,ht2,ci,at0,eix,em3,jjq,jfa]
      refine ⟨rfl,rfl,?_⟩
      by_cases cn:n ∈ ks1
      ·rw [decide_eq_true cn]
       walk_at "RD"
       exact ⟨_,ks1,td1,rfl,s3,(by first | exact em3 | rfl),ew3,⟨g3.c_in,g3.sup,g3.nd,g3.sub,g3.tin,g3.cl,fun m hm=>by
        cases hm
        refine ⟨hx1,hx2,fun k hk=>?_⟩
        rcases (hsn k).mp hk with z | z
        ·exact hx3 k z
        ·rw [en] at z; rw [List.mem_singleton.mp z]; exact cn,g3.tl⟩,hm3⟩
      ·rw [decide_eq_false cn]
       have g4:Ds ts p.1 k0 (some x) (fun n=>n ∈ jc4 (ts.take (i + 1)) x) (ks1 ++ [n]) (td1 ++ [n]):=by
        have rn:Rch ts p.1 n:=.step hx2 hnn
        refine ⟨List.mem_append_left _ g3.c_in,fun k hk=>List.mem_append_left _ (g3.sup k hk),?_,fun k hk=>?_,fun k hk=>?_,fun m hm h1 h2 h3 k hk=>?_,fun m hm=>?_,?_⟩
        ·rw [List.nodup_append]
         exact ⟨g3.nd,by simp,fun a ha b hb=>fun z=>cn (by rw [List.mem_singleton.mp hb] at z; rw [← z]; exact ha)⟩
        ·rcases List.mem_append.mp hk with z | z
         ·exact g3.sub k z
         ·rw [List.mem_singleton.mp z]; exact .inr rn
        ·rcases List.mem_append.mp hk with z | z
         ·exact ⟨List.mem_append_left _ (g3.tin k z).1,(g3.tin k z).2⟩
         ·rw [List.mem_singleton.mp z]; exact ⟨by simp,rn⟩
        ·rcases List.mem_append.mp hm with z | z
         ·exact List.mem_append_left _ (g3.cl m z h1 (fun w2=>h2 (List.mem_append_left _ w2)) h3 k hk)
         ·exact absurd (List.mem_append_right _ z) h2
        ·cases hm
         refine ⟨List.mem_append_left _ hx1,hx2,fun k hk=>?_⟩
         rcases (hsn k).mp hk with z | z
         ·exact List.mem_append_left _ (hx3 k z)
         ·rw [en] at z; exact List.mem_append_right _ z
        ·rw [List.length_append,List.length_append]
         exact Nat.add_le_add_right g3.tl _
       have hl4:=g4.len hen hpn h0p
       rw [List.length_append] at hl4
       have hl4':ks1.length + 1 ≤ ps.length:=hl4
       rw [jne g3.nd hx1]
       dsimp only
       rw [← hsd,jnf cn]
       refine ite2 (fun _=>?_) (fun z=>absurd rfl z)
       have nt2:t2 ≠ md:=jgk ht2 em3 (fun z=>nomatch z)
       have ht4:upd H3 md (.dK (gk (sdk fl col (ks1 ++ [n])))) t2 = some (.tup [.int q.1,.int q.2]):=by rw [jaj nt2]; exact ht2
       have ew4:upd H3 md (.dK (gk (sdk fl col (ks1 ++ [n])))) wl = some (.lst (td1.map V.int)):=by rw [jaj nmw.symm]; exact ew3
       refine ⟨by rw [jng]; exact szl' (by omega),⟨wl,_,rfl,ew4⟩,?_⟩
       simp_arith [ht4,at0,eix,ew4]
       refine ⟨by rw [List.length_map]; exact szl' (by omega),_,ks1 ++ [n],td1 ++ [n],rfl,jbh (jbh s3 hmd) hwl0,?_,?_,g4,?_⟩
       ·rw [jaj nmw,ja1]
       ·rw [ja1,List.map_append]; rfl
       ·rw [List.length_append,List.length_append]
        show 2 * (ps.length - (ks1.length + 1)) + (td1.length + 1) ≤ _
        omega
     ·have ci':inV (.int x) [V.int q.1,.int q.2] = false:=by simpa using ci
      have en:nr x q = []:=by
       simp only [inV,List.any_cons,List.any_nil,eqV,Bool.or_false,Bool.or_eq_false_iff,beq_eq_false_iff_ne] at ci'
       unfold nr
       rw [if_neg ci'.1,if_neg ci'.2]
      simp_arith [jbl,ht2,ci']
      refine ⟨rfl,rfl,?_⟩
      exact ⟨_,ks1,td1,rfl,s3,em3,ew3,⟨g3.c_in,g3.sup,g3.nd,g3.sub,g3.tin,g3.cl,(fun m hm=>by
        cases hm
        refine ⟨hx1,hx2,fun k hk=>?_⟩
        rcases (hsn k).mp hk with z | z
        ·exact hx3 k z
        ·rw [en] at z; exact (nomatch z)),g3.tl⟩,hm3⟩
    ·rintro σ H3 ⟨th2,ks1,td1,rfl,s3,em3,ew3,g3,hm3⟩
     refine ⟨_,?_,_,_,ks1,td1,rfl,s3,em3,ew3,⟨g3.c_in,g3.sup,g3.nd,g3.sub,g3.tin,fun m hm h1 h2 _=>?_,(fun _ z=>nomatch z),g3.tl⟩,rfl⟩
     ·rw [List.length_append]
      show _ < 2 * (ps.length - ks.length) + (t0.length + 1)
      omega
     ·by_cases cx:x = m
      ·rw [← cx]
       intro n hn'
       refine (g3.xin x rfl).2.2 n ?_
       rw [hly,List.take_length]
       exact hn'
      ·exact g3.cl m hm h1 h2 fun z=>cx (Option.some.inj z)
  ·have hfp:=lab.pl p.1 hpn
   have hfl:=lab.le p.1 hpn
   have hpk:p.1 ∈ k0:=by
    rw [hks]
    refine ⟨hpn,?_⟩
    obtain ⟨q,hq,e⟩:=List.mem_map.mp hfp
    obtain ⟨i,hi,eq⟩:=List.mem_iff_getElem.mp hq
    have xi:ps[i]? = some q:=by rw [List.getElem?_eq_getElem hi,eq]
    have hij:i < j:=by
     rcases Nat.lt_trichotomy i j with c | c | c
     ·exact c
     ·rw [c,hp] at xi; cases xi; exact absurd e.symm cf
     ·have:=wok.p.rise j i p q c hp xi
      have e':q.1 = fl p.1:=e
      omega
    rw [← e]
    exact List.mem_map_of_mem (List.mem_of_getElem? (i:=i) (by rw [List.getElem?_take,if_pos hij]; exact xi))
   rw [decide_eq_true hpk]
   walk_at "RD"
   refine ⟨_,_,_,_,_,k0,rfl,s5,(by first | exact em5 | rfl),ndk,fun n=>?_⟩
   rw [hks,htk]
   constructor
   ·rintro ⟨a,b⟩
    exact ⟨a,.inl b⟩
   ·rintro ⟨a,b | b⟩
    ·exact ⟨a,b⟩
    ·exact absurd (by rw [← b]; exact lab.fix n a) cf
 ·rintro σ H5 ⟨v2,v3,v4,v5,v6,ks,rfl,s5,em5,ndk,hks⟩
  walk_at "RD"
  refine h md H5 ks hmd s5 em5 ndk fun p hp=>?_
  have hpn:p.1 ∈ ps.map (·.1):=List.mem_map_of_mem hp
  rw [hks,hlx,List.take_length]
  exact ⟨hpn,lab.pl p.1 hpn⟩
end
end My
namespace My
open PySem L2
section
variable {P:Program} {w:World} {K:PySem.W.Frag} {mg:Str→Option Value} {base:Heap} {c1 c2 c3 c4:Tok}
def colP (ns cs:List Int) (n:Int):Bool:=@decide (∃ (k:Nat),ns[k]? = some n∧cs[k]? = some 1) (Classical.propDecidable _)
theorem jqy {ns cs:List Int} (nd:ns.Nodup) {k:Nat} {n c:Int} (h1:ns[k]? = some n) (h2:cs[k]? = some c):colP ns cs n = true ↔ c = 1:=by
 unfold colP
 rw [@decide_eq_true_iff _ (Classical.propDecidable _)]
 constructor
 ·rintro ⟨i,e1,e2⟩
  by_cases c0:i = k
  ·subst c0
   rw [h2] at e2
   exact Option.some.inj e2
  ·exact absurd rfl (je7 nd e1 h1 c0)
 ·rintro rfl
  exact ⟨k,h1,h2⟩
def TCol (ts:List (Int × Int)) (col:Int→Bool):Prop:=∀ t ∈ ts,col t.2 = !(col t.1)
theorem TCol.col {ts:List (Int × Int)} {col:Int→Bool} (ho:∀ t ∈ ts,t.1 < t.2) (h:TCol ts col):Col ts col:=fun m n hn=>by
 rcases (je9 ho).mp hn with z | z
 ·exact h _ z
 ·have e:=h _ z
  dsimp only at e
  rw [e,Bool.not_not]
theorem menu3 {a b c d:Int} (h0:0 ≤ d) (h1:d < 3):∃ v,atI [V.int a,.int b,.int c] d = some (.int v)∧(v = a ∨ v = b ∨ v = c):=by
 have hd:d = 0 ∨ d = 1 ∨ d = 2:=by omega
 rcases hd with rfl | rfl | rfl
 ·exact ⟨a,at0,.inl rfl⟩
 ·exact ⟨b,at1,.inr (.inl rfl)⟩
 ·exact ⟨c,at2,.inr (.inr rfl)⟩
def spTwo:Sp:=fun vs H Q _=>∃ s o m,vs = [.ref s,.int m]∧H s = some o∧StO o∧0 ≤ m∧m ≤ 20 ∧
 ∀ v H' o' ps ts col,But s H H'→H' s = some o'→StO o'→jdj H' v ps ts→WebOk ps ts→TCol ts col→(ps.length:Int) ≤ m→Q v H'
theorem jme {f:Addr} {fd:FuncData} {f_law_take:Addr} {d_law_take:FuncData} (B:Blt mg) (D:DefAt K mg "_law_two" (top 45) ["_law_state","_law_most"] f fd) (D_law_take:DefAt K mg "_law_take" (top 44) ["_law_state","_law_many"] f_law_take d_law_take) (G_law_take:FnOk P w K mg base CX0 1 f_law_take d_law_take ["_law_state","_law_many"] jqb):FnOk P w K mg base CX0 2 f fd ["_law_state","_law_most"] spTwo:=by
 have sc:FnScope ["_law_state","_law_most","_law_count","_law_great","_law_dense","_law_places","_law_number","_law_sides_here","_law_k","_law_ties","_law_j"] ["_law_state","_law_most"] (jbc (top 45)):=⟨rfl,rfl,rfl,by decide +kernel,rfl,by decide +kernel,by decide +kernel⟩
 refine D.F.ok sc (fun vs H Q E h=>?_) (fun cdv A outer s H vs Q E hr h=>?_)
 ·obtain ⟨s,o,m,rfl,_⟩:=h
  rfl
 obtain ⟨st,o,m,rfl,es,so,m0,m1,h⟩:=h
 have hu:=jcb hr
 have hu0:_ < PySem.cLine:=Nat.lt_of_succ_lt hu
 refine ⟨_,(ja5 (jbe (i:=2) sc.nd rfl (Or.inl rfl) (jbg G_law_take (hr.mono (by decide)) rfl D_law_take.m D_law_take.F.kp D_law_take.b .nil jbt (ja0 (qv 0) (ja0 (jc6 jdy (qv 1) jak) jah)))) (ja5 (jbe (i:=3) sc.nd rfl (Or.inl rfl) (jbk q_ix (jcd (ja0 jak (ja0 jak (ja0 jak (ja0 (jc6 jra jak jak) jah))))) (jbg G_law_take (hr.mono (by decide)) rfl D_law_take.m D_law_take.F.kp D_law_take.b .nil jbt (ja0 (qv 0) (ja0 jak jah))) (fun _ _=>rfl))) (ja5 (jbe (i:=4) sc.nd rfl (Or.inl rfl) (jc6 jdy jak (jbg G_law_take (hr.mono (by decide)) rfl D_law_take.m D_law_take.F.kp D_law_take.b .nil jbt (ja0 (qv 0) (ja0 jak jah))))) (ja5 (jbe (i:=5) sc.nd rfl (Or.inl rfl) (jcd jah)) (ja5 (jbe (i:=6) sc.nd rfl (Or.inl rfl) (jpi jpd jak)) (ja5 (jbe (i:=7) sc.nd rfl (Or.inl rfl) (jcd jah)) (ja5 (jca PassesOwn.never rfl (jdl rfl B.range (ja0 (qv 2) jah)) (jbb (i:=8) sc.nd rfl (Or.inl rfl)) (ja5 (jbe (i:=6) sc.nd rfl (Or.inl rfl) (jc6 jdy (jc6 jdy (qv 6) jak) (jbg G_law_take (hr.mono (by decide)) rfl D_law_take.m D_law_take.F.kp D_law_take.b .nil jbt (ja0 (qv 0) (ja0 (jbk q_ix (jcd (ja0 jak (ja0 jak (ja0 jak jah)))) (jbg G_law_take (hr.mono (by decide)) rfl D_law_take.m D_law_take.F.kp D_law_take.b .nil jbt (ja0 (qv 0) (ja0 jak jah))) (fun _ _=>rfl)) jah))))) (ja5 (jby (q_bm PySem.F.plainAttrs_list PySem.F.slot_list_append PySem.F.type_list_append jc5 (qv 5) (ja0 (jd6 (ja0 (qv 6) (ja0 (jc6 jdy jak (jbg G_law_take (hr.mono (by decide)) rfl D_law_take.m D_law_take.F.kp D_law_take.b .nil jbt (ja0 (qv 0) (ja0 (qv 3) jah)))) jah))) jah))) (jan (jby (q_bm PySem.F.plainAttrs_list PySem.F.slot_list_append PySem.F.type_list_append jc5 (qv 7) (ja0 (jbg G_law_take (hr.mono (by decide)) rfl D_law_take.m D_law_take.F.kp D_law_take.b .nil jbt (ja0 (qv 0) (ja0 jak jah))) jah))))))) (ja5 (jbe (i:=9) sc.nd rfl (Or.inl rfl) (jcd jah)) (ja5 (jca PassesOwn.never rfl (jdl rfl B.range (ja0 (qv 2) jah)) (jbb (i:=8) sc.nd rfl (Or.inl rfl)) (jan (jca PassesOwn.never rfl (jnu rfl B.range (ja0 (jc6 jdy (qv 8) jak) (ja0 (qv 2) jah))) (jbb (i:=10) sc.nd rfl (Or.inl rfl)) (jan (jct (PW.pt (jfr (jbw q_ne (jbk q_ix (qv 7) (qv 8) (fun _ _=>rfl)) (jbk q_ix (qv 7) (qv 10) (fun _ _=>rfl)) (jbv _)) (jfr (jbw q_lt (jbg G_law_take (hr.mono (by decide)) rfl D_law_take.m D_law_take.F.kp D_law_take.b .nil jbt (ja0 (qv 0) (ja0 jak jah))) (qv 4) (jbv _)) (jem (jbw q_lt (jbp jfp rfl B.len PySem.boot_len (ja0 (qv 9) jah)) jak (jbv _)))))) (jan (jby (q_bm PySem.F.plainAttrs_list PySem.F.slot_list_append PySem.F.type_list_append jc5 (qv 9) (ja0 (jd6 (ja0 (jbk q_ix (jbk q_ix (qv 5) (qv 8) (fun _ _=>rfl)) jak (fun _ _=>rfl)) (ja0 (jbk q_ix (jbk q_ix (qv 5) (qv 10) (fun _ _=>rfl)) jak (fun _ _=>rfl)) jah))) jah)))) jbu))))) (jan (jbq (jd6 (ja0 (qv 5) (ja0 (qv 9) jah)))))))))))))),?_⟩
 walk_at "RD"
 refine ⟨st,o,m + 1,rfl,es,so,by omega,by omega,fun n o1 n0 n1 so1=>?_⟩
 have b1:But st H (upd H st o1):=But.at _ _ _
 have e1:upd H st o1 st = some o1:=ja1
 generalize upd H st o1 = H1 at b1 e1
 walk_at "RD"
 refine ⟨⟨by decide,by decide,by decide⟩,?_⟩
 intro p1 hp1
 have np:p1 ≠ st:=(ja6 e1 hp1).symm
 refine ⟨st,o1,4,rfl,(by rw [jaj np.symm]; exact e1),so1,by decide,by decide,fun d1 o2 d10 d11 so2=>?_⟩
 obtain ⟨gr,ev,v0,v1⟩:∃ v,atI [V.int 1,.int 3,.int 9,.int (10 ^ Int.toNat 9)] d1 = some (.int v)∧1 ≤ v∧v ≤ 1000000000:=by
  obtain ⟨v,ev,hv⟩:=menu4 (a:=1) (b:=3) (c:=9) (e:=10 ^ Int.toNat 9) d10 d11
  rw [p9] at hv
  exact ⟨v,ev,by omega,by omega⟩
 simp_arith [jbl,jaj np,ja1,ev]
 have b2:But st H1 (upd (upd H1 p1 (.lst [.int 1,.int 3,.int 9,.int (10 ^ Int.toNat 9)])) st o2):=(But.new hp1).trans (But.at _ _ _)
 have e2:upd (upd H1 p1 (.lst [.int 1,.int 3,.int 9,.int (10 ^ Int.toNat 9)])) st o2 st = some o2:=ja1
 generalize upd (upd H1 p1 (.lst [.int 1,.int 3,.int 9,.int (10 ^ Int.toNat 9)])) st o2 = H2 at b2 e2
 refine ⟨st,o2,4,rfl,e2,so2,by decide,by decide,fun dn o3 d0 d1' so3=>?_⟩
 have b3:But st H (upd H2 st o3):=(b1.trans b2).trans (But.at _ _ _)
 have e3:upd H2 st o3 st = some o3:=ja1
 generalize upd H2 st o3 = H3 at b3 e3
 clear b1 b2 e1 e2
 walk_at "RD"
 intro r hr
 have nr:r ≠ st:=(ja6 e3 hr).symm
 have hr0:H r = none:=by
  cases q:H r with
  | none=>rfl
  | some u=>rw [b3 _ _ nr q] at hr; cases hr
 intro q hq
 have hnq:r ≠ q:=fun z=>by rw [← z,ja1] at hq; cases hq
 have hq3:H3 q = none:=by rw [← hq,jaj hnq.symm]
 have nq:q ≠ st:=(ja6 e3 hq3).symm
 have hq0:H q = none:=by
  cases z:H q with
  | none=>rfl
  | some u=>rw [b3 _ _ nq z] at hq3; cases hq3
 refine jbo (Itr 0 n.toNat) (upd (upd H3 r (.lst [])) q (.lst [])) (fun R hR=>?_) (jec (n:=n.toNat) (fun i σ H4=>∃ l kk ps xs,∃ cs:List Int,∃ o',σ = [some (.ref st),some (.int m),some (.int n),some (.int gr),some (.int (1 + dn)),some (.ref r),some (.int l),some (.ref q),kk,none,none]∧But st H H4∧H4 st = some o'∧StO o'∧H4 r = some (.lst xs)∧Prs H4 xs ps∧ps.length = i∧Dr (-1) ps∧l = jo7 (-1) ps∧H4 q = some (.lst (cs.map V.int))∧cs.length = i∧∀ c ∈ cs,c = 0 ∨ c = 1) ?_ ?_ ?_)
 ·unfold jmn
  walk_at "RD"
  exact ⟨n,rfl,by omega,by omega,hR⟩
 ·refine ⟨-1,none,[],[],[],o3,rfl,fun b u nb z=>?_,by rw [jaj nq.symm,jaj nr.symm]; exact e3,so3,by rw [jaj hnq,ja1],.nil,rfl,trivial,rfl,ja1,rfl,(fun c hc=>nomatch hc)⟩
  rw [jaj (ja6 z hq0),jaj (ja6 z hr0)]
  exact b3 _ _ nb z
 ·rintro i σ H4 hi ⟨l,kk,ps,xs,cs,o',rfl,b4,e4,so',er,pp,hlen,dr,el,eq4,hcl,hcs⟩
  have hlx:xs.length = ps.length:=Paired.length pp
  walk_at "RD"
  intro p2 hp2
  have np2:p2 ≠ st:=(ja6 e4 hp2).symm
  refine ⟨st,o',3,rfl,(by rw [jaj np2.symm]; exact e4),so',by decide,by decide,fun d2 o5 d20 d21 so5=>?_⟩
  obtain ⟨v,ev2,v20,v21⟩:∃ v,atI [V.int 1,.int 2,.int 23] d2 = some (.int v)∧1 ≤ v∧v ≤ 23:=by
   obtain ⟨v,ev,hv⟩:=menu3 (a:=1) (b:=2) (c:=23) d20 d21
   exact ⟨v,ev,by omega,by omega⟩
  simp_arith [jbl,jaj np2,ja1,ev2]
  refine ⟨st,o5,v,rfl,ja1,so5,by omega,by omega,fun d3 o6 d30 d31 so6=>?_⟩
  simp_arith [jhg]
  have b5:But st H4 (upd (upd H4 p2 (.lst [.int 1,.int 2,.int 23])) st o6):=(But.new hp2).trans (But.at _ _ _)
  have e5:(upd (upd H4 p2 (.lst [.int 1,.int 2,.int 23])) st o6) st = some o6:=ja1
  generalize upd (upd H4 p2 (.lst [.int 1,.int 2,.int 23])) st o6 = H5 at b5 e5
  have t5:TupS H4 H5:=b5.tups e4 so'.imm
  have er5:=b5 _ _ nr er
  have eq5:=b5 _ _ nq eq4
  refine ⟨⟨r,xs,rfl,er5⟩,?_⟩
  refine ⟨st,o6,gr,rfl,e5,so6,by omega,by omega,fun d4 o7 d40 d41 so7=>?_⟩
  have b6:But st H5 (upd H5 st o7):=But.at _ _ _
  have e6:upd H5 st o7 st = some o7:=ja1
  generalize upd H5 st o7 = H6 at b6 e6
  have t6:TupS H5 H6:=b6.tups e5 so6.imm
  have er6:=b6 _ _ nr er5
  have eq6:=b6 _ _ nq eq5
  walk_at "RD"
  intro t ht
  have nt:t ≠ st:=(ja6 e6 ht).symm
  have er7:upd H6 t (.tup [.int (l + 1 + d3),.int (1 + d4)]) r = some (.lst xs):=by rw [jaj (ja6 er6 ht)]; exact er6
  simp_arith [er7]
  refine ⟨szl' (by omega),?_⟩
  have t7:TupS H6 (upd H6 t (.tup [.int (l + 1 + d3),.int (1 + d4)])):=jf7 ht
  have t8:=jd0 (ys:=xs ++ [.ref t]) er7
  have b8:But st H (upd (upd H6 t (.tup [.int (l + 1 + d3),.int (1 + d4)])) r (.lst (xs ++ [.ref t]))):=fun b u nb z=>by
   have q1:=b6 _ _ nb (b5 _ _ nb (b4 _ _ nb z))
   rw [jaj (ja6 z hr0),jaj (ja6 q1 ht)]
   exact q1
  have e8:upd (upd H6 t (.tup [.int (l + 1 + d3),.int (1 + d4)])) r (.lst (xs ++ [.ref t])) st = some o7:=by rw [jaj nr.symm,jaj nt.symm]; exact e6
  have er8:upd (upd H6 t (.tup [.int (l + 1 + d3),.int (1 + d4)])) r (.lst (xs ++ [.ref t])) r = some (.lst (xs ++ [.ref t])):=ja1
  have eq8:upd (upd H6 t (.tup [.int (l + 1 + d3),.int (1 + d4)])) r (.lst (xs ++ [.ref t])) q = some (.lst (cs.map V.int)):=by rw [jaj hnq.symm,jaj (ja6 eq6 ht)]; exact eq6
  have pp8:Prs (upd (upd H6 t (.tup [.int (l + 1 + d3),.int (1 + d4)])) r (.lst (xs ++ [.ref t]))) (xs ++ [.ref t]) (ps ++ [(l + 1 + d3,1 + d4)]):=jc7 (Prs.tups (((t5.trans t6).trans t7).trans t8) pp) (Pr.tups ⟨t,rfl,ja1⟩ t8)
  generalize upd (upd H6 t (.tup [.int (l + 1 + d3),.int (1 + d4)])) r (.lst (xs ++ [.ref t])) = H8 at b8 e8 er8 eq8 pp8
  clear t8 t7 er7
  walk_at "RD"
  refine ⟨⟨q,_,rfl,eq8⟩,st,o7,2,rfl,e8,so7,by decide,by decide,fun d5 o9 d50 d51 so9=>?_⟩
  have b9:But st H8 (upd H8 st o9):=But.at _ _ _
  have e9:upd H8 st o9 st = some o9:=ja1
  generalize upd H8 st o9 = H9 at b9 e9
  have t9:TupS H8 H9:=b9.tups e8 so7.imm
  have er9:=b9 _ _ nr er8
  have eq9:=b9 _ _ nq eq8
  simp_arith [eq9]
  have t10:=jd0 (ys:=cs.map V.int ++ [.int d5]) eq9
  refine ⟨szl' (by rw [List.length_map]; omega),l + 1 + d3,_,ps ++ [(l + 1 + d3,1 + d4)],xs ++ [.ref t],cs ++ [d5],o9,rfl,fun b u nb z=>?_,?_,so9,?_,Prs.tups (t9.trans t10) pp8,?_,?_,?_,?_,?_,fun c hc=>?_⟩
  ·rw [jaj (ja6 z hq0)]
   exact b9 _ _ nb (b8 _ _ nb z)
  ·rw [jaj nq.symm]; exact e9
  ·rw [jaj hnq]; exact er9
  ·rw [List.length_append,hlen]; rfl
  ·exact dr.snoc ⟨by show _ < l + 1 + d3; omega,by show l + 1 + d3 ≤ _; omega,by show 1 ≤ 1 + d4; omega,by show 1 + d4 ≤ _; omega⟩
  ·rw [jh2]
  ·first | (rw [ja1,List.map_append]; rfl) | (rw [List.map_append]; rfl)
  ·rw [List.length_append,hcl]; rfl
  ·rcases List.mem_append.mp hc with z | z
   ·exact hcs c z
   ·rw [List.mem_singleton.mp z]; omega
 rintro σ HB ⟨l,kk,ps,xs,cs,oB,rfl,bB,eB,soB,erB,pB,hlen,dr,el,eqB,hcl,hcs⟩
 have hpl:ps.length ≤ 20:=by omega
 have plok:=dr.pl (s:=0) (by omega) (by omega)
 have hnd:=plok.nodup
 have hlx:xs.length = ps.length:=Paired.length pB
 have rise:=dr.rise
 walk_at "RD"
 intro tl htl
 have ntl:tl ≠ st:=(ja6 eB htl).symm
 have nrt:r ≠ tl:=ja6 erB htl
 have nqt:q ≠ tl:=ja6 eqB htl
 have htl0:H tl = none:=by
  cases z:H tl with
  | none=>rfl
  | some u=>rw [bB _ _ ntl z] at htl; cases htl
 refine jbo (Itr 0 ps.length) (upd HB tl (.lst [])) (fun R hR=>?_) (jec (n:=ps.length) (fun k σ H1=>∃ kk jj zs ts o',σ = [some (.ref st),some (.int m),some (.int n),some (.int gr),some (.int (1 + dn)),some (.ref r),some (.int l),some (.ref q),kk,some (.ref tl),jj]∧But st H H1∧H1 st = some o'∧StO o'∧H1 r = some (.lst xs)∧Prs H1 xs ps∧H1 q = some (.lst (cs.map V.int))∧H1 tl = some (.lst zs)∧Prs H1 zs ts∧TiOk (jc8 ps) (-1,-1) ts∧TCol ts (colP (ps.map (·.1)) cs)∧(∀ (j:Nat) (p:Int × Int),k ≤ j→ps[j]? = some p→(jg6 (-1,-1) ts).1 < p.1)∧ts.length ≤ 120) ?_ ?_ ?_)
 ·unfold jmn
  walk_at "RD"
  exact ⟨n,rfl,by omega,by omega,by rw [← hlen]; exact hR⟩
 ·refine ⟨_,none,[],[],oB,rfl,bB.trans (But.new htl),by rw [jaj ntl.symm]; exact eB,soB,by rw [jaj nrt]; exact erB,Prs.tups (jf7 htl) pB,by rw [jaj nqt]; exact eqB,ja1,.nil,trivial,(fun t ht=>nomatch ht),fun j p _ hp=>?_,by simp⟩
  have:=dr.gt p (List.mem_of_getElem? hp)
  exact this
 ·rintro k σ H1 hk ⟨kk,jj,zs,ts,o',rfl,b1,e1,so',er1,pp1,eq1,etl,pz,tok,tco,hlast,htn⟩
  have xk:ps[k]? = some ps[k]:=List.getElem?_eq_getElem hk
  generalize ps[k] = pk at xk
  walk_at "RD"
  refine jbo (Itr (0 + (k:Int) + 1) (ps.length - (k + 1))) H1 (fun R hR=>?_) (jec (n:=ps.length - (k + 1)) (fun i σ H2=>∃ jj zs ts o',σ = [some (.ref st),some (.int m),some (.int n),some (.int gr),some (.int (1 + dn)),some (.ref r),some (.int l),some (.ref q),some (.int (0 + (k:Int))),some (.ref tl),jj]∧But st H H2∧H2 st = some o'∧StO o'∧H2 r = some (.lst xs)∧Prs H2 xs ps∧H2 q = some (.lst (cs.map V.int))∧H2 tl = some (.lst zs)∧Prs H2 zs ts∧TiOk (jc8 ps) (-1,-1) ts∧TCol ts (colP (ps.map (·.1)) cs)∧((jg6 (-1,-1) ts).1 < pk.1 ∨ ((jg6 (-1,-1) ts).1 = pk.1∧∀ (j:Nat) (p:Int × Int),k + 1 + i ≤ j→ps[j]? = some p→(jg6 (-1,-1) ts).2 < p.1))∧ts.length ≤ 120) ?_ ?_ ?_)
  ·unfold iRng2
   walk_at "RD"
   refine ⟨_,_,rfl,⟨by omega,by omega,by omega,by omega⟩,?_⟩
   have e:(n - (0 + (k:Int) + 1)).toNat = ps.length - (k + 1):=by omega
   rw [e]
   exact hR
  ·exact ⟨jj,zs,ts,o',rfl,b1,e1,so',er1,pp1,eq1,etl,pz,tok,tco,.inl (hlast k pk (Nat.le_refl _) xk),by omega⟩
  ·rintro i σ H2 hi ⟨jj2,zs2,ts2,o2,rfl,b2,e2,so2,er2,pp2,eq2,etl2,pz2,tok2,tco2,hl2,htn2⟩
   have hj:k + 1 + i < ps.length:=by omega
   have xj:ps[k + 1 + i]? = some ps[k + 1 + i]:=List.getElem?_eq_getElem hj
   generalize ps[k + 1 + i] = pj at xj
   have hkj:=rise k (k + 1 + i) pk pj (by omega) xk xj
   have ck:cs[k]? = some (cs[k]'(by omega)):=List.getElem?_eq_getElem _
   generalize cs[k]'(by omega) = sk at ck
   have cj:cs[k + 1 + i]? = some (cs[k + 1 + i]'(by omega)):=List.getElem?_eq_getElem _
   generalize cs[k + 1 + i]'(by omega) = sj at cj
   have ack:atI (cs.map V.int) (0 + (k:Int)) = some (.int sk):=by rw [Int.zero_add]; exact jci (by rw [List.getElem?_map,ck]; rfl)
   have acj:atI (cs.map V.int) (0 + (k:Int) + 1 + (i:Int)) = some (.int sj):=by
    rw [show 0 + (k:Int) + 1 + (i:Int) = ((k + 1 + i:Nat):Int) by omega]
    exact jci (by rw [List.getElem?_map,cj]; rfl)
   have keep:∀ {H3:Hp} {o3:HO} (jv:Option V),But st H H3→H3 st = some o3→StO o3→H3 r = some (.lst xs)→Prs H3 xs ps→H3 q = some (.lst (cs.map V.int))→H3 tl = some (.lst zs2)→Prs H3 zs2 ts2→∃ jj zs ts o',[some (V.ref st),some (.int m),some (.int n),some (.int gr),some (.int (1 + dn)),some (.ref r),some (.int l),some (.ref q),some (.int (0 + (k:Int))),some (.ref tl),jv] = [some (V.ref st),some (.int m),some (.int n),some (.int gr),some (.int (1 + dn)),some (.ref r),some (.int l),some (.ref q),some (.int (0 + (k:Int))),some (.ref tl),jj]∧But st H H3∧H3 st = some o'∧StO o'∧H3 r = some (.lst xs)∧Prs H3 xs ps∧H3 q = some (.lst (cs.map V.int))∧H3 tl = some (.lst zs)∧Prs H3 zs ts∧TiOk (jc8 ps) (-1,-1) ts∧TCol ts (colP (ps.map (·.1)) cs)∧((jg6 (-1,-1) ts).1 < pk.1 ∨ ((jg6 (-1,-1) ts).1 = pk.1∧∀ (j:Nat) (p:Int × Int),k + 1 + (i + 1) ≤ j→ps[j]? = some p→(jg6 (-1,-1) ts).2 < p.1))∧ts.length ≤ 120:=fun jv k1 k2 k3 k4 k5 k6 k7 k8=>by
    refine ⟨_,zs2,ts2,_,rfl,k1,k2,k3,k4,k5,k6,k7,k8,tok2,tco2,?_,htn2⟩
    rcases hl2 with z | ⟨z1,z2⟩
    ·exact .inl z
    ·exact .inr ⟨z1,fun j p hj2 hp=>z2 j p (by omega) hp⟩
   simp_arith [jbl,eq2,ack,acj]
   by_cases cc:sk = sj
   ·exact ite2 (fun z=>absurd z (by rw [decide_eq_true cc]; decide)) (fun _=>by
     have z:=keep (some (.int (0 + (k:Int) + 1 + (i:Int)))) b2 e2 so2 er2 pp2 eq2 etl2 pz2
     simp only [eq2,eq_self,true_and] at z
     exact z)
   ·refine ite2 (fun _=>?_) (fun z=>absurd (by rw [decide_eq_false cc]; rfl) z)
    refine ⟨st,o2,5,rfl,e2,so2,by decide,by decide,fun d3 o3 d30 d31 so3=>?_⟩
    have b3:But st H2 (upd H2 st o3):=But.at _ _ _
    have t3:TupS H2 (upd H2 st o3):=b3.tups e2 so2.imm
    have er3:=b3 _ _ nr er2
    have eq3:=b3 _ _ nq eq2
    have etl3:=b3 _ _ ntl etl2
    have e3:upd H2 st o3 st = some o3:=ja1
    generalize upd H2 st o3 = H3 at b3 t3 er3 etl3 e3 eq3
    simp_arith [etl3]
    refine ite2 (fun c=>?_) (fun c=>by
     have z:=keep (some (.int (0 + (k:Int) + 1 + (i:Int)))) (b2.trans b3) e3 so3 er3 (Prs.tups t3 pp2) eq3 etl3 (Prs.tups t3 pz2)
     simp only [etl3] at z
     exact z)
    refine ite2 (fun c2=>?_) (fun c2=>by
     have z:=keep (some (.int (0 + (k:Int) + 1 + (i:Int)))) (b2.trans b3) e3 so3 er3 (Prs.tups t3 pp2) eq3 etl3 (Prs.tups t3 pz2)
     simp only [etl3] at z
     exact z)
    have c2':(zs2.length:Int) < 120:=of_decide_eq_true c2
    obtain ⟨uk,gk0,hgk⟩:=jcj pp2 xk
    obtain ⟨uj,gj,hgj⟩:=jcj pp2 xj
    obtain ⟨tk,ek,hk3⟩:=hgk.tups t3
    obtain ⟨tj,ej,hj3⟩:=hgj.tups t3
    have ak:atI xs (0 + (k:Int)) = some (.ref tk):=by rw [Int.zero_add,← ek]; exact jci gk0
    have aj:atI xs (0 + (k:Int) + 1 + (i:Int)) = some (.ref tj):=by
     rw [show 0 + (k:Int) + 1 + (i:Int) = ((k + 1 + i:Nat):Int) by omega,← ej]
     exact jci gj
    refine ⟨⟨tl,_,rfl,etl3⟩,?_⟩
    simp_arith [er3,ak,aj,hk3,hj3,at0]
    intro t ht
    have etl4:=jai ht (.tup [.int pk.1,.int pj.1]) _ _ etl3
    simp_arith [etl4]
    have t6:=jd0 (ys:=zs2 ++ [.ref t]) etl4
    have nst:st ≠ tl:=ntl.symm
    have hz2:zs2.length = ts2.length:=Paired.length pz2
    have tco3:TCol (ts2 ++ [(pk.1,pj.1)]) (colP (ps.map (·.1)) cs):=fun t5 h5=>by
     rcases List.mem_append.mp h5 with z | z
     ·exact tco2 t5 z
     ·rw [List.mem_singleton.mp z]
      have a1:=jqy (cs:=cs) hnd (k:=k) (n:=pk.1) (by rw [List.getElem?_map,xk]; rfl) ck
      have a2:=jqy (cs:=cs) hnd (k:=k + 1 + i) (n:=pj.1) (by rw [List.getElem?_map,xj]; rfl) cj
      have s1:=hcs sk (List.mem_of_getElem? ck)
      have s2:=hcs sj (List.mem_of_getElem? cj)
      show colP (ps.map (·.1)) cs pj.1 = !(colP (ps.map (·.1)) cs pk.1)
      rcases s1 with s1 | s1 <;> rcases s2 with s2 | s2
      ·exact absurd (s1.trans s2.symm) cc
      ·rw [a2.mpr s2,show colP (ps.map (·.1)) cs pk.1 = false from Bool.eq_false_iff.mpr (fun z=>by have:=a1.mp z; omega)]; rfl
      ·rw [a1.mpr s1,show colP (ps.map (·.1)) cs pj.1 = false from Bool.eq_false_iff.mpr (fun z=>by have:=a2.mp z; omega)]; rfl
      ·exact absurd (s1.trans s2.symm) cc
    refine ⟨szl' (by omega),_,zs2 ++ [.ref t],ts2 ++ [(pk.1,pj.1)],o3,rfl,fun b u nb z=>?_,?_,so3,?_,Prs.tups ((t3.trans (jf7 ht)).trans t6) pp2,?_,(by first | rfl | exact ja1),jc7 (Prs.tups ((t3.trans (jf7 ht)).trans t6) pz2) (Pr.tups ⟨t,rfl,ja1⟩ t6),?_,tco3,?_,?_⟩
    ·have q3:=b3 _ _ nb (b2 _ _ nb z)
     rw [jaj (ja6 z htl0),jaj (ja6 q3 ht)]
     exact q3
    ·rw [jaj nst,jaj (ja6 e3 ht)]
     exact e3
    ·rw [jaj nrt,jaj (ja6 er3 ht)]
     exact er3
    ·rw [jaj nqt,jaj (ja6 eq3 ht)]
     exact eq3
    ·refine tok2.snoc ⟨?_,hkj,(show hasK _ pk.1 = true from jqp hnd xk),(show hasK _ pj.1 = true from jqp hnd xj)⟩
     rcases hl2 with z | ⟨z1,z2⟩
     ·exact lex_lt z
     ·rw [z1]
      exact lex_eq (z2 _ pj (Nat.le_refl _) xj)
    ·rw [jh1]
     exact .inr ⟨rfl,fun j p hj2 hp=>rise _ _ pj p (by omega) xj hp⟩
    ·rw [List.length_append]
     show _ + 1 ≤ _
     omega
  ·rintro σ H2 ⟨jj2,zs2,ts2,o2,rfl,b2,e2,so2,er2,pp2,eq2,etl2,pz2,tok2,tco2,hl2,htn2⟩
   refine ⟨_,jj2,zs2,ts2,o2,rfl,b2,e2,so2,er2,pp2,eq2,etl2,pz2,tok2,tco2,fun j p hj hp=>?_,by omega⟩
   have:=rise k j pk p (by omega) xk hp
   rcases hl2 with z | ⟨z1,_⟩
   ·omega
   ·omega
 ·rintro σ H1 ⟨kk,jj,zs,ts,o',rfl,b1,e1,so',er1,pp1,eq1,etl,pz,tok,tco,hlast,htn⟩
  walk_at "RD"
  intro wv hwv
  have s1:=jai hwv (.tup [.ref r,.ref tl])
  exact h _ _ o' ps ts _ (b1.trans (But.new hwv)) (s1 _ _ e1) so' ⟨wv,r,tl,xs,zs,rfl,ja1,s1 _ _ er1,s1 _ _ etl,Prs.same s1 pp1,Prs.same s1 pz⟩ ⟨by omega,plok,by omega,tok⟩ tco (by omega)
end
end My
namespace L2
open PySem PySem.Spec PyProof.Rows
def jia (C:Addr) (o:Option HO) (f:Str):Option V:=match o with
 | some (.ins C' _ fs)=>if C' = C then fs.lookup f else none
 | _=>none
def jeq (C:Addr) (o:Option HO) (m:Str):Bool:=match o with
 | some (.ins C' _ fs)=>decide (C' = C) && (fs.lookup m).isNone
 | _=>false
def fFld (C:Addr) (f:Str) (ta:TE):TE:=fun σ H Q=>ta σ H fun x H1=>match x with
 | .ref a=>match jia C (H1 a) f with
  | some v=>Q v H1
  | none=>False
 | _=>False
def jba (C:Addr) (f:Str) (ta tv:TE):TS:=fun D σ H=>tv σ H fun y H1=>ta σ H1 fun x H2=>match x with
 | .ref a=>match H2 a with
  | some (.ins C' dx fs)=>C' = C∧fs.length < 1000∧D.nx σ (upd H2 a (.ins C dx (putF f y fs)))
  | _=>False
 | _=>False
def jb0 (C:Addr) (m:Str) (sp:Sp) (dvs:List V) (E:XK) (ta:TE) (t:TA):TE:=fun σ H Q=>ta σ H fun x H1=>match x with
 | .ref a=>jeq C (H1 a) m = true∧t σ H1 fun vs H2=>sp (.ref a :: (vs ++ dvs)) H2 Q E
 | _=>False
section
variable {X:Cx} {C:Addr}
theorem jpy {o:Option HO} {f:Str} {v:V} (h:jia C o f = some v):∃ dx fs,o = some (.ins C dx fs)∧fs.lookup f = some v:=by
 unfold jia at h
 split at h
 ·split at h
  ·rename_i c; subst c; exact ⟨_,_,rfl,h⟩
  ·cases h
 ·cases h
theorem jpo {o:Option HO} {m:Str} (h:jeq C o m = true):∃ dx fs,o = some (.ins C dx fs)∧fs.lookup m = none:=by
 unfold jeq at h
 split at h
 ·rw [Bool.and_eq_true] at h
  have c:=of_decide_eq_true h.1
  subst c
  exact ⟨_,_,rfl,Option.isNone_iff_eq_none.mp h.2⟩
 ·cases h
theorem jcf {e:Expr} {f:Str} {pos:Pos} {ta:TE} (c:Cls X.K C) (n:jeh X.K C f) (he:PE X e ta) (hb:attributeBase e f X.env (eval e X.env) = eval e X.env):PE X (.Attribute e f pos) (fFld C f ta):=by
 intro pins s σ H Q I h
 refine jsc hb (thn (he pins s σ H _ I h) fun u s1 ⟨x,H1,I1,rx,q⟩=>?_)
 dsimp only at q
 split at q
 ·rename_i a
  split at q
  ·rename_i v hv
   obtain ⟨dx,fs,ea,l⟩:=jpy hv
   obtain rfl:u = Value.ref a:=rx
   exact jmo I1 ea c n l fun u' s2 I2 ru=>⟨v,H1,I2,ru,q⟩
  ·exact q.elim
 ·exact q.elim
theorem jkc {o value:Expr} {f:Str} {pos pos':Pos} {ta tv:TE} (c:Cls X.K C) (n:jeh X.K C f) (ha:PE X o ta) (hv:PE X value tv) (hs:swapsWith value (some (.Attribute o f pos')) pos.line X.env = pure false):PS X (.Assign [.Attribute o f pos'] value pos) (jba C f ta tv):=by
 intro pins s σ H D I h
 refine plainObj_wpAny_Assign_Attribute (thn (hv pins s σ H _ I h) fun u s1 ⟨y,H1,I1,ry,q⟩=>thn (ha pins s1 σ H1 _ I1 q) fun ov s2 ⟨x,H2,I2,rx,q2⟩=>?_) hs
 dsimp only at q2
 split at q2
 ·rename_i a
  split at q2
  ·rename_i C' dx fs ea
   obtain ⟨rfl,l,q2⟩:=q2
   obtain rfl:ov = Value.ref a:=rx
   exact jmb I2 ea c n l ry fun s3 I3=>⟨σ,_,I3,q2⟩
  ·exact q2.elim
 ·exact q2.elim
theorem jlv {m:Str} {sp:Sp} {dvs:List V} {E:XK} {ta:TE} {t:TA} {ex:Expr} (h:PE X ex (jr2 C m sp dvs E ta t)) (hmono:∀ pins s σ H Q Q',Inv X pins σ H s→(∀ x H1,Q x H1→Q' x H1)→ta σ H Q→ta σ H Q'):PE X ex (jb0 C m sp dvs E ta t):=by
 intro pins s σ H Q I q
 refine h pins s σ H Q I (hmono pins s σ H _ _ I (fun x H1 q=>?_) q)
 split at q
 ·rename_i a
  obtain ⟨dx,fs,e,l⟩:=jpo q.1
  exact ⟨a,dx,fs,rfl,e,l,q.2⟩
 ·exact q.elim
theorem ji2 {i:Nat}:∀ (pins:List (Addr × Obj)) s σ H Q Q',Inv X pins σ H s→(∀ x H1,Q x H1→Q' x H1)→fVar i σ H Q→fVar i σ H Q':=by
 intro pins s σ H Q Q' _ h q
 unfold fVar at q ⊢
 split
 ·rename_i v e
  rw [e] at q
  exact h _ _ q
 ·rename_i hne
  split at q
  ·rename_i v e; exact absurd e (hne v)
  ·exact q
theorem jcw {CX:CXT} {k:Nat} {f:Addr} {fd:FuncData} {ps:List Str} {sp:Sp} {dvs:List V} {ds:List Value} {E:XK} {m:Str} {pos apos:Pos} {e o:Expr} {es:List Expr} {i:Nat} {t:TA} {pl:Sem Bool}
  (he:PE X o (fVar i)) (c:Cls X.K C) (hm:Meth X.K C m f) (F:FnOk X.prog X.w X.K X.mg X.base CX k f fd ps sp) (hr:Room k X.A) (hb:jei X.K fd ps ds) (hd:Vals dvs ds) (hx:jeg CX X E) (ha:PA X (e :: es) t)
  (hst:starEach (e :: es) X.env = (false,eval e X.env) :: starEach es X.env:=by rfl) (hpl:(backTo pos (starEach es X.env)).any (·.1) = false:=by rfl)
  (ht:eval (.Call (.Attribute o m apos) (e :: es) [] pos) X.env = (do
   let ov ← eval o X.env
   standAt apos.atName
   let (f,first) ← holding [ov] (getMethod ov m pl)
   callWith pos f first (backTo pos (starEach (e :: es) X.env)) (backToKw pos (keywordEach [] X.env))):=by rfl) :
  PE X (.Call (.Attribute o m apos) (e :: es) [] pos) (jb0 C m sp dvs E (fVar i) t) :=
 jlv (jrg (pl:=pl) he c hm F hr hb hd hx ha hst hpl ht) ji2
theorem jnw {CX:CXT} {k:Nat} {f:Addr} {fd:FuncData} {ps:List Str} {sp:Sp} {dvs:List V} {ds:List Value} {E:XK} {m:Str} {pos apos:Pos} {o:Expr} {i:Nat} {pl:Sem Bool}
  (he:PE X o (fVar i)) (c:Cls X.K C) (hm:Meth X.K C m f) (F:FnOk X.prog X.w X.K X.mg X.base CX k f fd ps sp) (hr:Room k X.A) (hb:jei X.K fd ps ds) (hd:Vals dvs ds) (hx:jeg CX X E)
  (ht:eval (.Call (.Attribute o m apos) [] [] pos) X.env = (do
   let ov ← eval o X.env
   standAt apos.atName
   let (f,first) ← holding [ov] (getMethod ov m pl)
   callWith pos f first (backTo pos (starEach [] X.env)) (backToKw pos (keywordEach [] X.env))):=by rfl) :
  PE X (.Call (.Attribute o m apos) [] [] pos) (jb0 C m sp dvs E (fVar i) tNil) :=
 jlv (jpk (pl:=pl) he c hm F hr hb hd hx ht) ji2
end
section
variable {X:Cx}
def jae (td ty:TE):TE:=fun σ H Q=>td σ H fun x H1=>match x with
 | .ref a=>(∃ kvs,H1 a = some (.dK kvs))∧ty σ H1 fun y H2=>match y with
  | .int n=>match H2 a with
   | some (.dK kvs)=>Q ((valV kvs (Sum.inl n:Key)).getD .non) H2
   | _=>False
  | _=>False
 | _=>False
theorem jrb {o e:Expr} {apos cpos:Pos} {td ty:TE} (hu:X.A.units + 1 < cLine) (ho:PE X o td) (he:PE X e ty) (m:M1 X o "get" apos e cpos:=by exact ⟨rfl,rfl,rfl,rfl⟩):PE X (.Call (.Attribute o "get" apos) [e] [] cpos) (jae td ty):=by
 intro pins s σ H Q I h
 refine wpAny_Call_method m.base m.few m.line PySem.F.plainAttrs_dict PySem.F.slot_dict_get PySem.F.type_dict_get (thn (ho pins s σ H _ I h) fun u s1 ⟨x,H1,I1,rx,q1⟩=>?_)
 dsimp only at q1
 split at q1
 ·rename_i a
  obtain ⟨⟨kvs0,e0⟩,q1⟩:=q1
  obtain rfl:u = Value.ref a:=rx
  obtain ⟨t1,t2,_⟩:=jqo I1 (.inl ⟨kvs0,.inl e0⟩)
  refine ⟨t1,t2,?_⟩
  rw [m.trees]
  refine Calls.callWith_builtin rfl (Calls.evalArgs_plain (Calls.spliced_cons (thn (he pins s1 σ H1 _ I1 q1) fun iv s2 ⟨y,H2,I2,ry,q2⟩=>Calls.spliced_nil ?_)))
  dsimp only at q2
  split at q2
  ·rename_i n
   split at q2
   ·rename_i kvs ea
    exact d_get1 hu I2 (DGet.k (k:=Sum.inl n) ea) ry fun w' s3 I3 rw'=>⟨_,H2,I3,rw',q2⟩
   ·exact q2.elim
  ·exact q2.elim
 ·exact q1.elim
def jac (i:Nat):TE:=fun σ H Q=>match σ[i]? with
 | some (some (.int n))=>∀ p,H p = none→Q (.ref p) (upd H p (.dK [(Sum.inl n,.non)]))
 | _=>False
theorem jr1 {H:Hp} {p:Addr} {a b:HO}:upd (upd H p a) p b = upd H p b:=by
 funext x
 by_cases c:x = p
 ·rw [c,ja1,ja1]
 ·rw [jaj c,jaj c,jaj c]
theorem jpl {pos:Pos} {k v:Expr} {i:Nat} (hk:PE X k (fVar i)) (hv:PE X v (tC .non)):PE X (.Dict [some k] [v] pos) (jac i):=by
 intro pins s σ H Q I q
 refine jkg (jhu hk hv jkd) rfl rfl (fun z=>nomatch z) (Nat.le_of_ble_eq_true rfl) pins s σ H Q I ?_
 intro p hp
 unfold jac at q
 split at q
 ·rename_i n e
  show fVar i σ (upd H p (.dK [])) _
  unfold fVar
  rw [e]
  show tC V.non σ _ _
  refine ⟨ja1,[(Sum.inl n,.non)],rfl,Nat.le_of_ble_eq_true rfl,?_⟩
  rw [jr1]
  exact q p hp
 ·exact q.elim
def jb3:V→V→Hp→VK→Prop:=fun o i H Q=>match o,i with
 | .ref p,.int k=>match H p with
  | some (.lst xs)=>0 ≤ k∧match atI xs k with
   | some v=>Q v H
   | none=>False
  | _=>False
 | _,_=>False
theorem jjr:PGet X jb3:=by
 intro pins s σ H o i ov iv Q I ro ri h
 unfold jb3 at h
 split at h
 ·rename_i p k
  split at h
  ·rename_i xs hp
   obtain ⟨k0,h⟩:=h
   split at h
   ·rename_i v hv
    cases ro
    obtain ⟨t,rfl⟩:=ri
    obtain ⟨its,r,pl,hz⟩:=I.list (SqL.of hp)
    obtain ⟨j,h1,h2,h3,h4,h5⟩:=jl3 hv
    obtain ⟨w,ew,rw'⟩:=r.get h2
    have hn:=jh0
    have hj:k.toNat = j:=by
     rw [seqIndex_of k0 h5] at h1
     exact Option.some.inj h1
    exact wpAny_getItem_list pl.isList k0 (by omega) (by rw [hj]; simpa using ew) ⟨v,H,I,rw',h⟩
   ·exact h.elim
  ·exact h.elim
 ·exact h.elim
def jb5:TIp:=fun x y H Q=>match x,y with
 | .int i,.int j=>Q (.int (i - j)) H
 | _,_=>False
def jb6:TIp:=fun x y H Q=>match x,y with
 | .int i,.int j=>Q (.int (i + j)) H
 | _,_=>False
theorem jrw:PIp X .Sub jb5:=by
 intro pins s σ H x y v u Q I r1 r2 h
 unfold jb5 at h
 split at h
 ·rename_i i j
  obtain ⟨t,rfl⟩:=(show ∃ t,v = Value.int i t from r1)
  obtain ⟨t',rfl⟩:=(show ∃ t,u = Value.int j t from r2)
  exact PyProof.Rows.isub_int ⟨.int (i - j),H,I.tok _,⟨_,rfl⟩,h⟩
 ·exact h.elim
theorem jrx:PIp X .Add jb6:=by
 intro pins s σ H x y v u Q I r1 r2 h
 unfold jb6 at h
 split at h
 ·rename_i i j
  obtain ⟨t,rfl⟩:=(show ∃ t,v = Value.int i t from r1)
  obtain ⟨t',rfl⟩:=(show ∃ t,u = Value.int j t from r2)
  exact PyProof.Rows.iadd_int ⟨.int (i + j),H,I.tok _,⟨_,rfl⟩,h⟩
 ·exact h.elim
def fXor:R2:=fun x y H Q=>match x,y with
 | .int i,.int j=>Q (.int (Builtin.bitXor i j)) H
 | _,_=>False
theorem jr9:OpR X (binaryOp .BitXor) fXor:=by
 intro pins s σ H x y v u Q I r1 r2 h
 unfold fXor at h
 split at h
 ·rename_i i j
  obtain ⟨t,rfl⟩:=(show ∃ t,v = Value.int i t from r1)
  obtain ⟨t',rfl⟩:=(show ∃ t,u = Value.int j t from r2)
  exact PyProof.Rows.xor_int ⟨.int (Builtin.bitXor i j),H,I.tok _,⟨_,rfl⟩,h⟩
 ·exact h.elim
theorem jqz (w:Nat):Builtin.bitXor (w:Int) 1 = ((if w % 2 = 0 then w + 1 else w - 1:Nat):Int):=by
 have h1:(w ||| 1:Nat) = 2 * (w / 2) + 1:=by
  have a:=Nat.or_div_two (a:=w) (b:=1)
  have b:(w ||| 1) % 2 = 1:=by rw [Nat.or_mod_two_eq_one]; right; rfl
  rw [show 1 / 2 = 0 from rfl,Nat.or_zero] at a
  omega
 have h2:(w &&& 1:Nat) = w % 2:=Nat.and_one_is_mod w
 have n1:¬ (0:Int) ≤ -(w:Int) - 1:=by omega
 have e:Builtin.bitXor (w:Int) 1 = ((w ||| 1:Nat):Int) - ((w &&& 1:Nat):Int):=by
  unfold Builtin.bitXor Builtin.bitOr Builtin.bitAnd Builtin.bitNot
  simp only [decide_eq_false n1,show decide ((0:Int) ≤ -(1:Int) - 1) = false from rfl,show decide ((0:Int) ≤ (w:Int)) = true from decide_eq_true (by omega),show decide ((0:Int) ≤ 1) = true from rfl]
  simp only [show (-(-(w:Int) - 1) - 1).toNat = w by omega,show (-(-(1:Int) - 1) - 1).toNat = 1 from rfl,show ((w:Int)).toNat = w from rfl,show ((1:Int)).toNat = 1 from rfl]
  omega
 rw [e,h1,h2]
 split <;> omega
def alt {α:Type}:Bool→List α→List α
 | _,[]=>[]
 | true,x :: xs=>x :: alt false xs
 | false,_ :: xs=>alt true xs
def fAlt (b:Bool) (te:TE):TE:=fun σ H Q=>te σ H fun x H1=>match x with
 | .ref a=>match H1 a with
  | some (.lst xs)=>∀ p,H1 p = none→Q (.ref p) (upd H1 p (.lst (alt b xs)))
  | _=>False
 | _=>False
theorem jhe:∀ (b:Bool) {vs:List V} {us:List Value},Vals vs us→Vals (alt b vs) (alt b us)
 | _,_,_,.nil=>by cases ‹Bool› <;> exact .nil
 | true,_,_,.cons r t=>.cons r (jhe false t)
 | false,_,_,.cons _ t=>jhe true t
theorem jl6 {α:Type}:∀ (b:Bool) (xs:List α),(alt b xs).length ≤ xs.length
 | true,[]=>Nat.le_refl _
 | false,[]=>Nat.le_refl _
 | true,x :: xs=>by have:=jl6 false xs; show (alt false xs).length + 1 ≤ xs.length + 1; omega
 | false,x :: xs=>by have:=jl6 true xs; show (alt true xs).length ≤ xs.length + 1; omega
theorem jm6 {α:Type}:∀ (b:Bool) (xs:List α) (i:Nat),(alt b xs)[i]? = xs[2 * i + (if b then 0 else 1)]?
 | true,[],i=>by simp [alt]
 | false,[],i=>by simp [alt]
 | true,x :: xs,0=>rfl
 | true,x :: xs,i + 1=>by
  show (alt false xs)[i]? = _
  rw [jm6 false xs i,if_pos rfl,if_neg (by decide),show 2 * (i + 1) + 0 = (2 * i + 1) + 1 by omega,List.getElem?_cons_succ]
 | false,x :: xs,i=>by
  show (alt true xs)[i]? = _
  rw [jm6 true xs i,if_pos rfl,if_neg (by decide),List.getElem?_cons_succ]
  rfl
theorem jpg (its:List Value) (b:Bool) (hb:b = false→0 < its.length):slicePick its.toArray (some (if b then 0 else 1)) none (some 2) = (alt b its).toArray:=by
 unfold slicePick
 congr 1
 have h1:sliceBounds (some (if b then 0 else 1)) none (some 2) its.toArray.size = (((if b then 0 else 1:Nat):Int),(its.length:Int),2):=by
  cases b
  ·have:=hb rfl
   simp [sliceBounds]
   omega
  ·simp [sliceBounds]
   omega
 rw [h1]
 dsimp only
 have h2:∀ c:Nat,sliceRange ((c:Nat):Int) (its.length:Int) 2 = (List.range ((its.length + 1 - c) / 2)).map fun k=>c + 2 * k:=fun c=>by
  unfold sliceRange
  dsimp only
  rw [if_pos (by decide)]
  have e:(if (c:Int) < (its.length:Int) then ((its.length:Int) - c + 2 - 1) / 2 else 0).toNat = (its.length + 1 - c) / 2:=by
   split <;> omega
  rw [e]
  exact List.map_congr_left fun k _=>by omega
 rw [h2,List.filterMap_map]
 have h3:∀ (l:List Nat),(∀ k ∈ l,(if b then 0 else 1) + 2 * k < its.length)→l.filterMap ((fun x=>its.toArray[x]?) ∘ fun k=>(if b then 0 else 1) + 2 * k) = l.map fun k=>its.getD ((if b then 0 else 1) + 2 * k) .none:=fun l=>by
  induction l with
  | nil=>intro _; rfl
  | cons k r ih =>
   intro hk
   have hk0:=hk k (.head _)
   rw [List.filterMap_cons]
   have e:((fun x=>its.toArray[x]?) ∘ fun k=>(if b then 0 else 1) + 2 * k) k = some (its.getD ((if b then 0 else 1) + 2 * k) .none):=by
    show its.toArray[(if b then 0 else 1) + 2 * k]? = _
    rw [List.getElem?_toArray,List.getD_eq_getElem?_getD,List.getElem?_eq_getElem hk0]
    rfl
   rw [e]
   dsimp only
   rw [List.map_cons,ih fun j hj=>hk j (.tail _ hj)]
 rw [h3 _ fun k hk=>by have:=List.mem_range.mp hk; cases b <;> simp only [if_true,if_false,Bool.false_eq_true] at this ⊢ <;> omega]
 apply List.ext_getElem?
 intro i
 rw [jm6,List.getElem?_map]
 by_cases c:2 * i + (if b then 0 else 1) < its.length
 ·rw [List.getElem?_range (by cases b <;> simp only [if_true,if_false,Bool.false_eq_true] at c ⊢ <;> omega)]
  show some (its.getD _ .none) = _
  rw [List.getD_eq_getElem?_getD,Nat.add_comm,List.getElem?_eq_getElem c]
  rfl
 ·rw [List.getElem?_eq_none (by rw [List.length_range]; cases b <;> simp only [if_true,if_false,Bool.false_eq_true] at c ⊢ <;> omega),List.getElem?_eq_none (by omega)]
  rfl
theorem pe_alt {b:Bool} {c:Int} (hc:c = if b then 0 else 1) {e:Expr} {te:TE} {k k2:Nat} {z1 z2 p2 pos:Pos} (he:PE X e te):PE X (.Subscript e (.Slice (some (.Constant (.int c) k2 z2)) none (some (.Constant (.int 2) k z1)) p2) pos) (fAlt b te):=by
 intro pins s σ H Q I h
 refine Subscript_ (thn (he pins s σ H _ I h) fun v s1 ⟨x,H1,I1,r1,q1⟩=>?_)
 refine wpAny_Slice ?_
 simp only [evalPart_none]
 rw [evalPart_some]
 refine thn ((jak (i:=c) (j:=k2) (pos:=z2):PE X _ _) pins s1 σ H1 (fun y H2=>y = .int c∧H2 = H1) I1 ⟨rfl,rfl⟩) fun st s2 ⟨y,H2,I2,r2,ey,eh⟩=>?_
 subst ey eh
 obtain ⟨t1,rfl⟩:=r2
 refine wpAny_pure ?_
 rw [evalPart_some]
 refine thn ((jak (i:=2) (j:=k) (pos:=z1):PE X _ _) pins s2 σ H2 (fun y H3=>y = .int 2∧H3 = H2) I2 ⟨rfl,rfl⟩) fun st s3 ⟨y,H3,I3,r3,ey,eh⟩=>?_
 subst ey eh
 obtain ⟨t2,rfl⟩:=r3
 split at q1
 ·rename_i a
  split at q1
  ·rename_i xs ea
   cases r1
   have I4:Inv X pins σ H3 { s3 with heap:=s3.heap.push { cls:=.type "slice",data:=.fields #[.int c t1,.none,.int 2 t2] } }:=I3.kept (t':=s3.toks) fun b ob q=>Heap.get?_push_of_some _ q
   obtain ⟨its,r,ht,hz⟩:=I4.list (SqL.of ea)
   have hlen:=r.length
   show wpAny (model X.prog X.w) X.A (subscriptTail e (.Slice (some (.Constant (.int c) k2 z2)) none (some (.Constant (.int 2) k z1)) p2) (.ref a) (.ref s3.heap.objs.size)) (EP X pins σ Q) X.xe { s3 with heap:=s3.heap.push { cls:=.type "slice",data:=.fields #[.int c t1,.none,.int 2 t2] } }
   refine tail_any (ops:=[.ref a,.ref s3.heap.objs.size]) ht.isList.typeIs slot_list_getitem.lookup ?_ (by with_unfolding_all rfl)
   refine wpAny_getItem_list_slice ht.isList (Heap.IsSliceOf.new ..) (.int _ t1) .none (.int 2 t2) (by decide) ?_ (by rw [List.size_toArray] <;> omega)
   by_cases hb:b = false→0 < its.length
   ·rw [show slicePick its.toArray (some c) none (some 2) = (alt b its).toArray from by rw [hc]; exact jpg _ _ hb]
    refine ⟨.ref _,_,I4.laid (t':=s3.toks) (o:=.lst (alt b xs)) (fun b ob q=>Heap.get?_push_of_some _ q) (Nat.le_refl _) ?_,rfl,q1 _ (I4.hok.fresh (Nat.le_refl _))⟩
    exact ⟨by have:=jl6 b xs; omega,_,0,jhe b r,Heap.get?_push_size _ rfl⟩
   ·have hi:its = []:=Classical.byContradiction fun z=>hb fun _=>List.length_pos_iff.mpr z
    have hx:xs = []:=List.length_eq_zero_iff.mp (by rw [hi] at hlen; exact hlen)
    subst hi hx
    have e2:alt b ([]:List V) = []:=by cases b <;> rfl
    rw [e2] at q1
    have e3:slicePick ([]:List Value).toArray (some c) none (some 2) = ([]:List Value).toArray:=by rw [hc]; cases b <;> rfl
    rw [e3]
    refine ⟨.ref _,_,I4.laid (t':=s3.toks) (o:=.lst []) (fun b ob q=>Heap.get?_push_of_some _ q) (Nat.le_refl _) ?_,rfl,q1 _ (I4.hok.fresh (Nat.le_refl _))⟩
    exact ⟨Nat.zero_le _,_,0,.nil,Heap.get?_push_size _ rfl⟩
  ·exact q1.elim
 ·exact q1.elim
def jaq (ta:TE):TT:=fun σ H Q=>ta σ H fun x H1=>match x with
 | .ref a=>match H1 a with
  | some (.lst xs)=>Q (!xs.isEmpty) H1
  | _=>False
 | _=>False
theorem jnp {a:Expr} {i:Nat} (ha:PE X a (fVar i)) (he:∀ whole,isTrue a X.env whole = (do let v ← whole; standAt a.pos; holding [v] (truthy v)):=by exact fun _=>rfl):PT X a (jaq (fVar i)):=by
 intro pins s σ H Q I h
 refine jpf ha he pins s σ H Q I ?_
 show fVar i σ H _
 have h:fVar i σ H _:=h
 refine ji2 pins s σ H _ _ I (fun x H1 q=>?_) h
 split at q
 ·rename_i a
  split at q
  ·rename_i xs e
   exact ⟨_,.inl ⟨xs,SqL.of e,rfl⟩,q⟩
  ·exact q.elim
 ·exact q.elim
end
end L2
namespace Fl
def pick (n m v:Int):Int:=if n = m then v else 0
theorem pick_same (n v:Int):pick n n v = v:=by unfold pick; rw [if_pos rfl]
theorem pick_ne {n m:Int} (h:n ≠ m) (v:Int):pick n m v = 0:=by unfold pick; rw [if_neg h]
theorem sum_one (c:Int→Int) (a x:Int):∀ {ns:List Int},ns.Nodup→a ∈ ns→(ns.map fun p=>c p * pick a p x).sum = c a * x
 | [],_,h=>by cases h
 | n :: ns,nd,h=>by
  rw [List.map_cons,List.sum_cons]
  have nd':=List.nodup_cons.mp nd
  by_cases e:a = n
  ·subst e
   have h0:∀ {l:List Int},a ∉ l→(l.map fun p=>c p * pick a p x).sum = 0:=by
    intro l
    induction l with
    | nil=>intro _; rfl
    | cons m l ih =>
     intro hm
     rw [List.map_cons,List.sum_cons,pick_ne (fun z:a = m=>hm (by rw [z]; exact List.mem_cons_self ..)),Int.mul_zero,ih fun z=>hm (List.mem_cons_of_mem _ z)]
     rfl
   rw [pick_same,h0 nd'.1,Int.add_zero]
  ·have hm:a ∈ ns:=(List.mem_cons.mp h).resolve_left e
   rw [pick_ne e,Int.mul_zero,sum_one c a x nd'.2 hm,Int.zero_add]
theorem sum_add {α:Type} (f g:α→Int):∀ (l:List α),(l.map fun p=>f p + g p).sum = (l.map f).sum + (l.map g).sum
 | []=>rfl
 | a :: l=>by
  rw [List.map_cons,List.map_cons,List.map_cons,List.sum_cons,List.sum_cons,List.sum_cons,sum_add f g l]
  omega
theorem sum_zero {α:Type}:∀ (l:List α),(l.map fun _=>(0:Int)).sum = 0
 | []=>rfl
 | _ :: l=>by rw [List.map_cons,List.sum_cons,sum_zero l]; rfl
theorem sum_congr {α:Type} {f g:α→Int}:∀ {l:List α},(∀ p ∈ l,f p = g p)→(l.map f).sum = (l.map g).sum
 | [],_=>rfl
 | a :: l,h=>by
  rw [List.map_cons,List.map_cons,List.sum_cons,List.sum_cons,h a (List.mem_cons_self ..),sum_congr fun p hp=>h p (List.mem_cons_of_mem _ hp)]
def one (b:Bool):Int:=if b = true then 1 else 0
section
variable {ns:List Int} {pr:Int→Int} {zs:List Tw} {fs ft:Int→Int} {SL SR:Int→Bool}
end
end Fl
namespace Fl
def mate (w:Nat):Nat:=if w % 2 = 0 then w + 1 else w - 1
theorem mate_mate (w:Nat):mate (mate w) = w:=by unfold mate; split <;> split <;> omega
theorem mate_ne (w:Nat):mate w ≠ w:=by unfold mate; split <;> omega
theorem mate_lt {w m:Nat} (h:w < 2 * m):mate w < 2 * m:=by unfold mate; split <;> omega
def at' (l:List Int) (i:Nat):Int:=l.getD i 0
theorem at_set (l:List Int) (i j:Nat) (v:Int):at' (l.set i v) j = if i = j∧j < l.length then v else at' l j:=by
 unfold at'
 rw [List.getD_eq_getElem?_getD,List.getD_eq_getElem?_getD,List.getElem?_set]
 by_cases h:i = j
 ·by_cases h2:j < l.length
  ·rw [if_pos h,if_pos (by omega),if_pos ⟨h,h2⟩]; rfl
  ·rw [if_pos h,if_neg (by omega),if_neg (fun z=>h2 z.2),List.getElem?_eq_none (by omega)]
 ·rw [if_neg h,if_neg (fun z=>h z.1)]
def bump (r:List Int) (w:Nat) (a:Int):List Int:=(r.set w (at' r w - a)).set (mate w) (at' r (mate w) + a)
theorem jid (r:List Int) (w:Nat) (a:Int):(bump r w a).length = r.length:=by unfold bump; rw [List.length_set,List.length_set]
theorem jl2 {r:List Int} {w m:Nat} {a:Int} (hl:r.length = 2 * m) (hw:w < 2 * m) (j:Nat):at' (bump r w a) j = at' r j - (if j = w then a else 0) + (if j = mate w then a else 0):=by
 unfold bump
 rw [at_set,at_set]
 have hm:=mate_lt hw
 have hn:=mate_ne w
 rw [List.length_set,hl]
 by_cases h1:j = mate w
 ·subst h1
  rw [if_pos ⟨rfl,hm⟩,if_neg hn,if_pos rfl]
  omega
 ·rw [if_neg (fun z=>h1 z.1.symm),if_neg h1]
  by_cases h2:j = w
  ·subst h2
   rw [if_pos ⟨rfl,hw⟩,if_pos rfl]
   omega
  ·rw [if_neg (fun z=>h2 z.1.symm),if_neg h2]
   omega
theorem jdd {g g':Nat→Int}:∀ {m k0:Nat},k0 < m→(∀ k,k ≠ k0→g' k = g k)→((List.range m).map g').sum = ((List.range m).map g).sum + (g' k0 - g k0)
 | 0,_,h,_=>by omega
 | m + 1,k0,h,he=>by
  rw [List.range_succ,List.map_append,List.map_append,List.sum_append,List.sum_append]
  show _ + (g' m + 0) = _ + (g m + 0) + _
  by_cases c:k0 = m
  ·subst c
   have e:((List.range k0).map g').sum = ((List.range k0).map g).sum:=sum_congr fun k hk=>he k (by have:=List.mem_range.mp hk; omega)
   rw [e]
   omega
  ·rw [jdd (m:=m) (k0:=k0) (by omega) he,he m (fun z=>c z.symm)]
   omega
def ex (hs:List Int) (m:Nat) (r:List Int) (v:Int):Int:=((List.range m).map fun k=>pick (at' hs (2 * k)) v (at' r (2 * k + 1)) - pick (at' hs (2 * k + 1)) v (at' r (2 * k + 1))).sum
theorem jln (n v a b:Int):pick n v (a + b) = pick n v a + pick n v b:=by unfold pick; split <;> omega
theorem jlm (n v a b:Int):pick n v (a - b) = pick n v a - pick n v b:=by unfold pick; split <;> omega
theorem js5 {hs r:List Int} {m w:Nat} {a:Int} (hl:r.length = 2 * m) (hw:w < 2 * m) (v:Int):ex hs m (bump r w a) v = ex hs m r v + pick (at' hs w) v a - pick (at' hs (mate w)) v a:=by
 unfold ex
 have hk:w / 2 < m:=by omega
 rw [jdd (g:=fun k=>pick (at' hs (2 * k)) v (at' r (2 * k + 1)) - pick (at' hs (2 * k + 1)) v (at' r (2 * k + 1))) hk (fun k hne=>?_)]
 ·rw [jl2 hl hw]
  by_cases c:w % 2 = 0
  ·have e1:mate w = w + 1:=by unfold mate; rw [if_pos c]
   have e2:2 * (w / 2) = w:=by omega
   rw [e2,e1,if_neg (by omega),if_pos rfl,Int.sub_zero,jln,jln]
   omega
  ·have e1:mate w = w - 1:=by unfold mate; rw [if_neg c]
   have e2:2 * (w / 2) + 1 = w:=by omega
   have e3:2 * (w / 2) = w - 1:=by omega
   rw [e2,e3,e1,if_pos rfl,if_neg (by omega),Int.add_zero,jlm,jlm]
   omega
 ·rw [jl2 hl hw,if_neg (by omega),if_neg (by unfold mate; split <;> omega),Int.sub_zero,Int.add_zero]
def push (r:List Int) (tr:List Nat) (a:Int):List Int:=tr.foldl (fun r w=>bump r w a) r
theorem push_len:∀ (tr:List Nat) (r:List Int) (a:Int),(push r tr a).length = r.length
 | [],_,_=>rfl
 | w :: tr,r,a=>by
  show (push (bump r w a) tr a).length = _
  rw [push_len tr,jid]
def jq7 (hs:List Int):Int→List Nat→Int→Prop
 | t,[],s=>t = s
 | t,w :: tr,s=>at' hs w = t∧jq7 hs (at' hs (mate w)) tr s
theorem jol {hs:List Int} {m:Nat} {a:Int} {s:Int} (v:Int):∀ {tr:List Nat} {r:List Int} {t:Int},r.length = 2 * m→(∀ w ∈ tr,w < 2 * m)→jq7 hs t tr s→ex hs m (push r tr a) v = ex hs m r v + pick t v a - pick s v a
 | [],r,t,_,_,h=>by
  have h:t = s:=h
  subst h
  show ex hs m r v = _
  omega
 | w :: tr,r,t,hl,hw,h=>by
  show ex hs m (push (bump r w a) tr a) v = _
  obtain ⟨h1,h2⟩:=h
  rw [jol v (by rw [jid]; exact hl) (fun x hx=>hw x (List.mem_cons_of_mem _ hx)) h2,js5 hl (hw w (List.mem_cons_self ..)),h1]
  omega
theorem jjf (a:Int) (n:Nat):a * ((n + 1:Nat):Int) = a * (n:Int) + a:=by rw [Int.natCast_add,Int.mul_add]; show _ + a * 1 = _; rw [Int.mul_one]
theorem jht {m:Nat} {a:Int} (j:Nat):∀ {tr:List Nat} {r:List Int},r.length = 2 * m→(∀ w ∈ tr,w < 2 * m)→at' (push r tr a) j = at' r j - a * (tr.count j:Int) + a * (tr.count (mate j):Int)
 | [],r,_,_=>by
  show at' r j = at' r j - a * 0 + a * 0
  omega
 | w :: tr,r,hl,hw=>by
  show at' (push (bump r w a) tr a) j = _
  have hm:(j = mate w) ↔ (w = mate j):=⟨fun z=>by rw [z,mate_mate],fun z=>by rw [z,mate_mate]⟩
  rw [jht j (by rw [jid]; exact hl) (fun x hx=>hw x (List.mem_cons_of_mem _ hx)),jl2 hl (hw w (List.mem_cons_self ..)),List.count_cons,List.count_cons]
  by_cases c1:j = w
  ·by_cases c2:j = mate w
   ·exact absurd (c2.symm.trans c1) (mate_ne w)
   ·rw [if_pos c1,if_neg c2,if_pos (by simp [c1]),if_neg (by simp; exact fun z=>c2 (hm.mpr z)),jjf]
    simp only [Nat.add_zero]
    omega
  ·by_cases c2:j = mate w
   ·rw [if_neg c1,if_pos c2,if_neg (by simp; exact fun z=>c1 z.symm),if_pos (by simp; exact hm.mp c2),jjf]
    simp only [Nat.add_zero]
    omega
   ·rw [if_neg c1,if_neg c2,if_neg (by simp; exact fun z=>c1 z.symm),if_neg (by simp; exact fun z=>c2 (hm.mpr z))]
    simp only [Nat.add_zero]
    omega
end Fl
namespace Fl
abbrev Cb:=List (Int × Option Nat)
def seen (cb:Cb) (v:Int):Bool:=decide (v ∈ cb.map (·.1))
def visit (hs r:List Int):Cb→List Nat→Cb
 | cb,[]=>cb
 | cb,w :: ws=>visit hs r (if 0 < at' r w∧seen cb (at' hs w) = false then cb ++ [(at' hs w,some w)] else cb) ws
def sprN (wf:Int→List Nat) (hs r:List Int) (s:Int):Nat→Cb
 | 0=>[(s,none)]
 | k + 1=>match (sprN wf hs r s k)[k]? with
  | some p=>visit hs r (sprN wf hs r s k) (wf p.1)
  | none=>sprN wf hs r s k
structure Cam (hs r:List Int) (m:Nat) (s:Int) (cb:Cb):Prop where
 nd:(cb.map (·.1)).Nodup
 first:cb[0]? = some (s,none)
 came:∀ i v o,cb[i]? = some (v,o)→0 < i→∃ w,o = some w∧w < 2 * m∧0 < at' r w∧at' hs w = v∧∃ j u,j < i∧(cb[j]?.map (·.1)) = some u∧at' hs (mate w) = u
section
variable {hs r:List Int} {m:Nat} {s:Int}
theorem Cam.put {cb:Cb} (h:Cam hs r m s cb) {w:Nat} {j:Nat} {u:Int} (hw:w < 2 * m) (hp:0 < at' r w) (hn:seen cb (at' hs w) = false) (hj:(cb[j]?.map (·.1)) = some u) (hu:at' hs (mate w) = u):Cam hs r m s (cb ++ [(at' hs w,some w)]):=by
 have hlen:0 < cb.length:=by
  have:=h.first
  cases cb with
  | nil=>cases this
  | cons _ _=>simp
 have hjl:j < cb.length:=by
  cases e:cb[j]? with
  | none=>rw [e] at hj; cases hj
  | some p=>exact (List.getElem?_eq_some_iff.mp e).1
 refine ⟨?_,?_,?_⟩
 ·rw [List.map_append,List.nodup_append]
  refine ⟨h.nd,by simp,fun a ha b hb=>?_⟩
  simp at hb
  subst hb
  intro z
  subst z
  unfold seen at hn
  rw [decide_eq_false_iff_not] at hn
  exact hn ha
 ·rw [List.getElem?_append_left hlen]
  exact h.first
 ·intro i v o hi h0
  by_cases c:i < cb.length
  ·rw [List.getElem?_append_left c] at hi
   obtain ⟨w',h1,h2,h3,h4,j',u',h5,h6,h7⟩:=h.came i v o hi h0
   exact ⟨w',h1,h2,h3,h4,j',u',h5,by rw [List.getElem?_append_left (by omega)]; exact h6,h7⟩
  ·rw [List.getElem?_append_right (by omega)] at hi
   have:i - cb.length = 0:=by
    cases e:i - cb.length with
    | zero=>rfl
    | succ n=>rw [e] at hi; simp at hi
   rw [this] at hi
   simp at hi
   obtain ⟨rfl,rfl⟩:=hi
   exact ⟨w,rfl,hw,hp,rfl,j,u,by omega,by rw [List.getElem?_append_left hjl]; exact hj,hu⟩
theorem jfj:∀ {ws:List Nat} {cb:Cb} {j:Nat} {u:Int},Cam hs r m s cb→(cb[j]?.map (·.1)) = some u→(∀ w ∈ ws,w < 2 * m∧at' hs (mate w) = u)→Cam hs r m s (visit hs r cb ws)
 | [],_,_,_,h,_,_=>h
 | w :: ws,cb,j,u,h,hj,hw=>by
  unfold visit
  have h1:=hw w (List.mem_cons_self ..)
  have hjl:j < cb.length:=by
   cases e:cb[j]? with
   | none=>rw [e] at hj; cases hj
   | some p=>exact (List.getElem?_eq_some_iff.mp e).1
  split
  ·rename_i c
   exact jfj (j:=j) (u:=u) (h.put h1.1 c.1 c.2 hj h1.2) (by rw [List.getElem?_append_left hjl]; exact hj) fun x hx=>hw x (List.mem_cons_of_mem _ hx)
  ·exact jfj h hj fun x hx=>hw x (List.mem_cons_of_mem _ hx)
theorem visit_pre:∀ (ws:List Nat) (cb:Cb),∃ l,visit hs r cb ws = cb ++ l
 | [],cb=>⟨[],(List.append_nil _).symm⟩
 | w :: ws,cb=>by
  unfold visit
  split
  ·obtain ⟨l,e⟩:=visit_pre ws (cb ++ [(at' hs w,some w)])
   exact ⟨(at' hs w,some w) :: l,by rw [e,List.append_assoc]; rfl⟩
  ·exact visit_pre ws cb
theorem jio:∀ {ws:List Nat} {cb:Cb} {w:Nat},w ∈ ws→0 < at' r w→at' hs w ∈ (visit hs r cb ws).map (·.1)
 | x :: ws,cb,w,h,hp=>by
  unfold visit
  rcases List.mem_cons.mp h with rfl | h
  ·by_cases c:seen cb (at' hs w) = false
   ·rw [if_pos ⟨hp,c⟩]
    obtain ⟨l,e⟩:=visit_pre (hs:=hs) (r:=r) ws (cb ++ [(at' hs w,some w)])
    rw [e]
    simp
   ·rw [if_neg (fun z=>c z.2)]
    obtain ⟨l,e⟩:=visit_pre (hs:=hs) (r:=r) ws cb
    rw [e,List.map_append,List.mem_append]
    left
    unfold seen at c
    simpa using c
  ·exact jio h hp
end
section
variable {wf:Int→List Nat} {hs r:List Int} {m:Nat} {s:Int}
theorem spr_cam (hwf:∀ u,∀ w ∈ wf u,w < 2 * m∧at' hs (mate w) = u):∀ k,Cam hs r m s (sprN wf hs r s k)
 | 0=>⟨by simp [sprN],rfl,fun i v o h h0=>by
   cases i with
   | zero=>omega
   | succ i=>simp [sprN] at h⟩
 | k + 1=>by
  unfold sprN
  have ih:=spr_cam hwf k
  split
  ·rename_i p e
   exact jfj ih (j:=k) (u:=p.1) (by rw [e]; rfl) (hwf p.1)
  ·exact ih
theorem spr_pre (k:Nat):∃ l,sprN wf hs r s (k + 1) = sprN wf hs r s k ++ l:=by
 rw [sprN]
 split
 ·exact visit_pre _ _
 ·exact ⟨[],(List.append_nil _).symm⟩
theorem spr_rest {k:Nat} (h:(sprN wf hs r s k).length ≤ k):∀ j,sprN wf hs r s (k + j) = sprN wf hs r s k
 | 0=>rfl
 | j + 1=>by
  have ih:=spr_rest h j
  show sprN wf hs r s (k + j + 1) = _
  rw [sprN,ih,List.getElem?_eq_none (by omega)]
theorem jl9:∀ {k:Nat} {i:Nat} {p:Int × Option Nat} {w:Nat},i < k→(sprN wf hs r s k)[i]? = some p→w ∈ wf p.1→0 < at' r w→at' hs w ∈ (sprN wf hs r s k).map (·.1)
 | k + 1,i,p,w,hi,hp,hw,h0=>by
  obtain ⟨l,e⟩:=spr_pre (wf:=wf) (hs:=hs) (r:=r) (s:=s) k
  by_cases c:i < (sprN wf hs r s k).length
  ·rw [e,List.getElem?_append_left c] at hp
   by_cases c2:i = k
   ·subst c2
    rw [sprN,hp]
    exact jio hw h0
   ·rw [e,List.map_append,List.mem_append]
    left
    exact jl9 (by omega) hp hw h0
  ·by_cases c3:(sprN wf hs r s k).length ≤ k
   ·have:=spr_rest c3 1
    rw [this,List.getElem?_eq_none (by omega)] at hp
    cases hp
   ·omega
end
end Fl
namespace Fl
def lk (cb:Cb) (v:Int):Option Nat:=(cb.find? fun p=>decide (p.1 = v)).bind (·.2)
theorem jrr {cb:Cb} (nd:(cb.map (·.1)).Nodup) {i:Nat} {v:Int} {o:Option Nat} (h:cb[i]? = some (v,o)):lk cb v = o:=by
 unfold lk
 induction cb generalizing i with
 | nil=>cases h
 | cons p cb ih =>
  rw [List.map_cons] at nd
  have nd':=List.nodup_cons.mp nd
  rw [List.find?_cons]
  cases i with
  | zero =>
   simp at h
   subst h
   simp
  | succ i =>
   simp at h
   have hm:v ∈ cb.map (·.1):=List.mem_map.mpr ⟨(v,o),List.mem_of_getElem? h,rfl⟩
   have hne:p.1 ≠ v:=fun z=>nd'.1 (z ▸ hm)
   rw [decide_eq_false hne]
   exact ih nd'.2 h
theorem jrq {cb:Cb} {v:Int} (h:v ∉ cb.map (·.1)):lk cb v = none:=by
 unfold lk
 rw [List.find?_eq_none.mpr fun p hp=>by
  rw [decide_eq_true_eq]
  exact fun z=>h (List.mem_map.mpr ⟨p,hp,z⟩)]
 rfl
def trailN (hs:List Int) (cb:Cb):Nat→Int→List Nat
 | 0,_=>[]
 | f + 1,v=>match lk cb v with
  | some w=>w :: trailN hs cb f (at' hs (mate w))
  | none=>[]
def key (cb:Cb) (i:Nat):Option Int:=cb[i]?.map (·.1)
theorem jru {cb:Cb} (nd:(cb.map (·.1)).Nodup) {i j:Nat} {v:Int} (h1:key cb i = some v) (h2:key cb j = some v):i = j:=by
 unfold key at h1 h2
 rw [← List.getElem?_map] at h1 h2
 obtain ⟨a,b⟩:=List.getElem?_eq_some_iff.mp h1
 obtain ⟨c,d⟩:=List.getElem?_eq_some_iff.mp h2
 exact (List.getElem_inj nd).mp (b.trans d.symm)
structure Good (hs r:List Int) (m:Nat) (cb:Cb) (i:Nat) (tr:List Nat):Prop where
 up:∀ w ∈ tr,w < 2 * m∧0 < at' r w∧∃ k j,j < k∧k ≤ i∧key cb k = some (at' hs w)∧key cb j = some (at' hs (mate w))
 nd:tr.Nodup
section
variable {hs r:List Int} {m:Nat} {s:Int} {cb:Cb}
theorem jgq (C:Cam hs r m s cb):∀ (i:Nat) (v:Int) (o:Option Nat),cb[i]? = some (v,o)→∀ f,i ≤ f→jq7 hs v (trailN hs cb f v) s∧Good hs r m cb i (trailN hs cb f v)∧(0 < i→trailN hs cb f v ≠ []):=by
 intro i
 induction i using Nat.strongRecOn with
 | ind i ih =>
  intro v o h f hf
  by_cases h0:i = 0
  ·subst h0
   have e:=C.first
   rw [h] at e
   have ho:o = none:=congrArg Prod.snd (Option.some.inj e)
   have hv:v = s:=congrArg Prod.fst (Option.some.inj e)
   have hl:=jrr C.nd h
   rw [ho] at hl
   have ht:trailN hs cb f v = []:=by
    cases f with
    | zero=>rfl
    | succ f=>unfold trailN; rw [hl]
   rw [ht]
   exact ⟨hv,⟨(fun w hw=>by cases hw),.nil⟩,fun z=>by omega⟩
  ·obtain ⟨w,rfl,h2,h3,h4,j,u,h5,h6,h7⟩:=C.came i v o h (by omega)
   have hl:=jrr C.nd h
   obtain ⟨f',rfl⟩:∃ f',f = f' + 1:=⟨f - 1,by omega⟩
   have ht:trailN hs cb (f' + 1) v = w :: trailN hs cb f' u:=by
    rw [trailN,hl]
    dsimp only
    rw [h7]
   obtain ⟨p,hp⟩:∃ p,cb[j]? = some p:=by
    cases e:cb[j]? with
    | none=>rw [e] at h6; cases h6
    | some p=>exact ⟨p,rfl⟩
   have hpu:p.1 = u:=by rw [hp] at h6; exact Option.some.inj h6
   obtain ⟨p1,p2⟩:=p
   dsimp only at hpu
   subst hpu
   obtain ⟨t1,t2,_⟩:=ih j h5 p1 p2 hp f' (by omega)
   rw [ht]
   have kv:key cb i = some v:=by unfold key; rw [h]; rfl
   refine ⟨⟨h4,by rw [h7]; exact t1⟩,⟨fun x hx=>?_,?_⟩,fun _=>by simp⟩
   ·rcases List.mem_cons.mp hx with rfl | hx
    ·exact ⟨h2,h3,i,j,h5,Nat.le_refl _,by rw [h4]; exact kv,by rw [h7]; exact h6⟩
    ·obtain ⟨a,b,k,l,c1,c2,c3,c4⟩:=t2.up x hx
     exact ⟨a,b,k,l,c1,by omega,c3,c4⟩
   ·refine List.nodup_cons.mpr ⟨fun hm=>?_,t2.nd⟩
    obtain ⟨a,b,k,l,c1,c2,c3,c4⟩:=t2.up w hm
    rw [h4] at c3
    have:=jru C.nd kv c3
    omega
structure Rooms (m:Nat) (cap:Nat→Int) (r:List Int):Prop where
 len:r.length = 2 * m
 pos:∀ j,0 ≤ at' r j
 two:∀ k,k < m→at' r (2 * k) + at' r (2 * k + 1) = cap k
theorem jot {l:List Nat} (nd:l.Nodup) (j:Nat):l.count j = if j ∈ l then 1 else 0:=by
 by_cases h:j ∈ l
 ·rw [if_pos h]
  have h1:=List.nodup_iff_count.mp nd j
  have h2:=List.count_pos_iff.mpr h
  omega
 ·rw [if_neg h]; exact List.count_eq_zero.mpr h
theorem Rooms.push {cap:Nat→Int} (R:Rooms m cap r) {tr:List Nat} (nd:tr.Nodup) (hw:∀ w ∈ tr,w < 2 * m) {a:Int} (ha:0 ≤ a) (hm:∀ w ∈ tr,a ≤ at' r w):Rooms m cap (push r tr a):=by
 refine ⟨by rw [push_len]; exact R.len,fun j=>?_,fun k hk=>?_⟩
 ·rw [jht j R.len hw,jot nd j]
  have h0:0 ≤ a * (tr.count (mate j):Int):=Int.mul_nonneg ha (Int.natCast_nonneg _)
  by_cases h:j ∈ tr
  ·rw [if_pos h]
   have:=hm j h
   show 0 ≤ at' r j - a * 1 + _
   omega
  ·rw [if_neg h]
   have:=R.pos j
   show 0 ≤ at' r j - a * 0 + _
   omega
 ·rw [jht _ R.len hw,jht _ R.len hw]
  have e1:mate (2 * k) = 2 * k + 1:=by unfold mate; rw [if_pos (by omega)]
  have e2:mate (2 * k + 1) = 2 * k:=by unfold mate; rw [if_neg (by omega)]; omega
  rw [e1,e2]
  have:=R.two k hk
  omega
end
end Fl
namespace Fl
structure Net (wf:Int→List Nat) (hs:List Int) (m n:Nat):Prop where
 len:hs.length = 2 * m
 from':∀ u,∀ w ∈ wf u,w < 2 * m∧at' hs (mate w) = u
 knot:∀ w,w < 2 * m→0 ≤ at' hs w∧at' hs w < n
 all:∀ w,w < 2 * m→w ∈ wf (at' hs (mate w))
def minR (r:List Int):List Nat→Int
 | []=>0
 | [w]=>at' r w
 | w :: x :: tr=>if minR r (x :: tr) < at' r w then minR r (x :: tr) else at' r w
theorem minR_le (r:List Int):∀ {tr:List Nat} {w:Nat},w ∈ tr→minR r tr ≤ at' r w
 | [],_,h=>by cases h
 | [x],w,h=>by rw [List.mem_singleton.mp h]; exact Int.le_refl _
 | y :: x :: tr,w,h=>by
  unfold minR
  rcases List.mem_cons.mp h with rfl | h
  ·split <;> omega
  ·have:=minR_le r h
   split <;> omega
theorem jlu (r:List Int):∀ {tr:List Nat},tr ≠ []→(∀ w ∈ tr,0 < at' r w)→0 < minR r tr
 | [],h,_=>absurd rfl h
 | [x],_,h=>h x (List.mem_singleton.mpr rfl)
 | y :: x :: tr,_,h=>by
  unfold minR
  have h1:=h y (List.mem_cons_self ..)
  have h2:=jlu r (tr:=x :: tr) (by simp) fun w hw=>h w (List.mem_cons_of_mem _ hw)
  split <;> omega
section
variable (wf:Int→List Nat) (hs:List Int) (n:Nat) (s t:Int)
def cbOf (r:List Int):Cb:=sprN wf hs r s n
def trOf (r:List Int):List Nat:=trailN hs (cbOf wf hs n s r) n t
def stp (r:List Int):Option (List Int):=if trOf wf hs n s t r = [] then none else some (push r (trOf wf hs n s t r) (minR r (trOf wf hs n s t r)))
inductive Runs:List Int→List Int→Prop
 | done (r:List Int):Runs r r
 | step {r r1 r':List Int}:stp wf hs n s t r = some r1→Runs r1 r'→Runs r r'
end
section
variable {wf:Int→List Nat} {hs:List Int} {n:Nat} {s t:Int}
theorem Runs.snoc {r r' r2:List Int} (h:Runs wf hs n s t r r') (e:stp wf hs n s t r' = some r2):Runs wf hs n s t r r2:=by
 induction h with
 | done r=>exact .step e (.done _)
 | step a _ ih=>exact .step a (ih e)
variable {m:Nat} {r:List Int}
theorem keys_in (N:Net wf hs m n) (hs0:0 ≤ s∧s < n) (k:Nat):∀ v:Int,v ∈ (sprN wf hs r s k).map (·.1)→0 ≤ v∧v < (n:Int):=fun v hv=>by
 obtain ⟨p,hp,rfl⟩:=List.mem_map.mp hv
 obtain ⟨i,hi,e⟩:=List.mem_iff_getElem.mp hp
 have C:=spr_cam (r:=r) (s:=s) N.from' k
 have he:(sprN wf hs r s k)[i]? = some p:=by rw [List.getElem?_eq_getElem hi,e]
 cases i with
 | zero =>
  have:=C.first
  rw [he] at this
  cases this
  exact hs0
 | succ i =>
  obtain ⟨w,_,h2,_,h4,_⟩:=C.came (i + 1) p.1 p.2 he (by omega)
  rw [← h4]
  exact N.knot w h2
theorem len_le {l:List Int} (nd:l.Nodup):∀ {n:Nat},(∀ v:Int,v ∈ l→0 ≤ v∧v < (n:Int))→l.length ≤ n:=fun {n} h=>by
 have h1:(l.map Int.toNat).Nodup:=by
  unfold List.Nodup at nd ⊢
  rw [List.pairwise_map]
  exact nd.imp_of_mem fun {a b} ha hb z e=>z (by have:=h a ha; have:=h b hb; omega)
 have h2:∀ x ∈ l.map Int.toNat,x ∈ List.range n:=fun x hx=>by
  obtain ⟨v,hv,rfl⟩:=List.mem_map.mp hx
  have:=h v hv
  exact List.mem_range.mpr (by omega)
 have h3:(l.map Int.toNat).length ≤ (List.range n).length:=by
  have key:∀ (a b:List Nat),a.Nodup→(∀ x ∈ a,x ∈ b)→a.length ≤ b.length:=by
   intro a
   induction a with
   | nil=>intro b _ _; exact Nat.zero_le _
   | cons x a ih =>
    intro b nd hb
    have nd':=List.nodup_cons.mp nd
    have hx:=hb x (List.mem_cons_self ..)
    have h4:=ih (b.erase x) nd'.2 fun y hy=>(List.mem_erase_of_ne (fun z:y = x=>nd'.1 (by rw [← z]; exact hy))).mpr (hb y (List.mem_cons_of_mem _ hy))
    rw [List.length_erase_of_mem hx] at h4
    have:=List.length_pos_of_mem hx
    rw [List.length_cons]
    omega
  exact key _ _ h1 h2
 rw [List.length_map,List.length_range] at h3
 exact h3
theorem cb_len (N:Net wf hs m n) (hs0:0 ≤ s∧s < n) (k:Nat):(sprN wf hs r s k).length ≤ n:=by
 have:=len_le (spr_cam (r:=r) (s:=s) N.from' k).nd (keys_in N hs0 k)
 rw [List.length_map] at this
 exact this
theorem cb_closed (N:Net wf hs m n) (hs0:0 ≤ s∧s < n) {w:Nat} (hw:w < 2 * m) (h0:0 < at' r w) (hf:at' hs (mate w) ∈ (cbOf wf hs n s r).map (·.1)):at' hs w ∈ (cbOf wf hs n s r).map (·.1):=by
 obtain ⟨p,hp,e⟩:=List.mem_map.mp hf
 obtain ⟨i,hi,e2⟩:=List.mem_iff_getElem.mp hp
 have:=cb_len (r:=r) N hs0 n
 unfold cbOf at hi
 exact jl9 (k:=n) (i:=i) (p:=p) (by omega) (by rw [List.getElem?_eq_getElem hi]; exact congrArg some e2) (by rw [e]; exact N.all w hw) h0
theorem s_in (N:Net wf hs m n):s ∈ (cbOf wf hs n s r).map (·.1):=by
 have:=(spr_cam (r:=r) (s:=s) N.from' n).first
 exact List.mem_map.mpr ⟨_,List.mem_of_getElem? this,rfl⟩
theorem t_out (N:Net wf hs m n) (hst:s ≠ t) (hs0:0 ≤ s∧s < n) (h:stp wf hs n s t r = none):t ∉ (cbOf wf hs n s r).map (·.1):=fun ht=>by
 obtain ⟨p,hp,e⟩:=List.mem_map.mp ht
 obtain ⟨i,hi,e2⟩:=List.mem_iff_getElem.mp hp
 have C:=spr_cam (r:=r) (s:=s) N.from' n
 have he:(sprN wf hs r s n)[i]? = some (t,p.2):=by
  unfold cbOf at hi e2
  rw [List.getElem?_eq_getElem hi,e2,← e]
 have hn:trOf wf hs n s t r = []:=by
  unfold stp at h
  split at h
  ·assumption
  ·cases h
 have hl:=cb_len (r:=r) N hs0 n
 unfold cbOf at hi
 have G:=jgq C i t p.2 he n (by omega)
 by_cases h0:i = 0
 ·subst h0
  have:=C.first
  rw [he] at this
  have:=congrArg Prod.fst (Option.some.inj this)
  exact hst this.symm
 ·exact G.2.2 (by omega) hn
end
end Fl
namespace Fl
section
variable {wf:Int→List Nat} {hs:List Int} {m n:Nat} {s t:Int} {r:List Int} {cap:Nat→Int}
theorem tr_in (N:Net wf hs m n) (hst:s ≠ t) (hs0:0 ≤ s∧s < (n:Int)) (h:trOf wf hs n s t r ≠ []):jq7 hs t (trOf wf hs n s t r) s∧∃ i,Good hs r m (cbOf wf hs n s r) i (trOf wf hs n s t r):=by
 have C:=spr_cam (r:=r) (s:=s) N.from' n
 by_cases ht:t ∈ (cbOf wf hs n s r).map (·.1)
 ·obtain ⟨p,hp,e⟩:=List.mem_map.mp ht
  obtain ⟨i,hi,e2⟩:=List.mem_iff_getElem.mp hp
  have he:(sprN wf hs r s n)[i]? = some (t,p.2):=by
   unfold cbOf at hi e2
   rw [List.getElem?_eq_getElem hi,e2,← e]
  have hl:=cb_len (r:=r) N hs0 n
  unfold cbOf at hi
  have G:=jgq C i t p.2 he n (by omega)
  exact ⟨G.1,i,G.2.1⟩
 ·refine absurd ?_ h
  unfold trOf
  cases n with
  | zero=>rfl
  | succ k=>rw [trailN,jrq ht]
theorem step_keeps (N:Net wf hs m n) (hst:s ≠ t) (hs0:0 ≤ s∧s < (n:Int)) (R:Rooms m cap r) {r1:List Int} (h:stp wf hs n s t r = some r1):Rooms m cap r1∧(∀ v,v ≠ s→v ≠ t→ex hs m r1 v = ex hs m r v)∧ex hs m r t + 1 ≤ ex hs m r1 t:=by
 unfold stp at h
 split at h
 ·cases h
 ·rename_i hne
  cases h
  obtain ⟨T,i,G⟩:=tr_in N hst hs0 hne
  have hw:∀ w ∈ trOf wf hs n s t r,w < 2 * m:=fun w hw=>(G.up w hw).1
  have hp:=jlu r hne fun w hw=>(G.up w hw).2.1
  have E:=fun v=>jol (a:=minR r (trOf wf hs n s t r)) v R.len hw T
  refine ⟨R.push G.nd hw (by omega) fun w hw=>minR_le r hw,fun v h1 h2=>?_,?_⟩
  ·rw [E v,pick_ne (fun z=>h2 z.symm),pick_ne (fun z=>h1 z.symm)]
   omega
  ·rw [E t,pick_same,pick_ne hst]
   omega
def capSum (cap:Nat→Int) (m:Nat):Int:=((List.range m).map cap).sum
theorem sum_le {α:Type} {f g:α→Int}:∀ {l:List α},(∀ p ∈ l,f p ≤ g p)→(l.map f).sum ≤ (l.map g).sum
 | [],_=>Int.le_refl _
 | a :: l,h=>by
  rw [List.map_cons,List.map_cons,List.sum_cons,List.sum_cons]
  have:=h a (List.mem_cons_self ..)
  have:=sum_le fun p hp=>h p (List.mem_cons_of_mem _ hp)
  omega
theorem ex_le (R:Rooms m cap r) (v:Int):ex hs m r v ≤ capSum cap m:=by
 unfold ex capSum
 refine sum_le fun k hk=>?_
 have h1:=R.pos (2 * k + 1)
 have h2:=R.pos (2 * k)
 have h3:=R.two k (List.mem_range.mp hk)
 unfold pick
 split <;> split <;> omega
theorem runs_keep (N:Net wf hs m n) (hst:s ≠ t) (hs0:0 ≤ s∧s < (n:Int)) {r':List Int} (h:Runs wf hs n s t r r'):Rooms m cap r→Rooms m cap r'∧∀ v,v ≠ s→v ≠ t→ex hs m r' v = ex hs m r v:=by
 induction h with
 | done r=>exact fun R=>⟨R,fun _ _ _=>rfl⟩
 | step e _ ih =>
  intro R
  obtain ⟨R1,E1,_⟩:=step_keeps N hst hs0 R e
  obtain ⟨R2,E2⟩:=ih R1
  exact ⟨R2,fun v h1 h2=>(E2 v h1 h2).trans (E1 v h1 h2)⟩
end
end Fl
namespace Fl
theorem sum_range_add (g:Nat→Int) (a:Nat):∀ b,((List.range (a + b)).map g).sum = ((List.range a).map g).sum + ((List.range b).map fun k=>g (a + k)).sum
 | 0=>by show _ = _ + 0; rw [Int.add_zero]; rfl
 | b + 1=>by
  rw [← Nat.add_assoc,List.range_succ,List.map_append,List.sum_append,sum_range_add g a b,List.range_succ,List.map_append,List.sum_append]
  show _ + (g (a + b) + 0) = _ + (_ + (g (a + b) + 0))
  omega
theorem sum_range_one (g:Nat→Int) {n i:Nat} (hi:i < n) (h:∀ k,k < n→k ≠ i→g k = 0):((List.range n).map g).sum = g i:=by
 have h1:((List.range n).map g).sum = ((List.range n).map fun k=>if k = i then g i else 0).sum:=sum_congr fun k hk=>by
  by_cases c:k = i
  ·rw [if_pos c,c]
  ·rw [if_neg c]; exact h k (List.mem_range.mp hk) c
 have h2:=jdd (g:=fun _=>0) (g':=fun k=>if k = i then g i else 0) hi fun k hk=>if_neg hk
 rw [h1,h2,sum_zero,if_pos rfl]
 omega
section
variable {ns:List Int} {ts:List (Int × Int)} {sp:Int→Int} {hs r:List Int}
theorem getD_at {l:List (Int × Int)} {j:Nat} (h:j < l.length):l[j]? = some (l.getD j (0,0)):=by
 rw [List.getD_eq_getElem?_getD,List.getElem?_eq_getElem h]; rfl
theorem pick_iff {a b c d v:Int} (h:a = b ↔ c = d):pick a b v = pick c d v:=by
 unfold pick
 by_cases x:a = b
 ·rw [if_pos x,if_pos (h.mp x)]
 ·rw [if_neg x,if_neg fun z=>x (h.mpr z)]
end
end Fl
namespace Fl
section
variable {ns:List Int} {ts:List (Int × Int)} {sp:Int→Int} {hs r:List Int} {wf:Int→List Nat} {pr:Int→Int} {cap:Nat→Int}
def arcs (ns:List Int) (ts:List (Int × Int)):Nat:=ns.length + ns.length + 2 * ts.length
theorem le_sum {α:Type} {f:α→Int}:∀ {l:List α},(∀ p ∈ l,0 ≤ f p)→∀ p ∈ l,f p ≤ (l.map f).sum
 | [],_,p,h=>by cases h
 | a :: l,h0,p,h=>by
  rw [List.map_cons,List.sum_cons]
  have ha:=h0 a (List.mem_cons_self ..)
  have hl:0 ≤ (l.map f).sum:=by
   have:=sum_le (f:=fun _=>0) (g:=f) (l:=l) fun q hq=>h0 q (List.mem_cons_of_mem _ hq)
   rw [sum_zero] at this
   exact this
  rcases List.mem_cons.mp h with rfl | h
  ·omega
  ·have:=le_sum (fun q hq=>h0 q (List.mem_cons_of_mem _ hq)) p h
   omega
end
end Fl
namespace Fl
abbrev Arc:=Int × Int × Int
def hsA:List Arc→List Int
 | []=>[]
 | a :: r=>a.2.1 :: a.1 :: hsA r
def rmA:List Arc→List Int
 | []=>[]
 | a :: r=>a.2.2 :: 0 :: rmA r
def capA (as:List Arc) (k:Nat):Int:=(as.getD k (0,0,0)).2.2
theorem hsA_len:∀ as:List Arc,(hsA as).length = 2 * as.length
 | []=>rfl
 | a :: r=>by rw [hsA,List.length_cons,List.length_cons,hsA_len r,List.length_cons]; omega
theorem rmA_len:∀ as:List Arc,(rmA as).length = 2 * as.length
 | []=>rfl
 | a :: r=>by rw [rmA,List.length_cons,List.length_cons,rmA_len r,List.length_cons]; omega
theorem jfi (x y:Int) (l:List Int) (i:Nat):at' (x :: y :: l) (i + 2) = at' l i:=rfl
theorem hsA_even:∀ (as:List Arc) (i:Nat),at' (hsA as) (2 * i) = (as.getD i (0,0,0)).2.1
 | [],i=>by simp [hsA,at']
 | a :: r,0=>rfl
 | a :: r,i + 1=>by rw [show 2 * (i + 1) = 2 * i + 2 by omega,hsA,jfi,hsA_even r i]; rfl
theorem hsA_odd:∀ (as:List Arc) (i:Nat),at' (hsA as) (2 * i + 1) = (as.getD i (0,0,0)).1
 | [],i=>by simp [hsA,at']
 | a :: r,0=>rfl
 | a :: r,i + 1=>by rw [show 2 * (i + 1) + 1 = (2 * i + 1) + 2 by omega,hsA,jfi,hsA_odd r i]; rfl
theorem jhp:∀ (as:List Arc) (i:Nat),at' (rmA as) (2 * i) = capA as i
 | [],i=>by simp [rmA,at',capA]
 | a :: r,0=>rfl
 | a :: r,i + 1=>by rw [show 2 * (i + 1) = 2 * i + 2 by omega,rmA,jfi,jhp r i]; rfl
theorem jho:∀ (as:List Arc) (i:Nat),at' (rmA as) (2 * i + 1) = 0
 | [],i=>by simp [rmA,at']
 | a :: r,0=>rfl
 | a :: r,i + 1=>by rw [show 2 * (i + 1) + 1 = (2 * i + 1) + 2 by omega,rmA,jfi,jho r i]
def wfA (as:List Arc) (u:Int):List Nat:=(List.range (2 * as.length)).filter fun w=>decide (at' (hsA as) (mate w) = u)
theorem mate_two (k:Nat):mate (2 * k) = 2 * k + 1:=by unfold mate; rw [if_pos (by omega)]
theorem mate_two1 (k:Nat):mate (2 * k + 1) = 2 * k:=by unfold mate; rw [if_neg (by omega)]; omega
theorem ji8 {α:Type} {l:List α} {i:Nat} (d:α) (h:i < l.length):l.getD i d ∈ l:=by
 rw [List.getD_eq_getElem?_getD,List.getElem?_eq_getElem h]
 exact List.getElem_mem h
theorem net_of {as:List Arc} {n:Nat} (h:∀ a ∈ as,(0 ≤ a.1∧a.1 < (n:Int))∧0 ≤ a.2.1∧a.2.1 < (n:Int)):Net (wfA as) (hsA as) as.length n:=by
 refine ⟨hsA_len as,fun u w hw=>?_,fun w hw=>?_,fun w hw=>?_⟩
 ·have hw:=List.mem_filter.mp hw
  exact ⟨List.mem_range.mp hw.1,of_decide_eq_true hw.2⟩
 ·by_cases c:w % 2 = 0
  ·have e:w = 2 * (w / 2):=by omega
   have hk:w / 2 < as.length:=by omega
   rw [e,hsA_even]
   exact (h _ (ji8 _ hk)).2
  ·have e:w = 2 * (w / 2) + 1:=by omega
   have hk:w / 2 < as.length:=by omega
   rw [e,hsA_odd]
   exact (h _ (ji8 _ hk)).1
 ·exact List.mem_filter.mpr ⟨List.mem_range.mpr hw,decide_eq_true rfl⟩
theorem rooms0 {as:List Arc} (h:∀ a ∈ as,0 ≤ a.2.2):Rooms as.length (capA as) (rmA as):=by
 refine ⟨rmA_len as,fun j=>?_,fun k hk=>?_⟩
 ·by_cases c:j % 2 = 0
  ·rw [show j = 2 * (j / 2) by omega,jhp]
   unfold capA
   by_cases hk:j / 2 < as.length
   ·exact h _ (ji8 _ hk)
   ·rw [List.getD_eq_getElem?_getD,List.getElem?_eq_none (by omega)]
    exact Int.le_refl _
  ·rw [show j = 2 * (j / 2) + 1 by omega,jho]
   exact Int.le_refl _
 ·rw [jhp,jho]; omega
theorem ex0 (as:List Arc) (hs:List Int) (m:Nat) (v:Int):ex hs m (rmA as) v = 0:=by
 unfold ex
 rw [← sum_zero (List.range m)]
 refine sum_congr fun k _=>?_
 rw [jho]
 unfold pick
 split <;> split <;> rfl
theorem hsA_snoc:∀ (as:List Arc) (a:Arc),hsA (as ++ [a]) = hsA as ++ [a.2.1,a.1]
 | [],a=>rfl
 | b :: r,a=>by rw [List.cons_append,hsA,hsA_snoc r a,hsA]; rfl
theorem rmA_snoc:∀ (as:List Arc) (a:Arc),rmA (as ++ [a]) = rmA as ++ [a.2.2,0]
 | [],a=>rfl
 | b :: r,a=>by rw [List.cons_append,rmA,rmA_snoc r a,rmA]; rfl
theorem at_app {l l':List Int} {i:Nat} (h:i < l.length):at' (l ++ l') i = at' l i:=by
 unfold at'
 rw [List.getD_eq_getElem?_getD,List.getD_eq_getElem?_getD,List.getElem?_append_left h]
theorem wfA_snoc (as:List Arc) (a:Arc) (u:Int):wfA (as ++ [a]) u = (wfA as u ++ (if a.1 = u then [2 * as.length] else [])) ++ (if a.2.1 = u then [2 * as.length + 1] else []):=by
 unfold wfA
 rw [List.length_append,List.length_singleton,show 2 * (as.length + 1) = 2 * as.length + 1 + 1 by omega,List.range_succ,List.filter_append,List.range_succ,List.filter_append]
 have e1:at' (hsA (as ++ [a])) (mate (2 * as.length)) = a.1:=by
  rw [mate_two,hsA_odd,List.getD_eq_getElem?_getD,List.getElem?_append_right (Nat.le_refl _),Nat.sub_self]; rfl
 have e2:at' (hsA (as ++ [a])) (mate (2 * as.length + 1)) = a.2.1:=by
  rw [mate_two1,hsA_even,List.getD_eq_getElem?_getD,List.getElem?_append_right (Nat.le_refl _),Nat.sub_self]; rfl
 congr 1
 ·congr 1
  ·refine List.filter_congr fun w hw=>?_
   rw [hsA_snoc,at_app]
   rw [hsA_len]
   exact mate_lt (List.mem_range.mp hw)
  ·rw [List.filter_cons,e1]
   by_cases c:a.1 = u
   ·rw [if_pos c,if_pos (decide_eq_true c)]; rfl
   ·rw [if_neg c,if_neg (by simp [c])]; rfl
 ·rw [List.filter_cons,e2]
  by_cases c:a.2.1 = u
  ·rw [if_pos c,if_pos (decide_eq_true c)]; rfl
  ·rw [if_neg c,if_neg (by simp [c])]; rfl
section
variable {sp:Int→Int} {pl:Int} {ps ts:List (Int × Int)}
end
end Fl
namespace L2
open PySem PySem.Spec PyProof.Rows
def TrD (h B:Heap) (x:Addr) (cl:Value) (dd:Option Addr) (fl:Value):Prop :=
 ∃ ox ws T oT ts,h.get? x = some ox∧ox.cls = cl∧ox.dict = dd∧ox.data = .fields ws∧ws[1]? = some (.ref T)∧B.get? T = none∧T ≠ x∧h.get? T = some oT∧oT.data = .fields ts∧ts[3]? = some fl∧(dd ≠ none→ws[2]? = some .none)
structure FlyD (B:Heap) (l:List Env) (x:Addr) (cl:Value) (dd:Option Addr) (fl:Value) (h:Heap):Prop where
 stays:B.StaysIn h
 new:B.get? x = none
 funs:h.FunFrames B l
 tr:TrD h B x cl dd fl
theorem FlyD.there {B:Heap} {l:List Env} {x:Addr} {cl:Value} {dd:Option Addr} {fl:Value} {h:Heap} (f:FlyD B l x cl dd fl h):∃ ox ws,h.get? x = some ox∧ox.cls = cl∧ox.dict = dd∧ox.data = .fields ws:=by
 obtain ⟨ox,ws,_,_,_,h1,h2,h3,h4,_⟩:=f.tr
 exact ⟨ox,ws,h1,h2,h3,h4⟩
section
variable {M:Model} {A:Around} {E:Value→Shared→Prop} {s:Shared} {B:Heap} {env:Env} {l:List Env} {L x:Addr} {cl:Value} {dd:Option Addr} {Q:Unit→Shared→Prop}
end
end L2
namespace L2
open PySem PySem.Spec PyProof.Rows
structure Df (X:Cx):Prop where
 stk:X.stack = X.env :: X.outer
 fr:X.env.frame = some X.env.locals
 ex:X.ex = []
 fn:∀ x,X.fn x = true
structure Cov (X:Cx) (B:Heap) (H:Hp) (h:Heap):Prop where
 tr:∀ b o,H b = some o→∃ q,h.get? b = some q∧B.get? b = some q
 old:∀ b o,X.s₀.heap.get? b = some o→b ∉ frs X.stack→∃ q,h.get? b = some q∧B.get? b = some q
 pin:∀ p ∈ X.pn,B.get? p.1 = some p.2
 cel:∀ x c,X.env.cells.lookup x = some c→∃ q,h.get? c = some q∧B.get? c = some q
section
variable {X:Cx} {σ:St} {H:Hp} {s:Shared} {B h':Heap}
end
inductive Md (B:Heap) (l:List Env) (L x:Addr) (cl:Value) (dd:Option Addr) (h:Heap):Prop where
 | new {ox:Obj} {ws:Array Value}:h.get? x = some ox→ox.cls = cl→ox.dict = dd→ox.data = .fields ws→ws[1]? = some .none→(dd ≠ none→ws[2]? = some .none)→B.StaysIn h→B.get? x = none→h.FunFrames B l→Md B l L x cl dd h
 | fly:FlyD B l x cl dd .none h→Md B l L x cl dd h
 | held:FlyD B l x cl dd (rawInt L) h→Md B l L x cl dd h
theorem Md.stays {B:Heap} {l:List Env} {L x:Addr} {cl:Value} {dd:Option Addr} {h:Heap} (m:Md B l L x cl dd h):B.StaysIn h:=by
 cases m with
 | new _ _ _ _ _ _ s _ _=>exact s
 | fly f=>exact f.stays
 | held f=>exact f.stays
def XT (X:Cx) (EX:St→XK):Value→Shared→Prop:=fun e s'=>∃ (x:Addr) (cl:Value) (dd:Option Addr) (σ:St) (H:Hp) (B:Heap),e = .ref x∧Inv X [] σ H s'∧H x = none∧X.s₀.heap.objs.size ≤ x∧Cov X B H s'.heap∧EX σ cl dd H∧Md B X.stack X.env.locals x cl dd s'.heap
def Cx.tr (X:Cx) (pins:List (Addr × Obj)) (EX:St→XK):Cx:={ X with pn:=X.pn ++ pins,xe:=XT { X with pn:=X.pn ++ pins } EX }
theorem Cx.Ok.pn {X:Cx} (ok:X.Ok) (pn:List (Addr × Obj)) (E:Value→Shared→Prop):({ X with pn:=pn,xe:=E }:Cx).Ok :=
 ⟨ok.mod,ok.kind,ok.glob,ok.blt,ok.above,ok.inj,ok.has,ok.cab,ok.hd,ok.frames,ok.stk,ok.exf,ok.bs,ok.bsz,ok.noex,ok.exfs,ok.funs,ok.frf⟩
theorem Inv.tr {X:Cx} {pins:List (Addr × Obj)} {σ:St} {H:Hp} {s:Shared} (I:Inv X pins σ H s) (EX:St→XK):Inv (X.tr pins EX) [] σ H s :=
 ⟨I.ok.pn _ _,I.os,I.bare,I.base,I.loc,I.cell,I.free,I.freeC,fun p hp=>I.pin p (by
  have:p ∈ (X.pn ++ pins) ++ []:=hp
  simpa using this),I.hok,I.len⟩
theorem Df.tr {X:Cx} (d:Df X) (pins:List (Addr × Obj)) (EX:St→XK):Df (X.tr pins EX):=⟨d.stk,d.fr,d.ex,d.fn⟩
end L2
namespace L2
open PySem PySem.Spec PyProof.Rows
section
variable {X:Cx} {CX:CXT} {k:Nat} {f:Addr} {fd:FuncData} {ps:List Str} {sp:Sp} {EX:St→XK} {x:Str} {p pos:Pos} {e:Expr} {es:List Expr} {t:TA} {ds:List Value} {dvs:List V}
end
section
variable {P:Program} {w:World} {K:PySem.W.Frag} {mg:Str→Option Value} {base:Heap}
end
section
variable {prog:Program} {w:World} {A:Around} {E:Value→Shared→Prop} {h:Heap} {g:Array GenState} {d:Drawn} {t:Nat} {os:OsState}
variable {nm q:Str} {C N:Addr} {bs bm bmB:List Value} {hdct:Bool} {sn:List Str} {sub:List Value} {ab:Bool} {col:Option Bool} {dd:Option Addr} {k0 k1 k2 k3 k5:Option Value} {B newId initId:String}
end
end L2
namespace L2
open PySem PySem.Spec PyProof.Rows Builtin Builtin.ObjectAttr
section
variable {prog:Program} {w:World} {A:Around} {E:Value→Shared→Prop} {h:Heap} {g:Array GenState} {d:Drawn} {t:Nat} {os:OsState} {C:Addr} {bmB:List Value} {B newId initId:String}
end
def jqn:Value→Bool
 | .ref _=>true
 | _=>false
theorem jqn.ex {v:Value} (h:jqn v = true):∃ a,v = .ref a:=by
 cases v <;> first | exact ⟨_,rfl⟩ | cases h
section
variable {prog:Program} {w:World} {A:Around} {E:Value→Shared→Prop} {s:Shared} {K:PySem.W.Frag} {x C t0:Addr} {dz:Option Addr} {name:Str} {v:Value} {Q:Unit→Shared→Prop}
end
end L2
namespace L2
open PySem PySem.Spec PyProof.Rows
section
variable {P:Program} {w:World} {H:Hp} {h:Heap} {a C:Addr} {dd:Option Addr} {fs:List (Str × V)}
end
section
variable {X:Cx} {pins:List (Addr × Obj)} {σ:St} {H:Hp} {s:Shared} {h':Heap} {x dx:Addr} {φ:Heap→Prop} {o1 o2:HO} {t':Nat}
end
section
variable {X:Cx} {o value e:Expr} {es:List Expr} {f x:Str} {p pos pos' apos:Pos} {ta tv:TE} {t:TA} {C T:Addr} {bmB:List Value} {B newId initId:String} {fI:Addr}
end
end L2
namespace L2
open PySem PySem.Spec PyProof.Rows
def del (H:Hp) (x:Addr):Hp:=fun b=>if b = x then none else H b
theorem jq3 {H:Hp} {x:Addr}:del H x x = none:=if_pos rfl
theorem jqw {H:Hp} {x b:Addr} (n:b ≠ x):del H x b = H b:=if_neg n
theorem jfg {H:Hp} {x b:Addr} (h:H b = none):del H x b = none:=by
 unfold del
 split
 ·rfl
 ·exact h
theorem Inv.drop {X:Cx} {pins:List (Addr × Obj)} {σ:St} {H:Hp} {s:Shared} {x:Addr} {φ:Heap→Prop} (I:Inv X pins σ H s) (hx:H x = some (.ext φ)):Inv X pins σ (del H x) s:=by
 have kp:∀ b u,H b = some u→(∀ ψ,u ≠ .ext ψ)→del H x b = some u:=fun b u e n=>by
  rw [jqw fun z=>by rw [z,hx] at e; exact n φ (Option.some.inj e).symm]; exact e
 refine ⟨I.ok,I.os,I.bare,⟨I.base.keep,I.base.slot,fun b o e n hb=>jfg (I.base.free b o e n hb),I.base.there,fun b xs e=>kp b _ (I.base.tups b xs e) (fun ψ z=>by cases z),fun b o u e=>kp b _ (I.base.frzs b o u e) (fun ψ z=>by cases z),fun b ps e=>?_⟩,I.loc,I.cell,jfg I.free,fun y c e=>jfg (I.freeC y c e),
  fun p hp=>let ⟨a,b,c⟩:=I.pin p hp; ⟨a,jfg b,c⟩,fun b u e=>?_,I.len⟩
 ·obtain ⟨m,e'⟩:=I.base.tbls b ps e
  exact ⟨m,kp b _ e' (fun ψ z=>by cases z)⟩
 ·have nb:b ≠ x:=fun z=>by rw [z,jq3] at e; cases e
  rw [jqw nb] at e
  exact (I.hok b u e).stay (fun _ _ _ q=>q) (fun c z=>kp c _ z (fun ψ y=>by cases y)) fun c xs z=>kp c _ z (fun ψ y=>by cases y)
section
variable {X:Cx} {EX:St→XK} {k:Nat} {fI C:Addr} {fd:FuncData} {ps:List Str} {sp:Sp} {x:Str} {p cpos pos:Pos} {e:Expr} {es:List Expr} {t:TA} {bmB:List Value} {B newId initId:String}
end
end L2
namespace L2
open PySem PySem.Spec PyProof.Rows
section
variable {X:Cx} {pins:List (Addr × Obj)} {σ:St} {H:Hp} {s:Shared} {x:Addr} {o:HO}
end
section
variable {X:Cx} {x n:Str} {np hpos pos:Pos} {body suite:List Stmt} {b0:Stmt} {C:Addr} {mt:Value→Prop} {i:Nat} {tb:(St→XK)→TS} {th:TS}
end
end L2
namespace L2
open PySem PySem.Spec PyProof.Rows
section
variable {X:Cx} {C dx a:Addr} {fs:List (Str × V)} {H:Hp} {s:Shared}
end
end L2
namespace L2
open PySem PySem.Spec PyProof.Rows Builtin Builtin.ObjectAttr
structure XG (K:PySem.W.Frag) (C:Addr):Prop where
 ga:PySem.W.findIn K (.ref C) "__getattribute__" = some (some (.builtin "BaseException.__getattribute__"))
 gt:PySem.W.findIn K (.ref C) "__getattr__" = some none
 sub:PySem.W.mroIn K C (.type "BaseException") = some true
section
variable {prog:Program} {w:World} {A:Around} {E:Value→Shared→Prop} {s:Shared} {K:PySem.W.Frag} {x C:Addr} {ox:Obj} {od:Option Obj} {name:Str} {v:Value}
end
structure XY (K:PySem.W.Frag) (C:Addr):Prop where
 g:XG K C
 hd:PySem.W.hasDictIn K C = true
 ha:PySem.W.findIn K (.ref C) "__class__" = some (some (.builtin "object.__class__"))
 hn:PySem.W.specialIn K (.builtin "object.__class__") "__get__" = some (some (.builtin "getset_descriptor.__get__"))
 ht:PySem.W.takesIn K (.builtin "object.__class__") = some true
 hm:PySem.W.mroIn K C (.type "object") = some true
theorem XY.cls {K:PySem.W.Frag} {C:Addr} (y:XY K C):∃ c d cd sl,K.lookup C = some ⟨c,d,.cls cd,sl⟩:=by
 obtain ⟨cd,hc,_⟩:=PySem.W.any_some y.hd
 unfold PySem.W.clsIn at hc
 split at hc
 ·rename_i ho
  exact ⟨_,_,_,_,ho⟩
 ·cases hc
section
variable {X:Cx} {C dx a:Addr} {fs:List (Str × V)} {H:Hp} {s:Shared}
end
end L2
namespace L2
open PySem PySem.Spec PyProof.Rows
section
variable {X:Cx}
end
end L2
namespace L2
open PySem PySem.Spec PyProof.Rows
structure RoomH (k:Nat) (A:Around):Prop where
 dp:A.depth + 3 * k + 5 < recursionLimit
 un:A.units + 16 * k + 200 < cLine
theorem Room.h {j k:Nat} {A:Around} (r:Room k A) (h:j ≤ k):RoomH j A:=⟨(r.mono h).dp,(r.mono h).un⟩
theorem Room.hm {j k:Nat} {A:Around} {o:Option Value} (r:Room k A) (h:j ≤ k):RoomH j (A.mark o):=⟨(r.mono h).dp,(r.mono h).un⟩
theorem RoomH.mono {j k:Nat} {A:Around} (r:RoomH k A) (h:j ≤ k):RoomH j A:=⟨by have:=r.dp; omega,by have:=r.un; omega⟩
section
variable {P:Program} {w:World} {K:PySem.W.Frag} {mg:Str→Option Value} {base:Heap}
end
section
variable {X:Cx} {k:Nat} {f:Addr} {fd:FuncData} {ps:List Str} {sp:Sp} {x:Str} {p pos:Pos} {e:Expr} {es:List Expr} {t:TA}
end
section
variable {X:Cx} {C:Addr}
end
end L2
namespace L2
open PySem PySem.Spec PyProof.Rows
section
variable {X:Cx} {x n:Str} {np hpos pos:Pos} {body suite:List Stmt} {b0:Stmt} {C:Addr} {mt:Value→Prop} {tb:(St→XK)→TS} {th:TS}
end
end L2
namespace L2
open PySem PySem.Spec PyProof.Rows
section
variable {prog:Program} {w:World} {A:Around} {E:Value→Shared→Prop} {s:Shared} {C a:Addr} {bmB:List Value} {newId:String}
end
section
variable {prog:Program} {w:World} {A:Around} {E:Value→Shared→Prop} {h:Heap} {g:Array GenState} {d:Drawn} {t:Nat} {os:OsState}
variable {C:Addr} {bmB:List Value} {B newId initId:String}
end
section
variable {X:Cx} {x y:Str} {np hpos pos p cpos rpos cp:Pos} {kk:Nat} {body:List Stmt} {C D':Addr} {mt:Value→Prop} {tb:(St→XK)→TS} {EX:St→XK} {e:Expr} {es:List Expr} {t:TA} {bmB:List Value} {B newId initId:String}
end
end L2
namespace L2
open PySem PySem.Spec PyProof.Rows
open PySem.Builtin.ObjectAttr
section
variable {X:Cx} {C a:Addr} {H:Hp} {s:Shared}
end
end L2
namespace L2
open PySem PySem.Spec PyProof.Rows
section
variable {X:Cx}
end
end L2
namespace L2
open PySem PySem.Spec PyProof.Rows
theorem jbd {a b:TS} {D:Ends} {σ:St} {H:Hp} (h:∀ R,R = b→tSeq a R D σ H):tSeq a b D σ H:=h b rfl
theorem tFor_hideI {ι:Type} {wi:TI} {g:TG} {tb:TS} {D:Ends} {σ:St} {H:Hp} (J:ι→It) (H1:ι→Hp) (ok:ι→Prop) (h1:∀ R:It→Hp→Prop,(∀ i,ok i→R (J i) (H1 i))→wi σ H R)
  (h2:∀ i0,ok i0→∃ W:Nat→Nat→St→Hp→Prop,(∃ m,W 0 m σ (H1 i0))∧∀ i m σ H,W i m σ H→((J i0).stop i H∧D.nx σ H) ∨ ((J i0).go i H∧∃ N:St→Hp→Prop,(∀ σ' H',N σ' H'→∃ m',m' < m∧W (i + 1) m' σ' H')∧∀ x H',(J i0).yld i H x H'→g x σ H' fun σ2 H2=>tb { D with nx:=N,ct:=N,bk:=D.nx } σ2 H2)) :
  tFor wi g tb D σ H:=h1 _ h2
section
variable {X:Cx}
end
end L2
namespace So
open PySem PyProof.Rows
section
variable {prog:Program} {w:World} {A:Around} {E:Value→Shared→Prop} {s:Shared}
section
variable {prog:Program} {w:World} {A:Around} {E:Value→Shared→Prop} {s:Shared} {R:Keyed→Int} {κ:SortKind} {a₀:Array Keyed} {pd:Array (Nat × Nat × Nat)}
end
section
variable {prog:Program} {w:World} {A:Around} {E:Value→Shared→Prop} {s:Shared}
end
end
end So
namespace L2
open PySem PySem.Spec PyProof.Rows
end L2
namespace So
open PySem PySem.Spec PyProof.Rows
section
variable {prog:Program} {w:World} {s:Shared}
end
end So
namespace L2
open PySem PySem.Spec PyProof.Rows
def Tp (H:Hp) (v:V) (p:Int × Int × Int):Prop:=∃ a,v = .ref a∧H a = some (.tup [.int p.1,.int p.2.1,.int p.2.2])
abbrev Tps (H:Hp) (xs:List V) (ps:List (Int × Int × Int)):Prop:=Paired (Tp H) xs ps
end L2
namespace L2
open PySem PySem.Spec PyProof.Rows
section
variable {X:Cx}
end
end L2
namespace L2
open PySem PySem.Spec PyProof.Rows
end L2
namespace L2
open PySem PySem.Spec PyProof.Rows
section
variable {prog:Program} {w:World} {A:Around} {E:Value→Shared→Prop} {s:Shared}
end
end L2
namespace L2
open PySem PySem.Spec PyProof.Rows
section
variable {prog:Program} {w:World} {A:Around} {E:Value→Shared→Prop} {R:Result→Shared→Prop}
end
end L2
namespace L2
open PySem PySem.Spec PyProof.Rows
end L2
namespace L2
open PySem PySem.Spec PyProof.Rows
section
variable {prog:Program} {w:World} {A:Around} {R:Result→Shared→Prop} {I:Addr} {fp wr:List Addr} {n:Nat} {P:Nat→Value→Prop} {St:Nat→Heap→Prop}
def jk0 (val:Nat→Int) (n:Nat) (m:Int):Prop:=(∃ i,i < n∧m = val i)∧∀ i,i < n→m ≤ val i
theorem jk0.up {val:Nat→Int} {j:Nat} {m:Int} (h:jk0 val j m) (hb:val j < m):jk0 val (j + 1) (val j) :=
 ⟨⟨j,Nat.lt_succ_self _,rfl⟩,fun i hi=>by
  rcases Nat.lt_succ_iff_lt_or_eq.mp hi with z | z
  ·have:=h.2 i z; omega
  ·rw [z]; exact Int.le_refl _⟩
theorem jk0.keep {val:Nat→Int} {j:Nat} {m:Int} (h:jk0 val j m) (hb:¬ val j < m):jk0 val (j + 1) m :=
 ⟨let ⟨i,hi,e⟩:=h.1; ⟨i,Nat.lt_succ_of_lt hi,e⟩,fun i hi=>by
  rcases Nat.lt_succ_iff_lt_or_eq.mp hi with z | z
  ·exact h.2 i z
  ·rw [z]; omega⟩
theorem jfd:(toString "min" ++ toString ".loop":String) = "min.loop":=by decide
theorem jku (W:Walks prog w A.in1 I fp wr n P St) (val:Nat→Int) (hval:∀ i v,P i v→∃ t:Tok,v = Value.int (val i) t) (kw:List (Str × Value)) (S:Addr) (hSf:S ∉ fp) :
  ∀ (k j:Nat) (s:Shared) (m:Int) (t:Tok) (c:Nat),n - j = k→j ≤ n→St j s.heap→jk0 val j m →
  s.heap.get? S = some { cls:=.type "list",dict:=none,data:=.seq #[.int m t,.int m t] c,slots:=#[] } →
  (∀ m' t' h' tk,jk0 val n m'→(∀ b o,b ∉ wr→b ≠ S→s.heap.get? b = some o→h'.get? b = some o)→R (.ok (.ret (.int m' t'))) { s with heap:=h',toks:=tk }) →
  codeAny (model prog w) A (.builtin "min.loop" ⟨[.ref I,.none,.ref S],kw⟩) R s:=by
 have hSw:S ∉ wr:=fun z=>hSf (W.sub _ z)
 intro k
 induction k with
 | zero =>
  intro j s m t c hk hj hst hb hS hR
  have hin:j = n:=by omega
  subst hin
  refine codeAny_builtin PySem.F.entry_min_loop ?_
  rw [Around.under_plainId PySem.F.plain_min_loop _]
  show wpAny _ A.in1 (seqItems? (.ref S) >>= _) _ _ s
  refine wpAny_bind (wpAny_seqItems hS rfl ?_)
  show wpAny _ A.in1 (tryCatch (pyNext (.ref I)) _ >>= _) _ _ s
  refine wpAny_bind (wpAny_tryCatch (W.done s _ _ hst fun h' tk kp=>?_))
  have hS':=kp S _ hSw hS
  show wpAny _ A.in1 (updateSeq S (fun _=>#[]) >>= _) _ _ _
  refine wpAny_bind ?_
  refine wpAny_updateSeq hS' rfl (wpAny_bind (wpAny_letGo (wpAny_pure ?_)))
  exact hR m t _ tk hb fun b o hbw hbS e=>(Heap.get?_update_other _ _ (Ne.symm hbS)).trans (kp b o hbw e)
 | succ k ih =>
  intro j s m t c hk hj hst hb hS hR
  have hlt:j < n:=by omega
  refine codeAny_builtin PySem.F.entry_min_loop ?_
  rw [Around.under_plainId PySem.F.plain_min_loop _]
  show wpAny _ A.in1 (seqItems? (.ref S) >>= _) _ _ s
  refine wpAny_bind (wpAny_seqItems hS rfl ?_)
  show wpAny _ A.in1 (tryCatch (pyNext (.ref I)) _ >>= _) _ _ s
  refine wpAny_bind (wpAny_tryCatch (W.item j s _ _ hlt hst fun v h' tk hP hst' kp=>?_))
  obtain ⟨t',rfl⟩:=hval j v hP
  have hS':=kp S _ hSw hS
  show wpAny _ A.in1 (tryCatch (holding [.int (val j) t',.int (val j) t'] (richCompare .Lt (.int (val j) t') (.int m t) >>= _)) _ >>= _) _ _ _
  refine wpAny_bind (wpAny_tryCatch (wpAny_holding (wpAny_bind (lt_int ?_))))
  refine wpAny_bind (wpAny_holding (wpAny_truthy_bool ?_))
  refine wpAny_bind (wpAny_letGo (wpAny_pure ?_))
  by_cases hc:val j < m
  ·rw [decide_eq_true (show val j < m from hc)]
   simp only [if_true]
   refine wpAny_bind ?_
   refine wpAny_updateSeq hS' rfl (wpAny_bind (wpAny_letGo ?_))
   rw [jfd]
   refine wpAny_pure ⟨plainId_quiet PySem.F.plain_min_loop _,ih (j + 1) _ (val j) t' _ (by omega) hlt (W.frame _ _ _ hst' fun b hbf o e=>?_) (hb.up hc) (Heap.get?_update_self _ hS' rfl) fun m' u h'' tk'' hB k''=>?_⟩
   ·exact (Heap.get?_update_other _ _ (fun z:S = b=>hSf (by rw [z]; exact hbf))).trans e
   ·exact hR m' u h'' tk'' hB fun b o hbw hbS e=>k'' b o hbw hbS ((Heap.get?_update_other _ _ (Ne.symm hbS)).trans (kp b o hbw e))
  ·rw [decide_eq_false (show ¬ val j < m from hc)]
   simp only [Bool.false_eq_true,if_false]
   refine wpAny_bind (wpAny_letGo ?_)
   rw [jfd]
   refine wpAny_pure ⟨plainId_quiet PySem.F.plain_min_loop _,ih (j + 1) _ m t c (by omega) hlt hst' (hb.keep hc) hS' fun m' u h'' tk'' hB k''=>?_⟩
   exact hR m' u h'' tk'' hB fun b o hbw hbS e=>k'' b o hbw hbS (kp b o hbw e)
end
section
variable {X:Cx}
end
end L2
namespace L2
open PySem PySem.Spec PyProof.Rows
section
variable {X:Cx}
theorem jl4 (a:Value):argsOk "min" ⟨[a],[]⟩:=by unfold argsOk; kernel_rfl
def rMinN:List V→Hp→VK→Prop:=fun vs H Q=>∃ (p:Addr) (ns:List Int),vs = [.ref p]∧H p = some (.lst (ns.map V.int))∧ns ≠ [] ∧
 ∀ m,m ∈ ns→(∀ x ∈ ns,m ≤ x)→Q (.int m) H
theorem jju (hc:X.calm = true):jd9 X (.builtin "min") rMinN:=by
 intro pins s σ H xs us Q I r h
 obtain ⟨p,ns,rfl,e,hne,q⟩:=h
 obtain ⟨u,rfl,rx⟩:=jk4 r
 cases rx
 obtain ⟨z,its,c,r',hlen,e'⟩:=I.lstM e
 have hI:=jds r'
 have plt:p < s.heap.objs.size:=Heap.lt_size e'
 have hL:s.heap.IsList p its.toArray:=⟨_,e',rfl,_,rfl⟩
 refine call_function_tree PySem.F.kind_min PySem.F.plain_min PySem.F.entry_min (jl4 _) ?_
 show wpAny _ X.A.in1 (Builtin.Builtins.bindParams "min" ["key","default"] 0 ⟨[],[]⟩ >>= _) _ _ s
 refine wpAny_bind (wpAny_of_eq (show Builtin.Builtins.bindParams "min" ["key","default"] 0 ⟨[],[]⟩ = pure [none,none] from rfl) ?_)
 refine wpAny_bind (wpAny_pure ?_)
 refine wpAny_bind (wpAny_pyIter_list hL ?_)
 refine wpAny_bind (wpAny_newList ?_ (Nat.zero_le _))
 rw [jfd]
 have hS:(s.heap.push { cls:=.type "list_iterator",data:=.fields #[.ref p,.int 0 0] }).objs.size = s.heap.objs.size + 1:=size_push' ..
 have W:=Walks.list (prog:=X.prog) (w:=X.w) (A:=X.A.in1) (show X.A.in1.handled = none from I.ok.hd hc) s.heap.objs.size p (Nat.ne_of_lt plt) its.toArray
 have hsz:its.toArray.size = ns.length:=by rw [List.size_toArray,← hlen,List.length_map]
 have hval:∀ (i:Nat) (v:Value),its.toArray[i]? = some v→∃ t:Tok,v = Value.int (ns[i]?.getD 0) t:=fun i v hv=>by
  have hv':its[i]? = some v:=by simpa using hv
  have hi:i < ns.length:=by
   have:=(List.getElem?_eq_some_iff.mp hv').1
   rw [List.length_map] at hlen
   omega
  obtain ⟨u,e1,t,e2⟩:=r'.get (i:=i) (x:=.int ns[i]) (by rw [List.getElem?_map,List.getElem?_eq_getElem hi]; rfl)
  rw [hv'] at e1
  cases e1
  exact ⟨t,by rw [e2,List.getElem?_eq_getElem hi]; rfl⟩
 have kp0:∀ (h':Heap) (tk:Nat),(∀ b o,b ∉ [s.heap.objs.size]→b ≠ (s.heap.push { cls:=.type "list_iterator",data:=.fields #[.ref p,.int 0 0] }).objs.size→((s.heap.push { cls:=.type "list_iterator",data:=.fields #[.ref p,.int 0 0] }).push { cls:=.type "list",data:=.seq #[] }).get? b = some o→h'.get? b = some o) →
   Inv X pins σ H { s with heap:=h',toks:=tk }:=fun h' tk k=>I.kept fun b o qq=>k b o (by
    intro z
    have:b = s.heap.objs.size:=by simpa using z
    exact absurd (Heap.lt_size qq) (by rw [this]; exact Nat.lt_irrefl _)) (by rw [hS]; exact Nat.ne_of_lt (Nat.lt_succ_of_lt (Heap.lt_size qq))) (Heap.get?_push_of_some _ (Heap.get?_push_of_some _ qq))
 have hst0:(fun i (h:Heap)=>h.IsListIter s.heap.objs.size p i∧h.IsList p its.toArray) 0 ((s.heap.push { cls:=.type "list_iterator",data:=.fields #[.ref p,.int 0 0] }).push { cls:=.type "list",data:=.seq #[] }) :=
  ⟨⟨_,Heap.get?_push_of_some _ (Heap.get?_push_size _ rfl),rfl,rfl⟩,(hL.push _).push _⟩
 have hSg:((s.heap.push { cls:=.type "list_iterator",data:=.fields #[.ref p,.int 0 0] }).push { cls:=.type "list",data:=.seq #[] }).get? (s.heap.push { cls:=.type "list_iterator",data:=.fields #[.ref p,.int 0 0] }).objs.size = some { cls:=.type "list",dict:=none,data:=.seq #[] 0,slots:=#[] }:=Heap.get?_push_size _ rfl
 have hSf:(s.heap.push { cls:=.type "list_iterator",data:=.fields #[.ref p,.int 0 0] }).objs.size ∉ [s.heap.objs.size,p]:=by
  rw [hS]
  intro z
  rcases List.mem_cons.mp z with z | z
  ·exact absurd z (Nat.succ_ne_self _)
  ·have z:=List.mem_singleton.mp z
   rw [← z] at plt
   exact Nat.lt_irrefl _ (Nat.lt_of_succ_lt plt)
 refine wpAny_pure ⟨plainId_quiet PySem.F.plain_min_loop _,?_⟩
 refine codeAny_builtin PySem.F.entry_min_loop ?_
 rw [Around.under_plainId PySem.F.plain_min_loop _]
 show wpAny _ X.A.in1 (seqItems? (.ref _) >>= _) _ _ _
 refine wpAny_bind (wpAny_seqItems hSg rfl ?_)
 show wpAny _ X.A.in1 (tryCatch (pyNext (.ref s.heap.objs.size)) _ >>= _) _ _ _
 cases hn:ns with
 | nil=>exact absurd hn hne
 | cons n0 rest =>
  have hpos:0 < its.toArray.size:=by rw [hsz,hn]; simp
  refine wpAny_bind (wpAny_tryCatch (W.item 0 _ _ _ hpos hst0 fun v h' tk hP hst' kp=>?_))
  obtain ⟨t',rfl⟩:=hval 0 v hP
  have hS':=kp _ _ (fun z=>hSf (List.mem_cons.mpr (.inl (List.mem_singleton.mp z)))) hSg
  show wpAny _ X.A.in1 (updateSeq _ (fun _=>#[_,_]) >>= _) _ _ _
  refine wpAny_bind ?_
  refine wpAny_updateSeq hS' rfl ?_
  rw [jfd]
  refine wpAny_pure ⟨plainId_quiet PySem.F.plain_min_loop _,jku W (fun i=>ns[i]?.getD 0) hval _ _ hSf _ 1 _ _ t' _ rfl hpos (W.frame _ _ _ hst' fun b hbf o e=>?_) ⟨⟨0,Nat.one_pos,rfl⟩,fun i hi=>by
   have:i = 0:=by omega
   subst this; exact Int.le_refl _⟩ (Heap.get?_update_self _ hS' rfl) fun m u h'' tk'' hB k''=>?_⟩
  ·exact (Heap.get?_update_other _ _ (fun z=>hSf (by rw [z]; exact hbf))).trans e
  ·refine ⟨.int m,H,kp0 h'' tk'' fun b o h1 h2 h3=>k'' b o h1 h2 ((Heap.get?_update_other _ _ (Ne.symm h2)).trans (kp b o h1 h3)),⟨u,rfl⟩,q m ?_ fun x hx=>?_⟩
   ·obtain ⟨i,hi,e1⟩:=hB.1
    rw [hsz] at hi
    rw [e1]
    show ns[i]?.getD 0 ∈ ns
    rw [List.getElem?_eq_getElem hi]
    exact List.getElem_mem hi
   ·obtain ⟨i,hi,e1⟩:=List.mem_iff_getElem.mp hx
    have:m ≤ ns[i]?.getD 0:=hB.2 i (by rw [hsz]; exact hi)
    rw [List.getElem?_eq_getElem hi] at this
    rw [← e1]
    exact this
end
end L2
local macro_rules | `(tactic| walk_at "ND") => `(tactic| try simp only [L2.jb4,L2.fIsB,L2.tSeq,L2.jaw,L2.jax,L2.tRet,L2.jb2,L2.tIfS,L2.tAsg,L2.jal,L2.fAug,L2.tOp,L2.tUn,L2.tC,L2.fVar,L2.fI,L2.fIC,L2.fNeg,L2.fEq,L2.fNe,L2.fIsN,L2.jao,L2.fAnd,L2.fOr,L2.fNot,L2.fB,L2.tNot,L2.tAnd,L2.tOr,L2.jab,L2.fIx,L2.fLen,L2.ja2,L2.fMin,L2.fMax,L2.fInL,L2.fSlL,L2.tSl,L2.jaz,L2.ja4,L2.ja3,L2.fBM,L2.jar,L2.gSub,L2.jau,L2.ja7,L2.jat,L2.jb7,L2.jad,L2.jaa,L2.ja9,L2.fCat,L2.jaf,L2.fBM0,L2.fSlT,L2.jas,L2.tCBK,L2.fDIn,L2.jb1,L2.fIsi,L2.jag,L2.ja8,L2.fLtT,L2.jay,L2.tCB,L2.jap,L2.tNil,L2.tTup,L2.tLst,L2.tIf,L2.jav,L2.Kd.nm,L2.jam,List.map_cons,List.map_nil,List.length_cons,List.length_nil,Nat.reduceAdd,Nat.reduceSub,List.replicate_succ,List.replicate_zero,List.getElem?_cons_zero,List.getElem?_cons_succ,List.set_cons_zero,List.set_cons_succ,List.append_nil,List.nil_append,List.cons_append,eq_self,true_and,and_true,if_true,Bool.false_eq_true,if_false,Bool.not_true,Bool.not_false,id_eq,My.sl0,My.sl1,My.sl2,My.sl3,My.sl4,L2.jb5,L2.jb8,L2.jb9,L2.jb6,L2.jb0,L2.jaq,L2.jae,L2.fXor,L2.fFld,L2.fAlt,L2.jb3,L2.jba,L2.jac])
local macro_rules | `(tactic| simp_all_arith [$args,*]) => `(tactic| try simp only [L2.jb4,L2.fIsB,L2.tSeq,L2.jaw,L2.jax,L2.tRet,L2.jb2,L2.tIfS,L2.tAsg,L2.jal,L2.fAug,L2.tOp,L2.tUn,L2.tC,L2.fVar,L2.fI,L2.fIC,L2.fNeg,L2.fEq,L2.fNe,L2.fIsN,L2.jao,L2.fAnd,L2.fOr,L2.fNot,L2.fB,L2.tNot,L2.tAnd,L2.tOr,L2.jab,L2.fIx,L2.fLen,L2.ja2,L2.fMin,L2.fMax,L2.fInL,L2.fSlL,L2.tSl,L2.jaz,L2.ja4,L2.ja3,L2.fBM,L2.jar,L2.gSub,L2.jau,L2.ja7,L2.jat,L2.jb7,L2.jad,L2.jaa,L2.ja9,L2.fCat,L2.jaf,L2.fBM0,L2.fSlT,L2.jas,L2.tCBK,L2.fDIn,L2.jb1,L2.fIsi,L2.jag,L2.ja8,L2.fLtT,L2.jay,L2.tCB,L2.jap,L2.tNil,L2.tTup,L2.tLst,L2.tIf,L2.jav,L2.Kd.nm,L2.jam,List.map_cons,List.map_nil,List.length_cons,List.length_nil,Nat.reduceAdd,Nat.reduceSub,List.replicate_succ,List.replicate_zero,List.getElem?_cons_zero,List.getElem?_cons_succ,List.set_cons_zero,List.set_cons_succ,List.append_nil,List.nil_append,List.cons_append,eq_self,true_and,and_true,if_true,Bool.false_eq_true,if_false,Bool.not_true,Bool.not_false,id_eq,My.sl0,My.sl1,My.sl2,My.sl3,My.sl4,L2.jb5,L2.jb8,L2.jb9,L2.jb6,L2.jb0,L2.jaq,L2.jae,L2.fXor,L2.fFld,L2.fAlt,L2.jb3,L2.jba,L2.jac,$args,*])
namespace My
open PySem L2
section
variable {P:Program} {w:World} {K:PySem.W.Frag} {mg:Str→Option Value} {base:Heap} {c1 c2 c3 c4:Tok} {C_Net C_NoWeb f_NoWeb:Addr} {dI:FuncData}
def js8:Stmt→List Stmt
 | .ClassDef _ _ _ b _ _ _ _ _ _ _=>b
 | _=>[]
def meth (i j:Nat):Stmt:=(js8 (top i)).getD j (.Pass ⟨0,0,0,0⟩)
structure MthAt (K:PySem.W.Frag) (C:Addr) (x qual:Str) (st:Stmt) (ps:List Str) (f:Addr) (fd:FuncData):Prop where
 F:Fun K x qual st f fd
 b:jei K fd ps []
 m:Meth K C x f
structure NetC (K:PySem.W.Frag) (mg:Str→Option Value) (C:Addr):Prop where
 cl:Cls K C
 n_ways_from:jeh K C "ways_from"
 n_heads:jeh K C "heads"
 n_rooms:jeh K C "rooms"
 m:mg "Net" = some (.ref C)
def netO (C dx W Hd R:Addr):HO:=.ins C dx [("ways_from",.ref W),("heads",.ref Hd),("rooms",.ref R)]
section
variable {C dx W Hd R:Addr}
theorem js4:jia C (some (netO C dx W Hd R)) "ways_from" = some (.ref W):=by unfold jia netO; dsimp only; rw [if_pos rfl]; rfl
theorem jok:jia C (some (netO C dx W Hd R)) "heads" = some (.ref Hd):=by unfold jia netO; dsimp only; rw [if_pos rfl]; rfl
theorem jkx:jia C (some (netO C dx W Hd R)) "rooms" = some (.ref R):=by unfold jia netO; dsimp only; rw [if_pos rfl]; rfl
theorem jjh {m:Str} (h:(m == ("ways_from":Str)) = false) (h2:(m == ("heads":Str)) = false) (h3:(m == ("rooms":Str)) = false):jeq C (some (netO C dx W Hd R)) m = true:=by
 unfold jeq netO
 simp only [decide_true,Bool.true_and,List.lookup_cons,h,h2,h3,List.lookup_nil,Option.isNone_none]
theorem jfz:jeq C (some (netO C dx W Hd R)) "put_way" = true:=jjh rfl rfl rfl
theorem jgz:jeq C (some (netO C dx W Hd R)) "spread" = true:=jjh rfl rfl rfl
theorem jey:jeq C (some (netO C dx W Hd R)) "shortest" = true:=jjh rfl rfl rfl
theorem jpp:jeq C (some (netO C dx W Hd R)) "push" = true:=jjh rfl rfl rfl
theorem jpq:jeq C (some (netO C dx W Hd R)) "fill" = true:=jjh rfl rfl rfl
theorem jo4:jeq C (some (netO C dx W Hd R)) "flows" = true:=jjh rfl rfl rfl
theorem jkr:jeq C (some (netO C dx W Hd R)) "reached_from" = true:=jjh rfl rfl rfl
end
def nv (ws:List Nat):List V:=ws.map fun w:Nat=>V.int (w:Int)
def NtS (C:Addr) (H:Hp) (p R:Addr) (wf:Int→List Nat) (hs:List Int) (n:Nat):Prop:=∃ (dx W Hd:Addr) (ls:List Addr),H p = some (netO C dx W Hd R)∧H W = some (.lst (ls.map V.ref))∧ls.length = n∧(∀ (i:Nat) (a:Addr),ls[i]? = some a→H a = some (.lst (nv (wf (i:Int))))∧a ≠ R)∧H Hd = some (.lst (hs.map V.int))∧W ≠ R∧Hd ≠ R∧p ≠ R
theorem NtS.but {C:Addr} {H H':Hp} {p R:Addr} {wf:Int→List Nat} {hs:List Int} {n:Nat} (h:NtS C H p R wf hs n) (s:But R H H'):NtS C H' p R wf hs n:=by
 obtain ⟨dx,W,Hd,ls,e1,e2,e3,e4,e5,n1,n2,n3⟩:=h
 exact ⟨dx,W,Hd,ls,s _ _ n3 e1,s _ _ n1 e2,e3,fun i a ha=>⟨s _ _ (e4 i a ha).2 (e4 i a ha).1,(e4 i a ha).2⟩,s _ _ n2 e5,n1,n2,n3⟩
theorem NtS.same {C:Addr} {H H':Hp} {p R:Addr} {wf:Int→List Nat} {hs:List Int} {n:Nat} (h:NtS C H p R wf hs n) (s:Same H H'):NtS C H' p R wf hs n:=h.but fun b o _ q=>s b o q
theorem jf0 {l:List Int} {w:Nat} (h:w < l.length):atI (l.map V.int) (w:Int) = some (.int (Fl.at' l w)):=by
 refine jci ?_
 rw [List.getElem?_map,List.getElem?_eq_getElem h]
 unfold Fl.at'
 rw [List.getD_eq_getElem?_getD,List.getElem?_eq_getElem h]
 rfl
theorem joy {l:List Addr} {i:Nat} {a:Addr} (h:l[i]? = some a):atI (l.map V.ref) (i:Int) = some (.ref a):=by
 refine jci ?_
 rw [List.getElem?_map,h]
 rfl
def oV:Option Nat→V
 | none=>.non
 | some w=>.int (w:Int)
def cbK (cb:Fl.Cb):List (Key × V):=cb.map fun p=>(Sum.inl p.1,oV p.2)
theorem jic:∀ (cb:Fl.Cb) (v:Int),(valV (cbK cb) (Sum.inl v:Key)).isSome = Fl.seen cb v
 | [],v=>rfl
 | p :: r,v=>by
  have ih:=jic r v
  unfold cbK valV Fl.seen at ih ⊢
  rw [List.map_cons,List.find?_cons]
  by_cases c:p.1 = v
  ·dsimp only
   rw [decide_eq_true (show (Sum.inl p.1:Key) = Sum.inl v from congrArg Sum.inl c)]
   dsimp only
   rw [decide_eq_true (by rw [List.map_cons,c]; exact List.mem_cons_self)]
   rfl
  ·dsimp only
   rw [decide_eq_false (fun z:(Sum.inl p.1:Key) = Sum.inl v=>c (Sum.inl.inj z))]
   dsimp only
   rw [ih,List.map_cons]
   congr 1
   simp only [List.mem_cons,eq_iff_iff]
   exact ⟨fun z=>.inr z,fun z=>z.resolve_left fun e=>c e.symm⟩
theorem jou:∀ (cb:Fl.Cb) (v:Int),(valV (cbK cb) (Sum.inl v:Key)).getD .non = oV (Fl.lk cb v)
 | [],v=>rfl
 | p :: r,v=>by
  have ih:=jou r v
  unfold cbK valV Fl.lk at ih ⊢
  rw [List.map_cons,List.find?_cons,List.find?_cons]
  by_cases c:p.1 = v
  ·dsimp only
   rw [decide_eq_true (show (Sum.inl p.1:Key) = Sum.inl v from congrArg Sum.inl c),decide_eq_true c]
   rfl
  ·dsimp only
   rw [decide_eq_false (fun z:(Sum.inl p.1:Key) = Sum.inl v=>c (Sum.inl.inj z)),decide_eq_false c]
   dsimp only
   exact ih
theorem jsa {cb:Fl.Cb} {v:Int} {w:Nat} (h:Fl.seen cb v = false):putK (cbK cb) (Sum.inl v:Key) (.int (w:Int)) = cbK (cb ++ [(v,some w)]):=by
 rw [jlk]
 ·unfold cbK
  rw [List.map_append]
  rfl
 ·rw [← jic] at h
  cases e:valV (cbK cb) (Sum.inl v:Key) with
  | none=>rfl
  | some x=>rw [e] at h; cases h
theorem jfk (hs r:List Int):∀ (a b:List Nat) (cb:Fl.Cb),Fl.visit hs r cb (a ++ b) = Fl.visit hs r (Fl.visit hs r cb a) b
 | [],b,cb=>rfl
 | w :: a,b,cb=>by
  rw [List.cons_append,Fl.visit,Fl.visit]
  exact jfk hs r a b _
theorem jp2 (hs r:List Int) (ws:List Nat) (i:Nat) (cb:Fl.Cb):(Fl.visit hs r cb (ws.take i)).length ≤ (Fl.visit hs r cb ws).length:=by
 have e:Fl.visit hs r cb ws = Fl.visit hs r (Fl.visit hs r cb (ws.take i)) (ws.drop i):=by rw [← jfk,List.take_append_drop]
 obtain ⟨l,e2⟩:=Fl.visit_pre (hs:=hs) (r:=r) (ws.drop i) (Fl.visit hs r cb (ws.take i))
 rw [e,e2,List.length_append]
 omega
structure Nt (C:Addr) (H:Hp) (p R:Addr) (wf:Int→List Nat) (hs:List Int) (m n:Nat) (r:List Int):Prop where
 st:NtS C H p R wf hs n
 eR:H R = some (.lst (r.map V.int))
 net:Fl.Net wf hs m n
 len:r.length = 2 * m
 big:2 * m ≤ 1000
 n200:n ≤ 200
theorem Nt.same {C:Addr} {H H':Hp} {p R:Addr} {wf:Int→List Nat} {hs:List Int} {m n:Nat} {r:List Int} (h:Nt C H p R wf hs m n r) (s:Same H H'):Nt C H' p R wf hs m n r:=⟨h.st.same s,s _ _ h.eR,h.net,h.len,h.big,h.n200⟩
def jhk (C:Addr):Sp:=fun vs H Q _=>∃ p s R wf hs m n r,vs = [.ref p,.int s]∧Nt C H p R wf hs m n r∧0 ≤ s∧s < (n:Int)∧∀ d H',H d = none→Same H H'→H' d = some (.dK (cbK (Fl.cbOf wf hs n s r)))→Q (.ref d) H'
def jjm (cb:Fl.Cb):List V:=cb.map fun p=>V.int p.1
theorem jnz {f:Addr} {fd:FuncData}  (B:Blt mg) (D:MthAt K C_Net "spread" "Net.spread" (meth 9 4) ["self","source"] f fd) (T:NetC K mg C_Net):FnOk P w K mg base CX0 1 f fd ["self","source"] (jhk C_Net):=by
 have sc:FnScope ["self","source","came_by","line","done","knot","way","head"] ["self","source"] (jbc (meth 9 4)):=⟨rfl,rfl,rfl,by decide +kernel,rfl,by decide +kernel,by decide +kernel⟩
 refine D.F.ok sc (fun vs H Q E h=>?_) (fun cdv A outer s H vs Q E hr h=>?_)
 ·obtain ⟨p,s,R,wf,hs,m,n,r,rfl,_⟩:=h
  rfl
 obtain ⟨p,s,R,wf,hs,m,n,r,rfl,N,s0,s1,h⟩:=h
 have hu:=jcb hr
 have hu0:_ < PySem.cLine:=Nat.lt_of_succ_lt hu
 refine ⟨_,(ja5 (jbe (i:=2) sc.nd rfl (Or.inl rfl) (jpl (qv 1) jgw)) (ja5 (jbe (i:=3) sc.nd rfl (Or.inl rfl) (jcd (ja0 (qv 1) jah))) (ja5 (jbe (i:=4) sc.nd rfl (Or.inl rfl) jak) (ja5 (jdp PassesOwn.never (jbw q_lt (qv 4) (jbp jfp rfl B.len PySem.boot_len (ja0 (qv 3) jah)) (jbv _)) (ja5 (jbe (i:=5) sc.nd rfl (Or.inl rfl) (jbk q_ix (qv 3) (qv 4) (fun _ _=>rfl))) (ja5 (jca PassesOwn.never rfl (jbx (jbk q_ix (jcf T.cl T.n_ways_from (qv 0) rfl) (qv 5) (fun _ _=>rfl))) (jbb (i:=6) sc.nd rfl (Or.inl rfl)) (ja5 (jbe (i:=7) sc.nd rfl (Or.inl rfl) (jbk q_ix (jcf T.cl T.n_heads (qv 0) rfl) (qv 6) (fun _ _=>rfl))) (jan (jct (PW.pt (jfr (jbw q_gt (jbk q_ix (jcf T.cl T.n_rooms (qv 0) rfl) (qv 6) (fun _ _=>rfl)) jak (jbv _)) (jem (jfo (jde hu (qv 7) (qv 2)))))) (ja5 (jgv hu (qv 2) (qv 7) (qv 6)) (jan (jby (q_bm PySem.F.plainAttrs_list PySem.F.slot_list_append PySem.F.type_list_append jc5 (qv 3) (ja0 (qv 7) jah))))) jbu)))) (jan (jlh (i:=4) sc.nd rfl (Or.inl rfl) jak jlj))))) (jan (jbq (qv 2))))))),?_⟩
 have N0:=N
 obtain ⟨⟨dx,W,Hd,ls,e1,e2,e3,e4,e5,n1,n2,n3⟩,eR,net,hlen,hbig,hn⟩:=N
 refine jbd fun R' hR=>?_
 walk_at "ND"
 intro d hd
 have q1:=jai hd (.dK [(Sum.inl s,.non)])
 have ed:upd H d (.dK [(Sum.inl s,.non)]) d = some (.dK [(Sum.inl s,.non)]):=ja1
 generalize upd H d (.dK [(Sum.inl s,.non)]) = H1 at q1 ed
 subst hR
 refine jbd fun R' hR=>?_
 walk_at "ND"
 intro l hl
 have q2:=q1.trans (jai hl (.lst [.int s]))
 have ed2:=jai hl (.lst [.int s]) _ _ ed
 have el:upd H1 l (.lst [.int s]) l = some (.lst [.int s]):=ja1
 have ld:l ≠ d:=(ja6 ed hl).symm
 have hlH:H l = none:=q1.free hl
 generalize upd H1 l (.lst [.int s]) = H2 at q2 ed2 el
 subst hR
 refine jbd fun R' hR=>?_
 walk_at "ND"
 subst hR
 refine jbd fun R' hR=>?_
 refine jf4 (fun σ Hc=>∃ (k:Nat) (v5 v6 v7:Option V),σ = [some (.ref p),some (.int s),some (.ref d),some (.ref l),some (.int (k:Int)),v5,v6,v7]∧Same H Hc∧Hc d = some (.dK (cbK (Fl.sprN wf hs r s k)))∧Hc l = some (.lst (jjm (Fl.sprN wf hs r s k)))∧k ≤ (Fl.sprN wf hs r s k).length) (fun σ _=>match σ with | [_,_,_,_,some (.int k),_,_,_]=>n - k.toNat | _=>0) ⟨0,none,none,none,rfl,q2,ed2,el,Nat.zero_le _⟩ ?_ ?_
 ·rintro σ Hc ⟨k,v5,v6,v7,rfl,s3,ed3,el3,hk⟩
  have hkl:=Fl.cb_len (r:=r) net ⟨s0,s1⟩ k
  have hlk:(jjm (Fl.sprN wf hs r s k)).length = (Fl.sprN wf hs r s k).length:=List.length_map _
  by_cases c:k < (Fl.sprN wf hs r s k).length
  ·have hdt:decide ((k:Int) < ((Fl.sprN wf hs r s k).length:Int)) = true:=decide_eq_true (by omega)
   have hg:(Fl.sprN wf hs r s k)[k]? = some (Fl.sprN wf hs r s k)[k]:=List.getElem?_eq_getElem c
   generalize hpk:(Fl.sprN wf hs r s k)[k] = pk at hg
   have hgl:atI (jjm (Fl.sprN wf hs r s k)) (k:Int) = some (.int pk.1):=jci (by unfold jjm; rw [List.getElem?_map,hg]; rfl)
   simp_all_arith [jbl,el3,hlk,hdt,hgl]
   have hkn:=Fl.keys_in (r:=r) net ⟨s0,s1⟩ k pk.1 (List.mem_map.mpr ⟨_,List.mem_of_getElem? hg,rfl⟩)
   have hi:pk.1.toNat < ls.length:=by omega
   have hla:ls[pk.1.toNat]? = some ls[pk.1.toNat]:=List.getElem?_eq_getElem hi
   generalize ls[pk.1.toNat] = wa at hla
   have ewa:=(e4 _ _ hla).1
   rw [show ((pk.1.toNat:Nat):Int) = pk.1 by omega] at ewa
   have hwa:atI (ls.map V.ref) pk.1 = some (.ref wa):=by have:=joy hla; rw [show ((pk.1.toNat:Nat):Int) = pk.1 by omega] at this; exact this
   have hnext:Fl.sprN wf hs r s (k + 1) = Fl.visit hs r (Fl.sprN wf hs r s k) (wf pk.1):=by rw [Fl.sprN,hg]
   have hkl2:=Fl.cb_len (r:=r) net ⟨s0,s1⟩ (k + 1)
   rw [hnext] at hkl2
   generalize hcb:Fl.sprN wf hs r s k = cb at *
   refine jbo (Itl K wa) Hc (fun R3 hR3=>?_) (jc9 (K:=K) (a:=wa) (xs:=nv (wf pk.1)) (fun i σ H4=>∃ v6 v7,σ = [some (.ref p),some (.int s),some (.ref d),some (.ref l),some (.int (k:Int)),some (.int pk.1),v6,v7]∧Same H H4∧H4 d = some (.dK (cbK (Fl.visit hs r cb ((wf pk.1).take i))))∧H4 l = some (.lst (jjm (Fl.visit hs r cb ((wf pk.1).take i))))) ⟨v6,v7,rfl,s3,ed3,el3⟩ (fun i σ H4 _ ⟨_,_,_,s4,_⟩=>SqL.of (s4 _ _ ewa)) ?_ ?_)
   ·unfold jcu
    simp_all_arith [jbl,s3 _ _ e1,js4,s3 _ _ e2,hwa]
    exact ⟨wa,rfl,⟨_,SqL.of (s3 _ _ ewa)⟩,hR3⟩
   ·rintro i x σ H4 hx ⟨v6,v7,rfl,s4,ed4,el4⟩
    unfold nv at hx
    rw [List.getElem?_map] at hx
    obtain ⟨w,hw,rfl⟩:=Option.map_eq_some_iff.mp hx
    have hwm:=net.from' pk.1 w (List.mem_of_getElem? hw)
    have hh:atI (hs.map V.int) (w:Int) = some (.int (Fl.at' hs w)):=jf0 (by rw [net.len]; exact hwm.1)
    have hr':atI (r.map V.int) (w:Int) = some (.int (Fl.at' r w)):=jf0 (by rw [hlen]; exact hwm.1)
    have hv1:Fl.visit hs r cb ((wf pk.1).take (i + 1)) = if 0 < Fl.at' r w∧Fl.seen (Fl.visit hs r cb ((wf pk.1).take i)) (Fl.at' hs w) = false then Fl.visit hs r cb ((wf pk.1).take i) ++ [(Fl.at' hs w,some w)] else Fl.visit hs r cb ((wf pk.1).take i):=by
     rw [jbn hw,jfk]
     rfl
    have hvl:=jp2 hs r (wf pk.1) i cb
    generalize Fl.visit hs r cb ((wf pk.1).take i) = cb1 at *
    simp_all_arith [jbl,s4 _ _ e1,jok,jkx,s4 _ _ e5,hh,s4 _ _ eR,hr',ed4,jic]
    by_cases c1:0 < Fl.at' r w
    ·rw [decide_eq_true c1,if_pos rfl]
     cases c2:Fl.seen cb1 (Fl.at' hs w) with
     | true =>
      walk_at "ND"
      rw [if_neg (fun z=>by rw [c2] at z; cases z.2)] at hv1
      rw [hv1]
      exact ⟨_,_,rfl,s4,(by first | rfl | exact ed4),el4⟩
     | false =>
      rw [if_pos ⟨c1,c2⟩] at hv1
      simp_all_arith [jsa c2]
      have hcl:(cbK cb1).length = cb1.length:=List.length_map _
      refine ⟨szl' (by omega),?_⟩
      have el5:upd H4 d (.dK (cbK (cb1 ++ [(Fl.at' hs w,some w)]))) l = some (.lst (jjm cb1)):=by rw [jaj ld]; exact el4
      refine ⟨⟨l,_,rfl,el5⟩,?_⟩
      rw [el5]
      dsimp only
      have hcl2:(jjm cb1).length = cb1.length:=List.length_map _
      refine ⟨szl' (by omega),_,_,rfl,jbh (jbh s4 hd) hlH,?_,?_⟩
      ·rw [jaj (Ne.symm ld),ja1,hv1]
      ·rw [ja1,hv1]
       unfold jjm
       rw [List.map_append]
       rfl
    ·rw [decide_eq_false c1,if_neg (by decide)]
     rw [if_neg (fun z=>c1 z.1)] at hv1
     rw [hv1]
     exact ⟨_,_,rfl,s4,(by first | rfl | exact ed4),el4⟩
   ·rintro σ H4 ⟨v6,v7,rfl,s4,ed4,el4⟩
    have htl:(wf pk.1).take (nv (wf pk.1)).length = wf pk.1:=by unfold nv; rw [List.length_map,List.take_length]
    rw [htl,← hnext] at ed4 el4
    walk_at "ND"
    refine ⟨⟨k + 1,_,_,_,by rw [show ((k + 1:Nat):Int) = (k:Int) + 1 by omega],s4,ed4,el4,?_⟩,?_⟩
    ·obtain ⟨z,hz⟩:=Fl.spr_pre (wf:=wf) (hs:=hs) (r:=r) (s:=s) k
     rw [hz,hcb,List.length_append]
     omega
    ·omega
  ·have hdt:decide ((k:Int) < ((Fl.sprN wf hs r s k).length:Int)) = false:=decide_eq_false (by omega)
   simp_all_arith [jbl,el3,hlk,hdt]
   subst hR
   walk_at "ND"
   have hfin:Fl.cbOf wf hs n s r = Fl.sprN wf hs r s k:=by
    unfold Fl.cbOf
    rw [show n = k + (n - k) by omega]
    exact Fl.spr_rest (by omega) _
   exact h d Hc hd s3 (by rw [hfin]; exact ed3)
 ·intro σ Hc Q1 Q2 hq hc
  unfold fB tOp tCB jap tNil fVar at hc ⊢
  cases e:σ[4]? with
  | none=>rw [e] at hc; exact hc.elim
  | some ov =>
   rw [e] at hc
   cases ov with
   | none=>exact hc.elim
   | some u =>
    dsimp only [fLen,fI,tC] at hc ⊢
    cases e3:σ[3]? with
    | none=>rw [e3] at hc; exact hc.elim
    | some ov3 =>
     rw [e3] at hc
     cases ov3 with
     | none=>exact hc.elim
     | some u3 =>
      dsimp only at hc ⊢
      cases u3 with
      | ref b =>
       dsimp only at hc ⊢
       cases e2:jbl Hc b with
       | none=>rw [e2] at hc; exact hc.elim
       | some us =>
        rw [e2] at hc
        dsimp only at hc ⊢
        cases u with
        | int i=>exact hq _ _ hc
        | _=>exact hc.elim
      | _=>exact hc.elim
end
end My
namespace Fl
section
variable {hs r:List Int} {m:Nat} {s:Int} {cb:Cb}
theorem jrp {v:Int} {w:Nat} (h:lk cb v = some w):∃ i:Nat,cb[i]? = some (v,some w):=by
 unfold lk at h
 cases e:cb.find? fun p=>decide (p.1 = v) with
 | none=>rw [e] at h; cases h
 | some p =>
  rw [e] at h
  have hp:=List.mem_of_find?_eq_some e
  have hv:p.1 = v:=by have:=List.find?_some e; exact of_decide_eq_true (p:=p.1 = v) this
  obtain ⟨i,hi,e2⟩:=List.mem_iff_getElem.mp hp
  refine ⟨i,?_⟩
  rw [List.getElem?_eq_getElem hi,e2]
  obtain ⟨a,b⟩:=p
  dsimp only at hv
  have h:b = some w:=h
  rw [hv,h]
theorem jm8 (C:Cam hs r m s cb):∀ (i:Nat) (v:Int) (o:Option Nat),cb[i]? = some (v,o)→∀ f,i ≤ f→trailN hs cb (f + 1) v = trailN hs cb f v:=by
 intro i
 induction i using Nat.strongRecOn with
 | ind i ih =>
  intro v o h f hf
  have hl:=jrr C.nd h
  by_cases h0:i = 0
  ·subst h0
   have e:=C.first
   rw [h] at e
   have ho:o = none:=congrArg Prod.snd (Option.some.inj e)
   rw [ho] at hl
   rw [trailN,hl]
   cases f with
   | zero=>rfl
   | succ f=>rw [trailN,hl]
  ·obtain ⟨w,rfl,h2,h3,h4,j,u,h5,h6,h7⟩:=C.came i v o h (by omega)
   obtain ⟨f',rfl⟩:∃ f',f = f' + 1:=⟨f - 1,by omega⟩
   obtain ⟨p,hp⟩:∃ p,cb[j]? = some p:=by
    cases e:cb[j]? with
    | none=>rw [e] at h6; cases h6
    | some p=>exact ⟨p,rfl⟩
   have hpu:p.1 = u:=by rw [hp] at h6; exact Option.some.inj h6
   obtain ⟨p1,p2⟩:=p
   dsimp only at hpu
   subst hpu
   have e1:trailN hs cb (f' + 1 + 1) v = w :: trailN hs cb (f' + 1) p1:=by
    rw [trailN,hl]; dsimp only; rw [h7]
   have e2:trailN hs cb (f' + 1) v = w :: trailN hs cb f' p1:=by
    rw [trailN,hl]; dsimp only; rw [h7]
   rw [e1,e2,ih j h5 p1 p2 hp f' (by omega)]
theorem trail_next (C:Cam hs r m s cb) {n:Nat} (hn:cb.length ≤ n) {v:Int} {w:Nat} (h:lk cb v = some w):trailN hs cb n v = w :: trailN hs cb n (at' hs (mate w))∧w < 2 * m:=by
 obtain ⟨i,hi⟩:=jrp h
 have hil:=(List.getElem?_eq_some_iff.mp hi).1
 have h0:0 < i:=by
  by_cases z:i = 0
  ·subst z
   have e:=C.first
   rw [hi] at e
   have:=congrArg Prod.snd (Option.some.inj e)
   cases this
  ·omega
 obtain ⟨w',hw',h2,h3,h4,j,u,h5,h6,h7⟩:=C.came i v _ hi h0
 cases hw'
 obtain ⟨p,hp⟩:∃ p,cb[j]? = some p:=by
  cases e:cb[j]? with
  | none=>rw [e] at h6; cases h6
  | some p=>exact ⟨p,rfl⟩
 have hpu:p.1 = u:=by rw [hp] at h6; exact Option.some.inj h6
 obtain ⟨f',rfl⟩:∃ f',n = f' + 1:=⟨n - 1,by omega⟩
 refine ⟨?_,h2⟩
 rw [trailN,h]
 dsimp only
 rw [h7,← hpu,jm8 C j p.1 p.2 hp f' (by omega)]
theorem trail_end {v:Int} {n:Nat} (h:lk cb v = none):trailN hs cb n v = []:=by
 cases n with
 | zero=>rfl
 | succ n=>rw [trailN,h]
theorem trail_len:∀ (n:Nat) (v:Int),(trailN hs cb n v).length ≤ n
 | 0,_=>Nat.le_refl _
 | n + 1,v=>by
  rw [trailN]
  split
  ·have:=trail_len n (at' hs (mate ‹Nat›))
   rw [List.length_cons]; omega
  ·exact Nat.zero_le _
theorem minR_mem (r:List Int):∀ {tr:List Nat},tr ≠ []→minR r tr ∈ tr.map (at' r)
 | [],h=>absurd rfl h
 | [w],_=>List.mem_singleton.mpr rfl
 | w :: x :: tr,_=>by
  rw [minR]
  split
  ·exact List.mem_cons_of_mem _ (minR_mem r (tr:=x :: tr) (by simp))
  ·exact List.mem_cons_self
theorem push_snoc (r:List Int) (tr:List Nat) (w:Nat) (a:Int):push r (tr ++ [w]) a = bump (push r tr a) w a:=by
 unfold push
 rw [List.foldl_append]
 rfl
end
end Fl
namespace My
open PySem L2
section
variable {P:Program} {w:World} {K:PySem.W.Frag} {mg:Str→Option Value} {base:Heap} {c1 c2 c3 c4:Tok} {C_Net C_NoWeb f_NoWeb:Addr} {dI:FuncData}
def jn4 (C:Addr):Sp:=fun vs H Q _=>∃ p s t R wf hs m n r,vs = [.ref p,.int s,.int t]∧Nt C H p R wf hs m n r∧0 ≤ s∧s < (n:Int)∧∀ l H',H l = none→Same H H'→H' l = some (.lst (nv (Fl.trOf wf hs n s t r)))→Q (.ref l) H'
def jqd (C:Addr):Sp:=fun vs H Q _=>∃ p l R wf hs m n r tr,vs = [.ref p,.ref l]∧Nt C H p R wf hs m n r∧H l = some (.lst (nv tr))∧l ≠ R∧tr ≠ []∧tr.length ≤ 200∧(∀ w ∈ tr,w < 2 * m)∧∀ H',But R H H'→H' R = some (.lst ((Fl.push r tr (Fl.minR r tr)).map V.int))→Q (.int (Fl.minR r tr)) H'
def jqg (C:Addr):Sp:=fun vs H Q _=>∃ p s t R wf hs m n r cap,vs = [.ref p,.int s,.int t]∧Nt C H p R wf hs m n r∧s ≠ t∧0 ≤ s∧s < (n:Int)∧Fl.Rooms m cap r∧∀ x r' H',Fl.Runs wf hs n s t r r'→Fl.stp wf hs n s t r' = none→But R H H'→H' R = some (.lst (r'.map V.int))→Q (.int x) H'
theorem oV_isN (o:Option Nat):jao (oV o) = o.isNone:=by cases o <;> rfl
theorem jhd (w:Nat):PySem.Builtin.bitXor (w:Int) 1 = ((Fl.mate w:Nat):Int):=jqz w
def unI (xs:List V):List Int:=xs.map fun x=>match x with
 | .int i=>i
 | _=>0
theorem jmv (r:List Int):unI (r.map V.int) = r:=by
 unfold unI
 rw [List.map_map]
 exact List.map_id _
theorem joe {n w:Nat} (h:w < n):ixN n (w:Int) = some w:=by
 unfold ixN
 rw [if_pos (by omega),if_pos (by omega)]
 rfl
theorem Nt.but {C:Addr} {H H':Hp} {p R:Addr} {wf:Int→List Nat} {hs:List Int} {m n:Nat} {r r':List Int} (h:Nt C H p R wf hs m n r) (s:But R H H') (e:H' R = some (.lst (r'.map V.int))) (hl:r'.length = 2 * m):Nt C H' p R wf hs m n r':=⟨h.st.but s,e,h.net,hl,h.big,h.n200⟩
theorem js9 {cb:Fl.Cb} {v:Int} {w:Nat} (h:Fl.lk cb v = some w):valV (cbK cb) (Sum.inl v:Key) = some (.int (w:Int)):=by
 have:=jou cb v
 rw [h] at this
 cases e:valV (cbK cb) (Sum.inl v:Key) with
 | none=>rw [e] at this; cases this
 | some x=>rw [e] at this; exact congrArg some this
theorem jkj {f:Addr} {fd:FuncData} {f_spread:Addr} {d_spread:FuncData} (B:Blt mg) (D:MthAt K C_Net "shortest" "Net.shortest" (meth 9 3) ["self","source","sink"] f fd) (D_spread:MthAt K C_Net "spread" "Net.spread" (meth 9 4) ["self","source"] f_spread d_spread) (G_spread:FnOk P w K mg base CX0 1 f_spread d_spread ["self","source"] (jhk C_Net)) (T:NetC K mg C_Net):FnOk P w K mg base CX0 2 f fd ["self","source","sink"] (jn4 C_Net):=by
 have sc:FnScope ["self","source","sink","came_by","trail","knot"] ["self","source","sink"] (jbc (meth 9 3)):=⟨rfl,rfl,rfl,by decide +kernel,rfl,by decide +kernel,by decide +kernel⟩
 refine D.F.ok sc (fun vs H Q E h=>?_) (fun cdv A outer s H vs Q E hr h=>?_)
 ·obtain ⟨p,s,t,R,wf,hs,m,n,r,rfl,_⟩:=h
  rfl
 obtain ⟨p,s,t,R,wf,hs,m,n,r,rfl,N,s0,s1,h⟩:=h
 have hu:=jcb hr
 have hu0:_ < PySem.cLine:=Nat.lt_of_succ_lt hu
 refine ⟨_,(ja5 (jbe (i:=3) sc.nd rfl (Or.inl rfl) (jcw (qv 0) T.cl D_spread.m G_spread (hr.mono (by decide)) D_spread.b .nil jbt (ja0 (qv 1) jah))) (ja5 (jbe (i:=4) sc.nd rfl (Or.inl rfl) (jcd jah)) (ja5 (jbe (i:=5) sc.nd rfl (Or.inl rfl) (qv 2)) (ja5 (jdp PassesOwn.never (jbw jql (jrb hu (qv 3) (qv 5)) jgw (jbv _)) (ja5 (jby (q_bm PySem.F.plainAttrs_list PySem.F.slot_list_append PySem.F.type_list_append jc5 (qv 4) (ja0 (jd4 hu (qv 3) (qv 5) (fun _ _=>rfl)) jah))) (jan (jbe (i:=5) sc.nd rfl (Or.inl rfl) (jbk q_ix (jcf T.cl T.n_heads (qv 0) rfl) (jc6 jr9 (jd4 hu (qv 3) (qv 5) (fun _ _=>rfl)) jak) (fun _ _=>rfl)))))) (jan (jbq (qv 4))))))),?_⟩
 have N0:=N
 obtain ⟨⟨dx,W,Hd,ls,e1,e2,e3,e4,e5,n1,n2,n3⟩,eR,net,hlen,hbig,hn⟩:=N
 refine jbd fun R' hR=>?_
 simp_all_arith [e1,jgz]
 refine ⟨p,s,R,wf,hs,m,n,r,rfl,N0,s0,s1,fun d H1 hd q1 ed=>?_⟩
 subst hR
 refine jbd fun R' hR=>?_
 walk_at "ND"
 intro l hl
 have q2:=q1.trans (jai hl (.lst []))
 have ed2:=jai hl (.lst []) _ _ ed
 have el:upd H1 l (.lst []) l = some (.lst []):=ja1
 have hlH:H l = none:=q1.free hl
 have ld:l ≠ d:=(ja6 ed hl).symm
 generalize upd H1 l (.lst []) = H2 at q2 ed2 el
 subst hR
 refine jbd fun R' hR=>?_
 walk_at "ND"
 subst hR
 refine jbd fun R' hR=>?_
 have Cm:=Fl.spr_cam (r:=r) (s:=s) net.from' n
 have hcl:=Fl.cb_len (r:=r) net ⟨s0,s1⟩ n
 have htl:=Fl.trail_len (hs:=hs) (cb:=Fl.cbOf wf hs n s r) n t
 have htr:Fl.trOf wf hs n s t r = Fl.trailN hs (Fl.cbOf wf hs n s r) n t:=rfl
 rw [htr] at h
 generalize hcb:Fl.cbOf wf hs n s r = cb at *
 unfold Fl.cbOf at hcb
 rw [hcb] at Cm hcl
 refine jf4 (fun σ Hc=>∃ (v:Int) (tr:List Nat),σ = [some (.ref p),some (.int s),some (.int t),some (.ref d),some (.ref l),some (.int v)]∧Same H Hc∧Hc d = some (.dK (cbK cb))∧Hc l = some (.lst (nv tr))∧Fl.trailN hs cb n t = tr ++ Fl.trailN hs cb n v) (fun σ _=>match σ with | [_,_,_,_,_,some (.int v)]=>(Fl.trailN hs cb n v).length | _=>0) ⟨t,[],rfl,q2,ed2,el,rfl⟩ ?_ ?_
 ·rintro σ Hc ⟨v,tr,rfl,s3,ed3,el3,htv⟩
  simp_all_arith [ed3,jou,oV_isN]
  refine ⟨⟨_,rfl⟩,?_⟩
  cases hlk:Fl.lk cb v with
  | none =>
   simp_all_arith [Option.isNone]
   subst hR
   walk_at "ND"
   rw [Fl.trail_end hlk,List.append_nil] at htv
   exact h l Hc hlH s3 (by rw [htv]; exact el3)
  | some w =>
   obtain ⟨hnx,hw⟩:=Fl.trail_next Cm hcl hlk
   have hm:=Fl.mate_lt hw
   have hh:atI (hs.map V.int) ((Fl.mate w:Nat):Int) = some (.int (Fl.at' hs (Fl.mate w))):=jf0 (by rw [net.len]; exact hm)
   have hval:=js9 hlk
   have htl2:tr.length ≤ n:=by
    have:=congrArg List.length htv
    rw [List.length_append] at this
    omega
   simp_all_arith [Option.isNone,el3,ed3,hval]
   refine ⟨⟨l,_,rfl,el3⟩,?_⟩
   have hnl:(nv tr).length = tr.length:=List.length_map _
   refine ⟨szl' (by omega),?_⟩
   have ed4:upd Hc l (.lst (nv tr ++ [.int (w:Int)])) d = some (.dK (cbK cb)):=by rw [jaj (Ne.symm ld)]; exact ed3
   have s4:Same H (upd Hc l (.lst (nv tr ++ [.int (w:Int)]))):=jbh s3 hlH
   have el4:upd Hc l (.lst (nv tr ++ [.int (w:Int)])) l = some (.lst (nv (tr ++ [w]))):=by rw [ja1]; unfold nv; rw [List.map_append]; rfl
   generalize upd Hc l (.lst (nv tr ++ [.int (w:Int)])) = H4 at ed4 s4 el4
   simp_all_arith [jbl,s4 _ _ e1,jok,s4 _ _ e5,ed4,hval,jhd,hh]
   refine ⟨⟨_,_,rfl,s4,el4,?_⟩,?_⟩
   ·rw [htv,hnx,List.append_assoc]
    rfl
   ·rw [hnx,List.length_cons]
    omega
 ·intro σ Hc Q1 Q2 hq hc
  unfold fB tOp jae fVar at hc ⊢
  cases e:σ[3]? with
  | none=>rw [e] at hc; exact hc.elim
  | some ov =>
   rw [e] at hc
   cases ov with
   | none=>exact hc.elim
   | some u =>
    dsimp only at hc ⊢
    cases u with
    | ref a =>
     dsimp only at hc ⊢
     refine ⟨hc.1,?_⟩
     have hc:=hc.2
     cases e3:σ[5]? with
     | none=>rw [e3] at hc; exact hc.elim
     | some ov3 =>
      rw [e3] at hc
      cases ov3 with
      | none=>exact hc.elim
      | some u3 =>
       dsimp only at hc ⊢
       cases u3 with
       | int i =>
        dsimp only at hc ⊢
        cases e4:Hc a with
        | none=>rw [e4] at hc; exact hc.elim
        | some ob =>
         rw [e4] at hc
         cases ob with
         | dK kvs=>dsimp only [tC,fIsN] at hc ⊢; exact hq _ _ hc
         | _=>exact hc.elim
       | _=>exact hc.elim
    | _=>exact hc.elim
end
end My
namespace My
open PySem L2
section
variable {P:Program} {w:World} {K:PySem.W.Frag} {mg:Str→Option Value} {base:Heap} {c1 c2 c3 c4:Tok} {C_Net C_NoWeb f_NoWeb:Addr} {dI:FuncData}
theorem jg0 (r:List Int) (w:Nat) (x:Int):(r.map V.int).set w (.int x) = (r.set w x).map V.int:=by rw [List.map_set]
theorem jlt {i:Nat} {σ:St} {H:Hp} {Q Q':Bool→Hp→Prop} (hq:∀ b H1,Q b H1→Q' b H1) (hc:jaq (fVar i) σ H Q):jaq (fVar i) σ H Q':=by
 unfold jaq fVar at hc ⊢
 cases e:σ[i]? with
 | none=>rw [e] at hc; exact hc.elim
 | some ov =>
  rw [e] at hc
  cases ov with
  | none=>exact hc.elim
  | some u =>
   dsimp only at hc ⊢
   cases u with
   | ref a =>
    dsimp only at hc ⊢
    cases e4:H a with
    | none=>rw [e4] at hc; exact hc.elim
    | some ob =>
     rw [e4] at hc
     cases ob with
     | lst xs=>exact hq _ _ hc
     | _=>exact hc.elim
   | _=>exact hc.elim
theorem jrl {f:Addr} {fd:FuncData}  (B:Blt mg) (D:MthAt K C_Net "push" "Net.push" (meth 9 5) ["self","trail"] f fd) (T:NetC K mg C_Net):FnOk P w K mg base CX0 1 f fd ["self","trail"] (jqd C_Net):=by
 have sc:FnScope ["self","trail","amount","way"] ["self","trail"] (jbc (meth 9 5)):=⟨rfl,rfl,rfl,by decide +kernel,rfl,by decide +kernel,by decide +kernel⟩
 refine D.F.ok sc (fun vs H Q E h=>?_) (fun cdv A outer s H vs Q E hr h=>?_)
 ·obtain ⟨p,l,R,wf,hs,m,n,r,tr,rfl,_⟩:=h
  rfl
 obtain ⟨p,l,R,wf,hs,m,n,r,tr,rfl,N,el,lR,tr0,htl,hw,h⟩:=h
 have hu:=jcb hr
 have hu0:_ < PySem.cLine:=Nat.lt_of_succ_lt hu
 refine ⟨_,(ja5 (jbe (i:=2) sc.nd rfl (Or.inl rfl) (jbp (jju rfl) rfl B.min PyProof.Rows.boot_min (ja0 (jcg (CpScope.of (N:=["way","self"]) (src:=[none,some 0]) (by rfl)) rfl (jbx (qv 1)) (fun _ _ _ _=>(jbb (i:=0) (jbj (l:=["way","self"]) (by rfl)) rfl (Or.inl rfl))) (fun _ _ _ _=>jdz) (fun _ _ _ _=>(jbk q_ix (jcf T.cl T.n_rooms (qv 1) rfl) (qv 0) (fun _ _=>rfl)))) jah))) (ja5 (jca PassesOwn.never rfl (jbx (qv 1)) (jbb (i:=3) sc.nd rfl (Or.inl rfl)) (ja5 (jnr (jcf T.cl T.n_rooms (qv 0) rfl) (qv 3) jjr (qv 2) jrw jgu) (jan (jnr (jcf T.cl T.n_rooms (qv 0) rfl) (jc6 jr9 (qv 3) jak) jjr (qv 2) jrx jgu)))) (jan (jbq (qv 2))))),?_⟩
 have N0:=N
 obtain ⟨⟨dx,W,Hd,ls,e1,e2,e3,e4,e5,n1,n2,n3⟩,eR,net,hlen,hbig,hn⟩:=N
 have hnl:(nv tr).length = tr.length:=List.length_map _
 refine jbd fun R' hR=>?_
 walk_at "ND"
 refine jbr (Itl K l) H (fun R2 hR2=>?_) (fun z hz0=>jc3 tr.length (fun i σ' Hc=>∃ w1,σ' = [w1,some (.ref p)]∧Same H Hc∧Hc z = some (.lst (((tr.take i).map (Fl.at' r)).map V.int))) ⟨none,rfl,jai hz0 _,ja1⟩ ?_ ?_)
 ·unfold jcu
  walk_at "ND"
  exact ⟨l,rfl,⟨_,SqL.of el⟩,hR2⟩
 ·rintro i σ' Hc hi ⟨w1,rfl,s7,ez⟩
  have x1:(nv tr)[i]? = some (.int ((tr[i]:Nat):Int)):=by unfold nv; rw [List.getElem?_map,List.getElem?_eq_getElem hi]; rfl
  have x2:tr[i]? = some tr[i]:=List.getElem?_eq_getElem hi
  have hwi:=hw _ (List.getElem_mem hi)
  generalize tr[i] = wi at x1 x2 hwi
  refine ⟨⟨_,_,SqL.of (s7 _ _ el),x1⟩,?_⟩
  rintro y H' ⟨rfl,hy⟩
  have E1:=Option.some.inj (x1.symm.trans (hy _ (SqL.of (s7 _ _ el))))
  subst E1
  have hr':atI (r.map V.int) (wi:Int) = some (.int (Fl.at' r wi)):=jf0 (by rw [hlen]; exact hwi)
  simp_all_arith [jbl,s7 _ _ e1,jkx,s7 _ _ eR,hr']
  refine ⟨_,ez,?_,_,rfl,jbh s7 hz0,?_⟩
  ·rw [List.length_map,List.length_map,List.length_take]
   exact szl' (by omega)
  ·rw [ja1,jbn x2,List.map_append,List.map_append]
   rfl
 ·rintro σ' Hc ⟨w1,rfl,s7,ez⟩
  refine ⟨⟨_,SqL.of (s7 _ _ el),by omega⟩,?_⟩
  rw [List.take_length] at ez
  refine ⟨z,_,rfl,ez,by simpa using tr0,fun a ha hmin=>?_⟩
  have hae:a = Fl.minR r tr:=by
   have h1:=hmin _ (Fl.minR_mem r tr0)
   obtain ⟨w,hwt,rfl⟩:=List.mem_map.mp ha
   have h2:=Fl.minR_le r hwt
   omega
  subst hae
  generalize Fl.minR r tr = a at *
  walk_at "ND"
  subst hR
  refine jbd fun R' hR=>?_
  have zR:z ≠ R:=(ja6 eR hz0).symm
  refine jbo (Itl K l) Hc (fun R3 hR3=>?_) (jc9 (K:=K) (a:=l) (xs:=nv tr) (fun i σ H4=>∃ v3,σ = [some (.ref p),some (.ref l),some (.int a),v3]∧But R H H4∧H4 R = some (.lst ((Fl.push r (tr.take i) a).map V.int))) ⟨none,rfl,fun b o _ q=>s7 b o q,s7 _ _ eR⟩ (fun i σ H4 _ ⟨_,_,s4,_⟩=>SqL.of (s4 _ _ lR el)) ?_ ?_)
  ·unfold jcu
   walk_at "ND"
   exact ⟨l,rfl,⟨_,SqL.of (s7 _ _ el)⟩,hR3⟩
  ·rintro i x σ H4 hx ⟨v3,rfl,s4,eR4⟩
   unfold nv at hx
   rw [List.getElem?_map] at hx
   obtain ⟨w,hwt,rfl⟩:=Option.map_eq_some_iff.mp hx
   have hwm:=hw w (List.mem_of_getElem? hwt)
   have hmm:=Fl.mate_lt hwm
   have hpl:(Fl.push r (tr.take i) a).length = 2 * m:=by rw [Fl.push_len]; exact hlen
   have hps:Fl.push r (tr.take (i + 1)) a = Fl.bump (Fl.push r (tr.take i) a) w a:=by rw [jbn hwt,Fl.push_snoc]
   generalize Fl.push r (tr.take i) a = r1 at *
   have e14:=s4 _ _ n3 e1
   have h1:atI (r1.map V.int) (w:Int) = some (.int (Fl.at' r1 w)):=jf0 (by omega)
   have hx1:ixN (r1.map V.int).length (w:Int) = some w:=joe (by rw [List.length_map]; omega)
   refine jbd fun R5 hR5=>?_
   simp_all_arith [e14,jkx,eR4,h1,hx1]
   refine ⟨Int.natCast_nonneg _,?_⟩
   rw [jg0]
   have b5:But R H (upd H4 R (.lst ((r1.set w (Fl.at' r1 w - a)).map V.int))):=s4.trans (But.at R H4 _)
   have e15:=b5 _ _ n3 e1
   have eR5:upd H4 R (.lst ((r1.set w (Fl.at' r1 w - a)).map V.int)) R = some (.lst ((r1.set w (Fl.at' r1 w - a)).map V.int)):=ja1
   generalize upd H4 R (.lst ((r1.set w (Fl.at' r1 w - a)).map V.int)) = H5 at b5 e15 eR5
   have hl2:(r1.set w (Fl.at' r1 w - a)).length = 2 * m:=by rw [List.length_set]; exact hpl
   have h2:atI ((r1.set w (Fl.at' r1 w - a)).map V.int) ((Fl.mate w:Nat):Int) = some (.int (Fl.at' r1 (Fl.mate w))):=by
    rw [jf0 (by omega),Fl.at_set,if_neg (fun z=>Fl.mate_ne w z.1.symm)]
   have hx2:ixN ((r1.set w (Fl.at' r1 w - a)).map V.int).length ((Fl.mate w:Nat):Int) = some (Fl.mate w):=joe (by rw [List.length_map]; omega)
   subst hR5
   simp_all_arith [e15,jkx,eR5,jhd,h2,hx2]
   refine ⟨Int.natCast_nonneg _,_,rfl,b5.trans (But.at R H5 _),?_⟩
   rw [ja1,hps,jg0]
   rfl
  ·rintro σ H4 ⟨v3,rfl,s4,eR4⟩
   rw [hnl,List.take_length] at eR4
   subst hR
   walk_at "ND"
   exact h H4 s4 eR4
theorem jrn {f:Addr} {fd:FuncData} {f_shortest:Addr} {d_shortest:FuncData} {f_push:Addr} {d_push:FuncData} (B:Blt mg) (D:MthAt K C_Net "fill" "Net.fill" (meth 9 2) ["self","source","sink"] f fd) (D_shortest:MthAt K C_Net "shortest" "Net.shortest" (meth 9 3) ["self","source","sink"] f_shortest d_shortest) (G_shortest:FnOk P w K mg base CX0 2 f_shortest d_shortest ["self","source","sink"] (jn4 C_Net)) (D_push:MthAt K C_Net "push" "Net.push" (meth 9 5) ["self","trail"] f_push d_push) (G_push:FnOk P w K mg base CX0 1 f_push d_push ["self","trail"] (jqd C_Net)) (T:NetC K mg C_Net):FnOk P w K mg base CX0 3 f fd ["self","source","sink"] (jqg C_Net):=by
 have sc:FnScope ["self","source","sink","flowing","trail"] ["self","source","sink"] (jbc (meth 9 2)):=⟨rfl,rfl,rfl,by decide +kernel,rfl,by decide +kernel,by decide +kernel⟩
 refine D.F.ok sc (fun vs H Q E h=>?_) (fun cdv A outer s H vs Q E hr h=>?_)
 ·obtain ⟨p,s,t,R,wf,hs,m,n,r,cap,rfl,_⟩:=h
  rfl
 obtain ⟨p,s,t,R,wf,hs,m,n,r,cap,rfl,N,st,s0,s1,rm,h⟩:=h
 have hu:=jcb hr
 have hu0:_ < PySem.cLine:=Nat.lt_of_succ_lt hu
 refine ⟨_,(ja5 (jbe (i:=3) sc.nd rfl (Or.inl rfl) jak) (ja5 (jbe (i:=4) sc.nd rfl (Or.inl rfl) (jcw (qv 0) T.cl D_shortest.m G_shortest (hr.mono (by decide)) D_shortest.b .nil jbt (ja0 (qv 1) (ja0 (qv 2) jah)))) (ja5 (jdp PassesOwn.never (jnp (qv 4)) (ja5 (jlh (i:=3) sc.nd rfl (Or.inl rfl) (jcw (qv 0) T.cl D_push.m G_push (hr.mono (by decide)) D_push.b .nil jbt (ja0 (qv 4) jah)) jlj) (jan (jbe (i:=4) sc.nd rfl (Or.inl rfl) (jcw (qv 0) T.cl D_shortest.m G_shortest (hr.mono (by decide)) D_shortest.b .nil jbt (ja0 (qv 1) (ja0 (qv 2) jah))))))) (jan (jbq (qv 3)))))),?_⟩
 refine jbd fun R' hR=>?_
 walk_at "ND"
 subst hR
 refine jbd fun R' hR=>?_
 obtain ⟨dx,W,Hd,ls,e1,e2,e3,e4,e5,n1,n2,n3⟩:=N.st
 simp_all_arith [e1,jey]
 refine ⟨p,s,t,R,wf,hs,m,n,r,rfl,N,s0,s1,fun l H1 hl q1 el=>?_⟩
 have lR:l ≠ R:=(ja6 N.eR hl).symm
 subst hR
 refine jbd fun R' hR=>?_
 refine jf4 (fun σ Hc=>∃ (x:Int) (l:Addr) (r1:List Int),σ = [some (.ref p),some (.int s),some (.int t),some (.int x),some (.ref l)]∧But R H Hc∧Hc R = some (.lst (r1.map V.int))∧Fl.Runs wf hs n s t r r1∧Fl.Rooms m cap r1∧Hc l = some (.lst (nv (Fl.trOf wf hs n s t r1)))∧l ≠ R) (fun _ Hc=>match Hc R with | some (.lst xs)=>(Fl.capSum cap m - Fl.ex hs m (unI xs) t).toNat | _=>0) ⟨0,l,r,rfl,fun b o _ q=>q1 b o q,q1 _ _ N.eR,.done r,rm,el,lR⟩ ?_ ?_
 ·rintro σ Hc ⟨x,l,r1,rfl,b2,eR2,run,rm1,el2,lR⟩
  have N2:=N.but b2 eR2 rm1.len
  have e12:=b2 _ _ n3 e1
  by_cases ct:Fl.trOf wf hs n s t r1 = []
  ·have hst:Fl.stp wf hs n s t r1 = none:=by unfold Fl.stp; rw [if_pos ct]
   have hne:(nv (Fl.trOf wf hs n s t r1)).isEmpty = true:=by rw [ct]; rfl
   simp_all_arith [el2,hne]
   subst hR
   walk_at "ND"
   exact h x r1 Hc run hst b2 eR2
  ·have hst:Fl.stp wf hs n s t r1 = some (Fl.push r1 (Fl.trOf wf hs n s t r1) (Fl.minR r1 (Fl.trOf wf hs n s t r1))):=by unfold Fl.stp; rw [if_neg ct]
   have hne:(nv (Fl.trOf wf hs n s t r1)).isEmpty = false:=by unfold nv; cases hq:Fl.trOf wf hs n s t r1 with | nil=>exact absurd hq ct | cons _ _=>rfl
   obtain ⟨_,gi,G⟩:=Fl.tr_in N.net st ⟨s0,s1⟩ ct
   have hk:=Fl.step_keeps N.net st ⟨s0,s1⟩ rm1 hst
   have hle:=Fl.trail_len (hs:=hs) (cb:=Fl.cbOf wf hs n s r1) n t
   simp_all_arith [el2,hne,e12,jpp]
   refine ⟨p,l,R,wf,hs,m,n,r1,_,rfl,N2,el2,lR,ct,Nat.le_trans hle N.n200,fun w hw=>(G.up w hw).1,fun H3 b3 eR3=>?_⟩
   have b4:=b2.trans b3
   have N3:=N2.but b3 eR3 (by rw [Fl.push_len]; exact rm1.len)
   simp_all_arith [b4 _ _ n3 e1,jey]
   refine ⟨p,s,t,R,wf,hs,m,n,_,rfl,N3,s0,s1,fun l2 H5 hl2 q5 el5=>?_⟩
   have eR5:=q5 _ _ eR3
   refine ⟨⟨_,l2,_,rfl,b4.trans fun b o _ q=>q5 b o q,eR5,run.snoc hst,hk.1,el5,(ja6 eR3 hl2).symm⟩,?_⟩
   rw [eR5,eR2]
   dsimp only
   rw [jmv,jmv]
   have:=hk.2.2
   have:=Fl.ex_le (hs:=hs) hk.1 t
   omega
 ·intro σ Hc Q1 Q2 hq hc
  exact jlt hq hc
end
end My
namespace My
open PySem L2
section
variable {P:Program} {w:World} {K:PySem.W.Frag} {mg:Str→Option Value} {base:Heap} {c1 c2 c3 c4:Tok} {C_Net C_NoWeb f_NoWeb:Addr} {dI:FuncData}
structure NtG (C:Addr) (H:Hp) (p dx W Hd R:Addr) (ls:List Addr) (f:Nat→List V) (hv rv:List V):Prop where
 o:H p = some (netO C dx W Hd R)
 w:H W = some (.lst (ls.map V.ref))
 l:∀ (i:Nat) (a:Addr),ls[i]? = some a→H a = some (.lst (f i))∧a ≠ R∧a ≠ Hd∧a ≠ W
 nd:ls.Nodup
 h:H Hd = some (.lst hv)
 r:H R = some (.lst rv)
 n1:W ≠ R
 n2:Hd ≠ R
 n3:W ≠ Hd
def putH (H:Hp) (wa Hd R:Addr) (a b c:List V):Hp:=upd (upd (upd H wa (.lst a)) Hd (.lst b)) R (.lst c)
theorem NtG.put {C:Addr} {H:Hp} {p dx W Hd R:Addr} {ls:List Addr} {f:Nat→List V} {hv rv:List V} (G:NtG C H p dx W Hd R ls f hv rv) {i:Nat} {wa:Addr} (hi:ls[i]? = some wa) (x y z:V) :
  NtG C (putH H wa Hd R (f i ++ [x]) (hv ++ [y]) (rv ++ [z])) p dx W Hd R ls (fun j=>if j = i then f i ++ [x] else f j) (hv ++ [y]) (rv ++ [z]):=by
 obtain ⟨a1,a2,a3,a4⟩:=G.l i wa hi
 have p1:p ≠ wa:=jgk G.o a1 (by intro z; cases z)
 have p2:p ≠ Hd:=jgk G.o G.h (by intro z; cases z)
 have p3:p ≠ R:=jgk G.o G.r (by intro z; cases z)
 unfold putH
 refine ⟨by rw [jaj p3,jaj p2,jaj p1]; exact G.o,by rw [jaj G.n1,jaj G.n3,jaj (Ne.symm a4)]; exact G.w,fun j a ha=>?_,G.nd,by rw [jaj G.n2,ja1],ja1,G.n1,G.n2,G.n3⟩
 obtain ⟨b1,b2,b3,b4⟩:=G.l j a ha
 refine ⟨?_,b2,b3,b4⟩
 rw [jaj b2,jaj b3]
 by_cases c:j = i
 ·subst c
  rw [hi] at ha
  cases ha
  rw [if_pos rfl,ja1]
 ·rw [if_neg c,jaj (fun e=>c ?_)]
  ·exact b1
  ·subst e
   have h1:=(List.getElem?_eq_some_iff.mp ha)
   have h2:=(List.getElem?_eq_some_iff.mp hi)
   exact (List.getElem_inj G.nd).mp (h1.2.trans h2.2.symm)
def jla (C:Addr):Sp:=fun vs H Q _=>∃ p dx W Hd R ls f hv rv i wa hd rm,vs = [.ref p,.int ((i:Nat):Int),.int hd,.int rm]∧NtG C H p dx W Hd R ls f hv rv∧ls[i]? = some wa∧(f i).length ≤ 900∧hv.length ≤ 900∧rv.length ≤ 900∧Q .non (putH H wa Hd R (f i ++ [.int (hv.length:Int)]) (hv ++ [.int hd]) (rv ++ [.int rm]))
def jqf (C:Addr):Sp:=fun vs H Q _=>∃ p dx n al zs as,vs = [.ref p,.int ((n:Nat):Int),.ref al]∧H p = some (.ins C dx [])∧H al = some (.lst zs)∧Tps H zs as∧n ≤ 200∧as.length ≤ 450∧(∀ a ∈ as,(0 ≤ a.1∧a.1 < (n:Int))∧0 ≤ a.2.1∧a.2.1 < (n:Int))∧∀ R H',H R = none→But p H H'→Nt C H' p R (Fl.wfA as) (Fl.hsA as) as.length n (Fl.rmA as)→Q .non H'
theorem wfA_le (as:List Fl.Arc) (u:Int):(Fl.wfA as u).length ≤ 2 * as.length:=by
 unfold Fl.wfA
 have:=List.length_filter_le (fun w=>decide (Fl.at' (Fl.hsA as) (Fl.mate w) = u)) (List.range (2 * as.length))
 rw [List.length_range] at this
 exact this
theorem But.upd {p q:Addr} {H H':Hp} {o:HO} (b:But p H H') (h:H q = none):But p H (upd H' q o):=fun c u n e=>by rw [jaj (ja6 e h)]; exact b c u n e
theorem jqm (a b:List Nat):nv (a ++ b) = nv a ++ nv b:=List.map_append
theorem jmd {f:Addr} {fd:FuncData}  (B:Blt mg) (D:MthAt K C_Net "put_way" "Net.put_way" (meth 9 1) ["self","tail","head","room"] f fd) (T:NetC K mg C_Net):FnOk P w K mg base CX0 1 f fd ["self","tail","head","room"] (jla C_Net):=by
 have sc:FnScope ["self","tail","head","room"] ["self","tail","head","room"] (jbc (meth 9 1)):=⟨rfl,rfl,rfl,by decide +kernel,rfl,by decide +kernel,by decide +kernel⟩
 refine D.F.ok sc (fun vs H Q E h=>?_) (fun cdv A outer s H vs Q E hr h=>?_)
 ·obtain ⟨p,dx,W,Hd,R,ls,f,hv,rv,i,wa,hd,rm,rfl,_⟩:=h
  rfl
 obtain ⟨p,dx,W,Hd,R,ls,f,hv,rv,i,wa,hd,rm,rfl,G,hi,l1,l2,l3,h⟩:=h
 have hu:=jcb hr
 have hu0:_ < PySem.cLine:=Nat.lt_of_succ_lt hu
 refine ⟨_,(ja5 (jby (q_bm PySem.F.plainAttrs_list PySem.F.slot_list_append PySem.F.type_list_append jc5 (jbk q_ix (jcf T.cl T.n_ways_from (qv 0) rfl) (qv 1) (fun _ _=>rfl)) (ja0 (jbp jfp rfl B.len PySem.boot_len (ja0 (jcf T.cl T.n_heads (qv 0) rfl) jah)) jah))) (ja5 (jby (q_bm PySem.F.plainAttrs_list PySem.F.slot_list_append PySem.F.type_list_append jc5 (jcf T.cl T.n_heads (qv 0) rfl) (ja0 (qv 2) jah))) (jan (jby (q_bm PySem.F.plainAttrs_list PySem.F.slot_list_append PySem.F.type_list_append jc5 (jcf T.cl T.n_rooms (qv 0) rfl) (ja0 (qv 3) jah)))))),?_⟩
 have e1:=G.o
 have e2:=G.w
 have e3:=G.h
 have hat:=joy hi
 obtain ⟨a1,a2,a3,a4⟩:=G.l i wa hi
 have p1:p ≠ wa:=jgk G.o a1 (by intro z; cases z)
 have p2:p ≠ Hd:=jgk G.o G.h (by intro z; cases z)
 refine jbd fun R' hR=>?_
 simp_all_arith [jbl,e1,js4,jok,e2,hat,a1,e3]
 refine ⟨⟨wa,_,rfl,a1⟩,szl' (by omega),?_⟩
 have e4:upd H wa (.lst (f i ++ [.int (hv.length:Int)])) p = some (netO C_Net dx W Hd R):=by rw [jaj p1]; exact e1
 have e5:upd H wa (.lst (f i ++ [.int (hv.length:Int)])) Hd = some (.lst hv):=by rw [jaj (Ne.symm a3)]; exact e3
 have e6:upd H wa (.lst (f i ++ [.int (hv.length:Int)])) R = some (.lst rv):=by rw [jaj (Ne.symm a2)]; exact G.r
 subst hR
 refine jbd fun R' hR=>?_
 simp_all_arith [e4,jok,e5]
 refine ⟨⟨Hd,_,rfl,e5⟩,szl' (by omega),?_⟩
 have e7:upd (upd H wa (.lst (f i ++ [.int (hv.length:Int)]))) Hd (.lst (hv ++ [.int hd])) p = some (netO C_Net dx W Hd R):=by rw [jaj p2]; exact e4
 have e8:upd (upd H wa (.lst (f i ++ [.int (hv.length:Int)]))) Hd (.lst (hv ++ [.int hd])) R = some (.lst rv):=by rw [jaj (Ne.symm G.n2)]; exact e6
 subst hR
 simp_all_arith [e7,jkx,e8]
 exact ⟨⟨R,_,rfl,e8⟩,szl' (by omega),h⟩
end
end My
namespace My
open PySem L2
section
variable {P:Program} {w:World} {K:PySem.W.Frag} {mg:Str→Option Value} {base:Heap} {c1 c2 c3 c4:Tok} {C_Net C_NoWeb f_NoWeb:Addr} {dI:FuncData}
theorem Tp.tups {H H':Hp} {v:V} {p:Int × Int × Int} (h:Tp H v p) (s:TupS H H'):Tp H' v p:=let ⟨a,e,q⟩:=h; ⟨a,e,s _ _ rfl q⟩
theorem jcv {H H':Hp} (s:TupS H H'):∀ {xs:List V} {ps:List (Int × Int × Int)},Tps H xs ps→Tps H' xs ps
 | _,_,.nil=>.nil
 | _,_,.cons r t=>.cons (Tp.tups r s) (jcv s t)
theorem NtG.congr {C:Addr} {H:Hp} {p dx W Hd R:Addr} {ls:List Addr} {f g:Nat→List V} {hv rv hv' rv':List V} (G:NtG C H p dx W Hd R ls f hv rv) (h:∀ i,i < ls.length→f i = g i) (e1:hv = hv') (e2:rv = rv'):NtG C H p dx W Hd R ls g hv' rv':=by
 subst e1 e2
 exact ⟨G.o,G.w,fun i a ha=>by rw [← h i (List.getElem?_eq_some_iff.mp ha).1]; exact G.l i a ha,G.nd,G.h,G.r,G.n1,G.n2,G.n3⟩
theorem jll {p wa Hd R:Addr} {H H':Hp} {a b c:List V} (s:But p H H') (h1:H wa = none) (h2:H Hd = none) (h3:H R = none):But p H (putH H' wa Hd R a b c):=((s.upd h1).upd h2).upd h3
theorem jr0 {as:List Fl.Arc} {a:Fl.Arc} {i1 i2 j:Nat} (h1:a.1 = (i1:Int)) (h2:a.2.1 = (i2:Int)) {x y:V} (hx:x = .int ((2 * as.length:Nat):Int)) (hy:y = .int ((2 * as.length + 1:Nat):Int)) :
  (if j = i2 then (if i2 = i1 then nv (Fl.wfA as (i1:Int)) ++ [x] else nv (Fl.wfA as (i2:Int))) ++ [y] else (if j = i1 then nv (Fl.wfA as (i1:Int)) ++ [x] else nv (Fl.wfA as (j:Int)))) = nv (Fl.wfA (as ++ [a]) (j:Int)):=by
 rw [Fl.wfA_snoc,jqm,jqm,h1,h2,hx,hy]
 by_cases c1:j = i1
 ·by_cases c2:j = i2
  ·have:i2 = i1:=by omega
   subst c2
   subst this
   rw [if_pos rfl,if_pos rfl,if_pos rfl,if_pos rfl]
   rfl
  ·subst c1
   rw [if_neg c2,if_pos rfl,if_pos rfl,if_neg (by omega)]
   show _ = _ ++ []
   rw [List.append_nil]
   rfl
 ·by_cases c2:j = i2
  ·subst c2
   rw [if_pos rfl,if_neg c1,if_neg (by omega),if_pos rfl]
   show _ = (_ ++ []) ++ _
   rw [List.append_nil]
   rfl
  ·rw [if_neg c2,if_neg c1,if_neg (by omega),if_neg (by omega)]
   show _ = (_ ++ []) ++ []
   rw [List.append_nil,List.append_nil]
theorem jrm {f:Addr} {fd:FuncData} {f_put_way:Addr} {d_put_way:FuncData} (B:Blt mg) (D:MthAt K C_Net "__init__" "Net.__init__" (meth 9 0) ["self","many","arcs"] f fd) (D_put_way:MthAt K C_Net "put_way" "Net.put_way" (meth 9 1) ["self","tail","head","room"] f_put_way d_put_way) (G_put_way:FnOk P w K mg base CX0 1 f_put_way d_put_way ["self","tail","head","room"] (jla C_Net)) (T:NetC K mg C_Net):FnOk P w K mg base CX0 2 f fd ["self","many","arcs"] (jqf C_Net):=by
 have sc:FnScope ["self","many","arcs","tail","head","room"] ["self","many","arcs"] (jbc (meth 9 0)):=⟨rfl,rfl,rfl,by decide +kernel,rfl,by decide +kernel,by decide +kernel⟩
 refine D.F.ok sc (fun vs H Q E h=>?_) (fun cdv A outer s H vs Q E hr h=>?_)
 ·obtain ⟨p,dx,n,al,zs,as,rfl,_⟩:=h
  rfl
 obtain ⟨p,dx,n,al,zs,as,rfl,ep,eal,pz,hn,ha,hok,h⟩:=h
 have hu:=jcb hr
 have hu0:_ < PySem.cLine:=Nat.lt_of_succ_lt hu
 refine ⟨_,(ja5 (jkc T.cl T.n_ways_from (qv 0) (jcg (CpScope.of (N:=["knot"]) (src:=[none]) (by rfl)) rfl (jdl rfl B.range (ja0 (qv 1) jah)) (fun _ _ _ _=>(jbb (i:=0) (jbj (l:=["knot"]) (by rfl)) rfl (Or.inl rfl))) (fun _ _ _ _=>jdz) (fun _ _ _ _=>(jcd jah))) rfl) (ja5 (jkc T.cl T.n_heads (qv 0) (jcd jah) rfl) (ja5 (jkc T.cl T.n_rooms (qv 0) (jcd jah) rfl) (jan (jca PassesOwn.never rfl (jbx (qv 2)) (jcr (n:=3) rfl (jbf (jbb (i:=3) sc.nd rfl (Or.inl rfl)) (jbf (jbb (i:=4) sc.nd rfl (Or.inl rfl)) (jbf (jbb (i:=5) sc.nd rfl (Or.inl rfl)) jcc)))) (ja5 (jby (jcw (qv 0) T.cl D_put_way.m G_put_way (hr.mono (by decide)) D_put_way.b .nil jbt (ja0 (qv 3) (ja0 (qv 4) (ja0 (qv 5) jah))))) (jan (jby (jcw (qv 0) T.cl D_put_way.m G_put_way (hr.mono (by decide)) D_put_way.b .nil jbt (ja0 (qv 4) (ja0 (qv 3) (ja0 jak jah)))))))))))),?_⟩
 have hlz:zs.length = as.length:=Paired.length pz
 have alp:al ≠ p:=jgk eal ep (by intro z; cases z)
 refine jbd fun R' hR=>?_
 walk_at "ND"
 refine jbr (Itr 0 n) H (fun R2 hR2=>?_) (fun W hW=>jc3 n (fun i σ' Hc=>∃ w1 ls,σ' = [w1]∧Same H Hc∧Hc W = some (.lst (ls.map V.ref))∧ls.length = i∧ls.Nodup∧∀ a ∈ ls,Hc a = some (.lst [])∧a ≠ W∧H a = none) ⟨none,[],rfl,jai hW _,ja1,rfl,.nil,fun a z=>by cases z⟩ ?_ ?_)
 ·unfold jmn
  walk_at "ND"
  exact ⟨_,rfl,by omega,by omega,hR2⟩
 ·rintro i σ' Hc hi ⟨w1,ls,rfl,s1,eW,hl,nd,hls⟩
  refine ⟨hi,?_⟩
  rintro y H' ⟨rfl,rfl⟩
  walk_at "ND"
  intro b hb
  have q:=jai hb (.lst [])
  have eb:upd H' b (.lst []) b = some (.lst []):=ja1
  have eW2:=q _ _ eW
  have bW:b ≠ W:=(ja6 eW hb).symm
  have s2:=s1.trans q
  have hls2:∀ a ∈ ls,upd H' b (.lst []) a = some (.lst [])∧a ≠ b:=fun a ha=>⟨q _ _ (hls a ha).1,ja6 (hls a ha).1 hb⟩
  generalize upd H' b (.lst []) = H3 at q eb eW2 s2 hls2
  refine ⟨_,eW2,by rw [List.length_map]; exact szl' (by omega),_,ls ++ [b],rfl,jbh s2 hW,by rw [ja1,List.map_append]; rfl,by rw [List.length_append,hl]; rfl,?_,fun a ha=>?_⟩
  ·rw [List.nodup_append]
   refine ⟨nd,by simp,fun a ha c hc=>?_⟩
   rw [List.mem_singleton.mp hc]
   exact (hls2 a ha).2
  ·rcases List.mem_append.mp ha with ha | ha
   ·refine ⟨by rw [jaj (hls a ha).2.1]; exact (hls2 a ha).1,(hls a ha).2⟩
   ·rw [List.mem_singleton.mp ha]
    exact ⟨by rw [jaj bW]; exact eb,bW,s1.free hb⟩
 rintro σ' H1 ⟨w1,ls,rfl,s1,eW,hl,nd,hls⟩
 refine ⟨Nat.le_refl _,?_⟩
 have ep1:=s1 _ _ ep
 simp_all_arith [ep1]
 refine ⟨Nat.le_of_ble_eq_true rfl,?_⟩
 have b2:But p H (upd H1 p (.ins C_Net dx (putF "ways_from" (.ref W) []))):=fun b o n q=>by rw [jaj n]; exact s1 b o q
 have ep2:upd H1 p (.ins C_Net dx (putF "ways_from" (.ref W) [])) p = some (.ins C_Net dx (putF "ways_from" (.ref W) [])):=ja1
 have Wp:W ≠ p:=(ja6 ep hW).symm
 have eW2:upd H1 p (.ins C_Net dx (putF "ways_from" (.ref W) [])) W = some (.lst (ls.map V.ref)):=by rw [jaj Wp]; exact eW
 have hls2:∀ a ∈ ls,upd H1 p (.ins C_Net dx (putF "ways_from" (.ref W) [])) a = some (.lst [])∧a ≠ W∧H a = none:=fun a ha=>⟨by rw [jaj (ja6 ep (hls a ha).2.2).symm]; exact (hls a ha).1,(hls a ha).2⟩
 generalize upd H1 p (.ins C_Net dx (putF "ways_from" (.ref W) [])) = H2 at b2 ep2 eW2 hls2
 clear hls eW ep1 s1
 have free:∀ {H':Hp} {q:Addr},But p H H'→H' p ≠ none→H' q = none→H q = none:=fun {H' q} b hp hq=>by
  cases e:H q with
  | none=>rfl
  | some o =>
   have hqp:q ≠ p:=fun z=>hp (by rw [← z]; exact hq)
   rw [b _ _ hqp e] at hq
   cases hq
 subst hR
 refine jbd fun R' hR=>?_
 walk_at "ND"
 intro Hd hHd
 have fHd:H Hd = none:=free b2 (by rw [ep2]; simp) hHd
 have ep3:upd H2 Hd (.lst []) p = some (.ins C_Net dx (putF "ways_from" (.ref W) [])):=jai hHd _ _ _ ep2
 have eHd:upd H2 Hd (.lst []) Hd = some (.lst []):=ja1
 have WHd:W ≠ Hd:=ja6 eW2 hHd
 have hls3:∀ a ∈ ls,upd H2 Hd (.lst []) a = some (.lst [])∧a ≠ Hd:=fun a ha=>⟨jai hHd _ _ _ (hls2 a ha).1,ja6 (hls2 a ha).1 hHd⟩
 have eW3:=jai hHd (.lst []) _ _ eW2
 have b3:But p H (upd H2 Hd (.lst [])):=b2.upd fHd
 generalize upd H2 Hd (.lst []) = H3 at ep3 eHd hls3 eW3 b3
 simp_all_arith [ep3]
 refine ⟨Nat.le_of_ble_eq_true rfl,?_⟩
 have Hdp:Hd ≠ p:=(ja6 ep fHd).symm
 have ep4:upd H3 p (.ins C_Net dx (putF "heads" (.ref Hd) (putF "ways_from" (.ref W) []))) p = some (.ins C_Net dx (putF "heads" (.ref Hd) (putF "ways_from" (.ref W) []))):=ja1
 have eHd4:upd H3 p (.ins C_Net dx (putF "heads" (.ref Hd) (putF "ways_from" (.ref W) []))) Hd = some (.lst []):=by rw [jaj Hdp]; exact eHd
 have eW4:upd H3 p (.ins C_Net dx (putF "heads" (.ref Hd) (putF "ways_from" (.ref W) []))) W = some (.lst (ls.map V.ref)):=by rw [jaj Wp]; exact eW3
 have hls4:∀ a ∈ ls,upd H3 p (.ins C_Net dx (putF "heads" (.ref Hd) (putF "ways_from" (.ref W) []))) a = some (.lst []):=fun a ha=>by rw [jaj (ja6 ep (hls2 a ha).2.2).symm]; exact (hls3 a ha).1
 have b4:But p H (upd H3 p (.ins C_Net dx (putF "heads" (.ref Hd) (putF "ways_from" (.ref W) [])))):=b3.trans (But.at p H3 _)
 generalize upd H3 p (.ins C_Net dx (putF "heads" (.ref Hd) (putF "ways_from" (.ref W) []))) = H4 at ep4 eHd4 eW4 hls4 b4
 subst hR
 refine jbd fun R' hR=>?_
 walk_at "ND"
 intro R hRn
 have fR:H R = none:=free b4 (by rw [ep4]; simp) hRn
 have ep5:upd H4 R (.lst []) p = some (.ins C_Net dx (putF "heads" (.ref Hd) (putF "ways_from" (.ref W) []))):=jai hRn _ _ _ ep4
 have eR5:upd H4 R (.lst []) R = some (.lst []):=ja1
 have eHd5:=jai hRn (.lst []) _ _ eHd4
 have eW5:=jai hRn (.lst []) _ _ eW4
 have WR:W ≠ R:=ja6 eW4 hRn
 have HdR:Hd ≠ R:=ja6 eHd4 hRn
 have hls5:∀ a ∈ ls,upd H4 R (.lst []) a = some (.lst [])∧a ≠ R:=fun a ha=>⟨jai hRn _ _ _ (hls4 a ha),ja6 (hls4 a ha) hRn⟩
 have b5:But p H (upd H4 R (.lst [])):=b4.upd fR
 generalize upd H4 R (.lst []) = H5 at ep5 eR5 eHd5 eW5 hls5 b5
 simp_all_arith [ep5]
 refine ⟨Nat.le_of_ble_eq_true rfl,?_⟩
 have Rp:R ≠ p:=(ja6 ep fR).symm
 have eo:(HO.ins C_Net dx (putF "rooms" (.ref R) (putF "heads" (.ref Hd) (putF "ways_from" (.ref W) [])))) = netO C_Net dx W Hd R:=rfl
 rw [eo]
 have b6:But p H (upd H5 p (netO C_Net dx W Hd R)):=b5.trans (But.at p H5 _)
 have G0:NtG C_Net (upd H5 p (netO C_Net dx W Hd R)) p dx W Hd R ls (fun i=>nv (Fl.wfA (as.take 0) (i:Int))) ((Fl.hsA (as.take 0)).map V.int) ((Fl.rmA (as.take 0)).map V.int):=by
  refine ⟨ja1,by rw [jaj Wp]; exact eW5,fun i a hia=>?_,nd,by rw [jaj Hdp]; exact eHd5,by rw [jaj Rp]; exact eR5,WR,HdR,WHd⟩
  have ha:=List.mem_of_getElem? hia
  exact ⟨by rw [jaj (ja6 ep (hls2 a ha).2.2).symm]; exact (hls5 a ha).1,(hls5 a ha).2,(hls3 a ha).2,(hls2 a ha).2.1⟩
 generalize upd H5 p (netO C_Net dx W Hd R) = H6 at b6 G0
 have fls:∀ a ∈ ls,H a = none:=fun a ha=>(hls2 a ha).2.2
 clear hls2 hls3 hls4 hls5 b2 b3 b4 b5 ep2 ep3 ep4 ep5 eW2 eW3 eW4 eW5 eHd eHd4 eHd5 eR5
 subst hR
 refine jbo (Itl K al) H6 (fun R3 hR3=>?_) (jc9 (K:=K) (a:=al) (xs:=zs) (fun k σ Hc=>∃ v1 v2 v3,σ = [some (.ref p),some (.int (n:Int)),some (.ref al),v1,v2,v3]∧But p H Hc∧NtG C_Net Hc p dx W Hd R ls (fun i=>nv (Fl.wfA (as.take k) (i:Int))) ((Fl.hsA (as.take k)).map V.int) ((Fl.rmA (as.take k)).map V.int)) ⟨none,none,none,rfl,b6,G0⟩ (fun i σ Hc _ ⟨_,_,_,_,b,_⟩=>SqL.of (b _ _ alp eal)) ?_ ?_)
 ·unfold jcu
  walk_at "ND"
  exact ⟨al,rfl,⟨_,SqL.of (b6 _ _ alp eal)⟩,hR3⟩
 ·rintro k x σ Hc hx ⟨v1,v2,v3,rfl,b7,G⟩
  obtain ⟨a,hka,pa⟩:=jbi pz hx
  obtain ⟨t,rfl,et⟩:=Tp.tups pa (b7.tups ep rfl)
  have hkl:=(List.getElem?_eq_some_iff.mp hka).1
  obtain ⟨⟨h1,h2⟩,h3,h4⟩:=hok a (List.mem_of_getElem? hka)
  have i1:ls[a.1.toNat]? = some (ls[a.1.toNat]'(by omega)):=List.getElem?_eq_getElem _
  have i2:ls[a.2.1.toNat]? = some (ls[a.2.1.toNat]'(by omega)):=List.getElem?_eq_getElem _
  generalize ls[a.1.toNat]'(by omega) = w1 at i1
  generalize ls[a.2.1.toNat]'(by omega) = w2 at i2
  have c1:((a.1.toNat:Nat):Int) = a.1:=by omega
  have c2:((a.2.1.toNat:Nat):Int) = a.2.1:=by omega
  have htk:(as.take k).length = k:=by rw [List.length_take]; omega
  have hl1:((Fl.hsA (as.take k)).map V.int).length = 2 * k:=by rw [List.length_map,Fl.hsA_len,htk]
  have hl2:((Fl.rmA (as.take k)).map V.int).length = 2 * k:=by rw [List.length_map,Fl.rmA_len,htk]
  have hl3:∀ u:Int,(nv (Fl.wfA (as.take k) u)).length ≤ 2 * k:=fun u=>by
   have:=wfA_le (as.take k) u
   rw [htk] at this
   unfold nv
   rw [List.length_map]
   exact this
  simp_all_arith [et,G.o,jfz]
  refine ⟨p,dx,W,Hd,R,ls,_,_,_,a.1.toNat,w1,a.2.1,a.2.2,by rw [c1],G,i1,by have:=hl3 ((a.1.toNat:Nat):Int); omega,by omega,by omega,?_⟩
  have G1:=G.put i1 (.int (((Fl.hsA (as.take k)).map V.int).length:Int)) (.int a.2.1) (.int a.2.2)
  have b8:=jll (wa:=w1) (Hd:=Hd) (R:=R) (a:=nv (Fl.wfA (as.take k) ((a.1.toNat:Nat):Int)) ++ [.int (((Fl.hsA (as.take k)).map V.int).length:Int)]) (b:=(Fl.hsA (as.take k)).map V.int ++ [.int a.2.1]) (c:=(Fl.rmA (as.take k)).map V.int ++ [.int a.2.2]) b7 (fls _ (List.mem_of_getElem? i1)) fHd fR
  generalize putH Hc w1 Hd R (nv (Fl.wfA (as.take k) ((a.1.toNat:Nat):Int)) ++ [.int (((Fl.hsA (as.take k)).map V.int).length:Int)]) ((Fl.hsA (as.take k)).map V.int ++ [.int a.2.1]) ((Fl.rmA (as.take k)).map V.int ++ [.int a.2.2]) = H8 at G1 b8
  simp_all_arith [G1.o,jfz]
  refine ⟨p,dx,W,Hd,R,ls,_,_,_,a.2.1.toNat,w2,a.1,0,by rw [c2],G1,i2,?_,by rw [List.length_append,hl1]; show _ + 1 ≤ _; omega,by rw [List.length_append,hl2]; show _ + 1 ≤ _; omega,?_⟩
  ·split
   ·rw [List.length_append]
    have:=hl3 ((a.1.toNat:Nat):Int)
    show _ + 1 ≤ _
    omega
   ·have:=hl3 ((a.2.1.toNat:Nat):Int); omega
  have G2:=G1.put i2 (.int ((((Fl.hsA (as.take k)).map V.int) ++ [V.int a.2.1]).length:Int)) (.int a.1) (.int 0)
  have b9:=jll (wa:=w2) (Hd:=Hd) (R:=R) (a:=(if a.2.1.toNat = a.1.toNat then nv (Fl.wfA (as.take k) ((a.1.toNat:Nat):Int)) ++ [.int (((Fl.hsA (as.take k)).map V.int).length:Int)] else nv (Fl.wfA (as.take k) ((a.2.1.toNat:Nat):Int))) ++ [.int ((((Fl.hsA (as.take k)).map V.int) ++ [V.int a.2.1]).length:Int)]) (b:=((Fl.hsA (as.take k)).map V.int ++ [.int a.2.1]) ++ [.int a.1]) (c:=((Fl.rmA (as.take k)).map V.int ++ [.int a.2.2]) ++ [.int 0]) b8 (fls _ (List.mem_of_getElem? i2)) fHd fR
  refine ⟨_,_,_,rfl,b9,G2.congr (fun j hj=>?_) ?_ ?_⟩
  ·rw [jbn hka]
   exact jr0 c1.symm c2.symm (by rw [hl1,htk]) (by rw [List.length_append,hl1,htk]; rfl)
  ·rw [jbn hka,Fl.hsA_snoc,List.map_append,List.append_assoc]; rfl
  ·rw [jbn hka,Fl.rmA_snoc,List.map_append,List.append_assoc]; rfl
 ·rintro σ Hc ⟨v1,v2,v3,rfl,b7,G⟩
  rw [hlz,List.take_length] at G
  refine h R Hc fR b7 ⟨⟨dx,W,Hd,ls,G.o,G.w,hl,fun i a hia=>⟨(G.l i a hia).1,(G.l i a hia).2.1⟩,G.h,G.n1,G.n2,Rp.symm⟩,G.r,Fl.net_of hok,Fl.rmA_len as,by omega,hn⟩
end
end My
namespace Fl
section
variable {ns:List Int} {ts:List (Int × Int)} {sp:Int→Int} {hs r:List Int} {wf:Int→List Nat} {pr:Int→Int} {cap:Nat→Int}
end
section
variable {ns:List Int} {pr:Int→Int} {zs:List Tw} {fs ft:Int→Int} {SL SR:Int→Bool}
end
end Fl
namespace Fl
structure Bk (wf:Int→List Nat) (hs r:List Int) (n:Nat) (t:Int) (ms td:List Int) (x:Option Int) (i:Nat):Prop where
 nd:ms.Nodup
 bd:∀ v:Int,v ∈ ms→0 ≤ v∧v < (n:Int)
 t_in:t ∈ ms
 tin:∀ v ∈ td,v ∈ ms
 tl:td.length ≤ ms.length
 cl:∀ v ∈ ms,v ∉ td→x ≠ some v→∀ w ∈ wf v,0 < at' r (mate w)→at' hs w ∈ ms
 xc:∀ v,x = some v→v ∈ ms∧∀ w ∈ (wf v).take i,0 < at' r (mate w)→at' hs w ∈ ms
 ind:∀ B:Int→Prop,B t→(∀ u w,B u→w ∈ wf u→0 < at' r (mate w)→B (at' hs w))→∀ v ∈ ms,B v
structure CoR (wf:Int→List Nat) (hs r:List Int) (n:Nat) (t:Int) (ms:List Int):Prop where
 nd:ms.Nodup
 bd:∀ v:Int,v ∈ ms→0 ≤ v∧v < (n:Int)
 t_in:t ∈ ms
 cl:∀ v ∈ ms,∀ w ∈ wf v,0 < at' r (mate w)→at' hs w ∈ ms
 ind:∀ B:Int→Prop,B t→(∀ u w,B u→w ∈ wf u→0 < at' r (mate w)→B (at' hs w))→∀ v ∈ ms,B v
section
variable {wf:Int→List Nat} {hs r:List Int} {n:Nat} {t:Int} {ms td:List Int}
theorem Bk.init (h:0 ≤ t∧t < (n:Int)):Bk wf hs r n t [t] [t] none 0:=by
 refine ⟨by simp,fun v hv=>by rw [List.mem_singleton.mp hv]; exact h,List.mem_singleton.mpr rfl,fun v hv=>hv,Nat.le_refl _,fun v hv h1=>absurd hv h1,fun v z=>(nomatch z),fun B h1 _ v hv=>by rw [List.mem_singleton.mp hv]; exact h1⟩
theorem Bk.len (h:Bk wf hs r n t ms td x i):ms.length ≤ n:=len_le h.nd h.bd
theorem Bk.pop {v:Int} (h:Bk wf hs r n t ms (td ++ [v]) none i):Bk wf hs r n t ms td (some v) 0:=by
 refine ⟨h.nd,h.bd,h.t_in,fun u hu=>h.tin u (List.mem_append_left _ hu),by have:=h.tl; rw [List.length_append] at this; omega,fun u hu h1 h2=>h.cl u hu (fun z=>?_) (fun z=>(nomatch z)),fun u e=>?_,h.ind⟩
 ·rcases List.mem_append.mp z with z | z
  ·exact h1 z
  ·exact h2 (by rw [List.mem_singleton.mp z])
 ·cases e
  exact ⟨h.tin _ (List.mem_append_right _ (List.mem_singleton.mpr rfl)),fun w hw=>by rw [List.take_zero] at hw; cases hw⟩
theorem jl8 {l:List Nat} {i w x:Nat} (h:l[i]? = some w) (hx:x ∈ l.take (i + 1)):x ∈ l.take i ∨ x = w:=by
 rw [List.take_succ,h] at hx
 exact (List.mem_append.mp hx).imp id fun z=>by simpa using z
theorem Bk.skip {v:Int} {w:Nat} (h:Bk wf hs r n t ms td (some v) i) (hw:(wf v)[i]? = some w) (c:0 < at' r (mate w)→at' hs w ∈ ms):Bk wf hs r n t ms td (some v) (i + 1):=by
 refine ⟨h.nd,h.bd,h.t_in,h.tin,h.tl,h.cl,fun u e=>?_,h.ind⟩
 cases e
 obtain ⟨h1,h2⟩:=h.xc v rfl
 refine ⟨h1,fun x hx h0=>?_⟩
 rcases jl8 hw hx with z | rfl
 ·exact h2 x z h0
 ·exact c h0
theorem Bk.put {v:Int} {w:Nat} (h:Bk wf hs r n t ms td (some v) i) (hw:(wf v)[i]? = some w) (h0:0 < at' r (mate w)) (hb:0 ≤ at' hs w∧at' hs w < (n:Int)) (hn:at' hs w ∉ ms):Bk wf hs r n t (ms ++ [at' hs w]) (td ++ [at' hs w]) (some v) (i + 1):=by
 obtain ⟨x1,x2⟩:=h.xc v rfl
 have up:∀ {u},u ∈ ms→u ∈ ms ++ [at' hs w]:=fun z=>List.mem_append_left _ z
 refine ⟨?_,fun u hu=>?_,up h.t_in,fun u hu=>?_,by rw [List.length_append,List.length_append]; have:=h.tl; omega,fun u hu h1 h2 k hk hk0=>?_,fun u e=>?_,fun B b1 b2 u hu=>?_⟩
 ·exact List.nodup_append.mpr ⟨h.nd,by simp,fun a ha b hb=>fun z=>hn (by rw [List.mem_singleton.mp hb] at z; rw [← z]; exact ha)⟩
 ·rcases List.mem_append.mp hu with z | z
  ·exact h.bd u z
  ·rw [List.mem_singleton.mp z]; exact hb
 ·rcases List.mem_append.mp hu with z | z
  ·exact up (h.tin u z)
  ·exact List.mem_append_right _ z
 ·rcases List.mem_append.mp hu with z | z
  ·exact up (h.cl u z (fun q=>h1 (List.mem_append_left _ q)) h2 k hk hk0)
  ·exact absurd (List.mem_append_right _ z) h1
 ·cases e
  refine ⟨up x1,fun k hk hk0=>?_⟩
  rcases jl8 hw hk with z | rfl
  ·exact up (x2 k z hk0)
  ·exact List.mem_append_right _ (List.mem_singleton.mpr rfl)
 ·rcases List.mem_append.mp hu with z | z
  ·exact h.ind B b1 b2 u z
  ·rw [List.mem_singleton.mp z]
   exact b2 v w (h.ind B b1 b2 v x1) (List.mem_of_getElem? hw) h0
theorem Bk.done {v:Int} (h:Bk wf hs r n t ms td (some v) i) (hi:(wf v).length ≤ i):Bk wf hs r n t ms td none 0:=by
 obtain ⟨x1,x2⟩:=h.xc v rfl
 rw [List.take_of_length_le hi] at x2
 refine ⟨h.nd,h.bd,h.t_in,h.tin,h.tl,fun u hu h1 _=>?_,fun u z=>(nomatch z),h.ind⟩
 by_cases c:u = v
 ·subst c; exact x2
 ·exact h.cl u hu h1 fun z=>c (Option.some.inj z).symm
theorem Bk.fin (h:Bk wf hs r n t ms [] none i) {ls:List Int} (p:ls.Perm ms):CoR wf hs r n t ls :=
 ⟨p.nodup_iff.mpr h.nd,fun v hv=>h.bd v (p.mem_iff.mp hv),p.mem_iff.mpr h.t_in,fun v hv w hw h0=>p.mem_iff.mpr (h.cl v (p.mem_iff.mp hv) (by simp) (fun z=>(nomatch z)) w hw h0),fun B b1 b2 v hv=>h.ind B b1 b2 v (p.mem_iff.mp hv)⟩
end
end Fl
namespace My
open PySem L2
section
variable {P:Program} {w:World} {K:PySem.W.Frag} {mg:Str→Option Value} {base:Heap} {c1 c2 c3 c4 e1 e2 e3:Tok} {C_Net C_NoWeb f_NoWeb:Addr} {dI:FuncData}
def mkI (ns:List Int):List (Key × V):=ns.map fun n=>(Sum.inl n,V.bl true)
theorem jo5:∀ (ns:List Int) (n:Int),hasK (mkI ns) n = decide (n ∈ ns)
 | [],n=>rfl
 | m :: r,n=>by
  have ih:=jo5 r n
  unfold hasK valV mkI at ih ⊢
  rw [List.map_cons,List.find?_cons]
  by_cases c:m = n
  ·subst c
   simp
  ·have hd:decide ((Sum.inl m:Key) = Sum.inl n) = false:=decide_eq_false fun z=>c (Sum.inl.inj z)
   dsimp only
   rw [hd]
   rw [ih,Bool.eq_iff_iff,decide_eq_true_eq,decide_eq_true_eq,List.mem_cons]
   exact ⟨.inr,fun z=>z.resolve_left fun y=>c y.symm⟩
def jn8:Sp:=fun vs H Q _=>∃ u,∃ ns:List Int,vs = [.ref u]∧H u = some (.lst (ns.map V.int))∧ns.Nodup∧ns.length ≤ 120∧∀ d H',H d = none→Same H H'→H' d = some (.dK (mkI ns))→Q (.ref d) H'
structure Cst2 (mg:Str→Option Value) (t1 t2 t3:Tok):Prop where
 SOURCE:mg "SOURCE" = some (.int 0 t1)
 SINK:mg "SINK" = some (.int 1 t2)
 FIRST:mg "FIRST" = some (.int 2 t3)
theorem jk5 {ι:Type} {src:List (Option Nat)} {wi:TI} {g:TG} {tc:TT} {te:TE} {Q:VK} {σ:St} {H:Hp} (J:ι→It) (H1:ι→Hp) (ok:ι→Prop) (h1:∀ R:It→Hp→Prop,(∀ p,ok p→R (J p) (H1 p))→wi σ H R)
  (h2:∀ p,ok p→∀ l,H1 p l = none→jp0 (J p) src g tc te Q σ (H1 p) l):jp4 src wi g tc te σ H Q:=h1 _ h2
theorem jl5 {α β:Type} (f:α→β):∀ (b:Bool) (xs:List α),alt b (xs.map f) = (alt b xs).map f
 | true,[]=>rfl
 | false,[]=>rfl
 | true,x :: xs=>by show f x :: alt false (xs.map f) = f x :: (alt false xs).map f; rw [jl5 f false xs]
 | false,x :: xs=>jl5 f true xs
def jna (C:Addr):Sp:=fun vs H Q _=>∃ p R wf hs m n r,vs = [.ref p]∧Nt C H p R wf hs m n r∧∀ l H',H l = none→Same H H'→H' l = some (.lst ((alt false r).map V.int))→Q (.ref l) H'
def jn5 (C:Addr):Sp:=fun vs H Q _=>∃ p s R wf hs m n r,vs = [.ref p,.int s]∧Nt C H p R wf hs m n r∧0 ≤ s∧s < (n:Int)∧n < 64∧∀ (l:Addr) (ms:List Int) (H':Hp),H l = none→Same H H'→H' l = some (.lst (ms.map V.int))→ms.Perm ((Fl.cbOf wf hs n s r).map (·.1))→Q (.ref l) H'
def spCoR (C:Addr):Sp:=fun vs H Q _=>∃ p t R wf hs m n r,vs = [.ref p,.int t]∧Nt C H p R wf hs m n r∧0 ≤ t∧t < (n:Int)∧n < 64∧∀ (l:Addr) (ms:List Int) (H':Hp),H l = none→Same H H'→H' l = some (.lst (ms.map V.int))→Fl.CoR wf hs r n t ms→Q (.ref l) H'
theorem jg8 (ms:List Int) (v:Int):(valV (mkI ms) (Sum.inl v:Key)).isSome = decide (v ∈ ms):=by
 have:=jo5 ms v
 exact this
theorem jpn {f:Addr} {fd:FuncData}  (B:Blt mg) (D:MthAt K C_Net "flows" "Net.flows" (meth 9 6) ["self"] f fd) (T:NetC K mg C_Net):FnOk P w K mg base CX0 1 f fd ["self"] (jna C_Net):=by
 have sc:FnScope ["self"] ["self"] (jbc (meth 9 6)):=⟨rfl,rfl,rfl,by decide +kernel,rfl,by decide +kernel,by decide +kernel⟩
 refine D.F.ok sc (fun vs H Q E h=>?_) (fun cdv A outer s H vs Q E hr h=>?_)
 ·obtain ⟨p,R,wf,hs,m,n,r,rfl,_⟩:=h
  rfl
 obtain ⟨p,R,wf,hs,m,n,r,rfl,N,h⟩:=h
 have hu:=jcb hr
 have hu0:_ < PySem.cLine:=Nat.lt_of_succ_lt hu
 refine ⟨_,(jan (jbq (pe_alt (b:=false) rfl (jcf T.cl T.n_rooms (qv 0) rfl)))),?_⟩
 obtain ⟨⟨dx,W,Hd,ls,e1,e2,e3,e4,e5,n1,n2,n3⟩,eR,net,hlen,hbig,hn⟩:=N
 simp_all_arith [e1,jkx,eR]
 intro l hl
 rw [jl5]
 exact h l _ hl (jai hl _) ja1
theorem jfu {f:Addr} {fd:FuncData} {f_spread:Addr} {d_spread:FuncData} (B:Blt mg) (D:MthAt K C_Net "reached_from" "Net.reached_from" (meth 9 7) ["self","source"] f fd) (D_spread:MthAt K C_Net "spread" "Net.spread" (meth 9 4) ["self","source"] f_spread d_spread) (G_spread:FnOk P w K mg base CX0 1 f_spread d_spread ["self","source"] (jhk C_Net)) (T:NetC K mg C_Net):FnOk P w K mg base CX0 2 f fd ["self","source"] (jn5 C_Net):=by
 have sc:FnScope ["self","source"] ["self","source"] (jbc (meth 9 7)):=⟨rfl,rfl,rfl,by decide +kernel,rfl,by decide +kernel,by decide +kernel⟩
 refine D.F.ok sc (fun vs H Q E h=>?_) (fun cdv A outer s H vs Q E hr h=>?_)
 ·obtain ⟨p,s,R,wf,hs,m,n,r,rfl,_⟩:=h
  rfl
 obtain ⟨p,s,R,wf,hs,m,n,r,rfl,N,s0,s1,h64,h⟩:=h
 have hu:=jcb hr
 have hu0:_ < PySem.cLine:=Nat.lt_of_succ_lt hu
 refine ⟨_,(jan (jbq (jbp (jhc rfl) rfl B.sorted PyProof.Rows.boot_sorted (ja0 (jcw (qv 0) T.cl D_spread.m G_spread (hr.mono (by decide)) D_spread.b .nil jbt (ja0 (qv 1) jah)) jah)))),?_⟩
 have N0:=N
 obtain ⟨⟨dx,W,Hd,ls,e1,e2,e3,e4,e5,n1,n2,n3⟩,eR,net,hlen,hbig,hn⟩:=N
 simp_all_arith [e1,jgz]
 refine ⟨p,s,R,wf,hs,m,n,r,rfl,N0,s0,s1,fun d H1 hd q1 ed=>?_⟩
 have hcl:=Fl.cb_len (r:=r) net ⟨s0,s1⟩ n
 refine ⟨d,_,(Fl.cbOf wf hs n s r).map (·.1),rfl,ed,?_,by rw [List.length_map]; exact Nat.lt_of_le_of_lt hcl h64,fun l ms hl pm _=>?_⟩
 ·unfold cbK
  rw [List.map_map,List.map_map]
  rfl
 ·exact h l ms _ (q1.free hl) (q1.trans (jai hl _)) ja1 pm
theorem jmg {f:Addr} {fd:FuncData}  (B:Blt mg) (D:DefAt K mg "marked" (top 15) ["places"] f fd):FnOk P w K mg base CX0 1 f fd ["places"] jn8:=by
 have sc:FnScope ["places"] ["places"] (jbc (top 15)):=⟨rfl,rfl,rfl,by decide +kernel,rfl,by decide +kernel,by decide +kernel⟩
 refine D.F.ok sc (fun vs H Q E h=>?_) (fun cdv A outer s H vs Q E hr h=>?_)
 ·obtain ⟨u,ns,rfl,_⟩:=h
  rfl
 obtain ⟨u,ns,rfl,eu,nd,hl,h⟩:=h
 have hu:=jcb hr
 have hu0:_ < PySem.cLine:=Nat.lt_of_succ_lt hu
 refine ⟨_,(jan (jbq (jcn (jhs rfl) rfl B.dict PyProof.Rows.boot_dict (ja0 (jcg (CpScope.of (N:=["place"]) (src:=[none]) (by rfl)) rfl (jbx (qv 0)) (fun _ _ _ _=>(jbb (i:=0) (jbj (l:=["place"]) (by rfl)) rfl (Or.inl rfl))) (fun _ _ _ _=>jdz) (fun _ _ _ _=>(jd6 (ja0 (qv 0) (ja0 jft jah))))) jah)))),?_⟩
 walk_at "ND"
 refine jbr (Itl K u) H (fun R hR=>?_) (fun l hl0=>jc3 ns.length (fun i σ' Hc=>∃ w1 zs,σ' = [w1]∧Same H Hc∧Hc l = some (.lst zs)∧Paired (PairAt Hc) zs (mkI (ns.take i))) ⟨none,[],rfl,jai hl0 _,ja1,.nil⟩ ?_ ?_)
 ·unfold jcu
  walk_at "ND"
  exact ⟨u,rfl,⟨_,SqL.of eu⟩,hR⟩
 ·rintro i σ' Hc hi ⟨w1,zs,rfl,s2,ez,pz⟩
  have x1:ns[i]? = some ns[i]:=List.getElem?_eq_getElem hi
  have X1:(ns.map V.int)[i]? = some (.int ns[i]):=by rw [List.getElem?_map,x1]; rfl
  have hlz:zs.length = (mkI (ns.take i)).length:=Paired.length pz
  have hlz2:zs.length ≤ i:=by
   rw [hlz,mkI,List.length_map,List.length_take]
   omega
  refine ⟨⟨_,_,SqL.of (s2 _ _ eu),X1⟩,?_⟩
  rintro y H' ⟨rfl,hy⟩
  have E1:V.int ns[i] = y:=Option.some.inj (X1.symm.trans (hy _ (SqL.of (s2 _ _ eu))))
  subst E1
  walk_at "ND"
  intro t ht
  have ez2:=jai ht (.tup [.int ns[i],.bl true]) _ _ ez
  have t6:=jd0 (ys:=zs ++ [.ref t]) ez2
  refine ⟨zs,ez2,szl' (by omega),_,zs ++ [.ref t],rfl,jbh (s2.trans (jai ht _)) hl0,(by first | rfl | exact ja1),?_⟩
  rw [jbn x1,mkI,List.map_append]
  refine jc7 (Paired.mapP pz fun v p q=>?_) ?_
  ·obtain ⟨b,e,q⟩:=q
   exact ⟨b,e,t6 _ _ rfl (jai ht _ _ _ q)⟩
  ·exact ⟨t,rfl,t6 _ _ rfl ja1⟩
 ·rintro σ' Hc ⟨w1,zs,rfl,s2,ez,pz⟩
  refine ⟨⟨_,SqL.of (s2 _ _ eu),by rw [List.length_map]; exact Nat.le_refl _⟩,?_⟩
  rw [List.take_length] at pz
  have hlz:zs.length = (mkI ns).length:=Paired.length pz
  rw [mkI,List.length_map] at hlz
  simp_all_arith [ez]
  refine ⟨mkI ns,pz,by omega,?_,fun d hd=>h d _ (s2.free hd) (s2.trans (jai hd _)) ja1⟩
  unfold mkI
  rw [List.map_map]
  have e:((fun (x:Key × V)=>x.1) ∘ fun (n:Int)=>((Sum.inl n:Key),V.bl true)) = fun (n:Int)=>(Sum.inl n:Key):=rfl
  rw [e]
  unfold List.Nodup at nd ⊢
  rw [List.pairwise_map]
  exact nd.imp fun q z=>q (Sum.inl.inj z)
theorem jkk {f:Addr} {fd:FuncData}  (B:Blt mg) (D:MthAt K C_Net "reaching" "Net.reaching" (meth 9 8) ["self","sink"] f fd) (T:NetC K mg C_Net):FnOk P w K mg base CX0 1 f fd ["self","sink"] (spCoR C_Net):=by
 have sc:FnScope ["self","sink","met","todo","knot","way","tail"] ["self","sink"] (jbc (meth 9 8)):=⟨rfl,rfl,rfl,by decide +kernel,rfl,by decide +kernel,by decide +kernel⟩
 refine D.F.ok sc (fun vs H Q E h=>?_) (fun cdv A outer s H vs Q E hr h=>?_)
 ·obtain ⟨p,t,R,wf,hs,m,n,r,rfl,_⟩:=h
  rfl
 obtain ⟨p,t,R,wf,hs,m,n,r,rfl,N,t0,t1,h64,h⟩:=h
 have hu:=jcb hr
 have hu0:_ < PySem.cLine:=Nat.lt_of_succ_lt hu
 refine ⟨_,(ja5 (jbe (i:=2) sc.nd rfl (Or.inl rfl) (jkg (jhu (qv 1) jft jkd) rfl rfl (fun z=>nomatch z) (by decide))) (ja5 (jbe (i:=3) sc.nd rfl (Or.inl rfl) (jcd (ja0 (qv 1) jah))) (ja5 (jdp PassesOwn.never (jnp (qv 3)) (ja5 (jbe (i:=4) sc.nd rfl (Or.inl rfl) (q_bm0 PySem.F.plainAttrs_list PySem.F.slot_list_pop PySem.F.type_list_pop q_pop (qv 3))) (jan (jca PassesOwn.never rfl (jbx (jbk q_ix (jcf T.cl T.n_ways_from (qv 0) rfl) (qv 4) (fun _ _=>rfl))) (jbb (i:=5) sc.nd rfl (Or.inl rfl)) (ja5 (jbe (i:=6) sc.nd rfl (Or.inl rfl) (jbk q_ix (jcf T.cl T.n_heads (qv 0) rfl) (qv 5) (fun _ _=>rfl))) (jan (jct (PW.pt (jfr (jbw q_gt (jbk q_ix (jcf T.cl T.n_rooms (qv 0) rfl) (jc6 jr9 (qv 5) jak) (fun _ _=>rfl)) jak (jbv _)) (jem (jfo (jde hu (qv 6) (qv 2)))))) (ja5 (jgv hu (qv 2) (qv 6) jft) (jan (jby (q_bm PySem.F.plainAttrs_list PySem.F.slot_list_append PySem.F.type_list_append jc5 (qv 3) (ja0 (qv 6) jah))))) jbu))))))) (jan (jbq (jbp (jhc rfl) rfl B.sorted PyProof.Rows.boot_sorted (ja0 (qv 2) jah))))))),?_⟩
 have N0:=N
 obtain ⟨⟨dx,W,Hd,ls,e1,e2,e3,e4,e5,n1,n2,n3⟩,eR,net,hlen,hbig,hn⟩:=N
 refine jbd fun R' hR=>?_
 walk_at "ND"
 intro d hd
 walk_at "ND"
 refine ⟨ja1,[((Sum.inl t:Key),V.bl true)],rfl,(by show 1 ≤ 15; decide),?_⟩
 rw [jhg,show jdw [] [((Sum.inl t:Key),V.bl true)] = mkI [t] from rfl]
 have q1:=jai hd (.dK (mkI [t]))
 have ed:upd H d (.dK (mkI [t])) d = some (.dK (mkI [t])):=ja1
 generalize upd H d (.dK (mkI [t])) = H1 at q1 ed
 subst hR
 refine jbd fun R' hR=>?_
 walk_at "ND"
 intro l hl
 have q2:=q1.trans (jai hl (.lst [.int t]))
 have ed2:=jai hl (.lst [.int t]) _ _ ed
 have el:upd H1 l (.lst [.int t]) l = some (.lst ([t].map V.int)):=ja1
 have ld:l ≠ d:=(ja6 ed hl).symm
 have hlH:H l = none:=q1.free hl
 generalize upd H1 l (.lst [.int t]) = H2 at q2 ed2 el
 subst hR
 refine jbd fun R' hR=>?_
 refine jf4 (fun σ Hc=>∃ (ms td:List Int) (v5 v6 v7:Option V),σ = [some (.ref p),some (.int t),some (.ref d),some (.ref l),v5,v6,v7]∧Same H Hc∧Hc d = some (.dK (mkI ms))∧Hc l = some (.lst (td.map V.int))∧Fl.Bk wf hs r n t ms td none 0) (fun _ Hc=>match Hc d,Hc l with | some (.dK kv),some (.lst xs)=>2 * (n - kv.length) + xs.length | _,_=>0) ⟨[t],[t],none,none,none,rfl,q2,ed2,el,.init ⟨t0,t1⟩⟩ ?_ ?_
 rotate_left
 ·intro σ Hc Q1 Q2 hq hc
  exact jlt hq hc
 rintro σ Hc ⟨ms,td,v5,v6,v7,rfl,s3,ed3,el3,bk⟩
 have mkl:∀ ns:List Int,(mkI ns).length = ns.length:=fun ns=>List.length_map _
 rcases List.eq_nil_or_concat td with rfl | ⟨td0,v,rfl⟩
 ·have hne:(([]:List Int).map V.int).isEmpty = true:=rfl
  simp_all_arith [el3,hne]
  subst hR
  walk_at "ND"
  refine ⟨d,_,ms,rfl,ed3,?_,by have:=bk.len; omega,fun l2 ms2 hl2 pm _=>?_⟩
  ·unfold mkI
   rw [List.map_map]
   rfl
  ·exact h l2 ms2 _ (s3.free hl2) (s3.trans (jai hl2 _)) ja1 (bk.fin pm)
 ·rw [List.concat_eq_append] at el3 bk
  have hne:((td0 ++ [v]).map V.int).isEmpty = false:=by rw [List.map_append]; cases td0 <;> rfl
  have hml:=bk.len
  have bk1:=bk.pop
  simp_all_arith [el3,hne]
  refine ⟨⟨l,_,rfl,el3⟩,l,_,.int v,rfl,rfl,el3,?_,?_⟩
  ·rw [List.map_append,List.length_append]
   show ((td0.map V.int) ++ [V.int v])[(td0.map V.int).length + 1 - 1]? = _
   rw [Nat.add_sub_cancel,List.getElem?_append_right (Nat.le_refl _),Nat.sub_self]
   rfl
  have edl:((td0 ++ [v]).map V.int).dropLast = td0.map V.int:=by rw [List.map_append]; exact List.dropLast_concat
  rw [edl,ed3]
  have s4:Same H (upd Hc l (.lst (td0.map V.int))):=jbh s3 hlH
  have ed4:upd Hc l (.lst (td0.map V.int)) d = some (.dK (mkI ms)):=by rw [jaj (Ne.symm ld)]; exact ed3
  have el4:upd Hc l (.lst (td0.map V.int)) l = some (.lst (td0.map V.int)):=ja1
  generalize upd Hc l (.lst (td0.map V.int)) = H4 at s4 ed4 el4
  have hvb:=bk1.bd v (bk1.xc v rfl).1
  have hla:ls[v.toNat]? = some (ls[v.toNat]'(by omega)):=List.getElem?_eq_getElem _
  generalize ls[v.toNat]'(by omega) = wa at hla
  have ewa:=(e4 _ _ hla).1
  rw [show ((v.toNat:Nat):Int) = v by omega] at ewa
  have hwa:atI (ls.map V.ref) v = some (.ref wa):=by have:=joy hla; rw [show ((v.toNat:Nat):Int) = v by omega] at this; exact this
  refine jbo (Itl K wa) H4 (fun R3 hR3=>?_) (jc9 (K:=K) (a:=wa) (xs:=nv (wf v)) (fun i σ H5=>∃ (ms1 td1:List Int) (v6 v7:Option V),σ = [some (.ref p),some (.int t),some (.ref d),some (.ref l),some (.int v),v6,v7]∧Same H H5∧H5 d = some (.dK (mkI ms1))∧H5 l = some (.lst (td1.map V.int))∧Fl.Bk wf hs r n t ms1 td1 (some v) i∧2 * (n - ms1.length) + td1.length ≤ 2 * (n - ms.length) + td0.length) ⟨ms,td0,v6,v7,rfl,s4,ed4,el4,bk1,Nat.le_refl _⟩ (fun i σ H5 _ ⟨_,_,_,_,_,s5,_⟩=>SqL.of (s5 _ _ ewa)) ?_ ?_)
  ·unfold jcu
   simp_all_arith [jbl,s4 _ _ e1,js4,s4 _ _ e2,hwa]
   exact ⟨wa,rfl,⟨_,SqL.of (s4 _ _ ewa)⟩,hR3⟩
  ·rintro i x σ H5 hx ⟨ms1,td1,v6,v7,rfl,s5,ed5,el5,bk5,hm5⟩
   unfold nv at hx
   rw [List.getElem?_map] at hx
   obtain ⟨w,hw,rfl⟩:=Option.map_eq_some_iff.mp hx
   have hwm:=net.from' v w (List.mem_of_getElem? hw)
   have hwm2:=Fl.mate_lt hwm.1
   have hh:atI (hs.map V.int) (w:Int) = some (.int (Fl.at' hs w)):=jf0 (by rw [net.len]; exact hwm.1)
   have hr':atI (r.map V.int) ((Fl.mate w:Nat):Int) = some (.int (Fl.at' r (Fl.mate w))):=jf0 (by rw [hlen]; exact hwm2)
   have hb:=net.knot w hwm.1
   have hm1:=bk5.len
   have ht1:=bk5.tl
   simp_all_arith [jbl,s5 _ _ e1,jok,jkx,s5 _ _ e5,hh,jhd,s5 _ _ eR,hr']
   by_cases c1:0 < Fl.at' r (Fl.mate w)
   ·rw [decide_eq_true c1,if_pos rfl]
    simp_all_arith [ed5,jg8]
    by_cases c2:Fl.at' hs w ∈ ms1
    ·rw [decide_eq_true c2]
     walk_at "ND"
     exact ⟨ms1,td1,_,_,rfl,s5,(by first | rfl | exact ed5),el5,bk5.skip hw fun _=>c2,hm5⟩
    ·rw [decide_eq_false c2]
     walk_at "ND"
     have bk6:=bk5.put hw c1 hb c2
     have epk:putK (mkI ms1) (Sum.inl (Fl.at' hs w):Key) (.bl true) = mkI (ms1 ++ [Fl.at' hs w]):=by
      rw [jlk]
      ·unfold mkI; rw [List.map_append]; rfl
      ·have:=jg8 ms1 (Fl.at' hs w)
       rw [decide_eq_false c2] at this
       cases e:valV (mkI ms1) (Sum.inl (Fl.at' hs w):Key) with
       | none=>rfl
       | some x=>rw [e] at this; cases this
     simp_all_arith [ed5,epk]
     refine ⟨szl' (by rw [mkl]; omega),?_⟩
     have el6:upd H5 d (.dK (mkI (ms1 ++ [Fl.at' hs w]))) l = some (.lst (td1.map V.int)):=by rw [jaj ld]; exact el5
     refine ⟨⟨l,_,rfl,el6⟩,?_⟩
     rw [el6]
     dsimp only
     refine ⟨szl' (by rw [List.length_map]; omega),ms1 ++ [Fl.at' hs w],td1 ++ [Fl.at' hs w],_,_,rfl,jbh (jbh s5 hd) hlH,?_,?_,bk6,?_⟩
     ·rw [jaj (Ne.symm ld),ja1]
     ·rw [ja1,List.map_append]; rfl
     ·have:=bk6.len
      rw [List.length_append] at this ⊢
      rw [List.length_append]
      simp only [List.length_cons,List.length_nil] at this ⊢
      omega
   ·rw [decide_eq_false c1,if_neg (by decide)]
    walk_at "ND"
    exact ⟨ms1,td1,_,_,rfl,s5,(by first | rfl | exact ed5),el5,bk5.skip hw fun z=>absurd z c1,hm5⟩
  ·rintro σ H5 ⟨ms1,td1,v6,v7,rfl,s5,ed5,el5,bk5,hm5⟩
   walk_at "ND"
   refine ⟨⟨ms1,td1,_,_,_,rfl,s5,ed5,el5,bk5.done (by unfold nv; rw [List.length_map]; exact Nat.le_refl _)⟩,?_⟩
   rw [ed5,el5]
   dsimp only
   rw [mkl,mkl,List.length_map,List.length_map,List.length_append]
   simp only [List.length_cons,List.length_nil]
   omega
end
end My
namespace My
open PySem L2
section
variable {P:Program} {w:World} {K:PySem.W.Frag} {mg:Str→Option Value} {base:Heap} {c1 c2 c3 c4 e1 e2 e3:Tok} {C_Net C_NoWeb f_NoWeb:Addr} {dI:FuncData}
def hOf (hs:List (Int × Int)) (n:Int):Int:=match valV (jc8 hs) (Sum.inl n:Key) with
 | some (.int i)=>i
 | _=>0
theorem js1 {hs:List (Int × Int)} {n:Int} (hn:(hs.map (·.1)).Nodup) (h:n ∈ hs.map (·.1)):valV (jc8 hs) (Sum.inl n:Key) = some (.int (hOf hs n)):=by
 obtain ⟨p,hp,rfl⟩:=List.mem_map.mp h
 have e:=jhf hn hp
 unfold hOf
 rw [e]
theorem TiOk.in {kvs:List (Key × V)}:∀ {ts:List (Int × Int)} {q:Int × Int},TiOk kvs q ts→∀ p ∈ ts,p.1 < p.2∧hasK kvs p.1 = true∧hasK kvs p.2 = true
 | [],_,_,_,h=>by cases h
 | u :: r,q,h,p,hp=>by
  rcases List.mem_cons.mp hp with e | hp
  ·rw [e]; exact h.1.2
  ·exact TiOk.in h.2 p hp
theorem jkw:∀ {ps:List (Int × Int)} {n:Int},hasK (jc8 ps) n = true→n ∈ ps.map (·.1)
 | [],_,h=>by cases h
 | p :: r,n,h=>by
  by_cases c:p.1 = n
  ·rw [← c]; exact List.mem_cons_self
  ·refine List.mem_cons_of_mem _ (jkw ?_)
   unfold hasK jc8 valV at h
   rw [List.map_cons,List.find?_cons] at h
   dsimp only at h
   rw [decide_eq_false (fun z=>c (Sum.inl.inj z))] at h
   exact h
theorem jd1 {α:Type} {l:List α} {i:Nat} {a d:α} (h:l[i]? = some a):l.getD i d = a:=by rw [List.getD_eq_getElem?_getD,h]; rfl
theorem jq4 {xs:List V} {k:Nat} (h1:k ≤ xs.length):cutV xs (some (k:Int)) none = xs.drop k:=by
 unfold cutV HT.sIx
 simp only [if_neg (show ¬ (k:Int) < 0 by omega)]
 rw [Nat.min_eq_left (by omega)]
 exact List.take_of_length_le (by rw [List.length_drop]; exact Nat.le_refl _)
def spL (ps:List (Int × Int)) (k:Nat):List (Int × Int):=(List.range k).map fun i=>((ps.getD i (0,0)).1,2 + (i:Int))
theorem jk7 (ps:List (Int × Int)):∀ k,k ≤ ps.length→(spL ps k).map (·.1) = (ps.take k).map (·.1)
 | 0,_=>by simp [spL]
 | k + 1,h=>by
  have hk:ps[k]? = some ps[k]:=List.getElem?_eq_getElem (by omega)
  have ih:=jk7 ps k (by omega)
  unfold spL at ih ⊢
  rw [List.range_succ,List.map_append,List.map_append,ih,jbn hk,List.map_append,List.map_singleton,List.map_singleton,List.map_singleton,jd1 hk]
def spF (ps:List (Int × Int)) (n:Int):Int:=hOf (spL ps ps.length) n
def plW (ps:List (Int × Int)):Int:=1 + (ps.map (·.2)).sum
theorem jn9 {ps ts:List (Int × Int)} (wk:WebOk ps ts):((spL ps ps.length).map (·.1)).Nodup:=by
 rw [jk7 ps ps.length (Nat.le_refl _),List.take_length]
 exact wk.p.nodup
theorem jel {ps ts:List (Int × Int)} (wk:WebOk ps ts) {n:Int} (h:n ∈ ps.map (·.1)):valV (jc8 (spL ps ps.length)) (Sum.inl n:Key) = some (.int (spF ps n)):=by
 refine js1 (jn9 wk) ?_
 rw [jk7 ps ps.length (Nat.le_refl _),List.take_length]
 exact h
theorem jiz {ps ts:List (Int × Int)} (wk:WebOk ps ts) {i:Nat} {p:Int} (h:(ps.map (·.1))[i]? = some p):spF ps p = 2 + (i:Int):=by
 have hi:=(List.getElem?_eq_some_iff.mp h).1
 rw [List.length_map] at hi
 have hm:(p,2 + (i:Int)) ∈ spL ps ps.length:=by
  unfold spL
  refine List.mem_map.mpr ⟨i,List.mem_range.mpr hi,?_⟩
  rw [List.getElem?_map,List.getElem?_eq_getElem hi] at h
  have h2:ps[i].1 = p:=Option.some.inj h
  rw [jd1 (List.getElem?_eq_getElem hi),h2]
 have e:=jhf (jn9 wk) hm
 rw [jel wk (List.mem_of_getElem? h)] at e
 exact V.int.inj (Option.some.inj e)
theorem jlc {ps ts:List (Int × Int)} (wk:WebOk ps ts) {p:Int} (h:p ∈ ps.map (·.1)):2 ≤ spF ps p∧spF ps p < 2 + (ps.length:Int):=by
 obtain ⟨i,hi,e⟩:=List.mem_iff_getElem.mp h
 rw [jiz wk (i:=i) (by rw [List.getElem?_eq_getElem hi,e])]
 rw [List.length_map] at hi
 omega
theorem jet {ps ts:List (Int × Int)} (wk:WebOk ps ts):∀ t ∈ ts,t.1 ∈ ps.map (·.1)∧t.2 ∈ ps.map (·.1):=fun t ht=>by
 obtain ⟨_,a,b⟩:=wk.t.in t ht
 exact ⟨jkw a,jkw b⟩
theorem PlOk.pos:∀ {ps:List (Int × Int)} {l s:Int},PlOk l s ps→∀ p ∈ ps,1 ≤ p.2
 | [],_,_,_,p,h=>by cases h
 | q :: r,l,s,h,p,hp=>by
  rcases List.mem_cons.mp hp with e | hp
  ·rw [e]; exact h.1.2.2.1
  ·exact PlOk.pos h.2 p hp
def tlT (fs:List Int) (t:Int × Int):Int:=if t.1 ∈ fs then t.1 else t.2
def hdT (fs:List Int) (t:Int × Int):Int:=if t.1 ∈ fs then t.2 else t.1
def arcP (ps:List (Int × Int)) (fs:List Int) (p:Int × Int):Fl.Arc:=if p.1 ∈ fs then (0,spF ps p.1,p.2) else (spF ps p.1,1,p.2)
def arcT (ps:List (Int × Int)) (fs:List Int) (t:Int × Int):Fl.Arc:=(spF ps (tlT fs t),spF ps (hdT fs t),plW ps)
def jbs (ps ts:List (Int × Int)) (fs:List Int):List Fl.Arc:=ps.map (arcP ps fs) ++ ts.map (arcT ps fs)
theorem jrd {ps ts:List (Int × Int)} (wk:WebOk ps ts):0 ≤ plW ps:=by
 have h:0 ≤ (ps.map (·.2)).sum:=by
  have:=Fl.sum_le (f:=fun _=>(0:Int)) (g:=fun p:Int × Int=>p.2) (l:=ps) fun p hp=>by have:=wk.p.pos p hp; omega
  rw [Fl.sum_zero] at this
  exact this
 unfold plW
 omega
theorem jmy {ps ts:List (Int × Int)} (wk:WebOk ps ts) (fs:List Int):∀ t ∈ ts,tlT fs t ∈ ps.map (·.1)∧hdT fs t ∈ ps.map (·.1):=fun t ht=>by
 obtain ⟨a,b⟩:=jet wk t ht
 unfold tlT hdT
 split
 ·exact ⟨a,b⟩
 ·exact ⟨b,a⟩
theorem jie {ps ts:List (Int × Int)} (wk:WebOk ps ts) (fs:List Int):∀ a ∈ jbs ps ts fs,((0 ≤ a.1∧a.1 < ((2 + ps.length:Nat):Int))∧0 ≤ a.2.1∧a.2.1 < ((2 + ps.length:Nat):Int))∧0 ≤ a.2.2:=fun a ha=>by
 have e:((2 + ps.length:Nat):Int) = 2 + (ps.length:Int):=by omega
 rw [e]
 unfold jbs at ha
 rcases List.mem_append.mp ha with h | h
 ·obtain ⟨p,hp,rfl⟩:=List.mem_map.mp h
  have b:=jlc wk (List.mem_map.mpr ⟨p,hp,rfl⟩:p.1 ∈ ps.map (·.1))
  have c:=wk.p.pos p hp
  unfold arcP
  split <;> dsimp only <;> omega
 ·obtain ⟨t,ht,rfl⟩:=List.mem_map.mp h
  obtain ⟨m1,m2⟩:=jmy wk fs t ht
  have b1:=jlc wk m1
  have b2:=jlc wk m2
  have:=jrd wk
  unfold arcT
  dsimp only
  omega
theorem jef (ps ts:List (Int × Int)) (fs:List Int):(jbs ps ts fs).length = ps.length + ts.length:=by
 unfold jbs
 rw [List.length_append,List.length_map,List.length_map]
def jk6:Sp:=fun vs H Q _=>∃ v ps ts,vs = [v]∧jdj H v ps ts∧WebOk ps ts∧∀ d H',H d = none→Same H H'→H' d = some (.dK (jc8 (spL ps ps.length)))→Q (.ref d) H'
def cutS (ps:List (Int × Int)) (fs ns:List Int):List Int:=(ps.map (·.1)).filter fun n=>decide (decide (n ∈ fs) ≠ decide (n ∈ ns))
def spCut:Sp:=fun vs H Q _=>∃ v ps ts f fs g ns,vs = [v,.ref f,.ref g]∧jdj H v ps ts∧ps.length ≤ 40∧H f = some (.dK (mkI fs))∧H g = some (.dK (mkI ns))∧∀ l H',H l = none→Same H H'→H' l = some (.lst ((cutS ps fs ns).map V.int))→Q (.ref l) H'
def duA (gs:List Int) (n:Nat) (ts:List (Int × Int)) (k:Nat):List (Int × Int × Int):=((List.range k).map fun j=>((ts.getD j (0,0)).1,(ts.getD j (0,0)).2,2 * Fl.at' gs (n + j))).filter fun d=>decide (d.2.2 > 0)
def jqh:Sp:=fun vs H Q _=>∃ v ps ts fl gs,vs = [v,.ref fl]∧jdj H v ps ts∧WebOk ps ts∧H fl = some (.lst (gs.map V.int))∧gs.length = ps.length + ts.length∧∀ l zs H',H l = none→Same H H'→H' l = some (.lst zs)→Tps H' zs (duA gs ps.length ts ts.length)→Q (.ref l) H'
def jld (C:Addr):Sp:=fun vs H Q _=>∃ v ps ts f fs,vs = [v,.ref f]∧jdj H v ps ts∧WebOk ps ts∧H f = some (.dK (mkI fs))∧∀ p R H',H R = none→Same H H'→Nt C H' p R (Fl.wfA (jbs ps ts fs)) (Fl.hsA (jbs ps ts fs)) (jbs ps ts fs).length (2 + ps.length) (Fl.rmA (jbs ps ts fs))→Q (.ref p) H'
theorem jkh {f:Addr} {fd:FuncData}  (B:Blt mg) (D:DefAt K mg "spots_of" (top 37) ["web"] f fd) (C2:Cst2 mg e1 e2 e3):FnOk P w K mg base CX0 1 f fd ["web"] jk6:=by
 have sc:FnScope ["web"] ["web"] (jbc (top 37)):=⟨rfl,rfl,rfl,by decide +kernel,rfl,by decide +kernel,by decide +kernel⟩
 refine D.F.ok sc (fun vs H Q E h=>?_) (fun cdv A outer s H vs Q E hr h=>?_)
 ·obtain ⟨v,ps,ts,rfl,_⟩:=h
  rfl
 obtain ⟨v,ps,ts,rfl,hw,wk,h⟩:=h
 obtain ⟨u,pa,ta,xs,ys,rfl,hu1,hpa,hta,hxs,hys⟩:=hw
 have hxl:=Paired.length hxs
 have hu:=jcb hr
 have hu0:_ < PySem.cLine:=Nat.lt_of_succ_lt hu
 refine ⟨_,(jan (jbq (jcn (jhs rfl) rfl B.dict PyProof.Rows.boot_dict (ja0 (jcg (CpScope.of (N:=["at","pair"]) (src:=[none,none]) (by rfl)) rfl (jke rfl B.enumerate (ja0 (jbk q_ix (qv 0) jak (fun _ _=>rfl)) jah)) (fun _ _ _ _=>(jcr (n:=2) rfl (jbf (jbb (i:=0) (jbj (l:=["at","pair"]) (by rfl)) rfl (Or.inl rfl)) (jbf (jbb (i:=1) (jbj (l:=["at","pair"]) (by rfl)) rfl (Or.inl rfl)) jcc)))) (fun _ _ _ _=>jdz) (fun _ _ _ _=>(jd6 (ja0 (jbk q_ix (qv 1) jak (fun _ _=>rfl)) (ja0 (jc6 jdy (jcy (v:=.int 2) rfl C2.FIRST ⟨_,rfl⟩) (qv 0)) jah))))) jah)))),?_⟩
 have hpl:=wk.pl
 walk_at "ND"
 refine jbr (Ite K pa) H (fun R2 hR2=>?_) (fun z hz0=>jc3 ps.length (fun i σ' Hc=>∃ w1 w2 zs,σ' = [w1,w2]∧Same H Hc∧Hc z = some (.lst zs)∧Prs Hc zs (spL ps i)) ⟨none,none,[],rfl,jai hz0 _,ja1,.nil⟩ ?_ ?_)
 ·unfold iEnum
  simp_all_arith [jbl,hu1,at0]
  exact ⟨pa,rfl,⟨_,SqL.of hpa⟩,hR2⟩
 ·rintro i σ' Hc hi ⟨w1,w2,zs,rfl,s2,ez,pz⟩
  have s3:=s2
  have x1:xs[i]? = some (xs[i]'(by omega)):=List.getElem?_eq_getElem _
  have z1:SqL K Hc pa xs:=SqL.of (s3 _ _ hpa)
  refine ⟨⟨_,_,z1,x1⟩,?_⟩
  rintro x H' ⟨t,y,ht,rfl,rfl,g⟩
  obtain ⟨p,hp,px⟩:=jbi hxs (g _ z1)
  have q4:=jai ht (.tup [.int i,y])
  have s4:=s3.trans q4
  obtain ⟨b,rfl,eb⟩:=px.same s4
  have et:upd Hc t (.tup [.int i,.ref b]) t = some (.tup [.int i,.ref b]):=ja1
  have ez4:=q4 _ _ ez
  have pz4:=Prs.same q4 pz
  have s24:=s2.trans q4
  generalize upd Hc t (.tup [.int i,.ref b]) = H4 at q4 s4 eb et ez4 pz4 s24
  have hzl:zs.length = i:=by rw [Paired.length pz]; unfold spL; rw [List.length_map,List.length_range]
  simp_all_arith [et,jbl,eb,at0]
  intro t2 ht2
  have q5:=jai ht2 (.tup [.int p.1,.int (2 + (i:Int))])
  have ez5:=q5 _ _ ez4
  have t6:=jd0 (ys:=zs ++ [.ref t2]) ez5
  refine ⟨zs,ez5,szl' (by omega),_,_,zs ++ [.ref t2],rfl,jbh (s24.trans q5) hz0,(by first | rfl | exact ja1),?_⟩
  have e:spL ps (i + 1) = spL ps i ++ [(p.1,2 + (i:Int))]:=by
   unfold spL
   rw [List.range_succ,List.map_append,List.map_singleton,jd1 hp]
  rw [e]
  exact jc7 (Prs.tups t6 (Prs.same q5 pz4)) ⟨t2,rfl,t6 _ _ rfl ja1⟩
 rintro σ' H2 ⟨w1,w2,zs,rfl,s2,ez,pz⟩
 have s3:=s2
 refine ⟨⟨_,SqL.of (s3 _ _ hpa),by omega⟩,?_⟩
 have hzl:zs.length = ps.length:=by rw [Paired.length pz]; unfold spL; rw [List.length_map,List.length_range]
 simp_all_arith [ez]
 refine ⟨jc8 (spL ps ps.length),jhx pz,by omega,jh3 (jn9 wk),fun d hd0=>?_⟩
 have s4:=s3.trans (jai hd0 (.dK (jc8 (spL ps ps.length))))
 have ed:upd H2 d (.dK (jc8 (spL ps ps.length))) d = some (.dK (jc8 (spL ps ps.length))):=ja1
 generalize upd H2 d (.dK (jc8 (spL ps ps.length))) = H3 at s4 ed
 exact h d H3 (s3.free hd0) s4 ed
theorem jhz {f:Addr} {fd:FuncData}  (B:Blt mg) (D:DefAt K mg "set_of_cut" (top 38) ["web","first","near_source"] f fd):FnOk P w K mg base CX0 1 f fd ["web","first","near_source"] spCut:=by
 have sc:FnScope ["web","first","near_source"] ["web","first","near_source"] (jbc (top 38)):=⟨rfl,rfl,rfl,by decide +kernel,rfl,by decide +kernel,by decide +kernel⟩
 refine D.F.ok sc (fun vs H Q E h=>?_) (fun cdv A outer s H vs Q E hr h=>?_)
 ·obtain ⟨v,ps,ts,f,fs,g,ns,rfl,_⟩:=h
  rfl
 obtain ⟨v,ps,ts,f1,fs,g1,ns,rfl,hw,h40,ef,eg,h⟩:=h
 obtain ⟨u,pa,ta,xs,ys,rfl,hu1,hpa,hta,hxs,hys⟩:=hw
 have hxl:=Paired.length hxs
 have hu:=jcb hr
 have hu0:_ < PySem.cLine:=Nat.lt_of_succ_lt hu
 refine ⟨_,(jan (jbq (jcg (CpScope.of (N:=["place","price","first","near_source"]) (src:=[none,none,some 1,some 2]) (by rfl)) rfl (jbx (jbk q_ix (qv 0) jak (fun _ _=>rfl))) (fun _ _ _ _=>(jcr (n:=2) rfl (jbf (jbb (i:=0) (jbj (l:=["place","price","first","near_source"]) (by rfl)) rfl (Or.inl rfl)) (jbf (jbb (i:=1) (jbj (l:=["place","price","first","near_source"]) (by rfl)) rfl (Or.inl rfl)) jcc)))) (fun _ _ _ _=>(jd5 (jbw q_ne (jlp (jj4 hu (qv 0) (qv 2))) (jlp (jj4 hu (qv 0) (qv 3))) (jbv _)))) (fun _ _ _ _=>(qv 0))))),?_⟩
 walk_at "ND"
 refine jbr (Itl K pa) H (fun R2 hR2=>?_) (fun z hz=>jc3 ps.length (fun i σ' Hc=>∃ w1 w2,σ' = [w1,w2,some (.ref f1),some (.ref g1)]∧Same H Hc∧Hc z = some (.lst ((cutS (ps.take i) fs ns).map V.int))) ⟨none,none,rfl,jai hz _,ja1⟩ ?_ ?_)
 ·unfold jcu
  simp_all_arith [jbl,hu1,at0]
  exact ⟨pa,rfl,⟨_,SqL.of hpa⟩,hR2⟩
 ·rintro i σ' Hc hi ⟨w1,w2,rfl,s4,ez⟩
  have x1:xs[i]? = some (xs[i]'(by omega)):=List.getElem?_eq_getElem _
  have z1:SqL K Hc pa xs:=SqL.of (s4 _ _ hpa)
  refine ⟨⟨_,_,z1,x1⟩,?_⟩
  rintro y H' ⟨rfl,hy⟩
  obtain ⟨q,hq,pq⟩:=jbi hxs (hy _ z1)
  obtain ⟨t,rfl,ht⟩:=pq.same s4
  have hcl:(cutS (ps.take i) fs ns).length ≤ 200:=Nat.le_trans (List.length_filter_le _ _) (by rw [List.length_map,List.length_take]; omega)
  have hcs:cutS (ps.take (i + 1)) fs ns = cutS (ps.take i) fs ns ++ (if (!decide (decide (q.1 ∈ fs) = decide (q.1 ∈ ns))) = true then [q.1] else []):=by
   unfold cutS
   rw [jbn hq,List.map_append,List.filter_append,List.map_singleton,List.filter_cons,List.filter_nil]
   congr 1
   by_cases c:decide (q.1 ∈ fs) = decide (q.1 ∈ ns) <;> simp [c]
  simp_all_arith [ht,s4 _ _ ef,s4 _ _ eg,jg8]
  cases c:(!decide (decide (q.1 ∈ fs) = decide (q.1 ∈ ns))) with
  | true =>
   rw [c,if_pos rfl] at hcs
   rw [if_pos rfl]
   refine ⟨_,ez,?_,_,_,rfl,jbh s4 hz,?_⟩
   ·rw [List.length_map]
    exact szl' (by omega)
   ·rw [ja1,hcs,List.map_append]
    rfl
  | false =>
   rw [c,if_neg (by decide),List.append_nil] at hcs
   rw [if_neg (by decide),hcs]
   exact ⟨_,_,rfl,s4,ez⟩
 rintro σ' H1 ⟨w1,w2,rfl,s1,ez⟩
 refine ⟨⟨_,SqL.of (s1 _ _ hpa),by omega⟩,?_⟩
 rw [List.take_length] at ez
 exact h z H1 hz s1 ez
theorem jjc {f:Addr} {fd:FuncData}  (B:Blt mg) (D:DefAt K mg "even_dues" (top 39) ["web","flows"] f fd):FnOk P w K mg base CX0 1 f fd ["web","flows"] jqh:=by
 have sc:FnScope ["web","flows","across"] ["web","flows"] (jbc (top 39)):=⟨rfl,rfl,rfl,by decide +kernel,rfl,by decide +kernel,by decide +kernel⟩
 refine D.F.ok sc (fun vs H Q E h=>?_) (fun cdv A outer s H vs Q E hr h=>?_)
 ·obtain ⟨v,ps,ts,fl,gs,rfl,_⟩:=h
  rfl
 obtain ⟨v,ps,ts,fl,gs,rfl,hw,wk,ef,hfl,h⟩:=h
 obtain ⟨u,pa,ta,xs,ys,rfl,hu1,hpa,hta,hxs,hys⟩:=hw
 have hxl:=Paired.length hxs
 have hyl:=Paired.length hys
 have hu:=jcb hr
 have hu0:_ < PySem.cLine:=Nat.lt_of_succ_lt hu
 refine ⟨_,(ja5 (jbe (i:=2) sc.nd rfl (Or.inl rfl) (jpj q_slL (qv 1) (jr8 (jbp jfp rfl B.len PySem.boot_len (ja0 (jbk q_ix (qv 0) jak (fun _ _=>rfl)) jah))) jrc)) (jan (jbq (jcg (CpScope.of (N:=["tie","amount"]) (src:=[none,none]) (by rfl)) rfl (jre rfl B.zip (ja0 (jbk q_ix (qv 0) jak (fun _ _=>rfl)) (ja0 (qv 2) jah))) (fun _ _ _ _=>(jcr (n:=2) rfl (jbf (jbb (i:=0) (jbj (l:=["tie","amount"]) (by rfl)) rfl (Or.inl rfl)) (jbf (jbb (i:=1) (jbj (l:=["tie","amount"]) (by rfl)) rfl (Or.inl rfl)) jcc)))) (fun _ _ _ _=>(jd5 (jbw q_gt (qv 1) jak (jbv _)))) (fun _ _ _ _=>(jd6 (ja0 (jbk q_ix (qv 0) jak (fun _ _=>rfl)) (ja0 (jbk q_ix (qv 0) jak (fun _ _=>rfl)) (ja0 (jc6 jk9 jak (qv 1)) jah))))))))),?_⟩
 have hpl:=wk.pl
 have htl:=wk.tl
 refine jbd fun R' hR=>?_
 simp_all_arith [jbl,hu1,at0,hpa,ef]
 intro ac hac
 rw [show (xs.length:Int) = ((ps.length:Nat):Int) by omega,jq4 (by rw [List.length_map]; omega),← List.map_drop]
 have q1:=jai hac (.lst ((gs.drop ps.length).map V.int))
 have ea:upd H ac (.lst ((gs.drop ps.length).map V.int)) ac = some (.lst ((gs.drop ps.length).map V.int)):=ja1
 generalize upd H ac (.lst ((gs.drop ps.length).map V.int)) = H1 at q1 ea
 have hgl:(gs.drop ps.length).length = ts.length:=by rw [List.length_drop]; omega
 have hgat:∀ k,k < ts.length→(gs.drop ps.length)[k]? = some (Fl.at' gs (ps.length + k)):=fun k hk=>by
  unfold Fl.at'
  rw [List.getElem?_drop,List.getD_eq_getElem?_getD,List.getElem?_eq_getElem (by omega)]
  rfl
 subst hR
 walk_at "ND"
 refine jbr (Itz true K ta ac) H1 (fun R2 hR2=>?_) (fun l hl0=>jc3 ts.length (fun i σ' Hc=>∃ w1 w2 zs,σ' = [w1,w2]∧Same H1 Hc∧Hc l = some (.lst zs)∧Tps Hc zs (duA gs ps.length ts i)) ⟨none,none,[],rfl,jai hl0 _,ja1,.nil⟩ ?_ ?_)
 ·unfold iZipE
  simp_all_arith [jbl,q1 _ _ hu1,at1]
  exact ⟨true,ta,ac,rfl,⟨_,SqL.of (q1 _ _ hta)⟩,⟨_,SqL.of ea⟩,hR2⟩
 ·rintro i σ' Hc hi ⟨w1,w2,zs,rfl,s6,el,pz⟩
  have s7:=q1.trans s6
  have z1:SqB true K Hc ta ys:=SqL.of (s7 _ _ hta)
  have z2:SqB true K Hc ac ((gs.drop ps.length).map V.int):=SqL.of (s6 _ _ ea)
  have x1:ys[i]? = some (ys[i]'(by omega)):=List.getElem?_eq_getElem _
  have x2:((gs.drop ps.length).map V.int)[i]? = some (.int (Fl.at' gs (ps.length + i))):=by rw [List.getElem?_map,hgat i hi]; rfl
  refine ⟨⟨_,_,_,_,z1,z2,x1,x2⟩,?_⟩
  rintro x H' ⟨t,y1,y2,ht,rfl,rfl,g1,g2⟩
  have E2:=Option.some.inj (x2.symm.trans (g2 _ z2))
  subst E2
  obtain ⟨tt,htt,pt⟩:=jbi hys (g1 _ z1)
  generalize hgi:Fl.at' gs (ps.length + i) = gi at *
  have q8:=jai ht (.tup [y1,.int gi])
  have s8:=s7.trans q8
  obtain ⟨tb,rfl,etb⟩:=pt.same s8
  have et:upd Hc t (.tup [.ref tb,.int gi]) t = some (.tup [.ref tb,.int gi]):=ja1
  have el8:=q8 _ _ el
  have pz8:=jcv q8.tups pz
  have s68:=s6.trans q8
  generalize upd Hc t (.tup [.ref tb,.int gi]) = H8 at q8 s8 etb et el8 pz8 s68
  have hdu:duA gs ps.length ts (i + 1) = duA gs ps.length ts i ++ (if gi > 0 then [(tt.1,tt.2,2 * gi)] else []):=by
   unfold duA
   rw [List.range_succ,List.map_append,List.filter_append,List.map_singleton,jd1 htt,hgi]
   congr 1
   rw [List.filter_cons]
   by_cases c:gi > 0
   ·rw [if_pos c,if_pos (decide_eq_true (show 2 * gi > 0 by omega))]; rfl
   ·rw [if_neg c,if_neg (by simp; omega)]; rfl
  have hzl:=Paired.length pz
  have hzl2:zs.length ≤ i:=by
   rw [hzl]
   unfold duA
   refine Nat.le_trans (List.length_filter_le _ _) ?_
   rw [List.length_map,List.length_range]
   exact Nat.le_refl _
  simp_all_arith [et]
  refine ite2 (fun c=>?_) (fun c=>?_)
  ·rw [if_pos (of_decide_eq_true c)] at hdu
   simp_all_arith [jbl,etb,at0,at1]
   refine ⟨cmL (by decide) (by decide),?_⟩
   intro t2 ht2
   have q9:=jai ht2 (.tup [.int tt.1,.int tt.2,.int (2 * gi)])
   have el9:=q9 _ _ el8
   have t9:=jd0 (ys:=zs ++ [.ref t2]) el9
   refine ⟨zs,el9,szl' (by omega),_,_,zs ++ [.ref t2],rfl,jbh (s68.trans q9) hl0,(by first | rfl | exact ja1),?_⟩
   rw [hdu]
   exact jc7 (jcv t9 (jcv q9.tups pz8)) ⟨t2,rfl,t9 _ _ rfl ja1⟩
  ·rw [if_neg (fun z=>c (decide_eq_true z)),List.append_nil] at hdu
   rw [hdu]
   exact ⟨_,_,zs,rfl,s68,el8,pz8⟩
 ·rintro σ' Hc ⟨w1,w2,zs,rfl,s6,el,pz⟩
  refine ⟨⟨_,_,SqL.of ((q1.trans s6) _ _ hta),SqL.of (s6 _ _ ea),.inl (by omega)⟩,?_⟩
  exact h l zs Hc (q1.free hl0) (q1.trans s6) el pz
theorem ji1 {f:Addr} {fd:FuncData} {f_spots_of:Addr} {d_spots_of:FuncData} {f_init:Addr} {d_init:FuncData} (B:Blt mg) (D:DefAt K mg "net_across" (top 36) ["web","first"] f fd) (D_spots_of:DefAt K mg "spots_of" (top 37) ["web"] f_spots_of d_spots_of) (G_spots_of:FnOk P w K mg base CX0 1 f_spots_of d_spots_of ["web"] jk6) (D_init:MthAt K C_Net "__init__" "Net.__init__" (meth 9 0) ["self","many","arcs"] f_init d_init) (G_init:FnOk P w K mg base CX0 2 f_init d_init ["self","many","arcs"] (jqf C_Net)) (T:NetC K mg C_Net) (C2:Cst2 mg e1 e2 e3) (MK:Mk K C_Net f_init):FnOk P w K mg base CX0 5 f fd ["web","first"] (jld C_Net):=by
 have sc:FnScope ["web","first","plenty","spots","arcs","place","price","one","other","tail","head"] ["web","first"] (jbc (top 36)):=⟨rfl,rfl,rfl,by decide +kernel,rfl,by decide +kernel,by decide +kernel⟩
 refine D.F.ok sc (fun vs H Q E h=>?_) (fun cdv A outer s H vs Q E hr h=>?_)
 ·obtain ⟨v,ps,ts,f,fs,rfl,_⟩:=h
  rfl
 obtain ⟨v,ps,ts,f1,fs,rfl,hw,wk,ef,h⟩:=h
 obtain ⟨u,pa,ta,xs,ys,rfl,hu1,hpa,hta,hxs,hys⟩:=id hw
 have hxl:=Paired.length hxs
 have hyl:=Paired.length hys
 have hu:=jcb hr
 have hu0:_ < PySem.cLine:=Nat.lt_of_succ_lt hu
 refine ⟨_,(ja5 (jbe (i:=2) sc.nd rfl (Or.inl rfl) (jc6 jdy jak (jbp (q_sum rfl) rfl B.sum PyProof.Rows.boot_sum (ja0 (jcg (CpScope.of (N:=["place","price"]) (src:=[none,none]) (by rfl)) rfl (jbx (jbk q_ix (qv 0) jak (fun _ _=>rfl))) (fun _ _ _ _=>(jcr (n:=2) rfl (jbf (jbb (i:=0) (jbj (l:=["place","price"]) (by rfl)) rfl (Or.inl rfl)) (jbf (jbb (i:=1) (jbj (l:=["place","price"]) (by rfl)) rfl (Or.inl rfl)) jcc)))) (fun _ _ _ _=>jdz) (fun _ _ _ _=>(qv 1))) jah)))) (ja5 (jbe (i:=3) sc.nd rfl (Or.inl rfl) (jbg G_spots_of (hr.mono (by decide)) rfl D_spots_of.m D_spots_of.F.kp D_spots_of.b .nil jbt (ja0 (qv 0) jah))) (ja5 (jbe (i:=4) sc.nd rfl (Or.inl rfl) (jcd jah)) (ja5 (jca PassesOwn.never rfl (jbx (jbk q_ix (qv 0) jak (fun _ _=>rfl))) (jcr (n:=2) rfl (jbf (jbb (i:=5) sc.nd rfl (Or.inl rfl)) (jbf (jbb (i:=6) sc.nd rfl (Or.inl rfl)) jcc))) (jan (jby (q_bm PySem.F.plainAttrs_list PySem.F.slot_list_append PySem.F.type_list_append jc5 (qv 4) (ja0 (jfc (jfo (jj4 hu (qv 5) (qv 1))) (jd6 (ja0 (jcy (v:=.int 0) rfl C2.SOURCE ⟨_,rfl⟩) (ja0 (jd4 hu (qv 3) (qv 5) (fun _ _=>rfl)) (ja0 (qv 6) jah)))) (jd6 (ja0 (jd4 hu (qv 3) (qv 5) (fun _ _=>rfl)) (ja0 (jcy (v:=.int 1) rfl C2.SINK ⟨_,rfl⟩) (ja0 (qv 6) jah))))) jah))))) (ja5 (jca PassesOwn.never rfl (jbx (jbk q_ix (qv 0) jak (fun _ _=>rfl))) (jcr (n:=2) rfl (jbf (jbb (i:=7) sc.nd rfl (Or.inl rfl)) (jbf (jbb (i:=8) sc.nd rfl (Or.inl rfl)) jcc))) (ja5 (jbe (i:=9) sc.nd rfl (Or.inl rfl) (jfc (jfo (jj4 hu (qv 7) (qv 1))) (qv 7) (qv 8))) (ja5 (jbe (i:=10) sc.nd rfl (Or.inl rfl) (jfc (jfo (jj4 hu (qv 7) (qv 1))) (qv 8) (qv 7))) (jan (jby (q_bm PySem.F.plainAttrs_list PySem.F.slot_list_append PySem.F.type_list_append jc5 (qv 4) (ja0 (jd6 (ja0 (jd4 hu (qv 3) (qv 9) (fun _ _=>rfl)) (ja0 (jd4 hu (qv 3) (qv 10) (fun _ _=>rfl)) (ja0 (qv 2) jah)))) jah))))))) (jan (jbq (jrh MK G_init (hr.mono (by decide)) rfl T.m D_init.b .nil jbt (ja0 (jc6 jdy (jcy (v:=.int 2) rfl C2.FIRST ⟨_,rfl⟩) (jbp jfp rfl B.len PySem.boot_len (ja0 (jbk q_ix (qv 0) jak (fun _ _=>rfl)) jah))) (ja0 (qv 4) jah)))))))))),?_⟩
 have hpl:=wk.pl
 have htl:=wk.tl
 refine jbd fun R' hR=>?_
 walk_at "ND"
 refine jbr (Itl K pa) H (fun R2 hR2=>?_) (fun z hz0=>jc3 ps.length (fun i σ' Hc=>∃ w1 w2,σ' = [w1,w2]∧Same H Hc∧Hc z = some (.lst (((ps.take i).map (·.2)).map V.int))) ⟨none,none,rfl,jai hz0 _,ja1⟩ ?_ ?_)
 ·unfold jcu
  simp_all_arith [jbl,hu1,at0]
  exact ⟨pa,rfl,⟨_,SqL.of hpa⟩,hR2⟩
 ·rintro i σ' Hc hi ⟨w1,w2,rfl,s7,ez⟩
  have x1:xs[i]? = some (xs[i]'(by omega)):=List.getElem?_eq_getElem _
  refine ⟨⟨_,_,SqL.of (s7 _ _ hpa),x1⟩,?_⟩
  rintro y H' ⟨rfl,hy⟩
  have E1:=Option.some.inj (x1.symm.trans (hy _ (SqL.of (s7 _ _ hpa))))
  obtain ⟨pr,hpr,px⟩:=jbi hxs x1
  rw [E1] at px
  obtain ⟨b,rfl,hb⟩:=px.same s7
  simp_all_arith [hb]
  refine ⟨_,ez,?_,_,_,rfl,jbh s7 hz0,?_⟩
  ·rw [List.length_map,List.length_map,List.length_take]
   exact szl' (by omega)
  ·rw [ja1,jbn hpr,List.map_append,List.map_append]
   rfl
 rintro σ' H1 ⟨w1,w2,rfl,s1,ez⟩
 refine ⟨⟨_,SqL.of (s1 _ _ hpa),by omega⟩,?_⟩
 rw [List.take_length] at ez
 refine ⟨z,_,rfl,ez,?_⟩
 walk_at "ND"
 rw [show (1:Int) + (ps.map (·.2)).sum = plW ps from rfl]
 clear ez
 subst hR
 refine jbd fun R' hR=>?_
 walk_at "ND"
 refine ⟨.ref u,ps,ts,rfl,hw.same s1,wk,fun d H3 hd0 s3' ed=>?_⟩
 have s3:=s1.trans s3'
 subst hR
 refine jbd fun R' hR=>?_
 walk_at "ND"
 intro al hal
 have falH:=s3.free hal
 have dal:d ≠ al:=ja6 ed hal
 have s4:=s3.trans (jai hal (.lst []))
 have ed4:=jai hal (.lst []) _ _ ed
 have eal4:upd H3 al (.lst []) al = some (.lst []):=ja1
 generalize upd H3 al (.lst []) = H4 at s4 ed4 eal4
 subst hR
 refine jbd fun R' hR=>?_
 refine jbo (Itl K pa) H4 (fun R3 hR3=>?_) (jc9 (K:=K) (a:=pa) (xs:=xs) (fun k σ Hc=>∃ v5 v6 ws,σ = [some (.ref u),some (.ref f1),some (.int (plW ps)),some (.ref d),some (.ref al),v5,v6,none,none,none,none]∧Same H Hc∧Hc d = some (.dK (jc8 (spL ps ps.length)))∧Hc al = some (.lst ws)∧Tps Hc ws ((ps.take k).map (arcP ps fs))) ⟨none,none,[],rfl,s4,ed4,eal4,.nil⟩ (fun k σ Hc _ ⟨_,_,_,_,s5,_⟩=>SqL.of (s5 _ _ hpa)) ?_ ?_)
 ·unfold jcu
  simp_all_arith [jbl,s4 _ _ hu1,at0]
  exact ⟨pa,rfl,⟨_,SqL.of (s4 _ _ hpa)⟩,hR3⟩
 ·rintro k x σ Hc hx ⟨v5,v6,ws,rfl,sA,edA,ealA,pw⟩
  obtain ⟨p,hp,px⟩:=jbi hxs hx
  obtain ⟨b,rfl,hb⟩:=px.same sA
  have hv:=jel wk (List.mem_map.mpr ⟨p,List.mem_of_getElem? hp,rfl⟩)
  have hkl:=(List.getElem?_eq_some_iff.mp hp).1
  have hwl:ws.length ≤ k:=by rw [Paired.length pw,List.length_map,List.length_take]; omega
  have fin:∀ (V1 V2 V3:V) (a:Fl.Arc),V1 = .int a.1→V2 = .int a.2.1→V3 = .int a.2.2→arcP ps fs p = a→∀ t1,Hc t1 = none→upd (upd Hc t1 (.tup [V1,V2,V3])) al (.lst (ws ++ [.ref t1])) = upd (upd Hc t1 (.tup [V1,V2,V3])) al (.lst (ws ++ [.ref t1]))∧Same H (upd (upd Hc t1 (.tup [V1,V2,V3])) al (.lst (ws ++ [.ref t1])))∧upd (upd Hc t1 (.tup [V1,V2,V3])) al (.lst (ws ++ [.ref t1])) d = some (.dK (jc8 (spL ps ps.length)))∧upd (upd Hc t1 (.tup [V1,V2,V3])) al (.lst (ws ++ [.ref t1])) al = some (.lst (ws ++ [.ref t1]))∧Tps (upd (upd Hc t1 (.tup [V1,V2,V3])) al (.lst (ws ++ [.ref t1]))) (ws ++ [.ref t1]) ((ps.take (k + 1)).map (arcP ps fs)):=by
   rintro V1 V2 V3 a rfl rfl rfl ea t1 ht1
   have qB:=jai ht1 (.tup [.int a.1,.int a.2.1,.int a.2.2])
   have tB:=jd0 (ys:=ws ++ [.ref t1]) (qB _ _ ealA)
   refine ⟨rfl,jbh (sA.trans qB) falH,by rw [jaj dal]; exact qB _ _ edA,ja1,?_⟩
   rw [jbn hp,List.map_append,List.map_singleton,ea]
   exact jc7 (jcv tB (jcv qB.tups pw)) ⟨t1,rfl,tB _ _ rfl ja1⟩
  simp_all_arith [hb]
  refine ⟨⟨al,ws,rfl,ealA⟩,?_⟩
  simp_all_arith [sA _ _ ef,jg8,edA,hv]
  by_cases c:p.1 ∈ fs
  ·rw [decide_eq_true c,if_pos rfl]
   intro t1 ht1
   have ealB:=jai ht1 (.tup [.int 0,.int (spF ps p.1),.int p.2]) _ _ ealA
   rw [ealB]
   dsimp only
   obtain ⟨_,f2,f3,f4,f5⟩:=fin _ _ _ (0,spF ps p.1,p.2) rfl rfl rfl (by unfold arcP; rw [if_pos c]) t1 ht1
   exact ⟨szl' (by omega),_,_,_,rfl,f2,f3,f4,f5⟩
  ·rw [decide_eq_false c,if_neg (by decide)]
   intro t1 ht1
   have ealB:=jai ht1 (.tup [.int (spF ps p.1),.int 1,.int p.2]) _ _ ealA
   rw [ealB]
   dsimp only
   obtain ⟨_,f2,f3,f4,f5⟩:=fin _ _ _ (spF ps p.1,1,p.2) rfl rfl rfl (by unfold arcP; rw [if_neg c]) t1 ht1
   exact ⟨szl' (by omega),_,_,_,rfl,f2,f3,f4,f5⟩
 rintro σ H6 ⟨v5,v6,ws0,rfl,s9,ed9,eal9,pz9⟩
 refine (?_:R' _ _ _)
 rw [hxl,List.take_length] at pz9
 subst hR
 refine jbd fun R' hR=>?_
 refine jbo (Itl K ta) H6 (fun R3 hR3=>?_) (jc9 (K:=K) (a:=ta) (xs:=ys) (fun k σ Hc=>∃ v7 v8 v9 v10 ws,σ = [some (.ref u),some (.ref f1),some (.int (plW ps)),some (.ref d),some (.ref al),v5,v6,v7,v8,v9,v10]∧Same H Hc∧Hc d = some (.dK (jc8 (spL ps ps.length)))∧Hc al = some (.lst ws)∧Tps Hc ws (ps.map (arcP ps fs) ++ (ts.take k).map (arcT ps fs))) ⟨none,none,none,none,ws0,rfl,s9,ed9,eal9,by rw [List.take_zero,List.map_nil,List.append_nil]; exact pz9⟩ (fun k σ Hc _ ⟨_,_,_,_,_,_,s5,_⟩=>SqL.of (s5 _ _ hta)) ?_ ?_)
 ·unfold jcu
  simp_all_arith [jbl,s9 _ _ hu1,at1]
  exact ⟨ta,rfl,⟨_,SqL.of (s9 _ _ hta)⟩,hR3⟩
 ·rintro k x σ Hc hx ⟨v7,v8,v9,v10,ws,rfl,sA,edA,ealA,pw⟩
  obtain ⟨t,htk,pt⟩:=jbi hys hx
  obtain ⟨tb,rfl,etb⟩:=pt.same sA
  have hkl:=(List.getElem?_eq_some_iff.mp htk).1
  obtain ⟨m1,m2⟩:=jmy wk fs t (List.mem_of_getElem? htk)
  have hv1:=jel wk m1
  have hv2:=jel wk m2
  have hwl:ws.length ≤ 40 + k:=by rw [Paired.length pw,List.length_append,List.length_map,List.length_map,List.length_take]; omega
  have fin:∀ (T1 T2:Int),tlT fs t = T1→hdT fs t = T2→∀ t1,Hc t1 = none→upd Hc t1 (.tup [.int (spF ps T1),.int (spF ps T2),.int (plW ps)]) al = some (.lst ws)∧Same H (upd (upd Hc t1 (.tup [.int (spF ps T1),.int (spF ps T2),.int (plW ps)])) al (.lst (ws ++ [.ref t1])))∧upd (upd Hc t1 (.tup [.int (spF ps T1),.int (spF ps T2),.int (plW ps)])) al (.lst (ws ++ [.ref t1])) d = some (.dK (jc8 (spL ps ps.length)))∧upd (upd Hc t1 (.tup [.int (spF ps T1),.int (spF ps T2),.int (plW ps)])) al (.lst (ws ++ [.ref t1])) al = some (.lst (ws ++ [.ref t1]))∧Tps (upd (upd Hc t1 (.tup [.int (spF ps T1),.int (spF ps T2),.int (plW ps)])) al (.lst (ws ++ [.ref t1]))) (ws ++ [.ref t1]) (ps.map (arcP ps fs) ++ (ts.take (k + 1)).map (arcT ps fs)):=by
   rintro T1 T2 e1' e2' t1 ht1
   have qB:=jai ht1 (.tup [.int (spF ps T1),.int (spF ps T2),.int (plW ps)])
   have tB:=jd0 (ys:=ws ++ [.ref t1]) (qB _ _ ealA)
   refine ⟨qB _ _ ealA,jbh (sA.trans qB) falH,by rw [jaj dal]; exact qB _ _ edA,ja1,?_⟩
   rw [jbn htk,List.map_append,List.map_singleton,← List.append_assoc]
   exact jc7 (jcv tB (jcv qB.tups pw)) (show Tp _ _ (spF ps (tlT fs t),spF ps (hdT fs t),plW ps) from ⟨t1,rfl,by rw [e1',e2']; exact tB _ _ rfl ja1⟩)
  simp_all_arith [etb,sA _ _ ef,jg8]
  by_cases c:t.1 ∈ fs
  ·have e1':tlT fs t = t.1:=if_pos c
   have e2':hdT fs t = t.2:=if_pos c
   rw [e1'] at hv1
   rw [e2'] at hv2
   simp only [c,decide_true,if_true]
   simp_all_arith [edA,hv1,hv2]
   refine ⟨⟨al,ws,rfl,ealA⟩,fun t1 ht1=>?_⟩
   obtain ⟨f1',f2,f3,f4,f5⟩:=fin _ _ e1' e2' t1 ht1
   rw [f1']
   dsimp only
   exact ⟨szl' (by omega),_,_,_,_,_,rfl,f2,f3,f4,f5⟩
  ·have e1':tlT fs t = t.2:=if_neg c
   have e2':hdT fs t = t.1:=if_neg c
   rw [e1'] at hv1
   rw [e2'] at hv2
   simp only [c,decide_false,Bool.false_eq_true,if_false]
   simp_all_arith [edA,hv1,hv2]
   refine ⟨⟨al,ws,rfl,ealA⟩,fun t1 ht1=>?_⟩
   obtain ⟨f1',f2,f3,f4,f5⟩:=fin _ _ e1' e2' t1 ht1
   rw [f1']
   dsimp only
   exact ⟨szl' (by omega),_,_,_,_,_,rfl,f2,f3,f4,f5⟩
 ·rintro σ Hc ⟨v7,v8,v9,v10,ws,rfl,sA,edA,ealA,pw⟩
  rw [hyl,List.take_length] at pw
  have pw:Tps Hc ws (jbs ps ts fs):=pw
  subst hR
  simp_all_arith [jbl,sA _ _ hu1,at0,sA _ _ hpa]
  intro p dx hp hdx hne
  have hpal:al ≠ p:=ja6 ealA hp
  have hdal:al ≠ dx:=ja6 ealA hdx
  have sB:Same Hc (upd (upd Hc dx (.own p)) p (.ins C_Net dx [])):=fun b o q=>by rw [jaj (ja6 q hp),jaj (ja6 q hdx)]; exact q
  refine ⟨p,dx,2 + ps.length,al,ws,jbs ps ts fs,by rw [show ((2 + ps.length:Nat):Int) = 2 + (xs.length:Int) by omega],ja1,sB _ _ ealA,jcv sB.tups pw,by omega,by rw [jef]; omega,fun a ha=>(jie wk fs a ha).1,fun R H' hR' b N=>?_⟩
  refine ⟨rfl,h p R H' (sA.free (sB.free hR')) (fun b' o q=>b b' o (ja6 (sA _ _ q) hp) (sB _ _ (sA _ _ q))) N⟩
end
end My
namespace My
open PySem L2
section
variable {P:Program} {w:World} {K:PySem.W.Frag} {mg:Str→Option Value} {base:Heap} {c1 c2 c3 c4 e1 e2 e3:Tok} {C_Net C_NoWeb f_NoWeb:Addr} {dI:FuncData}
structure RstB (ps ts:List (Int × Int)) (fs r nr nt:List Int):Prop where
 run:Fl.Runs (Fl.wfA (jbs ps ts fs)) (Fl.hsA (jbs ps ts fs)) (2 + ps.length) 0 1 (Fl.rmA (jbs ps ts fs)) r
 end_:Fl.stp (Fl.wfA (jbs ps ts fs)) (Fl.hsA (jbs ps ts fs)) (2 + ps.length) 0 1 r = none
 nr:∀ n,n ∈ nr ↔ n ∈ ps.map (·.1)∧spF ps n ∈ (Fl.cbOf (Fl.wfA (jbs ps ts fs)) (Fl.hsA (jbs ps ts fs)) (2 + ps.length) 0 r).map (·.1)
 nt:∃ ms,Fl.CoR (Fl.wfA (jbs ps ts fs)) (Fl.hsA (jbs ps ts fs)) r (2 + ps.length) 1 ms∧∀ n,n ∈ nt ↔ n ∈ ps.map (·.1)∧spF ps n ∉ ms
theorem jqk {ps ts:List (Int × Int)} (wk:WebOk ps ts) (fs:List Int):Fl.Rooms (jbs ps ts fs).length (Fl.capA (jbs ps ts fs)) (Fl.rmA (jbs ps ts fs)):=Fl.rooms0 fun a ha=>(jie wk fs a ha).2
theorem netB {ps ts:List (Int × Int)} (wk:WebOk ps ts) (fs:List Int):Fl.Net (Fl.wfA (jbs ps ts fs)) (Fl.hsA (jbs ps ts fs)) (jbs ps ts fs).length (2 + ps.length):=Fl.net_of fun a ha=>(jie wk fs a ha).1
theorem jgt {ps ts:List (Int × Int)} {fs r:List Int} (wk:WebOk ps ts) (run:Fl.Runs (Fl.wfA (jbs ps ts fs)) (Fl.hsA (jbs ps ts fs)) (2 + ps.length) 0 1 (Fl.rmA (jbs ps ts fs)) r):Fl.Rooms (jbs ps ts fs).length (Fl.capA (jbs ps ts fs)) r∧∀ v,v ≠ 0→v ≠ 1→Fl.ex (Fl.hsA (jbs ps ts fs)) (jbs ps ts fs).length r v = 0:=by
 obtain ⟨a,b⟩:=Fl.runs_keep (netB wk fs) (by decide) ⟨Int.le_refl _,by omega⟩ run (jqk wk fs)
 exact ⟨a,fun v h1 h2=>(b v h1 h2).trans (Fl.ex0 _ _ _ _)⟩
theorem Nt.frz {C:Addr} {H:Hp} {p R d:Addr} {wf:Int→List Nat} {hs:List Int} {m n:Nat} {r:List Int} {kvs:List (Key × V)} (N:Nt C H p R wf hs m n r) (e:H d = some (.dK kvs)) (o:HO):Nt C (upd H d o) p R wf hs m n r:=by
 have k:∀ a q,H a = some q→(q ≠ .dK kvs)→upd H d o a = some q:=fun a q ha hq=>by
  rw [jaj (fun z=>by rw [z,e] at ha; exact hq (Option.some.inj ha).symm)]
  exact ha
 obtain ⟨⟨dx,W,Hd,ls,e1,e2,e3,e4,e5,n1,n2,n3⟩,eR,net,hlen,hbig,hn⟩:=N
 exact ⟨⟨dx,W,Hd,ls,k _ _ e1 (fun z=>nomatch z),k _ _ e2 (fun z=>nomatch z),e3,fun i a ha=>⟨k _ _ (e4 i a ha).1 (fun z=>nomatch z),(e4 i a ha).2⟩,k _ _ e5 (fun z=>nomatch z),n1,n2,n3⟩,k _ _ eR (fun z=>nomatch z),net,hlen,hbig,hn⟩
theorem jq6 {α:Type} {xs:List α} {k:Nat} (h:xs.length = 2 * k):(alt false xs).length = k:=by
 have h1:=jm6 false xs
 have hge:¬ k < (alt false xs).length:=fun z=>by
  have:=h1 k
  rw [List.getElem?_eq_getElem z,List.getElem?_eq_none (show xs.length ≤ 2 * k + (if false = true then 0 else 1) by rw [if_neg (by decide)]; omega)] at this
  cases this
 by_cases c:k = 0
 ·omega
 ·have:=h1 (k - 1)
  rw [List.getElem?_eq_getElem (show 2 * (k - 1) + (if false = true then 0 else 1) < xs.length by rw [if_neg (by decide)]; omega)] at this
  have:=(List.getElem?_eq_some_iff.mp this).1
  omega
def jn6 (C:Addr):Sp:=fun vs H Q _=>∃ v ps ts f col,vs = [v]∧jdj H v ps ts∧WebOk ps ts∧LabOk ps ts f∧Col ts col∧∀ t m1 m2 l us r nr nt H',Same H H'→H t = none→H m1 = none→H m2 = none→H l = none→m1 ≠ m2→m1 ≠ l→m2 ≠ l→H' t = some (.tup [.ref m1,.ref m2,.ref l])→H' m1 = some (.lst ((cutS ps (sdL f col (ps.map (·.1)) 0) nr).map V.int))→H' m2 = some (.lst ((cutS ps (sdL f col (ps.map (·.1)) 0) nt).map V.int))→H' l = some (.lst us)→Tps H' us (duA (alt false r) ps.length ts ts.length)→RstB ps ts (sdL f col (ps.map (·.1)) 0) r nr nt→Q (.ref t) H'
theorem jqe {ps:List (Int × Int)} {i:Nat} {p:Int × Int} (h:ps[i]? = some p):(jc8 (spL ps ps.length))[i]? = some (Sum.inl p.1,.int (2 + (i:Int))):=by
 have hi:=(List.getElem?_eq_some_iff.mp h).1
 unfold jc8 spL
 rw [List.map_map,List.getElem?_map,List.getElem?_range hi]
 show some _ = _
 dsimp only [Function.comp]
 rw [jd1 h]
theorem jhm (ps:List (Int × Int)):(jc8 (spL ps ps.length)).length = ps.length:=by
 unfold jc8 spL
 rw [List.length_map,List.length_map,List.length_range]
theorem jjg {C dx W Hd R:Addr}:jeq C (some (netO C dx W Hd R)) "reaching" = true:=jjh rfl rfl rfl
theorem ji0 {f:Addr} {fd:FuncData} {f_sides_of:Addr} {d_sides_of:FuncData} {f_marked:Addr} {d_marked:FuncData} {f_spots_of:Addr} {d_spots_of:FuncData} {f_net_across:Addr} {d_net_across:FuncData} {f_fill:Addr} {d_fill:FuncData} {f_reached_from:Addr} {d_reached_from:FuncData} {f_reaching:Addr} {d_reaching:FuncData} {f_set_of_cut:Addr} {d_set_of_cut:FuncData} {f_flows:Addr} {d_flows:FuncData} {f_even_dues:Addr} {d_even_dues:FuncData} (B:Blt mg) (D:DefAt K mg "pairing_of" (top 40) ["web"] f fd) (D_sides_of:DefAt K mg "sides_of" (top 34) ["web"] f_sides_of d_sides_of) (G_sides_of:FnOk P w K mg base CX0 6 f_sides_of d_sides_of ["web"] jn3) (D_marked:DefAt K mg "marked" (top 15) ["places"] f_marked d_marked) (G_marked:FnOk P w K mg base CX0 1 f_marked d_marked ["places"] jn8) (D_spots_of:DefAt K mg "spots_of" (top 37) ["web"] f_spots_of d_spots_of) (G_spots_of:FnOk P w K mg base CX0 1 f_spots_of d_spots_of ["web"] jk6) (D_net_across:DefAt K mg "net_across" (top 36) ["web","first"] f_net_across d_net_across) (G_net_across:FnOk P w K mg base CX0 5 f_net_across d_net_across ["web","first"] (jld C_Net)) (D_fill:MthAt K C_Net "fill" "Net.fill" (meth 9 2) ["self","source","sink"] f_fill d_fill) (G_fill:FnOk P w K mg base CX0 3 f_fill d_fill ["self","source","sink"] (jqg C_Net)) (D_reached_from:MthAt K C_Net "reached_from" "Net.reached_from" (meth 9 7) ["self","source"] f_reached_from d_reached_from) (G_reached_from:FnOk P w K mg base CX0 2 f_reached_from d_reached_from ["self","source"] (jn5 C_Net)) (D_reaching:MthAt K C_Net "reaching" "Net.reaching" (meth 9 8) ["self","sink"] f_reaching d_reaching) (G_reaching:FnOk P w K mg base CX0 1 f_reaching d_reaching ["self","sink"] (spCoR C_Net)) (D_set_of_cut:DefAt K mg "set_of_cut" (top 38) ["web","first","near_source"] f_set_of_cut d_set_of_cut) (G_set_of_cut:FnOk P w K mg base CX0 1 f_set_of_cut d_set_of_cut ["web","first","near_source"] spCut) (D_flows:MthAt K C_Net "flows" "Net.flows" (meth 9 6) ["self"] f_flows d_flows) (G_flows:FnOk P w K mg base CX0 1 f_flows d_flows ["self"] (jna C_Net)) (D_even_dues:DefAt K mg "even_dues" (top 39) ["web","flows"] f_even_dues d_even_dues) (G_even_dues:FnOk P w K mg base CX0 1 f_even_dues d_even_dues ["web","flows"] jqh) (T:NetC K mg C_Net) (C2:Cst2 mg e1 e2 e3):FnOk P w K mg base CX0 7 f fd ["web"] (jn6 C_Net):=by
 have sc:FnScope ["web","told","first","spots","net","reached","reaching","most","fewest"] ["web"] (jbc (top 40)):=⟨rfl,rfl,rfl,by decide +kernel,rfl,by decide +kernel,by decide +kernel⟩
 refine D.F.ok sc (fun vs H Q E h=>?_) (fun cdv A outer s H vs Q E hr h=>?_)
 ·obtain ⟨v,ps,ts,fl,col,rfl,_⟩:=h
  rfl
 obtain ⟨v,ps,ts,fl,col,rfl,hw,wk,lab,hcol,h⟩:=h
 have hpl:=wk.pl
 have htl:=wk.tl
 have hnd:=wk.p.nodup
 have hu:=jcb hr
 have hu0:_ < PySem.cLine:=Nat.lt_of_succ_lt hu
 refine ⟨_,(ja5 (jbe (i:=1) sc.nd rfl (Or.inl rfl) (jbg G_sides_of (hr.mono (by decide)) rfl D_sides_of.m D_sides_of.F.kp D_sides_of.b .nil jbt (ja0 (qv 0) jah))) (ja5 (jct (jbw q_eq (jbk q_ix (qv 1) jak (fun _ _=>rfl)) jnv (jbv _)) jnq jbu) (ja5 (jbe (i:=2) sc.nd rfl (Or.inl rfl) (jbg G_marked (hr.mono (by decide)) rfl D_marked.m D_marked.F.kp D_marked.b .nil jbt (ja0 (jbk q_ix (qv 1) jak (fun _ _=>rfl)) jah))) (ja5 (jbe (i:=3) sc.nd rfl (Or.inr rfl) (jbg G_spots_of (hr.mono (by decide)) rfl D_spots_of.m D_spots_of.F.kp D_spots_of.b .nil jbt (ja0 (qv 0) jah))) (ja5 (jbe (i:=4) sc.nd rfl (Or.inl rfl) (jbg G_net_across (hr.mono (by decide)) rfl D_net_across.m D_net_across.F.kp D_net_across.b .nil jbt (ja0 (qv 0) (ja0 (qv 2) jah)))) (ja5 (jby (jcw (qv 4) T.cl D_fill.m G_fill (hr.mono (by decide)) D_fill.b .nil jbt (ja0 (jcy (v:=.int 0) rfl C2.SOURCE ⟨_,rfl⟩) (ja0 (jcy (v:=.int 1) rfl C2.SINK ⟨_,rfl⟩) jah)))) (ja5 (jbe (i:=5) sc.nd rfl (Or.inr rfl) (jbg G_marked (hr.mono (by decide)) rfl D_marked.m D_marked.F.kp D_marked.b .nil jbt (ja0 (jcw (qv 4) T.cl D_reached_from.m G_reached_from (hr.mono (by decide)) D_reached_from.b .nil jbt (ja0 (jcy (v:=.int 0) rfl C2.SOURCE ⟨_,rfl⟩) jah)) jah))) (ja5 (jbe (i:=6) sc.nd rfl (Or.inr rfl) (jbg G_marked (hr.mono (by decide)) rfl D_marked.m D_marked.F.kp D_marked.b .nil jbt (ja0 (jcw (qv 4) T.cl D_reaching.m G_reaching (hr.mono (by decide)) D_reaching.b .nil jbt (ja0 (jcy (v:=.int 1) rfl C2.SINK ⟨_,rfl⟩) jah)) jah))) (ja5 (jbe (i:=7) sc.nd rfl (Or.inl rfl) (jbg G_set_of_cut (hr.mono (by decide)) rfl D_set_of_cut.m D_set_of_cut.F.kp D_set_of_cut.b .nil jbt (ja0 (qv 0) (ja0 (qv 2) (ja0 (jbg G_marked (hr.mono (by decide)) rfl D_marked.m D_marked.F.kp D_marked.b .nil jbt (ja0 (jcg (CpScope.of (N:=["place","reached","spots"]) (src:=[none,some 5,some 3]) (by rfl)) rfl (jkf (qv 3)) (fun _ _ _ _=>(jbb (i:=0) (jbj (l:=["place","reached","spots"]) (by rfl)) rfl (Or.inl rfl))) (fun _ _ _ _=>(jd5 (jfo (jj4 hu (jen (by exact hu) (qv 2) (qv 0) (fun _ _=>rfl)) (qv 1))))) (fun _ _ _ _=>(qv 0))) jah)) jah))))) (ja5 (jbe (i:=8) sc.nd rfl (Or.inl rfl) (jbg G_set_of_cut (hr.mono (by decide)) rfl D_set_of_cut.m D_set_of_cut.F.kp D_set_of_cut.b .nil jbt (ja0 (qv 0) (ja0 (qv 2) (ja0 (jbg G_marked (hr.mono (by decide)) rfl D_marked.m D_marked.F.kp D_marked.b .nil jbt (ja0 (jcg (CpScope.of (N:=["place","reaching","spots"]) (src:=[none,some 6,some 3]) (by rfl)) rfl (jfb (qv 3)) (fun _ _ _ _=>(jbb (i:=0) (jbj (l:=["place","reaching","spots"]) (by rfl)) rfl (Or.inl rfl))) (fun _ _ _ _=>(jd5 (jfo (jde hu (jen (by exact hu) (qv 2) (qv 0) (fun _ _=>rfl)) (qv 1))))) (fun _ _ _ _=>(qv 0))) jah)) jah))))) (jan (jbq (jd6 (ja0 (qv 7) (ja0 (qv 8) (ja0 (jbg G_even_dues (hr.mono (by decide)) rfl D_even_dues.m D_even_dues.F.kp D_even_dues.b .nil jbt (ja0 (qv 0) (ja0 (jnw (qv 4) T.cl D_flows.m G_flows (hr.mono (by decide)) D_flows.b .nil jbt) jah))) jah)))))))))))))))),?_⟩
 refine jbd fun R' hR=>?_
 walk_at "ND"
 refine ⟨v,ps,ts,fl,col,rfl,hw,wk,lab,hcol,fun t0 a1 a2 H1 n1 n2 n12 s1 et ea1 ea2=>?_⟩
 obtain ⟨fs,hfs⟩:∃ fs,fs = sdL fl col (ps.map (·.1)) 0:=⟨_,rfl⟩
 have fnd:fs.Nodup:=by rw [hfs]; exact hnd.filter _
 have fl40:fs.length ≤ 40:=by
  rw [hfs]
  refine Nat.le_trans (List.length_filter_le _ _) ?_
  rw [List.length_map]; exact hpl
 rw [← hfs] at ea1 h
 subst hR
 refine jbd fun R' hR=>?_
 simp_all_arith [jbl,et,at0]
 rw [show decide (("sides":Str) = "ring") = false from by decide]
 walk_at "ND"
 subst hR
 refine jbd fun R' hR=>?_
 simp_all_arith [jbl,et,at1]
 refine ⟨a1,fs,rfl,ea1,fnd,by omega,fun fd H2 hfd s2' efd=>?_⟩
 have s2:=s1.trans s2'
 clear ea1 ea2 et s2' s1
 subst hR
 refine jbd fun R' hR=>?_
 walk_at "ND"
 refine ⟨v,ps,ts,rfl,hw.same s2,wk,fun d H3 hd s3' ed=>?_⟩
 have s3:=s2.trans s3'
 have efd3:=s3' _ _ efd
 have hd0:=s2.free hd
 have nfd:fd ≠ d:=ja6 efd hd
 clear efd s3' hd s2
 subst hR
 refine jbd fun R' hR=>?_
 walk_at "ND"
 refine ⟨v,ps,ts,fd,fs,rfl,hw.same s3,wk,efd3,fun p R H4 fR s4' N=>?_⟩
 have s4:=s3.trans s4'
 have ed4:=s4' _ _ ed
 have efd4:=s4' _ _ efd3
 have fR0:=s3.free fR
 have fdR:fd ≠ R:=ja6 efd3 fR
 have dR:d ≠ R:=ja6 ed fR
 clear ed efd3 s4' s3 fR
 subst hR
 refine jbd fun R' hR=>?_
 obtain ⟨dx,W,Hd,ls,o1,_,_,_,_,_,_,pR⟩:=N.st
 simp_all_arith [o1,jpq]
 refine ⟨p,0,1,R,_,_,_,_,_,Fl.capA (jbs ps ts fs),rfl,N,by decide,Int.le_refl _,by omega,jqk wk fs,fun x r H5 run fin b5 eR5=>?_⟩
 have rm:=(jgt wk run).1
 have N5:=N.but b5 eR5 rm.len
 have s5:Same H H5:=fun b o q=>b5 b o (ja6 q fR0) (s4 _ _ q)
 have o5:=b5 _ _ pR o1
 have ed5:=b5 _ _ dR ed4
 have efd5:=b5 _ _ fdR efd4
 clear ed4 efd4 o1 s4 eR5 b5 N
 subst hR
 refine jbd fun R' hR=>?_
 simp_all_arith [o5,jkr]
 refine ⟨p,0,R,_,_,_,_,r,rfl,N5,Int.le_refl _,by omega,by omega,fun l ms H6 hl s6 el pm=>?_⟩
 have hmn:ms.Nodup:=pm.nodup_iff.mpr (Fl.spr_cam (r:=r) (s:=0) N5.net.from' _).nd
 have hml:ms.length ≤ 120:=by
  rw [pm.length_eq,List.length_map]
  have:=Fl.cb_len (r:=r) N5.net ⟨Int.le_refl 0,by omega⟩ (2 + ps.length)
  show (Fl.sprN _ _ _ _ _).length ≤ 120
  omega
 refine ⟨l,ms,rfl,el,hmn,hml,fun rd H7 hrd s7 erd=>?_⟩
 have nrd:rd ≠ d:=(ja6 (s6 _ _ ed5) hrd).symm
 have s67:=s6.trans s7
 have N7:=N5.same s67
 have s07:=s5.trans s67
 have ed7:=s67 _ _ ed5
 have efd7:=s67 _ _ efd5
 have o7:=s67 _ _ o5
 clear el s6 s7 N5 s5 ed5 efd5 o5 hrd s67
 subst hR
 refine jbd fun R' hR=>?_
 simp_all_arith [o7,jjg]
 refine ⟨p,1,R,_,_,_,_,r,rfl,N7,by omega,by omega,by omega,fun l2 ms2 H8 hl2 s8 el2 cor=>?_⟩
 have h2l:ms2.length ≤ 120:=by
  have:=Fl.len_le cor.nd cor.bd
  omega
 refine ⟨l2,ms2,rfl,el2,cor.nd,h2l,fun gd H9 hgd s9 egd=>?_⟩
 have ngd:gd ≠ d:=(ja6 (s8 _ _ ed7) hgd).symm
 have s89:=s8.trans s9
 have NA:=N7.same s89
 have s0A:=s07.trans s89
 have edA:=s89 _ _ ed7
 have efdA:=s89 _ _ efd7
 have oA:=s89 _ _ o7
 have erdA:=s89 _ _ erd
 clear el2 s8 s9 N7 s07 ed7 efd7 o7 erd hgd s89
 subst hR
 refine jbd fun R' hR=>?_
 walk_at "ND"
 refine jk5 (ι:=Obj) (fun o=>Itd d o (jc8 (spL ps ps.length))) (fun o=>upd H9 d (.frz o (.dK (jc8 (spL ps ps.length))))) (fun _=>True) (fun R2 hR2=>?_) (fun o _=>?_)
 ·unfold iDct
  walk_at "ND"
  exact ⟨d,_,rfl,edA,fun o=>hR2 o trivial⟩
 have k9:∀ a q,H9 a = some q→a ≠ d→upd H9 d (.frz o (.dK (jc8 (spL ps ps.length)))) a = some q:=fun a q ha hq=>by rw [jaj hq]; exact ha
 have NB:=NA.frz edA (.frz o (.dK (jc8 (spL ps ps.length))))
 have s0B:Same H (upd H9 d (.frz o (.dK (jc8 (spL ps ps.length))))):=jbh s0A hd0
 have eB:upd H9 d (.frz o (.dK (jc8 (spL ps ps.length)))) d = some (.frz o (.dK (jc8 (spL ps ps.length)))):=ja1
 have erdB:=k9 _ _ erdA nrd
 have egdB:=k9 _ _ egd ngd
 have efdB:=k9 _ _ efdA nfd
 have oB:=k9 _ _ oA (jgk oA edA (fun z=>nomatch z))
 generalize upd H9 d (.frz o (.dK (jc8 (spL ps ps.length)))) = HB at NB s0B eB erdB egdB efdB oB
 clear k9 NA s0A edA efdA oA erdA egd
 intro z1 hz1
 refine jc3 ps.length (fun i σ' Hc=>∃ w1,σ' = [w1,some (.ref rd),some (.ref d)]∧Same HB Hc∧Hc z1 = some (.lst ((((ps.map (·.1)).take i).filter fun n=>decide (spF ps n ∈ ms)).map V.int))) ⟨none,rfl,jai hz1 _,ja1⟩ ?_ ?_
 ·rintro i σ' Hc hi ⟨w1,rfl,sQ,ez⟩
  refine ⟨⟨sQ _ _ eB,by rw [jhm]; exact hi⟩,?_⟩
  rintro y H' ⟨rfl,kv,hkv,rfl⟩
  have hp:ps[i]? = some ps[i]:=List.getElem?_eq_getElem hi
  rw [jqe hp] at hkv
  cases hkv
  generalize ps[i] = pp at hp
  have hv:=jel wk (List.mem_map.mpr ⟨pp,List.mem_of_getElem? hp,rfl⟩)
  have hpn:(ps.map (·.1))[i]? = some pp.1:=by rw [List.getElem?_map,hp]; rfl
  have ft:=jdg (f:=fun n=>decide (spF ps n ∈ ms)) hpn
  have hfl:((((ps.map (·.1)).take i).filter fun n=>decide (spF ps n ∈ ms))).length ≤ 200:=Nat.le_trans (List.length_filter_le _ _) (by rw [List.length_take]; omega)
  show jal 0 (.int pp.1) _ _ _
  simp_all_arith [sQ _ _ erdB,sQ _ _ eB,jr3]
  refine ⟨d,.int (spF ps pp.1),rfl,.inl ⟨_,Sum.inl pp.1,.inr ⟨o,sQ _ _ eB⟩,rfl,hv.symm⟩,?_⟩
  simp_all_arith [sQ _ _ erdB,jg8]
  by_cases c:spF ps pp.1 ∈ ms
  ·simp only [c,decide_true,Bool.not_true,Bool.false_eq_true,if_false,if_true,List.append_nil] at ft ⊢
   refine ⟨_,ez,?_,_,rfl,jbh sQ hz1,?_⟩
   ·rw [List.length_map]
    exact szl' (by omega)
   ·rw [ja1,ft,List.map_append]
    rfl
  ·simp only [c,decide_false,Bool.not_false,Bool.false_eq_true,if_false,if_true,List.append_nil] at ft ⊢
   exact ⟨_,rfl,sQ,by rw [ft]; exact ez⟩
 rintro σ' HC ⟨w1,rfl,sC,ez1⟩
 refine ⟨⟨sC _ _ eB,by rw [jhm]; exact Nat.le_refl _⟩,?_⟩
 rw [show ps.length = (ps.map (·.1)).length by rw [List.length_map],List.take_length] at ez1
 have f40:∀ (f:Int→Bool),((ps.map (·.1)).filter f).length ≤ 40:=fun f=>Nat.le_trans (List.length_filter_le _ _) (by rw [List.length_map]; exact hpl)
 obtain ⟨nr,hnr⟩:∃ nr,nr = (ps.map (·.1)).filter fun n=>decide (spF ps n ∈ ms):=⟨_,rfl⟩
 rw [← hnr] at ez1
 refine ⟨z1,nr,rfl,ez1,by rw [hnr]; exact hnd.filter _,by rw [hnr]; have:=f40 (fun n=>decide (spF ps n ∈ ms)); omega,fun md HD hmd sD emd=>?_⟩
 have sBD:=sC.trans sD
 refine ⟨v,ps,ts,fd,fs,md,nr,rfl,hw.same (s0B.trans sBD),by omega,sBD _ _ efdB,emd,fun m1 HE hm1 sE em1=>?_⟩
 have sBE:=sBD.trans sE
 have s0E:=s0B.trans sBE
 have fm1:=(s0B.trans sBD).free hm1
 have NE:=NB.same sBE
 have eE:=sBE _ _ eB
 have efdE:=sBE _ _ efdB
 have egdE:=sBE _ _ egdB
 have oE:=sBE _ _ oB
 clear ez1 emd sC sD sE sBD sBE NB s0B eB efdB egdB oB hz1 hmd hm1
 subst hR
 refine jbd fun R' hR=>?_
 walk_at "ND"
 refine jbr (Itd d o (jc8 (spL ps ps.length))) HE (fun R2 hR2=>?_) (fun z2 hz2=>jc3 ps.length (fun i σ' Hc=>∃ w1,σ' = [w1,some (.ref gd),some (.ref d)]∧Same HE Hc∧Hc z2 = some (.lst ((((ps.map (·.1)).take i).filter fun n=>!decide (spF ps n ∈ ms2)).map V.int))) ⟨none,rfl,jai hz2 _,ja1⟩ ?_ ?_)
 ·unfold joh
  walk_at "ND"
  exact ⟨d,_,o,rfl,eE,hR2⟩
 ·rintro i σ' Hc hi ⟨w1,rfl,sQ,ez⟩
  refine ⟨⟨sQ _ _ eE,by rw [jhm]; exact hi⟩,?_⟩
  rintro y H' ⟨rfl,kv,hkv,rfl⟩
  have hp:ps[i]? = some ps[i]:=List.getElem?_eq_getElem hi
  rw [jqe hp] at hkv
  cases hkv
  generalize ps[i] = pp at hp
  have hv:=jel wk (List.mem_map.mpr ⟨pp,List.mem_of_getElem? hp,rfl⟩)
  have hpn:(ps.map (·.1))[i]? = some pp.1:=by rw [List.getElem?_map,hp]; rfl
  have ft:=jdg (f:=fun n=>!decide (spF ps n ∈ ms2)) hpn
  have hfl:((((ps.map (·.1)).take i).filter fun n=>!decide (spF ps n ∈ ms2))).length ≤ 200:=Nat.le_trans (List.length_filter_le _ _) (by rw [List.length_take]; omega)
  show jal 0 (.int pp.1) _ _ _
  simp_all_arith [sQ _ _ egdE,sQ _ _ eE,jr3]
  refine ⟨d,.int (spF ps pp.1),rfl,.inl ⟨_,Sum.inl pp.1,.inr ⟨o,sQ _ _ eE⟩,rfl,hv.symm⟩,?_⟩
  simp_all_arith [sQ _ _ egdE,jg8]
  by_cases c:spF ps pp.1 ∈ ms2
  ·simp only [c,decide_true,Bool.not_true,Bool.false_eq_true,if_false,if_true,List.append_nil] at ft ⊢
   exact ⟨_,rfl,sQ,by rw [ft]; exact ez⟩
  ·simp only [c,decide_false,Bool.not_false,Bool.false_eq_true,if_false,if_true,List.append_nil] at ft ⊢
   refine ⟨_,ez,?_,_,rfl,jbh sQ hz2,?_⟩
   ·rw [List.length_map]
    exact szl' (by omega)
   ·rw [ja1,ft,List.map_append]
    rfl
 rintro σ' HF ⟨w1,rfl,sF,ez2⟩
 refine ⟨⟨sF _ _ eE,by rw [jhm]; exact Nat.le_refl _⟩,?_⟩
 rw [show ps.length = (ps.map (·.1)).length by rw [List.length_map],List.take_length] at ez2
 obtain ⟨nt,hnt⟩:∃ nt,nt = (ps.map (·.1)).filter fun n=>!decide (spF ps n ∈ ms2):=⟨_,rfl⟩
 rw [← hnt] at ez2
 refine ⟨z2,nt,rfl,ez2,by rw [hnt]; exact hnd.filter _,by rw [hnt]; have:=f40 (fun n=>!decide (spF ps n ∈ ms2)); omega,fun md2 HG hmd2 sG emd2=>?_⟩
 have sEG:=sF.trans sG
 refine ⟨v,ps,ts,fd,fs,md2,nt,rfl,hw.same (s0E.trans sEG),by omega,sEG _ _ efdE,emd2,fun m2 HI hm2 sI em2=>?_⟩
 have sEI:=sEG.trans sI
 have s0I:=s0E.trans sEI
 have fm2:=(s0E.trans sEG).free hm2
 have n12':m1 ≠ m2:=ja6 (sEG _ _ em1) hm2
 have NI:=NE.same sEI
 have em1I:=sEI _ _ em1
 have oI:=sEI _ _ oE
 subst hR
 simp_all_arith [oI,jo4]
 refine ⟨p,R,_,_,_,_,r,rfl,NI,fun fl2 HJ hfl sJ ef=>?_⟩
 refine ⟨v,ps,ts,fl2,alt false r,rfl,hw.same (s0I.trans sJ),wk,ef,?_,fun l3 us HK hl3 sK el3 pu=>?_⟩
 ·rw [jq6 rm.len,jef]
 intro t9 ht9
 have q9:=jai ht9 (.tup [.ref m1,.ref m2,.ref l3])
 have sJK:=sJ.trans sK
 refine h t9 m1 m2 l3 us r nr nt _ ((s0I.trans sJK).trans q9) ((s0I.trans sJK).free ht9) fm1 fm2 ((s0I.trans sJ).free hl3) n12' (ja6 (sJ _ _ em1I) hl3) (ja6 (sJ _ _ em2) hl3) ja1 (q9 _ _ (sJK _ _ em1I)) (q9 _ _ (sJK _ _ em2)) (q9 _ _ el3) (jcv q9.tups pu) ⟨run,fin,fun n=>?_,ms2,cor,fun n=>?_⟩
 ·rw [hnr,List.mem_filter,decide_eq_true_eq,pm.mem_iff]
 ·rw [hnt,List.mem_filter]
  simp
end
end My
namespace My
open PySem L2
section
variable {P:Program} {w:World} {K:PySem.W.Frag} {mg:Str→Option Value} {base:Heap} {c1 c2 c3 c4:Tok} {C_NoWeb f_NoWeb:Addr} {dI:FuncData}
def jcl (ds:List (Int × Int × Int)) (n:Int):Int:=(ds.map fun d=>(if d.1 = n then d.2.2 else 0) + (if d.2.1 = n then d.2.2 else 0)).sum
theorem jnx {ns:List Int} (nd:ns.Nodup) (y:Int→Int):∀ {ds:List (Int × Int × Int)},(∀ d ∈ ds,d.1 ∈ ns∧d.2.1 ∈ ns)→(ns.map fun n=>y n * jcl ds n).sum = (ds.map fun d=>d.2.2 * (y d.1 + y d.2.1)).sum
 | [],_=>by
  show (ns.map fun p=>y p * 0).sum = 0
  rw [Fl.sum_congr (g:=fun _=>0) fun p _=>Int.mul_zero _,Fl.sum_zero]
 | d :: ds,h=>by
  have hd:=h d (List.mem_cons_self ..)
  have e:∀ n ∈ ns,y n * jcl (d :: ds) n = (y n * Fl.pick d.1 n d.2.2 + y n * Fl.pick d.2.1 n d.2.2) + y n * jcl ds n:=fun n _=>by
   unfold jcl Fl.pick
   rw [List.map_cons,List.sum_cons,Int.mul_add,Int.mul_add]
  rw [Fl.sum_congr e,Fl.sum_add,Fl.sum_add,Fl.sum_one y _ _ nd hd.1,Fl.sum_one y _ _ nd hd.2,jnx nd y fun z hz=>h z (List.mem_cons_of_mem _ hz),List.map_cons,List.sum_cons,Int.mul_add,Int.mul_comm (y d.1),Int.mul_comm (y d.2.1)]
theorem jej {α:Type} {f g:α→Int}:∀ {l:List α},(∀ p ∈ l,f p ≤ g p)→(l.map f).sum ≤ (l.map g).sum
 | [],_=>Int.le_refl _
 | a :: l,h=>by
  have:=jej (l:=l) fun p hp=>h p (List.mem_cons_of_mem _ hp)
  have:=h a (List.mem_cons_self ..)
  rw [List.map_cons,List.map_cons,List.sum_cons,List.sum_cons]
  omega
theorem cb_ind {wf:Int→List Nat} {hs r:List Int} {m n:Nat} {s:Int} (N:Fl.Net wf hs m n) (hs0:0 ≤ s∧s < (n:Int)) (B:Int→Prop) (b0:B s) (b1:∀ w,w < 2 * m→0 < Fl.at' r w→Fl.at' hs (Fl.mate w) ∈ (Fl.cbOf wf hs n s r).map (·.1)→B (Fl.at' hs (Fl.mate w))→B (Fl.at' hs w)):∀ v ∈ (Fl.cbOf wf hs n s r).map (·.1),B v:=by
 have cam:Fl.Cam hs r m s (Fl.cbOf wf hs n s r):=Fl.spr_cam N.from' n
 have key:∀ (i:Nat) (v:Int) (o:Option Nat),(Fl.cbOf wf hs n s r)[i]? = some (v,o)→B v:=by
  intro i
  induction i using Nat.strongRecOn with
  | ind i ih =>
   intro v o hi
   by_cases i0:i = 0
   ·subst i0
    rw [cam.first] at hi
    cases hi
    exact b0
   ·obtain ⟨w,_,hw,hr,hv,j,u,hj,hu,hm⟩:=cam.came i v o hi (by omega)
    obtain ⟨⟨u',o'⟩,hu2,hu3⟩:=Option.map_eq_some_iff.mp hu
    dsimp only at hu3
    subst hu3
    have:=b1 w hw hr (by rw [show Fl.at' hs (Fl.mate w) = u' from hm]; exact List.mem_map.mpr ⟨_,List.mem_of_getElem? hu2,rfl⟩) (by rw [show Fl.at' hs (Fl.mate w) = u' from hm]; exact ih j hj u' o' hu2)
    rw [← hv]
    exact this
 intro v hv
 obtain ⟨⟨v',o⟩,hm,e⟩:=List.mem_map.mp hv
 obtain ⟨i,hi⟩:=List.mem_iff_getElem?.mp hm
 rw [← e]
 exact key i v' o hi
section
variable {ps ts:List (Int × Int)} {fs r nr nt:List Int}
def zsB (ps ts:List (Int × Int)) (r:List Int):List (Int × Int × Int):=(List.range ts.length).map fun j=>((ts.getD j (0,0)).1,(ts.getD j (0,0)).2,Fl.at' r (2 * (ps.length + j) + 1))
theorem jp1 (ps ts:List (Int × Int)) (r:List Int):(zsB ps ts r).map (fun d=>(d.1,d.2.1)) = ts:=by
 unfold zsB
 rw [List.map_map]
 apply List.ext_getElem?
 intro i
 rw [List.getElem?_map]
 by_cases c:i < ts.length
 ·rw [List.getElem?_range c,List.getElem?_eq_getElem c]
  show some ((ts.getD i (0,0)).1,(ts.getD i (0,0)).2) = _
  rw [jd1 (List.getElem?_eq_getElem c)]
 ·rw [List.getElem?_eq_none (by rw [List.length_range]; omega),List.getElem?_eq_none (by omega)]
  rfl
theorem jig {k:Nat} {p:Int × Int} (h:ps[k]? = some p):(jbs ps ts fs).getD k (0,0,0) = arcP ps fs p:=by
 have hk:=(List.getElem?_eq_some_iff.mp h).1
 refine jd1 ?_
 unfold jbs
 rw [List.getElem?_append_left (by rw [List.length_map]; exact hk),List.getElem?_map,h]
 rfl
theorem jif {j:Nat} {t:Int × Int} (h:ts[j]? = some t):(jbs ps ts fs).getD (ps.length + j) (0,0,0) = arcT ps fs t:=by
 refine jd1 ?_
 unfold jbs
 rw [List.getElem?_append_right (by rw [List.length_map]; omega),List.length_map,Nat.add_sub_cancel_left,List.getElem?_map,h]
 rfl
theorem jdx (wk:WebOk ps ts) {a b:Int} (ha:a ∈ ps.map (·.1)) (hb:b ∈ ps.map (·.1)) (e:spF ps a = spF ps b):a = b:=by
 obtain ⟨i,hi,ea⟩:=List.mem_iff_getElem.mp ha
 obtain ⟨j,hj,eb⟩:=List.mem_iff_getElem.mp hb
 have h1:(ps.map (·.1))[i]? = some a:=by rw [List.getElem?_eq_getElem hi,ea]
 have h2:(ps.map (·.1))[j]? = some b:=by rw [List.getElem?_eq_getElem hj,eb]
 rw [jiz wk h1,jiz wk h2] at e
 have:i = j:=by omega
 subst this
 rw [h1] at h2
 exact Option.some.inj h2
def Two (ts:List (Int × Int)) (fs:List Int):Prop:=∀ t ∈ ts,(t.1 ∈ fs ↔ t.2 ∉ fs)
theorem jgo (h:Two ts fs) {t:Int × Int} (ht:t ∈ ts):tlT fs t ∈ fs∧hdT fs t ∉ fs:=by
 have:=h t ht
 unfold tlT hdT
 by_cases c:t.1 ∈ fs
 ·rw [if_pos c,if_pos c]; exact ⟨c,this.mp c⟩
 ·rw [if_neg c,if_neg c]; exact ⟨Classical.byContradiction fun z=>c (this.mpr z),c⟩
theorem jnt (t:Int × Int) (p v:Int):(if t.1 = p then v else 0) + (if t.2 = p then v else 0) = Fl.pick (tlT fs t) p v + Fl.pick (hdT fs t) p v:=by
 unfold tlT hdT Fl.pick
 by_cases c:t.1 ∈ fs
 ·rw [if_pos c,if_pos c]
 ·rw [if_neg c,if_neg c,Int.add_comm]
theorem bal_at (wk:WebOk ps ts) (two:Two ts fs) (B:∀ v,v ≠ 0→v ≠ 1→Fl.ex (Fl.hsA (jbs ps ts fs)) (jbs ps ts fs).length r v = 0) {i:Nat} {p:Int × Int} (hp:ps[i]? = some p):jcl (zsB ps ts r) p.1 = Fl.at' r (2 * i + 1):=by
 have hi:=(List.getElem?_eq_some_iff.mp hp).1
 have hn:(ps.map (·.1))[i]? = some p.1:=by rw [List.getElem?_map,hp]; rfl
 have sp:=jiz wk hn
 have pin:p.1 ∈ ps.map (·.1):=List.mem_map.mpr ⟨p,List.mem_of_getElem? hp,rfl⟩
 have b:=B (2 + (i:Int)) (by omega) (by omega)
 unfold Fl.ex at b
 rw [jef,Fl.sum_range_add] at b
 have e1:((List.range ps.length).map fun k=>Fl.pick (Fl.at' (Fl.hsA (jbs ps ts fs)) (2 * k)) (2 + (i:Int)) (Fl.at' r (2 * k + 1)) - Fl.pick (Fl.at' (Fl.hsA (jbs ps ts fs)) (2 * k + 1)) (2 + (i:Int)) (Fl.at' r (2 * k + 1))).sum = if p.1 ∈ fs then Fl.at' r (2 * i + 1) else - Fl.at' r (2 * i + 1):=by
  rw [Fl.sum_range_one _ hi fun k hk hne=>?_]
  ·rw [Fl.hsA_even,Fl.hsA_odd,jig hp]
   unfold arcP
   by_cases c:p.1 ∈ fs
   ·rw [if_pos c,if_pos c]; dsimp only; rw [sp,Fl.pick_same,Fl.pick_ne (by omega)]; omega
   ·rw [if_neg c,if_neg c]; dsimp only; rw [sp,Fl.pick_same,Fl.pick_ne (by omega)]; omega
  ·have hk':=List.getElem?_eq_getElem hk
   have hkn:(ps.map (·.1))[k]? = some ps[k].1:=by rw [List.getElem?_map,hk']; rfl
   have spk:=jiz wk hkn
   rw [Fl.hsA_even,Fl.hsA_odd,jig hk']
   unfold arcP
   split <;> dsimp only <;> rw [spk,Fl.pick_ne (by omega),Fl.pick_ne (by omega)] <;> rfl
 have e2:((List.range ts.length).map fun j=>Fl.pick (Fl.at' (Fl.hsA (jbs ps ts fs)) (2 * (ps.length + j))) (2 + (i:Int)) (Fl.at' r (2 * (ps.length + j) + 1)) - Fl.pick (Fl.at' (Fl.hsA (jbs ps ts fs)) (2 * (ps.length + j) + 1)) (2 + (i:Int)) (Fl.at' r (2 * (ps.length + j) + 1))).sum = if p.1 ∈ fs then - jcl (zsB ps ts r) p.1 else jcl (zsB ps ts r) p.1:=by
  have e3:jcl (zsB ps ts r) p.1 = ((List.range ts.length).map fun j=>Fl.pick (tlT fs (ts.getD j (0,0))) p.1 (Fl.at' r (2 * (ps.length + j) + 1)) + Fl.pick (hdT fs (ts.getD j (0,0))) p.1 (Fl.at' r (2 * (ps.length + j) + 1))).sum:=by
   unfold jcl zsB
   rw [List.map_map]
   exact Fl.sum_congr fun j _=>jnt (ts.getD j (0,0)) p.1 _
  have e4:∀ (f g:Nat→Int),(∀ j ∈ List.range ts.length,f j = - g j)→((List.range ts.length).map f).sum = - ((List.range ts.length).map g).sum:=by
   intro f g h
   have:((List.range ts.length).map f).sum + ((List.range ts.length).map g).sum = 0:=by
    rw [← Fl.sum_add,Fl.sum_congr (g:=fun _=>0) (fun j hj=>by rw [h j hj]; omega),Fl.sum_zero]
   omega
  have aux:∀ j ∈ List.range ts.length,(Fl.at' (Fl.hsA (jbs ps ts fs)) (2 * (ps.length + j)) = spF ps (hdT fs (ts.getD j (0,0))))∧(Fl.at' (Fl.hsA (jbs ps ts fs)) (2 * (ps.length + j) + 1) = spF ps (tlT fs (ts.getD j (0,0))))∧ts.getD j (0,0) ∈ ts:=fun j hj=>by
   have hg:=Fl.getD_at (List.mem_range.mp hj)
   rw [Fl.hsA_even,Fl.hsA_odd,jif hg]
   exact ⟨rfl,rfl,List.mem_of_getElem? hg⟩
  have pk:∀ (q:Int) (v:Int),q ∈ ps.map (·.1)→Fl.pick (spF ps q) (2 + (i:Int)) v = Fl.pick q p.1 v:=fun q v hq=>Fl.pick_iff ⟨fun z=>jdx wk hq pin (by rw [sp]; exact z),fun z=>by rw [z,sp]⟩
  rw [e3]
  by_cases c:p.1 ∈ fs
  ·rw [if_pos c]
   refine e4 _ _ fun j hj=>?_
   obtain ⟨a1,a2,a3⟩:=aux j hj
   obtain ⟨m1,m2⟩:=jmy wk fs _ a3
   have tw:=(jgo two a3).2
   rw [a1,a2,pk _ _ m1,pk _ _ m2,Fl.pick_ne (n:=hdT fs _) (fun z=>tw (by rw [z]; exact c))]
   omega
  ·rw [if_neg c]
   refine Fl.sum_congr fun j hj=>?_
   obtain ⟨a1,a2,a3⟩:=aux j hj
   obtain ⟨m1,m2⟩:=jmy wk fs _ a3
   have tw:=(jgo two a3).1
   rw [a1,a2,pk _ _ m1,pk _ _ m2,Fl.pick_ne (n:=tlT fs _) (fun z=>c (by rw [← z]; exact tw))]
   omega
 rw [e1,e2] at b
 by_cases c:p.1 ∈ fs
 ·rw [if_pos c,if_pos c] at b; omega
 ·rw [if_neg c,if_neg c] at b; omega
structure TCut (ps ts:List (Int × Int)) (fs:List Int) (zs:List (Int × Int × Int)) (X:Int→Prop):Prop where
 c1:∀ p ∈ ps,p.1 ∈ fs→¬ X p.1→jcl zs p.1 = p.2
 c2:∀ p ∈ ps,p.1 ∉ fs→X p.1→jcl zs p.1 = p.2
 c3:∀ t ∈ ts,X (tlT fs t)→X (hdT fs t)
 c4:∀ d ∈ zs,0 < d.2.2→X (hdT fs (d.1,d.2.1))→X (tlT fs (d.1,d.2.1))
structure Bip (ps ts:List (Int × Int)) (fs:List Int) (zs:List (Int × Int × Int)) (nr nt:List Int):Prop where
 zt:zs.map (fun d=>(d.1,d.2.1)) = ts
 pos:∀ d ∈ zs,0 ≤ d.2.2
 pay:∀ p ∈ ps,jcl zs p.1 ≤ p.2
 S:TCut ps ts fs zs (· ∈ nr)
 T:TCut ps ts fs zs (· ∈ nt)
 sR:∀ A:Int→Prop,(∀ p ∈ ps,p.1 ∈ fs→jcl zs p.1 < p.2→A p.1)→(∀ t ∈ ts,A (tlT fs t)→A (hdT fs t))→(∀ d ∈ zs,0 < d.2.2→A (hdT fs (d.1,d.2.1))→A (tlT fs (d.1,d.2.1)))→∀ n ∈ nr,A n
 tR:∀ B:Int→Prop,(∀ p ∈ ps,p.1 ∉ fs→jcl zs p.1 < p.2→B p.1)→(∀ t ∈ ts,B (hdT fs t)→B (tlT fs t))→(∀ d ∈ zs,0 < d.2.2→B (tlT fs (d.1,d.2.1))→B (hdT fs (d.1,d.2.1)))→∀ n ∈ ps.map (·.1),n ∉ nt→B n
theorem jpm {zs:List (Int × Int × Int)} (h:∀ d ∈ zs,0 ≤ d.2.2) {d:Int × Int × Int} (hd:d ∈ zs) {n:Int} (e:d.1 = n ∨ d.2.1 = n):d.2.2 ≤ jcl zs n:=by
 have:=Fl.le_sum (f:=fun d:Int × Int × Int=>(if d.1 = n then d.2.2 else 0) + (if d.2.1 = n then d.2.2 else 0)) (l:=zs) (fun x hx=>by have:=h x hx; split <;> split <;> omega) d hd
 have h0:=h d hd
 unfold jcl
 refine Int.le_trans ?_ this
 rcases e with e | e
 ·rw [if_pos e]; split <;> omega
 ·rw [if_pos e]; split <;> omega
theorem bip_of (wk:WebOk ps ts) (two:Two ts fs) (R:RstB ps ts fs r nr nt):Bip ps ts fs (zsB ps ts r) nr nt:=by
 obtain ⟨rm,bal⟩:=jgt wk R.run
 have N:=netB wk fs
 have h0:(0:Int) ≤ 0∧(0:Int) < ((2 + ps.length:Nat):Int):=⟨Int.le_refl _,by omega⟩
 have sin:=Fl.s_in (r:=r) (s:=0) N
 have tout:=Fl.t_out N (s:=0) (t:=1) (by decide) h0 R.end_
 have scl:=fun {w:Nat} (hw:w < 2 * (jbs ps ts fs).length) (h:0 < Fl.at' r w)=>Fl.cb_closed (r:=r) (s:=0) N h0 hw h
 obtain ⟨ms,cor,hnt⟩:=R.nt
 have hnr:=R.nr
 have ind:=cb_ind (r:=r) (s:=0) N h0
 generalize (Fl.cbOf (Fl.wfA (jbs ps ts fs)) (Fl.hsA (jbs ps ts fs)) (2 + ps.length) 0 r).map (·.1) = ks at sin tout scl hnr ind
 have tcl:∀ w,w < 2 * (jbs ps ts fs).length→0 < Fl.at' r w→Fl.at' (Fl.hsA (jbs ps ts fs)) w ∈ ms→Fl.at' (Fl.hsA (jbs ps ts fs)) (Fl.mate w) ∈ ms:=fun w hw h hm=>by
  have:=cor.cl _ hm (Fl.mate w) (by have:=N.all (Fl.mate w) (Fl.mate_lt hw); rwa [Fl.mate_mate] at this) (by rw [Fl.mate_mate]; exact h)
  exact this
 have zout:(0:Int) ∉ ms:=fun z=>by
  refine cor.ind (fun v=>v ∉ ks) tout (fun u w hu hw hr hk=>?_) 0 z sin
  have f:=N.from' u w hw
  have:=scl (Fl.mate_lt f.1) hr (by rw [Fl.mate_mate]; exact hk)
  rw [f.2] at this
  exact hu this
 have hal:=jef ps ts fs
  -- the ways of a place
 have wayP:∀ (k:Nat) (p:Int × Int),ps[k]? = some p→2 * k + 1 < 2 * (jbs ps ts fs).length∧Fl.at' r (2 * k) = p.2 - jcl (zsB ps ts r) p.1∧Fl.at' r (2 * k + 1) = jcl (zsB ps ts r) p.1∧Fl.at' (Fl.hsA (jbs ps ts fs)) (2 * k) = (if p.1 ∈ fs then spF ps p.1 else 1)∧Fl.at' (Fl.hsA (jbs ps ts fs)) (2 * k + 1) = (if p.1 ∈ fs then 0 else spF ps p.1):=fun k p hp=>by
  have hk:=(List.getElem?_eq_some_iff.mp hp).1
  have b:=bal_at wk two bal hp
  have t:=rm.two k (by omega)
  unfold Fl.capA at t
  rw [jig hp] at t
  rw [Fl.hsA_even,Fl.hsA_odd,jig hp]
  unfold arcP at t ⊢
  by_cases c:p.1 ∈ fs
  ·rw [if_pos c] at t ⊢; rw [if_pos c,if_pos c]; dsimp only at t ⊢; exact ⟨by omega,by omega,by omega,rfl,rfl⟩
  ·rw [if_neg c] at t ⊢; rw [if_neg c,if_neg c]; dsimp only at t ⊢; exact ⟨by omega,by omega,by omega,rfl,rfl⟩
 have pos:∀ d ∈ zsB ps ts r,0 ≤ d.2.2:=fun d hd=>by
  obtain ⟨j,_,rfl⟩:=List.mem_map.mp hd
  exact rm.pos _
 have pay:∀ p ∈ ps,jcl (zsB ps ts r) p.1 ≤ p.2:=fun p hp=>by
  obtain ⟨k,hk⟩:=List.mem_iff_getElem?.mp hp
  have:=wayP k p hk
  have:=rm.pos (2 * k)
  omega
 have zt:=jp1 ps ts r
 have dmem:∀ d ∈ zsB ps ts r,(d.1,d.2.1) ∈ ts:=fun d hd=>by
  have:=List.mem_map_of_mem (f:=fun d:Int × Int × Int=>(d.1,d.2.1)) hd
  rw [zt] at this
  exact this
  -- the ways of a tie
 have wayT:∀ (j:Nat),j < ts.length→∃ d ∈ zsB ps ts r,(d.1,d.2.1) = ts.getD j (0,0)∧2 * (ps.length + j) + 1 < 2 * (jbs ps ts fs).length∧0 < Fl.at' r (2 * (ps.length + j))∧Fl.at' r (2 * (ps.length + j) + 1) = d.2.2∧Fl.at' (Fl.hsA (jbs ps ts fs)) (2 * (ps.length + j)) = spF ps (hdT fs (d.1,d.2.1))∧Fl.at' (Fl.hsA (jbs ps ts fs)) (2 * (ps.length + j) + 1) = spF ps (tlT fs (d.1,d.2.1)):=fun j hj=>by
  have hg:=Fl.getD_at hj
  have hd:((ts.getD j (0,0)).1,(ts.getD j (0,0)).2,Fl.at' r (2 * (ps.length + j) + 1)) ∈ zsB ps ts r:=List.mem_map.mpr ⟨j,List.mem_range.mpr hj,rfl⟩
  have t:=rm.two (ps.length + j) (by omega)
  unfold Fl.capA at t
  rw [jif hg] at t
  have t2:Fl.at' r (2 * (ps.length + j)) + Fl.at' r (2 * (ps.length + j) + 1) = plW ps:=t
  refine ⟨_,hd,rfl,by omega,?_,rfl,?_,?_⟩
  ·obtain ⟨m1,_⟩:=jet wk _ (List.mem_of_getElem? hg)
   obtain ⟨p,hp,e⟩:=List.mem_map.mp m1
   have g:=jpm pos hd (n:=p.1) (.inl e.symm)
   have q:=pay p hp
   have s:=Fl.le_sum (f:=fun q:Int × Int=>q.2) (l:=ps) (fun q hq=>by have:=wk.p.pos q hq; omega) p hp
   have:(ps.map fun q:Int × Int=>q.2).sum < plW ps:=by unfold plW; omega
   dsimp only at g
   omega
  ·rw [Fl.hsA_even,jif hg]; rfl
  ·rw [Fl.hsA_odd,jif hg]; rfl
 have tieOf:∀ t ∈ ts,∃ j,j < ts.length∧ts.getD j (0,0) = t:=fun t ht=>by
  obtain ⟨j,hj,e⟩:=List.mem_iff_getElem.mp ht
  exact ⟨j,hj,by rw [jd1 (List.getElem?_eq_getElem hj),e]⟩
 have zOf:∀ d ∈ zsB ps ts r,∃ j,j < ts.length∧ts.getD j (0,0) = (d.1,d.2.1)∧Fl.at' r (2 * (ps.length + j) + 1) = d.2.2:=fun d hd=>by
  obtain ⟨j,hj,rfl⟩:=List.mem_map.mp hd
  exact ⟨j,List.mem_range.mp hj,rfl,rfl⟩
 have inN:∀ t ∈ ts,tlT fs t ∈ ps.map (·.1)∧hdT fs t ∈ ps.map (·.1):=jmy wk fs
 have mt:∀ k,Fl.mate (2 * k) = 2 * k + 1:=Fl.mate_two
 have mt1:∀ k,Fl.mate (2 * k + 1) = 2 * k:=Fl.mate_two1
  -- every way
 have every:∀ w,w < 2 * (jbs ps ts fs).length→(∃ k p,ps[k]? = some p∧(w = 2 * k ∨ w = 2 * k + 1)) ∨ ∃ j,j < ts.length∧(w = 2 * (ps.length + j) ∨ w = 2 * (ps.length + j) + 1):=fun w hw=>by
  by_cases c:w < 2 * ps.length
  ·have hk:w / 2 < ps.length:=by omega
   exact .inl ⟨w / 2,_,List.getElem?_eq_getElem hk,by omega⟩
  ·exact .inr ⟨w / 2 - ps.length,by omega,by omega⟩
 have spb:∀ {n},n ∈ ps.map (·.1)→2 ≤ spF ps n:=fun h=>(jlc wk h).1
 refine ⟨zt,pos,pay,⟨fun p hp hf hn=>?_,fun p hp hf hn=>?_,fun t ht h=>?_,fun d hd h0' h=>?_⟩,⟨fun p hp hf hn=>?_,fun p hp hf hn=>?_,fun t ht h=>?_,fun d hd h0' h=>?_⟩,fun A a1 a2 a3 n hn=>?_,fun B b1 b2 b3 n hn hnn=>?_⟩
 ·obtain ⟨k,hk⟩:=List.mem_iff_getElem?.mp hp
  obtain ⟨w0,w1,w2,w3,w4⟩:=wayP k p hk
  rw [if_pos hf] at w3 w4
  have:=pay p hp
  by_cases c:jcl (zsB ps ts r) p.1 = p.2
  ·exact c
  ·refine absurd ((hnr p.1).mpr ⟨List.mem_map.mpr ⟨p,hp,rfl⟩,?_⟩) hn
   have:=scl (w:=2 * k) (by omega) (by omega) (by rw [mt,w4]; exact sin)
   rwa [w3] at this
 ·obtain ⟨k,hk⟩:=List.mem_iff_getElem?.mp hp
  obtain ⟨w0,w1,w2,w3,w4⟩:=wayP k p hk
  rw [if_neg hf] at w3 w4
  have:=pay p hp
  by_cases c:jcl (zsB ps ts r) p.1 = p.2
  ·exact c
  ·have:=scl (w:=2 * k) (by omega) (by omega) (by rw [mt,w4]; exact ((hnr p.1).mp hn).2)
   rw [w3] at this
   exact absurd this tout
 ·obtain ⟨j,hj,e⟩:=tieOf t ht
  obtain ⟨d,hd,ed,w0,w1,w2,w3,w4⟩:=wayT j hj
  rw [ed,e] at w3 w4
  have:=scl (w:=2 * (ps.length + j)) (by omega) w1 (by rw [mt,w4]; exact ((hnr _).mp h).2)
  rw [w3] at this
  exact (hnr _).mpr ⟨(inN t ht).2,this⟩
 ·obtain ⟨j,hj,e,ef⟩:=zOf d hd
  obtain ⟨d',hd',ed,w0,w1,w2,w3,w4⟩:=wayT j hj
  rw [ed,e] at w3 w4
  have:=scl (w:=2 * (ps.length + j) + 1) (by omega) (by omega) (by rw [mt1,w3]; exact ((hnr _).mp h).2)
  rw [w4] at this
  exact (hnr _).mpr ⟨(inN _ (dmem d hd)).1,this⟩
 ·obtain ⟨k,hk⟩:=List.mem_iff_getElem?.mp hp
  obtain ⟨w0,w1,w2,w3,w4⟩:=wayP k p hk
  rw [if_pos hf] at w3 w4
  have pm:p.1 ∈ ps.map (·.1):=List.mem_map.mpr ⟨p,hp,rfl⟩
  have:=pay p hp
  by_cases c:jcl (zsB ps ts r) p.1 = p.2
  ·exact c
  ·have im:spF ps p.1 ∈ ms:=Classical.byContradiction fun z=>hn ((hnt p.1).mpr ⟨pm,z⟩)
   have:=tcl (2 * k) (by omega) (by omega) (by rw [w3]; exact im)
   rw [mt,w4] at this
   exact absurd this zout
 ·obtain ⟨k,hk⟩:=List.mem_iff_getElem?.mp hp
  obtain ⟨w0,w1,w2,w3,w4⟩:=wayP k p hk
  rw [if_neg hf] at w3 w4
  have:=pay p hp
  by_cases c:jcl (zsB ps ts r) p.1 = p.2
  ·exact c
  ·have:=tcl (2 * k) (by omega) (by omega) (by rw [w3]; exact cor.t_in)
   rw [mt,w4] at this
   exact absurd this ((hnt p.1).mp hn).2
 ·obtain ⟨j,hj,e⟩:=tieOf t ht
  obtain ⟨d,hd,ed,w0,w1,w2,w3,w4⟩:=wayT j hj
  rw [ed,e] at w3 w4
  refine (hnt _).mpr ⟨(inN t ht).2,fun z=>((hnt _).mp h).2 ?_⟩
  have:=tcl (2 * (ps.length + j)) (by omega) w1 (by rw [w3]; exact z)
  rwa [mt,w4] at this
 ·obtain ⟨j,hj,e,ef⟩:=zOf d hd
  obtain ⟨d',hd',ed,w0,w1,w2,w3,w4⟩:=wayT j hj
  rw [ed,e] at w3 w4
  refine (hnt _).mpr ⟨(inN _ (dmem d hd)).1,fun z=>((hnt _).mp h).2 ?_⟩
  have:=tcl (2 * (ps.length + j) + 1) (by omega) (by omega) (by rw [w4]; exact z)
  rwa [mt1,w3] at this
 ·obtain ⟨hn1,hn2⟩:=(hnr n).mp hn
  have key:=ind (fun v=>v = 0 ∨ ∃ n ∈ ps.map (·.1),spF ps n = v∧A n) (.inl rfl) (fun w hw hr hk hB=>?_) _ hn2
  ·rcases key with z | ⟨n',h1,h2,h3⟩
   ·have:=spb hn1; omega
   ·rw [← jdx wk h1 hn1 h2]; exact h3
  ·rcases every w hw with ⟨k,p,hp,e⟩ | ⟨j,hj,e⟩
   ·obtain ⟨w0,w1,w2,w3,w4⟩:=wayP k p hp
    have pm:=List.mem_of_getElem? hp
    have pn:p.1 ∈ ps.map (·.1):=List.mem_map.mpr ⟨p,pm,rfl⟩
    by_cases c:p.1 ∈ fs
    ·rw [if_pos c] at w3 w4
     rcases e with rfl | rfl
     ·exact .inr ⟨p.1,pn,w3.symm,a1 p pm c (by omega)⟩
     ·exact .inl w4
    ·rw [if_neg c] at w3 w4
     rcases e with rfl | rfl
     ·have:=scl hw hr hk
      rw [w3] at this
      exact absurd this tout
     ·rw [mt1,show Fl.at' (Fl.hsA (jbs ps ts fs)) (2 * k) = 1 from w3] at hk
      exact absurd hk tout
   ·obtain ⟨d,hd,ed,w0,w1,w2,w3,w4⟩:=wayT j hj
    have dm:=dmem d hd
    obtain ⟨m1,m2⟩:=inN _ dm
    rcases e with rfl | rfl
    ·rw [mt,show Fl.at' (Fl.hsA (jbs ps ts fs)) (2 * (ps.length + j) + 1) = _ from w4] at hB
     rcases hB with z | ⟨n',h1,h2,h3⟩
     ·have:=spb m1; omega
     ·exact .inr ⟨_,m2,w3.symm,a2 _ dm (by rw [← jdx wk h1 m1 h2]; exact h3)⟩
    ·rw [mt1,show Fl.at' (Fl.hsA (jbs ps ts fs)) (2 * (ps.length + j)) = _ from w3] at hB
     rcases hB with z | ⟨n',h1,h2,h3⟩
     ·have:=spb m2; omega
     ·exact .inr ⟨_,m1,w4.symm,a3 d hd (by omega) (by rw [← jdx wk h1 m2 h2]; exact h3)⟩
 ·have im:spF ps n ∈ ms:=Classical.byContradiction fun z=>hnn ((hnt n).mpr ⟨hn,z⟩)
  have key:=cor.ind (fun v=>v ∈ ms∧(v = 1 ∨ ∃ n ∈ ps.map (·.1),spF ps n = v∧B n)) ⟨cor.t_in,.inl rfl⟩ (fun u w hu hw hr=>?_) _ im
  ·rcases key.2 with z | ⟨n',h1,h2,h3⟩
   ·have:=spb hn; omega
   ·rw [← jdx wk h1 hn h2]; exact h3
  ·have f:=N.from' u w hw
   have hin:=cor.cl u hu.1 w hw hr
   refine ⟨hin,?_⟩
   rcases every w f.1 with ⟨k,p,hp,e⟩ | ⟨j,hj,e⟩
   ·obtain ⟨w0,w1,w2,w3,w4⟩:=wayP k p hp
    have pm:=List.mem_of_getElem? hp
    have pn:p.1 ∈ ps.map (·.1):=List.mem_map.mpr ⟨p,pm,rfl⟩
    by_cases c:p.1 ∈ fs
    ·rw [if_pos c] at w3 w4
     rcases e with rfl | rfl
     ·have q:=f.2
      rw [mt,w4] at q
      rw [← q] at hu
      exact absurd hu.1 zout
     ·rw [w4] at hin
      exact absurd hin zout
    ·rw [if_neg c] at w3 w4
     rcases e with rfl | rfl
     ·exact .inl w3
     ·rw [mt1] at hr
      exact .inr ⟨p.1,pn,w4.symm,b1 p pm c (by omega)⟩
   ·obtain ⟨d,hd,ed,w0,w1,w2,w3,w4⟩:=wayT j hj
    have dm:=dmem d hd
    obtain ⟨m1,m2⟩:=inN _ dm
    have q:=f.2
    rcases e with rfl | rfl
    ·rw [mt] at q hr
     rw [w4] at q
     rcases hu.2 with z | ⟨n',h1,h2,h3⟩
     ·have:=spb m1; omega
     ·exact .inr ⟨_,m2,w3.symm,b3 d hd (by omega) (by rw [← jdx wk h1 m1 (by rw [h2,← q])]; exact h3)⟩
    ·rw [mt1] at q hr
     rw [w3] at q
     rcases hu.2 with z | ⟨n',h1,h2,h3⟩
     ·have:=spb m2; omega
     ·exact .inr ⟨_,m1,w4.symm,b2 _ dm (by rw [← jdx wk h1 m2 (by rw [h2,← q])]; exact h3)⟩
end
end
end My
namespace My
open PySem L2
section
variable {P:Program} {w:World} {K:PySem.W.Frag} {mg:Str→Option Value} {base:Heap} {c1 c2 c3 c4:Tok} {C_NoWeb f_NoWeb:Addr} {dI:FuncData}
def Tch (ts:List (Int × Int)) (C:Int→Bool):Prop:=∀ t ∈ ts,C t.1 = true ∨ C t.2 = true
def wC (ps:List (Int × Int)) (C:Int→Bool):Int:=(ps.map fun p=>if C p.1 = true then p.2 else 0).sum
def jgg (ps:List (Int × Int)) (C:Int→Bool):List Int:=(ps.map (·.1)).filter C
theorem jgr (f:Int × Int→Int) (q:Int × Int→Bool):∀ l:List (Int × Int),((l.filter q).map f).sum = (l.map fun p=>if q p = true then f p else 0).sum
 | []=>rfl
 | a :: l=>by
  rw [List.filter_cons,List.map_cons,List.sum_cons,← jgr f q l]
  cases q a <;> simp
def jf3 (ts:List (Int × Int)) (n:Int):List Int:=(ts.filter fun t=>decide (t.2 = n)).map (·.1)
def lack (m s:List Int):List Int:=m.filter fun x=>!decide (x ∈ s)
def jg2 (ts:List (Int × Int)) (n:Int) (s:List Int):List (List Int):=if lack (jf3 ts n) s = [] then [s ++ [n],s] else [s ++ [n]]
def je1 (ts:List (Int × Int)) (n:Int) (rs:List (List Int)):List (List Int):=rs.flatMap (jg2 ts n)
def jda (ts:List (Int × Int)):List Int→List (List Int):=fun ns=>ns.foldl (fun rs n=>je1 ts n rs) [[]]
theorem jdo (ts:List (Int × Int)) (ns:List Int) (n:Int):jda ts (ns ++ [n]) = je1 ts n (jda ts ns):=by
 unfold jda
 rw [List.foldl_append]
 rfl
theorem jga (ts:List (Int × Int)) (n:Int):∀ rs:List (List Int),(je1 ts n rs).length ≤ 2 * rs.length∧rs.length ≤ (je1 ts n rs).length
 | []=>⟨Nat.le_refl _,Nat.le_refl _⟩
 | s :: rs=>by
  have:=jga ts n rs
  unfold je1 at this ⊢
  rw [List.flatMap_cons,List.length_append,List.length_cons]
  unfold jg2 at this ⊢
  split <;> simp only [List.length_cons,List.length_nil] <;> omega
theorem je5 (ts:List (Int × Int)) (ns:List Int):∀ k,(jda ts (ns.take k)).length ≤ 2 ^ k∧1 ≤ (jda ts (ns.take k)).length
 | 0=>by rw [List.take_zero]; exact ⟨Nat.le_refl _,Nat.le_refl _⟩
 | k + 1=>by
  have ih:=je5 ts ns k
  by_cases c:k < ns.length
  ·rw [List.take_succ_eq_append_getElem c,jdo]
   have:=jga ts ns[k] (jda ts (ns.take k))
   rw [Nat.pow_succ]
   omega
  ·rw [List.take_of_length_le (by omega)]
   rw [List.take_of_length_le (by omega)] at ih
   rw [Nat.pow_succ]
   omega
theorem jlw {m s:List Int}:lack m s = [] ↔ ∀ x ∈ m,x ∈ s:=by
 unfold lack
 rw [List.filter_eq_nil_iff]
 constructor
 ·intro h x hx
  have:=h x hx
  simpa using this
 ·intro h x hx
  simpa using h x hx
theorem jnj {α:Type} {P:List α→Prop} (h0:P []) (h1:∀ l a,P l→P (l ++ [a])) (l:List α):P l:=by
 have h:∀ l:List α,P l.reverse:=fun l=>by
  induction l with
  | nil=>exact h0
  | cons a l ih=>rw [List.reverse_cons]; exact h1 _ _ ih
 have:=h l.reverse
 rwa [List.reverse_reverse] at this
theorem jnd {ts:List (Int × Int)}:∀ {ns:List Int},ns.Pairwise (· < ·)→(∀ t ∈ ts,t.2 ∈ ns→t.1 ∈ ns∧t.1 < t.2)→∀ s:List Int,s ∈ jda ts ns ↔ ∃ C:Int→Bool,s = ns.filter C∧∀ t ∈ ts,t.2 ∈ ns→C t.1 = true ∨ C t.2 = true:=by
 intro ns
 refine jnj (P:=fun ns=>ns.Pairwise (· < ·)→(∀ t ∈ ts,t.2 ∈ ns→t.1 ∈ ns∧t.1 < t.2)→∀ s:List Int,s ∈ jda ts ns ↔ ∃ C:Int→Bool,s = ns.filter C∧∀ t ∈ ts,t.2 ∈ ns→C t.1 = true ∨ C t.2 = true) ?_ (fun ns n ih=>?_) ns
 ·intro _ _ s
  constructor
  ·intro h
   exact ⟨fun _=>true,by simpa [jda] using h,fun t _ z=>by cases z⟩
  ·rintro ⟨C,rfl,_⟩
   simp [jda]
 ·intro hp ht s
  obtain ⟨hp1,_,hp2⟩:=List.pairwise_append.mp hp
  have lt:∀ x ∈ ns,x < n:=fun x hx=>hp2 x hx n (List.mem_singleton.mpr rfl)
  have nn:n ∉ ns:=fun z=>by have:=lt n z; omega
  have ht1:∀ t ∈ ts,t.2 ∈ ns→t.1 ∈ ns∧t.1 < t.2:=fun t h z=>by
   have:=ht t h (List.mem_append_left _ z)
   refine ⟨?_,this.2⟩
   rcases List.mem_append.mp this.1 with q | q
   ·exact q
   ·have:=lt _ z
    have e:=List.mem_singleton.mp q
    omega
  have htn:∀ t ∈ ts,t.2 = n→t.1 ∈ ns:=fun t h z=>by
   have:=ht t h (List.mem_append_right _ (by rw [z]; exact List.mem_singleton.mpr rfl))
   rcases List.mem_append.mp this.1 with q | q
   ·exact q
   ·have e:=List.mem_singleton.mp q
    omega
  have ih:=ih hp1 ht1
  rw [jdo]
  unfold je1
  rw [List.mem_flatMap]
  constructor
  ·rintro ⟨s0,hs0,hm⟩
   obtain ⟨C,rfl,hC⟩:=(ih s0).mp hs0
   have key:s = ns.filter C ++ [n] ∨ (s = ns.filter C∧∀ x ∈ jf3 ts n,x ∈ ns.filter C):=by
    unfold jg2 at hm
    split at hm
    ·rename_i hl
     simp only [List.mem_cons,List.not_mem_nil,or_false] at hm
     exact hm.imp id fun q=>⟨q,jlw.mp hl⟩
    ·simp only [List.mem_cons,List.not_mem_nil,or_false] at hm
     exact .inl hm
   rcases key with rfl | ⟨rfl,hx⟩
   ·refine ⟨fun x=>decide (x = n) || C x,?_,fun t h z=>?_⟩
    ·rw [List.filter_append]
     congr 1
     ·refine List.filter_congr fun x hx=>?_
      have:=lt x hx
      rw [decide_eq_false (show ¬ x = n by omega),Bool.false_or]
     ·simp
    ·rcases List.mem_append.mp z with z | z
     ·rcases hC t h z with q | q
      ·left; simp [q]
      ·right; simp [q]
     ·right
      simp [List.mem_singleton.mp z]
   ·refine ⟨fun x=>!decide (x = n) && C x,?_,fun t h z=>?_⟩
    ·rw [List.filter_append]
     have:[n].filter (fun x=>!decide (x = n) && C x) = []:=by simp
     rw [this,List.append_nil]
     refine List.filter_congr fun x hx=>?_
     have:=lt x hx
     rw [decide_eq_false (show ¬ x = n by omega)]
     rfl
    ·rcases List.mem_append.mp z with z | z
     ·have l2:=lt _ z
      have l1:=lt _ (ht1 t h z).1
      rcases hC t h z with q | q
      ·left; simp [q]; omega
      ·right; simp [q]; omega
     ·have e:=List.mem_singleton.mp z
      have l1:=lt _ (htn t h e)
      left
      have:=hx t.1 (List.mem_map.mpr ⟨t,List.mem_filter.mpr ⟨h,decide_eq_true e⟩,rfl⟩)
      have:=(List.mem_filter.mp this).2
      simp [this]; omega
  ·rintro ⟨C,rfl,hC⟩
   refine ⟨ns.filter C,(ih _).mpr ⟨C,rfl,fun t h z=>hC t h (List.mem_append_left _ z)⟩,?_⟩
   rw [List.filter_append]
   unfold jg2
   by_cases c:C n = true
   ·have:[n].filter C = [n]:=by simp [c]
    rw [this]
    split <;> exact List.mem_cons_self ..
   ·have e0:[n].filter C = []:=by simp [c]
    rw [e0,List.append_nil,if_pos]
    ·exact List.mem_cons_of_mem _ (List.mem_cons_self ..)
    ·refine jlw.mpr fun x hx=>?_
     obtain ⟨t,ht2,rfl⟩:=List.mem_map.mp hx
     obtain ⟨h1,h2⟩:=List.mem_filter.mp ht2
     have e:=of_decide_eq_true h2
     have:=hC t h1 (List.mem_append_right _ (by rw [e]; exact List.mem_singleton.mpr rfl))
     rw [e] at this
     exact List.mem_filter.mpr ⟨htn t h1 e,this.resolve_right c⟩
def jdu (ps:List (Int × Int)) (ss:List Int):Int:=((ps.filter fun p=>decide (p.1 ∈ ss)).map (·.2)).sum
theorem js7 (ps:List (Int × Int)) (ss:List Int):jdu ps ss = wC ps fun n=>decide (n ∈ ss):=by
 unfold jdu wC
 rw [jgr]
theorem PlOk.pw:∀ {ps:List (Int × Int)} {l s:Int},PlOk l s ps→(ps.map (·.1)).Pairwise (· < ·)
 | [],_,_,_=>.nil
 | q :: r,l,s,h=>by
  rw [List.map_cons,List.pairwise_cons]
  refine ⟨fun x hx=>?_,PlOk.pw h.2⟩
  obtain ⟨p,hp,rfl⟩:=List.mem_map.mp hx
  exact PlOk.gt h.2 p hp
section
variable {ps ts:List (Int × Int)}
def jd3 (ps ts:List (Int × Int)):List (List Int):=jda ts (ps.map (·.1))
theorem je4 (wk:WebOk ps ts) {s:List Int}:s ∈ jd3 ps ts ↔ ∃ C,s = jgg ps C∧Tch ts C:=by
 unfold jd3 jgg Tch
 rw [jnd wk.p.pw fun t ht _=>⟨(jet wk t ht).1,(TiOk.in wk.t t ht).1⟩]
 constructor
 ·rintro ⟨C,e,h⟩
  exact ⟨C,e,fun t ht=>h t ht (jet wk t ht).2⟩
 ·rintro ⟨C,e,h⟩
  exact ⟨C,e,fun t ht _=>h t ht⟩
theorem jfh (C:Int→Bool):jdu ps (jgg ps C) = wC ps C:=by
 rw [js7]
 unfold wC jgg
 refine Fl.sum_congr fun p hp=>?_
 have:(p.1 ∈ (ps.map (·.1)).filter C) ↔ C p.1 = true:=by
  rw [List.mem_filter]
  exact ⟨fun h=>h.2,fun h=>⟨List.mem_map.mpr ⟨p,hp,rfl⟩,h⟩⟩
 by_cases c:C p.1 = true
 ·rw [if_pos (decide_eq_true (this.mpr c)),if_pos c]
 ·rw [if_neg (fun z=>c (this.mp (of_decide_eq_true z))),if_neg c]
def jpr (l:List Int) (m:Int):Prop:=m ∈ l∧∀ x ∈ l,m ≤ x
theorem min_of (wk:WebOk ps ts) {m:Int} (h:jpr ((jd3 ps ts).map (jdu ps)) m):(∃ C,Tch ts C∧wC ps C = m)∧∀ C,Tch ts C→m ≤ wC ps C:=by
 obtain ⟨s,hs,e⟩:=List.mem_map.mp h.1
 obtain ⟨C,rfl,t⟩:=(je4 wk).mp hs
 rw [jfh] at e
 refine ⟨⟨C,t,e⟩,fun D hD=>?_⟩
 have:=h.2 _ (List.mem_map.mpr ⟨jgg ps D,(je4 wk).mpr ⟨D,rfl,hD⟩,rfl⟩)
 rw [jfh] at this
 exact this
end
section
variable {ps ts:List (Int × Int)} {fs nr nt:List Int} {zs:List (Int × Int × Int)}
def oneY (C:Int→Bool) (n:Int):Int:=if C n = true then 1 else 0
def cutX (fs:List Int) (X:Int→Prop) [DecidablePred X] (n:Int):Bool:=decide (decide (n ∈ fs) ≠ decide (X n))
def jgc (zs:List (Int × Int × Int)):Int:=(zs.map (·.2.2)).sum
theorem Bip.ends (F:Bip ps ts fs zs nr nt) (wk:WebOk ps ts):∀ d ∈ zs,d.1 ∈ ps.map (·.1)∧d.2.1 ∈ ps.map (·.1):=fun d hd=>by
 have:=List.mem_map_of_mem (f:=fun d:Int × Int × Int=>(d.1,d.2.1)) hd
 rw [F.zt] at this
 exact jet wk _ this
theorem Bip.tie (F:Bip ps ts fs zs nr nt):∀ d ∈ zs,(d.1,d.2.1) ∈ ts:=fun d hd=>by
 have:=List.mem_map_of_mem (f:=fun d:Int × Int × Int=>(d.1,d.2.1)) hd
 rw [F.zt] at this
 exact this
theorem Bip.sums (F:Bip ps ts fs zs nr nt) (wk:WebOk ps ts) (C:Int→Bool):(ps.map fun p=>oneY C p.1 * jcl zs p.1).sum = (zs.map fun d=>d.2.2 * (oneY C d.1 + oneY C d.2.1)).sum:=by
 have:=jnx wk.p.nodup (oneY C) (F.ends wk)
 rw [List.map_map] at this
 exact this
theorem Bip.lower (F:Bip ps ts fs zs nr nt) (wk:WebOk ps ts) {C:Int→Bool} (h:Tch ts C):jgc zs ≤ wC ps C:=by
 have a:=F.sums wk C
 have b:(ps.map fun p=>oneY C p.1 * jcl zs p.1).sum ≤ wC ps C:=by
  unfold wC
  refine jej fun p hp=>?_
  have:=F.pay p hp
  unfold oneY
  split <;> omega
 have c:jgc zs ≤ (zs.map fun d=>d.2.2 * (oneY C d.1 + oneY C d.2.1)).sum:=by
  unfold jgc
  refine jej fun d hd=>?_
  have p:=F.pos d hd
  have q:1 ≤ oneY C d.1 + oneY C d.2.1:=by
   unfold oneY
   rcases h _ (F.tie d hd) with e | e
   ·rw [if_pos e]; split <;> omega
   ·rw [if_pos e]; split <;> omega
  have:=Int.mul_le_mul_of_nonneg_left q p
  omega
 omega
theorem jf8 (t:Int × Int):(tlT fs t = t.1∧hdT fs t = t.2) ∨ (tlT fs t = t.2∧hdT fs t = t.1):=by
 unfold tlT hdT
 by_cases c:t.1 ∈ fs
 ·rw [if_pos c,if_pos c]; exact .inl ⟨rfl,rfl⟩
 ·rw [if_neg c,if_neg c]; exact .inr ⟨rfl,rfl⟩
theorem jge (two:Two ts fs) {X:Int→Prop} [DecidablePred X] (T:TCut ps ts fs zs X):Tch ts (cutX fs X):=fun t ht=>by
 obtain ⟨h1,h2⟩:=jgo two ht
 have key:cutX fs X (tlT fs t) = true ∨ cutX fs X (hdT fs t) = true:=by
  unfold cutX
  by_cases c:X (tlT fs t)
  ·right; simp [h2,T.c3 t ht c]
  ·left; simp [h1,c]
 rcases jf8 (fs:=fs) t with ⟨a,b⟩ | ⟨a,b⟩
 ·rwa [a,b] at key
 ·rw [a,b] at key; exact key.symm
theorem jm4 (F:Bip ps ts fs zs nr nt) (wk:WebOk ps ts) (two:Two ts fs) {X:Int→Prop} [DecidablePred X] (T:TCut ps ts fs zs X):wC ps (cutX fs X) = jgc zs:=by
 have a:=F.sums wk (cutX fs X)
 have b:wC ps (cutX fs X) = (ps.map fun p=>oneY (cutX fs X) p.1 * jcl zs p.1).sum:=by
  unfold wC
  refine Fl.sum_congr fun p hp=>?_
  unfold oneY
  by_cases c:cutX fs X p.1 = true
  ·rw [if_pos c,if_pos c,Int.one_mul]
   unfold cutX at c
   by_cases c1:p.1 ∈ fs
   ·by_cases c2:X p.1
    ·simp [c1,c2] at c
    ·exact (T.c1 p hp c1 c2).symm
   ·by_cases c2:X p.1
    ·exact (T.c2 p hp c1 c2).symm
    ·simp [c1,c2] at c
  ·rw [if_neg c,if_neg c,Int.zero_mul]
 have c:(zs.map fun d=>d.2.2 * (oneY (cutX fs X) d.1 + oneY (cutX fs X) d.2.1)).sum = jgc zs:=by
  unfold jgc
  refine Fl.sum_congr fun d hd=>?_
  have p:=F.pos d hd
  by_cases z:d.2.2 = 0
  ·rw [z,Int.zero_mul]
  ·obtain ⟨h1,h2⟩:=jgo two (F.tie d hd)
   have t:=jge two T _ (F.tie d hd)
   have q:=T.c4 d hd (by omega)
   have n1:cutX fs X (tlT fs (d.1,d.2.1)) = true→cutX fs X (hdT fs (d.1,d.2.1)) = false:=by
    intro e
    unfold cutX at e ⊢
    by_cases x:X (hdT fs (d.1,d.2.1))
    ·simp [h1,q x] at e
    ·simp [h2,x]
   have:oneY (cutX fs X) d.1 + oneY (cutX fs X) d.2.1 = 1:=by
    unfold oneY
    dsimp only at t
    rcases jf8 (fs:=fs) (d.1,d.2.1) with ⟨a,b⟩ | ⟨a,b⟩ <;> rw [a,b] at n1 <;> dsimp only at n1
    ·cases e1:cutX fs X d.1 <;> cases e2:cutX fs X d.2.1 <;> simp [e1,e2] at t n1 ⊢
    ·cases e1:cutX fs X d.1 <;> cases e2:cutX fs X d.2.1 <;> simp [e1,e2] at t n1 ⊢
   rw [this,Int.mul_one]
 omega
theorem jdk {α:Type} {f:α→Int}:∀ {l:List α},(∀ p ∈ l,0 ≤ f p)→(l.map f).sum ≤ 0→∀ p ∈ l,f p = 0
 | [],_,_,_,h=>by cases h
 | a :: l,hn,h,p,hp=>by
  rw [List.map_cons,List.sum_cons] at h
  have h1:=hn a (List.mem_cons_self ..)
  have h2:=jej (f:=fun _=>(0:Int)) (g:=f) (l:=l) fun q hq=>hn q (List.mem_cons_of_mem _ hq)
  rw [Fl.sum_zero] at h2
  rcases List.mem_cons.mp hp with rfl | hp
  ·omega
  ·exact jdk (fun q hq=>hn q (List.mem_cons_of_mem _ hq)) (by omega) p hp
theorem Bip.tight (F:Bip ps ts fs zs nr nt) (wk:WebOk ps ts) (two:Two ts fs) {C:Int→Bool} (h:Tch ts C) (hc:wC ps C ≤ jgc zs):TCut ps ts fs zs (fun n=>decide (n ∈ fs) ≠ C n):=by
 have a:=F.sums wk C
 have e1:(ps.map fun p=>oneY C p.1 * (p.2 - jcl zs p.1)).sum + (ps.map fun p=>oneY C p.1 * jcl zs p.1).sum = wC ps C:=by
  unfold wC
  rw [← Fl.sum_add]
  refine Fl.sum_congr fun p _=>?_
  unfold oneY
  split <;> omega
 have e2:(zs.map fun d=>d.2.2 * (oneY C d.1 + oneY C d.2.1 - 1)).sum + jgc zs = (zs.map fun d=>d.2.2 * (oneY C d.1 + oneY C d.2.1)).sum:=by
  unfold jgc
  rw [← Fl.sum_add]
  refine Fl.sum_congr fun d _=>?_
  rw [Int.mul_sub,Int.mul_one]
  omega
 have p1:∀ p ∈ ps,0 ≤ oneY C p.1 * (p.2 - jcl zs p.1):=fun p hp=>by
  have:=F.pay p hp
  unfold oneY
  split <;> omega
 have q1:∀ d ∈ zs,1 ≤ oneY C d.1 + oneY C d.2.1:=fun d hd=>by
  unfold oneY
  rcases h _ (F.tie d hd) with e | e
  ·rw [if_pos e]; split <;> omega
  ·rw [if_pos e]; split <;> omega
 have p2:∀ d ∈ zs,0 ≤ d.2.2 * (oneY C d.1 + oneY C d.2.1 - 1):=fun d hd=>Int.mul_nonneg (F.pos d hd) (by have:=q1 d hd; omega)
 have s1:=jej (f:=fun _=>(0:Int)) (l:=ps) p1
 have s2:=jej (f:=fun _=>(0:Int)) (l:=zs) p2
 rw [Fl.sum_zero] at s1 s2
 have z1:=jdk p1 (by omega)
 have z2:=jdk p2 (by omega)
 have full:∀ p ∈ ps,C p.1 = true→jcl zs p.1 = p.2:=fun p hp e=>by
  have:=z1 p hp
  unfold oneY at this
  rw [if_pos e] at this
  omega
 refine ⟨fun p hp hf hx=>full p hp ?_,fun p hp hf hx=>full p hp ?_,fun t ht hx=>?_,fun d hd h0 hx=>?_⟩
 ·cases e:C p.1 with
  | true=>rfl
  | false=>exact absurd (by rw [e,decide_eq_true hf]; decide) hx
 ·cases e:C p.1 with
  | true=>rfl
  | false=>rw [e,decide_eq_false hf] at hx; exact absurd rfl hx
 ·obtain ⟨h1,h2⟩:=jgo two ht
  have n1:C (tlT fs t) = false:=by
   cases e:C (tlT fs t) with
   | false=>rfl
   | true=>rw [e,decide_eq_true h1] at hx; exact absurd rfl hx
  have n2:C (hdT fs t) = true:=by
   have:=h t ht
   rcases jf8 (fs:=fs) t with ⟨a,b⟩ | ⟨a,b⟩
   ·rw [a] at n1; rw [b]; exact this.resolve_left (by rw [n1]; decide)
   ·rw [a] at n1; rw [b]; exact this.resolve_right (by rw [n1]; decide)
  rw [n2,decide_eq_false h2]; decide
 ·obtain ⟨h1,h2⟩:=jgo two (F.tie d hd)
  have n2:C (hdT fs (d.1,d.2.1)) = true:=by
   cases e:C (hdT fs (d.1,d.2.1)) with
   | true=>rfl
   | false=>rw [e,decide_eq_false h2] at hx; exact absurd rfl hx
  have n3:oneY C d.1 + oneY C d.2.1 = 1:=by
   have:=z2 d hd
   rcases Int.mul_eq_zero.mp this with z | z <;> omega
  have n1:C (tlT fs (d.1,d.2.1)) = false:=by
   cases e:C (tlT fs (d.1,d.2.1)) with
   | false=>rfl
   | true =>
    unfold oneY at n3
    rcases jf8 (fs:=fs) (d.1,d.2.1) with ⟨a,b⟩ | ⟨a,b⟩ <;> rw [a] at e <;> rw [b] at n2 <;> dsimp only at e n2 <;> rw [if_pos e,if_pos n2] at n3 <;> omega
  rw [n1,decide_eq_true h1]; decide
theorem Bip.between (F:Bip ps ts fs zs nr nt) {X:Int→Prop} (T:TCut ps ts fs zs X):(∀ n ∈ nr,X n)∧∀ n ∈ ps.map (·.1),n ∉ nt→¬ X n:=by
 constructor
 ·refine F.sR X (fun p hp hf h=>Classical.byContradiction fun z=>?_) T.c3 T.c4
  have:=T.c1 p hp hf z
  omega
 ·refine F.tR (fun n=>¬ X n) (fun p hp hf h z=>?_) (fun t ht h z=>h (T.c3 t ht z)) fun d hd h0 h z=>h (T.c4 d hd h0 z)
  have:=T.c2 p hp hf z
  omega
structure Ask (ps:List (Int × Int)) (fs:List Int) (L:List (List Int)) (mo fe:List Int):Prop where
 m:mo ∈ L
 f:fe ∈ L
 a:∀ s ∈ L,∀ n ∈ ps.map (·.1),n ∈ fs→(n ∈ s→n ∈ mo)∧(n ∉ s→n ∉ fe)
 b:∀ s ∈ L,∀ n ∈ ps.map (·.1),n ∉ fs→(n ∈ s→n ∈ fe)∧(n ∉ s→n ∉ mo)
def jha (ps ts:List (Int × Int)) (m:Int):List (List Int):=(jd3 ps ts).filter fun s=>decide (jdu ps s = m)
theorem jos (fs ns:List Int):cutS ps fs ns = jgg ps (cutX fs (· ∈ ns)):=rfl
theorem Bip.ask (F:Bip ps ts fs zs nr nt) (wk:WebOk ps ts) (two:Two ts fs) {m:Int} (hm:jpr ((jd3 ps ts).map (jdu ps)) m):Ask ps fs (jha ps ts m) (cutS ps fs nr) (cutS ps fs nt):=by
 obtain ⟨⟨C0,t0,e0⟩,least⟩:=min_of wk hm
 have cs:=jm4 F wk two F.S
 have ct:=jm4 F wk two F.T
 have ts1:=jge two F.S
 have tt1:=jge two F.T
 have l1:=least _ ts1
 have l2:=F.lower wk t0
 have em:m = jgc zs:=by omega
 have inL:∀ (X:Int→Prop) [DecidablePred X],Tch ts (cutX fs X)→wC ps (cutX fs X) = jgc zs→jgg ps (cutX fs X) ∈ jha ps ts m:=fun X _ h1 h2=>List.mem_filter.mpr ⟨(je4 wk).mpr ⟨_,rfl,h1⟩,decide_eq_true (by rw [jfh,h2,em])⟩
 have mem:∀ (ns:List Int) (n:Int),n ∈ ps.map (·.1)→(n ∈ cutS ps fs ns ↔ decide (n ∈ fs) ≠ decide (n ∈ ns)):=fun ns n hn=>by
  unfold cutS
  rw [List.mem_filter,decide_eq_true_eq]
  exact ⟨fun h=>h.2,fun h=>⟨hn,h⟩⟩
 have bt:∀ s ∈ jha ps ts m,∃ D:Int→Bool,s = jgg ps D∧(∀ n ∈ nr,decide (n ∈ fs) ≠ D n)∧∀ n ∈ ps.map (·.1),n ∉ nt→¬ (decide (n ∈ fs) ≠ D n):=fun s hs=>by
  obtain ⟨h1,h2⟩:=List.mem_filter.mp hs
  obtain ⟨D,rfl,hD⟩:=(je4 wk).mp h1
  have h3:=of_decide_eq_true h2
  rw [jfh] at h3
  exact ⟨D,rfl,F.between (F.tight wk two hD (by omega))⟩
 have ms:∀ (D:Int→Bool) (n:Int),n ∈ ps.map (·.1)→(n ∈ jgg ps D ↔ D n = true):=fun D n hn=>by
  unfold jgg
  rw [List.mem_filter]
  exact ⟨fun h=>h.2,fun h=>⟨hn,h⟩⟩
 refine ⟨by rw [jos]; exact inL _ ts1 cs,by rw [jos]; exact inL _ tt1 ct,fun s hs n hn hf=>?_,fun s hs n hn hf=>?_⟩
 ·obtain ⟨D,rfl,x1,x2⟩:=bt s hs
  rw [ms D n hn,mem _ n hn,mem _ n hn,decide_eq_true hf]
  constructor
  ·intro d
   by_cases c:n ∈ nr
   ·have:=x1 n c
    rw [d,decide_eq_true hf] at this
    exact absurd rfl this
   ·rw [decide_eq_false c]; decide
  ·intro d
   by_cases c:n ∈ nt
   ·rw [decide_eq_true c]; decide
   ·have:=x2 n hn c
    rw [decide_eq_true hf] at this
    exact absurd (fun z=>d z.symm) this
 ·obtain ⟨D,rfl,x1,x2⟩:=bt s hs
  rw [ms D n hn,mem _ n hn,mem _ n hn,decide_eq_false hf]
  constructor
  ·intro d
   by_cases c:n ∈ nt
   ·rw [decide_eq_true c]; decide
   ·have:=x2 n hn c
    rw [d,decide_eq_false hf] at this
    exact absurd (by decide) this
  ·intro d
   by_cases c:n ∈ nr
   ·have:=x1 n c
    rw [decide_eq_false hf] at this
    cases e:D n with
    | true=>exact absurd e d
    | false=>rw [e] at this; exact absurd rfl this
   ·rw [decide_eq_false c]; decide
end
end
end My
namespace My
open PySem L2
section
variable {P:Program} {w:World} {K:PySem.W.Frag} {mg:Str→Option Value} {base:Heap} {c1 c2 c3 c4:Tok} {C_NoWeb f_NoWeb:Addr} {dI:FuncData}
def LsR (H:Hp) (v:V) (row:List Int):Prop:=∃ a,v = .ref a∧H a = some (.lst (row.map V.int))
abbrev LsRs (H:Hp):List V→List (List Int)→Prop:=Paired (LsR H)
theorem LsR.same {H H':Hp} (s:Same H H') {v:V} {row:List Int} (h:LsR H v row):LsR H' v row:=by
 obtain ⟨a,e,q⟩:=h
 exact ⟨a,e,s _ _ q⟩
theorem LsRs.same {H H':Hp} (s:Same H H') {xs:List V} {rs:List (List Int)} (h:LsRs H xs rs):LsRs H' xs rs:=Paired.imp' (fun _ _ q=>q.same s) h
def LsN (ls:List Addr) (H:Hp) (v:V) (row:List Int):Prop:=∃ a,v = .ref a∧a ∉ ls∧H a = some (.lst (row.map V.int))
theorem LsN.to {l:List Addr} {H:Hp} {xs:List V} {rs:List (List Int)} (h:Paired (LsN l H) xs rs):LsRs H xs rs:=Paired.imp' (fun _ _ ⟨a,e,_,q⟩=>⟨a,e,q⟩) h
theorem LsN.of {l:List Addr} {p:Addr} (hp:p ∈ l) {H:Hp} {o:HO} {xs:List V} {rs:List (List Int)} (h:Paired (LsN l H) xs rs):Paired (LsN l (upd H p o)) xs rs:=Paired.imp' (fun _ _ ⟨a,e,n,q⟩=>⟨a,e,n,by rw [jaj (fun z:a = p=>n (by rw [z]; exact hp))]; exact q⟩) h
theorem LsN.same {l:List Addr} {H H':Hp} (s:Same H H') {xs:List V} {rs:List (List Int)} (h:Paired (LsN l H) xs rs):Paired (LsN l H') xs rs:=Paired.imp' (fun _ _ ⟨a,e,n,q⟩=>⟨a,e,n,s _ _ q⟩) h
theorem flat_ints:∀ (gs:List Int),(gs.map V.int).all jcz = true
 | []=>rfl
 | g :: r=>by rw [List.map_cons,List.all_cons,flat_ints r]; rfl
theorem jpa {H:Hp} {a:Addr} {ns:List Int} (e:H a = some (.lst (ns.map V.int))):Rep H (.lst (ns.map Dt.int)) (.ref a):=by
 rw [Rep]
 refine ⟨a,_,rfl,e,?_⟩
 clear e
 induction ns with
 | nil=>rw [List.map_nil,Reps]; rfl
 | cons n r ih=>rw [List.map_cons,Reps]; exact ⟨_,_,rfl,by rw [Rep],ih⟩
theorem jr7 {H:Hp} {a:Addr} (e:H a = some (.lst [])):Rep H (.lst []) (.ref a):=by
 rw [Rep]
 exact ⟨a,[],rfl,e,by rw [Reps]⟩
theorem jpz (ns:List Int):eqP (.lst (ns.map Dt.int)) (.lst []) = decide (ns = []):=by
 cases ns <;> rfl
theorem jm3:∀ (ns:List Int),jcq (ns.map Dt.int) = 0
 | []=>rfl
 | n :: r=>by simp [jcq,depP,jm3 r]
theorem jon (ns:List Int):depP (.lst (ns.map Dt.int)) ≤ 20:=by rw [depP,jm3]; decide
theorem szb {n:Nat} (h:n ≤ 5000):n < sizeLine:=Nat.lt_of_le_of_lt h (by decide)
theorem jrz {ns:List Int} {i:Nat} {v:V} (h:(ns.map V.int)[i]? = some v):∃ n,ns[i]? = some n∧v = .int n:=by
 rw [List.getElem?_map] at h
 obtain ⟨n,hn,e⟩:=Option.map_eq_some_iff.mp h
 exact ⟨n,hn,e.symm⟩
theorem jcx {α:Type} {f:α→Bool} {l:List α} {i:Nat} {x:α} (h:l[i]? = some x):(l.take (i + 1)).filter f = (l.take i).filter f ++ (if f x = true then [x] else []):=by
 rw [jbn h,List.filter_append,List.filter_cons,List.filter_nil]
def jqi:Sp:=fun vs H Q _=>∃ v sa ps ts ss,vs = [v,.ref sa]∧jdj H v ps ts∧ps.length ≤ 900∧H sa = some (.lst (ss.map V.int))∧∀ H',Same H H'→Q (.int (jdu ps ss)) H'
def jqc:Sp:=fun vs H Q _=>∃ v ps ts,vs = [v]∧jdj H v ps ts∧WebOk ps ts∧ps.length ≤ 9∧∀ l zs H',Same H H'→H' l = some (.lst zs)→LsRs H' zs (jd3 ps ts)→Q (.ref l) H'
theorem jj1 {ps ts:List (Int × Int)} (h:ps.length ≤ 9):(jd3 ps ts).length ≤ 512:=by
 have:=(je5 ts (ps.map (·.1)) ps.length).1
 rw [List.take_of_length_le (by rw [List.length_map]; omega)] at this
 exact Nat.le_trans this (Nat.pow_le_pow_right (by decide) h:2 ^ ps.length ≤ 2 ^ 9)
theorem pow9 {i n:Nat} (hi:i ≤ 9) (h:n ≤ 2 ^ i):n ≤ 512:=Nat.le_trans h (Nat.pow_le_pow_right (by decide) hi:2 ^ i ≤ 2 ^ 9)
theorem jmz {ts:List (Int × Int)} {n:Int} {rs:List (List Int)} {i:Nat} {s:List Int} (h:rs[i]? = some s):je1 ts n (rs.take (i + 1)) = je1 ts n (rs.take i) ++ jg2 ts n s:=by
 unfold je1
 rw [jbn h,List.flatMap_append,List.flatMap_cons,List.flatMap_nil,List.append_nil]
theorem jma {ts:List (Int × Int)}:∀ {ns:List Int} {s:List Int},s ∈ jda ts ns→s.length ≤ ns.length:=by
 intro ns
 refine jnj (P:=fun ns=>∀ {s:List Int},s ∈ jda ts ns→s.length ≤ ns.length) ?_ (fun ns n ih=>?_) ns
 ·intro s h; rw [show jda ts [] = [[]] from rfl,List.mem_singleton] at h; rw [h]; exact Nat.le_refl _
 ·intro s h
  rw [jdo] at h
  unfold je1 at h
  obtain ⟨s0,h0,h1⟩:=List.mem_flatMap.mp h
  have:=ih h0
  rw [List.length_append]
  unfold jg2 at h1
  have:s = s0 ++ [n] ∨ s = s0:=by
   split at h1 <;> simp only [List.mem_cons,List.not_mem_nil,or_false] at h1
   ·exact h1
   ·exact .inl h1
  rcases this with rfl | rfl
  ·rw [List.length_append]; simp only [List.length_cons,List.length_nil]; omega
  ·simp only [List.length_cons,List.length_nil]; omega
theorem LsN.snoc {l:List Addr} {H:Hp} {xs:List V} {rs:List (List Int)} (h:Paired (LsN l H) xs rs) {a:Addr} {s:List Int} (ha:H a = some (.lst (s.map V.int))) (hn:a ∉ l):Paired (LsN l H) (xs ++ [.ref a]) (rs ++ [s]):=jc7 h ⟨a,rfl,hn,ha⟩
def jnb:Sp:=fun vs H Q _=>∃ v ps ts,vs = [v]∧jdj H v ps ts∧WebOk ps ts∧ps.length ≤ 9∧∀ l zs m H',Same H H'→H' l = some (.lst zs)→LsRs H' zs (jha ps ts m)→jpr ((jd3 ps ts).map (jdu ps)) m→Q (.ref l) H'
theorem jp6 {ps ts:List (Int × Int)}:jd3 ps ts ≠ []:=fun z=>by
 have:=(je5 ts (ps.map (·.1)) (ps.map (·.1)).length).2
 rw [List.take_length] at this
 unfold jd3 at z
 rw [z] at this
 exact absurd this (by decide)
theorem jgy {α β:Type} {F:α→β→Prop}:∀ {xs:List α} {ys:List β},Paired F xs ys→Paired (fun a b=>F a b∧a ∈ xs) xs ys
 | _,_,.nil=>.nil
 | _,_,.cons r t=>.cons ⟨r,List.mem_cons_self ..⟩ (Paired.mapP (jgy t) fun _ _ q=>⟨q.1,List.mem_cons_of_mem _ q.2⟩)
theorem jkp {f:Addr} {fd:FuncData}  (B:Blt mg) (D:DefAt K mg "_law_cost" (top 48) ["_law_web","_law_some"] f fd):FnOk P w K mg base CX0 1 f fd ["_law_web","_law_some"] jqi:=by
 have sc:FnScope ["_law_web","_law_some"] ["_law_web","_law_some"] (jbc (top 48)):=⟨rfl,rfl,rfl,by decide +kernel,rfl,by decide +kernel,by decide +kernel⟩
 refine D.F.ok sc (fun vs H Q E h=>?_) (fun cdv A outer s H vs Q E hr h=>?_)
 ·obtain ⟨v,u,ps,ts,ss,rfl,_⟩:=h
  rfl
 obtain ⟨v,sa,ps,ts,ss,rfl,hw,hl9,es,h⟩:=h
 obtain ⟨x,pa,ta,xs,ys,rfl,ex,ep,et,pp,pt⟩:=id hw
 have hlx:xs.length = ps.length:=Paired.length pp
 have hu:=jcb hr
 have hu0:_ < PySem.cLine:=Nat.lt_of_succ_lt hu
 refine ⟨_,(jan (jbq (jbp (q_sum rfl) rfl B.sum PyProof.Rows.boot_sum (ja0 (jcg (CpScope.of (N:=["_law_place","_law_price","_law_some"]) (src:=[none,none,some 1]) (by rfl)) rfl (jbx (jbk q_ix (qv 0) jak (fun _ _=>rfl))) (fun _ _ _ _=>(jcr (n:=2) rfl (jbf (jbb (i:=0) (jbj (l:=["_law_place","_law_price","_law_some"]) (by rfl)) rfl (Or.inl rfl)) (jbf (jbb (i:=1) (jbj (l:=["_law_place","_law_price","_law_some"]) (by rfl)) rfl (Or.inl rfl)) jcc)))) (fun _ _ _ _=>(jd5 (jbw jka (qv 0) (qv 2) (by with_unfolding_all rfl)))) (fun _ _ _ _=>(qv 1))) jah)))),?_⟩
 walk_at "ND"
 refine jbr (Itl K pa) H (fun R hR=>?_) (fun z hz=>jc3 ps.length (fun i σ' Hc=>∃ w1 w2,σ' = [w1,w2,some (.ref sa)]∧Same H Hc∧Hc z = some (.lst ((((ps.take i).filter fun p=>decide (p.1 ∈ ss)).map (·.2)).map V.int))) ⟨none,none,rfl,jai hz _,ja1⟩ ?_ ?_)
 ·unfold jcu
  simp_all_arith [jbl,ex,at0]
  exact ⟨pa,rfl,⟨_,SqL.of ep⟩,hR⟩
 ·rintro i σ' Hc hi ⟨w1,w2,rfl,s4,ez⟩
  have x1:xs[i]? = some (xs[i]'(by omega)):=List.getElem?_eq_getElem _
  have z1:SqL K Hc pa xs:=SqL.of (s4 _ _ ep)
  refine ⟨⟨_,_,z1,x1⟩,?_⟩
  rintro y H' ⟨rfl,hy⟩
  obtain ⟨q,hq,pq⟩:=jbi pp (hy _ z1)
  obtain ⟨t,rfl,ht⟩:=pq.same s4
  have es':=s4 _ _ es
  simp_all_arith [ht,jbl,es',jce,flat_ints,jcz]
  have hfl:(((ps.take i).filter fun p=>decide (p.1 ∈ ss))).length ≤ 900:=Nat.le_trans (List.length_filter_le _ _) (by rw [List.length_take]; omega)
  have ft:=jcx (f:=fun p:Int × Int=>decide (p.1 ∈ ss)) hq
  by_cases c:q.1 ∈ ss
  ·simp only [c,decide_true,if_true] at ft ⊢
   refine ⟨_,ez,?_,_,_,rfl,jbh s4 hz,?_⟩
   ·rw [List.length_map,List.length_map]
    exact szl' (by omega)
   ·rw [ja1,ft,List.map_append,List.map_append]
    rfl
  ·simp only [c,decide_false,Bool.false_eq_true,if_false,List.append_nil] at ft ⊢
   exact ⟨_,_,rfl,s4,by rw [ft]; exact ez⟩
 rintro σ' H1 ⟨w1,w2,rfl,s1,ez⟩
 refine ⟨⟨_,SqL.of (s1 _ _ ep),by omega⟩,?_⟩
 rw [List.take_length] at ez
 exact ⟨z,_,rfl,ez,h H1 s1⟩
theorem jko {f:Addr} {fd:FuncData}  (B:Blt mg) (D:DefAt K mg "_law_sets" (top 47) ["_law_web"] f fd):FnOk P w K mg base CX0 1 f fd ["_law_web"] jqc:=by
 have sc:FnScope ["_law_web","_law_rows","_law_place","_law_price","_law_must","_law_longer","_law_some"] ["_law_web"] (jbc (top 47)):=⟨rfl,rfl,rfl,by decide +kernel,rfl,by decide +kernel,by decide +kernel⟩
 refine D.F.ok sc (fun vs H Q E h=>?_) (fun cdv A outer s H vs Q E hr h=>?_)
 ·obtain ⟨v,ps,ts,rfl,_⟩:=h
  rfl
 obtain ⟨v,ps,ts,rfl,hw,wk,h9,h⟩:=h
 obtain ⟨u,pa,ta,xs,ys,rfl,eu,epa,eta,hxs,hys⟩:=id hw
 have hxl:=Paired.length hxs
 have hyl:=Paired.length hys
 have htl:=wk.tl
 have hu:=jcb hr
 have hu0:_ < PySem.cLine:=Nat.lt_of_succ_lt hu
 refine ⟨_,(ja5 (jbe (i:=1) sc.nd rfl (Or.inl rfl) (jcd (ja0 (jcd jah) jah))) (ja5 (jca PassesOwn.never rfl (jbx (jbk q_ix (qv 0) jak (fun _ _=>rfl))) (jcr (n:=2) rfl (jbf (jbb (i:=2) sc.nd rfl (Or.inr rfl)) (jbf (jbb (i:=3) sc.nd rfl (Or.inl rfl)) jcc))) (ja5 (jkb (i:=4) sc.nd rfl (Or.inl rfl) (CpScope.of (N:=["_law_one","_law_other","_law_place"]) (src:=[none,none,some 2]) (by rfl)) rfl (jbx (jbk q_ix (qv 0) jak (fun _ _=>rfl))) (fun _ _ _ _=>(jcr (n:=2) rfl (jbf (jbb (i:=0) (jbj (l:=["_law_one","_law_other","_law_place"]) (by rfl)) rfl (Or.inl rfl)) (jbf (jbb (i:=1) (jbj (l:=["_law_one","_law_other","_law_place"]) (by rfl)) rfl (Or.inl rfl)) jcc)))) (fun _ _ _ _=>(jd5 (jbw q_eq (qv 1) (qv 2) (jbv _)))) (fun _ _ _ _=>(qv 0))) (ja5 (jbe (i:=5) sc.nd rfl (Or.inl rfl) (jcd jah)) (ja5 (jca PassesOwn.never rfl (jbx (qv 1)) (jbb (i:=6) sc.nd rfl (Or.inr rfl)) (ja5 (jby (q_bm PySem.F.plainAttrs_list PySem.F.slot_list_append PySem.F.type_list_append jc5 (qv 5) (ja0 (jc6 q_cat (qv 6) (jcd (ja0 (qv 2) jah))) jah))) (jan (jct (jbw (op_eqD hr.units) (jcg (CpScope.of (N:=["_law_one","_law_some"]) (src:=[none,some 6]) (by rfl)) rfl (jbx (qv 4)) (fun _ _ _ _=>(jbb (i:=0) (jbj (l:=["_law_one","_law_some"]) (by rfl)) rfl (Or.inl rfl))) (fun _ _ _ _=>(jd5 (jbw je6 (qv 0) (qv 1) (by with_unfolding_all rfl)))) (fun _ _ _ _=>(qv 0))) (jcd jah) (jbv _)) (jan (jby (q_bm PySem.F.plainAttrs_list PySem.F.slot_list_append PySem.F.type_list_append jc5 (qv 5) (ja0 (qv 6) jah)))) jbu)))) (jan (jbe (i:=1) sc.nd rfl (Or.inl rfl) (qv 5))))))) (jan (jbq (qv 1))))),?_⟩
 walk_at "ND"
 intro e0 he0
 have q0:=jai he0 (.lst [])
 have ee0:upd H e0 (.lst []) e0 = some (.lst []):=ja1
 generalize upd H e0 (.lst []) = H0 at q0 ee0
 intro r0 hr0
 have q1:=q0.trans (jai hr0 (.lst [.ref e0]))
 have ee1:=jai hr0 (.lst [.ref e0]) _ _ ee0
 have er1:upd H0 r0 (.lst [.ref e0]) r0 = some (.lst [.ref e0]):=ja1
 generalize upd H0 r0 (.lst [.ref e0]) = H1 at q1 ee1 er1
 refine jbo (Itl K pa) H1 (fun R hR=>?_) (jc9 (K:=K) (a:=pa) (xs:=xs) (fun i σ Hc=>∃ rl zs w2 w3 w4 w5 w6,σ = [some (.ref u),some (.ref rl),w2,w3,w4,w5,w6]∧Same H Hc∧Hc rl = some (.lst zs)∧LsRs Hc zs (jda ts ((ps.map (·.1)).take i))) ⟨r0,_,none,none,none,none,none,rfl,q1,er1,.cons ⟨e0,rfl,ee1⟩ .nil⟩ (fun i σ Hc _ ⟨_,_,_,_,_,_,_,_,s2,_⟩=>SqL.of (s2 _ _ epa)) ?_ ?_)
 ·unfold jcu
  simp_all_arith [jbl,q1 _ _ eu,at0]
  exact ⟨pa,rfl,⟨_,SqL.of (q1 _ _ epa)⟩,hR⟩
 ·rintro k y σ H2 hk ⟨rl,zs,w2,w3,w4,w5,w6,rfl,s2,erl,pz⟩
  obtain ⟨q,hq,pq⟩:=jbi hxs hk
  obtain ⟨b,rfl,hb⟩:=pq.same s2
  have hk9:k < ps.length:=(List.getElem?_eq_some_iff.mp hq).1
  have hzl:zs.length = (jda ts ((ps.map (·.1)).take k)).length:=Paired.length pz
  have hz5:=pow9 (by omega) (je5 ts (ps.map (·.1)) k).1
  have hmem:∀ s ∈ jda ts ((ps.map (·.1)).take k),s.length ≤ 9:=fun s hs=>by
   have:=jma hs
   rw [List.length_take] at this
   omega
  have hnext:jda ts ((ps.map (·.1)).take (k + 1)) = je1 ts q.1 (jda ts ((ps.map (·.1)).take k)):=by
   rw [jbn (show (ps.map (·.1))[k]? = some q.1 by rw [List.getElem?_map,hq]; rfl),jdo]
  generalize jda ts ((ps.map (·.1)).take k) = rs at pz hzl hz5 hmem hnext
  simp_all_arith [hb]
  refine jbr (Itl K ta) H2 (fun R2 hR2=>?_) (fun ml hml=>jc3 ts.length (fun j σ' Hc=>∃ w1 w2,σ' = [w1,w2,some (.int q.1)]∧Same H2 Hc∧Hc ml = some (.lst ((((ts.take j).filter fun t=>decide (t.2 = q.1)).map (·.1)).map V.int))) ⟨none,none,rfl,jai hml _,ja1⟩ ?_ ?_)
  ·unfold jcu
   simp_all_arith [jbl,s2 _ _ eu,at1]
   exact ⟨ta,rfl,⟨_,SqL.of (s2 _ _ eta)⟩,hR2⟩
  ·rintro j σ' Hc hj ⟨w1,w2,rfl,s3,eml⟩
   have s23:=s2.trans s3
   have x1:ys[j]? = some (ys[j]'(by omega)):=List.getElem?_eq_getElem _
   have z1:SqL K Hc ta ys:=SqL.of (s23 _ _ eta)
   refine ⟨⟨_,_,z1,x1⟩,?_⟩
   rintro y H' ⟨rfl,hy⟩
   obtain ⟨t,ht,pt⟩:=jbi hys (hy _ z1)
   obtain ⟨a,rfl,ha⟩:=pt.same s23
   simp_all_arith [ha]
   have hfl:(((ts.take j).filter fun t=>decide (t.2 = q.1))).length ≤ 200:=Nat.le_trans (List.length_filter_le _ _) (by rw [List.length_take]; omega)
   have ft:=jcx (f:=fun t:Int × Int=>decide (t.2 = q.1)) ht
   by_cases c:t.2 = q.1
   ·simp only [c,decide_true,if_true] at ft ⊢
    refine ⟨_,eml,?_,_,_,rfl,jbh s3 hml,?_⟩
    ·rw [List.length_map,List.length_map]
     exact szl' (by omega)
    ·rw [ja1,ft,List.map_append,List.map_append]
     rfl
   ·simp only [c,decide_false,Bool.false_eq_true,if_false,List.append_nil] at ft ⊢
    exact ⟨_,_,rfl,s3,by rw [ft]; exact eml⟩
  rintro σ' H3 ⟨w1,w2',rfl,s3,eml⟩
  refine ⟨⟨_,SqL.of (s3 _ _ (s2 _ _ eta)),by omega⟩,?_⟩
  rw [List.take_length] at eml
  have hmd:(jf3 ts q.1).length ≤ 120:=by
   unfold jf3
   rw [List.length_map]
   exact Nat.le_trans (List.length_filter_le _ _) htl
  rw [show (ts.filter fun t=>decide (t.2 = q.1)).map (·.1) = jf3 ts q.1 from rfl] at eml
  walk_at "ND"
  intro lg hlg
  have q4:=jai hlg (.lst [])
  have elg:upd H3 lg (.lst []) lg = some (.lst []):=ja1
  have erl4:=q4 _ _ (s3 _ _ erl)
  have s34:=s3.trans q4
  have hlg2:H2 lg = none:=s3.free hlg
  have hlg0:H lg = none:=s2.free hlg2
  have eml4:=q4 _ _ eml
  have nml:ml ≠ lg:=ja6 eml hlg
  have nrl:rl ≠ lg:=ja6 erl hlg2
  generalize upd H3 lg (.lst []) = H4 at q4 elg erl4 s34 eml4
  refine jbo (Itl K rl) H4 (fun R' hR'=>?_) (jc9 (K:=K) (a:=rl) (xs:=zs) (fun i σ Hc=>∃ w6 ws,σ = [some (.ref u),some (.ref rl),some (.int q.1),some (.int q.2),some (.ref ml),some (.ref lg),w6]∧Same H3 Hc∧Hc lg = some (.lst ws)∧Paired (LsN [lg] Hc) ws (je1 ts q.1 (rs.take i))) ⟨w6,[],rfl,q4,elg,.nil⟩ (fun i σ Hc _ ⟨_,_,_,s5,_⟩=>SqL.of (s5 _ _ (s3 _ _ erl))) ?_ ?_)
  ·unfold jcu
   walk_at "ND"
   exact ⟨rl,rfl,⟨_,SqL.of erl4⟩,hR'⟩
  ·rintro i z σ Hc hz ⟨w6',ws,rfl,s5,elg5,pw⟩
   obtain ⟨s,hs,ps'⟩:=jbi pz hz
   have s35:=s3.trans s5
   obtain ⟨ra,rfl,era⟩:=ps'.same s35
   have hsl:=hmem s (List.mem_of_getElem? hs)
   have hil:i < rs.length:=(List.getElem?_eq_some_iff.mp hs).1
   have hwl:ws.length ≤ 2 * i:=by
    have a:=Paired.length pw
    have:=(jga ts q.1 (rs.take i)).1
    rw [List.length_take] at this
    omega
   have nra:ra ≠ lg:=by
    obtain ⟨ra',e,q2⟩:=ps'
    cases e
    exact ja6 q2 hlg2
   walk_at "ND"
   refine ⟨⟨lg,_,rfl,elg5⟩,?_⟩
   walk_at "ND"
   intro c1 hc1
   have q6:=jai hc1 (.lst [.int q.1])
   have ec6:upd Hc c1 (.lst [.int q.1]) c1 = some (.lst [.int q.1]):=ja1
   have era6:=q6 _ _ era
   generalize upd Hc c1 (.lst [.int q.1]) = H6 at q6 ec6 era6
   simp_all_arith [era6,ec6]
   refine ⟨?_,fun c2 hc2=>?_⟩
   ·rw [List.length_map]
    show s.length + 1 ≤ _
    exact szl (by omega)
   have q7:=jai hc2 (.lst (s.map V.int ++ [.int q.1]))
   have ec7:upd H6 c2 (.lst (s.map V.int ++ [.int q.1])) c2 = some (.lst ((s ++ [q.1]).map V.int)):=by rw [ja1,List.map_append]; rfl
   have s67:=q6.trans q7
   have nc2:c2 ≠ lg:=(ja6 (q6 _ _ elg5) hc2).symm
   have era7:=q7 _ _ era6
   generalize upd H6 c2 (.lst (s.map V.int ++ [.int q.1])) = H7 at q7 ec7 s67 era7
   have elg7:=s67 _ _ elg5
   simp_all_arith [elg7]
   refine ⟨szb (by omega),?_⟩
   have pw8:Paired (LsN [lg] (upd H7 lg (.lst (ws ++ [.ref c2])))) (ws ++ [.ref c2]) (je1 ts q.1 (rs.take i) ++ [s ++ [q.1]]):=LsN.of (List.mem_singleton.mpr rfl) (LsN.snoc (LsN.same s67 pw) ec7 (by simpa using nc2))
   have s8:Same H3 (upd H7 lg (.lst (ws ++ [.ref c2]))):=jbh (s5.trans s67) hlg
   have elg8:upd H7 lg (.lst (ws ++ [.ref c2])) lg = some (.lst (ws ++ [.ref c2])):=ja1
   have era8:upd H7 lg (.lst (ws ++ [.ref c2])) ra = some (.lst (s.map V.int)):=by rw [jaj nra]; exact era7
   generalize upd H7 lg (.lst (ws ++ [.ref c2])) = H8 at pw8 s8 elg8 era8
   walk_at "ND"
   have em8:=s8 _ _ eml
   refine jbr (Itl K ml) H8 (fun R2 hR2=>?_) (fun dl hdl=>jc3 (jf3 ts q.1).length (fun j σ' Hd=>∃ w1,σ' = [w1,some (.ref ra)]∧Same H8 Hd∧Hd dl = some (.lst ((lack ((jf3 ts q.1).take j) s).map V.int))) ⟨none,rfl,jai hdl _,ja1⟩ ?_ ?_)
   ·unfold jcu
    walk_at "ND"
    exact ⟨ml,rfl,⟨_,SqL.of em8⟩,hR2⟩
   ·rintro j σ' Hd hj ⟨w1,rfl,s9,edl⟩
    have z1:SqL K Hd ml ((jf3 ts q.1).map V.int):=SqL.of (s9 _ _ em8)
    have x1:((jf3 ts q.1).map V.int)[j]? = some (((jf3 ts q.1).map V.int)[j]'(by rw [List.length_map]; omega)):=List.getElem?_eq_getElem _
    refine ⟨⟨_,_,z1,x1⟩,?_⟩
    rintro y H' ⟨rfl,hy⟩
    obtain ⟨n,hn,rfl⟩:=jrz (hy _ z1)
    have ft:=jcx (f:=fun x:Int=>!decide (x ∈ s)) hn
    have hfl:(lack ((jf3 ts q.1).take j) s).length ≤ 200:=Nat.le_trans (List.length_filter_le _ _) (by rw [List.length_take]; omega)
    unfold lack at hfl edl
    simp_all_arith [jbl,s9 _ _ era8,jce,flat_ints,jcz]
    unfold lack
    by_cases c:n ∈ s
    ·simp only [c,decide_true,Bool.not_true,Bool.false_eq_true,if_false,List.append_nil] at ft ⊢
     exact ⟨_,rfl,s9,by rw [ft]; exact edl⟩
    ·simp only [c,decide_false,Bool.not_false,if_true] at ft ⊢
     refine ⟨_,edl,?_,_,rfl,jbh s9 hdl,?_⟩
     ·rw [List.length_map]
      exact szl' (by omega)
     ·rw [ja1,ft,List.map_append]
      rfl
   rintro σ' H9 ⟨w1,rfl,s9,edl⟩
   refine ⟨⟨_,SqL.of (s9 _ _ em8),by rw [List.length_map]; omega⟩,?_⟩
   rw [List.take_length] at edl
   walk_at "ND"
   intro e1 he1
   have t1:=jai he1 (.lst [])
   have ee1:upd H9 e1 (.lst []) e1 = some (.lst []):=ja1
   generalize upd H9 e1 (.lst []) = HA at t1 ee1
   have s9A:=s9.trans t1
   refine ⟨_,_,jpa (t1 _ _ edl),jr7 ee1,jon _,.inl ⟨_,_,rfl,rfl⟩,?_⟩
   rw [jpz]
   have pwA:=LsN.same s9A pw8
   have elgA:=s9A _ _ elg8
   have s3A:=s8.trans s9A
   have eraA:=s9A _ _ era8
   rw [jmz hs]
   unfold jg2
   by_cases c:lack (jf3 ts q.1) s = []
   ·rw [decide_eq_true c,if_pos c]
    walk_at "ND"
    refine ⟨⟨lg,_,rfl,elgA⟩,?_⟩
    simp_all_arith [elgA]
    refine ⟨szb (by rw [List.length_append]; show ws.length + 1 ≤ _; omega),_,_,rfl,jbh s3A hlg,ja1,?_⟩
    have:=LsN.of (o:=.lst (ws ++ [.ref c2] ++ [.ref ra])) (List.mem_singleton.mpr rfl) (LsN.snoc pwA eraA (by simpa using nra))
    rw [show je1 ts q.1 (rs.take i) ++ [s ++ [q.1],s] = je1 ts q.1 (rs.take i) ++ [s ++ [q.1]] ++ [s] by rw [List.append_assoc]; rfl]
    exact this
   ·rw [decide_eq_false c,if_neg c]
    walk_at "ND"
    exact ⟨_,_,rfl,s3A,elgA,pwA⟩
  ·rintro σ Hc ⟨w6',ws,rfl,s5,elg5,pw⟩
   walk_at "ND"
   rw [Paired.length pz,List.take_length] at pw
   refine ⟨lg,ws,_,_,_,_,_,rfl,s2.trans (s3.trans s5),elg5,?_⟩
   rw [hnext]
   exact LsN.to pw
 ·rintro σ Hc ⟨rl,zs,w2,w3,w4,w5,w6,rfl,s2,erl,pz⟩
  walk_at "ND"
  rw [List.take_of_length_le (by rw [List.length_map]; omega)] at pz
  exact h rl zs Hc s2 erl pz
theorem jfx {f:Addr} {fd:FuncData} {f_law_sets:Addr} {d_law_sets:FuncData} {f_law_cost:Addr} {d_law_cost:FuncData} (B:Blt mg) (D:DefAt K mg "_law_cheapest" (top 49) ["_law_web"] f fd) (D_law_sets:DefAt K mg "_law_sets" (top 47) ["_law_web"] f_law_sets d_law_sets) (G_law_sets:FnOk P w K mg base CX0 1 f_law_sets d_law_sets ["_law_web"] jqc) (D_law_cost:DefAt K mg "_law_cost" (top 48) ["_law_web","_law_some"] f_law_cost d_law_cost) (G_law_cost:FnOk P w K mg base CX0 1 f_law_cost d_law_cost ["_law_web","_law_some"] jqi):FnOk P w K mg base CX0 2 f fd ["_law_web"] jnb:=by
 have sc:FnScope ["_law_web","_law_rows","_law_costs","_law_least"] ["_law_web"] (jbc (top 49)):=⟨rfl,rfl,rfl,by decide +kernel,rfl,by decide +kernel,by decide +kernel⟩
 refine D.F.ok sc (fun vs H Q E h=>?_) (fun cdv A outer s H vs Q E hr h=>?_)
 ·obtain ⟨v,ps,ts,rfl,_⟩:=h
  rfl
 obtain ⟨v,ps,ts,rfl,hw,wk,h9,h⟩:=h
 have hu:=jcb hr
 have hu0:_ < PySem.cLine:=Nat.lt_of_succ_lt hu
 refine ⟨_,(ja5 (jbe (i:=1) sc.nd rfl (Or.inr rfl) (jbg G_law_sets (hr.mono (by decide)) rfl D_law_sets.m D_law_sets.F.kp D_law_sets.b .nil jbt (ja0 (qv 0) jah))) (ja5 (jbe (i:=2) sc.nd rfl (Or.inr rfl) (jcg (CpScope.of (N:=["_law_some","_law_web"]) (src:=[none,some 0]) (by rfl)) rfl (jbx (qv 1)) (fun _ _ _ _=>(jbb (i:=0) (jbj (l:=["_law_some","_law_web"]) (by rfl)) rfl (Or.inl rfl))) (fun _ _ _ _=>jdz) (fun _ _ _ _=>(jbg G_law_cost (hr.mono (by decide)) rfl D_law_cost.m D_law_cost.F.kp D_law_cost.b .nil jbt (ja0 (qv 1) (ja0 (qv 0) jah)))))) (ja5 (jbe (i:=3) sc.nd rfl (Or.inr rfl) (jbp (jju rfl) rfl B.min PyProof.Rows.boot_min (ja0 (qv 2) jah))) (jan (jbq (jcg (CpScope.of (N:=["_law_k","_law_rows","_law_least","_law_costs"]) (src:=[none,some 1,some 3,some 2]) (by rfl)) rfl (jdl rfl B.range (ja0 (jbp jfp rfl B.len PySem.boot_len (ja0 (qv 1) jah)) jah)) (fun _ _ _ _=>(jbb (i:=0) (jbj (l:=["_law_k","_law_rows","_law_least","_law_costs"]) (by rfl)) rfl (Or.inl rfl))) (fun _ _ _ _=>(jd5 (jbw q_eq (jbk q_ix (qv 3) (qv 0) (fun _ _=>rfl)) (qv 2) (jbv _)))) (fun _ _ _ _=>(jbk q_ix (qv 1) (qv 0) (fun _ _=>rfl))))))))),?_⟩
 refine jbd fun R hR=>?_
 walk_at "ND"
 refine ⟨v,ps,ts,rfl,hw,wk,h9,fun rl rz H1 s1 erl prz=>?_⟩
 have hrl:=Paired.length prz
 have hr5:(jd3 ps ts).length ≤ 512:=jj1 h9
 subst hR
 refine jbd fun R hR=>?_
 walk_at "ND"
 refine jbr (Itl K rl) H1 (fun R2 hR2=>?_) (fun cl hcl=>jc3 (jd3 ps ts).length (fun j σ' Hd=>∃ w1,σ' = [w1,some v]∧Same H1 Hd∧Hd cl = some (.lst ((((jd3 ps ts).take j).map (jdu ps)).map V.int))) ⟨none,rfl,jai hcl _,ja1⟩ ?_ ?_)
 ·unfold jcu
  walk_at "ND"
  exact ⟨rl,rfl,⟨_,SqL.of erl⟩,hR2⟩
 ·rintro j σ' Hd hj ⟨w1,rfl,s9,edl⟩
  have z1:SqL K Hd rl rz:=SqL.of (s9 _ _ erl)
  have x1:rz[j]? = some (rz[j]'(by omega)):=List.getElem?_eq_getElem _
  refine ⟨⟨_,_,z1,x1⟩,?_⟩
  rintro y' H' ⟨rfl,hy⟩
  obtain ⟨s,hs,qs⟩:=jbi prz (hy _ z1)
  obtain ⟨ra,rfl,era⟩:=qs.same s9
  walk_at "ND"
  refine ⟨v,ra,ps,ts,s,rfl,(hw.same s1).same s9,by omega,era,fun H5 s5=>?_⟩
  walk_at "ND"
  refine ⟨_,s5 _ _ edl,?_,_,rfl,jbh (s9.trans s5) hcl,?_⟩
  ·rw [List.length_map,List.length_map,List.length_take]
   exact szl' (by omega)
  ·rw [ja1,jbn hs,List.map_append,List.map_append]
   rfl
 rintro σ' H2 ⟨w1,rfl,s2',ecl⟩
 refine ⟨⟨_,SqL.of (s2' _ _ erl),by omega⟩,?_⟩
 rw [List.take_length] at ecl
 have s2:=s1.trans s2'
 have erl2:=s2' _ _ erl
 have prz2:=LsRs.same s2' prz
 subst hR
 refine jbd fun R hR=>?_
 walk_at "ND"
 refine ⟨cl,_,rfl,ecl,by simpa using jp6,fun m m1 m2=>?_⟩
 have MO:jpr ((jd3 ps ts).map (jdu ps)) m:=⟨m1,m2⟩
 subst hR
 walk_at "ND"
 refine jbr (Itr 0 (jd3 ps ts).length) H2 (fun R2 hR2=>?_) (fun l hl=>jc3 (jd3 ps ts).length (fun i σ' Hd=>∃ w1 vs,σ' = [w1,some (.ref rl),some (.int m),some (.ref cl)]∧Same H2 Hd∧Hd l = some (.lst vs)∧LsRs Hd vs (((jd3 ps ts).take i).filter fun s=>decide (jdu ps s = m))∧∀ x ∈ vs,x ≠ .ref l) ⟨none,[],rfl,jai hl _,ja1,.nil,fun x hx=>by cases hx⟩ ?_ ?_)
 ·unfold jmn
  simp_all_arith [jbl,erl2]
  exact ⟨_,rfl,by omega,by omega,by rw [hrl]; simpa using hR2⟩
 ·rintro i σ' Hd hi ⟨w1,vs,rfl,s3,el,pv,hne⟩
  refine ⟨by show i < (jd3 ps ts).length; omega,?_⟩
  rintro y H' ⟨rfl,rfl⟩
  have x1:(jd3 ps ts)[i]? = some (jd3 ps ts)[i]:=List.getElem?_eq_getElem hi
  generalize (jd3 ps ts)[i] = s at x1
  obtain ⟨rv,hrv,prv⟩:=jcj prz2 x1
  obtain ⟨ra,rfl,era⟩:=prv.same s3
  have nra:ra ≠ l:=by
   obtain ⟨ra',e,q2⟩:=prv
   cases e
   exact ja6 q2 hl
  have ac:atI ((((jd3 ps ts)).map (jdu ps)).map V.int) (0 + (i:Int)) = some (.int (jdu ps s)):=by
   rw [Int.zero_add]
   refine jci ?_
   rw [List.getElem?_map,List.getElem?_map,x1]
   rfl
  have ar:atI rz (0 + (i:Int)) = some (.ref ra):=by rw [Int.zero_add]; exact jci hrv
  have ft:=jcx (f:=fun s=>decide (jdu ps s = m)) x1
  have hvl:=Paired.length pv
  have hfl:(((jd3 ps ts).take i).filter fun s=>decide (jdu ps s = m)).length ≤ 600:=Nat.le_trans (List.length_filter_le _ _) (by rw [List.length_take]; omega)
  simp_all_arith [jbl,s3 _ _ ecl,ac]
  by_cases c:jdu ps s = m
  ·simp only [c,decide_true,if_true] at ft ⊢
   simp_all_arith [jbl,s3 _ _ erl2,ar]
   refine ⟨_,el,szl' (by omega),_,vs ++ [.ref ra],rfl,jbh s3 hl,ja1,?_,?_⟩
   ·rw [ft]
    refine jc7 ?_ ⟨ra,rfl,by rw [jaj nra]; exact era⟩
    refine Paired.mapP (jgy pv) fun a b ⟨⟨x,e,q⟩,hm⟩=>⟨x,e,?_⟩
    rw [jaj (fun z=>hne a hm (by rw [e,z]))]
    exact q
   ·intro x hx
    rcases List.mem_append.mp hx with h' | h'
    ·exact hne x h'
    ·rw [List.mem_singleton.mp h']
     exact fun z=>nra (by cases z; rfl)
  ·simp only [c,decide_false,Bool.false_eq_true,if_false,List.append_nil] at ft ⊢
   exact ⟨_,_,rfl,s3,el,by rw [ft]; exact pv,hne⟩
 rintro σ' H3 ⟨w1,vs,rfl,s3,el,pv,_⟩
 refine ⟨by first | exact Nat.le_refl _ | exact Nat.lt_irrefl _ | rfl,?_⟩
 rw [List.take_length] at pv
 exact h l vs m H3 (s2.trans s3) el pv MO
end
end My
namespace My
open PySem L2
section
variable {P:Program} {w:World} {K:PySem.W.Frag} {mg:Str→Option Value} {base:Heap} {c1 c2 c3 c4:Tok} {C_Net C_NoWeb f_NoWeb:Addr} {dI:FuncData}
theorem lab_ex {ps:List (Int × Int)} (ts:List (Int × Int)) (h:Ends ps ts):∃ f,LabOk ps ts f:=by
 have go:∀ n:Nat,n ≤ ts.length→∃ f,LabOk ps (ts.take n) f:=fun n=>by
  induction n with
  | zero=>exact fun _=>⟨_,by rw [List.take_zero]; exact LabOk.none⟩
  | succ n ih =>
   intro hn
   obtain ⟨f,hf⟩:=ih (by omega)
   have e:ts[n]? = some ts[n]:=List.getElem?_eq_getElem (by omega)
   have hm:ts[n] ∈ ts:=List.getElem_mem _
   obtain ⟨a1,a2,a3⟩:=h _ hm
   rw [jbn e]
   have he:Ends ps (ts.take n):=fun t ht=>h t (List.mem_of_mem_take ht)
   by_cases c:f ts[n].1 ≤ f ts[n].2
   ·exact ⟨_,hf.put he a2 a3 a1 (u:=f ts[n].1) (v:=f ts[n].2) c (.inl ⟨rfl,rfl⟩)⟩
   ·exact ⟨_,hf.put he a2 a3 a1 (u:=f ts[n].2) (v:=f ts[n].1) (by omega) (.inr ⟨rfl,rfl⟩)⟩
 obtain ⟨f,hf⟩:=go ts.length (Nat.le_refl _)
 rw [List.take_length] at hf
 exact ⟨f,hf⟩
theorem jj3 {H:Hp}:∀ {xs:List V} {rs:List (List Int)},LsRs H xs rs→Reps H (rs.map fun r=>Dt.lst (r.map Dt.int)) xs
 | _,_,.nil=>by rw [List.map_nil,Reps]
 | _,_,.cons r t=>by
  obtain ⟨a,rfl,e⟩:=r
  rw [List.map_cons,Reps]
  exact ⟨_,_,rfl,(by rw [Rep]; exact ⟨a,_,rfl,e,jeb _⟩),jj3 t⟩
theorem ji6:∀ ns:List Int,jcq (ns.map Dt.int) ≤ 1
 | []=>by rw [List.map_nil,jcq]; omega
 | n :: r=>by
  rw [List.map_cons,jcq]
  have:=ji6 r
  have e:depP (Dt.int n) = 0:=rfl
  omega
theorem jlf:∀ rs:List (List Int),jcq (rs.map fun r=>Dt.lst (r.map Dt.int)) ≤ 3
 | []=>by rw [List.map_nil,jcq]; omega
 | n :: r=>by
  rw [List.map_cons,jcq,depP]
  have:=jlf r
  have:=ji6 n
  omega
def jp5 (K:PySem.W.Frag):Sp:=fun vs H Q _=>∃ a ns,vs = [.ref a]∧Scr K H a ns∧∀ H',Q (.bl true) H'
theorem sd01 (f:Int→Int) (col:Int→Bool) (n:Int):sdv f col n = 0 ∨ sdv f col n = 1:=by unfold sdv; split <;> simp
theorem jk8 {f:Int→Int} {col:Int→Bool} {ns:List Int} {n:Int} (h:n ∈ ns):n ∈ sdL f col ns 0 ↔ sdv f col n = 0:=by
 unfold sdL
 rw [List.mem_filter,decide_eq_true_eq]
 exact ⟨fun z=>z.2,fun z=>⟨h,z⟩⟩
theorem two_of {ps ts:List (Int × Int)} {f:Int→Int} {col:Int→Bool} (wk:WebOk ps ts) (lab:LabOk ps ts f) (hcol:Col ts col):Two ts (sdL f col (ps.map (·.1)) 0):=fun t ht=>by
 obtain ⟨m1,m2⟩:=jet wk t ht
 have hn:t.2 ∈ jc4 ts t.1:=(je9 fun t ht=>(wk.ends t ht).1).mpr (.inl ht)
 have:=jle lab hcol m1 m2 hn
 rw [jk8 m1,jk8 m2]
 rcases sd01 f col t.1 with e | e <;> omega
theorem Ask.all {ps:List (Int × Int)} {fs:List Int} {L:List (List Int)} {mo fe:List Int} (A:Ask ps fs L mo fe) {n:Int} (hn:n ∈ ps.map (·.1)):(L.filter fun s=>decide (n ∈ s)).length = L.length ↔ n ∈ mo∧n ∈ fe:=by
 rw [List.length_filter_eq_length_iff]
 constructor
 ·intro h
  exact ⟨of_decide_eq_true (h _ A.m),of_decide_eq_true (h _ A.f)⟩
 ·rintro ⟨h1,h2⟩ s hs
  refine decide_eq_true (Classical.byContradiction fun z=>?_)
  by_cases c:n ∈ fs
  ·exact (A.a s hs n hn c).2 z h2
  ·exact (A.b s hs n hn c).2 z h1
theorem Ask.none {ps:List (Int × Int)} {fs:List Int} {L:List (List Int)} {mo fe:List Int} (A:Ask ps fs L mo fe) {n:Int} (hn:n ∈ ps.map (·.1)):(L.filter fun s=>decide (n ∈ s)).length = 0 ↔ n ∉ mo∧n ∉ fe:=by
 rw [List.length_eq_zero_iff,List.filter_eq_nil_iff]
 constructor
 ·intro h
  exact ⟨fun z=>h _ A.m (decide_eq_true z),fun z=>h _ A.f (decide_eq_true z)⟩
 ·rintro ⟨h1,h2⟩ s hs z
  have z:=of_decide_eq_true z
  by_cases c:n ∈ fs
  ·exact h1 ((A.a s hs n hn c).1 z)
  ·exact h2 ((A.b s hs n hn c).1 z)
theorem jmf {f:Addr} {fd:FuncData}  (B:Blt mg) (D:DefAt K mg "_law_own" (top 42) ["_law_web"] f fd):FnOk P w K mg base CX0 1 f fd ["_law_web"] jqj:=by
 have sc:FnScope ["_law_web"] ["_law_web"] (jbc (top 42)):=⟨rfl,rfl,rfl,by decide +kernel,rfl,by decide +kernel,by decide +kernel⟩
 refine D.F.ok sc (fun vs H Q E h=>?_) (fun cdv A outer s H vs Q E hr h=>?_)
 ·obtain ⟨v,ps,ts,rfl,_⟩:=h
  rfl
 obtain ⟨v,ps,ts,rfl,hw,h⟩:=h
 obtain ⟨u,pa,ta,xs,ys,rfl,eu,ep,et,pp,pt⟩:=id hw
 have hu:=jcb hr
 have hu0:_ < PySem.cLine:=Nat.lt_of_succ_lt hu
 refine ⟨_,(jan (jbq (jd6 (ja0 (jcn jli rfl B.list PyProof.Rows.boot_list (ja0 (jbk q_ix (qv 0) jak (fun _ _=>rfl)) jah)) (ja0 (jcn jli rfl B.list PyProof.Rows.boot_list (ja0 (jbk q_ix (qv 0) jak (fun _ _=>rfl)) jah)) jah))))),?_⟩
 simp_all_arith [jbl,eu,ep,at0,at1]
 intro l1 h1
 have s1:Same H (upd H l1 (.lst xs)):=jai h1 _
 simp_all_arith [jbl,s1 _ _ eu,s1 _ _ et,at0,at1]
 intro l2 h2
 have s2:Same H (upd (upd H l1 (.lst xs)) l2 (.lst ys)):=s1.trans (jai h2 _)
 intro t h3
 have s3:Same (upd (upd H l1 (.lst xs)) l2 (.lst ys)) (upd (upd (upd H l1 (.lst xs)) l2 (.lst ys)) t (.tup [.ref l1,.ref l2])):=jai h3 _
 refine h _ _ (s2.trans s3) ⟨t,l1,l2,xs,ys,rfl,ja1,s3 _ _ (jai h2 _ _ _ ja1),s3 _ _ ja1,Prs.same (s2.trans s3) pp,Prs.same (s2.trans s3) pt⟩
theorem ok_law {f:Addr} {fd:FuncData} {f_law_begun:Addr} {d_law_begun:FuncData} {f_law_two:Addr} {d_law_two:FuncData} {f_law_sides:Addr} {d_law_sides:FuncData} {f_law_cheapest:Addr} {d_law_cheapest:FuncData} {f_law_own:Addr} {d_law_own:FuncData} {C_Net:Addr} {f_pairing_of:Addr} {d_pairing_of:FuncData} (B:Blt mg) (D:DefAt K mg "law" (top 50) ["_law_script"] f fd) (D_law_begun:DefAt K mg "_law_begun" (top 43) ["_law_script","_law_k"] f_law_begun d_law_begun) (G_law_begun:FnOk P w K mg base CX0 1 f_law_begun d_law_begun ["_law_script","_law_k"] (jnc K)) (D_law_two:DefAt K mg "_law_two" (top 45) ["_law_state","_law_most"] f_law_two d_law_two) (G_law_two:FnOk P w K mg base CX0 2 f_law_two d_law_two ["_law_state","_law_most"] spTwo) (D_law_sides:DefAt K mg "_law_sides" (top 46) ["_law_web"] f_law_sides d_law_sides) (G_law_sides:FnOk P w K mg base CX0 1 f_law_sides d_law_sides ["_law_web"] jlb) (D_law_cheapest:DefAt K mg "_law_cheapest" (top 49) ["_law_web"] f_law_cheapest d_law_cheapest) (G_law_cheapest:FnOk P w K mg base CX0 2 f_law_cheapest d_law_cheapest ["_law_web"] jnb) (D_law_own:DefAt K mg "_law_own" (top 42) ["_law_web"] f_law_own d_law_own) (G_law_own:FnOk P w K mg base CX0 1 f_law_own d_law_own ["_law_web"] jqj) (D_pairing_of:DefAt K mg "pairing_of" (top 40) ["web"] f_pairing_of d_pairing_of) (G_pairing_of:FnOk P w K mg base CX0 7 f_pairing_of d_pairing_of ["web"] (jn6 C_Net)):FnOk P w K mg base CX0 9 f fd ["_law_script"] (jp5 K):=by
 have sc:FnScope ["_law_script","_law_k","_law_web","_law_side","_law_cheapest_here","_law_most","_law_fewest","_law_dues","_law_some","_law_place","_law_price","_law_both","_law_having"] ["_law_script"] (jbc (top 50)):=⟨rfl,rfl,rfl,by decide +kernel,rfl,by decide +kernel,by decide +kernel⟩
 refine D.F.ok sc (fun vs H Q E h=>?_) (fun cdv A outer s H vs Q E hr h=>?_)
 ·obtain ⟨a,ns,rfl,_⟩:=h
  rfl
 obtain ⟨a,ns,rfl,hs,h⟩:=h
 have hu:=jcb hr
 have hu0:_ < PySem.cLine:=Nat.lt_of_succ_lt hu
 refine ⟨_,(ja5 (jca PassesOwn.never rfl (jdl rfl B.range (ja0 (jbp (q_max rfl) rfl B.max PyProof.Rows.boot_max (ja0 jak (ja0 (jbp (q_min rfl) rfl B.min PyProof.Rows.boot_min (ja0 (jbp jdn rfl B.len PySem.boot_len (ja0 (qv 0) jah)) (ja0 jak jah))) jah))) jah)) (jbb (i:=1) sc.nd rfl (Or.inl rfl)) (ja5 (jbe (i:=2) sc.nd rfl (Or.inl rfl) (jbg G_law_two (hr.mono (by decide)) rfl D_law_two.m D_law_two.F.kp D_law_two.b .nil jbt (ja0 (jbg G_law_begun (hr.mono (by decide)) rfl D_law_begun.m D_law_begun.F.kp D_law_begun.b .nil jbt (ja0 (qv 0) (ja0 (qv 1) jah))) (ja0 jak jah)))) (ja5 (jbe (i:=3) sc.nd rfl (Or.inl rfl) (jbg G_law_sides (hr.mono (by decide)) rfl D_law_sides.m D_law_sides.F.kp D_law_sides.b .nil jbt (ja0 (qv 2) jah))) (ja5 (jbe (i:=4) sc.nd rfl (Or.inl rfl) (jbg G_law_cheapest (hr.mono (by decide)) rfl D_law_cheapest.m D_law_cheapest.F.kp D_law_cheapest.b .nil jbt (ja0 (qv 2) jah))) (ja5 (jj5 (jbg G_pairing_of (hr.mono (by decide)) rfl D_pairing_of.m D_pairing_of.F.kp D_pairing_of.b .nil jbt (ja0 (jbg G_law_own (hr.mono (by decide)) rfl D_law_own.m D_law_own.F.kp D_law_own.b .nil jbt (ja0 (qv 2) jah)) jah)) (jcr (n:=3) rfl (jbf (jbb (i:=5) sc.nd rfl (Or.inl rfl)) (jbf (jbb (i:=6) sc.nd rfl (Or.inl rfl)) (jbf (jbb (i:=7) sc.nd rfl (Or.inl rfl)) jcc))))) (ja5 (jct (PW.pt (pw_or (jbw (jj7 hr.units) (qv 5) (qv 4) (by with_unfolding_all rfl)) (pw_or1 (jbw (jj7 hr.units) (qv 6) (qv 4) (by with_unfolding_all rfl))))) (jan (jbq jft)) jbu) (ja5 (jca PassesOwn.never rfl (jbx (qv 4)) (jbb (i:=8) sc.nd rfl (Or.inl rfl)) (jan (jca PassesOwn.never rfl (jbx (jbk q_ix (qv 2) jak (fun _ _=>rfl))) (jcr (n:=2) rfl (jbf (jbb (i:=9) sc.nd rfl (Or.inr rfl)) (jbf (jbb (i:=10) sc.nd rfl (Or.inl rfl)) jcc))) (ja5 (jbe (i:=11) sc.nd rfl (Or.inl rfl) (jcd (ja0 (qv 5) (ja0 (qv 6) jah)))) (ja5 (jct (jbw q_eq (jd4 hu (qv 3) (qv 9) (fun _ _=>rfl)) jak (jbv _)) (jan (jbe (i:=11) sc.nd rfl (Or.inl rfl) (jcd (ja0 (qv 6) (ja0 (qv 5) jah))))) jbu) (ja5 (jct (PW.pt (jfr (jbw jka (qv 9) (qv 8) (by with_unfolding_all rfl)) (jem (jbw je6 (qv 9) (jbk q_ix (qv 11) jak (fun _ _=>rfl)) (by with_unfolding_all rfl))))) (jan (jbq jft)) jbu) (jan (jct (PW.pt (jfr (jbw je6 (qv 9) (qv 8) (by with_unfolding_all rfl)) (jem (jbw jka (qv 9) (jbk q_ix (qv 11) jak (fun _ _=>rfl)) (by with_unfolding_all rfl))))) (jan (jbq jft)) jbu)))))))) (jan (jca PassesOwn.never rfl (jbx (jbk q_ix (qv 2) jak (fun _ _=>rfl))) (jcr (n:=2) rfl (jbf (jbb (i:=9) sc.nd rfl (Or.inr rfl)) (jbf (jbb (i:=10) sc.nd rfl (Or.inl rfl)) jcc))) (ja5 (jbe (i:=12) sc.nd rfl (Or.inl rfl) (jbp jfp rfl B.len PySem.boot_len (ja0 (jcg (CpScope.of (N:=["_law_some","_law_place"]) (src:=[none,some 9]) (by rfl)) rfl (jbx (qv 4)) (fun _ _ _ _=>(jbb (i:=0) (jbj (l:=["_law_some","_law_place"]) (by rfl)) rfl (Or.inl rfl))) (fun _ _ _ _=>(jd5 (jbw jka (qv 1) (qv 0) (by with_unfolding_all rfl)))) (fun _ _ _ _=>(qv 0))) jah))) (ja5 (jct (jbw q_ne (jch q_eq (qv 12) (jbp jfp rfl B.len PySem.boot_len (ja0 (qv 4) jah)) (jbv _)) (jfq (jch jka (qv 9) (qv 5) (by with_unfolding_all rfl)) (jex (jch jka (qv 9) (qv 6) (by with_unfolding_all rfl)))) (jbv _)) (jan (jbq jft)) jbu) (jan (jct (jbw q_ne (jch q_eq (qv 12) jak (jbv _)) (jfq (jch je6 (qv 9) (qv 5) (by with_unfolding_all rfl)) (jex (jch je6 (qv 9) (qv 6) (by with_unfolding_all rfl)))) (jbv _)) (jan (jbq jft)) jbu))))))))))))) (jan (jbq jft))),?_⟩
 refine jbd fun R hR=>?_
 obtain ⟨N,hN,hN2⟩:∃ N:Nat,N = (if (1:Int) < (if (8:Int) < (ns.length:Int) then 8 else (ns.length:Int)) then (if (8:Int) < (ns.length:Int) then 8 else (ns.length:Int)) else 1).toNat∧N < 70:=⟨_,rfl,by split <;> split <;> omega⟩
 refine jbo (Itr 0 N) H (fun R' hR'=>?_) (jec (n:=N) (fun i σ H1=>∃ v1 v2 v3 v4 v5 v6 v7 v8 v9 v10 v11 v12,σ = [some (.ref a),v1,v2,v3,v4,v5,v6,v7,v8,v9,v10,v11,v12]∧Scr K H1 a ns) ⟨none,none,none,none,none,none,none,none,none,none,none,none,rfl,hs⟩ ?_ ?_)
 ·unfold jmn
  walk_at "ND"
  refine ⟨a,_,rfl,.inl hs.sq,?_⟩
  simp_all_arith [List.length_map]
  refine ⟨_,rfl,?_,?_,?_⟩
  ·split <;> split <;> omega
  ·split <;> split <;> omega
  ·rw [← hN]
   exact hR'
 ·rintro i σ H1 hi ⟨v1,v2,v3,v4,v5,v6,v7,v8,v9,v10,v11,v12,rfl,hs1⟩
  simp only [jal,List.set_cons_zero,List.set_cons_succ]
  refine jbd fun R9 hR9=>?_
  walk_at "ND"
  refine ⟨a,0 + (i:Int),ns,rfl,hs1,by omega,by omega,fun st o hst so=>?_⟩
  have s2:=jai hst o
  have e2:upd H1 st o st = some o:=ja1
  have hs2:=hs1.tups s2.tups
  generalize upd H1 st o = H2 at s2 e2 hs2
  walk_at "ND"
  refine ⟨st,o,8,rfl,e2,so,by decide,by decide,fun v H3 o3 ps ts col b3 e3 so3 W wk tco h8=>?_⟩
  have hs3:=hs2.tups (b3.tups e2 so.imm)
  have hen:=wk.ends
  obtain ⟨fl,lab⟩:=lab_ex ts hen
  have hcol:=tco.col fun t ht=>(hen t ht).1
  have hnd:=wk.p.nodup
  clear hs1 hs2 b3 e2 e3 s2 so so3 hst tco
  subst hR9
  refine jbd fun R9 hR9=>?_
  walk_at "ND"
  refine ⟨v,ps,ts,fl,col,rfl,W,wk,lab,hcol,fun d H4 ks hd s4 ed ndk hks=>?_⟩
  have W4:=W.same s4
  have hs4:=hs3.tups s4.tups
  subst hR9
  refine jbd fun R9 hR9=>?_
  walk_at "ND"
  refine ⟨v,ps,ts,rfl,W4,wk,by omega,fun cl zs m H5 s5 ecl pz MO=>?_⟩
  have W5:=W4.same s5
  have hs5:=hs4.tups s5.tups
  have ed5:=s5 _ _ ed
  subst hR9
  refine jbd fun R9 hR9=>?_
  walk_at "ND"
  refine ⟨v,ps,ts,rfl,W5,fun v' H6 s6 W6'=>?_⟩
  walk_at "ND"
  refine ⟨v',ps,ts,fl,col,rfl,W6',wk,lab,hcol,fun t0 m1 m2 l9 us r nr nt H7 s7 n0 n1 n2 n3 n12 n13 n23 et em1 em2 el9 pu rst=>?_⟩
  have s67:=s6.trans s7
  have two:=two_of wk lab hcol
  have AK:=(bip_of wk two rst).ask wk two MO
  have W7:=W5.same s67
  have hs7:=hs5.tups s67.tups
  have ed7:=s67 _ _ ed5
  have ecl7:=s67 _ _ ecl
  have pz7:=LsRs.same s67 pz
  have hL5:(jha ps ts m).length ≤ 512:=Nat.le_trans (List.length_filter_le _ _) (jj1 (by omega))
  have fsm:∀ p ∈ ps,p.1 ∈ sdL fl col (ps.map (·.1)) 0 ↔ sdv fl col p.1 = 0:=fun p hp=>jk8 (List.mem_map.mpr ⟨p,hp,rfl⟩)
  simp_all_arith [jbl,et]
  clear hs3 hs4 hs5 W W4 W5 ed ed5 ecl pz W6' s4 s5 s6 s7 s67 n0 n1 n2 n3 n12 n13 n23 pu el9 us rst two MO et
  generalize cutS ps (sdL fl col (ps.map (·.1)) 0) nr = mo at em1 AK
  generalize cutS ps (sdL fl col (ps.map (·.1)) 0) nt = fe at em2 AK
  generalize sdL fl col (ps.map (·.1)) 0 = fs at AK fsm
  generalize jha ps ts m = L at pz7 AK hL5
  have hzl:=Paired.length pz7
  have inL:∀ (b:Addr) (s:List Int),H7 b = some (.lst (s.map V.int))→s ∈ L→∃ (d0:Dt) (ds:List Dt),Rep H7 d0 (.ref b)∧Reps H7 ds zs∧jcq ds ≤ 3∧depP d0 ≤ 3∧(ds.any fun c=>eqP c d0) = true:=fun b s eb hs'=>by
   refine ⟨.lst (s.map Dt.int),L.map (fun r=>Dt.lst (r.map Dt.int)),by rw [Rep]; exact ⟨b,_,rfl,eb,jeb _⟩,jj3 pz7,jlf L,by rw [depP]; have:=ji6 s; omega,?_⟩
   exact List.any_eq_true.mpr ⟨_,List.mem_map.mpr ⟨_,hs',rfl⟩,jed _⟩
  subst hR9
  refine jbd fun R9 hR9=>?_
  walk_at "ND"
  obtain ⟨d0,ds,r1,r2,r3,r4,r5⟩:=inL m1 mo em1 AK.m
  refine ⟨d0,cl,zs,ds,r1,rfl,ecl7,r2,by omega,?_⟩
  rw [r5]
  walk_at "ND"
  obtain ⟨d0,ds,r1,r2,r3,r4,r5⟩:=inL m2 fe em2 AK.f
  refine ⟨d0,cl,zs,ds,r1,rfl,ecl7,r2,by omega,?_⟩
  rw [r5]
  walk_at "ND"
  clear inL
  subst hR9
  refine jbd fun R9 hR9=>?_
  obtain ⟨u,pa,ta,xs,ys,rfl,eu,epa,eta,hxs,hys⟩:=id W7
  have hxl:=Paired.length hxs
  have hpl:=wk.pl
  refine jbo (Itl K cl) H7 (fun R' hR'=>?_) (jc9 (K:=K) (a:=cl) (xs:=zs) (fun k σ Hc=>∃ w8 w9 w10 w11 w12,σ = [some (.ref a),some (.int (0 + (i:Int))),some (.ref u),some (.ref d),some (.ref cl),some (.ref m1),some (.ref m2),some (.ref l9),w8,w9,w10,w11,w12]∧Same H7 Hc) ⟨_,_,_,_,_,rfl,fun _ _ q=>q⟩ (fun k σ Hc _ ⟨_,_,_,_,_,_,s8⟩=>SqL.of (s8 _ _ ecl7)) ?_ ?_)
  ·unfold jcu
   walk_at "ND"
   exact ⟨cl,rfl,⟨_,SqL.of ecl7⟩,hR'⟩
  ·rintro k z σ Hc hz ⟨w8,w9,w10,w11,w12,rfl,s8⟩
   obtain ⟨s,hs',qs⟩:=jbi pz7 hz
   obtain ⟨ra,rfl,era⟩:=qs.same s8
   have sL:=List.mem_of_getElem? hs'
   refine jbo (Itl K pa) Hc (fun R' hR'=>?_) (jc9 (K:=K) (a:=pa) (xs:=xs) (fun j σ Hd=>∃ w9 w10 w11 w12,σ = [some (.ref a),some (.int (0 + (i:Int))),some (.ref u),some (.ref d),some (.ref cl),some (.ref m1),some (.ref m2),some (.ref l9),some (.ref ra),w9,w10,w11,w12]∧Same Hc Hd) ⟨_,_,_,_,rfl,fun _ _ q=>q⟩ (fun j σ Hd _ ⟨_,_,_,_,_,s9⟩=>SqL.of (s9 _ _ (s8 _ _ epa))) ?_ ?_)
   ·unfold jcu
    simp_all_arith [jbl,s8 _ _ eu,at0]
    exact ⟨pa,rfl,⟨_,SqL.of (s8 _ _ epa)⟩,hR'⟩
   ·rintro j y σ Hd hj ⟨w9,w10,w11,w12,rfl,s9⟩
    have s89:=s8.trans s9
    obtain ⟨p,hp,pq⟩:=jbi hxs hj
    obtain ⟨b,rfl,hb⟩:=pq.same s89
    have pin:=List.mem_of_getElem? hp
    have pm:p.1 ∈ ps.map (·.1):=List.mem_map.mpr ⟨p,pin,rfl⟩
    have sv:=jne (f:=fl) (col:=col) ndk (hks p pin)
    have fsp:=fsm p pin
    simp_all_arith [hb]
    intro b1 hb1
    have q1:=jai hb1 (.lst [.ref m1,.ref m2])
    have eb1:upd Hd b1 (.lst [.ref m1,.ref m2]) b1 = some (.lst [.ref m1,.ref m2]):=ja1
    generalize upd Hd b1 (.lst [.ref m1,.ref m2]) = HA at q1 eb1
    have s9A:=s9.trans q1
    have s7A:=s8.trans s9A
    simp_all_arith [s7A _ _ ed7,sv]
    by_cases c:sdv fl col p.1 = 1
    ·have nf:p.1 ∉ fs:=fun z=>by have:=fsp.mp z; omega
     rw [decide_eq_true c,if_pos rfl]
     walk_at "ND"
     intro b2 hb2
     have q2:=jai hb2 (.lst [.ref m2,.ref m1])
     have eb2:upd HA b2 (.lst [.ref m2,.ref m1]) b2 = some (.lst [.ref m2,.ref m1]):=ja1
     generalize upd HA b2 (.lst [.ref m2,.ref m1]) = HB at q2 eb2
     have sB:=s9A.trans q2
     have s7B:=s8.trans sB
     obtain ⟨KA,KB⟩:=AK.b s sL p.1 pm nf
     have em1B:=s7B _ _ em1
     have em2B:=s7B _ _ em2
     simp_all_arith [jbl,eb2,at0,at1]
     by_cases c1:p.1 ∈ s
     ·have k:=KA c1
      simp_all_arith [sB _ _ era,jbl,jce,flat_ints,jcz,c1,decide_true]
      simp_all_arith [jbl,eb2,at0,at1]
      simp_all_arith [em2B,em1B,jce,flat_ints,jcz,k,c1,decide_true]
      exact ⟨_,_,_,_,rfl,sB⟩
     ·have k:=KB c1
      simp_all_arith [sB _ _ era,jbl,jce,flat_ints,jcz,c1,decide_false]
      simp_all_arith [jbl,eb2,at0,at1]
      simp_all_arith [em2B,em1B,jce,flat_ints,jcz,k,c1,decide_false]
      exact ⟨_,_,_,_,rfl,sB⟩
    ·have nf:p.1 ∈ fs:=fsp.mpr (by rcases sd01 fl col p.1 with e | e; exact e; exact absurd e c)
     rw [decide_eq_false c,if_neg (by decide)]
     obtain ⟨KA,KB⟩:=AK.a s sL p.1 pm nf
     have em1A:=s7A _ _ em1
     have em2A:=s7A _ _ em2
     simp_all_arith [jbl,eb1,at0,at1]
     by_cases c1:p.1 ∈ s
     ·have k:=KA c1
      simp_all_arith [s9A _ _ era,jbl,jce,flat_ints,jcz,c1,decide_true]
      simp_all_arith [jbl,eb1,at0,at1]
      simp_all_arith [em1A,em2A,jce,flat_ints,jcz,k,c1,decide_true]
      exact ⟨_,_,_,_,rfl,s9A⟩
     ·have k:=KB c1
      simp_all_arith [s9A _ _ era,jbl,jce,flat_ints,jcz,c1,decide_false]
      simp_all_arith [jbl,eb1,at0,at1]
      simp_all_arith [em1A,em2A,jce,flat_ints,jcz,k,c1,decide_false]
      exact ⟨_,_,_,_,rfl,s9A⟩
   ·rintro σ Hd ⟨w9,w10,w11,w12,rfl,s9⟩
    exact ⟨_,_,_,_,_,rfl,s8.trans s9⟩
  rintro σ H8 ⟨w8,w9,w10,w11,w12,rfl,s8⟩
  refine (?_:R9 _ _ _)
  subst hR9
  refine jbo (Itl K pa) H8 (fun R' hR'=>?_) (jc9 (K:=K) (a:=pa) (xs:=xs) (fun j σ Hd=>∃ w8 w9 w10 w11 w12,σ = [some (.ref a),some (.int (0 + (i:Int))),some (.ref u),some (.ref d),some (.ref cl),some (.ref m1),some (.ref m2),some (.ref l9),w8,w9,w10,w11,w12]∧Same H7 Hd) ⟨_,_,_,_,_,rfl,s8⟩ (fun j σ Hd _ ⟨_,_,_,_,_,_,s9⟩=>SqL.of (s9 _ _ epa)) ?_ ?_)
  ·unfold jcu
   simp_all_arith [jbl,s8 _ _ eu,at0]
   exact ⟨pa,rfl,⟨_,SqL.of (s8 _ _ epa)⟩,hR'⟩
  ·rintro j y σ Hd hj ⟨w8,w9,w10,w11,w12,rfl,s9⟩
   obtain ⟨p,hp,pq⟩:=jbi hxs hj
   obtain ⟨b,rfl,hb⟩:=pq.same s9
   have pm:p.1 ∈ ps.map (·.1):=List.mem_map.mpr ⟨p,List.mem_of_getElem? hp,rfl⟩
   have ask1:=AK.all pm
   have ask2:=AK.none pm
   simp_all_arith [hb]
   refine jbr (Itl K cl) Hd (fun R2 hR2=>?_) (fun z hz=>jc3 L.length (fun k σ' Hc=>∃ w1 ws,σ' = [w1,some (.int p.1)]∧Same Hd Hc∧Hc z = some (.lst ws)∧ws.length = ((L.take k).filter fun s=>decide (p.1 ∈ s)).length) ⟨none,[],rfl,jai hz _,ja1,by simp⟩ ?_ ?_)
   ·unfold jcu
    walk_at "ND"
    exact ⟨cl,rfl,⟨_,SqL.of (s9 _ _ ecl7)⟩,hR2⟩
   ·rintro k σ' Hc hk ⟨w1,ws,rfl,sQ,ez,hwl⟩
    have x1:L[k]? = some L[k]:=List.getElem?_eq_getElem hk
    obtain ⟨rv,hrv,prv⟩:=jcj pz7 x1
    obtain ⟨ra,rfl,era⟩:=prv.same (s9.trans sQ)
    have z1:SqL K Hc cl zs:=SqL.of (sQ _ _ (s9 _ _ ecl7))
    refine ⟨⟨_,_,z1,hrv⟩,?_⟩
    rintro y H' ⟨rfl,hy⟩
    have:=hy _ z1
    rw [hrv] at this
    cases this
    generalize L[k] = s at x1 era
    have ft:=jcx (f:=fun s:List Int=>decide (p.1 ∈ s)) x1
    have hfl:((L.take k).filter fun s=>decide (p.1 ∈ s)).length ≤ 600:=Nat.le_trans (List.length_filter_le _ _) (by rw [List.length_take]; omega)
    simp_all_arith [jbl,era,jce,flat_ints,jcz]
    by_cases c:p.1 ∈ s
    ·simp only [c,decide_true,if_true] at ft ⊢
     refine ⟨_,ez,szl' (by omega),_,ws ++ [.ref ra],rfl,jbh sQ hz,ja1,?_⟩
     rw [ft,List.length_append,List.length_append,hwl]
     rfl
    ·simp only [c,decide_false,Bool.false_eq_true,if_false,List.append_nil] at ft ⊢
     exact ⟨_,_,rfl,sQ,ez,by rw [ft]; exact hwl⟩
   rintro σ' HA ⟨w1,ws,rfl,sQ,ez,hwl⟩
   refine ⟨⟨_,SqL.of (sQ _ _ (s9 _ _ ecl7)),by omega⟩,?_⟩
   rw [List.take_length] at hwl
   have s9A:=s9.trans sQ
   have em1A:=s9A _ _ em1
   have em2A:=s9A _ _ em2
   simp_all_arith [jbl,ez,s9A _ _ ecl7,em1A,em2A,jce,flat_ints,jcz]
   rw [hwl,hzl]
   clear hwl
   generalize (L.filter fun s=>decide (p.1 ∈ s)).length = hv at ask1 ask2
   have a1:((hv:Int) = (L.length:Int)) = (p.1 ∈ mo∧p.1 ∈ fe):=propext ⟨fun z=>ask1.mp (by omega),fun z=>by have:=ask1.mpr z; omega⟩
   have a2:((hv:Int) = 0) = (p.1 ∉ mo∧p.1 ∉ fe):=propext ⟨fun z=>ask2.mp (by omega),fun z=>by have:=ask2.mpr z; omega⟩
   by_cases c1:p.1 ∈ mo <;> by_cases c2:p.1 ∈ fe
   all_goals
    simp only [a1,a2,c1,c2,and_self,and_true,and_false,true_and,false_and,not_true_eq_false,not_false_eq_true,decide_true,decide_false,Bool.not_true,Bool.not_false,Bool.false_eq_true,if_true,if_false,reduceIte]
    exact ⟨_,_,_,_,_,rfl,s9A⟩
  ·rintro σ Hd ⟨w8,w9,w10,w11,w12,rfl,s9⟩
   exact ⟨_,_,_,_,_,_,_,_,_,_,_,_,rfl,hs7.tups s9.tups⟩
 ·rintro σ H1 ⟨v1,v2,v3,v4,v5,v6,v7,v8,v9,v10,v11,v12,rfl,hs1⟩
  subst hR
  walk_at "ND"
  exact h _
end
end My
set_option autoImplicit true
namespace My
open PySem L2
abbrev aT (K:PySem.W.Frag) (x:Str) (f:Addr):Prop:=PySem.W.nsIn K mainGlobals x = some (some (.ref f))
abbrev lT (K:PySem.W.Frag) (x q:Str) (st:Stmt) (f:Addr) (oc:Value) (od an:Option Addr) (sl:Array (Option Value)) (kV dc pm cd ct:Value):Prop:=K.lookup f = some ⟨oc,od,.func (PySem.W.fnOf x q (jdm st) (jdi st) (jbc st) .none kV dc pm an cd ct),sl⟩
abbrev cT (K:PySem.W.Frag) (cd:Value) (x:Str):Prop:=PySem.W.codeIn K cd x = true
abbrev kT (K:PySem.W.Frag) (f:Addr):Prop:=PySem.W.keepIn K (.ref f) = true
abbrev zT (K:PySem.W.Frag) (x:Str):Prop:=PySem.W.nsIn K mainGlobals x = some none
theorem dmk {K:PySem.W.Frag} {h:Heap} {mg:Str→Option Value} (X:K.In h) (G:h.Ns mainGlobals mg) {x:Str} {st:Stmt} {f:Addr} {oc:Value} {od an:Option Addr} {sl:Array (Option Value)} {kV dc pm cd ct:Value} (a:aT K x f) (l:lT K x x st f oc od an sl kV dc pm cd ct) (c:cT K cd x) (k:kT K f) (ps:List Str)
  (b:jei K (PySem.W.fnOf x x (jdm st) (jdi st) (jbc st) .none kV dc pm an cd ct) ps []):DefAt K mg x st ps f (PySem.W.fnOf x x (jdm st) (jdi st) (jbc st) .none kV dc pm an cd ct):=⟨jbm l c k,b,PySem.W.mg_of X G a⟩
theorem all_mk {l:PySem.W.OpenLaw} {w:World} {K:PySem.W.Frag} {h:Heap} {mg:Str→Option Value} {fa:Addr} (X:K.In h) (G:h.Ns mainGlobals mg) (hfa:mg "law" = some (.ref fa)) (a0:aT K "is_whole" f0) (l0:lT K "is_whole" "is_whole" (top 11) f0 oc0 od0 an0 sq0 kV0 dc0 pm0 cd0 ct0) (g0:cT K cd0 "is_whole") (k0:kT K f0) (a1:aT K "is_tuple_of" f1) (l1:lT K "is_tuple_of" "is_tuple_of" (top 12) f1 oc1 od1 an1 sq1 kV1 dc1 pm1 cd1 ct1) (g1:cT K cd1 "is_tuple_of") (k1:kT K f1) (a2:aT K "is_pair_of_wholes" f2) (l2:lT K "is_pair_of_wholes" "is_pair_of_wholes" (top 13) f2 oc2 od2 an2 sq2 kV2 dc2 pm2 cd2 ct2) (g2:cT K cd2 "is_pair_of_wholes") (k2:kT K f2) (a3:aT K "is_list_up_to" f3) (l3:lT K "is_list_up_to" "is_list_up_to" (top 14) f3 oc3 od3 an3 sq3 kV3 dc3 pm3 cd3 ct3) (g3:cT K cd3 "is_list_up_to") (k3:kT K f3) (a4:aT K "marked" f4) (l4:lT K "marked" "marked" (top 15) f4 oc4 od4 an4 sq4 kV4 dc4 pm4 cd4 ct4) (g4:cT K cd4 "marked") (k4:kT K f4) (a5:aT K "place_stands" f5) (l5:lT K "place_stands" "place_stands" (top 21) f5 oc5 od5 an5 sq5 kV5 dc5 pm5 cd5 ct5) (g5:cT K cd5 "place_stands") (k5:kT K f5) (a6:aT K "tie_stands" f6) (l6:lT K "tie_stands" "tie_stands" (top 22) f6 oc6 od6 an6 sq6 kV6 dc6 pm6 cd6 ct6) (g6:cT K cd6 "tie_stands") (k6:kT K f6) (a7:aT K "look_at_places" f7) (l7:lT K "look_at_places" "look_at_places" (top 23) f7 oc7 od7 an7 sq7 kV7 dc7 pm7 cd7 ct7) (g7:cT K cd7 "look_at_places") (k7:kT K f7) (a8:aT K "look_at_ties" f8) (l8:lT K "look_at_ties" "look_at_ties" (top 24) f8 oc8 od8 an8 sq8 kV8 dc8 pm8 cd8 ct8) (g8:cT K cd8 "look_at_ties") (k8:kT K f8) (a9:aT K "look_at_web" f9) (l9:lT K "look_at_web" "look_at_web" (top 25) f9 oc9 od9 an9 sq9 kV9 dc9 pm9 cd9 ct9) (g9:cT K cd9 "look_at_web") (k9:kT K f9) (a10:aT K "nears_in" f10) (l10:lT K "nears_in" "nears_in" (top 26) f10 oc10 od10 an10 sq10 kV10 dc10 pm10 cd10 ct10) (g10:cT K cd10 "nears_in") (k10:kT K f10) (a11:aT K "met_from" f11) (l11:lT K "met_from" "met_from" (top 28) f11 oc11 od11 an11 sq11 kV11 dc11 pm11 cd11 ct11) (g11:cT K cd11 "met_from") (k11:kT K f11) (a12:aT K "levels_by" f12) (l12:lT K "levels_by" "levels_by" (top 29) f12 oc12 od12 an12 sq12 kV12 dc12 pm12 cd12 ct12) (g12:cT K cd12 "levels_by") (k12:kT K f12) (a13:aT K "odd_ring_from" f13) (l13:lT K "odd_ring_from" "odd_ring_from" (top 32) f13 oc13 od13 an13 sq13 kV13 dc13 pm13 cd13 ct13) (g13:cT K cd13 "odd_ring_from") (k13:kT K f13) (a14:aT K "sides_of" f14) (l14:lT K "sides_of" "sides_of" (top 34) f14 oc14 od14 an14 sq14 kV14 dc14 pm14 cd14 ct14) (g14:cT K cd14 "sides_of") (k14:kT K f14) (a15:aT K "net_across" f15) (l15:lT K "net_across" "net_across" (top 36) f15 oc15 od15 an15 sq15 kV15 dc15 pm15 cd15 ct15) (g15:cT K cd15 "net_across") (k15:kT K f15) (a16:aT K "spots_of" f16) (l16:lT K "spots_of" "spots_of" (top 37) f16 oc16 od16 an16 sq16 kV16 dc16 pm16 cd16 ct16) (g16:cT K cd16 "spots_of") (k16:kT K f16) (a17:aT K "set_of_cut" f17) (l17:lT K "set_of_cut" "set_of_cut" (top 38) f17 oc17 od17 an17 sq17 kV17 dc17 pm17 cd17 ct17) (g17:cT K cd17 "set_of_cut") (k17:kT K f17) (a18:aT K "even_dues" f18) (l18:lT K "even_dues" "even_dues" (top 39) f18 oc18 od18 an18 sq18 kV18 dc18 pm18 cd18 ct18) (g18:cT K cd18 "even_dues") (k18:kT K f18) (a19:aT K "pairing_of" f19) (l19:lT K "pairing_of" "pairing_of" (top 40) f19 oc19 od19 an19 sq19 kV19 dc19 pm19 cd19 ct19) (g19:cT K cd19 "pairing_of") (k19:kT K f19) (a20:aT K "_law_own" f20) (l20:lT K "_law_own" "_law_own" (top 42) f20 oc20 od20 an20 sq20 kV20 dc20 pm20 cd20 ct20) (g20:cT K cd20 "_law_own") (k20:kT K f20) (a21:aT K "_law_begun" f21) (l21:lT K "_law_begun" "_law_begun" (top 43) f21 oc21 od21 an21 sq21 kV21 dc21 pm21 cd21 ct21) (g21:cT K cd21 "_law_begun") (k21:kT K f21) (a22:aT K "_law_take" f22) (l22:lT K "_law_take" "_law_take" (top 44) f22 oc22 od22 an22 sq22 kV22 dc22 pm22 cd22 ct22) (g22:cT K cd22 "_law_take") (k22:kT K f22) (a23:aT K "_law_two" f23) (l23:lT K "_law_two" "_law_two" (top 45) f23 oc23 od23 an23 sq23 kV23 dc23 pm23 cd23 ct23) (g23:cT K cd23 "_law_two") (k23:kT K f23) (a24:aT K "_law_sides" f24) (l24:lT K "_law_sides" "_law_sides" (top 46) f24 oc24 od24 an24 sq24 kV24 dc24 pm24 cd24 ct24) (g24:cT K cd24 "_law_sides") (k24:kT K f24) (a25:aT K "_law_sets" f25) (l25:lT K "_law_sets" "_law_sets" (top 47) f25 oc25 od25 an25 sq25 kV25 dc25 pm25 cd25 ct25) (g25:cT K cd25 "_law_sets") (k25:kT K f25) (a26:aT K "_law_cost" f26) (l26:lT K "_law_cost" "_law_cost" (top 48) f26 oc26 od26 an26 sq26 kV26 dc26 pm26 cd26 ct26) (g26:cT K cd26 "_law_cost") (k26:kT K f26) (a27:aT K "_law_cheapest" f27) (l27:lT K "_law_cheapest" "_law_cheapest" (top 49) f27 oc27 od27 an27 sq27 kV27 dc27 pm27 cd27 ct27) (g27:cT K cd27 "_law_cheapest") (k27:kT K f27) (a28:aT K "law" f28) (l28:lT K "law" "law" (top 50) f28 oc28 od28 an28 sq28 kV28 dc28 pm28 cd28 ct28) (g28:cT K cd28 "law") (k28:kT K f28) (z_len:zT K "len") (z_isinstance:zT K "isinstance") (z_all:zT K "all") (z_min:zT K "min") (z_list:zT K "list") (z_dict:zT K "dict") (z_int:zT K "int") (z_bool:zT K "bool") (z_str:zT K "str") (z_tuple:zT K "tuple") (z_range:zT K "range") (z_enumerate:zT K "enumerate") (z_zip:zT K "zip") (z_max:zT K "max") (z_any:zT K "any") (z_sum:zT K "sum") (z_sorted:zT K "sorted") (n_MOST_PLACES:PySem.W.nsIn K mainGlobals "MOST_PLACES" = some (some (.int 40 c1))) (n_MOST_TIES:PySem.W.nsIn K mainGlobals "MOST_TIES" = some (some (.int 120 c2))) (n_LAST_PLACE:PySem.W.nsIn K mainGlobals "LAST_PLACE" = some (some (.int 999 c3))) (n_MOST_PRICE:PySem.W.nsIn K mainGlobals "MOST_PRICE" = some (some (.int 1000000000000 c4))) (aN:aT K "Net" C_Net) (pgN:PySem.W.plainGet K C_Net Str.empty = true) (hdN:PySem.W.hasDictIn K C_Net = true) (poN:PySem.W.plainOver K C_Net = true) (saN:PySem.W.findIn K (.ref C_Net) "__setattr__" = some (some (.builtin "object.__setattr__"))) (mkN:PySem.W.makesIn K C_Net = true) (kcN:kT K C_Net) (n_ways_from:PySem.W.findIn K (.ref C_Net) "ways_from" = some none) (n_heads:PySem.W.findIn K (.ref C_Net) "heads" = some none) (n_rooms:PySem.W.findIn K (.ref C_Net) "rooms" = some none) (fm0:PySem.W.findIn K (.ref C_Net) "__init__" = some (some (.ref m0))) (im0:PySem.W.isFn K (.ref m0) = true) (lm0:lT K "__init__" "Net.__init__" (meth 9 0) m0 ocm0 odm0 anm0 sqm0 kVm0 dcm0 pmm0 cdm0 ctm0) (gm0:cT K cdm0 "Net.__init__") (km0:kT K m0) (fm1:PySem.W.findIn K (.ref C_Net) "put_way" = some (some (.ref m1))) (im1:PySem.W.isFn K (.ref m1) = true) (lm1:lT K "put_way" "Net.put_way" (meth 9 1) m1 ocm1 odm1 anm1 sqm1 kVm1 dcm1 pmm1 cdm1 ctm1) (gm1:cT K cdm1 "Net.put_way") (km1:kT K m1) (fm2:PySem.W.findIn K (.ref C_Net) "fill" = some (some (.ref m2))) (im2:PySem.W.isFn K (.ref m2) = true) (lm2:lT K "fill" "Net.fill" (meth 9 2) m2 ocm2 odm2 anm2 sqm2 kVm2 dcm2 pmm2 cdm2 ctm2) (gm2:cT K cdm2 "Net.fill") (km2:kT K m2) (fm3:PySem.W.findIn K (.ref C_Net) "shortest" = some (some (.ref m3))) (im3:PySem.W.isFn K (.ref m3) = true) (lm3:lT K "shortest" "Net.shortest" (meth 9 3) m3 ocm3 odm3 anm3 sqm3 kVm3 dcm3 pmm3 cdm3 ctm3) (gm3:cT K cdm3 "Net.shortest") (km3:kT K m3) (fm4:PySem.W.findIn K (.ref C_Net) "spread" = some (some (.ref m4))) (im4:PySem.W.isFn K (.ref m4) = true) (lm4:lT K "spread" "Net.spread" (meth 9 4) m4 ocm4 odm4 anm4 sqm4 kVm4 dcm4 pmm4 cdm4 ctm4) (gm4:cT K cdm4 "Net.spread") (km4:kT K m4) (fm5:PySem.W.findIn K (.ref C_Net) "push" = some (some (.ref m5))) (im5:PySem.W.isFn K (.ref m5) = true) (lm5:lT K "push" "Net.push" (meth 9 5) m5 ocm5 odm5 anm5 sqm5 kVm5 dcm5 pmm5 cdm5 ctm5) (gm5:cT K cdm5 "Net.push") (km5:kT K m5) (fm6:PySem.W.findIn K (.ref C_Net) "flows" = some (some (.ref m6))) (im6:PySem.W.isFn K (.ref m6) = true) (lm6:lT K "flows" "Net.flows" (meth 9 6) m6 ocm6 odm6 anm6 sqm6 kVm6 dcm6 pmm6 cdm6 ctm6) (gm6:cT K cdm6 "Net.flows") (km6:kT K m6) (fm7:PySem.W.findIn K (.ref C_Net) "reached_from" = some (some (.ref m7))) (im7:PySem.W.isFn K (.ref m7) = true) (lm7:lT K "reached_from" "Net.reached_from" (meth 9 7) m7 ocm7 odm7 anm7 sqm7 kVm7 dcm7 pmm7 cdm7 ctm7) (gm7:cT K cdm7 "Net.reached_from") (km7:kT K m7) (fm8:PySem.W.findIn K (.ref C_Net) "reaching" = some (some (.ref m8))) (im8:PySem.W.isFn K (.ref m8) = true) (lm8:lT K "reaching" "Net.reaching" (meth 9 8) m8 ocm8 odm8 anm8 sqm8 kVm8 dcm8 pmm8 cdm8 ctm8) (gm8:cT K cdm8 "Net.reaching") (km8:kT K m8) (nn_SOURCE:PySem.W.nsIn K mainGlobals "SOURCE" = some (some (.int 0 ee1))) (nn_SINK:PySem.W.nsIn K mainGlobals "SINK" = some (some (.int 1 ee2))) (nn_FIRST:PySem.W.nsIn K mainGlobals "FIRST" = some (some (.int 2 ee3)))
 :∃ fd:FuncData,(∀ (s:Shared) (v:Value),BindsTo s fd ⟨[v],[]⟩ [("_law_script",v)])∧∀ base:Heap,K.In base→base.Ns mainGlobals mg→FnOk l.prog w K mg base CX0 9 fa fd ["_law_script"] (jp5 K):=by
 have e:=hfa.symm.trans (PySem.W.mg_of X G a28)
 cases e
 have B:Blt mg:=⟨PySem.W.mg_none_of X G z_len,PySem.W.mg_none_of X G z_isinstance,PySem.W.mg_none_of X G z_all,PySem.W.mg_none_of X G z_min,PySem.W.mg_none_of X G z_list,PySem.W.mg_none_of X G z_dict,PySem.W.mg_none_of X G z_int,PySem.W.mg_none_of X G z_bool,PySem.W.mg_none_of X G z_str,PySem.W.mg_none_of X G z_tuple,PySem.W.mg_none_of X G z_range,PySem.W.mg_none_of X G z_enumerate,PySem.W.mg_none_of X G z_zip,PySem.W.mg_none_of X G z_max,PySem.W.mg_none_of X G z_any,PySem.W.mg_none_of X G z_sum,PySem.W.mg_none_of X G z_sorted⟩
 have C:Cst mg c1 c2 c3 c4:=⟨PySem.W.mg_of X G n_MOST_PLACES,PySem.W.mg_of X G n_MOST_TIES,PySem.W.mg_of X G n_LAST_PLACE,PySem.W.mg_of X G n_MOST_PRICE⟩
 have D_is_whole:=dmk X G a0 l0 g0 k0 ["thing"] ((jbm l0 g0 k0).binds fun _ _ _ _ _ _ us hl=>match us,hl with | [_],_=>rfl)
 have D_is_tuple_of:=dmk X G a1 l1 g1 k1 ["thing","many"] ((jbm l1 g1 k1).binds fun _ _ _ _ _ _ us hl=>match us,hl with | [_,_],_=>rfl)
 have D_is_pair_of_wholes:=dmk X G a2 l2 g2 k2 ["thing"] ((jbm l2 g2 k2).binds fun _ _ _ _ _ _ us hl=>match us,hl with | [_],_=>rfl)
 have D_is_list_up_to:=dmk X G a3 l3 g3 k3 ["thing","most"] ((jbm l3 g3 k3).binds fun _ _ _ _ _ _ us hl=>match us,hl with | [_,_],_=>rfl)
 have D_marked:=dmk X G a4 l4 g4 k4 ["places"] ((jbm l4 g4 k4).binds fun _ _ _ _ _ _ us hl=>match us,hl with | [_],_=>rfl)
 have D_place_stands:=dmk X G a5 l5 g5 k5 ["thing","last","spent"] ((jbm l5 g5 k5).binds fun _ _ _ _ _ _ us hl=>match us,hl with | [_,_,_],_=>rfl)
 have D_tie_stands:=dmk X G a6 l6 g6 k6 ["thing","last","prices"] ((jbm l6 g6 k6).binds fun _ _ _ _ _ _ us hl=>match us,hl with | [_,_,_],_=>rfl)
 have D_look_at_places:=dmk X G a7 l7 g7 k7 ["places"] ((jbm l7 g7 k7).binds fun _ _ _ _ _ _ us hl=>match us,hl with | [_],_=>rfl)
 have D_look_at_ties:=dmk X G a8 l8 g8 k8 ["ties","prices"] ((jbm l8 g8 k8).binds fun _ _ _ _ _ _ us hl=>match us,hl with | [_,_],_=>rfl)
 have D_look_at_web:=dmk X G a9 l9 g9 k9 ["thing"] ((jbm l9 g9 k9).binds fun _ _ _ _ _ _ us hl=>match us,hl with | [_],_=>rfl)
 have D_nears_in:=dmk X G a10 l10 g10 k10 ["web"] ((jbm l10 g10 k10).binds fun _ _ _ _ _ _ us hl=>match us,hl with | [_],_=>rfl)
 have D_met_from:=dmk X G a11 l11 g11 k11 ["nears","place"] ((jbm l11 g11 k11).binds fun _ _ _ _ _ _ us hl=>match us,hl with | [_,_],_=>rfl)
 have D_levels_by:=dmk X G a12 l12 g12 k12 ["above"] ((jbm l12 g12 k12).binds fun _ _ _ _ _ _ us hl=>match us,hl with | [_],_=>rfl)
 have D_odd_ring_from:=dmk X G a13 l13 g13 k13 ["nears","place"] ((jbm l13 g13 k13).binds fun _ _ _ _ _ _ us hl=>match us,hl with | [_,_],_=>rfl)
 have D_sides_of:=dmk X G a14 l14 g14 k14 ["web"] ((jbm l14 g14 k14).binds fun _ _ _ _ _ _ us hl=>match us,hl with | [_],_=>rfl)
 have D_net_across:=dmk X G a15 l15 g15 k15 ["web","first"] ((jbm l15 g15 k15).binds fun _ _ _ _ _ _ us hl=>match us,hl with | [_,_],_=>rfl)
 have D_spots_of:=dmk X G a16 l16 g16 k16 ["web"] ((jbm l16 g16 k16).binds fun _ _ _ _ _ _ us hl=>match us,hl with | [_],_=>rfl)
 have D_set_of_cut:=dmk X G a17 l17 g17 k17 ["web","first","near_source"] ((jbm l17 g17 k17).binds fun _ _ _ _ _ _ us hl=>match us,hl with | [_,_,_],_=>rfl)
 have D_even_dues:=dmk X G a18 l18 g18 k18 ["web","flows"] ((jbm l18 g18 k18).binds fun _ _ _ _ _ _ us hl=>match us,hl with | [_,_],_=>rfl)
 have D_pairing_of:=dmk X G a19 l19 g19 k19 ["web"] ((jbm l19 g19 k19).binds fun _ _ _ _ _ _ us hl=>match us,hl with | [_],_=>rfl)
 have D_law_own:=dmk X G a20 l20 g20 k20 ["_law_web"] ((jbm l20 g20 k20).binds fun _ _ _ _ _ _ us hl=>match us,hl with | [_],_=>rfl)
 have D_law_begun:=dmk X G a21 l21 g21 k21 ["_law_script","_law_k"] ((jbm l21 g21 k21).binds fun _ _ _ _ _ _ us hl=>match us,hl with | [_,_],_=>rfl)
 have D_law_take:=dmk X G a22 l22 g22 k22 ["_law_state","_law_many"] ((jbm l22 g22 k22).binds fun _ _ _ _ _ _ us hl=>match us,hl with | [_,_],_=>rfl)
 have D_law_two:=dmk X G a23 l23 g23 k23 ["_law_state","_law_most"] ((jbm l23 g23 k23).binds fun _ _ _ _ _ _ us hl=>match us,hl with | [_,_],_=>rfl)
 have D_law_sides:=dmk X G a24 l24 g24 k24 ["_law_web"] ((jbm l24 g24 k24).binds fun _ _ _ _ _ _ us hl=>match us,hl with | [_],_=>rfl)
 have D_law_sets:=dmk X G a25 l25 g25 k25 ["_law_web"] ((jbm l25 g25 k25).binds fun _ _ _ _ _ _ us hl=>match us,hl with | [_],_=>rfl)
 have D_law_cost:=dmk X G a26 l26 g26 k26 ["_law_web","_law_some"] ((jbm l26 g26 k26).binds fun _ _ _ _ _ _ us hl=>match us,hl with | [_,_],_=>rfl)
 have D_law_cheapest:=dmk X G a27 l27 g27 k27 ["_law_web"] ((jbm l27 g27 k27).binds fun _ _ _ _ _ _ us hl=>match us,hl with | [_],_=>rfl)
 have D_law:=dmk X G a28 l28 g28 k28 ["_law_script"] ((jbm l28 g28 k28).binds fun _ _ _ _ _ _ us hl=>match us,hl with | [_],_=>rfl)
 refine ⟨PySem.W.fnOf "law" "law" (jdm (top 50)) (jdi (top 50)) (jbc (top 50)) .none kV28 dc28 pm28 an28 cd28 ct28,fun s v=>.of_eq rfl,fun base _ _=>?_⟩
 have D_init:MthAt K C_Net "__init__" "Net.__init__" (meth 9 0) ["self","many","arcs"] _ _:=⟨jbm lm0 gm0 km0,(jbm lm0 gm0 km0).binds fun _ _ _ _ _ _ us hl=>match us,hl with | [_,_,_],_=>rfl,⟨fm0,im0,km0⟩⟩
 have D_put_way:MthAt K C_Net "put_way" "Net.put_way" (meth 9 1) ["self","tail","head","room"] _ _:=⟨jbm lm1 gm1 km1,(jbm lm1 gm1 km1).binds fun _ _ _ _ _ _ us hl=>match us,hl with | [_,_,_,_],_=>rfl,⟨fm1,im1,km1⟩⟩
 have D_fill:MthAt K C_Net "fill" "Net.fill" (meth 9 2) ["self","source","sink"] _ _:=⟨jbm lm2 gm2 km2,(jbm lm2 gm2 km2).binds fun _ _ _ _ _ _ us hl=>match us,hl with | [_,_,_],_=>rfl,⟨fm2,im2,km2⟩⟩
 have D_shortest:MthAt K C_Net "shortest" "Net.shortest" (meth 9 3) ["self","source","sink"] _ _:=⟨jbm lm3 gm3 km3,(jbm lm3 gm3 km3).binds fun _ _ _ _ _ _ us hl=>match us,hl with | [_,_,_],_=>rfl,⟨fm3,im3,km3⟩⟩
 have D_spread:MthAt K C_Net "spread" "Net.spread" (meth 9 4) ["self","source"] _ _:=⟨jbm lm4 gm4 km4,(jbm lm4 gm4 km4).binds fun _ _ _ _ _ _ us hl=>match us,hl with | [_,_],_=>rfl,⟨fm4,im4,km4⟩⟩
 have D_push:MthAt K C_Net "push" "Net.push" (meth 9 5) ["self","trail"] _ _:=⟨jbm lm5 gm5 km5,(jbm lm5 gm5 km5).binds fun _ _ _ _ _ _ us hl=>match us,hl with | [_,_],_=>rfl,⟨fm5,im5,km5⟩⟩
 have D_flows:MthAt K C_Net "flows" "Net.flows" (meth 9 6) ["self"] _ _:=⟨jbm lm6 gm6 km6,(jbm lm6 gm6 km6).binds fun _ _ _ _ _ _ us hl=>match us,hl with | [_],_=>rfl,⟨fm6,im6,km6⟩⟩
 have D_reached_from:MthAt K C_Net "reached_from" "Net.reached_from" (meth 9 7) ["self","source"] _ _:=⟨jbm lm7 gm7 km7,(jbm lm7 gm7 km7).binds fun _ _ _ _ _ _ us hl=>match us,hl with | [_,_],_=>rfl,⟨fm7,im7,km7⟩⟩
 have D_reaching:MthAt K C_Net "reaching" "Net.reaching" (meth 9 8) ["self","sink"] _ _:=⟨jbm lm8 gm8 km8,(jbm lm8 gm8 km8).binds fun _ _ _ _ _ _ us hl=>match us,hl with | [_,_],_=>rfl,⟨fm8,im8,km8⟩⟩
 have C2:Cst2 mg ee1 ee2 ee3:=⟨PySem.W.mg_of X G nn_SOURCE,PySem.W.mg_of X G nn_SINK,PySem.W.mg_of X G nn_FIRST⟩
 have T:NetC K mg C_Net:=⟨⟨pgN,hdN,poN,saN⟩,n_ways_from,n_heads,n_rooms,PySem.W.mg_of X G aN⟩
 have MK:Mk K C_Net m0:=⟨mkN,fm0,im0,kcN⟩
 have G_is_whole:=jkq (P:=l.prog) (w:=w) (base:=base) B D_is_whole
 have G_is_tuple_of:=jgi (P:=l.prog) (w:=w) (base:=base) B D_is_tuple_of
 have G_is_pair_of_wholes:=jdt (P:=l.prog) (w:=w) (base:=base) B D_is_pair_of_wholes D_is_tuple_of G_is_tuple_of D_is_whole G_is_whole
 have G_is_list_up_to:=jf2 (P:=l.prog) (w:=w) (base:=base) B D_is_list_up_to
 have G_place_stands:=jfv (P:=l.prog) (w:=w) (base:=base) B C D_place_stands D_is_pair_of_wholes G_is_pair_of_wholes
 have G_tie_stands:=jhy (P:=l.prog) (w:=w) (base:=base) B D_tie_stands D_is_pair_of_wholes G_is_pair_of_wholes
 have G_look_at_places:=jeo (P:=l.prog) (w:=w) (base:=base) B C D_look_at_places D_is_list_up_to G_is_list_up_to D_place_stands G_place_stands
 have G_look_at_ties:=jfw (P:=l.prog) (w:=w) (base:=base) B C D_look_at_ties D_is_list_up_to G_is_list_up_to D_tie_stands G_tie_stands
 have G_look_at_web:=jgh (P:=l.prog) (w:=w) (base:=base) B D_look_at_web D_is_tuple_of G_is_tuple_of D_look_at_places G_look_at_places D_look_at_ties G_look_at_ties
 have G_nears_in:=jkl (P:=l.prog) (w:=w) (base:=base) B D_nears_in
 have G_met_from:=jkm (P:=l.prog) (w:=w) (base:=base) B D_met_from
 have G_levels_by:=jj9 (P:=l.prog) (w:=w) (base:=base) B D_levels_by
 have G_odd_ring_from:=jf1 (P:=l.prog) (w:=w) (base:=base) B D_odd_ring_from D_met_from G_met_from D_levels_by G_levels_by
 have G_sides_of:=jki (P:=l.prog) (w:=w) (base:=base) B D_sides_of D_look_at_web G_look_at_web D_nears_in G_nears_in D_odd_ring_from G_odd_ring_from D_levels_by G_levels_by D_met_from G_met_from
 have G_spots_of:=jkh (P:=l.prog) (w:=w) (base:=base) B D_spots_of C2
 have G_set_of_cut:=jhz (P:=l.prog) (w:=w) (base:=base) B D_set_of_cut
 have G_even_dues:=jjc (P:=l.prog) (w:=w) (base:=base) B D_even_dues
 have G_law_own:=jmf (P:=l.prog) (w:=w) (base:=base) B D_law_own
 have G_law_begun:=jjb (P:=l.prog) (w:=w) (base:=base) B D_law_begun
 have G_law_take:=jkn (P:=l.prog) (w:=w) (base:=base) B D_law_take
 have G_law_two:=jme (P:=l.prog) (w:=w) (base:=base) B D_law_two D_law_take G_law_take
 have G_law_sides:=jja (P:=l.prog) (w:=w) (base:=base) B D_law_sides
 have G_law_sets:=jko (P:=l.prog) (w:=w) (base:=base) B D_law_sets
 have G_law_cost:=jkp (P:=l.prog) (w:=w) (base:=base) B D_law_cost
 have G_law_cheapest:=jfx (P:=l.prog) (w:=w) (base:=base) B D_law_cheapest D_law_sets G_law_sets D_law_cost G_law_cost
 have GI_marked:=jmg (P:=l.prog) (w:=w) (base:=base) B D_marked
 have G_put_way:=jmd (P:=l.prog) (w:=w) (base:=base) B D_put_way T
 have G_spread:=jnz (P:=l.prog) (w:=w) (base:=base) B D_spread T
 have G_push:=jrl (P:=l.prog) (w:=w) (base:=base) B D_push T
 have G_flows:=jpn (P:=l.prog) (w:=w) (base:=base) B D_flows T
 have G_reached_from:=jfu (P:=l.prog) (w:=w) (base:=base) B D_reached_from D_spread G_spread T
 have G_reaching:=jkk (P:=l.prog) (w:=w) (base:=base) B D_reaching T
 have G_init:=jrm (P:=l.prog) (w:=w) (base:=base) B D_init D_put_way G_put_way T
 have G_shortest:=jkj (P:=l.prog) (w:=w) (base:=base) B D_shortest D_spread G_spread T
 have G_net_across:=ji1 (P:=l.prog) (w:=w) (base:=base) B D_net_across D_spots_of G_spots_of D_init G_init T C2 MK
 have G_fill:=jrn (P:=l.prog) (w:=w) (base:=base) B D_fill D_shortest G_shortest D_push G_push T
 have G_pairing_of:=ji0 (P:=l.prog) (w:=w) (base:=base) B D_pairing_of D_sides_of G_sides_of D_marked GI_marked D_spots_of G_spots_of D_net_across G_net_across D_fill G_fill D_reached_from G_reached_from D_reaching G_reaching D_set_of_cut G_set_of_cut D_flows G_flows D_even_dues G_even_dues T C2
 exact ok_law B D_law D_law_begun G_law_begun D_law_two G_law_two D_law_sides G_law_sides D_law_cheapest G_law_cheapest D_law_own G_law_own D_pairing_of G_pairing_of
theorem walk {l:PySem.W.OpenLaw} {q:Program} {loose:List Str} {XP:(Str→Option Value)→Heap→Prop} {YP:World→Heap→Prop} {d:DefRec} {K:Params→PySem.W.Frag} (hn:l.most = some 63) (hdf:d.params.defaults = [])
  (hY:∀ (w:World) (h:Heap),YP w h→(K w.params).In h)
  (F:∀ (w:World) (mg:Str→Option Value) (fa:Addr) (h:Heap),(K w.params).In h→h.Ns mainGlobals mg→mg d.name = some (.ref fa) →
   ∃ fd:FuncData,(∀ (s:Shared) (u:Value),BindsTo s fd ⟨[u],[]⟩ [("_law_script",u)])∧∀ base:Heap,(K w.params).In base→base.Ns mainGlobals mg→FnOk l.prog w (K w.params) mg base CX0 9 fa fd ["_law_script"] (jp5 (K w.params))) :
  PySem.W.WalkO q loose XP YP l.row.toRowW d [] (fun f vs=>PySem.call f vs) :=
 L2.jmu (n:=63) (k:=9) (x:="_law_script") (CX:=fun _=>CX0) (sp:=fun w=>jp5 (K w.params)) hn (by decide) hdf ⟨rfl,by decide,by decide,rfl⟩ hY F (fun _ _ a ns hl hO hS=>⟨a,ns,rfl,Scr.of hS hO,fun _=>rfl⟩) fun _ _ _ _ _ z=>z
end My
open PySem PySem.W PyProof.Rows
set_option maxRecDepth 100000 in
set_option maxHeartbeats 0 in
theorem PySem.Challenge.cw_touchall_k61_whole_two_sets_hold_all_holds : PySem.Challenge.rw_touchall_k61_whole_two_sets_hold_all.Holds := by
 refine MyHead ?_
 k_fill
 refine My.walk (l:=PySem.Challenge.rw_touchall_k61_whole_two_sets_hold_all) rfl rfl (fun w h Y=>PySem.W.kIn_of Y) ?F
 case F =>
  intro w mg fa h KX G hmg
  refine' My.all_mk KX G hmg ?_ ?_ ?_ ?_ ?_ ?_ ?_ ?_ ?_ ?_ ?_ ?_ ?_ ?_ ?_ ?_ ?_ ?_ ?_ ?_ ?_ ?_ ?_ ?_ ?_ ?_ ?_ ?_ ?_ ?_ ?_ ?_ ?_ ?_ ?_ ?_ ?_ ?_ ?_ ?_ ?_ ?_ ?_ ?_ ?_ ?_ ?_ ?_ ?_ ?_ ?_ ?_ ?_ ?_ ?_ ?_ ?_ ?_ ?_ ?_ ?_ ?_ ?_ ?_ ?_ ?_ ?_ ?_ ?_ ?_ ?_ ?_ ?_ ?_ ?_ ?_ ?_ ?_ ?_ ?_ ?_ ?_ ?_ ?_ ?_ ?_ ?_ ?_ ?_ ?_ ?_ ?_ ?_ ?_ ?_ ?_ ?_ ?_ ?_ ?_ ?_ ?_ ?_ ?_ ?_ ?_ ?_ ?_ ?_ ?_ ?_ ?_ ?_ ?_ ?_ ?_ ?_ ?_ ?_ ?_ ?_ ?_ ?_ ?_ ?_ ?_ ?_ ?_ ?_ ?_ ?_ ?_ ?_ ?_ ?_ ?_ ?_ ?_ ?_ ?_ ?_ ?_ ?_ ?_ ?_ ?_ ?_ ?_ ?_ ?_ ?_ ?_ ?_ ?_ ?_ ?_ ?_ ?_ ?_ ?_ ?_ ?_ ?_ ?_ ?_ ?_ ?_ ?_ ?_ ?_ ?_ ?_ ?_ ?_ ?_ ?_ ?_ ?_ ?_ ?_ ?_ ?_ ?_ ?_ ?_ ?_ ?_ ?_ ?_ ?_ ?_ ?_ ?_ ?_ ?_
  any_goals first | k_is | (delta My.aT; k_is) | (delta My.lT; k_is) | (delta My.cT; k_is) | (delta My.kT; k_is) | (delta My.zT; k_is) | kernel_rfl | rfl
#print axioms PySem.Challenge.cw_touchall_k61_whole_two_sets_hold_all_holds
