import PyProof.Rows.All
import Wide.All
import OpenK.AllK
import Wide.FinOn
import Lean
import PyProof.EqAt
import PyProof.EqKinds
import PyProof.TupleCall
import PyProof.NeKinds
import PyProof.NeData
import PySem.Challenge.RW_touchall_k28_chains_let_by
import PyProof.StationsW
import PyProof.ExcInit
import PyProof.InstStoreFacts
import PyProof.NsDelKeeps
import PyProof.RulesAs
import PyProof.ExcAttrAll.ValueError
import KE.KIsAll
import PyProof.AutoSeq1
import PyProof.Rows.SetFrom
import PyProof.SetRoads
import PyProof.Rows.SortRuns
import PyProof.Rows.SortShell
import KE.KSortTup
import PyProof.Rows.SumAny
import PyProof.DictWalks
import PyProof.DictUpdate
import KE.KDictList
import PyProof.ReprRoads
import PyProof.FitsInt
section
open PySem PySem.W PyProof.Rows
set_option Elab.async false
set_option maxRecDepth 100000
set_option maxHeartbeats 0
namespace PySem.W.Fast
theorem tw11601828973258395588:True:=⟨⟩
theorem tw17541362422845486311:True:=⟨⟩
theorem tw15586088889274345770:True:=⟨⟩
theorem tw18308325722021708587:True:=⟨⟩
theorem tw14781562103584300300:True:=⟨⟩
theorem tw16467396488625011024:True:=⟨⟩
theorem tw52604037021415473:True:=⟨⟩
theorem tw16599119404929089777:True:=⟨⟩
theorem tw280475905095942100:True:=⟨⟩
theorem tw17883986908372840214:True:=⟨⟩
theorem tw6653320075842195780:True:=⟨⟩
theorem tw13146530757682134622:True:=⟨⟩
theorem tw7005362160120551247:True:=⟨⟩
theorem tw6706096831018490023:True:=⟨⟩
theorem tw11867328985658093342:True:=⟨⟩
theorem tw12933365590964484303:True:=⟨⟩
theorem tw5103485604028916769:True:=⟨⟩
theorem tw13810174693335883931:True:=⟨⟩
theorem tw14756317111538670632:True:=⟨⟩
theorem tw8549602738571025238:True:=⟨⟩
theorem tw17746213073180106855:True:=⟨⟩
theorem tw6749682013178273063:True:=⟨⟩
theorem tw7853399458379906777:True:=⟨⟩
theorem tw7213155722094151984:True:=⟨⟩
theorem tw5291671171568664792:True:=⟨⟩
theorem tw15227233571305852144:True:=⟨⟩
theorem tw9443149326504112810:True:=⟨⟩
theorem tw850951039455432525:True:=⟨⟩
theorem tw15514634696500728796:True:=⟨⟩
theorem tw12145190026016965121:True:=⟨⟩
theorem tw16770910964881924072:True:=⟨⟩
theorem tw11388765831873443430:True:=⟨⟩
theorem tw4755141612544394983:True:=⟨⟩
theorem tw5202776660221476824:True:=⟨⟩
theorem tw2232508010609702249:True:=⟨⟩
theorem tw9769863511298422818:True:=⟨⟩
theorem tw16238301872741956780:True:=⟨⟩
theorem tw10073281139201949855:True:=⟨⟩
theorem tw7182748549700119884:True:=⟨⟩
theorem tw11930511757121121756:True:=⟨⟩
theorem tw6795054907335169004:True:=⟨⟩
theorem tw9748736633980905991:True:=⟨⟩
theorem tw895549414950198869:True:=⟨⟩
theorem tw7830369994248853982:True:=⟨⟩
theorem tw15377678365041130219:True:=⟨⟩
theorem tw14978731467003240592:True:=⟨⟩
theorem tw3333966505458403725:True:=⟨⟩
theorem tw10013146292578147414:True:=⟨⟩
theorem tw4421343633076843811:True:=⟨⟩
theorem tw1946033789281374818:True:=⟨⟩
theorem tw12992367483169920845:True:=⟨⟩
theorem tw18259904567720872237:True:=⟨⟩
theorem tw12299380988638202590:True:=⟨⟩
theorem tw5729796969671028974:True:=⟨⟩
theorem tw17341298701788093120:True:=⟨⟩
theorem tw16546778057378974778:True:=⟨⟩
theorem tw14003406518076274850:True:=⟨⟩
theorem tw7761872477267044100:True:=⟨⟩
theorem tw1726813977947389158:True:=⟨⟩
theorem tw11906391868283360964:True:=⟨⟩
theorem tw13651674943635200488:True:=⟨⟩
theorem tw420471366415179010:True:=⟨⟩
theorem tw17670709185726934248:True:=⟨⟩
theorem tw6356490350672987232:True:=⟨⟩
theorem tw14527855219218812963:True:=⟨⟩
theorem tw6654934050380821986:True:=⟨⟩
theorem tw8212859607379937844:True:=⟨⟩
theorem tw4463166748007049108:True:=⟨⟩
theorem tw8297966634746096414:True:=⟨⟩
theorem tw7552589387619456655:True:=⟨⟩
theorem tw2198618278216875009:True:=⟨⟩
theorem tw1204304298147611602:True:=⟨⟩
theorem tw13527872405176336012:True:=⟨⟩
theorem tw5061831166103267206:True:=⟨⟩
theorem tw14826031857019004941:True:=⟨⟩
theorem tw15693294657385995021:True:=⟨⟩
theorem tw16567477134032842647:True:=⟨⟩
theorem tw7482920708577278718:True:=⟨⟩
theorem tw3251091792226649815:True:=⟨⟩
theorem tw16409236330492884371:True:=⟨⟩
theorem tw5101450760185418553:True:=⟨⟩
theorem tw7202096296974048930:True:=⟨⟩
theorem tw18198432349956210722:True:=⟨⟩
theorem tw17948796234568494333:True:=⟨⟩
theorem tw593414006488225192:True:=⟨⟩
theorem tw14100869705339816407:True:=⟨⟩
theorem tw16690788079638538773:True:=⟨⟩
theorem tw1292984125890801270:True:=⟨⟩
theorem tw429126050991680652:True:=⟨⟩
theorem tw7698447048043514017:True:=⟨⟩
theorem tw14973742723826984120:True:=⟨⟩
theorem tw17457086080872000736:True:=⟨⟩
theorem tw5099301408519554050:True:=⟨⟩
theorem tw6238900285969046887:True:=⟨⟩
theorem tw14295450787131531452:True:=⟨⟩
theorem tw9482120283554068594:True:=⟨⟩
theorem tw18435423981051818222:True:=⟨⟩
theorem tw13990930123094078712:True:=⟨⟩
theorem tw6145129637773361727:True:=⟨⟩
theorem tw9000492280638625789:True:=⟨⟩
theorem tw15980514055555444097:True:=⟨⟩
theorem tw9578137325174995177:True:=⟨⟩
theorem tw1446046372975601066:True:=⟨⟩
theorem tw3386007157573418628:True:=⟨⟩
theorem tw12964706684179383832:True:=⟨⟩
theorem tw4040663737483218468:True:=⟨⟩
theorem tw10485983645851997345:True:=⟨⟩
theorem tw5954876327221452193:True:=⟨⟩
theorem tw4762995603375477503:True:=⟨⟩
theorem tw12981107023279619863:True:=⟨⟩
theorem tw10661231254371446707:True:=⟨⟩
theorem tw12653114381597422123:True:=⟨⟩
theorem tw17790621613727568432:True:=⟨⟩
theorem tw4943674162513202160:True:=⟨⟩
theorem tw3202980715671287772:True:=⟨⟩
theorem tw8153494736163193282:True:=⟨⟩
theorem tw6822298609184292527:True:=⟨⟩
theorem tw163361006696384501:True:=⟨⟩
theorem tw7514863291714595196:True:=⟨⟩
theorem tw12021910400016799448:True:=⟨⟩
theorem tw10913997214970868764:True:=⟨⟩
theorem tw15335128613735910151:True:=⟨⟩
theorem tw17001195906241442773:True:=⟨⟩
theorem tw885371844316833120:True:=⟨⟩
theorem tw7038596651363693363:True:=⟨⟩
theorem tw3450192468778676572:True:=⟨⟩
theorem tw5741868628440793479:True:=⟨⟩
theorem tw13227656411800433115:True:=⟨⟩
theorem tw12260765946192292528:True:=⟨⟩
theorem tw1092231837839737871:True:=⟨⟩
theorem tw3778727204222080899:True:=⟨⟩
theorem tw16435145116260540403:True:=⟨⟩
theorem tw530684274474814442:True:=⟨⟩
theorem tw9986159386596041291:True:=⟨⟩
theorem tw2269460933442521542:True:=⟨⟩
theorem tw3421753523302657214:True:=⟨⟩
theorem tw17658068361143100475:True:=⟨⟩
theorem tw14248016213943530440:True:=⟨⟩
theorem tw8871029021759738552:True:=⟨⟩
theorem tw4279476487421269338:True:=⟨⟩
theorem tw2299995472670780312:True:=⟨⟩
theorem tw16731634629222179199:True:=⟨⟩
theorem tw18415491594491465074:True:=⟨⟩
theorem tw14162606385346639759:True:=⟨⟩
theorem tw15871576022070521126:True:=⟨⟩
theorem tw787864133665795934:True:=⟨⟩
theorem tw14079483211463739728:True:=⟨⟩
theorem tw9197129900319299892:True:=⟨⟩
theorem tw1104488647094209902:True:=⟨⟩
theorem tw18368650237389215793:True:=⟨⟩
theorem tw12832714438019067581:True:=⟨⟩
theorem tw9466367427336684335:True:=⟨⟩
theorem tw13149991164589372472:True:=⟨⟩
theorem tw5047764800839148311:True:=⟨⟩
theorem tw13777678184960627923:True:=⟨⟩
theorem tw6670132038723899214:True:=⟨⟩
theorem tw14640572693217546273:True:=⟨⟩
theorem tw9947724475003619674:True:=⟨⟩
theorem tw9619610745294895768:True:=⟨⟩
theorem tw9202793077811905852:True:=⟨⟩
theorem tw7851787535860571123:True:=⟨⟩
theorem tw6743641750472775847:True:=⟨⟩
theorem tw4862741975000952055:True:=⟨⟩
theorem tw2807939160141173056:True:=⟨⟩
theorem tw18051402899012708777:True:=⟨⟩
theorem tw16086166043349708051:True:=⟨⟩
theorem tw15583159890976612112:True:=⟨⟩
theorem tw14819694531884392017:True:=⟨⟩
theorem tw14483856630567087015:True:=⟨⟩
theorem tw11669262180485523366:True:=⟨⟩
theorem tw600212407440205806:True:=⟨⟩
theorem tw11033941645859556090:True:=⟨⟩
theorem tw1819663710973714041:True:=⟨⟩
theorem tw14376798394326754113:True:=⟨⟩
theorem tw15546968404707699468:True:=⟨⟩
theorem tw6049868058112198784:True:=⟨⟩
theorem tw577511202878901248:True:=⟨⟩
theorem tw3173564464523249195:True:=⟨⟩
theorem tw12308534206943208666:True:=⟨⟩
theorem tw17748391171391791682:True:=⟨⟩
theorem tw8556881319794653275:True:=⟨⟩
theorem tw13058793742947418118:True:=⟨⟩
theorem tw18366049866466480393:True:=⟨⟩
theorem tw12328668147688059386:True:=⟨⟩
theorem tw12084875070278405943:True:=⟨⟩
theorem tw11845121057717500690:True:=⟨⟩
theorem tw4395593587568455176:True:=⟨⟩
theorem tw6245827768647603512:True:=⟨⟩
theorem tw1623218935358935076:True:=⟨⟩
theorem tw16324814204724335033:True:=⟨⟩
theorem tw162473700425539603:True:=⟨⟩
theorem tw11492615796320202812:True:=⟨⟩
theorem tw13918767385064653732:True:=⟨⟩
theorem tw8706593751649875096:True:=⟨⟩
theorem tw12306747795182409104:True:=⟨⟩
theorem tw14377308959950482725:True:=⟨⟩
theorem tw9297663727785247985:True:=⟨⟩
theorem tw9307431955463701274:True:=⟨⟩
theorem tw11838570771899567539:True:=⟨⟩
theorem tw1495474450647618605:True:=⟨⟩
theorem tw12838189731587688999:True:=⟨⟩
theorem tw11207535551202950041:True:=⟨⟩
theorem tw9016929935483840578:True:=⟨⟩
theorem tw7776265952824830946:True:=⟨⟩
theorem tw5870115567283432914:True:=⟨⟩
theorem tw4069687752174603861:True:=⟨⟩
theorem tw16129954062642050573:True:=⟨⟩
theorem tw15118457964073289629:True:=⟨⟩
theorem tw14046072485561619853:True:=⟨⟩
theorem tw11435906062788071858:True:=⟨⟩
theorem tw10606784113705308633:True:=⟨⟩
theorem tw9990162211652564711:True:=⟨⟩
theorem tw9863237375522220903:True:=⟨⟩
theorem tw9762787882097571856:True:=⟨⟩
theorem tw9643090989392201812:True:=⟨⟩
theorem tw9622471659420483719:True:=⟨⟩
theorem tw9506547847472607489:True:=⟨⟩
theorem tw8795544817985420263:True:=⟨⟩
theorem tw8112447074107057508:True:=⟨⟩
theorem tw8079341929624369548:True:=⟨⟩
theorem tw7835064511630915075:True:=⟨⟩
theorem tw7232841066116858783:True:=⟨⟩
theorem tw7129484964119345133:True:=⟨⟩
theorem tw7007092725283629287:True:=⟨⟩
theorem tw6866683891151582221:True:=⟨⟩
theorem tw6821080607343536927:True:=⟨⟩
theorem tw6799717253033202974:True:=⟨⟩
theorem tw6730875953044847916:True:=⟨⟩
theorem tw6584695149455985699:True:=⟨⟩
theorem tw6494762443452080514:True:=⟨⟩
theorem tw648145590827737737:True:=⟨⟩
theorem tw6425884994113631308:True:=⟨⟩
theorem tw5160066459553266816:True:=⟨⟩
theorem tw3902602399963370953:True:=⟨⟩
theorem tw3804045619721632138:True:=⟨⟩
theorem tw3768600909522892029:True:=⟨⟩
theorem tw3436040953348231904:True:=⟨⟩
theorem tw332976832776276163:True:=⟨⟩
theorem tw2882356951737927585:True:=⟨⟩
theorem tw18438347639502009901:True:=⟨⟩
theorem tw18412816545115006207:True:=⟨⟩
end PySem.W.Fast
open_top MyHead for PySem.Challenge.rw_touchall_k28_chains_let_by
end
-- CHANGE: your row's module here, as the last of these rows
noncomputable section
set_option Elab.async false
set_option linter.all false
set_option maxRecDepth 100000
namespace L2
open PySem PySem.Spec PyProof.Rows
abbrev Key:=Sum Int Str
def jmv:Key→Value→Bool
 | .inl k,v=>Value.isInt k v
 | .inr x,v=>Value.isStrOf x v
def keyH (w:World):Key→Int
 | .inl k=>hashInt k
 | .inr x=>hashStr w x
theorem jbo:∀ {k:Key} {v:Value},jmv k v = true→(∃ i t,k = Sum.inl i∧v = Value.int i t) ∨ (∃ x t,k = Sum.inr x∧v = Value.str x t)
 | .inl i,v,h=>by
  obtain ⟨t,e⟩:=Value.isInt_shape (k:=i) (v:=v) h
  exact .inl ⟨i,t,rfl,e⟩
 | .inr x,v,h=>by
  obtain ⟨t,e⟩:=Value.isStrOf_shape (x:=x) (v:=v) h
  exact .inr ⟨x,t,rfl,e⟩
theorem jp6 (i:Int) (t:Tok):jmv (.inl i) (.int i t) = true:=by simp [jmv,Value.isInt]
theorem jp5 (x:Str) (t:Tok):jmv (.inr x) (.str x t) = true:=by simp [jmv,Value.isStrOf]
theorem key_ll (a b:Int):decide ((Sum.inl a:Key) = Sum.inl b) = (a == b):=by
 by_cases e:a = b
 ·subst e; simp
 ·have h:¬ (Sum.inl a:Key) = Sum.inl b:=fun q=>e (Sum.inl.inj q)
  rw [decide_eq_false h]
  exact (beq_eq_false_iff_ne.mpr e).symm
theorem key_rr (a b:Str):decide ((Sum.inr a:Key) = Sum.inr b) = decide (a = b):=by
 by_cases e:a = b
 ·subst e; simp
 ·have h:¬ (Sum.inr a:Key) = Sum.inr b:=fun q=>e (Sum.inr.inj q)
  rw [decide_eq_false h,decide_eq_false e]
theorem key_lr (a:Int) (b:Str):decide ((Sum.inl a:Key) = Sum.inr b) = false:=decide_eq_false (fun q=>nomatch q)
theorem key_rl (a:Str) (b:Int):decide ((Sum.inr a:Key) = Sum.inl b) = false:=decide_eq_false (fun q=>nomatch q)
def jbl (prog:Program) (w:World):PySem.KeyKind prog w Key where
 is:=jmv
 hash:=keyH w
 inj:=fun v a b ha hb=>by
  rcases jbo ha with ⟨i,t,rfl,rfl⟩ | ⟨x,t,rfl,rfl⟩
  ·rcases jbo hb with ⟨j,u,rfl,e⟩ | ⟨y,u,rfl,e⟩
   ·injection e with e1 _; rw [e1]
   ·exact nomatch e
  ·rcases jbo hb with ⟨j,u,rfl,e⟩ | ⟨y,u,rfl,e⟩
   ·exact nomatch e
   ·injection e with e1 _; rw [e1]
 byValue:=fun k v h=>by
  rcases jbo h with ⟨i,t,rfl,rfl⟩ | ⟨x,t,rfl,rfl⟩ <;> rfl
 pyHash:=fun hv h=>by
  rcases jbo hv with ⟨i,t,rfl,rfl⟩ | ⟨x,t,rfl,rfl⟩
  ·exact wpAny_pyHash_int h
  ·exact wpAny_pyHash_str h
 eqBool:=fun hu hv h=>by
  rcases jbo hu with ⟨i,t,rfl,rfl⟩ | ⟨x,t,rfl,rfl⟩
  ·rcases jbo hv with ⟨j,u,rfl,rfl⟩ | ⟨y,u,rfl,rfl⟩
   ·rw [key_ll] at h; exact wpAny_eqBool_int h
   ·rw [key_lr] at h; exact SeqAt.EqAt.int_str i t y u _ _ _ _ h
  ·rcases jbo hv with ⟨j,u,rfl,rfl⟩ | ⟨y,u,rfl,rfl⟩
   ·rw [key_rl] at h; exact SeqAt.EqAt.str_int x t j u _ _ _ _ h
   ·rw [key_rr] at h; exact wpAny_eqBool_str h
 «strs»:=fun k x t v h=>by
  rcases jbo h with ⟨i,u,rfl,e⟩ | ⟨y,u,rfl,e⟩
  ·exact nomatch e
  ·injection e with e1 _
   subst e1
   cases v <;> rfl
theorem jl6 (prog:Program) (w:World) (i:Int) (t:Tok):(jbl prog w).is (.inl i) (.int i t) = true:=jp6 i t
theorem jl5 (prog:Program) (w:World) (x:Str) (t:Tok):(jbl prog w).is (.inr x) (.str x t) = true:=jp5 x t
end L2
namespace L2
open PySem PySem.Spec PyProof.Rows
inductive V where
 | non | bl (b:Bool) | int (i:Int) | str (x:Str) | byt (b:Array UInt8) | flt (b:UInt64) | ref (a:Addr) | ty (n:String)
 deriving DecidableEq
def RelV:V→Value→Prop
 | .non,u=>u = Value.none
 | .bl b,u=>u = Value.bool b
 | .int i,u=>∃ t,u = Value.int i t
 | .str x,u=>∃ t,u = Value.str x t
 | .byt b,u=>∃ t,u = Value.bytes b t
 | .flt b,u=>∃ t,u = Value.float b t
 | .ref a,u=>u = Value.ref a
 | .ty n,u=>u = Value.type n
abbrev Vals:List V→List Value→Prop:=Paired RelV
theorem Vals.length {xs:List V} {us:List Value} (r:Vals xs us):xs.length = us.length:=Paired.length r
theorem Vals.get:∀ {xs:List V} {us:List Value} {i:Nat} {x:V},Vals xs us→xs[i]? = some x→∃ u,us[i]? = some u∧RelV x u
 | _,_,_,_,.nil,e=>by simp at e
 | _,_,0,_,.cons r _,e=>by simp at e; subst e; exact ⟨_,rfl,r⟩
 | _,_,i + 1,x,.cons _ t,e=>by
  obtain ⟨u,h1,h2⟩:=Vals.get (i:=i) (x:=x) t (by simpa using e)
  exact ⟨u,by simpa using h1,h2⟩
theorem Vals.set {x:V} {u:Value} (r:RelV x u):∀ {xs:List V} {us:List Value} (i:Nat),Vals xs us→Vals (xs.set i x) (us.set i u)
 | _,_,_,.nil=>.nil
 | _,_,0,.cons _ t=>.cons r t
 | _,_,i + 1,.cons q t=>.cons q (Vals.set r i t)
theorem Vals.append:∀ {xs ys:List V} {us ws:List Value},Vals xs us→Vals ys ws→Vals (xs ++ ys) (us ++ ws)
 | _,_,_,_,.nil,s=>s
 | _,_,_,_,.cons r t,s=>.cons r (Vals.append t s)
theorem Vals.take:∀ {xs:List V} {us:List Value} (n:Nat),Vals xs us→Vals (xs.take n) (us.take n)
 | _,_,0,_=>.nil
 | _,_,_ + 1,.nil=>.nil
 | _,_,n + 1,.cons r t=>.cons r (Vals.take n t)
theorem Vals.drop:∀ {xs:List V} {us:List Value} (n:Nat),Vals xs us→Vals (xs.drop n) (us.drop n)
 | _,_,0,r=>r
 | _,_,_ + 1,.nil=>.nil
 | _,_,n + 1,.cons _ t=>Vals.drop n t
def RelO:Option V→Option Value→Prop
 | some v,some u=>RelV v u
 | none,none=>True
 | _,_=>False
def KV {κ:Type}:List (κ × V)→List (κ × Value)→Prop:=Paired fun (p:κ × V) (q:κ × Value)=>p.1 = q.1∧RelV p.2 q.2
def kV:Key→V
 | .inl i=>.int i
 | .inr x=>.str x
inductive HO where
 | lst (xs:List V)
 | tup (xs:List V)
 | dK (kvs:List (Key × V)) | dT (kvs:List (List Key × V))
 | set (S:Int→Bool) (n:Nat)
 | ins (C dx:Addr) (fs:List (Str × V))
 | own (x:Addr)
 | xd (fs:List (Str × V))
 | met (f x:Addr)
 | rng (lo hi:Int)
 | frz (o:Obj) (u:HO)
 | tbl (ps:Array Value)
 | ext (φ:Heap→Prop)
abbrev Hp:=Addr→Option HO
def upd (H:Hp) (a:Addr) (o:HO):Hp:=fun b=>if b = a then some o else H b
theorem ja1 {H:Hp} {a:Addr} {o:HO}:upd H a o a = some o:=by unfold upd; rw [if_pos rfl]
theorem jae {H:Hp} {a b:Addr} {o:HO} (h:b ≠ a):upd H a o b = H b:=by unfold upd; rw [if_neg h]
theorem jf5 {H:Hp} {a:Addr} {o u:HO}:upd (upd H a o) a u = upd H a u:=by
 funext b; unfold upd; split <;> rfl
theorem ne_of {H:Hp} {a b:Addr} {o u:HO} (h:H a = some o) (h':H b = some u) (d:o ≠ u):a ≠ b:=by
 intro e; subst e; rw [h] at h'; exact d (Option.some.inj h')
theorem jab {H:Hp} {a b:Addr} {o:HO} (h:H a = some o) (h':H b = none):a ≠ b:=by
 intro e; subst e; rw [h] at h'; cases h'
section
variable (P:Program) (w:World)
def jc9 (H:Hp) (h:Heap) (a:Addr):HO→Prop
 | .lst xs=>xs.length ≤ sizeLine∧∃ (its:List Value) (n:Nat),Vals xs its∧h.get? a = some { cls:=.type "list",data:=.seq its.toArray n }
 | .tup xs=>xs.length ≤ sizeLine∧∃ its:List Value,Vals xs its∧IsTup h a its.toArray
 | .dK kvs=>kvs.length ≤ sizeLine∧(a == sysModules) = false∧∃ vs,KV kvs vs∧h.DictOf (jbl P w) a vs
 | .dT kvs=>kvs.length ≤ sizeLine∧(a == sysModules) = false∧∃ xs:List (List Key × Addr × Value),
   Paired (fun (p:List Key × V) (q:List Key × Addr × Value)=>p.1 = q.1∧H q.2.1 = some (.tup (p.1.map kV))∧RelV p.2 q.2.2) kvs xs ∧
   ∃ o es ep,h.get? a = some o∧o.ExactDict∧o.data = .dict es ep∧es.toList = xs.map (entryOfKey (tupleKind (jbl P w)))∧(xs.map (·.1)).Nodup
 | .set S n=>h.SetOf (intKind P w) a S n
 | .ins C dx fs=>H dx = some (.own a)∧fs.length ≤ 1000∧dx ≠ a∧h.get? a = some (PySem.W.instObj C dx) ∧
   ∃ mA,h.Ns1 dx mA∧(∀ f,RelO (fs.lookup f) (mA f))∧PySem.Within mA (fs.map (·.1))
 | .own _=>∃ o,h.get? a = some o
 | .xd fs=>∃ mA,h.Ns1 a mA∧∀ f,RelO (fs.lookup f) (mA f)
 | .rng lo hi=>∃ t u v,h.get? a = some { cls:=.type "range",data:=.fields #[.int lo t,.int hi u,.int 1 v] }
 | .frz o u=>h.get? a = some o∧jc9 H h a u
 | .tbl ps=>h.get? a = some { cls:=.none,data:=.fields ps }
 | .met f x=>h.get? a = some (PySem.W.methodObj (.ref f) (.ref x))
 | .ext φ=>φ h∧(∃ o,h.get? a = some o)∧∀ h1 h2:Heap,φ h1→(∀ o,h1.get? a = some o→h2.get? a = some o)→φ h2
def HOk (H:Hp) (h:Heap):Prop:=∀ a o,H a = some o→jc9 P w H h a o
end
section
variable {P:Program} {w:World} {H H':Hp} {h h':Heap} {a:Addr} {o:HO}
theorem jc9.lt (x:jc9 P w H h a o):a < h.objs.size:=by
 cases o with
 | lst xs=>obtain ⟨_,_,_,_,e⟩:=x; exact Heap.lt_size e
 | tup xs=>obtain ⟨_,_,_,p⟩:=x; exact p.lt
 | dK kvs=>obtain ⟨_,_,_,_,o,_,_,e,_⟩:=x; exact Heap.lt_size e
 | dT kvs=>obtain ⟨_,_,_,_,o,_,_,e,_⟩:=x; exact Heap.lt_size e
 | set S n=>obtain ⟨o,_,_,_,e,_⟩:=x; exact Heap.lt_size e
 | ins C dx fs=>obtain ⟨_,_,_,e,_⟩:=x; exact Heap.lt_size e
 | own y=>obtain ⟨_,e⟩:=x; exact Heap.lt_size e
 | xd fs=>obtain ⟨_,⟨_,_,_,e,_⟩,_⟩:=x; exact Heap.lt_size e
 | rng lo hi=>obtain ⟨_,_,_,e⟩:=x; exact Heap.lt_size e
 | frz ob u=>obtain ⟨e,_⟩:=x; exact Heap.lt_size e
 | tbl ps=>exact Heap.lt_size (show h.get? a = some _ from x)
 | met f y=>exact Heap.lt_size (show h.get? a = some _ from x)
 | ext φ=>obtain ⟨_,⟨_,e⟩,_⟩:=x; exact Heap.lt_size e
theorem Paired.mapP {α β:Type} {F G:α→β→Prop}:∀ {l₁:List α} {l₂:List β},Paired F l₁ l₂→(∀ a b,F a b→G a b)→Paired G l₁ l₂
 | _,_,.nil,_=>.nil
 | _,_,.cons r t,f=>.cons (f _ _ r) (Paired.mapP t f)
theorem jc9.stay (x:jc9 P w H h a o) (k:∀ b u,(b = a ∨ H b = some (.own a))→h.get? b = some u→h'.get? b = some u)
  (ho:∀ b,H b = some (.own a)→H' b = some (.own a)) (ht:∀ b xs,H b = some (.tup xs)→H' b = some (.tup xs)):jc9 P w H' h' a o:=by
 induction o with
 | lst xs=>obtain ⟨z,its,n,r,e⟩:=x; exact ⟨z,its,n,r,k _ _ (.inl rfl) e⟩
 | tup xs=>obtain ⟨z,its,r,ob,e,c⟩:=x; exact ⟨z,its,r,ob,k _ _ (.inl rfl) e,c⟩
 | dK kvs=>obtain ⟨z,y,vs,r,ob,es,ep,e,c⟩:=x; exact ⟨z,y,vs,r,ob,es,ep,k _ _ (.inl rfl) e,c⟩
 | dT kvs =>
  obtain ⟨z,y,xs,r,ob,es,ep,e,c⟩:=x
  exact ⟨z,y,xs,Paired.mapP r fun p q z=>⟨z.1,ht _ _ z.2.1,z.2.2⟩,ob,es,ep,k _ _ (.inl rfl) e,c⟩
 | set S n=>obtain ⟨ob,es,ep,t,e,c⟩:=x; exact ⟨ob,es,ep,t,k _ _ (.inl rfl) e,c⟩
 | ins C dx fs =>
  obtain ⟨d,z,ne,e,mA,⟨od,es,ep,e2,c⟩,r⟩:=x
  exact ⟨ho _ d,z,ne,k _ _ (.inl rfl) e,mA,⟨od,es,ep,k _ _ (.inr d) e2,c⟩,r⟩
 | own y=>obtain ⟨ob,e⟩:=x; exact ⟨ob,k _ _ (.inl rfl) e⟩
 | xd fs=>obtain ⟨mA,⟨od,es,ep,e,c⟩,r⟩:=x; exact ⟨mA,⟨od,es,ep,k _ _ (.inl rfl) e,c⟩,r⟩
 | rng lo hi=>obtain ⟨t,u,v,e⟩:=x; exact ⟨t,u,v,k _ _ (.inl rfl) e⟩
 | frz ob u ih=>obtain ⟨e,q⟩:=x; exact ⟨k _ _ (.inl rfl) e,ih q⟩
 | tbl ps =>
  have e:h.get? a = some { cls:=.none,data:=.fields ps }:=x
  show h'.get? a = some { cls:=.none,data:=.fields ps }
  exact k a _ (.inl rfl) e
 | met f y =>
  have e:h.get? a = some (PySem.W.methodObj (.ref f) (.ref y)):=x
  show h'.get? a = some (PySem.W.methodObj (.ref f) (.ref y))
  exact k a _ (.inl rfl) e
 | ext φ=>obtain ⟨p,⟨o,e⟩,st⟩:=x; exact ⟨st _ _ p fun o q=>k _ _ (.inl rfl) q,⟨o,k _ _ (.inl rfl) e⟩,st⟩
theorem HOk.lt (x:HOk P w H h) (e:H a = some o):a < h.objs.size:=(x a o e).lt
theorem HOk.fresh (x:HOk P w H h) (e:h.objs.size ≤ a):H a = none:=by
 cases q:H a with
 | none=>rfl
 | some u=>exact absurd (Nat.lt_of_lt_of_le (x.lt q) e) (Nat.lt_irrefl _)
theorem HOk.kept (x:HOk P w H h) (k:∀ b u,h.get? b = some u→h'.get? b = some u):HOk P w H h':=fun a o e =>
 (x a o e).stay (fun b u _ q=>k b u q) (fun _ q=>q) fun _ _ q=>q
theorem HOk.laid (x:HOk P w H h) (k:∀ b u,h.get? b = some u→h'.get? b = some u) (hp:h.objs.size ≤ a) (new:jc9 P w (upd H a o) h' a o):HOk P w (upd H a o) h':=fun b u e=>by
 have hn:=x.fresh hp
 by_cases hb:b = a
 ·subst hb; rw [ja1] at e; cases e; exact new
 ·rw [jae hb] at e
  exact (x b u e).stay (fun c v _ q=>k c v q) (fun c q=>by rw [jae (jab q hn)]; exact q) fun c xs q=>by rw [jae (jab q hn)]; exact q
end
def Rd (H:Hp) (a:Addr) (u:HO):Prop:=H a = some u ∨ ∃ o,H a = some (.frz o u)
theorem Rd.of {H:Hp} {a:Addr} {u:HO} (h:H a = some u):Rd H a u:=.inl h
theorem Rd.ok {P:Program} {w:World} {H:Hp} {h:Heap} {a:Addr} {u:HO} (r:Rd H a u) (x:HOk P w H h):jc9 P w H h a u:=by
 rcases r with r | ⟨o,r⟩
 ·exact x a u r
 ·obtain ⟨_,q⟩:=x a _ r
  exact q
def Mut:Option HO→Prop
 | some (.lst _)=>True
 | some (.dK _)=>True
 | some (.dT _)=>True
 | some (.set _ _)=>True
 | some (.ins _ _ _)=>True
 | some (.ext _)=>True
 | _=>False
section
variable {P:Program} {w:World} {H:Hp} {h h':Heap} {x e:Addr} {o':HO}
theorem HOk.write (ok:HOk P w H h) (mu:Mut (H x)) (he:e = x ∨ H e = some (.own x)) (k:∀ b u,b ≠ e→h.get? b = some u→h'.get? b = some u) (heo:∃ u,h'.get? e = some u)
  (new:jc9 P w (upd H x o') h' x o'):HOk P w (upd H x o') h':=fun b u q=>by
 have nown:∀ c y,H c = some (.own y)→c ≠ x:=fun c y r z=>by subst z; rw [r] at mu; exact mu
 have ntup:∀ c xs,H c = some (.tup xs)→c ≠ x:=fun c xs r z=>by subst z; rw [r] at mu; exact mu
 by_cases hb:b = x
 ·subst hb; rw [ja1] at q; cases q; exact new
 ·rw [jae hb] at q
  by_cases hbe:b = e
  ·have q':H b = some (.own x):=by
    rcases he with z | z
    ·exact absurd (hbe.trans z) hb
    ·rw [hbe]; exact z
   rw [q] at q'; cases q'
   obtain ⟨v,hv⟩:=heo
   exact ⟨v,by rw [hbe]; exact hv⟩
  ·refine (ok b u q).stay (fun c v hc r=>k c v ?_ r) (fun c r=>by rw [jae (nown c b r)]; exact r) fun c xs r=>by rw [jae (ntup c xs r)]; exact r
   rcases hc with rfl | hc
   ·exact hbe
   ·rintro rfl
    rcases he with z | z
    ·exact nown c b hc z
    ·rw [hc] at z; cases z; exact hb rfl
end
structure Un (fs ex:List Addr) (H H':Hp) (h h':Heap):Prop where
 keep:∀ b o,h.get? b = some o→H b = none→b ∉ fs→b ∉ ex→h'.get? b = some o
 slot:∀ b o,h.get? b = some o→H b = none→b ∈ fs→b ∉ ex→∃ sl,h'.get? b = some { o with slots:=sl }
 free:∀ b o,h.get? b = some o→H b = none→b ∉ ex→H' b = none
 there:∀ b o,h.get? b = some o→b ∉ ex→∃ o',h'.get? b = some o'
 tups:∀ b xs,H b = some (.tup xs)→H' b = some (.tup xs)
 frzs:∀ b o u,H b = some (.frz o u)→H' b = some (.frz o u)
 tbls:∀ b ps,H b = some (.tbl ps)→∃ more,H' b = some (.tbl (ps ++ more))
section
variable {fs fs' ex ex':List Addr} {H H1 H2:Hp} {h h1 h2 h':Heap} {a x e:Addr} {o:HO}
theorem Un.any (u:Un fs ex H H1 h h1) {b:Addr} {ob:Obj} (q:h.get? b = some ob) (n:H b = none) (hx:b ∉ ex):∃ sl,h1.get? b = some { ob with slots:=sl }:=by
 by_cases hb:b ∈ fs
 ·exact u.slot b ob q n hb hx
 ·exact ⟨ob.slots,u.keep b ob q n hb hx⟩
theorem Un.trans (a:Un fs ex H H1 h h1) (b:Un fs ex H1 H2 h1 h2):Un fs ex H H2 h h2 where
 keep:=fun c ob q n hc hx=>b.keep c ob (a.keep c ob q n hc hx) (a.free c ob q n hx) hc hx
 slot:=fun c ob q n hc hx=>by
  obtain ⟨sl,e1⟩:=a.slot c ob q n hc hx
  obtain ⟨sl',e2⟩:=b.slot c _ e1 (a.free c ob q n hx) hc hx
  exact ⟨sl',e2⟩
 free:=fun c ob q n hx=>by
  obtain ⟨o',e1⟩:=a.there c ob q hx
  exact b.free c o' e1 (a.free c ob q n hx) hx
 there:=fun c ob q hx=>by
  obtain ⟨o',e1⟩:=a.there c ob q hx
  exact b.there c o' e1 hx
 tups:=fun c xs q=>b.tups c xs (a.tups c xs q)
 frzs:=fun c ob xs q=>b.frzs c ob xs (a.frzs c ob xs q)
 tbls:=fun c ps q=>by
  obtain ⟨m1,e1⟩:=a.tbls c ps q
  obtain ⟨m2,e2⟩:=b.tbls c _ e1
  exact ⟨m1 ++ m2,by rw [e2,Array.append_assoc]⟩
theorem Un.kept (k:∀ b u,h.get? b = some u→h'.get? b = some u):Un fs ex H H h h' :=
 ⟨fun b ob q _ _ _=>k b ob q,fun b ob q _ _ _=>⟨ob.slots,k b ob q⟩,fun _ _ _ n _=>n,fun b ob q _=>⟨ob,k b ob q⟩,fun _ _ q=>q,fun _ _ _ q=>q,fun _ ps q=>⟨#[],by rw [q]; simp⟩⟩
theorem Un.refl:Un fs ex H H h h:=Un.kept fun _ _ q=>q
theorem Un.laid (k:∀ b u,h.get? b = some u→h'.get? b = some u) (hp:h.objs.size ≤ a) (hn:H a = none):Un fs ex H (upd H a o) h h' where
 keep:=fun b u q _ _ _=>k b u q
 slot:=fun b u q _ _ _=>⟨u.slots,k b u q⟩
 free:=fun b u q n _=>by rw [jae (Nat.ne_of_lt (Nat.lt_of_lt_of_le (Heap.lt_size q) hp))]; exact n
 there:=fun b u q _=>⟨u,k b u q⟩
 tups:=fun b xs q=>by rw [jae (jab q hn)]; exact q
 frzs:=fun b u xs q=>by rw [jae (jab q hn)]; exact q
 tbls:=fun b ps q=>⟨#[],by rw [jae (jab q hn),q]; simp⟩
theorem Un.write (mu:Mut (H x)) (he:e = x ∨ H e = some (.own x)) (k:∀ b u,b ≠ e→h.get? b = some u→h'.get? b = some u) (heo:∃ u,h'.get? e = some u):Un fs ex H (upd H x o) h h':=by
 have hx:∀ b,H b = none→b ≠ x:=fun b n z=>by subst z; rw [n] at mu; exact mu
 have hb:∀ b,H b = none→b ≠ e:=fun b n z=>by
  subst z
  rcases he with r | r
  ·exact hx b n r
  ·rw [n] at r; cases r
 have hm:∀ b u,H b = some u→¬ Mut (some u)→b ≠ x:=fun b u q nm z=>by subst z; rw [q] at mu; exact nm mu
 refine ⟨fun b u q n _ _=>k b u (hb b n) q,fun b u q n _ _=>⟨u.slots,k b u (hb b n) q⟩,fun b u q n _=>by rw [jae (hx b n)]; exact n,fun b u q _=>?_,
  fun b xs q=>by rw [jae (hm b _ q fun z=>z)]; exact q,fun b u xs q=>by rw [jae (hm b _ q fun z=>z)]; exact q,fun b ps q=>⟨#[],by rw [jae (hm b _ q fun z=>z),q]; simp⟩⟩
 by_cases hbe:b = e
 ·subst hbe; exact heo
 ·exact ⟨u,k b u hbe q⟩
theorem Un.mono (u:Un fs ex H H1 h h1) (hs:∀ b ∈ fs,b ∈ fs') (hx:∀ b ∈ ex,b ∈ ex'):Un fs' ex' H H1 h h1 :=
 ⟨fun b ob q n hb he=>u.keep b ob q n (fun z=>hb (hs b z)) fun z=>he (hx b z),fun _ _ q n _ he=>u.any q n fun z=>he (hx _ z),fun b ob q n he=>u.free b ob q n fun z=>he (hx b z),fun b ob q he=>u.there b ob q fun z=>he (hx b z),u.tups,u.frzs,u.tbls⟩
end
def trk (h:Heap) (H:Hp):List Addr:=(List.range h.objs.size).filter fun a=>(H a).isSome
def hidT (h:Heap) (H:Hp):Heap:=PySem.W.hideAll h (trk h H)
theorem jpd (h:Heap) (H:Hp):(hidT h H).objs.size = h.objs.size:=PySem.W.hideAll_size _ _
theorem jqv {h:Heap} {H:Hp} {b:Addr} {o:Obj} (e:h.get? b = some o) (n:H b = none):(hidT h H).get? b = some o :=
 PySem.W.hideAll_get _ e fun hm=>by
  have q:(H b).isSome = true:=(List.mem_filter.mp hm).2
  rw [n] at q; simp at q
theorem jsl {h:Heap} {H:Hp} {b:Addr} {o:Obj} (e:(hidT h H).get? b = some o):h.get? b = some o∧H b = none:=by
 have e':h.get? b = some o:=PySem.W.of_hideAll (trk h H) e
 refine ⟨e',?_⟩
 cases q:H b with
 | none=>rfl
 | some x =>
  have hm:b ∈ trk h H:=List.mem_filter.mpr ⟨List.mem_range.mpr (Heap.lt_size e'),by simp [q]⟩
  have z:(hidT h H).get? b = none:=PySem.W.hideAll_none (trk h H) hm
  rw [z] at e; cases e
end L2
namespace L2
open PySem PySem.Spec PyProof.Rows
structure Mod (K:PySem.W.Frag) (mg:Str→Option Value) (base:Heap):Prop where
 kin:K.In base
 glob:base.Ns mainGlobals mg
 blt:∃ mb,base.Ns builtinsNs mb∧∀ x:Str,x ≠ "__name__"→mb x = bootBuiltins x
 nolimit:base.NoLimit
structure Cx where
 prog:Program
 w:World
 K:PySem.W.Frag
 mg:Str→Option Value
 base:Heap
 A:Around
 N:List Str
 s₀:Shared
 H₀:Hp
 env:Env
 outer:List Env
 stack:List Env
 ex:List Addr
 fn:Str→Bool
 calm:Bool
 pn:List (Addr × Obj)
 xe:Value→Shared→Prop
def frs (l:List Env):List Addr:=l.filterMap (·.frame)
abbrev Cx.fs (X:Cx):List Addr:=frs X.outer
def Vis (sc:Scope) (x:Str):Prop:=sc.names.lookup x = some .local ∨ sc.names.lookup x = some .cell ∨ sc.names.lookup x = some .free
def Loc (sc:Scope) (x:Str):Prop:=sc.names.lookup x = some .local ∨ sc.names.lookup x = some .cell
def Look (env:Env) (h:Heap) (m:Str→Option Value) (x:Str) (u:Value):Prop :=
 (env.kindOf x = some .local∧m x = some u) ∨ ((env.kindOf x = some .cell ∨ env.kindOf x = some .free)∧∃ c,env.cells.lookup x = some c∧h.IsCell c (some u))
structure Cx.Ok (X:Cx):Prop where
 mod:Mod X.K X.mg X.base
 kind:X.env.scope.kind = .function
 glob:X.env.globals = mainGlobals
 blt:X.env.builtins = builtinsNs
 above:X.s₀.heap.objs.size ≤ X.env.locals
 inj:∀ x y c,X.env.cells.lookup x = some c→X.env.cells.lookup y = some c→x = y
 has:∀ x,(X.env.kindOf x = some .cell ∨ X.env.kindOf x = some .free)→∃ c,X.env.cells.lookup x = some c
 cab:∀ x c,X.fn x = true→X.env.cells.lookup x = some c→X.s₀.heap.objs.size ≤ c
 hd:X.calm = true→X.A.handled = none
 frames:X.A.frames = some X.stack
 stk:X.stack = X.outer ∨ (X.stack = X.env :: X.outer∧X.env.frame = some X.env.locals)
 exf:∀ b ∈ X.ex,b ≠ X.env.locals∧∀ x c,X.env.cells.lookup x = some c→c ≠ b
 bs:∀ b o,X.base.get? b = some o→X.s₀.heap.get? b = some o∧X.H₀ b = none
 bsz:X.base.objs.size ≤ X.s₀.heap.objs.size
 noex:∀ b o,X.base.get? b = some o→b ∉ X.ex
 exfs:∀ b ∈ X.ex,b ∉ X.fs
 funs:X.s₀.heap.FunFrames X.base X.outer
 frf:∀ b ∈ X.fs,X.H₀ b = none
structure Inv (X:Cx) (pins:List (Addr × Obj)) (σ:List (Option V)) (H:Hp) (s:Shared):Prop where
 ok:X.Ok
 os:s.os = X.s₀.os
 bare:AllBare s.gens
 base:Un X.fs X.ex X.H₀ H X.s₀.heap s.heap
 loc:∃ m,s.heap.Ns X.env.locals m∧∀ (i:Nat) (x:Str) (v:V),X.N[i]? = some x→σ[i]? = some (some v)→Vis X.env.scope x→∃ u,RelV v u∧Look X.env s.heap m x u
 cell:∀ x c,X.env.cells.lookup x = some c→∃ v,s.heap.IsCell c v
 free:H X.env.locals = none
 freeC:∀ x c,X.env.cells.lookup x = some c→H c = none
 pin:∀ p ∈ X.pn ++ pins,s.heap.get? p.1 = some p.2∧H p.1 = none∧p.1 ≠ X.env.locals∧p.1 ∉ X.fs∧∀ v,p.2.data ≠ .cell v
 hok:HOk X.prog X.w H s.heap
 len:σ.length = X.N.length
section
variable {X:Cx} {pins:List (Addr × Obj)} {σ:List (Option V)} {H H':Hp} {s:Shared} {h':Heap}
theorem Cx.Ok.nofr (ok:X.Ok) {b:Addr} {o:Obj} (e:X.base.get? b = some o):b ∉ X.fs:=fun hb=>by
 have:=(ok.funs.mem hb).1
 rw [e] at this; cases this
theorem Inv.bs (I:Inv X pins σ H s):∀ b o,X.base.get? b = some o→s.heap.get? b = some o∧H b = none:=fun b o e =>
 ⟨I.base.keep b o (I.ok.bs b o e).1 (I.ok.bs b o e).2 (I.ok.nofr e) (I.ok.noex b o e),I.base.free b o (I.ok.bs b o e).1 (I.ok.bs b o e).2 (I.ok.noex b o e)⟩
theorem Inv.bk (I:Inv X pins σ H s):∀ b o,X.base.get? b = some o→s.heap.get? b = some o:=fun b o e=>(I.bs b o e).1
theorem Inv.mod (I:Inv X pins σ H s):Mod X.K X.mg X.base:=I.ok.mod
theorem Inv.kIn (I:Inv X pins σ H s):X.K.In s.heap:=I.ok.mod.kin.keeps I.bk
theorem Inv.fr (I:Inv X pins σ H s):∃ m,Fr X.base X.env.locals s.heap m :=
 let ⟨m,hn,_⟩:=I.loc
 ⟨m,hn,I.bk,Nat.le_trans I.ok.bsz I.ok.above⟩
theorem Inv.lt (I:Inv X pins σ H s):X.env.locals < s.heap.objs.size:=let ⟨_,hn,_⟩:=I.loc; hn.lt
theorem Inv.sz (I:Inv X pins σ H s):X.s₀.heap.objs.size ≤ s.heap.objs.size:=Nat.le_trans I.ok.above (Nat.le_of_lt I.lt)
theorem Inv.nofs (I:Inv X pins σ H s) {a:Addr} (h:s.heap.objs.size ≤ a):a ∉ X.fs:=fun hb=>by
 obtain ⟨_,o,ho,_⟩:=I.ok.funs.mem hb
 exact absurd (Nat.lt_of_lt_of_le (Heap.lt_size ho) (Nat.le_trans I.sz h)) (Nat.lt_irrefl _)
theorem Inv.cne (I:Inv X pins σ H s):∀ x c,X.env.cells.lookup x = some c→c ≠ X.env.locals:=fun x c e z=>by
 obtain ⟨v,o,ho,hd⟩:=I.cell x c e
 obtain ⟨m,⟨o',es,ep,ho',hd',_⟩,_⟩:=I.loc
 rw [z,ho'] at ho; cases ho; rw [hd'] at hd; cases hd
theorem Inv.funs (I:Inv X pins σ H s):s.heap.FunFrames X.base X.outer:=by
 have all:∀ (l:List Env),(∀ b ∈ frs l,b ∈ X.fs)→X.s₀.heap.FunFrames X.base l→s.heap.FunFrames X.base l:=by
  intro l
  induction l with
  | nil=>intro _ _; trivial
  | cons env r ih =>
   intro hs hl
   obtain ⟨hk,⟨L,o,hf,hn,ho,hd⟩,hr⟩:=hl
   have hL:L ∈ X.fs:=hs L (by unfold frs; rw [List.filterMap_cons,hf]; exact List.mem_cons_self)
   obtain ⟨sl,e⟩:=I.base.slot L o ho (I.ok.frf L hL) hL fun z=>I.ok.exfs L z hL
   exact ⟨hk,⟨L,_,hf,hn,e,hd⟩,ih (fun b hb=>hs b (by unfold frs; rw [List.filterMap_cons,hf]; exact List.mem_cons_of_mem _ hb)) hr⟩
 exact all X.outer (fun _ hb=>hb) I.ok.funs
theorem Inv.stack (I:Inv X pins σ H s):s.heap.FunFrames X.base X.stack:=by
 rcases I.ok.stk with e | ⟨e,hf⟩
 ·rw [e]; exact I.funs
 ·rw [e]
  obtain ⟨m,hn,_⟩:=I.loc
  refine .cons (by rw [I.ok.kind]; decide) hf hn ?_ I.funs
  exact Heap.get?_none_of_le (Nat.le_trans I.ok.bsz I.ok.above)
theorem Inv.stkSub (I:Inv X pins σ H s):∀ b ∈ frs X.stack,b ∈ X.env.locals :: X.fs:=fun b hb=>by
 rcases I.ok.stk with e | ⟨e,hf⟩
 ·rw [e] at hb; exact List.mem_cons_of_mem _ hb
 ·rw [e] at hb
  unfold frs at hb
  rw [List.filterMap_cons,hf] at hb
  exact hb
theorem Inv.stkFree (I:Inv X pins σ H s):∀ b ∈ frs X.stack,H b = none:=fun b hb=>by
 rcases List.mem_cons.mp (I.stkSub b hb) with e | hb
 ·rw [e]; exact I.free
 ·obtain ⟨_,o,ho,_⟩:=I.ok.funs.mem hb
  exact I.base.free b o ho (I.ok.frf b hb) fun z=>I.ok.exfs b z hb
theorem Inv.step {g':Array GenState} {t':Nat} {d':Drawn} {ch:List Addr} (I:Inv X pins σ H s)
  (hch:∀ b ∈ ch,(b ∈ X.ex ∨ X.s₀.heap.objs.size ≤ b)∧b ≠ X.env.locals∧(∀ x c,X.env.cells.lookup x = some c→c ≠ b)∧∀ p ∈ X.pn ++ pins,p.1 ≠ b)
  (keep:∀ b o,b ≠ X.env.locals→b ∉ X.fs→b ∉ ch→s.heap.get? b = some o→H b = none→h'.get? b = some o)
  (slot:∀ b o,b ≠ X.env.locals→b ∈ X.fs→b ∉ ch→s.heap.get? b = some o→H b = none→∃ sl,h'.get? b = some { o with slots:=sl }) (free:∀ b o,b ∉ ch→s.heap.get? b = some o→H b = none→H' b = none)
  (there:∀ b o,b ∉ ch→s.heap.get? b = some o→∃ o',h'.get? b = some o')
  (tups:∀ b xs,H b = some (.tup xs)→H' b = some (.tup xs)) (frzs:∀ b o u,H b = some (.frz o u)→H' b = some (.frz o u)) (tbls:∀ b ps,H b = some (.tbl ps)→∃ more,H' b = some (.tbl (ps ++ more)))
  (ns:∀ m,s.heap.Ns X.env.locals m→h'.Ns X.env.locals m) (hok:HOk X.prog X.w H' h') (hg:AllBare g') :
  Inv X pins σ H' { s with heap:=h',gens:=g',drawn:=d',toks:=t' }:=by
 have neL:∀ b o,X.s₀.heap.get? b = some o→b ≠ X.env.locals:=fun b o e=>Nat.ne_of_lt (Nat.lt_of_lt_of_le (Heap.lt_size e) I.ok.above)
 have neC:∀ b o,X.s₀.heap.get? b = some o→b ∉ X.ex→b ∉ ch:=fun b o e hx hb=>by
  rcases (hch b hb).1 with z | z
  ·exact hx z
  ·exact absurd (Nat.lt_of_lt_of_le (Heap.lt_size e) z) (Nat.lt_irrefl _)
 have cellK:∀ x c,X.env.cells.lookup x = some c→∀ v,s.heap.IsCell c v→h'.IsCell c v:=fun x c e v ⟨o,ho,hd⟩=>by
  have nch:c ∉ ch:=fun z=>(hch c z).2.2.1 x c e rfl
  by_cases hc:c ∈ X.fs
  ·obtain ⟨sl,q⟩:=slot c o (I.cne x c e) hc nch ho (I.freeC x c e)
   exact ⟨_,q,hd⟩
  ·exact ⟨o,keep c o (I.cne x c e) hc nch ho (I.freeC x c e),hd⟩
 refine ⟨I.ok,I.os,hg,⟨fun b o e n hb hx=>?_,fun b o e n hb hx=>?_,fun b o e n hx=>?_,fun b o e hx=>?_,fun b xs e=>tups b xs (I.base.tups b xs e),fun b o xs e=>frzs b o xs (I.base.frzs b o xs e),fun b ps e=>?_⟩,?_,fun x c e=>?_,?_,fun x c e=>?_,fun p hp=>?_,hok,I.len⟩
 ·exact keep b o (neL b o e) hb (neC b o e hx) (I.base.keep b o e n hb hx) (I.base.free b o e n hx)
 ·obtain ⟨sl,e1⟩:=I.base.slot b o e n hb hx
  obtain ⟨sl',e2⟩:=slot b _ (neL b o e) hb (neC b o e hx) e1 (I.base.free b o e n hx)
  exact ⟨sl',e2⟩
 ·obtain ⟨o',e1⟩:=I.base.there b o e hx
  exact free b o' (neC b o e hx) e1 (I.base.free b o e n hx)
 ·obtain ⟨o',e1⟩:=I.base.there b o e hx
  exact there b o' (neC b o e hx) e1
 ·obtain ⟨m1,e1⟩:=I.base.tbls b ps e
  obtain ⟨m2,e2⟩:=tbls b _ e1
  exact ⟨m1 ++ m2,by rw [e2,Array.append_assoc]⟩
 ·obtain ⟨m,hn,hl⟩:=I.loc
  refine ⟨m,ns m hn,fun i x v e1 e2 e3=>?_⟩
  obtain ⟨u,r,l⟩:=hl i x v e1 e2 e3
  refine ⟨u,r,?_⟩
  rcases l with l | ⟨k,c,e,z⟩
  ·exact .inl l
  ·exact .inr ⟨k,c,e,cellK x c e _ z⟩
 ·obtain ⟨v,z⟩:=I.cell x c e
  exact ⟨v,cellK x c e v z⟩
 ·obtain ⟨m,⟨o,_,_,ho,_⟩,_⟩:=I.loc
  exact free _ o (fun z=>(hch _ z).2.1 rfl) ho I.free
 ·obtain ⟨v,o,ho,hd⟩:=I.cell x c e
  exact free c o (fun z=>(hch c z).2.2.1 x c e rfl) ho (I.freeC x c e)
 ·obtain ⟨e,n,ne,nf,d⟩:=I.pin p hp
  have nch:p.1 ∉ ch:=fun z=>(hch p.1 z).2.2.2 p hp rfl
  exact ⟨keep p.1 p.2 ne nf nch e n,free p.1 p.2 nch e n,ne,nf,d⟩
theorem Inv.un {t':Nat} (I:Inv X pins σ H s) (u:Un X.fs [] H H' s.heap h') (hok:HOk X.prog X.w H' h'):Inv X pins σ H' { s with heap:=h',toks:=t' }:=by
 obtain ⟨m,⟨o,es,ep,ho,r⟩,_⟩:=id I.loc
 obtain ⟨sl,hL⟩:=u.any ho I.free (by simp)
 exact I.step (g':=s.gens) (d':=s.drawn) (ch:=[]) (fun _ z=>nomatch z) (fun b o _ hb _ e n=>u.keep b o e n hb (by simp)) (fun b o _ hb _ e n=>u.slot b o e n hb (by simp)) (fun b o _ e n=>u.free b o e n (by simp)) (fun b o _ e=>u.there b o e (by simp)) u.tups u.frzs u.tbls (fun m' hm=>by
  obtain ⟨o',es',ep',ho',r'⟩:=hm
  rw [ho] at ho'; cases ho'
  exact ⟨_,es',ep',hL,r'⟩) hok I.bare
theorem Inv.call {g':Array GenState} {t':Nat} {d':Drawn} {ch:List Addr} (I:Inv X pins σ H s) (u:Un (frs X.stack) ch H H' s.heap h') (hok:HOk X.prog X.w H' h') (hg:AllBare g')
  (hch:∀ b ∈ ch,(b ∈ X.ex ∨ X.s₀.heap.objs.size ≤ b)∧b ≠ X.env.locals∧(∀ x c,X.env.cells.lookup x = some c→c ≠ b)∧∀ p ∈ X.pn ++ pins,p.1 ≠ b) :
  Inv X pins σ H' { s with heap:=h',gens:=g',drawn:=d',toks:=t' }:=by
 obtain ⟨m,⟨o,es,ep,ho,r⟩,_⟩:=id I.loc
 obtain ⟨sl,hL⟩:=u.any ho I.free fun z=>(hch _ z).2.1 rfl
 exact I.step (ch:=ch) hch (fun b o hL hb hc e n=>u.keep b o e n (fun z=>(List.mem_cons.mp (I.stkSub b z)).elim hL hb) hc) (fun b o _ _ hc e n=>u.any e n hc) (fun b o hc e n=>u.free b o e n hc) (fun b o hc e=>u.there b o e hc) u.tups u.frzs u.tbls (fun m' hm=>by
  obtain ⟨o',es',ep',ho',r'⟩:=hm
  rw [ho] at ho'; cases ho'
  exact ⟨_,es',ep',hL,r'⟩) hok hg
theorem Inv.turned {t':Nat} {it:Addr} (I:Inv X pins σ H s) (k:∀ b o,b ≠ it→s.heap.get? b = some o→h'.get? b = some o) (hn:H it = none) (hL:it ≠ X.env.locals)
  (h1:it ∈ X.ex ∨ X.s₀.heap.objs.size ≤ it) (h2:∀ x c,X.env.cells.lookup x = some c→c ≠ it) (h3:∀ p ∈ X.pn ++ pins,p.1 ≠ it):Inv X pins σ H { s with heap:=h',toks:=t' }:=by
 have nit:∀ b u,H b = some u→b ≠ it:=fun b u e z=>by rw [z,hn] at e; cases e
 refine I.step (g':=s.gens) (d':=s.drawn) (ch:=[it]) (fun b hb=>?_) (fun b o _ _ hc e _=>k b o (fun z=>hc (by simp [z])) e) (fun b o _ _ hc e _=>⟨o.slots,k b o (fun z=>hc (by simp [z])) e⟩) (fun _ _ _ _ n=>n)
  (fun b o hc e=>⟨o,k b o (fun z=>hc (by simp [z])) e⟩) (fun _ _ e=>e) (fun _ _ _ e=>e) (fun b ps e=>⟨#[],by rw [e]; simp⟩) (fun m hm=>?_) (fun b u e=>?_) I.bare
 ·have e:b = it:=by simpa using hb
  subst e
  exact ⟨h1,hL,h2,h3⟩
 ·obtain ⟨o,es,ep,ho,r⟩:=hm
  exact ⟨o,es,ep,k _ o (Ne.symm hL) ho,r⟩
 ·refine (I.hok b u e).stay (fun c v hc q=>k c v ?_ q) (fun _ q=>q) fun _ _ q=>q
  rcases hc with z | z
  ·rw [z]; exact nit b u e
  ·exact nit c _ z
theorem Inv.tok (I:Inv X pins σ H s) (t:Nat):Inv X pins σ H { s with toks:=t }:=I.un (h':=s.heap) (t':=t) Un.refl I.hok
theorem Inv.kept {t':Nat} (I:Inv X pins σ H s) (k:∀ b u,s.heap.get? b = some u→h'.get? b = some u):Inv X pins σ H { s with heap:=h',toks:=t' }:=I.un (Un.kept k) (I.hok.kept k)
theorem Inv.laid {a:Addr} {o:HO} {t':Nat} (I:Inv X pins σ H s) (k:∀ b u,s.heap.get? b = some u→h'.get? b = some u) (hp:s.heap.objs.size ≤ a) (new:jc9 X.prog X.w (upd H a o) h' a o) :
  Inv X pins σ (upd H a o) { s with heap:=h',toks:=t' }:=I.un (Un.laid k hp (I.hok.fresh hp)) (I.hok.laid k hp new)
theorem Inv.write {x e:Addr} {o:HO} {t':Nat} (I:Inv X pins σ H s) (mu:Mut (H x)) (he:e = x ∨ H e = some (.own x)) (k:∀ b u,b ≠ e→s.heap.get? b = some u→h'.get? b = some u) (heo:∃ u,h'.get? e = some u)
  (new:jc9 X.prog X.w (upd H x o) h' x o):Inv X pins σ (upd H x o) { s with heap:=h',toks:=t' }:=I.un (Un.write mu he k heo) (I.hok.write mu he k heo new)
theorem Inv.pins_of {pins':List (Addr × Obj)} (I:Inv X pins σ H s) (h:∀ p ∈ pins',s.heap.get? p.1 = some p.2∧H p.1 = none∧p.1 ≠ X.env.locals∧p.1 ∉ X.fs∧∀ v,p.2.data ≠ .cell v):Inv X pins' σ H s :=
 ⟨I.ok,I.os,I.bare,I.base,I.loc,I.cell,I.free,I.freeC,fun p hp=>(List.mem_append.mp hp).elim (fun z=>I.pin p (List.mem_append_left _ z)) (h p),I.hok,I.len⟩
theorem jlz {N:List Str} (hN:N.Nodup) {i j:Nat} {x:Str} (a:N[i]? = some x) (b:N[j]? = some x):i = j:=by
 obtain ⟨h1,e1⟩:=List.getElem?_eq_some_iff.mp a
 obtain ⟨h2,e2⟩:=List.getElem?_eq_some_iff.mp b
 exact (List.getElem_inj hN).mp (e1.trans e2.symm)
theorem jj6 {M:Model} {A:Around} {E:Value→Shared→Prop} {i:Nat} {x:Str} {v:V} {u:Value} {Q:Unit→Shared→Prop} (I:Inv X pins σ H s) (hN:X.N.Nodup) (hi:X.N[i]? = some x) (hx:Loc X.env.scope x) (r:RelV v u)
  (h:∀ s',Inv X pins (σ.set i (some v)) H s'→(∃ a,Heap.SameBut a s.heap s'.heap∧(a = X.env.locals ∨ X.env.cells.lookup x = some a))→Q () s') (hf:X.fn x = true ∨ X.env.scope.names.lookup x = some .local:=by first | exact .inl rfl | exact .inr rfl | assumption):wpAny M A (storeName X.env x u) Q E s:=by
 obtain ⟨m,hn,hl⟩:=id I.loc
 have hcls:(X.env.scope.kind == .class || (X.env.scope.kind == .module && X.env.locals != X.env.globals)) = false:=by rw [I.ok.kind]; rfl
 have hiσ:i < σ.length:=by rw [I.len]; exact (List.getElem?_eq_some_iff.mp hi).1
 have cne:=I.cne
 have tracked:∀ {a:Addr} {h':Heap},(∃ o,s.heap.get? a = some o∧H a = none)→Heap.SameBut a s.heap h'→HOk X.prog X.w H h':=fun {a h'} ha hs b ob e=>by
  obtain ⟨_,_,hfree⟩:=ha
  refine (I.hok b ob e).stay (fun c w' hc q=>(hs.2 c ?_).trans q) (fun _ q=>q) fun _ _ q=>q
  rintro rfl
  rcases hc with rfl | hc
  ·rw [hfree] at e; cases e
  ·rw [hfree] at hc; cases hc
 rcases hx with hk | hk
 ·refine wpAny_storeName_local hk hn (fun h' hn' hs=>?_) hcls
  obtain ⟨oL,_,_,hoL,_⟩:=id hn
  refine h _ ⟨I.ok,I.os,I.bare,⟨fun b o e n hb hx=>?_,fun b o e n hb hx=>?_,I.base.free,fun b o e hx=>?_,I.base.tups,I.base.frzs,I.base.tbls⟩,⟨_,hn',fun j y v' e1 e2 e3=>?_⟩,fun y c e=>?_,I.free,I.freeC,fun p hp=>?_,tracked ⟨oL,hoL,I.free⟩ hs,by simpa using I.len⟩ ⟨_,hs,.inl rfl⟩
  ·exact (hs.2 b (Nat.ne_of_lt (Nat.lt_of_lt_of_le (Heap.lt_size e) I.ok.above))).trans (I.base.keep b o e n hb hx)
  ·obtain ⟨sl,e1⟩:=I.base.slot b o e n hb hx
   exact ⟨sl,(hs.2 b (Nat.ne_of_lt (Nat.lt_of_lt_of_le (Heap.lt_size e) I.ok.above))).trans e1⟩
  ·obtain ⟨o',e1⟩:=I.base.there b o e hx
   exact ⟨o',(hs.2 b (Nat.ne_of_lt (Nat.lt_of_lt_of_le (Heap.lt_size e) I.ok.above))).trans e1⟩
  ·by_cases hj:j = i
   ·subst hj
    rw [hi] at e1; cases e1
    rw [List.getElem?_set_self hiσ] at e2
    cases e2
    exact ⟨u,r,.inl ⟨hk,by simp⟩⟩
   ·rw [List.getElem?_set_ne (Ne.symm hj)] at e2
    obtain ⟨u',r',q⟩:=hl j y v' e1 e2 e3
    refine ⟨u',r',?_⟩
    rcases q with ⟨k,e⟩ | ⟨k,c,e,z⟩
    ·refine .inl ⟨k,?_⟩
     have:y ≠ x:=fun e=>hj (jlz hN e1 (e ▸ hi))
     simp [this,e]
    ·exact .inr ⟨k,c,e,z.sameBut hs (cne y c e)⟩
  ·obtain ⟨w',z⟩:=I.cell y c e
   exact ⟨w',z.sameBut hs (cne y c e)⟩
  ·obtain ⟨e,n,ne,nf,d⟩:=I.pin p hp
   exact ⟨(hs.2 p.1 ne).trans e,n,ne,nf,d⟩
 ·have hfn:X.fn x = true:=by
   rcases hf with z | z
   ·exact z
   ·rw [z] at hk; cases hk
  obtain ⟨c,hc⟩:=I.ok.has x (.inl hk)
  obtain ⟨w',z⟩:=I.cell x c hc
  refine wpAny_storeName_cell I.ok.kind hk hc z (fun h' hc' hs=>?_)
  obtain ⟨oc,hoc,hocd⟩:=id z
  refine h { s with heap:=h' } ⟨I.ok,I.os,I.bare,⟨fun b o e n hb hx=>?_,fun b o e n hb hx=>?_,I.base.free,fun b o e hx=>?_,I.base.tups,I.base.frzs,I.base.tbls⟩,⟨m,hn.sameBut hs (Ne.symm (cne x c hc)),fun j y v' e1 e2 e3=>?_⟩,fun y c' e=>?_,I.free,I.freeC,fun p hp=>?_,tracked ⟨oc,hoc,I.freeC x c hc⟩ hs,by simpa using I.len⟩ ⟨c,hs,.inr hc⟩
  ·exact (hs.2 b (Nat.ne_of_lt (Nat.lt_of_lt_of_le (Heap.lt_size e) (I.ok.cab x c hfn hc)))).trans (I.base.keep b o e n hb hx)
  ·obtain ⟨sl,e1⟩:=I.base.slot b o e n hb hx
   exact ⟨sl,(hs.2 b (Nat.ne_of_lt (Nat.lt_of_lt_of_le (Heap.lt_size e) (I.ok.cab x c hfn hc)))).trans e1⟩
  ·obtain ⟨o',e1⟩:=I.base.there b o e hx
   exact ⟨o',(hs.2 b (Nat.ne_of_lt (Nat.lt_of_lt_of_le (Heap.lt_size e) (I.ok.cab x c hfn hc)))).trans e1⟩
  ·by_cases hj:j = i
   ·subst hj
    rw [hi] at e1; cases e1
    rw [List.getElem?_set_self hiσ] at e2
    cases e2
    exact ⟨u,r,.inr ⟨.inl hk,c,hc,hc'⟩⟩
   ·rw [List.getElem?_set_ne (Ne.symm hj)] at e2
    obtain ⟨u',r',q⟩:=hl j y v' e1 e2 e3
    refine ⟨u',r',?_⟩
    rcases q with q | ⟨k,c',e,z'⟩
    ·exact .inl q
    ·refine .inr ⟨k,c',e,z'.sameBut hs ?_⟩
     rintro rfl
     exact hj (jlz hN e1 (I.ok.inj _ _ _ e hc ▸ hi))
  ·by_cases hcc:c' = c
   ·subst hcc; exact ⟨_,hc'⟩
   ·obtain ⟨w2,z2⟩:=I.cell y c' e
    exact ⟨w2,z2.sameBut hs hcc⟩
  ·obtain ⟨e,n,ne,nf,d⟩:=I.pin p hp
   refine ⟨(hs.2 p.1 ?_).trans e,n,ne,nf,d⟩
   intro q
   rw [q,hoc] at e
   have q':oc = p.2:=Option.some.inj e
   exact d w' (by rw [← q']; exact hocd)
theorem ji1 {M:Model} {A:Around} {E:Value→Shared→Prop} {i:Nat} {x:Str} {v:V} {u:Value} {Q:Unit→Shared→Prop} (I:Inv X pins σ H s) (hN:X.N.Nodup) (hi:X.N[i]? = some x) (hx:Loc X.env.scope x) (r:RelV v u)
  (h:∀ s',Inv X pins (σ.set i (some v)) H s'→Q () s') (hf:X.fn x = true ∨ X.env.scope.names.lookup x = some .local:=by first | exact .inl rfl | exact .inr rfl | assumption):wpAny M A (storeName X.env x u) Q E s :=
 jj6 I hN hi hx r (fun s' I' _=>h s' I') hf
theorem Inv.call' {s':Shared} {ch:List Addr} (I:Inv X pins σ H s) (ho:s'.os = s.os) (u:Un (frs X.stack) ch H H' s.heap s'.heap) (hok:HOk X.prog X.w H' s'.heap) (hg:AllBare s'.gens)
  (hch:∀ b ∈ ch,(b ∈ X.ex ∨ X.s₀.heap.objs.size ≤ b)∧b ≠ X.env.locals∧(∀ x c,X.env.cells.lookup x = some c→c ≠ b)∧∀ p ∈ X.pn ++ pins,p.1 ≠ b):Inv X pins σ H' s':=by
 obtain ⟨h',g',d',t',o'⟩:=s'
 have e:o' = s.os:=ho
 subst e
 exact I.call (g':=g') (t':=t') (d':=d') u hok hg hch
end
abbrev XK:=Value→Option Addr→Hp→Prop
abbrev St:=List (Option V)
abbrev VK:=V→Hp→Prop
abbrev TE:=St→Hp→VK→Prop
abbrev TT:=St→Hp→(Bool→Hp→Prop)→Prop
abbrev TA:=St→Hp→(List V→Hp→Prop)→Prop
structure Ends where
 nx:St→Hp→Prop
 rt:VK
 bk:St→Hp→Prop:=fun _ _=>False
 ct:St→Hp→Prop:=fun _ _=>False
abbrev TS:=Ends→St→Hp→Prop
def EP (X:Cx) (pins:List (Addr × Obj)) (σ:St) (Q:VK) (u:Value) (s':Shared):Prop:=∃ v H',Inv X pins σ H' s'∧RelV v u∧Q v H'
def TP (X:Cx) (pins:List (Addr × Obj)) (σ:St) (Q:Bool→Hp→Prop) (b:Bool) (s':Shared):Prop:=∃ H',Inv X pins σ H' s'∧Q b H'
def AP (X:Cx) (pins:List (Addr × Obj)) (σ:St) (Q:List V→Hp→Prop) (us:List Value) (s':Shared):Prop:=∃ vs H',Inv X pins σ H' s'∧Vals vs us∧Q vs H'
def SP (X:Cx) (pins:List (Addr × Obj)) (D:Ends) (f:Flow) (s':Shared):Prop :=
 match f with
 | .next=>∃ σ' H',Inv X pins σ' H' s'∧D.nx σ' H'
 | .brk=>∃ σ' H',Inv X pins σ' H' s'∧D.bk σ' H'
 | .cont=>∃ σ' H',Inv X pins σ' H' s'∧D.ct σ' H'
 | .ret u=>∃ v σ' H',Inv X pins σ' H' s'∧RelV v u∧D.rt v H'
def PE (X:Cx) (e:Expr) (t:TE):Prop :=
 ∀ (pins:List (Addr × Obj)) (s:Shared) (σ:St) (H:Hp) (Q:VK),Inv X pins σ H s→t σ H Q→wpAny (model X.prog X.w) X.A (eval e X.env) (EP X pins σ Q) X.xe s
def PT (X:Cx) (e:Expr) (t:TT):Prop :=
 ∀ (pins:List (Addr × Obj)) (s:Shared) (σ:St) (H:Hp) (Q:Bool→Hp→Prop),Inv X pins σ H s→t σ H Q→wpAny (model X.prog X.w) X.A (isTrue e X.env (eval e X.env)) (TP X pins σ Q) X.xe s
def PW (X:Cx) (e:Expr) (t:TT):Prop :=
 ∀ (whole:Sem Value) (pins:List (Addr × Obj)) (s:Shared) (σ:St) (H:Hp) (Q:Bool→Hp→Prop),Inv X pins σ H s→t σ H Q→wpAny (model X.prog X.w) X.A (isTrue e X.env whole) (TP X pins σ Q) X.xe s
theorem PW.pt {X:Cx} {e:Expr} {t:TT} (h:PW X e t):PT X e t:=h _
def PA (X:Cx) (es:List Expr) (t:TA):Prop :=
 ∀ (pos:Pos) (pins:List (Addr × Obj)) (s:Shared) (σ:St) (H:Hp) (Q:List V→Hp→Prop),Inv X pins σ H s→t σ H Q→wpAny (model X.prog X.w) X.A (spliced (backTo pos (starEach es X.env))) (AP X pins σ Q) X.xe s
def PS (X:Cx) (st:Stmt) (t:TS):Prop :=
 ∀ (pins:List (Addr × Obj)) (s:Shared) (σ:St) (H:Hp) (D:Ends),Inv X pins σ H s→t D σ H→wpAny (model X.prog X.w) X.A (exec st X.env) (SP X pins D) X.xe s
def PSs (X:Cx) (st:List Stmt) (t:TS):Prop :=
 ∀ (pins:List (Addr × Obj)) (s:Shared) (σ:St) (H:Hp) (D:Ends),Inv X pins σ H s→t D σ H→wpAny (model X.prog X.w) X.A (execs st X.env) (SP X pins D) X.xe s
theorem thn {α:Type} {t:Sem α} {Q Q':α→Shared→Prop} {M:Model} {A:Around} {E:Value→Shared→Prop} {s:Shared} (h:wpAny M A t Q E s) (hQ:∀ a s,Q a s→Q' a s):wpAny M A t Q' E s:=wpAny_mono h hQ fun _ _ x=>x
end L2
namespace L2
open PySem PySem.Spec PyProof.Rows
section
variable {X:Cx}
def tVar (i:Nat):TE:=fun σ H Q=>∃ v,σ[i]? = some (some v)∧Q v H
def tC (v:V):TE:=fun _ H Q=>Q v H
theorem pe_var {i:Nat} {x:Str} {pos:Pos} (hN:X.N[i]? = some x) (hv:Vis X.env.scope x) (hd:(x == ("__debug__":Str)) = false:=by decide) (hcd:(x == ("__classdict__":Str)) = false:=by decide):PE X (.Name x pos) (tVar i):=by
 intro pins s σ H Q I h
 obtain ⟨v,e,h⟩:=h
 obtain ⟨m,hn,hl⟩:=I.loc
 obtain ⟨u,r,l⟩:=hl i x v hN e hv
 have fin:EP X pins σ Q u s:=⟨v,H,I,r,h⟩
 rcases l with ⟨hk,hm⟩ | ⟨hk,c,hc,hcell⟩
 ·exact wpAny_Name (wpAny_loadName_local I.ok.kind hk hn hm fin) hd
 ·rcases hk with hk | hk
  ·exact wpAny_Name (wpAny_loadName_cell I.ok.kind hk hc hcell fin) hd
  ·exact wpAny_Name (wpAny_loadName_free I.ok.kind hk hc hcell fin hcd) hd
theorem ja4 {i j pos}:PE X (.Constant (.int i) j pos) (tC (.int i)):=fun _ _ _ H _ I h=>wpAny_Constant_int ⟨.int i,H,I.tok _,⟨_,rfl⟩,h⟩
theorem jbd {b j pos}:PE X (.Constant (.bool b) j pos) (tC (.bl b)):=fun _ _ _ H _ I h=>Constant_bool ⟨.bl b,H,I,rfl,h⟩
theorem jcp {x j pos}:PE X (.Constant (.str x) j pos) (tC (.str x)):=fun _ _ _ H _ I h=>Calls.Constant_str ⟨.str x,H,I.tok _,⟨_,rfl⟩,h⟩
def Gl (X:Cx) (x:Str):Prop:=X.env.kindOf x = some .globalImplicit
theorem jp2 {E:Value→Shared→Prop} {pins:List (Addr × Obj)} {s:Shared} {σ:St} {H:Hp} {x:Str} {u:Value} {pos:Pos} {Q:Value→Shared→Prop} (I:Inv X pins σ H s) (hg:Gl X x) (hm:X.mg x = some u) (h:Q u s)
  (hd:(x == ("__debug__":Str)) = false:=by decide):wpAny (model X.prog X.w) X.A (eval (.Name x pos) X.env) Q E s :=
 Calls.Name_function_global I.ok.kind hg (Calls.loadGlobal_global (by rw [I.ok.glob]; exact I.mod.glob.keeps I.bk) hm h) hd
theorem jet {E:Value→Shared→Prop} {pins:List (Addr × Obj)} {s:Shared} {σ:St} {H:Hp} {x:Str} {u:Value} {pos:Pos} {Q:Value→Shared→Prop} (I:Inv X pins σ H s) (hg:Gl X x) (hm:X.mg x = none) (hv:bootBuiltins x = some u) (h:Q u s)
  (hn:x ≠ "__name__":=by decide) (hd:(x == ("__debug__":Str)) = false:=by decide):wpAny (model X.prog X.w) X.A (eval (.Name x pos) X.env) Q E s:=by
 obtain ⟨mb,h1,h2⟩:=I.mod.blt
 exact Calls.Name_function_global I.ok.kind hg (Calls.loadGlobal_builtin (by rw [I.ok.glob]; exact I.mod.glob.keeps I.bk) hm (by rw [I.ok.blt]; exact h1.keeps I.bk) ((h2 x hn).trans hv) h) hd
theorem jgg {x:Str} {v:V} {u:Value} {pos:Pos} (hg:Gl X x) (hm:X.mg x = some u) (r:RelV v u) (hd:(x == ("__debug__":Str)) = false:=by decide):PE X (.Name x pos) (tC v) :=
 fun _ _ _ H _ I h=>jp2 I hg hm ⟨v,H,I,r,h⟩ hd
theorem jbq {x:Str} {v:V} {u:Value} {pos:Pos} (hg:Gl X x) (hm:X.mg x = none) (hv:bootBuiltins x = some u) (r:RelV v u) (hn:x ≠ "__name__":=by decide) (hd:(x == ("__debug__":Str)) = false:=by decide):PE X (.Name x pos) (tC v) :=
 fun _ _ _ H _ I h=>jet I hg hm hv ⟨v,H,I,r,h⟩ hn hd
variable {a b:Expr} {ta tb:TE} {pos:Pos}
def PC (X:Cx) (op:CmpOp) (a b:Expr) (t:TE):Prop :=
 ∀ (pins:List (Addr × Obj)) (s:Shared) (σ:St) (H:Hp) (Q:VK),Inv X pins σ H s→t σ H Q →
  wpAny (model X.prog X.w) X.A (eval a X.env) (fun v s₁=>wpAny (model X.prog X.w) X.A (eval b X.env) (fun u s₂=>wpAny (model X.prog X.w) X.A (compareOp op v u) (EP X pins σ Q) X.xe s₂) X.xe s₁) X.xe s
theorem jih (b:Expr) {op:CmpOp} (h:op ≠ .In) (h2:op ≠ .NotIn):behindInMarks op b = false:=by
 have e1:(op == CmpOp.In) = false:=by cases op <;> first | rfl | exact absurd rfl h
 have e2:(op == CmpOp.NotIn) = false:=by cases op <;> first | rfl | exact absurd rfl h2
 cases b <;> simp [behindInMarks,e1,e2]
def tB (t:TE):TT:=fun σ H Q=>t σ H fun x H1=>∃ c,x = .bl c∧Q c H1
theorem jof {op:CmpOp} {t:TE} (h:PC X op a b t) (h1:behindInMarks op b = false:=by first | exact jih _ (by decide) (by decide) | rfl):PE X (.Compare a [op] [b] pos) t:=fun pins s σ H Q I hw=>wpAny_Compare1 (h pins s σ H Q I hw) h1
theorem jrk {op:CmpOp} {t:TE} (h:PC X op a b t) (h1:behindInMarks op b = false:=by first | exact jih _ (by decide) (by decide) | rfl):PT X (.Compare a [op] [b] pos) (tB t):=by
 intro pins s σ H Q I hw
 refine wpAny_isTrue_Compare1 (thn (h pins s σ H _ I hw) fun v s1 h1=>thn h1 fun u s2 h2=>thn h2 fun c s3 ⟨x,H1,I1,r1,q1⟩=>?_) h1
 obtain ⟨d,rfl,q⟩:=q1
 cases r1
 exact wpAny_truthy_bool ⟨H1,I1,q⟩
variable {tA tB':TT} {rest:List Expr}
def tAnd (t u:TT):TT:=fun σ H Q=>t σ H fun c H1=>if c = true then u σ H1 Q else Q false H1
def tOr (t u:TT):TT:=fun σ H Q=>t σ H fun c H1=>if c = true then Q true H1 else u σ H1 Q
def tNot (t:TT):TT:=fun σ H Q=>t σ H fun c H1=>Q (!c) H1
theorem jcy (ha:PT X a tA):PW X (.BoolOp .And [a] pos) tA:=by
 intro wh pins s σ H Q I h
 refine isTrue_and (thn (ha pins s σ H Q I h) fun c s1 e=>?_)
 cases c with
 | true=>exact isTrue_and_nil e
 | false=>exact e
theorem jco (ha:PT X a tA):PW X (.BoolOp .Or [a] pos) tA:=by
 intro wh pins s σ H Q I h
 refine isTrue_or (thn (ha pins s σ H Q I h) fun c s1 e=>?_)
 cases c with
 | false=>exact isTrue_or_nil e
 | true=>exact e
theorem jdp (ha:PT X a tA) (hb:PW X (.BoolOp .And (b :: rest) pos) tB'):PW X (.BoolOp .And (a :: b :: rest) pos) (tAnd tA tB'):=by
 intro wh pins s σ H Q I h
 refine isTrue_and (thn (ha pins s σ H _ I h) fun c s1 ⟨H1,I1,q1⟩=>?_)
 cases c with
 | true=>exact hb wh pins s1 σ H1 Q I1 q1
 | false=>exact ⟨H1,I1,q1⟩
theorem jcx (ha:PT X a tA) (hb:PW X (.BoolOp .Or (b :: rest) pos) tB'):PW X (.BoolOp .Or (a :: b :: rest) pos) (tOr tA tB'):=by
 intro wh pins s σ H Q I h
 refine isTrue_or (thn (ha pins s σ H _ I h) fun c s1 ⟨H1,I1,q1⟩=>?_)
 cases c with
 | true=>exact ⟨H1,I1,q1⟩
 | false=>exact hb wh pins s1 σ H1 Q I1 q1
theorem jb4 (ha:PT X a tA):PT X (.UnaryOp .Not a pos) (tNot tA):=by
 intro pins s σ H Q I h
 exact isTrue_not (ha pins s σ H (fun c H1=>Q (!c) H1) I h)
theorem jd9 {op} {t:TE} (h:PE X a t):PE X (.BoolOp op [a] pos) t:=fun pins s σ H Q I hw=>BoolOp_one (h pins s σ H Q I hw)
def tIf (t:TT) (ta tb:TE):TE:=fun σ H Q=>t σ H fun c H1=>if c = true then ta σ H1 Q else tb σ H1 Q
theorem jqj {c:Expr} (hc:PT X c tA) (ha:PE X a ta) (hb:PE X b tb):PE X (.IfExp c a b pos) (tIf tA ta tb):=by
 intro pins s σ H Q I h
 refine wpAny_IfExp (thn (hc pins s σ H _ I h) fun d s1 ⟨H1,I1,q1⟩=>?_)
 cases d with
 | true=>exact ha pins s1 σ H1 Q I1 q1
 | false=>exact hb pins s1 σ H1 Q I1 q1
end
end L2
namespace L2
open PySem PySem.Spec PyProof.Rows
def SqL (K:PySem.W.Frag) (H:Hp) (a:Addr) (xs:List V):Prop :=
 Rd H a (.lst xs) ∨
  ∃ (o:Obj) (its:Array Value) (n:Nat),K.lookup a = some o∧o.cls = .type "list"∧o.dict = none∧o.data = .seq its n∧its.size ≤ sizeLine∧Vals xs its.toList
def SqT (K:PySem.W.Frag) (H:Hp) (a:Addr) (xs:List V):Prop :=
 Rd H a (.tup xs) ∨
  ∃ (o:Obj) (its:Array Value) (n:Nat),K.lookup a = some o∧o.cls = .type "tuple"∧o.data = .seq its n∧its.size ≤ sizeLine∧Vals xs its.toList
def absV:Value→Option V
 | .none=>some .non
 | .bool b=>some (.bl b)
 | .int i _=>some (.int i)
 | .str x _=>some (.str x)
 | .bytes b _=>some (.byt b)
 | .float b _=>some (.flt b)
 | .ref a=>some (.ref a)
 | .type n=>some (.ty n)
 | _=>none
theorem RelV.abs {x:V} {u:Value} (r:RelV x u):absV u = some x:=by
 cases x with
 | non=>cases r; rfl
 | bl _=>cases r; rfl
 | int _=>obtain ⟨t,rfl⟩:=r; rfl
 | str _=>obtain ⟨t,rfl⟩:=r; rfl
 | byt _=>obtain ⟨t,rfl⟩:=r; rfl
 | flt _=>obtain ⟨t,rfl⟩:=r; rfl
 | ref _=>cases r; rfl
 | ty _=>cases r; rfl
theorem RelV.inj {x y:V} {u:Value} (r:RelV x u) (q:RelV y u):x = y:=Option.some.inj (r.abs.symm.trans q.abs)
theorem Vals.inj:∀ {xs ys:List V} {us:List Value},Vals xs us→Vals ys us→xs = ys
 | _,_,_,.nil,.nil=>rfl
 | _,_,_,.cons r t,.cons r' t'=>by rw [r.inj r',Vals.inj t t']
section
variable {X:Cx} {pins:List (Addr × Obj)} {σ:St} {H:Hp} {s:Shared} {a:Addr} {xs ys:List V}
theorem SqL.of {K:PySem.W.Frag} (h:H a = some (.lst xs)):SqL K H a xs:=.inl (.inl h)
theorem SqT.of {K:PySem.W.Frag} (h:H a = some (.tup xs)):SqT K H a xs:=.inl (.inl h)
theorem Inv.list (I:Inv X pins σ H s) (h:SqL X.K H a xs):∃ its:List Value,Vals xs its∧PlainL s.heap a its.toArray∧xs.length ≤ sizeLine:=by
 rcases h with h | ⟨o,its,n,hk,hc,hd,hs,hz,r⟩
 ·obtain ⟨z,its,n,r,e⟩:=h.ok I.hok
  exact ⟨its,r,⟨_,n,e,rfl,rfl,rfl⟩,z⟩
 ·refine ⟨its.toList,r,⟨o,n,I.kIn a o hk,hc,hd,by simpa using hs⟩,?_⟩
  have e:=r.length
  simp only [Array.length_toList] at e
  omega
theorem Inv.tuple (I:Inv X pins σ H s) (h:SqT X.K H a xs):∃ its:List Value,Vals xs its∧IsTup s.heap a its.toArray∧xs.length ≤ sizeLine:=by
 rcases h with h | ⟨o,its,n,hk,hc,hs,hz,r⟩
 ·obtain ⟨z,its,r,p⟩:=h.ok I.hok
  exact ⟨its,r,p,z⟩
 ·refine ⟨its.toList,r,⟨o,I.kIn a o hk,hc,n,by simpa using hs⟩,?_⟩
  have e:=r.length
  simp only [Array.length_toList] at e
  omega
theorem Inv.list_inj (I:Inv X pins σ H s) (h:SqL X.K H a xs) (h':SqL X.K H a ys):xs = ys:=by
 obtain ⟨its,r,⟨o,n,e,_,_,d⟩,_⟩:=I.list h
 obtain ⟨its',r',⟨o',n',e',_,_,d'⟩,_⟩:=I.list h'
 rw [e] at e'; cases e'
 rw [d] at d'
 injection d' with d1 _
 have:its = its':=by simpa using congrArg Array.toList d1
 subst this
 exact r.inj r'
theorem Inv.tuple_inj (I:Inv X pins σ H s) (h:SqT X.K H a xs) (h':SqT X.K H a ys):xs = ys:=by
 obtain ⟨its,r,⟨o,e,_,n,d⟩,_⟩:=I.tuple h
 obtain ⟨its',r',⟨o',e',_,n',d'⟩,_⟩:=I.tuple h'
 rw [e] at e'; cases e'
 rw [d] at d'
 injection d' with d1 _
 have:its = its':=by simpa using congrArg Array.toList d1
 subst this
 exact r.inj r'
end
abbrev Cx.wish (X:Cx) (E:Value→Shared→Prop):Cx:={ X with xe:=E }
abbrev Cx.nox (X:Cx):Cx:=X.wish fun _ _=>False
theorem Cx.Ok.wish {X:Cx} (ok:X.Ok) (E:Value→Shared→Prop):(X.wish E).Ok :=
 ⟨ok.mod,ok.kind,ok.glob,ok.blt,ok.above,ok.inj,ok.has,ok.cab,ok.hd,ok.frames,ok.stk,ok.exf,ok.bs,ok.bsz,ok.noex,ok.exfs,ok.funs,ok.frf⟩
theorem Cx.Ok.unwish {X:Cx} {E:Value→Shared→Prop} (ok:(X.wish E).Ok):X.Ok :=
 ⟨ok.mod,ok.kind,ok.glob,ok.blt,ok.above,ok.inj,ok.has,ok.cab,ok.hd,ok.frames,ok.stk,ok.exf,ok.bs,ok.bsz,ok.noex,ok.exfs,ok.funs,ok.frf⟩
section
variable {X:Cx} {pins:List (Addr × Obj)} {σ:St} {H:Hp} {s:Shared} {E:Value→Shared→Prop}
theorem Inv.wish (I:Inv X pins σ H s) (E:Value→Shared→Prop):Inv (X.wish E) pins σ H s:=⟨I.ok.wish E,I.os,I.bare,I.base,I.loc,I.cell,I.free,I.freeC,I.pin,I.hok,I.len⟩
theorem Inv.unwish (I:Inv (X.wish E) pins σ H s):Inv X pins σ H s:=⟨I.ok.unwish,I.os,I.bare,I.base,I.loc,I.cell,I.free,I.freeC,I.pin,I.hok,I.len⟩
theorem SP.unwish {D:Ends} {f:Flow} {s':Shared} (h:SP (X.wish E) pins D f s'):SP X pins D f s':=by
 cases f with
 | next=>obtain ⟨σ',H',I,q⟩:=h; exact ⟨σ',H',I.unwish,q⟩
 | brk=>obtain ⟨σ',H',I,q⟩:=h; exact ⟨σ',H',I.unwish,q⟩
 | cont=>obtain ⟨σ',H',I,q⟩:=h; exact ⟨σ',H',I.unwish,q⟩
 | ret u=>obtain ⟨v,σ',H',I,r,q⟩:=h; exact ⟨v,σ',H',I.unwish,r,q⟩
theorem PSs.nox {st:List Stmt} {t:TS} (h:PSs X.nox st t):PSs X st t:=fun pins s σ H D I hw =>
 wpAny_mono (h pins s σ H D (I.wish _) hw) (fun _ _ q=>q.unwish) fun _ _ z=>False.elim z
end
section
variable {X:Cx} {st:Stmt} {rest:List Stmt} {t u:TS} {e:Expr} {te:TE} {pos:Pos}
def jq9:TS:=fun D σ H=>D.nx σ H
def tSeq (t u:TS):TS:=fun D σ H=>t { D with nx:=u D } σ H
theorem jal:PSs X [] jq9:=fun _ _ σ H _ I h=>wpAny_execs_nil ⟨σ,H,I,h⟩
theorem ja2 (h1:PS X st t) (h2:PSs X rest u):PSs X (st :: rest) (tSeq t u):=by
 intro pins s σ H D I h
 refine wpAny_execs_cons (thn (h1 pins s σ H { D with nx:=u D } I h) fun f s1 q=>?_)
 cases f with
 | next =>
  obtain ⟨σ',H',I',q⟩:=q
  exact h2 pins s1 σ' H' D I' q
 | ret v=>exact q
 | brk=>exact q
 | cont=>exact q
theorem ja6 (h1:PS X st t):PSs X [st] t:=by
 intro pins s σ H D I h
 refine wpAny_execs_cons (thn (h1 pins s σ H D I h) fun f s1 q=>?_)
 cases f with
 | next=>exact wpAny_execs_nil q
 | ret v=>exact q
 | brk=>exact q
 | cont=>exact q
theorem Inv.quiet {pins:List (Addr × Obj)} {σ:St} {H:Hp} {s:Shared} (I:Inv X pins σ H s):interactive X.env = false:=by simp [interactive,I.ok.kind]
def jmh (te:TE):TS:=fun D σ H=>te σ H fun _ H1=>D.nx σ H1
theorem jce (he:PE X e te) (hs:swapsWith e none pos.line X.env = pure false:=by rfl):PS X (.Expr e pos) (jmh te):=by
 intro pins s σ H D I h
 exact wpAny_Expr_any (thn (he pins s σ H _ I h) fun v s1 ⟨x,H1,I1,r1,q1⟩=>⟨σ,H1,I1,q1⟩) I.quiet hs
def tRet (te:TE):TS:=fun D σ H=>te σ H D.rt
theorem jah (he:PE X e te):PS X (.Return (some e) pos) (tRet te):=by
 intro pins s σ H D I h
 exact wpAny_Return_some (thn (he pins s σ H _ I h) fun v s1 ⟨x,H1,I1,r1,q1⟩=>⟨x,σ,H1,I1,r1,q1⟩)
def tRetN:TS:=fun D _ H=>D.rt .non H
def tIfS (c:TT) (t u:TS):TS:=fun D σ H=>c σ H fun b H1=>if b = true then t D σ H1 else u D σ H1
theorem jb1 {c:Expr} {a b:List Stmt} {tc:TT} (hc:PT X c tc) (ha:PSs X a t) (hb:PSs X b u):PS X (.If c a b pos) (tIfS tc t u):=by
 intro pins s σ H D I h
 refine wpAny_If (thn (hc pins s σ H _ I h) fun d s1 ⟨H1,I1,q1⟩=>?_)
 cases d with
 | true=>exact ha pins s1 σ H1 D I1 q1
 | false=>exact hb pins s1 σ H1 D I1 q1
def tNever:TS:=fun _ _ _=>False
theorem jeq:PS X st tNever:=fun _ _ _ _ _ _ h=>h.elim
end
abbrev TG:=V→St→Hp→(St→Hp→Prop)→Prop
abbrev TGs:=List V→St→Hp→(St→Hp→Prop)→Prop
def PG (X:Cx) (target:Expr) (t:TG):Prop :=
 ∀ (pins:List (Addr × Obj)) (s:Shared) (σ:St) (H:Hp) (v:V) (u:Value) (Q:St→Hp→Prop),Inv X pins σ H s→RelV v u→t v σ H Q →
  wpAny (model X.prog X.w) X.A (assign target X.env u) (fun _ s'=>∃ σ' H',Inv X pins σ' H' s'∧Q σ' H') X.xe s
def PGs (X:Cx) (ts:List Expr) (t:TGs):Prop :=
 ∀ (pins:List (Addr × Obj)) (s:Shared) (σ:St) (H:Hp) (vs:List V) (us:List Value) (Q:St→Hp→Prop),Inv X pins σ H s→Vals vs us→t vs σ H Q →
  wpAny (model X.prog X.w) X.A (assignInOrder ((assignEach ts X.env).map (·.2)) us) (fun _ s'=>∃ σ' H',Inv X pins σ' H' s'∧Q σ' H') X.xe s
abbrev TSet:=V→V→V→Hp→(Hp→Prop)→Prop
def PSet (X:Cx) (t:TSet):Prop :=
 ∀ (pins:List (Addr × Obj)) (s:Shared) (σ:St) (H:Hp) (o i v:V) (ov iv u:Value) (Q:Hp→Prop),Inv X pins σ H s→RelV o ov→RelV i iv→RelV v u→t o i v H Q →
  wpAny (model X.prog X.w) X.A (setItem ov iv u) (fun _ s'=>∃ H',Inv X pins σ H' s'∧Q H') X.xe s
abbrev TIp:=V→V→Hp→VK→Prop
def PIp (X:Cx) (op:Operator) (t:TIp):Prop :=
 ∀ (pins:List (Addr × Obj)) (s:Shared) (σ:St) (H:Hp) (x y:V) (v u:Value) (Q:VK),Inv X pins σ H s→RelV x v→RelV y u→t x y H Q →
  wpAny (model X.prog X.w) X.A (inplaceOp op v u) (EP X pins σ Q) X.xe s
section
variable {X:Cx} {pos:Pos}
def jff (i:Nat):TG:=fun v σ H Q=>Q (σ.set i (some v)) H
theorem ja9 {i:Nat} {x:Str} (hN:X.N.Nodup) (hi:X.N[i]? = some x) (hx:Loc X.env.scope x) (hf:X.fn x = true ∨ X.env.scope.names.lookup x = some .local:=by first | exact .inl rfl | exact .inr rfl | assumption):PG X (.Name x pos) (jff i):=by
 intro pins s σ H v u Q I r h
 exact wpAny_assign_Name (ji1 I hN hi hx r (fun s' I'=>⟨_,H,I',h⟩) hf)
def gNil:TGs:=fun vs σ H Q=>vs = []∧Q σ H
def gCons (t:TG) (u:TGs):TGs:=fun vs σ H Q=>∃ v r,vs = v :: r∧t v σ H fun σ' H'=>u r σ' H' Q
theorem jsg:PGs X [] gNil:=by
 intro pins s σ H vs us Q I r h
 obtain ⟨e,h⟩:=h
 subst e
 cases r
 exact assignInOrder_nil ⟨σ,H,I,h⟩
theorem jqi {e:Expr} {es:List Expr} {t:TG} {u:TGs} (h1:PG X e t) (h2:PGs X es u)
  (hs:(assignEach (e :: es) X.env).map (·.2) = assign e X.env :: (assignEach es X.env).map (·.2):=by rfl):PGs X (e :: es) (gCons t u):=by
 intro pins s σ H vs us Q I r h
 obtain ⟨v,vr,e1,h⟩:=h
 subst e1
 cases r with
 | cons r rr =>
  rw [hs]
  refine assignInOrder_cons (thn (h1 pins s σ H _ _ _ I r h) fun _ s1 ⟨σ1,H1,I1,q1⟩=>?_)
  exact h2 pins s1 σ1 H1 _ _ Q I1 rr q1
def gTup (K:PySem.W.Frag) (n:Nat) (t:TGs):TG:=fun v σ H Q=>∃ a xs,v = .ref a∧SqT K H a xs∧xs.length = n∧t xs σ H Q
theorem pg_tup {es:List Expr} {k:Nat} {t:TGs} {n:Nat} (hc:X.calm = true) (h:PGs X es t)
  (hn:(assignEach es X.env).length = n:=by rfl) (hst:(assignEach es X.env).findIdx? (·.1) = none:=by rfl):PG X (.Tuple es k pos) (gTup X.K n t):=by
 intro pins s σ H v u Q I r hw
 obtain ⟨a,xs,e1,hq,hl,hw⟩:=hw
 subst e1
 cases r
 obtain ⟨its,rv,ht,hz⟩:=I.tuple hq
 refine assign_Tuple_tuple (I.ok.hd hc) ht (by simp [hn,← hl,rv.length]) hst fun h' hx=>?_
 have I1:Inv X pins σ H { s with heap:=h' }:=I.kept (t':=s.toks) fun b o e=>hx b o (Nat.ne_of_lt (Heap.lt_size e)) e
 exact h pins _ σ H xs _ Q I1 (by simpa using rv) hw
def gSub (to ti:TE) (t:TSet):TG:=fun v σ H Q=>to σ H fun o H1=>ti σ H1 fun i H2=>t o i v H2 fun H3=>Q σ H3
theorem jd8 {o i:Expr} {to ti:TE} {t:TSet} (ho:PE X o to) (hi:PE X i ti) (hs:PSet X t)
  (ha:∀ v,assign (.Subscript o i pos) X.env v = (do
   let ov ← holding [v] (eval o X.env)
   let iv ← holding [v,ov] (eval i X.env)
   standAt pos
   holding [v,ov,iv] (setItem ov iv v)
   release [v,ov,iv] []):=by intro _; rfl):PG X (.Subscript o i pos) (gSub to ti t):=by
 intro pins s σ H v u Q I r h
 rw [ha]
 refine wpAny_bind (wpAny_holding (thn (ho pins s σ H _ I h) fun ov s1 ⟨x,H1,I1,r1,q1⟩=>?_))
 refine wpAny_bind (wpAny_holding (thn (hi pins s1 σ H1 _ I1 q1) fun iv s2 ⟨y,H2,I2,r2,q2⟩=>?_))
 refine wpAny_bind (wpAny_standAt (wpAny_bind (wpAny_holding (thn (hs pins s2 σ H2 x y v ov iv u _ I2 r1 r2 r q2) fun _ s3 ⟨H3,I3,q3⟩=>?_))))
 exact wpAny_release ⟨σ,H3,I3,q3⟩
def tAsg (te:TE) (g:TG):TS:=fun D σ H=>te σ H fun x H1=>g x σ H1 D.nx
theorem jd3 {tg e:Expr} {te:TE} {g:TG} (he:PE X e te) (hg:PG X tg g) (hs:swapsWithSole [tg] e pos.line X.env = pure false:=by rfl) (hw:swappedStores [tg] e X.env = pure none:=by rfl)
  (h1:(assignEach [tg] X.env).map (·.2) = [assign tg X.env]:=by rfl):PS X (.Assign [tg] e pos) (tAsg te g):=by
 intro pins s σ H D I h
 refine wpAny_Assign_stores (thn (he pins s σ H _ I h) fun v s1 ⟨x,H1,I1,r1,q1⟩=>?_) hs hw
 rw [h1]
 exact thn (hg pins s1 σ H1 x v _ I1 r1 q1) fun _ s2 q=>q
theorem jak {i:Nat} {x:Str} {e:Expr} {te:TE} {pos':Pos} (hN:X.N.Nodup) (hi:X.N[i]? = some x) (hx:Loc X.env.scope x) (he:PE X e te) (hs:swapsWith e (some (.Name x pos')) pos.line X.env = pure false:=by rfl) (hf:X.fn x = true ∨ X.env.scope.names.lookup x = some .local:=by first | exact .inl rfl | exact .inr rfl | assumption) :
  PS X (.Assign [.Name x pos'] e pos) (tAsg te (jff i)):=by
 intro pins s σ H D I h
 refine wpAny_Assign_Name (thn (he pins s σ H _ I h) fun v s1 ⟨y,H1,I1,r1,q1⟩=>?_) hs
 exact ji1 I1 hN hi hx r1 (fun s2 I2=>⟨_,H1,I2,q1⟩) hf
def tAug (i:Nat) (te:TE) (ti:TIp):TS:=fun D σ H=>∃ x,σ[i]? = some (some x)∧te σ H fun y H1=>ti x y H1 fun z H2=>D.nx (σ.set i (some z)) H2
theorem ps_aug {i:Nat} {x:Str} {e:Expr} {te:TE} {op:Operator} {ti:TIp} {pos':Pos} (hN:X.N.Nodup) (hi:X.N[i]? = some x) (hx:Loc X.env.scope x) (he:PE X e te) (ho:PIp X op ti) (hf:X.fn x = true ∨ X.env.scope.names.lookup x = some .local:=by first | exact .inl rfl | exact .inr rfl | assumption) :
  PS X (.AugAssign (.Name x pos') op e pos) (tAug i te ti):=by
 intro pins s σ H D I h
 obtain ⟨v,e1,h⟩:=h
 obtain ⟨m,hn,hl⟩:=I.loc
 have vis:Vis X.env.scope x:=by rcases hx with k | k; exact .inl k; exact .inr (.inl k)
 obtain ⟨u,r,l⟩:=hl i x v hi e1 vis
 refine wpAny_AugAssign_Name ?_
 have go:wpAny (model X.prog X.w) X.A (eval e X.env) (fun w s₂=>wpAny (model X.prog X.w) X.A (inplaceOp op u w) (fun r s₃=>wpAny (model X.prog X.w) X.A (storeName X.env x r) (fun _=>SP X pins D .next) X.xe s₃) X.xe s₂) X.xe s:=by
  refine thn (he pins s σ H _ I h) fun w s1 ⟨y,H1,I1,r1,q1⟩=>?_
  refine thn (ho pins s1 σ H1 v y u w _ I1 r r1 q1) fun z s2 ⟨zv,H2,I2,r2,q2⟩=>?_
  exact ji1 I2 hN hi hx r2 (fun s3 I3=>⟨_,H2,I3,q2⟩) hf
 rcases l with ⟨hk,hm⟩ | ⟨hk,c,hc,hcell⟩
 ·exact wpAny_loadName_local I.ok.kind hk hn hm go
 ·rcases hk with hk | hk
  ·exact wpAny_loadName_cell I.ok.kind hk hc hcell go
  ·rcases hx with k | k
   ·have:X.env.scope.names.lookup x = some .free:=hk
    rw [k] at this; cases this
   ·have:X.env.scope.names.lookup x = some .free:=hk
    rw [k] at this; cases this
end
section
variable {X:Cx} {pos:Pos}
end
structure It where
 go:Nat→Hp→Prop
 yld:Nat→Hp→V→Hp→Prop
 stop:Nat→Hp→Prop
def FpOk (X:Cx) (pins:List (Addr × Obj)) (H:Hp) (b:Addr):Prop :=
 H b = none∧b ≠ X.env.locals∧b ∉ X.fs∧(b ∈ X.ex ∨ X.s₀.heap.objs.size ≤ b)∧(∀ x c,X.env.cells.lookup x = some c→c ≠ b)∧∀ p ∈ X.pn ++ pins,p.1 ≠ b
theorem Inv.fpOk {X:Cx} {pins:List (Addr × Obj)} {σ:St} {H H':Hp} {s:Shared} {b:Addr} (I:Inv X pins σ H s) (hb:s.heap.objs.size ≤ b) (hn:H' b = none):FpOk X pins H' b:=by
 refine ⟨hn,Nat.ne_of_gt (Nat.lt_of_lt_of_le I.lt hb),I.nofs hb,.inr (Nat.le_trans I.sz hb),fun x c e z=>?_,fun p hp z=>?_⟩
 ·obtain ⟨v,q⟩:=I.cell x c e
  exact absurd (Nat.lt_of_lt_of_le q.lt (by rw [z]; exact hb)) (Nat.lt_irrefl _)
 ·exact absurd (Nat.lt_of_lt_of_le (Heap.lt_size (I.pin p hp).1) (by rw [z]; exact hb)) (Nat.lt_irrefl _)
structure Turn (P:Program) (w:World) (K:PySem.W.Frag) (tg:Expr) (J:It) (fp:List Addr) (it:Addr) (tn:Nat→Heap→Prop):Prop where
 mem:it ∈ fp
 obj:∀ i h,tn i h→∀ b ∈ fp,∃ o,h.get? b = some o∧∀ v,o.data ≠ .cell v
 keep:∀ i h h',tn i h→(∀ b ∈ fp,∀ o,h.get? b = some o→h'.get? b = some o)→tn i h'
 item:∀ (X:Cx),X.prog = P→X.w = w→X.K = K→X.calm = true→∀ (i:Nat) (pins:List (Addr × Obj)) (s:Shared) (σ:St) (H:Hp) (E:Value→Shared→Prop),Inv X pins σ H s→(∀ b ∈ fp,FpOk X pins H b)→tn i s.heap→J.go i H →
  wpAny (model P w) X.A (pyNext (.ref it)) (fun r s1=>∃ u,r = some u ∧
   wpAny (model P w) X.A (letOwnedTupleGo tg (.ref it) u) (fun _ s2=>∃ x H',Inv X pins σ H' s2∧RelV x u∧J.yld i H x H'∧tn (i + 1) s2.heap∧∀ b ∈ fp,H' b = none) E s1) E s
 done:∀ (X:Cx),X.prog = P→X.w = w→X.K = K→X.calm = true→∀ (i:Nat) (pins:List (Addr × Obj)) (s:Shared) (σ:St) (H:Hp) (E:Value→Shared→Prop),Inv X pins σ H s→(∀ b ∈ fp,FpOk X pins H b)→tn i s.heap→J.stop i H →
  wpAny (model P w) X.A (pyNext (.ref it)) (fun r s1=>r = none∧Inv X pins σ H s1) E s
 self:∀ (A:Around) (i:Nat) (s:Shared) (Q:Value→Shared→Prop) (E:Value→Shared→Prop),tn i s.heap→Q (.ref it) s→wpAny (model P w) A (pyIter (.ref it)) Q E s
abbrev TI:=St→Hp→(It→Hp→Prop)→Prop
def PIE (X:Cx) (pins:List (Addr × Obj)) (σ:St) (tg:Expr) (R:It→Hp→Prop) (itv:Value) (s2:Shared):Prop :=
 ∃ (it:Addr) (fp:List Addr) (tn:Nat→Heap→Prop) (J:It) (H':Hp),itv = .ref it∧Inv X pins σ H' s2∧Turn X.prog X.w X.K tg J fp it tn∧tn 0 s2.heap∧(∀ b ∈ fp,FpOk X pins H' b)∧R J H'
def PI (X:Cx) (tg iter:Expr) (wi:TI):Prop :=
 ∀ (pins:List (Addr × Obj)) (s:Shared) (σ:St) (H:Hp) (R:It→Hp→Prop),Inv X pins σ H s→wi σ H R →
  wpAny (model X.prog X.w) X.A (eval iter X.env) (fun v s1=>wpAny (model X.prog X.w) X.A (pyIter v) (PIE X pins σ tg R) X.xe s1) X.xe s
theorem jsv {M:Model} {A:Around} {E:Value→Shared→Prop} {s:Shared} {tg:Expr} {it:Addr} {u:Value} {o:Obj} {n:String} {vs:Array Value} {Q:Unit→Shared→Prop} (ho:s.heap.get? it = some o) (hc:o.cls = .type n) (hd:o.data = .fields vs)
    (hn:["enumerate","zip","dict_itemiterator","dict_reverseitemiterator","odict_iterator","itertools.zip_longest","itertools.pairwise"].contains n = false) (hQ:Q () s):wpAny M A (letOwnedTupleGo tg (.ref it) u) Q E s:=by
  unfold letOwnedTupleGo
  cases tg <;> first
    | exact wpAny_pure hQ
    | (cases u <;> first
        | exact wpAny_pure hQ
        | (refine wpAny_bind (wpAny_load ho ?_)
           rw [hc,hd]
           show wpAny M A (if (["enumerate","zip","dict_itemiterator","dict_reverseitemiterator","odict_iterator","itertools.zip_longest","itertools.pairwise"].contains n && vs[0]? == some (rawInt _)) = true then _ else _) Q E s
           rw [if_neg (by intro h; rw [hn,Bool.false_and] at h; cases h)]
           exact wpAny_pure hQ))
def Itl (K:PySem.W.Frag) (a:Addr):It :=
 ⟨fun i H=>∃ xs x,SqL K H a xs∧xs[i]? = some x,fun i H x H'=>H' = H∧∀ xs,SqL K H a xs→xs[i]? = some x,fun i H=>∃ xs,SqL K H a xs∧xs.length ≤ i⟩
def Itt (K:PySem.W.Frag) (a:Addr):It :=
 ⟨fun i H=>∃ xs x,SqT K H a xs∧xs[i]? = some x,fun i H x H'=>H' = H∧∀ xs,SqT K H a xs→xs[i]? = some x,fun i H=>∃ xs,SqT K H a xs∧xs.length ≤ i⟩
def Itr (lo:Int) (n:Nat):It:=⟨fun i _=>i < n,fun i H x H'=>H' = H∧x = .int (lo + i),fun i _=>n ≤ i⟩
theorem jna {P:Program} {w:World} {K:PySem.W.Frag} {tg:Expr} (a it:Addr):Turn P w K tg (Itl K a) [it] it (fun i h=>h.IsListIter it a i) where
 mem:=by simp
 obj:=fun i h st b hb=>by
  have e:b = it:=by simpa using hb
  subst e
  obtain ⟨o,e,c,d⟩:=st
  exact ⟨o,e,fun v z=>by rw [d] at z; cases z⟩
 keep:=fun i h h' st k=>st.at fun o e=>k it (by simp) o e
 item:=by
  intro X hP hw hK hc i pins s σ H E I hf st hg
  subst hP hw hK
  obtain ⟨xs,x,hq,hx⟩:=hg
  obtain ⟨its,rv,p,hz⟩:=I.list hq
  obtain ⟨u,hu,ru⟩:=rv.get hx
  obtain ⟨f0,f1,f2,f3,f4,f5⟩:=hf it (by simp)
  refine wpAny_pyNext_list_item st p.isList (x:=u) (by simpa using hu) fun h' st' sb=>?_
  have I1:Inv X pins σ H { s with heap:=h' }:=I.turned (t':=s.toks) (fun b o hb e=>(sb.2 b hb).trans e) f0 f1 f3 f4 f5
  obtain ⟨o,e,c,d⟩:=id st'
  exact ⟨u,rfl,jsv (s:={ s with heap:=h' }) e c d (by decide) ⟨x,H,I1,ru,⟨rfl,fun ys hy=>by rw [I.list_inj hy hq]; exact hx⟩,st',fun b hb=>(hf b hb).1⟩⟩
 done:=by
  intro X hP hw hK hc i pins s σ H E I hf st hg
  subst hP hw hK
  obtain ⟨xs,hq,hx⟩:=hg
  obtain ⟨its,rv,p,hz⟩:=I.list hq
  obtain ⟨f0,f1,f2,f3,f4,f5⟩:=hf it (by simp)
  have hl:=rv.length
  exact wpAny_pyNext_list_end (I.ok.hd hc) st p.isList (by simp; omega) fun h' eb=>⟨rfl,I.turned (t':=s.toks) (fun b o hb e=>eb b o hb e) f0 f1 f3 f4 f5⟩
 self:=fun _ _ _ _ _ st h=>wpAny_pyIter_listiter st h
theorem jme {P:Program} {w:World} {K:PySem.W.Frag} {tg:Expr} (a it:Addr):Turn P w K tg (Itt K a) [it] it (fun i h=>h.IsTupleIter it a i) where
 mem:=by simp
 obj:=fun i h st b hb=>by
  have e:b = it:=by simpa using hb
  subst e
  obtain ⟨o,e,c,d⟩:=st
  exact ⟨o,e,fun v z=>by rw [d] at z; cases z⟩
 keep:=fun i h h' st k=>st.at fun o e=>k it (by simp) o e
 item:=by
  intro X hP hw hK hc i pins s σ H E I hf st hg
  subst hP hw hK
  obtain ⟨xs,x,hq,hx⟩:=hg
  obtain ⟨its,rv,p,hz⟩:=I.tuple hq
  obtain ⟨u,hu,ru⟩:=rv.get hx
  obtain ⟨f0,f1,f2,f3,f4,f5⟩:=hf it (by simp)
  refine wpAny_pyNext_tuple_item st (show s.heap.IsTuple a its.toArray from p) (x:=u) (by simpa using hu) fun h' st' sb=>?_
  have I1:Inv X pins σ H { s with heap:=h' }:=I.turned (t':=s.toks) (fun b o hb e=>(sb.2 b hb).trans e) f0 f1 f3 f4 f5
  obtain ⟨o,e,c,d⟩:=id st'
  exact ⟨u,rfl,jsv (s:={ s with heap:=h' }) e c d (by decide) ⟨x,H,I1,ru,⟨rfl,fun ys hy=>by rw [I.tuple_inj hy hq]; exact hx⟩,st',fun b hb=>(hf b hb).1⟩⟩
 done:=by
  intro X hP hw hK hc i pins s σ H E I hf st hg
  subst hP hw hK
  obtain ⟨xs,hq,hx⟩:=hg
  obtain ⟨its,rv,p,hz⟩:=I.tuple hq
  obtain ⟨f0,f1,f2,f3,f4,f5⟩:=hf it (by simp)
  have hl:=rv.length
  exact wpAny_pyNext_tuple_end (I.ok.hd hc) st (show s.heap.IsTuple a its.toArray from p) (by simp; omega) fun h' eb=>⟨rfl,I.turned (t':=s.toks) (fun b o hb e=>eb b o hb e) f0 f1 f3 f4 f5⟩
 self:=fun _ _ _ _ _ st h=>wpAny_pyIter_tupleiter st h
theorem jmf {P:Program} {w:World} {K:PySem.W.Frag} {tg:Expr} (it:Addr) (lo:Int) (n:Nat):Turn P w K tg (Itr lo n) [it] it (fun i h=>IsRangeIter h it (lo + (i:Nat) * 1) ((n:Int) - (i:Nat)) 1) where
 mem:=by simp
 obj:=fun i h st b hb=>by
  have e:b = it:=by simpa using hb
  subst e
  exact ⟨_,st,fun v z=>by
   have z':Data.fields _ = Data.cell v:=z
   cases z'⟩
 keep:=fun i h h' st k=>k it (by simp) _ st
 item:=by
  intro X hP hw hK hc i pins s σ H E I hf st hg
  subst hP hw hK
  obtain ⟨f0,f1,f2,f3,f4,f5⟩:=hf it (by simp)
  have W:=Walks.range (prog:=X.prog) (w:=X.w) (I.ok.hd hc) it lo 1 n
  refine W.item i s _ _ hg st fun v h' tk hv st' kk=>?_
  obtain ⟨t,rfl⟩:=hv
  have I1:Inv X pins σ H { s with heap:=h',toks:=tk }:=I.turned (fun b o hb e=>kk b o (by simpa using hb) e) f0 f1 f3 f4 f5
  refine ⟨_,rfl,jsv (s:={ s with heap:=h',toks:=tk }) (n:="range_iterator") st' rfl rfl (by decide) ⟨.int (lo + i),H,I1,⟨t,?_⟩,⟨rfl,rfl⟩,st',fun b hb=>(hf b hb).1⟩⟩
  rw [Int.mul_one]
 done:=by
  intro X hP hw hK hc i pins s σ H E I hf st hg
  subst hP hw hK
  obtain ⟨f0,f1,f2,f3,f4,f5⟩:=hf it (by simp)
  exact wpAny_pyNext_range_end (I.ok.hd hc) st (by have:n ≤ i:=hg; omega) fun h' eb=>⟨rfl,I.turned (t':=s.toks) (fun b o hb e=>eb b o hb e) f0 f1 f3 f4 f5⟩
 self:=fun _ _ _ _ _ st h=>wpAny_pyIter_rangeiter st h
end L2
namespace L2
open PySem PySem.Spec PyProof.Rows
section
variable {X:Cx} {tg:Expr}
def jbz (K:PySem.W.Frag) (tl:TE):TI:=fun σ H R=>tl σ H fun x H1=>∃ a,x = .ref a∧(∃ xs,SqL K H1 a xs)∧R (Itl K a) H1
def iTup (K:PySem.W.Frag) (tl:TE):TI:=fun σ H R=>tl σ H fun x H1=>∃ a,x = .ref a∧(∃ xs,SqT K H1 a xs)∧R (Itt K a) H1
theorem jaw {l:Expr} {tl:TE} (hl:PE X l tl):PI X tg l (jbz X.K tl):=by
 intro pins s σ H R I h
 refine thn (hl pins s σ H _ I h) fun v s1 ⟨x,H1,I1,r1,q1⟩=>?_
 obtain ⟨a,e,⟨xs,hq⟩,q⟩:=q1
 subst e
 cases r1
 obtain ⟨its,rv,p,hz⟩:=I1.list hq
 refine wpAny_pyIter_list p.isList ?_
 refine ⟨s1.heap.objs.size,[s1.heap.objs.size],_,_,H1,rfl,I1.kept (t':=s1.toks) fun b o e=>Heap.get?_push_of_some _ e,jna a _,⟨_,Heap.get?_push_size _ rfl,rfl,rfl⟩,fun b hb=>?_,q⟩
 have e:b = s1.heap.objs.size:=by simpa using hb
 subst e
 exact I1.fpOk (Nat.le_refl _) (I1.hok.fresh (Nat.le_refl _))
theorem joc {l:Expr} {tl:TE} (hl:PE X l tl):PI X tg l (iTup X.K tl):=by
 intro pins s σ H R I h
 refine thn (hl pins s σ H _ I h) fun v s1 ⟨x,H1,I1,r1,q1⟩=>?_
 obtain ⟨a,e,⟨xs,hq⟩,q⟩:=q1
 subst e
 cases r1
 obtain ⟨its,rv,p,hz⟩:=I1.tuple hq
 refine wpAny_pyIter_tuple (show s1.heap.IsTuple a its.toArray from p) ?_
 refine ⟨s1.heap.objs.size,[s1.heap.objs.size],_,_,H1,rfl,I1.kept (t':=s1.toks) fun b o e=>Heap.get?_push_of_some _ e,jme a _,⟨_,Heap.get?_push_size _ rfl,rfl,rfl⟩,fun b hb=>?_,q⟩
 have e:b = s1.heap.objs.size:=by simpa using hb
 subst e
 exact I1.fpOk (Nat.le_refl _) (I1.hok.fresh (Nat.le_refl _))
theorem jlt {pins:List (Addr × Obj)} {σ:St} {H:Hp} {s:Shared} {R:It→Hp→Prop} {E:Value→Shared→Prop} {lo hi:Int} {t u v:Tok} {tk:Nat} (I:Inv X pins σ H s) (h1:-(2 ^ 62) ≤ lo) (h2:lo < 2 ^ 62) (h3:-(2 ^ 62) ≤ hi) (h4:hi < 2 ^ 62)
  (q:R (Itr lo (hi - lo).toNat) H):wpAny (model X.prog X.w) X.A (pyIter (.ref s.heap.objs.size)) (PIE X pins σ tg R) E { s with heap:=s.heap.push { cls:=.type "range",data:=.fields #[.int lo t,.int hi u,.int 1 v] },toks:=tk }:=by
 refine wpAny_pyIter_range (IsRange.new ..) (small_one h1 h2 h3 h4) ?_
 have I1:Inv X pins σ H { s with heap:=s.heap.push { cls:=.type "range",data:=.fields #[.int lo t,.int hi u,.int 1 v] },toks:=tk }:=I.kept fun b o e=>Heap.get?_push_of_some _ e
 refine ⟨(s.heap.push { cls:=.type "range",data:=.fields #[.int lo t,.int hi u,.int 1 v] }).objs.size,[(s.heap.push { cls:=.type "range",data:=.fields #[.int lo t,.int hi u,.int 1 v] }).objs.size],_,_,H,rfl,
  I1.kept (t':=tk) fun b o e=>Heap.get?_push_of_some _ e,jmf _ lo (hi - lo).toNat,?_,fun b hb=>?_,q⟩
 ·have e1:lo + ((0:Nat):Int) * 1 = lo:=by simp
  have e2:(((hi - lo).toNat:Nat):Int) - ((0:Nat):Int) = Builtin.Range.rangeSize lo hi 1:=by rw [rangeSize_one]; split <;> omega
  show IsRangeIter _ _ (lo + ((0:Nat):Int) * 1) ((((hi - lo).toNat:Nat):Int) - ((0:Nat):Int)) 1
  rw [e1,e2]
  exact Heap.get?_push_size _ rfl
 ·have e:b = (s.heap.push { cls:=.type "range",data:=.fields #[.int lo t,.int hi u,.int 1 v] }).objs.size:=by simpa using hb
  subst e
  exact I1.fpOk (Nat.le_refl _) (I1.hok.fresh (Nat.le_refl _))
def jfr (ta:TA):TI:=fun σ H R=>ta σ H fun vs H1=>∃ j:Int,vs = [.int j]∧-(2 ^ 62) ≤ j∧j < 2 ^ 62∧R (Itr 0 j.toNat) H1
def iRng2 (ta:TA):TI:=fun σ H R=>ta σ H fun vs H1=>∃ i j:Int,vs = [.int i,.int j]∧(-(2 ^ 62) ≤ i∧i < 2 ^ 62∧-(2 ^ 62) ≤ j∧j < 2 ^ 62)∧R (Itr i (j - i).toNat) H1
theorem jbv {a:Expr} {ta:TA} {p pos:Pos} (hg:Gl X "range") (hm:X.mg "range" = none) (ha:PA X [a] ta) (hs:starEach [a] X.env = [(false,eval a X.env)]:=by rfl):PI X tg (.Call (.Name "range" p) [a] [] pos) (jfr ta):=by
 intro pins s σ H R I h
 refine Call_ (jet I hg hm boot_range (PyProof.Rows.callWith_type1 (thn (ha pos pins s σ H _ I h) fun us s1 ⟨vs,H1,I1,r1,q1⟩=>?_) hs rfl))
 obtain ⟨j,e,q1,q2,q⟩:=q1
 subst e
 cases r1 with
 | cons r rr =>
  cases rr
  obtain ⟨t,rfl⟩:=r
  exact call_range_1 (jlt I1 (by omega) (by omega) q1 q2 (by simpa using q))
theorem jod {a b:Expr} {ta:TA} {p pos:Pos} (hg:Gl X "range") (hm:X.mg "range" = none) (ha:PA X [a,b] ta) (hs:starEach [a,b] X.env = [(false,eval a X.env),(false,eval b X.env)]:=by rfl) (hs2:starEach [b] X.env = [(false,eval b X.env)]:=by rfl) :
  PI X tg (.Call (.Name "range" p) [a,b] [] pos) (iRng2 ta):=by
 intro pins s σ H R I h
 refine Call_ (jet I hg hm boot_range (PyProof.Rows.callWith_type1 (thn (ha pos pins s σ H _ I h) fun us s1 ⟨vs,H1,I1,r1,q1⟩=>?_) (by rw [hs,hs2]) (by rw [hs2]; rfl)))
 obtain ⟨i,j,e,⟨q1,q2,q3,q4⟩,q⟩:=q1
 subst e
 cases r1 with
 | cons r rr =>
  cases rr with
  | cons r' rr =>
   cases rr
   obtain ⟨t,rfl⟩:=r
   obtain ⟨t',rfl⟩:=r'
   exact call_range_2 (jlt I1 q1 q2 q3 q4 q)
def tFor (wi:TI) (g:TG) (tb:TS):TS:=fun D σ H=>wi σ H fun J H1=>∃ W:Nat→Nat→St→Hp→Prop,(∃ m,W 0 m σ H1)∧∀ i m σ H,W i m σ H →
 (J.stop i H∧D.nx σ H) ∨ (J.go i H∧∃ N:St→Hp→Prop,(∀ σ' H',N σ' H'→∃ m',m' < m∧W (i + 1) m' σ' H')∧∀ x H',J.yld i H x H'→g x σ H' fun σ2 H2=>tb { D with nx:=N,ct:=N,bk:=D.nx } σ2 H2)
def jje (fp:List Addr) (h:Heap):List (Addr × Obj):=fp.filterMap fun b=>(h.get? b).map fun o=>(b,o)
theorem jdz {fp:List Addr} {h:Heap} {b:Addr} {o:Obj} (hb:b ∈ fp) (e:h.get? b = some o):(b,o) ∈ jje fp h:=List.mem_filterMap.mpr ⟨b,hb,by rw [e]; rfl⟩
theorem joq {fp:List Addr} {h:Heap} {p:Addr × Obj} (hp:p ∈ jje fp h):p.1 ∈ fp∧h.get? p.1 = some p.2:=by
 obtain ⟨b,hb,e⟩:=List.mem_filterMap.mp hp
 cases q:h.get? b with
 | none=>rw [q] at e; cases e
 | some o =>
  rw [q] at e
  have e':(b,o) = p:=Option.some.inj e
  subst e'
  exact ⟨hb,q⟩
theorem Inv.pinned {pins:List (Addr × Obj)} {σ:St} {H:Hp} {s:Shared} {fp:List Addr} (I:Inv X pins σ H s) (hf:∀ b ∈ fp,FpOk X pins H b) (ho:∀ b ∈ fp,∃ o,s.heap.get? b = some o∧∀ v,o.data ≠ .cell v):Inv X (pins ++ jje fp s.heap) σ H s :=
 I.pins_of fun p hp=>(List.mem_append.mp hp).elim (fun z=>I.pin p (List.mem_append_right _ z)) fun z=>by
  obtain ⟨hb,e⟩:=joq z
  obtain ⟨f0,f1,f2,_⟩:=hf p.1 hb
  obtain ⟨o,e',d⟩:=ho p.1 hb
  rw [e] at e'; cases e'
  exact ⟨e,f0,f1,f2,d⟩
theorem Inv.unpinned {pins pl:List (Addr × Obj)} {σ:St} {H:Hp} {s:Shared} (I:Inv X (pins ++ pl) σ H s):Inv X pins σ H s:=I.pins_of fun p hp=>I.pin p (List.mem_append_right _ (List.mem_append_left _ hp))
theorem jbm {iter:Expr} {body:List Stmt} {wi:TI} {g:TG} {tb:TS} {pos:Pos} (hp:PassesOwn (model X.prog X.w) X.A X.env X.xe) (hc:X.calm = true) (hi:PI X tg iter wi) (hg:PG X tg g) (hb:PSs X body tb)
  (hs:∀ x,foldedSetIterable iter X.env x = pure x:=by intro _; rfl):PS X (.For tg iter body [] pos) (tFor wi g tb):=by
 intro pins s σ H D I h
 refine wpAny_For (thn (hi pins s σ H _ I h) fun v s1 h1=>thn h1 fun itv s2 h2=>?_) hs
 obtain ⟨it,fp,tn,J,H2,e,I2,T,st2,f2,W,⟨m0,w0⟩,turn⟩:=h2
 subst e
  -- what stays true of the iterator's objects through the loop
 have stat:∀ {H':Hp},(∀ b ∈ fp,H' b = none)→∀ b ∈ fp,FpOk X pins H' b:=fun hn b hb=>⟨hn b hb,(f2 b hb).2⟩
 refine codeAny_forLoop_any (fun n s'=>∃ i σ' H',Inv X pins σ' H' s'∧tn i s'.heap∧(∀ b ∈ fp,H' b = none)∧W i n σ' H') ?_ m0 ⟨0,σ,H2,I2,st2,fun b hb=>(f2 b hb).1,w0⟩
 rintro n s3 ⟨i,σ3,H3,I3,st3,fr3,w3⟩
 rcases turn i n σ3 H3 w3 with ⟨stop,qn⟩ | ⟨go,N,hN,step⟩
 ·refine wpAny_passesOwn hp (thn (T.done X rfl rfl rfl hc i pins s3 σ3 H3 X.xe I3 (stat fr3) st3 stop) fun r s4 ⟨hr,I4⟩=>?_)
  subst hr
  exact wpAny_execs_nil ⟨σ3,H3,I4,qn⟩
 ·refine wpAny_passesOwn hp (thn (T.item X rfl rfl rfl hc i pins s3 σ3 H3 X.xe I3 (stat fr3) st3 go) fun r s4 ⟨u,hr,h4⟩=>?_)
  subst hr
  refine wpAny_passesOwn hp (thn h4 fun _ s5 ⟨x,H5,I5,r5,y5,st5,fr5⟩=>?_)
  have I5':=I5.pinned (stat fr5) (T.obj _ _ st5)
  refine wpAny_passesOwn hp (thn (hg _ s5 σ3 H5 x u _ I5' r5 (step x H5 y5)) fun _ s6 ⟨σ6,H6,I6,q6⟩=>?_)
  refine wpAny_passesOwn hp (thn (hb _ s6 σ6 H6 _ I6 q6) fun f s7 q7=>?_)
  have again:∀ {σ7:St} {H7:Hp},Inv X (pins ++ jje fp s5.heap) σ7 H7 s7→N σ7 H7→∃ m,m < n∧∃ i σ' H',Inv X pins σ' H' s7∧tn i s7.heap∧(∀ b ∈ fp,H' b = none)∧W i m σ' H':=fun {σ7 H7} I7 n7=>by
   obtain ⟨m',hm,w7⟩:=hN σ7 H7 n7
   refine ⟨m',hm,i + 1,σ7,H7,I7.unpinned,T.keep _ _ _ st5 fun b hb o e=>(I7.pin (b,o) (List.mem_append_right _ (List.mem_append_right _ (jdz hb e)))).1,fun b hb=>?_,w7⟩
   obtain ⟨o,e,d⟩:=T.obj _ _ st5 b hb
   exact (I7.pin (b,o) (List.mem_append_right _ (List.mem_append_right _ (jdz hb e)))).2.1
  cases f with
  | next=>obtain ⟨σ7,H7,I7,n7⟩:=q7; exact again I7 n7
  | cont=>obtain ⟨σ7,H7,I7,n7⟩:=q7; exact again I7 n7
  | brk=>obtain ⟨σ7,H7,I7,q7⟩:=q7; exact ⟨σ7,H7,I7.unpinned,q7⟩
  | ret v=>obtain ⟨x7,σ7,H7,I7,r7,q7⟩:=q7; exact ⟨x7,σ7,H7,I7.unpinned,r7,q7⟩
end
theorem jby {K:PySem.W.Frag} {a:Addr} {xs:List V} {g:TG} {tb:TS} {D:Ends} {σ:St} {H:Hp} (Pv:Nat→St→Hp→Prop) (h0:Pv 0 σ H) (hl:∀ i σ H,i ≤ xs.length→Pv i σ H→SqL K H a xs)
  (hs:∀ i x σ H,xs[i]? = some x→Pv i σ H→g x σ H fun σ2 H2=>tb { D with nx:=Pv (i + 1),ct:=Pv (i + 1),bk:=D.nx } σ2 H2) (hd:∀ σ H,Pv xs.length σ H→D.nx σ H) :
  ∃ W:Nat→Nat→St→Hp→Prop,(∃ m,W 0 m σ H)∧∀ i m σ H,W i m σ H →
   ((Itl K a).stop i H∧D.nx σ H) ∨ ((Itl K a).go i H∧∃ N:St→Hp→Prop,(∀ σ' H',N σ' H'→∃ m',m' < m∧W (i + 1) m' σ' H')∧∀ x H',(Itl K a).yld i H x H'→g x σ H' fun σ2 H2=>tb { D with nx:=N,ct:=N,bk:=D.nx } σ2 H2):=by
 refine ⟨fun i m σ H=>m = xs.length - i∧i ≤ xs.length∧Pv i σ H,⟨xs.length,by simp,Nat.zero_le _,h0⟩,?_⟩
 rintro i m σ H ⟨rfl,hi,p⟩
 have q:=hl i σ H hi p
 by_cases hlt:i < xs.length
 ·refine .inr ⟨⟨xs,xs[i],q,by simp [hlt]⟩,Pv (i + 1),fun σ' H' p'=>⟨xs.length - (i + 1),by omega,rfl,hlt,p'⟩,fun x H' y=>?_⟩
  obtain ⟨e,y⟩:=y
  subst e
  exact hs i x σ _ (y xs q) p
 ·have e:i = xs.length:=by omega
  subst e
  exact .inl ⟨⟨xs,q,Nat.le_refl _⟩,hd σ H p⟩
theorem jc2 {lo:Int} {n:Nat} {g:TG} {tb:TS} {D:Ends} {σ:St} {H:Hp} (Pv:Nat→St→Hp→Prop) (h0:Pv 0 σ H)
  (hs:∀ i σ H,i < n→Pv i σ H→g (.int (lo + i)) σ H fun σ2 H2=>tb { D with nx:=Pv (i + 1),ct:=Pv (i + 1),bk:=D.nx } σ2 H2) (hd:∀ σ H,Pv n σ H→D.nx σ H) :
  ∃ W:Nat→Nat→St→Hp→Prop,(∃ m,W 0 m σ H)∧∀ i m σ H,W i m σ H →
   ((Itr lo n).stop i H∧D.nx σ H) ∨ ((Itr lo n).go i H∧∃ N:St→Hp→Prop,(∀ σ' H',N σ' H'→∃ m',m' < m∧W (i + 1) m' σ' H')∧∀ x H',(Itr lo n).yld i H x H'→g x σ H' fun σ2 H2=>tb { D with nx:=N,ct:=N,bk:=D.nx } σ2 H2):=by
 refine ⟨fun i m σ H=>m = n - i∧i ≤ n∧Pv i σ H,⟨n,by simp,Nat.zero_le _,h0⟩,?_⟩
 rintro i m σ H ⟨rfl,hi,p⟩
 by_cases hlt:i < n
 ·refine .inr ⟨hlt,Pv (i + 1),fun σ' H' p'=>⟨n - (i + 1),by omega,rfl,hlt,p'⟩,fun x H' y=>?_⟩
  obtain ⟨e,y⟩:=y
  subst e y
  exact hs i σ _ hlt p
 ·have e:i = n:=by omega
  subst e
  exact .inl ⟨Nat.le_refl _,hd σ H p⟩
end L2
namespace L2
open PySem PySem.Spec PyProof.Rows
abbrev R2:=V→V→Hp→VK→Prop
def OpR (X:Cx) (f:Value→Value→Sem Value) (r:R2):Prop :=
 ∀ (pins:List (Addr × Obj)) (s:Shared) (σ:St) (H:Hp) (x y:V) (v u:Value) (Q:VK),Inv X pins σ H s→RelV x v→RelV y u→r x y H Q →
  wpAny (model X.prog X.w) X.A (f v u) (EP X pins σ Q) X.xe s
def UnR (X:Cx) (f:Value→Sem Value) (r:V→Hp→VK→Prop):Prop :=
 ∀ (pins:List (Addr × Obj)) (s:Shared) (σ:St) (H:Hp) (x:V) (v:Value) (Q:VK),Inv X pins σ H s→RelV x v→r x H Q →
  wpAny (model X.prog X.w) X.A (f v) (EP X pins σ Q) X.xe s
def jd0 (X:Cx) (f:Value) (r:List V→Hp→VK→Prop):Prop :=
 ∀ (pins:List (Addr × Obj)) (s:Shared) (σ:St) (H:Hp) (xs:List V) (us:List Value) (Q:VK),Inv X pins σ H s→Vals xs us→r xs H Q →
  wpAny (model X.prog X.w) X.A (call f us) (EP X pins σ Q) X.xe s
def tOp (r:R2) (ta tb:TE):TE:=fun σ H Q=>ta σ H fun x H1=>tb σ H1 fun y H2=>r x y H2 Q
def tUn (r:V→Hp→VK→Prop) (ta:TE):TE:=fun σ H Q=>ta σ H fun x H1=>r x H1 Q
def rI (C:Int→Int→Prop) (g:Int→Int→V):R2:=fun x y H Q=>∃ i j,x = .int i∧y = .int j∧C i j∧Q (g i j) H
def rI0 (g:Int→Int→V):R2:=fun x y H Q=>∃ i j,x = .int i∧y = .int j∧Q (g i j) H
def rU (g:Int→V):V→Hp→VK→Prop:=fun x H Q=>∃ i,x = .int i∧Q (g i) H
section
variable {X:Cx} {a b c:Expr} {ta tb tc:TE} {pos:Pos}
theorem binT (ha:PE X a ta) (hb:PE X b tb) {pins:List (Addr × Obj)} {s:Shared} {σ:St} {H:Hp} {R:V→V→Hp→Prop} (I:Inv X pins σ H s)
  (h:ta σ H fun x H1=>tb σ H1 fun y H2=>R x y H2) {Q:Value→Shared→Prop} {f:Value→Value→Sem Value}
  (hf:∀ v u s2 x y H2,Inv X pins σ H2 s2→RelV x v→RelV y u→R x y H2→wpAny (model X.prog X.w) X.A (f v u) Q X.xe s2) :
  wpAny (model X.prog X.w) X.A (eval a X.env) (fun v s₁=>wpAny (model X.prog X.w) X.A (eval b X.env) (fun u s₂=>wpAny (model X.prog X.w) X.A (f v u) Q X.xe s₂) X.xe s₁) X.xe s:=by
 refine thn (ha pins s σ H _ I h) fun v s1 ⟨x,H1,I1,r1,q1⟩=>?_
 refine thn (hb pins s1 σ H1 _ I1 q1) fun u s2 ⟨y,H2,I2,r2,q2⟩=>?_
 exact hf v u s2 x y H2 I2 r1 r2 q2
theorem jau {op:Operator} {r:R2} (ho:OpR X (binaryOp op) r) (ha:PE X a ta) (hb:PE X b tb):PE X (.BinOp a op b pos) (tOp r ta tb):=by
 intro pins s σ H Q I h
 exact wpAny_BinOp (binT ha hb I h fun v u s2 x y H2 I2 rx ry q=>ho pins s2 σ H2 x y v u Q I2 rx ry q)
theorem jdr {op:UnaryOp} {r:V→Hp→VK→Prop} (ho:UnR X (unaryOp op) r) (ha:PE X a ta):PE X (.UnaryOp op a pos) (tUn r ta):=by
 intro pins s σ H Q I h
 exact UnaryOp_ (thn (ha pins s σ H _ I h) fun v s1 ⟨x,H1,I1,r1,q1⟩=>ho pins s1 σ H1 x v Q I1 r1 q1)
theorem opI {f:Value→Value→Sem Value} {C:Int→Int→Prop} {g:Int→Int→Int}
  (rule:∀ (i j:Int) (t u:Tok) (s:Shared) (Q:Value→Shared→Prop) (E:Value→Shared→Prop),C i j→Q (.int (g i j) s.toks) { s with toks:=s.toks + 1 }→wpAny (model X.prog X.w) X.A (f (.int i t) (.int j u)) Q E s) :
  OpR X f (rI C fun i j=>.int (g i j)):=by
 intro pins s σ H x y v u Q I rx ry h
 obtain ⟨i,j,rfl,rfl,hc,q⟩:=h
 obtain ⟨t,rfl⟩:=rx
 obtain ⟨t',rfl⟩:=ry
 exact rule i j t t' s _ _ hc ⟨.int (g i j),H,I.tok _,⟨_,rfl⟩,q⟩
theorem opI0 {f:Value→Value→Sem Value} {g:Int→Int→Int}
  (rule:∀ (i j:Int) (t u:Tok) (s:Shared) (Q:Value→Shared→Prop) (E:Value→Shared→Prop),Q (.int (g i j) s.toks) { s with toks:=s.toks + 1 }→wpAny (model X.prog X.w) X.A (f (.int i t) (.int j u)) Q E s) :
  OpR X f (rI0 fun i j=>.int (g i j)):=by
 intro pins s σ H x y v u Q I rx ry h
 obtain ⟨i,j,rfl,rfl,q⟩:=h
 obtain ⟨t,rfl⟩:=rx
 obtain ⟨t',rfl⟩:=ry
 exact rule i j t t' s _ _ ⟨.int (g i j),H,I.tok _,⟨_,rfl⟩,q⟩
theorem opB0 {f:Value→Value→Sem Value} {g:Int→Int→Bool}
  (rule:∀ (i j:Int) (t u:Tok) (s:Shared) (Q:Value→Shared→Prop) (E:Value→Shared→Prop),Q (.bool (g i j)) s→wpAny (model X.prog X.w) X.A (f (.int i t) (.int j u)) Q E s) :
  OpR X f (rI0 fun i j=>.bl (g i j)):=by
 intro pins s σ H x y v u Q I rx ry h
 obtain ⟨i,j,rfl,rfl,q⟩:=h
 obtain ⟨t,rfl⟩:=rx
 obtain ⟨t',rfl⟩:=ry
 exact rule i j t t' s _ _ ⟨.bl (g i j),H,I,rfl,q⟩
def CDiv (i j:Int):Prop:=0 < j∧j < 1073741824
def CPow (i j:Int):Prop:=0 ≤ j∧j ≤ 1000000∧i.natAbs < 2 ^ 64
def CMul (i j:Int):Prop:=(-(2 ^ 64) < i∧i < 2 ^ 64) ∨ (-(2 ^ 64) < j∧j < 2 ^ 64)
theorem CMul.ok {i j:Int} (h:CMul i j):IntMulOk i j:=by
 rcases h with ⟨h1,h2⟩ | ⟨h1,h2⟩
 ·exact .of_left (intBits_le_64 h1 h2)
 ·exact .of_right (intBits_le_64 h1 h2)
theorem op_add:OpR X (binaryOp .Add) (rI0 fun i j=>.int (i + j)):=opI0 fun _ _ _ _ _ _ _ q=>add_int q
theorem op_sub:OpR X (binaryOp .Sub) (rI0 fun i j=>.int (i - j)):=opI0 fun _ _ _ _ _ _ _ q=>sub_int q
theorem op_mul:OpR X (binaryOp .Mult) (rI CMul fun i j=>.int (i * j)):=opI fun _ _ _ _ _ _ _ hc q=>mul_int q hc.ok
theorem jsk:OpR X (binaryOp .FloorDiv) (rI CDiv fun i j=>.int (i / j)):=opI fun i j _ _ _ _ _ hc q=>by
 have h1:(0:Int) < j:=hc.1
 have h2:j < 1073741824:=hc.2
 exact floordiv_int (by omega) (by rw [Int.fdiv_eq_ediv_of_nonneg i (by omega)]; exact q) (.inl (PyProof.noPylong_small (by omega)))
theorem op_mod:OpR X (binaryOp .Mod) (rI (fun _ j=>0 < j) fun i j=>.int (i % j)):=opI fun i j _ _ _ _ _ hc q=>by
 have h1:(0:Int) < j:=hc
 exact mod_int' (by omega) (by rw [Int.fmod_eq_emod_of_nonneg i (by omega)]; exact q)
theorem op_pow:OpR X (binaryOp .Pow) (rI CPow fun i j=>.int (i ^ j.toNat)):=opI fun _ _ _ _ _ _ _ hc q=>pow_int_small hc.1 hc.2.1 hc.2.2 q
theorem jss:OpR X (inplaceOp .Add) (rI0 fun i j=>.int (i + j)):=opI0 fun _ _ _ _ _ _ _ q=>iadd_int q
theorem unI {f:Value→Sem Value} {g:Int→Int}
  (rule:∀ (i:Int) (t:Tok) (s:Shared) (Q:Value→Shared→Prop) (E:Value→Shared→Prop),Q (.int (g i) s.toks) { s with toks:=s.toks + 1 }→wpAny (model X.prog X.w) X.A (f (.int i t)) Q E s) :
  UnR X f (rU fun i=>.int (g i)):=by
 intro pins s σ H x v Q I rx h
 obtain ⟨i,rfl,q⟩:=h
 obtain ⟨t,rfl⟩:=rx
 exact rule i t s _ _ ⟨.int (g i),H,I.tok _,⟨_,rfl⟩,q⟩
theorem un_neg:UnR X (unaryOp .USub) (rU fun i=>.int (-i)):=unI fun _ _ _ _ _ q=>neg_int q
end
def scal:V→V→Bool
 | .non,.non=>true | .non,.int _=>true | .int _,.non=>true | .non,.bl _=>true | .bl _,.non=>true | .non,.str _=>true | .str _,.non=>true
 | .int _,.int _=>true | .bl _,.bl _=>true | .str _,.str _=>true | .byt _,.byt _=>true
 | .int _,.str _=>true | .str _,.int _=>true | .bl _,.str _=>true | .str _,.bl _=>true
 | _,_=>false
def rEq:R2:=fun x y H Q=>scal x y = true∧Q (.bl (decide (x = y))) H
def rNe:R2:=fun x y H Q=>scal x y = true∧Q (.bl (!decide (x = y))) H
theorem jpn {i j:Int}:decide (V.int i = V.int j) = (i == j):=by
 rw [Bool.eq_iff_iff]
 simp
theorem js1 {i j:Bool}:decide (V.bl i = V.bl j) = (i == j):=by
 rw [Bool.eq_iff_iff]
 simp
theorem jpm {i j:Str}:decide (V.str i = V.str j) = (i == j):=by
 rw [Bool.eq_iff_iff]
 simp
theorem jpo {i j:Array UInt8}:decide (V.byt i = V.byt j) = (i.toList == j.toList):=by
 rw [Bool.eq_iff_iff]
 cases i
 cases j
 simp
section
variable {X:Cx} {a b c:Expr} {ta tb tc:TE} {pos:Pos}
theorem jbb {pins:List (Addr × Obj)} {σ:St} {H:Hp} {s:Shared} {Q:VK} {k k':Bool} (I:Inv X pins σ H s) (q:Q (.bl k) H) (e:k = k'):EP X pins σ Q (.bool k') s:=by
 subst e
 exact ⟨.bl k,H,I,rfl,q⟩
theorem op_eq:OpR X (compareOp .Eq) rEq:=by
 intro pins s σ H x y v u Q I rx ry h
 obtain ⟨hs,q⟩:=h
 cases x with
 | non =>
  cases rx
  cases y with
  | non=>cases ry; exact PySem.EqNone.eq_none_none (jbb I q (by simp))
  | bl j=>cases ry; exact PySem.EqNone.eq_none_bool (jbb I q (by simp))
  | int j=>obtain ⟨t',rfl⟩:=ry; exact PySem.EqNone.eq_none_int (jbb I q (by simp))
  | str j=>obtain ⟨t',rfl⟩:=ry; exact PySem.EqNone.eq_none_str (jbb I q (by simp))
  | _=>exact absurd (show false = true from hs) Bool.false_ne_true
 | bl i =>
  cases rx
  cases y with
  | non=>cases ry; exact PySem.EqNone.eq_bool_none (jbb I q (by simp))
  | bl j=>cases ry; exact eq_bool (jbb I q js1)
  | str j=>obtain ⟨t',rfl⟩:=ry; exact PySem.EqMixed.eq_bool_str (jbb I q (by simp))
  | _=>exact absurd (show false = true from hs) Bool.false_ne_true
 | int i =>
  obtain ⟨t,rfl⟩:=rx
  cases y with
  | non=>cases ry; exact PySem.EqNone.eq_int_none (jbb I q (by simp))
  | int j=>obtain ⟨t',rfl⟩:=ry; exact eq_int (jbb I q jpn)
  | str j=>obtain ⟨t',rfl⟩:=ry; exact PySem.EqMixed.eq_int_str (jbb I q (by simp))
  | _=>exact absurd (show false = true from hs) Bool.false_ne_true
 | str i =>
  obtain ⟨t,rfl⟩:=rx
  cases y with
  | non=>cases ry; exact PySem.EqNone.eq_str_none (jbb I q (by simp))
  | bl j=>cases ry; exact PySem.EqMixed.eq_str_bool (jbb I q (by simp))
  | int j=>obtain ⟨t',rfl⟩:=ry; exact PySem.EqMixed.eq_str_int (jbb I q (by simp))
  | str j=>obtain ⟨t',rfl⟩:=ry; exact eq_str (jbb I q jpm)
  | _=>exact absurd (show false = true from hs) Bool.false_ne_true
 | byt i =>
  obtain ⟨t,rfl⟩:=rx
  cases y with
  | byt j=>obtain ⟨t',rfl⟩:=ry; exact PySem.W.eq_bytes (jbb I q jpo)
  | _=>exact absurd (show false = true from hs) Bool.false_ne_true
 | _=>cases y <;> exact absurd (show false = true from hs) Bool.false_ne_true
theorem op_ne:OpR X (compareOp .NotEq) rNe:=by
 intro pins s σ H x y v u Q I rx ry h
 obtain ⟨hs,q⟩:=h
 cases x with
 | non =>
  cases rx
  cases y with
  | non=>cases ry; exact PySem.EqNone.ne_none_none (jbb I q (by simp))
  | bl j=>cases ry; exact PySem.EqNone.ne_none_bool (jbb I q (by simp))
  | int j=>obtain ⟨t',rfl⟩:=ry; exact PySem.EqNone.ne_none_int (jbb I q (by simp))
  | str j=>obtain ⟨t',rfl⟩:=ry; exact PySem.EqNone.ne_none_str (jbb I q (by simp))
  | _=>exact absurd (show false = true from hs) Bool.false_ne_true
 | bl i =>
  cases rx
  cases y with
  | non=>cases ry; exact PySem.EqNone.ne_bool_none (jbb I q (by simp))
  | bl j=>cases ry; exact ne_bool (jbb I q (congrArg not js1))
  | str j=>obtain ⟨t',rfl⟩:=ry; exact PySem.EqMixed.ne_bool_str (jbb I q (by simp))
  | _=>exact absurd (show false = true from hs) Bool.false_ne_true
 | int i =>
  obtain ⟨t,rfl⟩:=rx
  cases y with
  | non=>cases ry; exact PySem.EqNone.ne_int_none (jbb I q (by simp))
  | int j=>obtain ⟨t',rfl⟩:=ry; exact ne_int (jbb I q (congrArg not jpn))
  | str j=>obtain ⟨t',rfl⟩:=ry; exact PySem.EqMixed.ne_int_str (jbb I q (by simp))
  | _=>exact absurd (show false = true from hs) Bool.false_ne_true
 | str i =>
  obtain ⟨t,rfl⟩:=rx
  cases y with
  | non=>cases ry; exact PySem.EqNone.ne_str_none (jbb I q (by simp))
  | bl j=>cases ry; exact PySem.EqMixed.ne_str_bool (jbb I q (by simp))
  | int j=>obtain ⟨t',rfl⟩:=ry; exact PySem.EqMixed.ne_str_int (jbb I q (by simp))
  | str j=>obtain ⟨t',rfl⟩:=ry; exact ne_str (jbb I q (congrArg not jpm))
  | _=>exact absurd (show false = true from hs) Bool.false_ne_true
 | byt i =>
  obtain ⟨t,rfl⟩:=rx
  cases y with
  | byt j=>obtain ⟨t',rfl⟩:=ry; exact PySem.W.ne_bytes (jbb I q (congrArg not jpo))
  | _=>exact absurd (show false = true from hs) Bool.false_ne_true
 | _=>cases y <;> exact absurd (show false = true from hs) Bool.false_ne_true
theorem op_lt:OpR X (compareOp .Lt) (rI0 fun i j=>.bl (decide (i < j))):=opB0 fun _ _ _ _ _ _ _ q=>lt_int q
theorem op_le:OpR X (compareOp .LtE) (rI0 fun i j=>.bl (decide (i ≤ j))):=opB0 fun _ _ _ _ _ _ _ q=>le_int q
theorem op_gt:OpR X (compareOp .Gt) (rI0 fun i j=>.bl (decide (j < i))):=opB0 fun _ _ _ _ _ _ _ q=>gt_int q
theorem op_ge:OpR X (compareOp .GtE) (rI0 fun i j=>.bl (decide (j ≤ i))):=opB0 fun _ _ _ _ _ _ _ q=>ge_int q
theorem jam (b:Expr) {op:CmpOp} (h:op ≠ .In:=by decide) (h2:op ≠ .NotIn:=by decide):behindInMarks op b = false:=by
 have e1:(op == CmpOp.In) = false:=by cases op <;> first | rfl | exact absurd rfl h
 have e2:(op == CmpOp.NotIn) = false:=by cases op <;> first | rfl | exact absurd rfl h2
 cases b <;> simp [behindInMarks,e1,e2]
theorem jbn {op:CmpOp} {r:R2} (ho:OpR X (compareOp op) r) (ha:PE X a ta) (hb:PE X b tb) (hm:behindInMarks op b = false):PE X (.Compare a [op] [b] pos) (tOp r ta tb):=by
 intro pins s σ H Q I h
 exact wpAny_Compare1 (binT ha hb I h fun v u s2 x y H2 I2 rx ry q=>ho pins s2 σ H2 x y v u Q I2 rx ry q) hm
theorem jm2:(sizeLine:Nat) < 2 ^ 63:=by rw [sizeLine_eq]; decide
theorem jhv {x:V} {us:List Value} (r:Vals [x] us):∃ u,us = [u]∧RelV x u:=by
 cases r with
 | cons r1 r2=>cases r2; exact ⟨_,rfl,r1⟩
theorem vals2 {x y:V} {us:List Value} (r:Vals [x,y] us):∃ u w',us = [u,w']∧RelV x u∧RelV y w':=by
 cases r with
 | cons r1 r2 =>
  cases r2 with
  | cons r3 r4=>cases r4; exact ⟨_,_,rfl,r1,r3⟩
theorem jpz (hc:X.calm = true):jd0 X (.builtin "max") (fun xs H Q=>∃ i j,xs = [.int i,.int j]∧Q (.int (if j > i then j else i)) H):=by
 intro pins s σ H xs us Q I r h
 obtain ⟨i,j,rfl,q⟩:=h
 obtain ⟨u,w',rfl,⟨t,rfl⟩,⟨t',rfl⟩⟩:=vals2 r
 refine max_two_ints (I.ok.hd hc) fun h' tk k=>⟨_,H,I.kept k,?_,q⟩
 by_cases hj:j > i
 ·rw [if_pos hj,if_pos hj]; exact ⟨_,rfl⟩
 ·rw [if_neg hj,if_neg hj]; exact ⟨_,rfl⟩
theorem jpx (hc:X.calm = true):jd0 X (.builtin "min") (fun xs H Q=>∃ i j,xs = [.int i,.int j]∧Q (.int (if j < i then j else i)) H):=by
 intro pins s σ H xs us Q I r h
 obtain ⟨i,j,rfl,q⟩:=h
 obtain ⟨u,w',rfl,⟨t,rfl⟩,⟨t',rfl⟩⟩:=vals2 r
 refine min_two_ints (I.ok.hd hc) fun h' tk k=>⟨_,H,I.kept k,?_,q⟩
 by_cases hj:j < i
 ·rw [if_pos hj,if_pos hj]; exact ⟨_,rfl⟩
 ·rw [if_neg hj,if_neg hj]; exact ⟨_,rfl⟩
theorem jq0:jd0 X (.type "int") (fun xs H Q=>(∃ i,xs = [.int i]∧Q (.int i) H) ∨ ∃ k,xs = [.bl k]∧Q (.int (if k then 1 else 0)) H):=by
 intro pins s σ H xs us Q I r h
 rcases h with ⟨i,rfl,q⟩ | ⟨k,rfl,q⟩
 ·obtain ⟨u,rfl,t,rfl⟩:=jhv r
  exact call_int_int ⟨.int i,H,I,⟨_,rfl⟩,q⟩
 ·obtain ⟨u,rfl,r1⟩:=jhv r
  cases r1
  exact call_int_bool ⟨.int (if k then 1 else 0),H,I.tok _,⟨_,rfl⟩,q⟩
end
end L2
namespace L2
open PySem PySem.Spec PyProof.Rows
structure ObjM (h:Heap) (x dx C:Addr) (mA:Str→Option Value):Prop where
 obj:h.get? x = some (PySem.W.instObj C dx)
 ns:h.Ns1 dx mA
 ne:dx ≠ x
theorem joy {h:Heap} {dx:Addr} {mA:Str→Option Value} (n:h.Ns1 dx mA):∃ od,h.get? dx = some od∧∀ name,PySem.W.lookIn name od = some (mA name):=by
 obtain ⟨o,es,ep,ho,hd,hk,_,hm⟩:=n
 refine ⟨o,ho,fun name=>?_⟩
 have e:=hm name
 unfold nsFind findBy at e
 rw [← Array.find?_toList] at e
 unfold PySem.W.lookIn
 rw [hd]
 dsimp only
 split
 ·rename_i y q
  rw [q] at e
  exact congrArg some e
 ·rename_i q
  rw [q] at e
  have a:es.toList.any (·.refKey) = false:=by
   rw [List.any_eq_false]
   intro y hy
   obtain ⟨z,t,hkey⟩:=hk y (Array.mem_toList_iff.mp hy)
   simp [DictEntry.refKey,hkey]
  have a':¬ es.toList.any (·.refKey) = true:=by rw [a]; exact Bool.false_ne_true
  rw [if_neg a']
  exact congrArg some e
theorem ObjM.look {h:Heap} {x dx C:Addr} {mA:Str→Option Value} (I:ObjM h x dx C mA):∃ od,PySem.W.InstAt h x (PySem.W.instObj C dx) C (some od)∧∀ name,PySem.W.lookIn name od = some (mA name) :=
 let ⟨od,ho,hl⟩:=joy I.ns
 ⟨od,⟨I.obj,rfl,rfl,ho⟩,hl⟩
section
variable {prog:Program} {w:World} {A:Around} {E:Value→Shared→Prop} {s:Shared} {K:PySem.W.Frag} {x dx C f:Addr} {mA:Str→Option Value} {name:Str} {v:Value}
end
theorem RelO.some_of {v:V} {o:Option Value} (r:RelO (some v) o):∃ u,o = some u∧RelV v u:=by
 cases o with
 | none=>exact (show False from r).elim
 | some u=>exact ⟨u,rfl,r⟩
section
variable {P:Program} {w:World} {H H':Hp} {h h':Heap} {a C dx:Addr} {fs fs':List (Str × V)}
theorem jst (hok:HOk P w H h) (e:H a = some (.ins C dx fs)):∃ mA,ObjM h a dx C mA∧(∀ f,RelO (fs.lookup f) (mA f))∧PySem.Within mA (fs.map (·.1))∧fs.length ≤ 1000∧H dx = some (.own a):=by
 obtain ⟨d,z,ne,ob,mA,n,r,q⟩:=(show jc9 P w H h a (.ins C dx fs) from hok a _ e)
 exact ⟨mA,⟨ob,n,ne⟩,r,q,z,d⟩
end
structure Cls (K:PySem.W.Frag) (C:Addr):Prop where
 pg:PySem.W.plainGet K C Str.empty = true
 hd:PySem.W.hasDictIn K C = true
 po:PySem.W.plainOver K C = true
 sa:PySem.W.findIn K (.ref C) "__setattr__" = some (some (.builtin "object.__setattr__"))
theorem Cls.get {K:PySem.W.Frag} {C:Addr} (c:Cls K C) (f:Str):PySem.W.plainGet K C f = true:=c.pg
section
variable {X:Cx} {pins:List (Addr × Obj)} {σ:St} {H:Hp} {s:Shared} {a C dx:Addr} {fs:List (Str × V)} {f:Str} {v:V} {A:Around} {E:Value→Shared→Prop}
end
section
variable {X:Cx} {o e value:Expr} {f:Str} {pos pos' tpos:Pos} {ta tv:TE}
end
section
variable {X:Cx} {pins:List (Addr × Obj)} {σ:St} {H:Hp} {s:Shared} {A:Around} {E:Value→Shared→Prop} {Q:Value→Shared→Prop} {c:Value} {b:Bool}
inductive TyOf (K:PySem.W.Frag) (H:Hp):V→Value→Prop where
 | non:TyOf K H .non (.type "NoneType")
 | bl (x:Bool):TyOf K H (.bl x) (.type "bool")
 | int (i:Int):TyOf K H (.int i) (.type "int")
 | str (x:Str):TyOf K H (.str x) (.type "str")
 | flt (x:UInt64):TyOf K H (.flt x) (.type "float")
 | lst {a:Addr} {xs:List V} (e:H a = some (.lst xs)):TyOf K H (.ref a) (.type "list")
 | frz {a:Addr} {o:Obj} {xs:List V} (e:H a = some (.frz o (.lst xs))):TyOf K H (.ref a) (.type "list")
 | tup {a:Addr} {xs:List V} (e:H a = some (.tup xs)):TyOf K H (.ref a) (.type "tuple")
 | dK {a:Addr} {kvs:List (Key × V)} (e:H a = some (.dK kvs)):TyOf K H (.ref a) (.type "dict")
 | dT {a:Addr} {kvs:List (List Key × V)} (e:H a = some (.dT kvs)):TyOf K H (.ref a) (.type "dict")
 | ins {a C dx:Addr} {fs:List (Str × V)} (e:H a = some (.ins C dx fs)) (cl:Cls K C) (ha:PySem.W.findIn K (.ref C) "__class__" = some (some (.builtin "object.__class__")))
   (hn:PySem.W.specialIn K (.builtin "object.__class__") "__get__" = some (some (.builtin "getset_descriptor.__get__"))) (htk:PySem.W.takesIn K (.builtin "object.__class__") = some true)
   (hm:PySem.W.mroIn K C (.type "object") = some true):TyOf K H (.ref a) (.ref C)
theorem jpa {x:V} {u t:Value} (I:Inv X pins σ H s) (rx:RelV x u) (ty:TyOf X.K H x t) (e:PySem.W.kitOne X.K t c = some b) (h:∀ tk,Q (.bool b) { s with toks:=tk }) :
  wpAny (model X.prog X.w) A (call (.builtin "isinstance") [u,c]) Q E s:=by
 cases ty with
 | non=>cases (show u = Value.none from rx); exact PySem.W.kia_one PySem.W.kitx_none I.kIn True.intro e (fun z=>nomatch z) h
 | bl y=>cases (show u = Value.bool y from rx); exact PySem.W.kia_one PySem.W.kitx_bool I.kIn True.intro e (fun z=>nomatch z) h
 | int i=>obtain ⟨t,q⟩:=(show ∃ t,u = Value.int i t from rx); cases q; exact PySem.W.kia_one PySem.W.kitx_int I.kIn True.intro e (fun z=>nomatch z) h
 | str y=>obtain ⟨t,q⟩:=(show ∃ t,u = Value.str y t from rx); cases q; exact PySem.W.kia_one PySem.W.kitx_str I.kIn True.intro e (fun z=>nomatch z) h
 | flt y=>obtain ⟨t,q⟩:=(show ∃ t,u = Value.float y t from rx); cases q; exact PySem.W.kia_one PySem.W.kitx_float I.kIn True.intro e (fun z=>nomatch z) h
 | @lst a xs ea =>
  cases (show u = Value.ref a from rx)
  obtain ⟨_,_,n,_,h1⟩:=(show jc9 X.prog X.w H s.heap a (.lst xs) from I.hok a _ ea)
  exact PySem.W.kia_one PySem.W.kitx_list I.kIn ⟨_,h1,rfl⟩ e (fun z=>nomatch z) h
 | @frz a ob xs ea =>
  cases (show u = Value.ref a from rx)
  obtain ⟨_,_,_,n,_,h1⟩:=(show jc9 X.prog X.w H s.heap a (.frz ob (.lst xs)) from I.hok a _ ea)
  exact PySem.W.kia_one PySem.W.kitx_list I.kIn ⟨_,h1,rfl⟩ e (fun z=>nomatch z) h
 | @tup a xs ea =>
  cases (show u = Value.ref a from rx)
  obtain ⟨_,_,_,p⟩:=(show jc9 X.prog X.w H s.heap a (.tup xs) from I.hok a _ ea)
  obtain ⟨o,h1,h2,_⟩:=p
  exact PySem.W.kia_one PySem.W.kitx_tuple I.kIn ⟨o,h1,h2⟩ e (fun z=>nomatch z) h
 | @dK a kvs ea =>
  cases (show u = Value.ref a from rx)
  obtain ⟨_,_,vs,_,p⟩:=(show jc9 X.prog X.w H s.heap a (.dK kvs) from I.hok a _ ea)
  obtain ⟨o,es,ep,h1,h2,_⟩:=p
  exact PySem.W.kia_one PySem.W.kitx_dict I.kIn ⟨o,h1,h2.1⟩ e (fun z=>nomatch z) h
 | @dT a kvs ea =>
  cases (show u = Value.ref a from rx)
  obtain ⟨_,_,xs,_,o,es,ep,h1,h2,_⟩:=(show jc9 X.prog X.w H s.heap a (.dT kvs) from I.hok a _ ea)
  exact PySem.W.kia_one PySem.W.kitx_dict I.kIn ⟨o,h1,h2.1⟩ e (fun z=>nomatch z) h
 | @ins a C dx fs ea cl ha hn htk hm =>
  cases (show u = Value.ref a from rx)
  obtain ⟨mA,O,_⟩:=jst I.hok ea
  obtain ⟨od,J,_⟩:=O.look
  exact PySem.W.kia_one (PySem.W.kitx_own (cl.get _) cl.hd ha hn htk hm) I.kIn J e (fun z=>nomatch z) h
end
end L2
namespace L2
open PySem PySem.Spec PyProof.Rows
structure Room (k:Nat) (A:Around):Prop where
 hd:A.handled = none
 dp:A.depth + 3 * k + 5 < recursionLimit
 un:A.units + 16 * k + 200 < cLine
 gd:A.guards = some []
theorem Room.mono {j k:Nat} {A:Around} (r:Room k A) (h:j ≤ k):Room j A:=⟨r.hd,by have:=r.dp; omega,by have:=r.un; omega,by first | exact r.gd | (simp only [Around.deeper,Around.in1,Around.under]; exact r.gd)⟩
theorem Room.deeper {k:Nat} {A:Around} (r:Room (k + 1) A) (env:Env):Room k (A.deeper env) :=
 ⟨r.hd,by have:=r.dp; show A.depth + 1 + 3 * k + 5 < _; omega,by have:=r.un; show A.units + 3 + 16 * k + 200 < _; omega,by first | exact r.gd | (simp only [Around.deeper,Around.in1,Around.under]; exact r.gd)⟩
theorem Room.depth {k:Nat} {A:Around} (r:Room k A):A.depth < recursionLimit:=by have:=r.dp; omega
theorem Room.units {k:Nat} {A:Around} (r:Room k A):A.units + 64 < cLine:=by have:=r.un; omega
def tNil:TA:=fun _ H Q=>Q [] H
def jel (ta:TE) (tr:TA):TA:=fun σ H Q=>ta σ H fun x H1=>tr σ H1 fun xs H2=>Q (x :: xs) H2
section
variable {X:Cx} {e:Expr} {es:List Expr} {te:TE} {t:TA} {pos:Pos}
theorem ja3:PA X [] tNil:=fun _ _ _ _ H Q I h=>Calls.spliced_nil ⟨[],H,I,.nil,h⟩
theorem ja0 (ha:PE X e te) (hr:PA X es t) (hs:starEach (e :: es) X.env = (false,eval e X.env) :: starEach es X.env:=by rfl):PA X (e :: es) (jel te t):=by
 intro pos pins s σ H Q I h
 rw [hs]
 show wpAny _ _ (spliced ((false,eval e X.env) :: backTo pos (starEach es X.env))) _ _ s
 refine Calls.spliced_cons (thn (ha pins s σ H _ I h) fun u s1 ⟨x,H1,I1,r1,q1⟩=>?_)
 exact thn (hr pos pins s1 σ H1 _ I1 q1) fun us s2 ⟨xs,H2,I2,r2,q2⟩=>⟨x :: xs,H2,I2,.cons r1 r2,q2⟩
def tTup (t:TA):TE:=fun σ H Q=>t σ H fun xs H1=>xs.length ≤ sizeLine∧∀ p,H1 p = none→Q (.ref p) (upd H1 p (.tup xs))
def tLst (t:TA):TE:=fun σ H Q=>t σ H fun xs H1=>xs.length ≤ sizeLine∧∀ p,H1 p = none→Q (.ref p) (upd H1 p (.lst xs))
theorem jaz {x1} (h:PA X es t):PE X (.Tuple es x1 pos) (tTup t):=by
 intro pins s σ H Q I hq
 refine wpAny_Tuple_spliced (thn (h pos pins s σ H _ I hq) fun us s1 ⟨xs,H1,I1,r,z,q⟩=>⟨by rw [← r.length]; exact z,?_⟩)
 have hf:H1 s1.heap.objs.size = none:=I1.hok.fresh (Nat.le_refl _)
 refine ⟨.ref s1.heap.objs.size,upd H1 s1.heap.objs.size (.tup xs),I1.laid (t':=s1.toks) (fun b u e=>Heap.get?_push_of_some _ e) (Nat.le_refl _) ?_,rfl,q _ hf⟩
 exact ⟨z,us,r,⟨_,Heap.get?_push_size _ rfl,rfl,_,rfl⟩⟩
theorem jc0 (h:PA X es t):PE X (.List es pos) (tLst t):=by
 intro pins s σ H Q I hq
 refine wpAny_List_spliced (thn (h pos pins s σ H _ I hq) fun us s1 ⟨xs,H1,I1,r,z,q⟩=>⟨by rw [← r.length]; exact z,?_⟩)
 have hf:H1 s1.heap.objs.size = none:=I1.hok.fresh (Nat.le_refl _)
 refine ⟨.ref s1.heap.objs.size,upd H1 s1.heap.objs.size (.lst xs),I1.laid (t':=s1.toks) (fun b u e=>Heap.get?_push_of_some _ e) (Nat.le_refl _) ?_,rfl,q _ hf⟩
 exact ⟨z,us,0,r,Heap.get?_push_size _ rfl⟩
end
abbrev Sp:=List V→Hp→VK→XK→Prop
abbrev CXT:=List Env→Hp→Shared→XK→Value→Shared→Prop
structure Env0 (P:Program) (w:World) (K:PySem.W.Frag) (mg:Str→Option Value) (base:Heap) (A:Around) (outer:List Env) (s:Shared) (H:Hp):Prop where
 frames:A.frames = some outer
 mod:Mod K mg base
 bs:∀ b o,base.get? b = some o→s.heap.get? b = some o∧H b = none
 bsz:base.objs.size ≤ s.heap.objs.size
 funs:s.heap.FunFrames base outer
 frf:∀ b ∈ frs outer,H b = none
 hok:HOk P w H s.heap
 bare:AllBare s.gens
def CE (outer:List Env) (P:Program) (w:World) (H:Hp) (s:Shared) (Q:VK) (u:Value) (s':Shared):Prop :=
 ∃ v H',s'.os = s.os∧AllBare s'.gens∧Un (frs outer) [] H H' s.heap s'.heap∧HOk P w H' s'.heap∧RelV v u∧Q v H'
def CR (CX:CXT) (outer:List Env) (P:Program) (w:World) (H:Hp) (s:Shared) (Q:VK) (E:XK) (r:Result) (s':Shared):Prop :=
 match r with
 | .ok (.ret u)=>CE outer P w H s Q u s'
 | .ok _=>False
 | .error e=>CX outer H s E e s'
structure FnOk (P:Program) (w:World) (K:PySem.W.Frag) (mg:Str→Option Value) (base:Heap) (CX:CXT) (k:Nat) (f:Addr) (fd:FuncData) (ps:List Str) (sp:Sp):Prop where
 len:∀ vs H Q E,sp vs H Q E→vs.length = ps.length
 run:∀ (A:Around) (outer:List Env) (s:Shared) (H:Hp) (args:Args) (us:List Value) (vs:List V) (Q:VK) (E:XK),Room k A→Env0 P w K mg base A outer s H→BindsTo s fd args (ps.zip us)→Vals vs us→sp vs H Q E →
  codeAny (model P w) A (.call (.ref f) args) (CR CX outer P w H s Q E) s
theorem FnOk.mono {P:Program} {w:World} {K:PySem.W.Frag} {mg:Str→Option Value} {base:Heap} {CX:CXT} {j k:Nat} {f:Addr} {fd:FuncData} {ps:List Str} {sp:Sp} (F:FnOk P w K mg base CX j f fd ps sp) (h:j ≤ k) :
  FnOk P w K mg base CX k f fd ps sp:=⟨F.len,fun A outer s H args us vs Q E hr=>F.run A outer s H args us vs Q E (hr.mono h)⟩
section
variable {X:Cx} {pins:List (Addr × Obj)} {σ:St} {H:Hp} {s s':Shared}
theorem Inv.env0 (I:Inv X pins σ H s):Env0 X.prog X.w X.K X.mg X.base X.A X.stack s H :=
 ⟨I.ok.frames,I.ok.mod,I.bs,Nat.le_trans I.ok.bsz I.sz,I.stack,I.stkFree,I.hok,I.bare⟩
theorem Inv.after {Q:VK} {u:Value} (I:Inv X pins σ H s) (h:CE X.stack X.prog X.w H s Q u s'):EP X pins σ Q u s':=by
 obtain ⟨v,H',os,bare,un,hok,r,q⟩:=h
 obtain ⟨hh,g,d,t,os'⟩:=s'
 obtain rfl:os' = s.os:=os
 exact ⟨v,H',I.call (h':=hh) (g':=g) (d':=d) (t':=t) (ch:=[]) un hok bare (fun b z=>absurd z (by simp)),r,q⟩
end
def js7 (sp:Sp) (dvs:List V) (E:XK) (t:TA):TE:=fun σ H Q=>t σ H fun vs H1=>sp (vs ++ dvs) H1 Q E
def jli (K:PySem.W.Frag) (fd:FuncData) (ps:List Str) (ds:List Value):Prop :=
 ∀ (s:Shared) (us:List Value),K.In s.heap→(us ++ ds).length = ps.length→BindsTo s fd ⟨us,[]⟩ (ps.zip (us ++ ds))
theorem jli.all {K:PySem.W.Frag} {fd:FuncData} {ps:List Str} (h:∀ us:List Value,us.length = ps.length→bindArgs fd ⟨us,[]⟩ = pure (ps.zip us)):jli K fd ps []:=fun s us _ hl=>by
 rw [List.append_nil] at hl ⊢
 exact .of_eq (h us hl)
def jq4 (CX:CXT) (X:Cx) (E:XK):Prop:=∀ (pins:List (Addr × Obj)) (σ:St) (H:Hp) (s:Shared) (e:Value) (s':Shared),Inv X pins σ H s→CX X.stack H s E e s'→X.xe e s'
section
variable {X:Cx} {CX:CXT} {k:Nat} {f C:Addr} {fd:FuncData} {ps:List Str} {sp:Sp} {dvs:List V} {ds:List Value} {E:XK} {x m:Str} {p pos apos:Pos} {e o:Expr} {es:List Expr} {ta:TE} {t:TA}
theorem run_fn {pins:List (Addr × Obj)} {σ:St} {H:Hp} {s:Shared} {Q:VK} {us:List Value} {vs:List V} (F:FnOk X.prog X.w X.K X.mg X.base CX k f fd ps sp) (hr:Room k X.A) (hb:jli X.K fd ps ds) (hd:Vals dvs ds) (hx:jq4 CX X E)
  (I:Inv X pins σ H s) (r:Vals vs us) (h:sp (vs ++ dvs) H Q E):wpAny (model X.prog X.w) X.A (call (.ref f) us) (EP X pins σ Q) X.xe s:=by
 have r2:Vals (vs ++ dvs) (us ++ ds):=r.append hd
 have hl:(us ++ ds).length = ps.length:=by rw [← r2.length]; exact F.len _ _ _ _ h
 refine wpAny_call (codeAny_mono (F.run X.A X.stack s H ⟨us,[]⟩ (us ++ ds) (vs ++ dvs) Q E hr I.env0 (hb s us I.kIn hl) r2 h) fun r s' hq=>?_)
 cases r with
 | error e=>exact hx pins σ H s e s' I hq
 | ok fl =>
  cases fl with
  | ret u=>exact I.after hq
  | next=>exact False.elim hq
  | brk=>exact False.elim hq
  | cont=>exact False.elim hq
theorem ja7 (F:FnOk X.prog X.w X.K X.mg X.base CX k f fd ps sp) (hr:Room k X.A) (hg:Gl X x) (hm:X.mg x = some (.ref f)) (hk:PySem.W.keepIn X.K (.ref f) = true) (hb:jli X.K fd ps ds) (hd:Vals dvs ds) (hx:jq4 CX X E)
  (ha:PA X (e :: es) t) (hdb:(x == ("__debug__":Str)) = false:=by decide) (he:starEach (e :: es) X.env = (false,eval e X.env) :: starEach es X.env:=by rfl) (hpl:(backTo pos (starEach es X.env)).any (·.1) = false:=by rfl) :
  PE X (.Call (.Name x p) (e :: es) [] pos) (js7 sp dvs E t):=by
 intro pins s σ H Q I h
 refine wpAny_Call_Name_kw (jp2 I hg hm ?_ hdb)
 refine PySem.W.callWith_K (h₀:=X.base) I.ok.mod.kin hk (thn (ha pos pins s σ H _ I h) fun us s1 ⟨vs,H1,I1,r,q⟩=>⟨I1.kIn,?_⟩) he hpl
 exact run_fn F hr hb hd hx I1 r q
end
def PK (X:Cx) (kws:List Keyword) (t:TA):Prop :=
 ∀ (pos:Pos) (pins:List (Addr × Obj)) (s:Shared) (σ:St) (H:Hp) (Q:List V→Hp→Prop),Inv X pins σ H s→t σ H Q→wpAny (model X.prog X.w) X.A (evalAll ((backToKw pos (keywordEach kws X.env)).map (·.2))) (AP X pins σ Q) X.xe s
section
variable {X:Cx} {CX:CXT} {k:Nat} {f C:Addr} {fd:FuncData} {ps ks:List Str} {sp:Sp} {E:XK} {x m:Str} {p pos apos kpos:Pos} {e o:Expr} {es:List Expr} {kws:List Keyword} {te ta:TE} {t tk:TA} {nm:Option Str}
theorem jrl:PK X [] tNil:=fun _ _ _ _ H Q I h=>wpAny_evalAll_nil ⟨[],H,I,.nil,h⟩
theorem job (ha:PE X e te) (hr:PK X kws t):PK X (⟨nm,e,kpos⟩ :: kws) (jel te t):=by
 intro pos pins s σ H Q I h
 show wpAny _ _ (evalAll ((do let v ← eval e X.env; standAt pos; pure v) :: (backToKw pos (keywordEach kws X.env)).map (·.2))) _ _ s
 refine wpAny_evalAll_cons (wpAny_bind (thn (ha pins s σ H _ I h) fun u s1 ⟨x,H1,I1,r1,q1⟩=>wpAny_bind (wpAny_standAt (wpAny_pure ?_))))
 exact thn (hr pos pins s1 σ H1 _ I1 q1) fun us s2 ⟨xs,H2,I2,r2,q2⟩=>⟨x :: xs,H2,I2,.cons r1 r2,q2⟩
variable {g:List Value→List Value→List Value} {gV:List V→List V→List V}
end
structure FnScope (N P:List Str) (sc:Scope):Prop where
 kind:sc.kind = .function
 co:sc.isCoroutine = false
 gen:sc.isGenerator = false
 nd:N.Nodup
 pre:N.take P.length = P
 par:∀ x ∈ P,sc.names.lookup x = some .local ∨ sc.names.lookup x = some .cell
 nofree:∀ y ∈ sc.names,y.2 ≠ .free
theorem jkc {kindOf:Str→Option NameKind} {x:Str}:∀ {binds:List (Str × Value)} {m:Str→Option Value},(∀ v,(x,v) ∉ binds)→bindL kindOf binds m x = m x
 | [],_,_=>rfl
 | (n,v) :: r,m,h=>by
  unfold bindL
  rw [jkc fun w hw=>h w (List.mem_cons_of_mem _ hw)]
  split
  ·have:x ≠ n:=by rintro rfl; exact h v List.mem_cons_self
   simp [this]
  ·rfl
theorem jke {kindOf:Str→Option NameKind} {x:Str}:∀ {binds:List (Str × Value)} {m:Str→Option Value},(∀ v,(x,v) ∉ binds)→bindC kindOf binds m x = m x
 | [],_,_=>rfl
 | (n,v) :: r,m,h=>by
  unfold bindC
  rw [jke fun w hw=>h w (List.mem_cons_of_mem _ hw)]
  split
  ·rfl
  ·have:x ≠ n:=by rintro rfl; exact h v List.mem_cons_self
   simp [this]
theorem jkd {kindOf:Str→Option NameKind} {x:Str} {v:Value}:∀ {P:List Str} {vs:List Value} {i:Nat} {m:Str→Option Value},P.Nodup→P[i]? = some x→vs[i]? = some v→kindOf x = some .local →
  bindL kindOf (P.zip vs) m x = some v
 | [],_,_,_,_,h,_,_=>by simp at h
 | _ :: _,[],_,_,_,_,h,_=>by simp at h
 | p :: P,w :: vs,0,m,nd,h1,h2,hk=>by
  simp at h1 h2; subst h1; subst h2
  show bindL kindOf ((p,w) :: P.zip vs) m p = _
  unfold bindL
  rw [jkc fun v hv=>(List.nodup_cons.mp nd).1 (List.of_mem_zip hv).1,if_pos hk]
  simp
 | p :: P,w :: vs,i + 1,m,nd,h1,h2,hk=>by
  show bindL kindOf ((p,w) :: P.zip vs) m x = _
  unfold bindL
  exact jkd (i:=i) (List.nodup_cons.mp nd).2 (by simpa using h1) (by simpa using h2) hk
theorem jkf {kindOf:Str→Option NameKind} {x:Str} {v:Value}:∀ {P:List Str} {vs:List Value} {i:Nat} {m:Str→Option Value},P.Nodup→P[i]? = some x→vs[i]? = some v→kindOf x ≠ some .local →
  bindC kindOf (P.zip vs) m x = some v
 | [],_,_,_,_,h,_,_=>by simp at h
 | _ :: _,[],_,_,_,_,h,_=>by simp at h
 | p :: P,w :: vs,0,m,nd,h1,h2,hk=>by
  simp at h1 h2; subst h1; subst h2
  show bindC kindOf ((p,w) :: P.zip vs) m p = _
  unfold bindC
  rw [jke fun v hv=>(List.nodup_cons.mp nd).1 (List.of_mem_zip hv).1,if_neg hk]
  simp
 | p :: P,w :: vs,i + 1,m,nd,h1,h2,hk=>by
  show bindC kindOf ((p,w) :: P.zip vs) m x = _
  unfold bindC
  exact jkf (i:=i) (List.nodup_cons.mp nd).2 (by simpa using h1) (by simpa using h2) hk
def start (N:List Str) (vs:List V):St:=vs.map some ++ List.replicate (N.length - vs.length) none
def cxOf (CX:CXT) (P:Program) (w:World) (K:PySem.W.Frag) (mg:Str→Option Value) (base:Heap) (N:List Str) (qual:Str) (scope:Scope) (f:Addr) (cd:Value) (A:Around) (outer:List Env) (s:Shared) (H:Hp) (E:XK):Cx where
 prog:=P
 w:=w
 K:=K
 mg:=mg
 base:=base
 A:=A.deeper (envOfC qual scope s.heap.objs.size f cd)
 N:=N
 s₀:=s
 H₀:=H
 env:=envOfC qual scope s.heap.objs.size f cd
 outer:=outer
 stack:=envOfC qual scope s.heap.objs.size f cd :: outer
 ex:=[]
 calm:=true
 fn:=fun _=>true
 pn:=[]
 xe:=fun e s'=>wpAny (model P w) (A.deeper (envOfC qual scope s.heap.objs.size f cd)) (leaving (envOfC qual scope s.heap.objs.size f cd) e) (fun _ s''=>CX outer H s E e s'') (fun e' s''=>CX outer H s E e' s'') s'
theorem jmd {sc:Scope} {n:Nat} {x:Str} (h:sc.names.lookup x = some .cell):∃ c,(cellsFrom n sc.names []).lookup x = some c:=by
 have q:=PySem.W.cellsFrom_some sc.names n [] (.inl h)
 exact Option.isSome_iff_exists.mp q
theorem jpb {CX:CXT} {P:Program} {w:World} {K:PySem.W.Frag} {mg:Str→Option Value} {base:Heap} {N ps:List Str} {qual:Str} {scope:Scope} {f:Addr} {cd:Value} {A:Around} {outer:List Env} {s s1:Shared} {H:Hp} {E:XK} {us:List Value} {vs:List V}
  (S:FnScope N ps scope) (hd:A.handled = none) (e0:Env0 P w K mg base A outer s H) (hl:vs.length = ps.length) (r:Vals vs us)
  (x:InCallC s s.heap.objs.size (bindL (envOfC qual scope s.heap.objs.size f cd).kindOf (ps.zip us) fun _=>none) (cellsFrom (s.heap.objs.size + 1) scope.names []) (bindC (envOfC qual scope s.heap.objs.size f cd).kindOf (ps.zip us) fun _=>none) s1) :
  Inv (cxOf CX P w K mg base N qual scope f cd A outer s H E) [] (start N vs) H s1:=by
 have hpl:ps.length ≤ N.length:=by have:=congrArg List.length S.pre; rw [List.length_take] at this; omega
 obtain ⟨h1,tk,rfl,hk⟩:=x.done
 have noA:∀ b:Addr,b ∉ (cxOf CX P w K mg base N qual scope f cd A outer s H E).ex:=fun b z=>absurd (show b ∈ ([]:List Addr) from z) (by simp)
 refine ⟨⟨e0.mod,S.kind,rfl,rfl,Nat.le_refl _,fun y z c h1 h2=>?_,fun y hy=>?_,fun y c _ h=>?_,fun _=>hd,Around.frames_deeper e0.frames,.inr ⟨rfl,rfl⟩,fun b z=>absurd z (noA b),e0.bs,e0.bsz,fun b _ _=>noA b,fun b z=>absurd z (noA b),e0.funs,e0.frf⟩,
  rfl,e0.bare,Un.kept hk,⟨_,x.toInCall.ns,fun i y v h1 h2 h3=>?_⟩,fun y c h=>⟨_,x.cell y c h⟩,e0.hok.fresh (Nat.le_refl _),fun y c h=>?_,fun p hp=>absurd (show p ∈ ([]:List (Addr × Obj)) from hp) (by simp),e0.hok.kept hk,?_⟩
 ·exact name_of_addr x.apart (PySem.mem_of_lookup h1) (PySem.mem_of_lookup h2)
 ·have hy:scope.names.lookup y = some .cell ∨ scope.names.lookup y = some .free:=hy
  rcases hy with hy | hy
  ·exact jmd hy
  ·exact absurd rfl (S.nofree _ (PySem.mem_of_lookup hy))
 ·exact Nat.le_of_lt (x.above y c (PySem.mem_of_lookup h))
 ·have hi:i < vs.length:=by
   unfold start at h2
   by_cases hi:i < vs.length
   ·exact hi
   ·rw [List.getElem?_append_right (by simpa using hi)] at h2
    rw [List.getElem?_replicate] at h2
    split at h2 <;> cases h2
  have ha:vs[i]? = some v:=by
   unfold start at h2
   rw [List.getElem?_append_left (by simpa using hi),List.getElem?_map] at h2
   cases e:vs[i]? with
   | none=>rw [e] at h2; cases h2
   | some a=>rw [e] at h2; cases h2; rfl
  obtain ⟨u,hu,rv⟩:=r.get ha
  have hp:ps[i]? = some y:=by
   rw [← S.pre,List.getElem?_take_of_lt (by omega)]; exact h1
  have ndP:ps.Nodup:=by rw [← S.pre]; exact S.nd.sublist (List.take_sublist _ _)
  refine ⟨u,rv,?_⟩
  rcases S.par y (List.mem_of_getElem? hp) with k | k
  ·exact .inl ⟨k,jkd ndP hp hu k⟩
  ·obtain ⟨c,e⟩:=jmd (n:=s.heap.objs.size + 1) k
   refine .inr ⟨.inl k,c,e,?_⟩
   have q:=x.cell y c e
   rw [jkf ndP hp hu (by show scope.names.lookup y ≠ _; rw [k]; decide)] at q
   exact q
 ·exact e0.hok.fresh (Nat.le_of_lt (x.above y c (PySem.mem_of_lookup h)))
 ·unfold start
  show _ = N.length
  rw [List.length_append,List.length_map,List.length_replicate]
  omega
theorem fn_of {CX:CXT} {P:Program} {w:World} {K:PySem.W.Frag} {mg:Str→Option Value} {base:Heap} {k:Nat} {f:Addr} {name qual:Str} {params:Arguments} {body:List Stmt} {scope:Scope} {dV kV doc pm cdv ct oc:Value} {an od:Option Addr}
  {osl:Array (Option Value)} {N ps:List Str} {sp:Sp} (lk:K.lookup f = some ⟨oc,od,.func (PySem.W.fnOf name qual params body scope dV kV doc pm an cdv ct),osl⟩) (hcd:PySem.W.codeIn K cdv qual = true) (S:FnScope N ps scope)
  (len:∀ vs H Q E,sp vs H Q E→vs.length = ps.length)
  (hbody:∀ (A:Around) (outer:List Env) (s:Shared) (H:Hp) (vs:List V) (Q:VK) (E:XK),Room k (A.deeper (envOfC qual scope s.heap.objs.size f cdv))→sp vs H Q E →
   ∃ t,PSs (cxOf CX P w K mg base N qual scope f cdv A outer s H E) body t∧t { nx:=fun _ H'=>Q .non H',rt:=Q } (start N vs) H) :
  FnOk P w K mg base CX (k + 1) f (PySem.W.fnOf name qual params body scope dV kV doc pm an cdv ct) ps sp:=by
 refine ⟨len,fun A outer s H args us vs Q E hr e0 hb r hsp=>?_⟩
 have hl:=len _ _ _ _ hsp
 have KX:K.In s.heap:=e0.mod.kin.keeps fun b o e=>(e0.bs b o e).1
 have lim:s.heap.NoLimit:=e0.mod.nolimit.keeps fun b o e=>(e0.bs b o e).1
 have hkind:∀ y ∈ ps.zip us,scope.names.lookup y.1 = some .local ∨ (scope.names.lookup y.1 = some .cell∧((cellsFrom (s.heap.objs.size + 1) scope.names []).lookup y.1).isSome = true):=fun ⟨n,v⟩ hy=>by
  rcases S.par n (List.of_mem_zip hy).1 with q | q
  ·exact .inl q
  ·exact .inr ⟨q,PySem.W.cellsFrom_some _ _ _ (.inl q)⟩
 refine codeAny_call_function hr.depth (KX _ _ lk) rfl S.co S.gen rfl (PySem.W.codeRec_of KX hcd) (hb _ _ _ _ ?_)
 refine wpAny_newFunctionEnv_cells S.kind hkind fun env he s1 x=>?_
 subst he
 refine ⟨lim.keeps x.toInCall.keep,codeAny_func ?_⟩
 obtain ⟨t,ht,hq⟩:=hbody A outer s H vs Q E (hr.deeper _) hsp
 have I:Inv (cxOf CX P w K mg base N qual scope f cdv A outer s H E) [] (start N vs) H s1:=jpb S hr.hd e0 hl r x
 refine wpAny_mono (ht [] s1 (start N vs) H _ I hq) (fun fl s' hs=>?_) fun e s' hs=>hs
 have fin:∀ {σ':St} {H':Hp} {v:V} {u:Value},Inv (cxOf CX P w K mg base N qual scope f cdv A outer s H E) [] σ' H' s'→RelV v u→Q v H'→CE outer P w H s Q u s' :=
  fun {σ' H' v u} J rv q=>⟨v,H',J.os,J.bare,J.base,J.hok,rv,q⟩
 cases fl with
 | ret u =>
  obtain ⟨v,σ',H',J,rv,q⟩:=hs
  exact fin J rv q
 | next =>
  obtain ⟨σ',H',J,q⟩:=hs
  exact fin (v:=V.non) (u:=Value.none) J rfl q
 | brk =>
  obtain ⟨_,_,_,q⟩:=hs
  exact False.elim q
 | cont =>
  obtain ⟨_,_,_,q⟩:=hs
  exact False.elim q
end L2
namespace L2
open PySem PySem.Spec PyProof.Rows
section
variable {X:Cx} {x:Str} {p pos:Pos} {e:Expr} {es:List Expr} {t:TA} {id T:String} {r:List V→Hp→VK→Prop}
def tCB (r:List V→Hp→VK→Prop) (t:TA):TE:=fun σ H Q=>t σ H fun vs H1=>r vs H1 Q
theorem jad (hc:jd0 X (.builtin id) r) (hg:Gl X x) (hm:X.mg x = none) (hv:bootBuiltins x = some (.builtin id)) (ha:PA X (e :: es) t) (hn:x ≠ "__name__":=by decide) (hdb:(x == ("__debug__":Str)) = false:=by decide)
  (he:starEach (e :: es) X.env = (false,eval e X.env) :: starEach es X.env:=by rfl) (hpl:(backTo pos (starEach es X.env)).any (·.1) = false:=by rfl):PE X (.Call (.Name x p) (e :: es) [] pos) (tCB r t):=by
 intro pins s σ H Q I h
 refine wpAny_Call_Name_kw (jet I hg hm hv ?_ hn hdb)
 exact PyProof.Rows.callWith_builtin1 (thn (ha pos pins s σ H _ I h) fun us s1 ⟨vs,H1,I1,r1,q1⟩=>hc pins s1 σ H1 vs us Q I1 r1 q1) he hpl
theorem jb5 (hc:jd0 X (.type T) r) (hg:Gl X x) (hm:X.mg x = none) (hv:bootBuiltins x = some (.type T)) (ha:PA X (e :: es) t) (hn:x ≠ "__name__":=by decide) (hdb:(x == ("__debug__":Str)) = false:=by decide)
  (he:starEach (e :: es) X.env = (false,eval e X.env) :: starEach es X.env:=by rfl) (hpl:(backTo pos (starEach es X.env)).any (·.1) = false:=by rfl):PE X (.Call (.Name x p) (e :: es) [] pos) (tCB r t):=by
 intro pins s σ H Q I h
 refine wpAny_Call_Name_kw (jet I hg hm hv ?_ hn hdb)
 exact PyProof.Rows.callWith_type1 (thn (ha pos pins s σ H _ I h) fun us s1 ⟨vs,H1,I1,r1,q1⟩=>hc pins s1 σ H1 vs us Q I1 r1 q1) he hpl
end
end L2
namespace HT
open PySem PyProof.Rows
def lexLt:List Int→List Int→Bool
 | [],[]=>false
 | [],_ :: _=>true
 | _ :: _,[]=>false
 | x :: xs,y :: ys=>if x = y then lexLt xs ys else decide (x < y)
theorem lexLt_cons (x y:Int) (xs ys:List Int):lexLt (x :: xs) (y :: ys) = if x = y then lexLt xs ys else decide (x < y):=rfl
theorem jil:lexLt [] [] = false:=rfl
theorem jhf (y:Int) (ys:List Int):lexLt [] (y :: ys) = true:=rfl
theorem jhg (x:Int) (xs:List Int):lexLt (x :: xs) [] = false:=rfl
theorem jr2 (A:Around) (s:Shared) (a:Int) (t:Tok) (c:Int) (u:Tok):∃ e,SeqAt.EqAt A s (.int a t) (.int c u) e∧(e = true ↔ a = c) :=
 ⟨(a == c),SeqAt.EqAt.int_int a t c u,by simp⟩
theorem jqe (A:Around) (s:Shared) (a:Int) (t:Tok) (c:Int) (u:Tok) (prog:Program) (w:World) (E:Value→Shared→Prop) (Q:Value→Shared→Prop) (h:Q (.bool (decide (a < c))) s) :
  wpAny (model prog w) A (richCompare .Lt (.int a t) (.int c u)) Q E s :=
 (PyProof.Rows.lt_int h:wpAny (model prog w) A (compareOp .Lt (.int a t) (.int c u)) Q E s)
section
open PySem.SeqAt
open PySem.AutoSeq1 (wpAny_loadPart')
open PySem.MeetsSeq PySem.MeetsSeq2 PySem.MeetsSeq3
theorem jhw (l b:Addr) (items items2:Array Value) (n n2:Nat) (dd dd2:Option Addr) (sl sl2:Array (Option Value)) (ns ms:List Int) (hi:IntsAre items.toList ns) (hj:IntsAre items2.toList ms) :
  Meets (Builtin.«tuple.__lt__» ⟨[.ref l,.ref b],[]⟩)
   (fun _ R s=>s.heap.get? l = some { cls:=.type "tuple",dict:=dd,data:=.seq items n,slots:=sl }∧s.heap.get? b = some { cls:=.type "tuple",dict:=dd2,data:=.seq items2 n2,slots:=sl2 } ∧
    R (.ok (.ret (.bool (lexLt ns ms)))) s) :=
 .of_wp fun prog w A R s h=>by
  obtain ⟨hp,g,d,tk,os⟩:=s; obtain ⟨hl,hb,h⟩:=h
  have f2:=AutoSeq1.sub_tuple_tuple
  have z1:items.size = ns.length:=by rw [← hi.length]; simp
  have z2:items2.size = ms.length:=by rw [← hj.length]; simp
  wp_walk using wpAny_loadPart' hl,wpAny_loadPart' hb,wpAny_forIn_list _ (fun rest b s'=>b.1 = none∧s' = ⟨hp,g,d,tk,os⟩∧∃ (vs ws:List Value) (ns' ms':List Int),rest = vs.zip ws ∧
   IntsAre vs ns'∧IntsAre ws ms'∧ns'.length + items2.size = ms'.length + items.size∧R (.ok (.ret (.bool (lexLt ns' ms')))) ⟨hp,g,d,tk,os⟩) _
  case turn =>
   rintro ⟨y,x⟩ rest b s' ⟨hb',rfl,vs,ws,ns',ms',hz,hvi,hwi,hlen,hR⟩
   cases hvi with
   | nil=>rw [List.zip_nil_left] at hz; cases hz
   | cons a t hvi' =>
    cases hwi with
    | nil=>rw [List.zip_nil_right] at hz; cases hz
    | cons c u hwi' =>
     rw [List.zip_cons_cons] at hz
     injection hz with hyx hrest
     injection hyx with hy hx
     subst hy hx
     rw [lexLt_cons] at hR
     simp only [List.length_cons] at hlen
     obtain ⟨e,he,hiff⟩:=jr2 A.in1 ⟨hp,g,d,tk,os⟩ a t c u
     refine wpAny_bind (he prog w _ _ ?_)
     cases e with
     | true =>
      rw [if_pos (hiff.mp rfl)] at hR
      wp_walk
      exact ⟨rfl,rfl,_,_,_,_,hrest,hvi',hwi',by omega,hR⟩
     | false =>
      rw [if_neg (fun q=>absurd (hiff.mpr q) Bool.false_ne_true)] at hR
      have hri:=jqe A.in1 ⟨hp,g,d,tk,os⟩ a t c u prog w
      wp_walk using hri
      exact ⟨_,rfl,by simpa using hR⟩
  case fin =>
   rintro ⟨b1,b2⟩ s' ⟨hb',rfl,vs,ws,ns',ms',hz,hvi,hwi,hlen,hR⟩
   simp only at hb'
   subst hb'
   have hv:lexLt ns' ms' = decide (items.size < items2.size):=by
    cases hvi with
    | nil =>
     cases hwi with
     | nil =>
      simp only [List.length_nil] at hlen
      rw [jil]
      exact (decide_eq_false (by omega)).symm
     | cons c u hw =>
      simp only [List.length_nil,List.length_cons] at hlen
      rw [jhf]
      exact (decide_eq_true (by omega)).symm
    | cons a t hv =>
     cases hwi with
     | nil =>
      simp only [List.length_nil,List.length_cons] at hlen
      rw [jhg]
      exact (decide_eq_false (by omega)).symm
     | cons c u hw =>
      rw [List.zip_cons_cons] at hz
      cases hz
   rw [hv] at hR
   wp_walk
   exact ⟨_,rfl,by simpa [Builtin.Tuple.tupleCompareSizes] using hR⟩
  case h =>
   exact ⟨rfl,rfl,items.toList,items2.toList,ns,ms,rfl,hi,hj,by omega,h⟩
end
section
variable {prog:Program} {w:World} {A:Around} {E:Value→Shared→Prop} {s:Shared}
theorem lt_tupInts {l b:Addr} {items items2:Array Value} {ns ms:List Int} {Q:Value→Shared→Prop} (hl:IsTup s.heap l items) (hb:IsTup s.heap b items2) (hi:IntsAre items.toList ns) (hj:IntsAre items2.toList ms)
  (hu:A.units < cLine) (h:Q (.bool (lexLt ns ms)) s):wpAny (model prog w) A (compareOp .Lt (.ref l) (.ref b)) Q E s:=by
 obtain ⟨⟨cls,dd,data,sl⟩,ho,hc,n,hd⟩:=id hl
 obtain ⟨⟨cls2,dd2,data2,sl2⟩,ho2,hc2,n2,hd2⟩:=id hb
 simp only at hc hd hc2 hd2
 subst hc hd hc2 hd2
 exact richCompare_meets_room (op:=.Lt) ⟨_,ho,rfl⟩ ⟨_,ho2,rfl⟩ PySem.F.slot_tuple_lt PySem.F.entry_tuple_lt (PySem.F.args_tuple_lt_2 _ _) (jhw l b items items2 n n2 dd dd2 sl sl2 ns ms hi hj)
  ⟨ho,ho2,show Value.bool (lexLt ns ms) ≠ Value.notImplemented∧Q (.bool (lexLt ns ms)) s from ⟨(fun x=>nomatch x),h⟩⟩ hu
theorem cat_tup {t b:Addr} {vs ws:List Value} {Q:Value→Shared→Prop} (ht:IsTup s.heap t vs.toArray) (hb:IsTup s.heap b ws.toArray) (hv:vs ≠ [])
  (h1:ws = []→Q (.ref t) s) (h2:ws ≠ []→Q (.ref s.heap.objs.size) { s with heap:=s.heap.push { cls:=.type "tuple",data:=.seq (vs ++ ws).toArray } })
  (hsz:vs.length + ws.length ≤ sizeLine):wpAny (model prog w) A (binaryOp .Add (.ref t) (.ref b)) Q E s:=by
 obtain ⟨⟨cls,dd,data,sl⟩,ho,hc,n,hd⟩:=id ht
 obtain ⟨⟨cls2,dd2,data2,sl2⟩,ho2,hc2,n2,hd2⟩:=id hb
 simp only at hc hd hc2 hd2
 subst hc hd hc2 hd2
 have e:vs.toArray ++ ws.toArray = (vs ++ ws).toArray:=by simp
 by_cases hw:ws = []
 ·exact concat_meets ⟨_,ho,rfl⟩ ⟨_,ho2,rfl⟩ noFill_tuple_add seq_tuple_add PySem.F.slot_tuple_add PySem.F.entry_tuple_add (PySem.F.args_tuple_add_2 _ _)
   (tuple_addW1 t b vs.toArray ws.toArray n n2 dd dd2 sl sl2 (by simpa using hv) (by simp [hw])) ⟨ho,ho2,h1 hw⟩
 ·refine concat_meets ⟨_,ho,rfl⟩ ⟨_,ho2,rfl⟩ noFill_tuple_add seq_tuple_add PySem.F.slot_tuple_add PySem.F.entry_tuple_add (PySem.F.args_tuple_add_2 _ _)
   (tuple_addW2 t b vs.toArray ws.toArray n n2 dd dd2 sl sl2 (by simpa using hv) (by simpa using hw) (by rw [List.size_toArray,List.size_toArray]; exact hsz)) ⟨ho,ho2,?_⟩
  rw [e]
  exact h2 hw
def sIx (n d:Nat):Option Int→Nat
 | none=>d
 | some v=>if v < 0 then (v + (n:Int)).toNat else min v.toNat n
theorem jre (n d:Nat) (hd:d ≤ n) (o:Option Int):sIx n d o ≤ n:=by
 cases o with
 | none=>exact hd
 | some v =>
  show (if v < 0 then (v + (n:Int)).toNat else min v.toNat n) ≤ n
  by_cases hv:v < 0
  ·rw [if_pos hv]; omega
  ·rw [if_neg hv]; exact Nat.min_le_right _ _
theorem jpv (v:Int) (n d:Nat):(if v < 0 then max (v + (n:Int)) 0 else min v (n:Int)) = ((sIx n d (some v):Nat):Int):=by
 show (if v < 0 then max (v + (n:Int)) 0 else min v (n:Int)) = (((if v < 0 then (v + (n:Int)).toNat else min v.toNat n):Nat):Int)
 by_cases hv:v < 0
 ·simp only [if_pos hv]; omega
 ·simp only [if_neg hv]; omega
theorem jn3 (lo hi:Option Int) (n:Nat):Builtin.Slice.sliceAdjust lo hi 1 (n:Int) = (((sIx n 0 lo:Nat):Int),((sIx n n hi:Nat):Int)):=by
 have h1:¬ ((1:Int) < 0):=by omega
 unfold Builtin.Slice.sliceAdjust
 simp only [h1,if_false]
 refine Prod.ext ?_ ?_
 ·cases lo with
  | none=>rfl
  | some v=>exact jpv v n 0
 ·cases hi with
  | none=>rfl
  | some v=>exact jpv v n n
theorem jmk (i j:Nat):Builtin.Slice.slicePlaces (i:Int) (j:Int) 1 = j - i:=by
 unfold Builtin.Slice.slicePlaces
 have h1:(1:Int) > 0:=by omega
 simp only [h1,if_true,Int.ediv_one]
 split <;> omega
theorem jhn {v:Value} {o:Option Int} {Q:Option Int→Shared→Prop} (p:IsPart v o) (h:Q o s):wpAny (model prog w) A (Builtin.Slice.slicePartIndex v) Q E s:=by
 cases p with
 | none=>exact slicePart_none h
 | int i t=>exact slicePart_int h
theorem jdk {sl:Addr} {vl vu:Value} {lo hi:Option Int} {n:Nat} {Q:Int × Int × Nat→Shared→Prop} (hs:s.heap.IsSliceOf sl vl vu .none) (pl:IsPart vl lo) (pu:IsPart vu hi)
  (h:Q (((sIx n 0 lo:Nat):Int),1,sIx n n hi - sIx n 0 lo) s):wpAny (model prog w) A (Builtin.Slice.sliceApplied (.ref sl) (pure (n:Int))) Q E s:=by
 obtain ⟨os,hos,hcs,hds⟩:=id hs
 unfold Builtin.Slice.sliceApplied Builtin.Slice.sliceFields
 refine wpAny_bind (wpAny_bind (wpAny_field hos hds (x:=vl) rfl (wpAny_bind (wpAny_field hos hds (x:=vu) rfl (wpAny_bind (wpAny_field hos hds (x:=.none) rfl (wpAny_pure ?_)))))))
 refine wpAny_bind (slicePart_none ?_)
 show wpAny _ _ (if ((1:Int) == 0) = true then _ else _) _ _ s
 rw [if_neg (by decide)]
 refine wpAny_bind (jhn pl (wpAny_bind (jhn pu (wpAny_bind (wpAny_pure ?_)))))
 show wpAny _ _ (match Builtin.Slice.sliceAdjust lo hi 1 (n:Int) with | (lo,hi)=>pure (lo,(1:Int),Builtin.Slice.slicePlaces lo hi 1)) _ _ s
 rw [jn3 lo hi n]
 show wpAny _ _ (pure (((sIx n 0 lo:Nat):Int),(1:Int),Builtin.Slice.slicePlaces ((sIx n 0 lo:Nat):Int) ((sIx n n hi:Nat):Int) 1)) _ _ s
 rw [jmk]
 exact wpAny_pure h
theorem jqh (xs:Array Value) (i k:Nat):((List.range k).filterMap fun (m:Nat)=>xs[((i:Int) + (m:Int) * 1).toNat]?).toArray = ((xs.toList.drop i).take k).toArray:=by
 have e:(fun (m:Nat)=>xs[((i:Int) + (m:Int) * 1).toNat]?) = fun m=>xs[i + m]?:=by
  funext m
  have:((i:Int) + (m:Int) * 1).toNat = i + m:=by omega
  rw [this]
 rw [e]
 have:=pick_run xs i k
 rw [List.filterMap_map] at this
 have e2:((fun x=>xs[x]?) ∘ fun x=>i + x) = fun m=>xs[i + m]?:=rfl
 rw [e2] at this
 rw [this]
theorem getItem_tuple_cut {t sl:Addr} {items:Array Value} {vl vu:Value} {lo hi:Option Int} {Q:Value→Shared→Prop} (ht:IsTup s.heap t items) (hs:s.heap.IsSliceOf sl vl vu .none) (pl:IsPart vl lo) (pu:IsPart vu hi)
  (hw:¬ (sIx items.size 0 lo = 0∧sIx items.size items.size hi = items.size))
  (h:Q (.ref s.heap.objs.size) { s with heap:=s.heap.push { cls:=.type "tuple",data:=.seq ((items.toList.drop (sIx items.size 0 lo)).take (sIx items.size items.size hi - sIx items.size 0 lo)).toArray } })
  (hsz:items.size ≤ sizeLine):wpAny (model prog w) A (getItem (.ref t) (.ref sl)) Q E s:=by
 have htake:sizeOk (.seq ((items.toList.drop (sIx items.size 0 lo)).take (sIx items.size items.size hi - sIx items.size 0 lo)).toArray):=by
  show ((items.toList.drop (sIx items.size 0 lo)).take (sIx items.size items.size hi - sIx items.size 0 lo)).toArray.size ≤ sizeLine
  rw [List.size_toArray,List.length_take,List.length_drop,Array.length_toList]
  omega
 have hj:sIx items.size items.size hi ≤ items.size:=jre _ _ (Nat.le_refl _) hi
 obtain ⟨os,hos,hcs,hds⟩:=id hs
 have hTs:s.TypeIs (.ref sl) "slice":=⟨os,hos,hcs⟩
 unfold getItem
 try with_reducible refine wpAny_holding ?_
 first | refine wpAny_bind (wpAny_pure ?_) | skip
 refine wpAny_bind (wpAny_sequenceKey ht.typeIs (by decide) ?_)
 refine wpAny_bind (wpAny_callSpecial?_slot (name:=Str.ofString "__getitem__") ht.typeIs PyProof.Rows.slot_tuple_getitem
  (wpAny_call_entry PyProof.Rows.slot_tuple_getitem ht.typeIs entry_tuple_getitem ?_ (args_tuple_getitem _ _)))
 show wpAny _ _ (Builtin.Tuple.tupleItemsOf (.ref t) >>= _) _ _ s
 refine wpAny_bind (tupleItemsOf_ ht ?_)
 refine wpAny_bind (wpAny_typeOf hTs ?_)
 rw [if_pos (by decide)]
 refine wpAny_bind (jdk hs pl pu ?_)
 have hno:¬ ((((sIx items.size 0 lo:Nat):Int) == 0 && (1:Int) == 1 && (sIx items.size items.size hi - sIx items.size 0 lo) == items.size) = true):=by
  intro q
  rw [Bool.and_eq_true,Bool.and_eq_true] at q
  have q1:((sIx items.size 0 lo:Nat):Int) = 0:=eq_of_beq q.1.1
  have q2:sIx items.size items.size hi - sIx items.size 0 lo = items.size:=eq_of_beq q.2
  exact hw ⟨by omega,by omega⟩
 show wpAny _ _ (if (((sIx items.size 0 lo:Nat):Int) == 0 && (1:Int) == 1 && (sIx items.size items.size hi - sIx items.size 0 lo) == items.size) = true then _ else _) _ _ s
 rw [if_neg hno,jqh]
 first
  | exact wpAny_bind (m:=Builtin.Tuple.tupleExact _) (wpAny_newObj_type (wpAny_pure ⟨_,rfl,wpAny_pure h⟩) htake)
  | exact wpAny_bind (m:=Builtin.Tuple.tupleExact _) (wpAny_newObj_type (wpAny_bind (wpAny_pure (wpAny_pure ⟨_,rfl,wpAny_pure h⟩))) htake)
  | exact wpAny_bind (wpAny_bind (m:=Builtin.Tuple.tupleExact _) (wpAny_newObj_type (wpAny_pure (wpAny_pure ⟨_,rfl,wpAny_pure h⟩)) htake))
  | exact wpAny_bind (wpAny_bind (m:=Builtin.Tuple.tupleExact _) (wpAny_newObj_type (wpAny_pure ⟨_,rfl,wpAny_pure h⟩) htake))
end
end HT
namespace L2
open PySem PySem.Spec PyProof.Rows
abbrev TO:=St→Hp→(Option Int→Hp→Prop)→Prop
def PO (X:Cx) (e:Option Expr) (t:TO):Prop :=
 ∀ (pins:List (Addr × Obj)) (s:Shared) (σ:St) (H:Hp) (Q:Option Int→Hp→Prop),Inv X pins σ H s→t σ H Q →
  wpAny (model X.prog X.w) X.A (evalPart e X.env) (fun u s'=>∃ o H',Inv X pins σ H' s'∧IsPart u o∧Q o H') X.xe s
def jkl:TO:=fun _ H Q=>Q none H
theorem jck {ns:List Int}:∀ {us:List Value},Vals (ns.map V.int) us→IntsAre us ns:=by
 induction ns with
 | nil=>intro us r; rw [List.map_nil] at r; cases r; exact .nil
 | cons n ns ih =>
  intro us r
  rw [List.map_cons] at r
  cases r with
  | cons r1 r2 =>
   obtain ⟨t,e⟩:=r1
   subst e
   exact .cons n t (ih r2)
section
variable {X:Cx} {e:Expr} {te:TE} {lo hi:Option Expr} {tl th:TO} {pos p2:Pos}
theorem jbg:PO X none jkl:=by
 intro pins s σ H Q I h
 rw [evalPart_none]
 exact wpAny_pure ⟨none,H,I,.none,h⟩
def SlR (X:Cx) (r:V→Option Int→Option Int→Hp→VK→Prop):Prop :=
 ∀ (pins:List (Addr × Obj)) (s:Shared) (σ:St) (H:Hp) (x:V) (v vl vu:Value) (lo hi:Option Int) (sl:Addr) (Q:VK),Inv X pins σ H s→RelV x v→s.heap.IsSliceOf sl vl vu .none→IsPart vl lo→IsPart vu hi→r x lo hi H Q →
  ∃ T id,typeLookup (.type T) "__getitem__" = pure (some (.builtin id))∧s.TypeIs v T∧wpAny (model X.prog X.w) X.A (getItem v (.ref sl)) (EP X pins σ Q) X.xe s
def tSl (r:V→Option Int→Option Int→Hp→VK→Prop) (te:TE) (tl th:TO):TE:=fun σ H Q=>te σ H fun x H1=>tl σ H1 fun l H2=>th σ H2 fun u H3=>r x l u H3 Q
theorem jb3 {r:V→Option Int→Option Int→Hp→VK→Prop} (hr:SlR X r) (he:PE X e te) (hl:PO X lo tl) (hu:PO X hi th):PE X (.Subscript e (.Slice lo hi none p2) pos) (tSl r te tl th):=by
 intro pins s σ H Q I h
 refine Subscript_ (thn (he pins s σ H _ I h) fun v s1 ⟨x,H1,I1,r1,q1⟩=>?_)
 refine wpAny_Slice (thn (hl pins s1 σ H1 _ I1 q1) fun vl s2 ⟨l,H2,I2,pl,q2⟩=>thn (hu pins s2 σ H2 _ I2 q2) fun vu s3 ⟨u,H3,I3,pu,q3⟩=>?_)
 rw [evalPart_none]
 refine wpAny_pure ?_
 have I4:Inv X pins σ H3 { s3 with heap:=s3.heap.push { cls:=.type "slice",data:=.fields #[vl,vu,.none] } }:=I3.kept (t':=s3.toks) fun b ob q=>Heap.get?_push_of_some _ q
 obtain ⟨T,id,hT,ht,hg⟩:=hr pins { s3 with heap:=s3.heap.push { cls:=.type "slice",data:=.fields #[vl,vu,.none] } } σ H3 x v vl vu l u s3.heap.objs.size Q I4 r1 (Heap.IsSliceOf.new ..) pl pu q3
 show wpAny (model X.prog X.w) X.A (subscriptTail e (.Slice lo hi none p2) v (.ref s3.heap.objs.size)) (EP X pins σ Q) X.xe { s3 with heap:=s3.heap.push { cls:=.type "slice",data:=.fields #[vl,vu,.none] } }
 exact tail_any (ops:=[.ref s3.heap.objs.size,v]) ht hT hg (by with_unfolding_all rfl)
def cutV (xs:List V) (lo hi:Option Int):List V:=(xs.drop (HT.sIx xs.length 0 lo)).take (HT.sIx xs.length xs.length hi - HT.sIx xs.length 0 lo)
theorem jh9 (xs:List V) (lo hi:Option Int):(cutV xs lo hi).length ≤ xs.length:=by
 unfold cutV
 rw [List.length_take,List.length_drop]
 omega
def rSlT (K:PySem.W.Frag):V→Option Int→Option Int→Hp→VK→Prop:=fun x lo hi H Q=>∃ a xs,x = .ref a∧SqT K H a xs ∧
 ¬ (HT.sIx xs.length 0 lo = 0∧HT.sIx xs.length xs.length hi = xs.length)∧∀ p,H p = none→Q (.ref p) (upd H p (.tup (cutV xs lo hi)))
theorem jrd:SlR X (rSlT X.K):=by
 intro pins s σ H x v vl vu lo hi sl Q I rx hs pl pu h
 obtain ⟨a,xs,rfl,hx,hw,q⟩:=h
 cases rx
 obtain ⟨its,r,ht,hz⟩:=I.tuple hx
 have hlen:its.toArray.size = xs.length:=by rw [List.size_toArray]; exact r.length.symm
 refine ⟨"tuple",_,PyProof.Rows.slot_tuple_getitem.lookup,ht.typeIs,?_⟩
 refine HT.getItem_tuple_cut ht hs pl pu (by rw [hlen]; exact hw) ?_ (by rw [hlen]; exact hz)
 rw [hlen]
 refine ⟨.ref s.heap.objs.size,_,I.laid (t':=s.toks) (o:=.tup (cutV xs lo hi)) (fun b ob q=>Heap.get?_push_of_some _ q) (Nat.le_refl _) ?_,rfl,q _ (I.hok.fresh (Nat.le_refl _))⟩
 exact ⟨Nat.le_trans (jh9 xs lo hi) hz,_,(r.drop (HT.sIx xs.length 0 lo)).take (HT.sIx xs.length xs.length hi - HT.sIx xs.length 0 lo),IsTup.new _ _⟩
def rLtT (K:PySem.W.Frag):R2:=fun x y H Q=>∃ a b ns ms,x = .ref a∧y = .ref b∧SqT K H a (ns.map V.int)∧SqT K H b (ms.map V.int)∧Q (.bl (HT.lexLt ns ms)) H
theorem op_ltT (hu:X.A.units < cLine):OpR X (compareOp .Lt) (rLtT X.K):=by
 intro pins s σ H x y v u Q I rx ry h
 obtain ⟨a,b,ns,ms,rfl,rfl,ha,hb,q⟩:=h
 cases rx
 cases ry
 obtain ⟨its,r1,p1,_⟩:=I.tuple ha
 obtain ⟨its2,r2,p2,_⟩:=I.tuple hb
 have i1:IntsAre its.toArray.toList ns:=jck r1
 have i2:IntsAre its2.toArray.toList ms:=jck r2
 exact HT.lt_tupInts p1 p2 i1 i2 hu ⟨.bl (HT.lexLt ns ms),H,I,rfl,q⟩
def rCatT (K:PySem.W.Frag):R2:=fun x y H Q=>∃ a b xs ys,x = .ref a∧y = .ref b∧SqT K H a xs∧SqT K H b ys∧xs ≠ []∧xs.length + ys.length ≤ sizeLine ∧
 (ys = []→Q (.ref a) H)∧(ys ≠ []→∀ p,H p = none→Q (.ref p) (upd H p (.tup (xs ++ ys))))
theorem Vals.nil_iff {xs:List V} {us:List Value} (r:Vals xs us):us = [] ↔ xs = []:=by
 cases r with
 | nil=>simp
 | cons _ _=>simp
theorem jol:OpR X (binaryOp .Add) (rCatT X.K):=by
 intro pins s σ H x y v u Q I rx ry h
 obtain ⟨a,b,xs,ys,rfl,rfl,ha,hb,hx,hz,q1,q2⟩:=h
 cases rx
 cases ry
 obtain ⟨its,r1,p1,_⟩:=I.tuple ha
 obtain ⟨its2,r2,p2,_⟩:=I.tuple hb
 refine HT.cat_tup p1 p2 (fun z=>hx (r1.nil_iff.mp z)) (fun z=>⟨.ref a,H,I,rfl,q1 (r2.nil_iff.mp z)⟩) (fun z=>?_) (by rw [← r1.length,← r2.length]; exact hz)
 refine ⟨.ref s.heap.objs.size,_,I.laid (t':=s.toks) (o:=.tup (xs ++ ys)) (fun b ob q=>Heap.get?_push_of_some _ q) (Nat.le_refl _) ?_,rfl,q2 (fun w=>z (r2.nil_iff.mpr w)) _ (I.hok.fresh (Nat.le_refl _))⟩
 exact ⟨by rw [List.length_append]; exact hz,_,r1.append r2,IsTup.new _ _⟩
end
end L2
namespace L2
open PySem PySem.Spec PyProof.Rows
def ixN (n:Nat) (i:Int):Option Nat:=if 0 ≤ i then (if i < n then some i.toNat else none) else if -(n:Int) ≤ i then some (i + n).toNat else none
def atI {α:Type} (xs:List α) (i:Int):Option α:=(ixN xs.length i).bind fun j=>xs[j]?
theorem jlb {n:Nat} {i:Int} {j:Nat} (h:ixN n i = some j):seqIndex? i n = some j∧j < n∧-(n:Int) ≤ i∧i < n:=by
 unfold ixN at h
 by_cases h0:0 ≤ i
 ·rw [if_pos h0] at h
  by_cases h1:i < n
  ·rw [if_pos h1] at h
   have e:i.toNat = j:=Option.some.inj h
   exact ⟨by rw [seqIndex_of h0 h1,e],by omega,by omega,h1⟩
  ·rw [if_neg h1] at h; cases h
 ·rw [if_neg h0] at h
  by_cases h1:-(n:Int) ≤ i
  ·rw [if_pos h1] at h
   have e:(i + n).toNat = j:=Option.some.inj h
   exact ⟨by rw [seqIndex_neg (by omega) h1,e],by omega,h1,by omega⟩
  ·rw [if_neg h1] at h; cases h
theorem jq1 {α:Type} {xs:List α} {i:Int} {v:α} (h:atI xs i = some v):∃ j,seqIndex? i xs.length = some j∧xs[j]? = some v∧j < xs.length∧-(xs.length:Int) ≤ i∧i < xs.length:=by
 unfold atI at h
 cases e:ixN xs.length i with
 | none=>rw [e] at h; cases h
 | some j =>
  rw [e] at h
  obtain ⟨h1,h2,h3,h4⟩:=jlb e
  exact ⟨j,h1,h,h2,h3,h4⟩
theorem jcr {α:Type} {xs:List α} {j:Nat} {v:α} (h:xs[j]? = some v):atI xs (j:Int) = some v:=by
 have hj:j < xs.length:=(List.getElem?_eq_some_iff.mp h).1
 have e:ixN xs.length (j:Int) = some j:=by
  unfold ixN
  rw [if_pos (by omega),if_pos (by omega)]; simp
 unfold atI; rw [e]; exact h
theorem jg7 {α:Type} (xs:List α) (v:α):atI (xs ++ [v]) (-1) = some v:=by
 have hl:(xs ++ [v]).length = xs.length + 1:=by simp
 have e:ixN (xs ++ [v]).length (-1) = some xs.length:=by
  unfold ixN
  rw [hl,if_neg (by decide),if_pos (by omega)]
  congr 1
  omega
 unfold atI
 rw [e]
 show (xs ++ [v])[xs.length]? = some v
 simp
def jt4 (b:Expr):Prop:=∀ o i,subscripted b false o i = operate [o,i] (getItem o i)
def IxR (X:Cx) (r:R2):Prop :=
 ∀ (value slice:Expr) (pins:List (Addr × Obj)) (s:Shared) (σ:St) (H:Hp) (x y:V) (v u:Value) (Q:VK),Inv X pins σ H s→RelV x v→RelV y u→r x y H Q →
  subscripted slice false v u = operate [v,u] (getItem v u)→wpAny (model X.prog X.w) X.A (subscriptTail value slice v u) (EP X pins σ Q) X.xe s
def MtR (X:Cx) (id:String) (r:V→List V→Hp→VK→Prop):Prop :=
 ∀ (pins:List (Addr × Obj)) (s:Shared) (σ:St) (H:Hp) (x:V) (xs:List V) (v:Value) (us:List Value) (Q:VK),Inv X pins σ H s→RelV x v→Vals xs us→r x xs H Q →
  wpAny (model X.prog X.w) X.A (call (.builtin id) (v :: us)) (EP X pins σ Q) X.xe s
section
variable {X:Cx} {a b:Expr} {ta tb:TE} {pos:Pos}
theorem IxR.or {r r':R2} (h:IxR X r) (h':IxR X r'):IxR X (fun x y H Q=>r x y H Q ∨ r' x y H Q):=by
 intro value slice pins s σ H x y v u Q I rx ry q hs
 rcases q with q | q
 ·exact h value slice pins s σ H x y v u Q I rx ry q hs
 ·exact h' value slice pins s σ H x y v u Q I rx ry q hs
theorem jac {r:R2} (hr:IxR X r) (ha:PE X a ta) (hb:PE X b tb) (hs:jt4 b):PE X (.Subscript a b pos) (tOp r ta tb):=by
 intro pins s σ H Q I h
 exact Subscript_ (binT ha hb I h fun v u s2 x y H2 I2 rx ry q=>hr a b pins s2 σ H2 x y v u Q I2 rx ry q (hs _ _))
def rIxL (K:PySem.W.Frag):R2:=fun x y H Q=>∃ p xs i v,x = .ref p∧y = .int i∧SqL K H p xs∧atI xs i = some v∧Q v H
def rIxT (K:PySem.W.Frag):R2:=fun x y H Q=>∃ p xs i v,x = .ref p∧y = .int i∧SqT K H p xs∧atI xs i = some v∧Q v H
theorem jp9:IxR X (rIxL X.K):=by
 intro value slice pins s σ H x y v u Q I rx ry h hs
 obtain ⟨p,xs,i,z,rfl,rfl,hq,he,q⟩:=h
 cases rx
 obtain ⟨t,rfl⟩:=ry
 obtain ⟨its,r,pl,hz⟩:=I.list hq
 obtain ⟨j,h1,h2,h3,h4,h5⟩:=jq1 he
 obtain ⟨w,ew,rw'⟩:=r.get h2
 have hl:=r.length
 have hn:=jm2
 have fin:EP X pins σ Q w s:=⟨z,H,I,rw',q⟩
 by_cases h0:0 ≤ i
 ·have hj:i.toNat = j:=by
   rw [seqIndex_of h0 h5] at h1
   exact Option.some.inj h1
  exact item_listR pl.isList h0 (by omega) (by rw [hj]; simpa using ew) fin hs
 ·have hj:(i + (its.toArray.size:Int)).toNat = j:=by
   rw [seqIndex_neg (by omega) h4] at h1
   rw [List.size_toArray,← hl]
   exact Option.some.inj h1
  exact subscriptTail_builtinR (x:=w) pl.isList.typeIs slot_list_getitem.lookup
   (wpAny_getItem_list_neg (Q:=fun r s'=>r = w∧EP X pins σ Q r s') pl.isList (by omega) (by rw [List.size_toArray] <;> omega) (by omega) (by rw [hj]; simpa using ew) ⟨rfl,fin⟩) hs
theorem ix_tup:IxR X (rIxT X.K):=by
 intro value slice pins s σ H x y v u Q I rx ry h hs
 obtain ⟨p,xs,i,z,rfl,rfl,hq,he,q⟩:=h
 cases rx
 obtain ⟨t,rfl⟩:=ry
 obtain ⟨its,r,pl,hz⟩:=I.tuple hq
 obtain ⟨j,h1,h2,h3,h4,h5⟩:=jq1 he
 obtain ⟨w,ew,rw'⟩:=r.get h2
 have hl:=r.length
 have hn:=jm2
 have fin:EP X pins σ Q w s:=⟨z,H,I,rw',q⟩
 exact subscriptTail_builtinR (x:=w) pl.typeIs slot_tuple_getitem.lookup
  (getItem_tuple (j:=j) (Q:=fun r s'=>r = w∧EP X pins σ Q r s') pl (by omega) (by omega) (by rw [List.size_toArray,← hl]; exact h1) (by simpa using ew) ⟨rfl,fin⟩) hs
theorem jms (its:List Value) (n j:Nat) (u:Value):Obj.mapSeq (·.setIfInBounds j u) { cls:=.type "list",data:=.seq its.toArray n } = { cls:=.type "list",data:=.seq (its.set j u).toArray n }:=by
 simp [Obj.mapSeq]
theorem Inv.lst {pins:List (Addr × Obj)} {σ:St} {H:Hp} {s:Shared} {p:Addr} {xs:List V} (I:Inv X pins σ H s) (h:H p = some (.lst xs)) :
  ∃ (its:List Value) (n:Nat),Vals xs its∧s.heap.get? p = some { cls:=.type "list",data:=.seq its.toArray n }∧xs.length ≤ sizeLine:=by
 obtain ⟨z,its,n,r,e⟩:=I.hok p _ h
 exact ⟨its,n,r,e,z⟩
theorem Inv.lstUpd {pins:List (Addr × Obj)} {σ:St} {H:Hp} {s:Shared} {p:Addr} {xs ys:List V} {its its':List Value} {n n':Nat} {f:Obj→Obj} (I:Inv X pins σ H s) (h:H p = some (.lst xs))
  (ho:s.heap.get? p = some { cls:=.type "list",data:=.seq its.toArray n }) (hf:f { cls:=.type "list",data:=.seq its.toArray n } = { cls:=.type "list",data:=.seq its'.toArray n' }) (r:Vals ys its') (hz:ys.length ≤ sizeLine) (t:Nat) :
  Inv X pins σ (upd H p (.lst ys)) { s with heap:=s.heap.update p f,toks:=t }:=by
 have e:(s.heap.update p f).get? p = some { cls:=.type "list",data:=.seq its'.toArray n' }:=by
  rw [Heap.get?_update_self f ho (by rw [hf] <;> rfl),hf]
 refine I.write (x:=p) (e:=p) (by rw [h]; trivial) (.inl rfl) (fun b u hb q=>(Heap.get?_update_other _ _ (Ne.symm hb)).trans q) ⟨_,e⟩ ?_
 exact ⟨hz,its',n',r,e⟩
def rSetL:V→V→V→Hp→(Hp→Prop)→Prop:=fun o i v H Q=>∃ p xs k j,o = .ref p∧i = .int k∧H p = some (.lst xs)∧ixN xs.length k = some j∧Q (upd H p (.lst (xs.set j v)))
theorem jqc:PSet X rSetL:=by
 intro pins s σ H o i v ov iv u Q I ro ri rv h
 obtain ⟨p,xs,k,j,rfl,rfl,hp,hj,q⟩:=h
 cases ro
 obtain ⟨t,rfl⟩:=ri
 obtain ⟨its,n,r,ho,hz⟩:=I.lst hp
 obtain ⟨h1,h2,h3,h4⟩:=jlb hj
 have hl:=r.length
 have hn:=jm2
 have I':Inv X pins σ (upd H p (.lst (xs.set j v))) { s with heap:=s.heap.update p (Obj.mapSeq (·.setIfInBounds j u)) } :=
  I.lstUpd hp ho (jms its n j u) (r.set rv j) (by rw [List.length_set]; exact hz) s.toks
 by_cases h0:0 ≤ k
 ·have hk:k.toNat = j:=by
   rw [seqIndex_of h0 h4] at h1
   exact Option.some.inj h1
  exact PySem.W.ki_setAt ho h0 (by omega) (by rw [List.size_toArray,← hl]; exact h4) (by rw [hk]; exact ⟨_,I',q⟩)
 ·have hk:(k + (its.toArray.size:Int)).toNat = j:=by
   rw [seqIndex_neg (by omega) h3] at h1
   rw [List.size_toArray,← hl]
   exact Option.some.inj h1
  exact PySem.W.ki_setBack ho (by omega) (by rw [List.size_toArray,← hl]; exact h3) (by omega) (by rw [hk]; exact ⟨_,I',q⟩)
theorem jjb (lo hi:Option Int) (n:Nat):(sliceBounds lo hi none n).1 = ((HT.sIx n 0 lo:Nat):Int)∧(sliceBounds lo hi none n).2.1 = ((HT.sIx n n hi:Nat):Int)∧(sliceBounds lo hi none n).2.2 = 1:=by
 refine ⟨?_,?_,rfl⟩
 ·cases lo with
  | none=>simp [sliceBounds,HT.sIx]
  | some i =>
   simp only [sliceBounds,HT.sIx,Option.getD_none,show (1:Int) > 0 by decide,if_true]
   by_cases h:i < 0
   ·simp only [h,if_true] <;> omega
   ·simp only [h,if_false] <;> omega
 ·cases hi with
  | none=>simp [sliceBounds,HT.sIx]
  | some i =>
   simp only [sliceBounds,HT.sIx,Option.getD_none,show (1:Int) > 0 by decide,if_true]
   by_cases h:i < 0
   ·simp only [h,if_true] <;> omega
   ·simp only [h,if_false] <;> omega
theorem ji2 (its:List Value) (lo hi:Option Int):slicePick its.toArray lo hi none = ((its.drop (HT.sIx its.length 0 lo)).take (HT.sIx its.length its.length hi - HT.sIx its.length 0 lo)).toArray:=by
 obtain ⟨h1,h2,h3⟩:=jjb lo hi its.toArray.size
 unfold slicePick
 rw [h1,h2,h3]
 simp only [sliceRange_one,pick_run,List.size_toArray] <;> rfl
def rSlL (K:PySem.W.Frag):V→Option Int→Option Int→Hp→VK→Prop:=fun x lo hi H Q=>∃ a xs,x = .ref a∧SqL K H a xs∧∀ p,H p = none→Q (.ref p) (upd H p (.lst (cutV xs lo hi)))
theorem js9:SlR X (rSlL X.K):=by
 intro pins s σ H x v vl vu lo hi sl Q I rx hs pl pu h
 obtain ⟨a,xs,rfl,hx,q⟩:=h
 cases rx
 obtain ⟨its,r,ht,hz⟩:=I.list hx
 have hlen:=r.length
 refine ⟨"list",_,slot_list_getitem.lookup,ht.isList.typeIs,?_⟩
 refine wpAny_getItem_list_slice ht.isList hs pl pu .none (by simp) ?_ (by rw [List.size_toArray] <;> omega)
 rw [ji2,← hlen]
 refine ⟨.ref s.heap.objs.size,_,I.laid (t':=s.toks) (o:=.lst (cutV xs lo hi)) (fun b ob q=>Heap.get?_push_of_some _ q) (Nat.le_refl _) ?_,rfl,q _ (I.hok.fresh (Nat.le_refl _))⟩
 exact ⟨Nat.le_trans (jh9 xs lo hi) hz,_,0,(r.drop (HT.sIx xs.length 0 lo)).take (HT.sIx xs.length xs.length hi - HT.sIx xs.length 0 lo),Heap.get?_push_size _ rfl⟩
def je5:V→Bool
 | .non=>true
 | .bl _=>true
 | .int _=>true
 | .str _=>true
 | _=>false
def eqV:V→V→Bool
 | .non,.non=>true
 | .bl a,.bl b=>a == b
 | .bl a,.int b=>(if a then 1 else 0) == b
 | .int a,.bl b=>a == (if b then 1 else 0)
 | .int a,.int b=>a == b
 | .str a,.str b=>a == b
 | _,_=>false
theorem jry {A:Around} {s:Shared} {y x:V} {u v:Value} (ry:RelV y u) (rx:RelV x v) (fy:je5 y = true) (fx:je5 x = true):SeqAt.EqAt A s u v (eqV y x):=by
 cases y with
 | non =>
  cases ry
  cases x with
  | non=>cases rx; exact SeqAt.EqAt.same _
  | bl b=>cases rx; exact SeqAt.EqAt.none_bool b
  | int b=>obtain ⟨t,rfl⟩:=rx; exact SeqAt.EqAt.none_int b t
  | str b=>obtain ⟨t,rfl⟩:=rx; exact SeqAt.EqAt.none_str b t
  | _=>exact absurd (show false = true from fx) Bool.false_ne_true
 | bl a =>
  cases ry
  cases x with
  | non=>cases rx; exact SeqAt.EqAt.bool_none a
  | bl b=>cases rx; exact SeqAt.EqAt.bool_bool a b
  | int b=>obtain ⟨t,rfl⟩:=rx; exact SeqAt.EqAt.bool_int a b t
  | str b=>obtain ⟨t,rfl⟩:=rx; exact SeqAt.EqAt.bool_str a b t
  | _=>exact absurd (show false = true from fx) Bool.false_ne_true
 | int a =>
  obtain ⟨t',rfl⟩:=ry
  cases x with
  | non=>cases rx; exact SeqAt.EqAt.int_none a t'
  | bl b=>cases rx; exact SeqAt.EqAt.int_bool a t' b
  | int b=>obtain ⟨t,rfl⟩:=rx; exact SeqAt.EqAt.int_int a t' b t
  | str b=>obtain ⟨t,rfl⟩:=rx; exact SeqAt.EqAt.int_str a t' b t
  | _=>exact absurd (show false = true from fx) Bool.false_ne_true
 | str a =>
  obtain ⟨t',rfl⟩:=ry
  cases x with
  | non=>cases rx; exact SeqAt.EqAt.str_none a t'
  | bl b=>cases rx; exact SeqAt.EqAt.str_bool a t' b
  | int b=>obtain ⟨t,rfl⟩:=rx; exact SeqAt.EqAt.str_int a t' b t
  | str b=>obtain ⟨t,rfl⟩:=rx; exact SeqAt.EqAt.str_str a t' b t
  | _=>exact absurd (show false = true from fx) Bool.false_ne_true
 | _=>exact absurd (show false = true from fy) Bool.false_ne_true
def eqU (x:V) (u:Value):Bool:=match u with
 | .none=>eqV .non x
 | .bool b=>eqV (.bl b) x
 | .int i _=>eqV (.int i) x
 | .str z _=>eqV (.str z) x
 | _=>false
theorem jrx {x y:V} {u:Value} (r:RelV y u) (f:je5 y = true):eqU x u = eqV y x:=by
 cases y with
 | non=>cases r; rfl
 | bl b=>cases r; rfl
 | int i=>obtain ⟨t,rfl⟩:=r; rfl
 | str z=>obtain ⟨t,rfl⟩:=r; rfl
 | _=>exact absurd (show false = true from f) Bool.false_ne_true
theorem jlh {x:V}:∀ {xs:List V} {us:List Value},Vals xs us→xs.all je5 = true→us.any (eqU x) = xs.any fun y=>eqV y x
 | _,_,.nil,_=>rfl
 | y :: xs,u :: us,.cons r t,f=>by
  rw [List.all_cons,Bool.and_eq_true] at f
  rw [List.any_cons,List.any_cons,jrx r f.1,jlh t f.2]
theorem jij {A:Around} {s:Shared} {x:V} {v:Value} (rx:RelV x v) (fx:je5 x = true):∀ {xs:List V} {us:List Value},Vals xs us→xs.all je5 = true→∀ u ∈ us,SeqAt.EqAt A s u v (eqU x u)
 | _,_,.nil,_=>fun u hu=>by cases hu
 | y :: xs,u :: us,.cons r t,f=>fun u' hu=>by
  rw [List.all_cons,Bool.and_eq_true] at f
  rcases List.mem_cons.mp hu with rfl | hu
  ·rw [jrx r f.1]; exact jry r rx f.1 fx
  ·exact jij rx fx t f.2 u' hu
def inV (x:V) (xs:List V):Bool:=xs.any fun y=>eqV y x
def rIn (K:PySem.W.Frag) (neg:Bool):R2:=fun x y H Q=>∃ p xs,y = .ref p∧(SqL K H p xs ∨ SqT K H p xs)∧je5 x = true∧xs.all je5 = true∧Q (.bl (if neg then !inV x xs else inV x xs)) H
theorem jok:OpR X (compareOp .In) (rIn X.K false):=by
 intro pins s σ H x y v u Q I rx ry h
 obtain ⟨p,xs,rfl,hq,fx,fs,q⟩:=h
 cases ry
 rcases hq with hq | hq
 ·obtain ⟨its,r,pl,hz⟩:=I.list hq
  refine SeqAt.in_listAt (eqU x) pl.isList (fun w hw=>jij rx fx r fs w (by simpa using hw)) ⟨.bl _,H,I,rfl,?_⟩
  rw [show its.toArray.any (eqU x) = its.any (eqU x) by simp,jlh r fs]
  exact q
 ·obtain ⟨its,r,pl,hz⟩:=I.tuple hq
  refine SeqAt.in_tupleAt (eqU x) pl (fun w hw=>jij rx fx r fs w (by simpa using hw)) ⟨.bl _,H,I,rfl,?_⟩
  rw [show its.toArray.any (eqU x) = its.any (eqU x) by simp,jlh r fs]
  exact q
theorem jdv:jd0 X (.builtin "len") (fun xs H Q=>∃ p ys,xs = [.ref p]∧(SqL X.K H p ys ∨ SqT X.K H p ys)∧Q (.int ys.length) H):=by
 intro pins s σ H xs us Q I r h
 obtain ⟨p,ys,rfl,hq,q⟩:=h
 obtain ⟨u,rfl,rx⟩:=jhv r
 cases rx
 have hn:=jm2
 rcases hq with hq | hq
 ·obtain ⟨its,r',pl,hz⟩:=I.list hq
  have hlen:=r'.length
  exact Calls.call_len_list pl.isList (by simp only [List.size_toArray] <;> omega) ⟨.int ys.length,H,I.tok _,⟨s.toks + 1,by rw [List.size_toArray,hlen]⟩,q⟩
 ·obtain ⟨its,r',pl,hz⟩:=I.tuple hq
  have hlen:=r'.length
  exact len_tuple pl (by simp only [List.size_toArray] <;> omega) ⟨.int ys.length,H,I.tok _,⟨s.toks + 1,by rw [List.size_toArray,hlen]⟩,q⟩
theorem jkb:jd0 X (.type "list") (fun xs H Q=>∃ p ys,xs = [.ref p]∧(SqL X.K H p ys ∨ SqT X.K H p ys)∧∀ l,H l = none→Q (.ref l) (upd H l (.lst ys))):=by
 intro pins s σ H xs us Q I r h
 obtain ⟨p,ys,rfl,hq,q⟩:=h
 obtain ⟨u,rfl,rx⟩:=jhv r
 cases rx
 have fin:∀ (its:List Value),Vals ys its→ys.length ≤ sizeLine→∀ (h':Heap) (c':Nat),(∀ b o',s.heap.get? b = some o'→h'.get? b = some o') →
   h'.get? s.heap.objs.size = some { cls:=.type "list",dict:=none,data:=.seq its.toArray c',slots:=#[] }→EP X pins σ Q (.ref s.heap.objs.size) { s with heap:=h' }:=fun its r' hz h' c' kp e =>
  ⟨.ref s.heap.objs.size,_,I.laid (t':=s.toks) kp (Nat.le_refl _) (show jc9 X.prog X.w _ h' _ (.lst ys) from ⟨hz,its,c',r',e⟩),rfl,q _ (I.hok.fresh (Nat.le_refl _))⟩
 rcases hq with hq | hq
 ·obtain ⟨its,r',pl,hz⟩:=I.list hq
  have hlen:=r'.length
  obtain ⟨o,ho,hc,n,hd⟩:=pl.isList
  exact call_list_seq p (.inl rfl) ho hc hd (fun h' c' kp e=>fin its r' hz h' c' kp e) (by simp only [List.size_toArray] <;> omega)
 ·obtain ⟨its,r',pl,hz⟩:=I.tuple hq
  have hlen:=r'.length
  obtain ⟨o,ho,hc,n,hd⟩:=pl
  exact call_list_seq p (.inr rfl) ho hc hd (fun h' c' kp e=>fin its r' hz h' c' kp e) (by simp only [List.size_toArray] <;> omega)
def tyV (K:PySem.W.Frag) (T:String) (x:V) (H:Hp):Prop:=match x with
 | .str _=>T = "str"
 | .int _=>T = "int"
 | .ref p=>(T = "list"∧∃ xs,SqL K H p xs) ∨ (T = "tuple"∧∃ o,K.lookup p = some o∧o.cls = .type "tuple"∧o.dict = none) ∨
   (T = "dict"∧((∃ kvs,H p = some (.dK kvs)) ∨ ∃ kvs,H p = some (.dT kvs))) ∨ (T = "set"∧∃ S n,H p = some (.set S n))
 | _=>False
theorem tyV_is {pins:List (Addr × Obj)} {σ:St} {H:Hp} {s:Shared} {T:String} {x:V} {v:Value} (I:Inv X pins σ H s) (r:RelV x v) (ty:tyV X.K T x H) :
  s.TypeIs v T∧∀ a,v = .ref a→∃ ob,s.heap.get? a = some ob∧ob.dict = none:=by
 cases x with
 | str z =>
  obtain ⟨t,rfl⟩:=r
  cases (show T = "str" from ty)
  exact ⟨typeIs_str s z t,fun _ e=>nomatch e⟩
 | int i =>
  obtain ⟨t,rfl⟩:=r
  cases (show T = "int" from ty)
  exact ⟨typeIs_int s i t,fun _ e=>nomatch e⟩
 | ref p =>
  cases r
  rcases ty with ⟨rfl,xs,hq⟩ | ⟨rfl,o,hk,hc,hd⟩ | ⟨rfl,hk⟩ | ⟨rfl,S,n,hk⟩
  ·obtain ⟨its,_,pl,_⟩:=I.list hq
   refine ⟨pl.isList.typeIs,fun a e=>?_⟩
   cases e
   obtain ⟨o,n,e,c,hd,_⟩:=pl
   exact ⟨o,e,hd⟩
  ·refine ⟨⟨o,I.kIn p o hk,hc⟩,fun a e=>?_⟩
   cases e
   exact ⟨o,I.kIn _ o hk,hd⟩
  ·have z:∃ o,s.heap.get? p = some o∧o.ExactDict:=by
    rcases hk with ⟨kvs,hk⟩ | ⟨kvs,hk⟩
    ·obtain ⟨_,_,_,_,o,_,_,e,ex,_⟩:=I.hok p _ hk
     exact ⟨o,e,ex⟩
    ·obtain ⟨_,_,_,_,o,_,_,e,ex,_⟩:=I.hok p _ hk
     exact ⟨o,e,ex⟩
   obtain ⟨o,e,ex⟩:=z
   refine ⟨⟨o,e,ex.1⟩,fun a e2=>?_⟩
   cases e2
   exact ⟨o,e,ex.2.1⟩
  ·obtain ⟨o,_,_,_,e,ex,_⟩:=I.hok p _ hk
   refine ⟨⟨o,e,ex.1⟩,fun a e2=>?_⟩
   cases e2
   exact ⟨o,e,ex.2.1⟩
 | _=>exact False.elim ty
variable {o e:Expr} {es:List Expr} {to:TE} {t:TA} {name:Str} {apos cpos:Pos} {T id:String} {r:V→List V→Hp→VK→Prop}
/- xs.append(e),list.index on a module's tuple .. are MtR facts of 06m -/
end
end L2
namespace L2
open PySem PySem.Spec PyProof.Rows
def MtM (X:Cx) (id:String) (r:V→List V→Hp→VK→Prop):Prop :=
 ∀ (pins:List (Addr × Obj)) (s:Shared) (σ:St) (H:Hp) (x:V) (xs:List V) (v:Value) (us:List Value) (Q:VK),Inv X pins σ H s→RelV x v→Vals xs us→r x xs H Q →
  wpAny (model X.prog X.w) X.A (call (.builtin id) (v :: us)) (EP X pins σ Q) X.xe s
theorem Vals.one:∀ {x:V} {us:List Value},Vals [x] us→∃ u,us = [u]∧RelV x u
 | _,_,.cons r .nil=>⟨_,rfl,r⟩
theorem Vals.two:∀ {x y:V} {us:List Value},Vals [x,y] us→∃ u v,us = [u,v]∧RelV x u∧RelV y v
 | _,_,_,.cons r (.cons q .nil)=>⟨_,_,rfl,r,q⟩
theorem Vals.eraseIdx:∀ {xs:List V} {us:List Value} (i:Nat),Vals xs us→Vals (xs.eraseIdx i) (us.eraseIdx i)
 | _,_,_,.nil=>.nil
 | _,_,0,.cons _ t=>t
 | _,_,i + 1,.cons r t=>.cons r (Vals.eraseIdx i t)
theorem Vals.rep {xs:List V} {us:List Value} (h:Vals xs us):∀ k:Nat,Vals (List.replicate k xs).flatten (List.replicate k us).flatten
 | 0=>.nil
 | k + 1=>by
  rw [List.replicate_succ,List.replicate_succ,List.flatten_cons,List.flatten_cons]
  exact Vals.append h (Vals.rep h k)
theorem jjw {α:Type}:∀ (l:List α) (i:Nat),(l.eraseIdx i).length ≤ l.length
 | [],_=>Nat.le_refl _
 | _ :: _,0=>Nat.le_succ _
 | _ :: r,i + 1=>Nat.succ_le_succ (jjw r i)
section
variable {X:Cx} {pins:List (Addr × Obj)} {σ:St} {H:Hp} {s:Shared} {l b:Addr} {xs ys zs:List V}
theorem Inv.lset {its its':List Value} {n:Nat} {f:Array Value→Array Value} {t':Nat} (I:Inv X pins σ H s) (hH:H l = some (.lst xs))
  (e:s.heap.get? l = some { cls:=.type "list",data:=.seq its.toArray n }) (hf:f its.toArray = its'.toArray) (hv:Vals ys its') (hz:ys.length ≤ sizeLine) :
  Inv X pins σ (upd H l (.lst ys)) { s with heap:=s.heap.update l (Obj.mapSeq f),toks:=t' }:=by
 have q:=PySem.IsL.update e f
 rw [hf] at q
 refine I.write (x:=l) (e:=l) (by rw [hH]; exact trivial) (.inl rfl) (fun b' u hb hu=>(Heap.get?_update_other s.heap (Obj.mapSeq f) (Ne.symm hb)).trans hu) ⟨_,q⟩ ?_
 exact ⟨hz,its',_,hv,q⟩
theorem Inv.lnew {its:List Value} {t':Nat} (I:Inv X pins σ H s) (hv:Vals ys its) (hz:ys.length ≤ sizeLine) :
  Inv X pins σ (upd H s.heap.objs.size (.lst ys)) { s with heap:=s.heap.push { cls:=.type "list",data:=.seq its.toArray },toks:=t' } :=
 I.laid (fun _ _ q=>Heap.get?_push_of_some _ q) (Nat.le_refl _) ⟨hz,its,0,hv,Heap.get?_push_size _ rfl⟩
theorem Inv.fresh (I:Inv X pins σ H s):H s.heap.objs.size = none:=I.hok.fresh (Nat.le_refl _)
theorem Inv.lstM (I:Inv X pins σ H s) (hH:H l = some (.lst xs)):xs.length ≤ sizeLine∧∃ (its:List Value) (n:Nat),Vals xs its∧xs.length = its.length∧s.heap.get? l = some { cls:=.type "list",data:=.seq its.toArray n }:=by
 obtain ⟨z,its,n,r,e⟩:=I.hok l _ hH
 exact ⟨z,its,n,r,r.length,e⟩
end
section
variable {X:Cx}
def jo5:V→List V→Hp→VK→Prop:=fun x vs H Q=>∃ l xs y,x = .ref l∧vs = [y]∧H l = some (.lst xs)∧xs.length < sizeLine∧Q .non (upd H l (.lst (xs ++ [y])))
theorem jjr:MtM X "list.append" jo5:=by
 intro pins s σ H x vs v us Q I rx rv h
 obtain ⟨l,xs,y,rfl,rfl,hH,hz,q⟩:=h
 cases rx
 obtain ⟨u,rfl,ru⟩:=rv.one
 obtain ⟨z,its,n,r,hl,e⟩:=I.lstM hH
 refine call_meets F.slot_list_append ⟨_,e,rfl⟩ F.entry_list_append (F.args_list_append_2 _ _) (PySem.list_append l its.toArray n u (by rw [List.size_toArray]; omega)) ⟨e,?_⟩
 refine ⟨.non,_,I.lset (its':=its ++ [u]) hH e (by simp) (r.append (.cons ru .nil)) ?_,rfl,q⟩
 rw [List.length_append,List.length_singleton]
 omega
def jrg:V→List V→Hp→VK→Prop:=fun x vs H Q=>∃ l xs i k y,x = .ref l∧vs = [.int i]∧H l = some (.lst xs)∧-(2 ^ 63) ≤ i∧i < 2 ^ 63∧seqIndex? i xs.length = some k∧xs[k]? = some y∧Q y (upd H l (.lst (xs.eraseIdx k)))
theorem jqq:MtM X "list.pop" jrg:=by
 intro pins s σ H x vs v us Q I rx rv h
 obtain ⟨l,xs,i,k,y,rfl,rfl,hH,h1,h2,hk,hy,q⟩:=h
 cases rx
 obtain ⟨u,rfl,ru⟩:=rv.one
 obtain ⟨t,rfl⟩:=ru
 obtain ⟨z,its,n,r,hl,e⟩:=I.lstM hH
 obtain ⟨w,hw,rw'⟩:=r.get hy
 refine call_meets F.slot_list_pop ⟨_,e,rfl⟩ F.entry_list_pop (F.args_list_pop_2 _ _)
  (MeetsSeq.list_pop_at l its.toArray n i t k w (fitsIndex_both h1 h2) (by rw [List.size_toArray,← hl]; exact hk) (by rw [← Array.getElem?_toList]; exact hw) (by rw [List.size_toArray]; omega)) ⟨e,?_⟩
 refine ⟨y,_,I.lset (its':=its.eraseIdx k) hH e ?_ (r.eraseIdx k) ?_,rw',q⟩
 ·show its.toArray.eraseIdxIfInBounds k = (its.eraseIdx k).toArray
  rw [List.eraseIdxIfInBounds_toArray]
 ·have:=jjw xs k
  omega
def rCat:R2:=fun x y H Q=>∃ l b xs zs,x = .ref l∧y = .ref b∧H l = some (.lst xs)∧H b = some (.lst zs)∧xs.length + zs.length ≤ sizeLine∧∀ p,H p = none→Q (.ref p) (upd H p (.lst (xs ++ zs)))
theorem op_cat:OpR X (binaryOp .Add) rCat:=by
 intro pins s σ H x y v u Q I rx ry h
 obtain ⟨l,b,xs,zs,rfl,rfl,hH,hB,hz,q⟩:=h
 cases rx
 cases ry
 obtain ⟨z,its,n,r,hl,e⟩:=I.lstM hH
 obtain ⟨z2,its2,n2,r2,hl2,e2⟩:=I.lstM hB
 refine PySem.P.add_list e e2 ?_ (by rw [List.size_toArray,List.size_toArray]; omega)
 have ea:its.toArray ++ its2.toArray = (its ++ its2).toArray:=by simp
 rw [ea]
 exact ⟨.ref _,_,I.lnew (t':=s.toks) (r.append r2) (by rw [List.length_append]; omega),rfl,q _ I.fresh⟩
end
section
variable {prog:Program} {w:World} {A:Around} {E:Value→Shared→Prop} {s:Shared}
end
section
variable {X:Cx}
end
end L2
namespace Att
open PySem PySem.W PySem.Calls PyProof.Rows
theorem jh3 {P:Params} {h:Heap}:∀ (ns:List Int) (vs:List Value),WellAll P h vs (ns.map WData.int)→IntsAre vs ns:=by
 intro ns
 induction ns with
 | nil =>
  intro vs w
  rw [List.map_nil] at w
  cases w
  exact .nil
 | cons n ns ih =>
  intro vs w
  rw [List.map_cons] at w
  cases w with
  | cons a b =>
   cases a
   exact .cons _ _ (ih _ b)
theorem jo2 {l:OpenLaw} {n:Nat} (hn:l.most = some n) {P:Params} {h:Heap} {args:List WData} {vals:List Value}
  (hpre:l.row.toRowW.claim.pre args = true) (hwl:WellAll P h vals args) :
  ∃ a vs ns,vals = [Value.ref a]∧args = [WData.list (ns.map WData.int)]∧h.get? a = some { cls:=.type "list",data:=.seq vs.toArray }∧IntsAre vs ns∧ns.length ≤ n:=by
 have hsh:WShape.hasAll [] args [.list .int] = true:=(pre_splitW hpre).1
 have hc:l.pre.holds [] { args:=args } = true:=(pre_splitW hpre).2
 obtain ⟨d,r,rfl,h1,h2⟩:=hasAllW_cons hsh
 obtain rfl:=hasAllW_nil h2
 obtain ⟨xs,rfl,h3⟩:=hasW_list h1
 obtain ⟨ns,rfl⟩:=items_int h3
 have hlen:ns.length ≤ n:=by
  unfold OpenLaw.pre at hc
  have h4:(WTm.not (.lt (.lit (.int (n:Int))) (.len (.arg 0)))).holds [] { args:=[.list (ns.map .int)] } = true:=by
   have h4:=(holds_andW hc).1
   rw [hn] at h4
   exact h4
  have h5:=condW_of h4 (w_not (w_lt w_lit (w_len_list (w_arg rfl))))
  rw [List.length_map] at h5
  refine Nat.le_of_not_lt fun q=>?_
  have q':(n:Int) < ((ns.length:Nat):Int):=by omega
  first
   | (rw [decide_eq_true q'] at h5; exact absurd h5 (by decide))
   | (simp at h5; omega)
 cases hwl with
 | cons w1 w2 =>
  cases w2
  cases w1 with
  | list ho hall=>exact ⟨_,_,ns,rfl,rfl,ho,jh3 ns _ hall,hlen⟩
theorem joa (l:OpenLaw) (args:List WData):l.row.toRowW.claim.post args (.bool true) args = true :=
 postW_of (r:=l.row.toRowW) (X:=(true == true))
  (show WShape.has [] (.bool true) .bool = true by first | rfl | decide | simp [WShape.has,WShape.arms,WShape.armsAll])
  (show (WTm.eq .res (.lit (.bool true))).value [] { args:=args,res:=some (.bool true),after:=args } = some (.bool (true == true)) from w_eq_bool (w_res rfl) w_lit) rfl
theorem attach_call {l:OpenLaw} {n:Nat} {q:Program} {loose:List Str} {XP:(Str→Option Value)→Heap→Prop} {YP:World→Heap→Prop} {d:DefRec}
  (hn:l.most = some n) (hdf:d.params.defaults = [])
  (call:∀ (w:World) (s₀ s₁:Shared) (mg mb:Str→Option Value) (fa:Addr) (o:Obj) (pm cd doc:Value) (a:Addr) (vs:List Value) (ns:List Int),
   Ground q loose [] XP w s₀ mg mb s₁.heap→YP w s₁.heap →
   s₁.heap.get? fa = some o→o.data = .func (docDef d.name d.params d.body d.scope pm cd doc)→s₁.heap.CodeRec cd d.name→mg d.name = some (.ref fa) →
   s₁.heap.get? a = some { cls:=.type "list",data:=.seq vs.toArray }→IntsAre vs ns→ns.length ≤ n→s₁.gens = #[] →
   codeAny (model l.prog w) callerA (.call (.ref fa) ⟨[.ref a],[]⟩) (fun r s'=>r = .ok (.ret (.bool true))∧OldK s₁.heap s'.heap∧s'.os = s₁.os∧AllBare s'.gens) s₁) :
  WalkO q loose XP YP l.row.toRowW d [] (fun f vs=>PySem.call f vs):=by
 intro w s₀ s₁ mg mb G Y fa o pm cd doc dV kV ho hd hcd hD hmg hg args vals as hpre hlay hrd hwl hlo
 obtain rfl:dV = .none:=Dflts.none hD hdf
 obtain rfl:kV = .none:=Dflts.noKw hD
 obtain ⟨a,vs,ns,rfl,rfl,hobj,hints,hlen⟩:=jo2 hn hpre hwl
 refine enter_call (codeAny_mono (call w s₀ s₁ mg mb fa o pm cd doc a vs ns G Y ho (fd_plain hd) hcd hmg hobj hints hlen hg) fun r s' hq=>?_)
 obtain ⟨rfl,h2,h3,h4⟩:=hq
 exact ⟨.inl ⟨.bool true,.bool true,[],rfl,fun _=>rfl,.bool true,joa l _,fun _=>⟨List.Pairwise.nil,fun _ hm=>(nomatch hm)⟩⟩,h2,h3,h4⟩
section
variable {prog:Program} {w:World} {A:Around} {E:Value→Shared→Prop} {s:Shared} {K:Frag}
end
end Att
namespace L2
open PySem PySem.Spec PyProof.Rows
theorem jj2:∀ {vs:List Value} {ns:List Int},IntsAre vs ns→Vals (ns.map V.int) vs
 | _,_,.nil=>.nil
 | _,_,.cons n t h=>.cons ⟨t,rfl⟩ (jj2 h)
def Only (H:Hp):Prop:=∀ b,H b = none ∨ ∃ o xs,H b = some (.frz o (.lst xs))
theorem jqs {P:Program} {w:World} {K:PySem.W.Frag} {mg mb:Str→Option Value} {CX:CXT} {k:Nat} {fa a:Addr} {fd:FuncData} {x:Str} {sp:Sp} {s₁:Shared} {vs:List Value} {ns:List Int}
  (KX:K.In s₁.heap) (hns:s₁.heap.Ns mainGlobals mg) (hb:s₁.heap.Ns builtinsNs mb) (hbb:∀ x:Str,x ≠ "__name__"→mb x = bootBuiltins x) (hlim:s₁.heap.NoLimit) (hg:s₁.gens = #[])
  (ha:s₁.heap.get? a = some { cls:=.type "list",data:=.seq vs.toArray }) (hi:IntsAre vs ns) (hl:ns.length ≤ sizeLine) (hr:Room k callerA)
  (F:∀ base:Heap,K.In base→base.Ns mainGlobals mg→FnOk P w K mg base CX k fa fd [x] sp) (hbind:∀ (s:Shared) (u:Value),BindsTo s fd ⟨[u],[]⟩ [(x,u)])
  (hsp:∀ H:Hp,Only H→SqL K H a (ns.map V.int)→sp [.ref a] H (fun v _=>v = .bl true) fun _ _ _=>False)
  (hCX:∀ H e s',CX [] H s₁ (fun _ _ _=>False) e s'→False) :
  codeAny (model P w) callerA (.call (.ref fa) ⟨[.ref a],[]⟩) (fun r s'=>r = .ok (.ret (.bool true))∧OldK s₁.heap s'.heap∧s'.os = s₁.os∧AllBare s'.gens) s₁:=by
 have rv:=jj2 hi
 have lenV:=hi.length
  -- from an abstract heap in which nothing but the script may be tracked
 have core:∀ H:Hp,Only H→SqL K H a (ns.map V.int)→HOk P w H s₁.heap→(∀ b,H b ≠ none→b = a)→(H a ≠ none→K.lookup a = none) →
   codeAny (model P w) callerA (.call (.ref fa) ⟨[.ref a],[]⟩) (fun r s'=>r = .ok (.ret (.bool true))∧OldK s₁.heap s'.heap∧s'.os = s₁.os∧AllBare s'.gens) s₁:=by
  intro H hO hS hok hA hK
  have base_of:∀ {b:Addr} {o:Obj},s₁.heap.get? b = some o→H b = none→(hidT s₁.heap H).get? b = some o:=fun e n=>jqv e n
  have noA:∀ {b:Addr} {o:Obj} {es:Array DictEntry} {ep:Nat},s₁.heap.get? b = some o→o.data = .dict es ep→H b = none:=fun {b o es ep} e d=>by
   cases q:H b with
   | none=>rfl
   | some u =>
    have e':b = a:=hA b (by rw [q]; simp)
    subst e'
    rw [ha] at e; cases e
    have d':Data.seq vs.toArray _ = Data.dict es ep:=d
    cases d'
  have nsK:∀ {b:Addr} {m:Str→Option Value},s₁.heap.Ns b m→(hidT s₁.heap H).Ns b m:=fun {b m} ⟨o,es,ep,e,d,r⟩=>⟨o,es,ep,base_of e (noA e d),d,r⟩
  have hKb:K.In (hidT s₁.heap H):=fun b o e=>base_of (KX b o e) (by
   cases q:H b with
   | none=>rfl
   | some u =>
    have e':b = a:=hA b (by rw [q]; simp)
    subst e'
    rw [hK (by rw [q]; simp)] at e; cases e)
  have hM:Mod K mg (hidT s₁.heap H):=⟨hKb,nsK hns,⟨mb,nsK hb,hbb⟩,let ⟨mc,h1,h2⟩:=hlim; ⟨mc,nsK h1,h2⟩⟩
  have e0:Env0 P w K mg (hidT s₁.heap H) callerA [] s₁ H:=⟨rfl,hM,fun b o e=>jsl e,Nat.le_of_eq (jpd _ _),trivial,fun b hb=>absurd (show b ∈ ([]:List Addr) from hb) (by simp),hok,.of_eq hg⟩
  refine codeAny_mono ((F _ hKb (nsK hns)).run callerA [] s₁ H ⟨[.ref a],[]⟩ [.ref a] [.ref a] _ _ hr e0 (hbind s₁ (.ref a)) (.cons rfl .nil) (hsp H hO hS)) fun r s' h=>?_
  cases r with
  | error e=>exact (hCX H e s' h).elim
  | ok fl =>
   cases fl with
   | next=>exact False.elim h
   | brk=>exact False.elim h
   | cont=>exact False.elim h
   | ret u =>
    obtain ⟨v,H',os,bare,un,hok',r',q⟩:=h
    have q':v = .bl true:=q
    subst q'
    obtain rfl:u = Value.bool true:=r'
    refine ⟨rfl,OldK.of_keep fun b o e=>?_,os,bare⟩
    cases q:H b with
    | none=>exact un.keep b o e q (by intro z; exact absurd (show b ∈ ([]:List Addr) from z) (by simp)) (by simp)
    | some u =>
     rcases hO b with z | ⟨ob,xs,z⟩
     ·rw [q] at z; cases z
     ·have z2:=un.frzs b ob _ z
      obtain ⟨e1,_⟩:=hok b _ z
      obtain ⟨e2,_⟩:=hok' b _ z2
      rw [e] at e1; cases e1
      exact e2
 cases hk:K.lookup a with
 | some o =>
    -- the script is one of the module's own objects
  have e:=KX a o hk
  rw [ha] at e
  cases e
  refine core (fun _=>none) (fun _=>.inl rfl) (.inr ⟨_,vs.toArray,_,hk,rfl,rfl,rfl,by rw [List.size_toArray,lenV]; exact hl,by simpa using rv⟩) (fun b u z=>by have z':(none:Option HO) = some u:=z; cases z') (fun b z=>absurd rfl z) fun z=>absurd rfl z
 | none =>
  refine core (fun b=>if b = a then some (.frz { cls:=.type "list",data:=.seq vs.toArray } (.lst (ns.map V.int))) else none) (fun b=>?_) (.inl (.inr ⟨{ cls:=.type "list",data:=.seq vs.toArray },if_pos rfl⟩)) (fun b u z=>?_) (fun b z=>?_) fun _=>hk
  ·by_cases hb:b = a
   ·exact .inr ⟨_,_,if_pos hb⟩
   ·exact .inl (if_neg hb)
  ·by_cases hb:b = a
   ·have z':=(if_pos hb).symm.trans z
    cases z'
    subst hb
    exact ⟨ha,by rw [List.length_map]; exact hl,vs,_,rv,ha⟩
   ·have z':=(if_neg hb).symm.trans z
    cases z'
  ·by_cases hb:b = a
   ·exact hb
   ·exact absurd (if_neg hb) z
end L2
namespace L2
open PySem PySem.Spec PyProof.Rows
abbrev KOf {K:PySem.W.Frag} {h:Heap} (_:K.In h):PySem.W.Frag:=K
theorem jn6 {l:PySem.W.OpenLaw} {n k:Nat} {q:Program} {loose:List Str} {XP:(Str→Option Value)→Heap→Prop} {YP:World→Heap→Prop} {d:DefRec} {K:Params→PySem.W.Frag} {CX:World→CXT} {sp:World→Sp} {x:Str}
    (hn:l.most = some n) (hn2:n ≤ sizeLine) (hdf:d.params.defaults = []) (hr:Room k callerA)
    (hY:∀ (w:World) (h:Heap),YP w h→(K w.params).In h)
    (F:∀ (w:World) (mg:Str→Option Value) (fa:Addr) (h:Heap),(K w.params).In h→h.Ns mainGlobals mg→mg d.name = some (.ref fa) →
      ∃ fd:FuncData,(∀ (s:Shared) (u:Value),BindsTo s fd ⟨[u],[]⟩ [(x,u)]) ∧
        ∀ base:Heap,(K w.params).In base→base.Ns mainGlobals mg→FnOk l.prog w (K w.params) mg base (CX w) k fa fd [x] (sp w))
    (hsp:∀ (w:World) (H:Hp) (a:Addr) (ns:List Int),ns.length ≤ n→Only H→SqL (K w.params) H a (ns.map V.int)→sp w [.ref a] H (fun v _=>v = .bl true) fun _ _ _=>False)
    (hCX:∀ (w:World) (H:Hp) (s:Shared) (e:Value) (s':Shared),CX w [] H s (fun _ _ _=>False) e s'→False) :
    PySem.W.WalkO q loose XP YP l.row.toRowW d [] (fun f vs=>PySem.call f vs):=by
  refine Att.attach_call hn hdf fun w s₀ s₁ mg mb fa o pm cd doc a vs ns G Y ho hd hcd hmg hobj hints hlen hg=>?_
  have KX:=hY w _ Y
  obtain ⟨fd,hb,hF⟩:=F w mg fa _ KX G.T.g hmg
  exact jqs KX G.T.g G.T.b G.T.builtins G.T.nolimit hg hobj hints (Nat.le_trans hlen hn2) hr hF hb (fun H hO hS=>hsp w H a ns hlen hO hS) fun H e s'=>hCX w H s₁ e s'
end L2
/- THE LAST THEOREM (shape; LID,My.* are yours):
   My.Adr: a structure of the addresses that your layer names (classes,functions); My.Txt K t: a structure (Prop) of the equations over K;
   My.txt_mk:{K} {implicit addresses ..} (e1:nsIn K mainGlobals "law" = some (some (.ref f))) (e2:K.lookup f = some ⟨oc,od,.func (fnOf "law" "law" params body scope dV kV doc pm an cdv ct),sl⟩) (e3:codeIn K cdv "law" = true) ..:∃ t,My.Txt K t
set_option maxRecDepth 100000 in
set_option maxHeartbeats 0 in
theorem PySem.Challenge.cw_LID_holds : PySem.Challenge.rw_LID.Holds := by
 w_on; o_law; k_head; (case hw=>w_witness2)
 k_fill
 refine L2.jn6 (l:=PySem.Challenge.rw_LID) (n:=63) (k:=40) (x:="script") (CX:=fun w=>..) (sp:=fun _=>My.sp_law) rfl (by decide) rfl ⟨rfl,by decide,by decide⟩ (fun w h Y=>PySem.W.kIn_of Y) ?F ?S ?C
 case F =>
  intro w mg fa h KX G hmg
  have T:∃ t,My.Txt (L2.KOf KX) t:=by
   dsimp only [L2.KOf]                          -- K must stand as «<heap const> w.params» for k_is
   refine' My.txt_mk ?e1 ?e2 ?e3 ..
   (case e1=>PySem.W.k_is)                    -- in the order: a name -> its address -> its object -> its parts
   (case e2=>PySem.W.k_is)
   ..
  obtain ⟨t,T⟩:=T
  have e0:=hmg.symm.trans (PySem.W.mg_of KX G T.law)
  cases e0                                       -- fa is the law's own address
  exact ⟨_,fun s u=>.of_eq rfl,fun base kb nb=>My.law_fn T kb nb⟩     -- if «.of_eq rfl» comes too early: refine' ⟨_,?b,fun base kb nb=>My.law_fn T kb nb⟩; exact fun s u=>.of_eq rfl
 case S=>exact fun w H a ns hl hO hS=>..
 case C=>exact ..
(the tactic k_is has no namespace: write k_is) -/
namespace L2
open PySem PySem.Spec PyProof.Rows
def jdu (s:Stmt):Arguments:=match s with
 | .FunctionDef _ a _ _ _ _ _ _ _ _=>a
 | _=>{ posonlyargs:=[],args:=[],vararg:=none,kwonlyargs:=[],kw_defaults:=[],kwarg:=none,defaults:=[] }
def jdj (s:Stmt):List Stmt:=match s with
 | .FunctionDef _ _ b _ _ _ _ _ _ _=>b
 | _=>[]
def jaf (s:Stmt):Scope:=match s with
 | .FunctionDef _ _ _ _ _ _ sc _ _ _=>sc
 | _=>{ kind:=.function,names:=[],isGenerator:=false,isCoroutine:=false }
abbrev CX0:CXT:=fun _ _ _ _ _ _=>False
abbrev E0:XK:=fun _ _ _=>False
theorem jap {X:Cx}:jq4 CX0 X E0:=fun _ _ _ _ _ _ _ h=>h.elim
structure Fun (K:PySem.W.Frag) (x qual:Str) (st:Stmt) (f:Addr) (fd:FuncData):Prop where
 ex:∃ (oc:Value) (od:Option Addr) (kV doc pm:Value) (an:Option Addr) (cdv ct:Value) (osl:Array (Option Value)),
  fd = PySem.W.fnOf x qual (jdu st) (jdj st) (jaf st) .none kV doc pm an cdv ct∧K.lookup f = some ⟨oc,od,.func fd,osl⟩∧PySem.W.codeIn K cdv qual = true
 kp:PySem.W.keepIn K (.ref f) = true
section
variable {P:Program} {w:World} {K:PySem.W.Frag} {mg:Str→Option Value} {base:Heap}
theorem Fun.ok {x qual:Str} {st:Stmt} {f:Addr} {fd:FuncData} {N ps:List Str} {k:Nat} {sp:Sp} (F:Fun K x qual st f fd) (S:FnScope N ps (jaf st)) (len:∀ vs H Q E,sp vs H Q E→vs.length = ps.length)
  (hbody:∀ (cdv:Value) (A:Around) (outer:List Env) (s:Shared) (H:Hp) (vs:List V) (Q:VK) (E:XK),Room k (A.deeper (envOfC qual (jaf st) s.heap.objs.size f cdv))→sp vs H Q E →
   ∃ t,PSs (cxOf CX0 P w K mg base N qual (jaf st) f cdv A outer s H E).nox (jdj st) t∧t { nx:=fun _ H'=>Q .non H',rt:=Q } (start N vs) H):FnOk P w K mg base CX0 (k + 1) f fd ps sp:=by
 obtain ⟨oc,od,kV,doc,pm,an,cdv,ct,osl,rfl,lk,hcd⟩:=F.ex
 refine fn_of lk hcd S len fun A outer s H vs Q E hr hsp=>?_
 obtain ⟨t,h,q⟩:=hbody cdv A outer s H vs Q E hr hsp
 exact ⟨t,h.nox,q⟩
theorem Fun.binds {x qual:Str} {st:Stmt} {f:Addr} {fd:FuncData} {ps:List Str} (F:Fun K x qual st f fd)
  (h:∀ (kV doc pm:Value) (an:Option Addr) (cdv ct:Value) (us:List Value),us.length = ps.length→bindArgs (PySem.W.fnOf x qual (jdu st) (jdj st) (jaf st) .none kV doc pm an cdv ct) ⟨us,[]⟩ = pure (ps.zip us)):jli K fd ps []:=by
 obtain ⟨oc,od,kV,doc,pm,an,cdv,ct,osl,rfl,lk,hcd⟩:=F.ex
 exact .all (h kV doc pm an cdv ct)
theorem jax {x qual:Str} {st:Stmt} {f:Addr} {oc:Value} {od an:Option Addr} {osl:Array (Option Value)} {kV doc pm cdv ct:Value} (l:K.lookup f = some ⟨oc,od,.func (PySem.W.fnOf x qual (jdu st) (jdj st) (jaf st) .none kV doc pm an cdv ct),osl⟩)
  (c:PySem.W.codeIn K cdv qual = true) (k:PySem.W.keepIn K (.ref f) = true):Fun K x qual st f (PySem.W.fnOf x qual (jdu st) (jdj st) (jaf st) .none kV doc pm an cdv ct):=⟨⟨oc,od,kV,doc,pm,an,cdv,ct,osl,rfl,l,c⟩,k⟩
end
theorem jbh {A:Around} {k:Nat} (hr:Room k A):A.units + 1 < cLine:=Nat.lt_of_le_of_lt (Nat.add_le_add_left (by decide:1 ≤ 64) _) hr.units
section
variable {X:Cx}
end
theorem ite2 {c A B:Prop} [Decidable c] (h1:c→A) (h2:¬ c→B):if c then A else B:=by
 by_cases h:c
 ·rw [if_pos h]
  exact h1 h
 ·rw [if_neg h]
  exact h2 h
def Same (H H':Hp):Prop:=∀ b o,H b = some o→H' b = some o
theorem Same.refl (H:Hp):Same H H:=fun _ _ h=>h
theorem Same.trans {H H1 H2:Hp} (a:Same H H1) (b:Same H1 H2):Same H H2:=fun c o h=>b c o (a c o h)
theorem Same.free {H H':Hp} (e:Same H H') {l:Addr} (h:H' l = Option.none):H l = Option.none:=by
 cases q:H l with
 | none=>rfl
 | some o =>
  rw [e l o q] at h
  cases h
end L2
set_option maxHeartbeats 8000000
namespace L2
open PySem PySem.Spec PyProof.Rows
section
variable {κ:Type} [DecidableEq κ]
def valV (kvs:List (κ × V)) (k:κ):Option V:=(kvs.find? fun kv=>decide (kv.1 = k)).map (·.2)
def putK (kvs:List (κ × V)) (k:κ) (v:V):List (κ × V) :=
 if (kvs.any fun kv=>decide (kv.1 = k)) = true then kvs.map (fun kv=>if kv.1 = k then (kv.1,v) else kv) else kvs ++ [(k,v)]
theorem jca {p:κ × V} {r:List (κ × V)} {k:κ} (e:p.1 = k):valV (p :: r) k = some p.2:=by simp [valV,List.find?_cons,e]
theorem jcb {p:κ × V} {r:List (κ × V)} {k:κ} (e:¬ p.1 = k):valV (p :: r) k = valV r k:=by simp [valV,List.find?_cons,e]
theorem jei (k:κ):∀ kvs:List (κ × V),(kvs.any fun kv=>decide (kv.1 = k)) = (valV kvs k).isSome
 | []=>rfl
 | p :: r=>by
  rw [List.any_cons]
  by_cases e:p.1 = k
  ·simp only [jca e,decide_eq_true e,Bool.true_or,Option.isSome_some]
  ·rw [jcb e,decide_eq_false e,Bool.false_or]; exact jei k r
theorem jll (k j:κ) (y:V):∀ kvs:List (κ × V),valV (kvs.map fun kv=>if kv.1 = k then (kv.1,y) else kv) j = (valV kvs j).map fun x=>if j = k then y else x
 | []=>rfl
 | p :: r=>by
  have ih:=jll k j y r
  rw [List.map_cons]
  by_cases h:p.1 = k
  ·rw [if_pos h]
   by_cases e:p.1 = j
   ·rw [jca (p:=(p.1,y)) e,jca e,Option.map_some,if_pos (e.symm.trans h)]
   ·rw [jcb (p:=(p.1,y)) e,jcb e,ih]
  ·rw [if_neg h]
   by_cases e:p.1 = j
   ·rw [jca (p:=p) e,jca e,Option.map_some,if_neg (fun z=>h (e.trans z))]
   ·rw [jcb (p:=p) e,jcb e,ih]
theorem jj3 (k j:κ) (y:V):∀ kvs:List (κ × V),valV kvs k = none→valV (kvs ++ [(k,y)]) j = if j = k then some y else valV kvs j
 | [],_=>by
  by_cases e:k = j
  ·rw [if_pos e.symm]; exact jca (p:=(k,y)) e
  ·rw [if_neg (fun z=>e z.symm)]; exact jcb (p:=(k,y)) e
 | p :: r,hn=>by
  rw [List.cons_append]
  have hk:¬ p.1 = k:=fun z=>by rw [jca z] at hn; cases hn
  rw [jcb hk] at hn
  have ih:=jj3 k j y r hn
  by_cases e:p.1 = j
  ·rw [jca e,jca e,if_neg (fun z=>hk (e.trans z))]
  ·rw [jcb e,jcb e,ih]
theorem jfu (kvs:List (κ × V)) (k j:κ) (y:V):valV (putK kvs k y) j = if j = k then some y else valV kvs j:=by
 unfold putK
 by_cases a:(kvs.any fun kv=>decide (kv.1 = k)) = true
 ·rw [if_pos a,jll]
  rw [jei] at a
  by_cases e:j = k
  ·obtain ⟨x,hx⟩:=Option.isSome_iff_exists.mp a
   rw [if_pos e,e,hx,Option.map_some,if_pos rfl]
  ·rw [if_neg e]
   cases valV kvs j with
   | none=>rfl
   | some x=>rw [Option.map_some,if_neg e]
 ·rw [if_neg a]
  refine jj3 k j y kvs ?_
  rw [jei] at a
  cases q:valV kvs k with
  | none=>rfl
  | some x=>rw [q] at a; exact (a rfl).elim
theorem jeg (kvs:List (κ × V)) (k:κ) (v:V):(putK kvs k v).length ≤ kvs.length + 1:=by
 unfold putK
 split
 ·rw [List.length_map]; omega
 ·rw [List.length_append,List.length_cons,List.length_nil]; omega
theorem jlw {kvs:List (κ × V)} {k:κ} (v:V) (h:valV kvs k = none):putK kvs k v = kvs ++ [(k,v)]:=by
 unfold putK
 rw [jei,h]
 exact if_neg (by decide)
theorem RelO.isSome_eq {o:Option V} {u:Option Value} (r:RelO o u):o.isSome = u.isSome:=by
 cases o with
 | none=>cases u with
  | none=>rfl
  | some _=>exact (show False from r).elim
 | some _=>cases u with
  | none=>exact (show False from r).elim
  | some _=>rfl
theorem RelO.getD {o:Option V} {u:Option Value} {d:V} {d':Value} (r:RelO o u) (rd:RelV d d'):RelV (o.getD d) (u.getD d'):=by
 cases o with
 | none=>cases u with
  | none=>exact rd
  | some _=>exact (show False from r).elim
 | some _=>cases u with
  | none=>exact (show False from r).elim
  | some _=>exact r
theorem KV.val {kvs:List (κ × V)} {vs:List (κ × Value)} (r:KV kvs vs) (k:κ):RelO (valV kvs k) (valueAt vs k):=by
 unfold KV at r
 induction r with
 | nil=>exact True.intro
 | @cons p q ps qs h t ih =>
  obtain ⟨h1,h2⟩:=h
  by_cases e:p.1 = k
  ·have e':q.1 = k:=h1.symm.trans e
   have b:valueAt (q :: qs) k = some q.2:=by simp [valueAt,List.find?_cons,e']
   rw [jca e,b]; exact h2
  ·have e':¬ q.1 = k:=fun z=>e (h1.trans z)
   have b:valueAt (q :: qs) k = valueAt qs k:=by simp [valueAt,List.find?_cons,e']
   rw [jcb e,b]; exact ih
theorem KV.any {kvs:List (κ × V)} {vs:List (κ × Value)} (r:KV kvs vs) (k:κ):(kvs.any fun kv=>decide (kv.1 = k)) = vs.any fun kv=>decide (kv.1 = k):=by
 unfold KV at r
 induction r with
 | nil=>rfl
 | cons h t ih=>rw [List.any_cons,List.any_cons,ih,h.1]
theorem KV.repl {kvs:List (κ × V)} {vs:List (κ × Value)} (r:KV kvs vs) (k:κ) {y:V} {u:Value} (ry:RelV y u) :
  KV (kvs.map fun kv=>if kv.1 = k then (kv.1,y) else kv) (vs.map fun kv=>if kv.1 = k then (kv.1,u) else kv):=by
 unfold KV at r ⊢
 induction r with
 | nil=>exact .nil
 | @cons p q ps qs h t ih =>
  rw [List.map_cons,List.map_cons]
  refine .cons ?_ ih
  obtain ⟨h1,h2⟩:=h
  by_cases e:p.1 = k
  ·rw [if_pos e,if_pos (h1.symm.trans e)]; exact ⟨h1,ry⟩
  ·rw [if_neg e,if_neg (fun z=>e (h1.trans z))]; exact ⟨h1,h2⟩
theorem KV.put {kvs:List (κ × V)} {vs:List (κ × Value)} (r:KV kvs vs) (k:κ) {y:V} {u:Value} (ry:RelV y u):KV (putK kvs k y) (stored vs k u):=by
 unfold putK stored
 rw [r.any k]
 by_cases e:(vs.any fun kv=>decide (kv.1 = k)) = true
 ·rw [if_pos e,if_pos e]; exact r.repl k ry
 ·rw [if_neg e,if_neg e]; exact Paired.snoc r ⟨rfl,ry⟩
theorem KV.keys {kvs:List (κ × V)} {vs:List (κ × Value)} (r:KV kvs vs):kvs.map (·.1) = vs.map (·.1):=by
 unfold KV at r
 induction r with
 | nil=>rfl
 | cons h t ih=>rw [List.map_cons,List.map_cons,ih,h.1]
theorem KV.length {kvs:List (κ × V)} {vs:List (κ × Value)} (r:KV kvs vs):kvs.length = vs.length:=Paired.length r
end
theorem jla {P:Program} {w:World} {k:Key} {u:Value} (r:RelV (kV k) u):(jbl P w).is k u = true:=by
 cases k with
 | inl i=>obtain ⟨t,e⟩:=(show ∃ t,u = Value.int i t from r); subst e; exact jl6 P w i t
 | inr x=>obtain ⟨t,e⟩:=(show ∃ t,u = Value.str x t from r); subst e; exact jl5 P w x t
theorem jk1 {P:Program} {w:World}:∀ {ks:List Key} {us:List Value},Vals (ks.map kV) us→ItemsAre (jbl P w) ks us
 | [],_,r=>by rw [List.map_nil] at r; cases r; exact .nil
 | k :: ks,_,r=>by
  rw [List.map_cons] at r
  cases r with
  | cons h t=>exact .cons (jla h) (jk1 t)
abbrev KT (H:Hp):List (List Key × V)→List (List Key × Addr × Value)→Prop:=Paired fun p q=>p.1 = q.1∧H q.2.1 = some (.tup (p.1.map kV))∧RelV p.2 q.2.2
theorem KT.val {H:Hp} {kvs:List (List Key × V)} {xs:List (List Key × Addr × Value)} (r:KT H kvs xs) (k:List Key):RelO (valV kvs k) ((atKey xs k).map (·.2)):=by
 induction r with
 | nil=>exact True.intro
 | @cons p q ps qs h t ih =>
  obtain ⟨h1,_,h2⟩:=h
  by_cases e:p.1 = k
  ·have e':q.1 = k:=h1.symm.trans e
   have b:atKey (q :: qs) k = some q.2:=by simp [atKey,List.find?_cons,e']
   rw [jca e,b]; exact h2
  ·have e':¬ q.1 = k:=fun z=>e (h1.trans z)
   have b:atKey (q :: qs) k = atKey qs k:=by simp [atKey,List.find?_cons,e']
   rw [jcb e,b]; exact ih
theorem KT.repl {H:Hp} {kvs:List (List Key × V)} {xs:List (List Key × Addr × Value)} (r:KT H kvs xs) (k:List Key) {y:V} {u:Value} (ry:RelV y u) :
  KT H (kvs.map fun kv=>if kv.1 = k then (kv.1,y) else kv) (xs.map (putAt k u)):=by
 induction r with
 | nil=>exact .nil
 | @cons p q ps qs h t ih =>
  rw [List.map_cons,List.map_cons]
  refine .cons ?_ ih
  obtain ⟨h1,h2,h3⟩:=h
  unfold putAt
  by_cases e:p.1 = k
  ·rw [if_pos e,if_pos (h1.symm.trans e)]; exact ⟨h1,h2,ry⟩
  ·rw [if_neg e,if_neg (fun z=>e (h1.trans z))]; exact ⟨h1,h2,h3⟩
theorem KT.put {H:Hp} {kvs:List (List Key × V)} {xs:List (List Key × Addr × Value)} (r:KT H kvs xs) (k:List Key) {b:Addr} {y:V} {u:Value} (hb:H b = some (.tup (k.map kV))) (ry:RelV y u) :
  KT H (putK kvs k y) (storedH xs k b u):=by
 have e:(kvs.any fun kv=>decide (kv.1 = k)) = (atKey xs k).isSome:=by
  rw [jei,(r.val k).isSome_eq,Option.isSome_map]
 unfold putK storedH
 rw [e]
 by_cases q:(atKey xs k).isSome = true
 ·rw [if_pos q,if_pos q]; exact r.repl k ry
 ·rw [if_neg q,if_neg q]; exact Paired.snoc r ⟨rfl,hb,ry⟩
theorem KT.keeps {H H':Hp} {kvs:List (List Key × V)} {xs:List (List Key × Addr × Value)} (r:KT H kvs xs) (ht:∀ b ys,H b = some (.tup ys)→H' b = some (.tup ys)):KT H' kvs xs :=
 Paired.mapP r fun _ _ z=>⟨z.1,ht _ _ z.2.1,z.2.2⟩
section
variable {P:Program} {w:World} {H:Hp} {h:Heap} {a:Addr}
theorem rd_of {u:HO} (ok:HOk P w H h) (e:Rd H a u):jc9 P w H h a u:=e.ok ok
theorem jld {kvs:List (Key × V)} (ok:HOk P w H h) (e:Rd H a (.dK kvs)):kvs.length ≤ sizeLine∧(a == sysModules) = false∧∃ vs,KV kvs vs∧h.DictOf (jbl P w) a vs :=
 show jc9 P w H h a (.dK kvs) from rd_of ok e
theorem dk_of {kvs:List (Key × V)} (ok:HOk P w H h) (e:H a = some (.dK kvs)):kvs.length ≤ sizeLine∧(a == sysModules) = false∧∃ vs,KV kvs vs∧h.DictOf (jbl P w) a vs:=jld ok (.inl e)
theorem jgz {ks:List Key} (ok:HOk P w H h) (e:H a = some (.tup (ks.map kV))):(tupleKind (jbl P w)).is h ks a:=by
 obtain ⟨_,its,r,o,h1,h2,n,h3⟩:=(show jc9 P w H h a (.tup (ks.map kV)) from ok a _ e)
 exact ⟨o,its.toArray,n,h1,h2,h3,by simpa using jk1 r⟩
theorem jlc {kvs:List (List Key × V)} (ok:HOk P w H h) (e:Rd H a (.dT kvs)):kvs.length ≤ sizeLine∧(a == sysModules) = false ∧
  ∃ xs,KT H kvs xs∧h.DictOfH (tupleKind (jbl P w)) a xs:=by
 obtain ⟨z,y,xs,r,o,es,ep,h1,h2,h3,h4,h5⟩:=(show jc9 P w H h a (.dT kvs) from rd_of ok e)
 refine ⟨z,y,xs,r,o,es,ep,h1,h2,h3,h4,fun x hx=>?_,h5⟩
 have all:∀ {l:List (List Key × V)} {m:List (List Key × Addr × Value)},KT H l m→∀ x ∈ m,(tupleKind (jbl P w)).is h x.1 x.2.1:=by
  intro l m q
  induction q with
  | nil=>intro x hx; exact nomatch hx
  | @cons p q ps qs hq t ih =>
   intro x hx
   rcases List.mem_cons.mp hx with e | hx
   ·subst e
    exact jgz ok (by rw [← hq.1]; exact hq.2.1)
   ·exact ih x hx
 exact all r x hx
theorem dt_of {kvs:List (List Key × V)} (ok:HOk P w H h) (e:H a = some (.dT kvs)):kvs.length ≤ sizeLine∧(a == sysModules) = false ∧
  ∃ xs,KT H kvs xs∧h.DictOfH (tupleKind (jbl P w)) a xs:=jlc ok (.inl e)
end
def DGet (H:Hp) (a:Addr) (y:V) (r:Option V):Prop :=
 (∃ kvs k,Rd H a (.dK kvs)∧y = kV k∧r = valV kvs k) ∨ ∃ kvs k b,Rd H a (.dT kvs)∧y = .ref b∧H b = some (.tup (k.map kV))∧r = valV kvs k
def DPut (H:Hp) (a:Addr) (y v:V) (H':Hp):Prop :=
 (∃ kvs k,H a = some (.dK kvs)∧y = kV k∧kvs.length < sizeLine∧H' = upd H a (.dK (putK kvs k v))) ∨
 ∃ kvs k b,H a = some (.dT kvs)∧y = .ref b∧H b = some (.tup (k.map kV))∧kvs.length < sizeLine∧H' = upd H a (.dT (putK kvs k v))
theorem DGet.k {H:Hp} {a:Addr} {kvs:List (Key × V)} {k:Key} (e:H a = some (.dK kvs)):DGet H a (kV k) (valV kvs k):=.inl ⟨kvs,k,.inl e,rfl,rfl⟩
theorem DGet.t {H:Hp} {a b:Addr} {kvs:List (List Key × V)} {k:List Key} (e:H a = some (.dT kvs)) (eb:H b = some (.tup (k.map kV))):DGet H a (.ref b) (valV kvs k):=.inr ⟨kvs,k,b,.inl e,rfl,eb,rfl⟩
theorem DPut.k {H:Hp} {a:Addr} {kvs:List (Key × V)} {k:Key} {v:V} (e:H a = some (.dK kvs)) (hl:kvs.length < sizeLine):DPut H a (kV k) v (upd H a (.dK (putK kvs k v))):=.inl ⟨kvs,k,e,rfl,hl,rfl⟩
theorem DPut.t {H:Hp} {a b:Addr} {kvs:List (List Key × V)} {k:List Key} {v:V} (e:H a = some (.dT kvs)) (eb:H b = some (.tup (k.map kV))) (hl:kvs.length < sizeLine) :
  DPut H a (.ref b) v (upd H a (.dT (putK kvs k v))):=.inr ⟨kvs,k,b,e,rfl,eb,hl,rfl⟩
section
variable {X:Cx} {pins:List (Addr × Obj)} {σ:St} {H:Hp} {s:Shared} {a:Addr} {y v:V} {u r:Value} {o:Option V} {A:Around} {E:Value→Shared→Prop}
theorem Inv.big (I:Inv X pins σ H s):sysModules < s.heap.objs.size:=by
 have h:mainGlobals < s.heap.objs.size:=(I.mod.glob.keeps I.bk).lt
 exact Nat.lt_trans (by decide) h
theorem jpr {Q:Value→Shared→Prop} (hu:A.units + 1 < cLine) (I:Inv X pins σ H s) (g:DGet H a y (some v)) (ry:RelV y u) (h:∀ w' s',Inv X pins σ H s'→RelV v w'→Q w' s') :
  wpAny (model X.prog X.w) A (getItem (.ref a) u) Q E s:=by
 rcases g with ⟨kvs,k,e,ey,l⟩ | ⟨kvs,k,b,e,ey,eb,l⟩
 ·subst ey
  obtain ⟨z,hd,vs,rel,dd⟩:=jld I.hok e
  obtain ⟨w',hw,rw'⟩:=RelO.some_of (v:=v) (o:=valueAt vs k) (by rw [l]; exact rel.val k)
  exact wpAny_getItem_of (jla ry) dd.mapOf hw (h w' _ (I.tok _) rw')
 ·subst ey
  cases (show u = Value.ref b from ry)
  obtain ⟨z,hd,xs,rel,dd⟩:=jlc I.hok e
  obtain ⟨w',hw,rw'⟩:=RelO.some_of (v:=v) (o:=(atKey xs k).map (·.2)) (by rw [l]; exact rel.val k)
  obtain ⟨p,hp,hp2⟩:=Option.map_eq_some_iff.mp hw
  refine wpAny_getItem_heap (tupleKind_room_in1 hu) (jgz I.hok eb) dd hp ?_
  rw [hp2]
  exact h w' _ (I.tok _) rw'
theorem d_in {Q:Value→Shared→Prop} (hu:A.units + 1 < cLine) (I:Inv X pins σ H s) (g:DGet H a y o) (ry:RelV y u) (h:∀ s',Inv X pins σ H s'→Q (.bool o.isSome) s') :
  wpAny (model X.prog X.w) A (compareOp .In u (.ref a)) Q E s:=by
 rcases g with ⟨kvs,k,e,ey,l⟩ | ⟨kvs,k,b,e,ey,eb,l⟩
 ·subst ey
  obtain ⟨z,hd,vs,rel,dd⟩:=jld I.hok e
  refine wpAny_in_of (jla ry) hd dd.mapOf ?_
  rw [← (rel.val k).isSome_eq,← l]
  exact h _ (I.tok _)
 ·subst ey
  cases (show u = Value.ref b from ry)
  obtain ⟨z,hd,xs,rel,dd⟩:=jlc I.hok e
  refine wpAny_in_heap (tupleKind_room_in1 hu) (jgz I.hok eb) hd dd ?_
  have q:=(rel.val k).isSome_eq
  rw [Option.isSome_map] at q
  rw [← q,← l]
  exact h _ (I.tok _)
theorem jpq {Q:Value→Shared→Prop} (hu:A.units + 1 < cLine) (I:Inv X pins σ H s) (g:DGet H a y o) (ry:RelV y u) (h:∀ s',Inv X pins σ H s'→Q (.bool (!o.isSome)) s') :
  wpAny (model X.prog X.w) A (compareOp .NotIn u (.ref a)) Q E s:=by
 rcases g with ⟨kvs,k,e,ey,l⟩ | ⟨kvs,k,b,e,ey,eb,l⟩
 ·subst ey
  obtain ⟨z,hd,vs,rel,dd⟩:=jld I.hok e
  refine wpAny_notIn_of (jla ry) hd dd.mapOf ?_
  rw [← (rel.val k).isSome_eq,← l]
  exact h _ (I.tok _)
 ·subst ey
  cases (show u = Value.ref b from ry)
  obtain ⟨z,hd,xs,rel,dd⟩:=jlc I.hok e
  refine wpAny_notIn_heap (tupleKind_room_in1 hu) (jgz I.hok eb) hd dd ?_
  have q:=(rel.val k).isSome_eq
  rw [Option.isSome_map] at q
  rw [← q,← l]
  exact h _ (I.tok _)
theorem jpp {h':Heap} {t':Nat} {ob:HO} (I:Inv X pins σ H s) (mu:Mut (H a)) (hs:Heap.SameBut a s.heap h') (he:∃ q,h'.get? a = some q) (new:jc9 X.prog X.w (upd H a ob) h' a ob) :
  Inv X pins σ (upd H a ob) { s with heap:=h',toks:=t' } :=
 I.write (x:=a) (e:=a) mu (.inl rfl) (fun b q hb z=>(hs.2 b hb).trans z) he new
theorem js0 {P:Program} {w:World} {H':Hp} {h':Heap} {kvs:List (Key × V)} {vs:List (Key × Value)} (z:kvs.length ≤ sizeLine) (hd:(a == sysModules) = false) (rel:KV kvs vs) (dd:h'.DictOf (jbl P w) a vs) :
  jc9 P w H' h' a (.dK kvs):=⟨z,hd,vs,rel,dd⟩
theorem jk7 {H':Hp} {Q:Unit→Shared→Prop} (hu:A.units + 1 < cLine) (I:Inv X pins σ H s) (g:DPut H a y v H') (ry:RelV y u) (rv:RelV v r) (h:∀ s',Inv X pins σ H' s'→Q () s') :
  wpAny (model X.prog X.w) A (setItem (.ref a) u r) Q E s:=by
 rcases g with ⟨kvs,k,e,ey,l,eH⟩ | ⟨kvs,k,b,e,ey,eb,l,eH⟩
 ·subst ey eH
  obtain ⟨z,hd,vs,rel,dd⟩:=dk_of I.hok e
  have hz:vs.length ≤ sizeLine:=by rw [← rel.length]; exact z
  have hl:(putK kvs k v).length ≤ sizeLine:=by have:=jeg kvs k v; omega
  refine wpAny_setItem_pairs (hsz:=hz) (jla ry) dd fun h' dd' hs=>h _ ?_
  have he:∃ q,h'.get? a = some q:=let ⟨q,_,_,hq,_⟩:=dd'; ⟨q,hq⟩
  exact jpp I (by rw [e]; exact True.intro) hs he (js0 hl hd (rel.put k rv) dd')
 ·subst ey eH
  cases (show u = Value.ref b from ry)
  obtain ⟨z,hd,xs,rel,dd⟩:=dt_of I.hok e
  have hz:xs.length ≤ sizeLine:=by rw [← Paired.length rel]; exact z
  have hl:(putK kvs k v).length ≤ sizeLine:=by have:=jeg kvs k v; omega
  refine wpAny_setItem_heap (hsz:=hz) (tupleKind_room_in1 hu) (jgz I.hok eb) dd fun h' dd' hs=>h _ ?_
  obtain ⟨q,es,ep,hq,h2,h3,h4,_,h5⟩:=dd'
  refine jpp I (by rw [e]; exact True.intro) hs ⟨q,hq⟩ ⟨hl,hd,_,(rel.put k eb rv).keeps fun c ys ec=>?_,q,es,ep,hq,h2,h3,h4,h5⟩
  rw [jae (ne_of ec e (fun z=>nomatch z))]
  exact ec
end
section
variable {X:Cx} {pins:List (Addr × Obj)} {σ:St} {H:Hp} {s:Shared} {a:Addr} {kvs:List (Key × V)} {k:Key} {u:Value} {A:Around} {E:Value→Shared→Prop}
end
def NoSl (i:Expr):Prop:=∀ ov iv,subscripted i false ov iv = operate [ov,iv] (getItem ov iv)
theorem js8 {prog:Program} {w:World} {A:Around} {E:Value→Shared→Prop} {s:Shared} {env:Env} {value slice:Expr} {pos:Pos} {T id:String} {Q:Value→Shared→Prop}
  (hl:typeLookup (.type T) "__getitem__" = pure (some (.builtin id))) (hs:NoSl slice)
  (h:wpAny (model prog w) A (eval value env) (fun o s₁=>wpAny (model prog w) A (eval slice env) (fun i s₂=>s₂.TypeIs o T∧wpAny (model prog w) A (getItem o i) Q E s₂) E s₁) E s) :
  wpAny (model prog w) A (eval (.Subscript value slice pos) env) Q E s:=by
 refine Subscript_ (wpAny_mono h (fun o s₁ h₁=>wpAny_mono h₁ (fun i s₂ h₂=>?_) fun _ _ x=>x) fun _ _ x=>x)
 obtain ⟨hT,h₂⟩:=h₂
 unfold subscriptTail
 refine wpAny_bind ?_
 rw [getitemInPython_of_ne hT.not_modules]
 refine wpAny_bind (wpAny_specialOf hT hl ?_)
 have fin:wpAny (model prog w) A (subscripted slice false o i) (fun r s₃=>wpAny (model prog w) A (letTemporaryGo value o r >>= fun _=>pure r) Q E s₃) E s₂:=by
  rw [hs o i]
  exact wpAny_operating (wpAny_mono h₂ (fun r s₃ h₃=>wpAny_bind (wpAny_letTemporaryGo (wpAny_pure h₃))) fun _ _ x=>x)
 first
  | exact wpAny_pure (wpAny_bind fin)
  | exact wpAny_bind (wpAny_pure (wpAny_bind fin))
  | exact wpAny_bind fin
theorem jle {X:Cx} {pins:List (Addr × Obj)} {σ:St} {H:Hp} {s:Shared} {a:Addr} {y:V} {o:Option V} (I:Inv X pins σ H s) (g:DGet H a y o):s.TypeIs (.ref a) "dict":=by
 rcases g with ⟨kvs,k,e,_,_⟩ | ⟨kvs,k,b,e,_,_,_⟩
 ·obtain ⟨_,_,vs,_,dd⟩:=jld I.hok e
  exact dd.typeIs
 ·obtain ⟨_,_,xs,_,dd⟩:=jlc I.hok e
  exact dd.typeIs
def jkm (ty td:TE):TE:=fun σ H Q=>ty σ H fun y H1=>td σ H1 fun x H2=>∃ a o,x = .ref a∧DGet H2 a y o∧Q (.bl (!o.isSome)) H2
def sDPut (td ty tv:TE):TS:=fun D σ H=>tv σ H fun v H1=>td σ H1 fun x H2=>ty σ H2 fun y H3=>∃ a H4,x = .ref a∧DPut H3 a y v H4∧D.nx σ H4
section
variable {X:Cx} {o i e value:Expr} {pos pos' tpos:Pos} {td ty tv:TE}
theorem jjg (hu:X.A.units + 1 < cLine) (hi:PE X i ty) (ho:PE X o td):PC X .NotIn i o (jkm ty td):=by
 intro pins s σ H Q I h
 refine thn (hi pins s σ H _ I h) fun iv s1 ⟨y,H1,I1,ry,q1⟩=>thn (ho pins s1 σ H1 _ I1 q1) fun u s2 ⟨x,H2,I2,rx,a,ov,ex,g,q2⟩=>?_
 subst ex
 obtain rfl:u = Value.ref a:=rx
 exact jpq hu I2 g ry fun s3 I3=>⟨.bl (!ov.isSome),H2,I3,rfl,q2⟩
theorem jo9 (hu:X.A.units + 1 < cLine) (ho:PE X o td) (hi:PE X i ty) (hv:PE X value tv) (hs:swapsWith value (some (.Subscript o i pos')) pos.line X.env = pure false) :
  PS X (.Assign [.Subscript o i pos'] value pos) (sDPut td ty tv):=by
 intro pins s σ H D I h
 refine wpAny_Assign_Subscript (thn (hv pins s σ H _ I h) fun r s1 ⟨v,H1,I1,rv,q1⟩=>thn (ho pins s1 σ H1 _ I1 q1) fun u s2 ⟨x,H2,I2,rx,q2⟩=>thn (hi pins s2 σ H2 _ I2 q2) fun iv s3 ⟨y,H3,I3,ry,a,H4,ex,g,q3⟩=>?_) hs
 subst ex
 obtain rfl:u = Value.ref a:=rx
 exact jk7 hu I3 g ry rv fun s4 I4=>⟨σ,H4,I4,q3⟩
end
theorem jr5 {P:Program} {w:World} {H:Hp} (h:Heap) (hb:sysModules < h.objs.size):jc9 P w H (h.push { cls:=.type "dict",data:=.dict #[] }) h.objs.size (.dK []) :=
 ⟨Nat.zero_le _,beq_eq_false_iff_ne.mpr (Ne.symm (Nat.ne_of_lt hb)),[],.nil,Heap.DictOf.new h⟩
theorem jr4 {P:Program} {w:World} {H:Hp} (h:Heap) (hb:sysModules < h.objs.size):jc9 P w H (h.push { cls:=.type "dict",data:=.dict #[] }) h.objs.size (.dT []) :=
 ⟨Nat.zero_le _,beq_eq_false_iff_ne.mpr (Ne.symm (Nat.ne_of_lt hb)),[],.nil,_,#[],0,Heap.get?_push_size _ rfl,⟨rfl,rfl,rfl⟩,rfl,rfl,List.nodup_nil⟩
def jnf:TE:=fun _ H Q=>∀ p,H p = none→Q (.ref p) (upd H p (.dK []))
def tDNewT:TE:=fun _ H Q=>∀ p,H p = none→Q (.ref p) (upd H p (.dT []))
section
variable {X:Cx} {pos:Pos}
theorem jdy:PE X (.Dict [] [] pos) jnf:=fun pins s σ H Q I h =>
 wpAny_Dict_empty ⟨.ref s.heap.objs.size,_,I.laid (a:=s.heap.objs.size) (o:=.dK []) (t':=s.toks) (fun _ _ q=>Heap.get?_push_of_some _ q) (Nat.le_refl _) (jr5 s.heap I.big),rfl,h _ (I.hok.fresh (Nat.le_refl _))⟩
theorem jqk:PE X (.Dict [] [] pos) tDNewT:=fun pins s σ H Q I h =>
 wpAny_Dict_empty ⟨.ref s.heap.objs.size,_,I.laid (a:=s.heap.objs.size) (o:=.dT []) (t':=s.toks) (fun _ _ q=>Heap.get?_push_of_some _ q) (Nat.le_refl _) (jr4 s.heap I.big),rfl,h _ (I.hok.fresh (Nat.le_refl _))⟩
end
structure M1 (X:Cx) (o:Expr) (m:Str) (apos:Pos) (e:Expr) (cpos:Pos):Prop where
 base:attributeBase o m X.env (eval o X.env) = eval o X.env
 few:((backTo cpos (starEach [e] X.env)).all (fun x=>!x.1) && (backToKw cpos (keywordEach [] X.env)).all (fun x=>x.1.isSome)
  && decide (([e]:List Expr).length + ([]:List Keyword).length + (if ([]:List Keyword).isEmpty then 0 else 1) < 30)) = true
 line:(apos.endLine == cpos.line) = true
 trees:backTo cpos (starEach [e] X.env) = [(false,eval e X.env)]
structure M2 (X:Cx) (o:Expr) (m:Str) (apos:Pos) (e f:Expr) (cpos:Pos):Prop where
 base:attributeBase o m X.env (eval o X.env) = eval o X.env
 few:((backTo cpos (starEach [e,f] X.env)).all (fun x=>!x.1) && (backToKw cpos (keywordEach [] X.env)).all (fun x=>x.1.isSome)
  && decide (([e,f]:List Expr).length + ([]:List Keyword).length + (if ([]:List Keyword).isEmpty then 0 else 1) < 30)) = true
 line:(apos.endLine == cpos.line) = true
 trees:backTo cpos (starEach [e,f] X.env) = [(false,eval e X.env),(false,eval f X.env)]
def IsD (H:Hp) (a:Addr):Prop:=(∃ kvs,Rd H a (.dK kvs)) ∨ ∃ kvs,Rd H a (.dT kvs)
theorem jrt {X:Cx} {pins:List (Addr × Obj)} {σ:St} {H:Hp} {s:Shared} {a:Addr} (I:Inv X pins σ H s) (d:IsD H a) :
  s.TypeIs (.ref a) "dict"∧(∀ b,Value.ref a = .ref b→∃ ob,s.heap.get? b = some ob∧ob.dict = none)∧(a == sysModules) = false:=by
 rcases d with ⟨kvs,e⟩ | ⟨kvs,e⟩
 ·obtain ⟨_,hd,vs,_,dd⟩:=jld I.hok e
  refine ⟨dd.typeIs,fun b q=>?_,hd⟩
  cases q
  obtain ⟨ob,_,_,h1,h2,_⟩:=dd
  exact ⟨ob,h1,h2.2.1⟩
 ·obtain ⟨_,hd,xs,_,dd⟩:=jlc I.hok e
  refine ⟨dd.typeIs,fun b q=>?_,hd⟩
  cases q
  obtain ⟨ob,_,_,h1,h2,_⟩:=dd
  exact ⟨ob,h1,h2.2.1⟩
section
variable {X:Cx} {pins:List (Addr × Obj)} {σ:St} {H:Hp} {s:Shared} {a:Addr} {y d:V} {u r:Value} {o:Option V} {A:Around} {E:Value→Shared→Prop}
theorem d_get2 {Q:Value→Shared→Prop} (hu:A.units + 1 < cLine) (I:Inv X pins σ H s) (g:DGet H a y o) (ry:RelV y u) (rd:RelV d r) (h:∀ w' s',Inv X pins σ H s'→RelV (o.getD d) w'→Q w' s') :
  wpAny (model X.prog X.w) A (call (.builtin "dict.get") [.ref a,u,r]) Q E s:=by
 rcases g with ⟨kvs,k,e,ey,l⟩ | ⟨kvs,k,b,e,ey,eb,l⟩
 ·subst ey
  obtain ⟨z,hd,vs,rel,dd⟩:=jld I.hok e
  refine call_meetsIn PySem.F.slot_dict_get dd.typeIs PySem.F.entry_dict_get (PySem.F.args_dict_get_3 _ _ _) (meets_dict_get_default (jbl X.prog X.w) a (jla ry) hd r) ⟨_,dd.mapOf,h _ _ (I.tok _) ?_⟩
  rw [l]
  exact (rel.val k).getD rd
 ·subst ey
  cases (show u = Value.ref b from ry)
  obtain ⟨z,hd,xs,rel,dd⟩:=jlc I.hok e
  refine call_meetsIn PySem.F.slot_dict_get dd.typeIs PySem.F.entry_dict_get (PySem.F.args_dict_get_3 _ _ _) (meetsH_dict_get_default (tupleKind (jbl X.prog X.w)) a b hd r) ⟨tupleKind_room_in1 hu,k,xs,jgz I.hok eb,dd,h _ _ (I.tok _) ?_⟩
  rw [l]
  exact (rel.val k).getD rd
end
section
variable {X:Cx} {o e f:Expr} {apos cpos:Pos} {td ty tx:TE}
end
section
variable {X:Cx} {pins:List (Addr × Obj)} {σ:St} {H:Hp} {s:Shared} {a:Addr} {kvs:List (Key × V)} {A:Around} {E:Value→Shared→Prop}
end
section
variable {X:Cx} {pins:List (Addr × Obj)} {σ:St} {H:Hp} {s:Shared} {a:Addr} {y:V} {u:Value} {A:Around} {E:Value→Shared→Prop}
end
end L2
namespace L2
open PySem PySem.Spec PyProof.Rows
section
variable {κ:Type} [DecidableEq κ]
end
end L2
namespace L2
open PySem PySem.Spec PyProof.Rows
def jci (env:Env):List (Str × NameKind)→List (Str × Addr)→List (Str × Addr)
 | [],acc=>acc
 | (n,k) :: r,acc=>jci env r (if k == .free then (n,(env.cells.lookup n).getD 0) :: acc else acc)
theorem jde {scope:Scope} {env:Env} (h:∀ y ∈ scope.names,y.2 = .free→∃ c,env.cells.lookup y.1 = some c) :
    closureFor scope env = pure (jci env scope.names []):=by
  have key:∀ (l:List (Str × NameKind)) (acc:List (Str × Addr)),(∀ y ∈ l,y.2 = .free→∃ c,env.cells.lookup y.1 = some c) →
      (forIn l acc fun (x:Str × NameKind) (r:List (Str × Addr)) =>
        (if x.2 == NameKind.free then do
          let c ← cellOf env x.1
          pure (ForInStep.yield ((x.1,c) :: r))
        else pure (ForInStep.yield r):Sem (ForInStep (List (Str × Addr))))) = pure (jci env l acc):=by
    intro l
    induction l with
    | nil=>intro acc _; rfl
    | cons y r ih =>
      intro acc hy
      obtain ⟨n,k⟩:=y
      rw [List.forIn_cons]
      by_cases hk:k = .free
      · subst hk
        obtain ⟨c,hc⟩:=hy (n,.free) List.mem_cons_self rfl
        have e1:cellOf env n = pure c:=by unfold cellOf; rw [hc]
        simp only [beq_self_eq_true,if_true]
        rw [e1]
        show (pure c >>= fun c=>pure (ForInStep.yield ((n,c) :: acc))) >>= _ = _
        have e2:jci env ((n,NameKind.free) :: r) acc = jci env r ((n,c) :: acc):=by
          have hc':env.cells.lookup n = some c:=hc
          show jci env r (if (NameKind.free == NameKind.free) = true then (n,(env.cells.lookup n).getD 0) :: acc else acc) = _
          rw [hc']
          rfl
        rw [e2]
        exact ih _ fun z hz=>hy z (List.mem_cons_of_mem _ hz)
      · have hb:(k == NameKind.free) = false:=by simpa using hk
        simp only [hb,Bool.false_eq_true,if_false]
        have e2:jci env ((n,k) :: r) acc = jci env r acc:=by
          show jci env r (if (k == NameKind.free) = true then _ else acc) = _
          rw [hb]; rfl
        rw [e2]
        exact ih _ fun z hz=>hy z (List.mem_cons_of_mem _ hz)
  unfold closureFor
  have e:=key scope.names [] h
  have e3:∀ (f:Str × NameKind→List (Str × Addr)→Sem (ForInStep (List (Str × Addr)))),(f = fun x r=>(if x.2 == NameKind.free then do
          let c ← cellOf env x.1
          pure (ForInStep.yield ((x.1,c) :: r))
        else pure (ForInStep.yield r)))→(forIn scope.names [] f >>= fun r=>pure r) = (pure (jci env scope.names []):Sem (List (Str × Addr))):=by
    intro f hf
    rw [hf,e]
    rfl
  exact e3 _ rfl
theorem jf1 {env:Env} {x:Str}:∀ (l:List (Str × NameKind)) (acc:List (Str × Addr)) (c:Addr),(jci env l acc).lookup x = some c →
  ((∃ y ∈ l,y.1 = x∧y.2 = .free)∧(env.cells.lookup x).getD 0 = c) ∨ acc.lookup x = some c
 | [],acc,c,h=>.inr h
 | (n,k) :: r,acc,c,h=>by
  rcases jf1 r _ c h with ⟨⟨y,hy,e⟩,q⟩ | q
  ·exact .inl ⟨⟨y,List.mem_cons_of_mem _ hy,e⟩,q⟩
  ·by_cases hk:k = .free
   ·subst hk
    have q':List.lookup x ((n,(env.cells.lookup n).getD 0) :: acc) = some c:=q
    rw [List.lookup_cons] at q'
    cases hx:x == n with
    | true =>
     rw [hx] at q'
     have hx':x = n:=by simpa using hx
     subst hx'
     exact .inl ⟨⟨_,List.mem_cons_self,rfl,rfl⟩,Option.some.inj q'⟩
    | false=>rw [hx] at q'; exact .inr q'
   ·have hb:(k == NameKind.free) = false:=by simpa using hk
    rw [hb] at q
    exact .inr q
theorem jfi {env:Env} {x:Str}:∀ (l:List (Str × NameKind)) (acc:List (Str × Addr)),((∃ y ∈ l,y.1 = x∧y.2 = .free) ∨ (acc.lookup x).isSome)→((jci env l acc).lookup x).isSome
 | [],acc,h=>by
  rcases h with ⟨y,hy,_⟩ | h
  ·cases hy
  ·exact h
 | (n,k) :: r,acc,h=>by
  show ((jci env r (if (k == NameKind.free) = true then _ else acc)).lookup x).isSome
  refine jfi r _ ?_
  rcases h with ⟨y,hy,e1,e2⟩ | h
  ·rcases List.mem_cons.mp hy with rfl | hy
   ·have e2':k = .free:=e2
    have e1':n = x:=e1
    subst e2' e1'
    refine .inr ?_
    simp [List.lookup_cons]
   ·exact .inl ⟨y,hy,e1,e2⟩
  ·refine .inr ?_
   split
   ·rw [List.lookup_cons]
    split
    ·rfl
    ·exact h
   ·exact h
structure CpScope (X:Cx) (scope:Scope) (N:List Str) (src:List (Option Nat)):Prop where
 kind:scope.kind = .function
 nocell:∀ y ∈ scope.names,y.2 ≠ .cell
 locs:∀ y ∈ scope.names,y.2 = .local→scope.names.lookup y.1 = some .local
 frees:∀ y ∈ scope.names,y.2 = .free→scope.names.lookup y.1 = some .free∧X.env.scope.names.lookup y.1 = some .cell
 nd:N.Nodup
 len:src.length = N.length
 cap:∀ (i j:Nat),src[i]? = some (some j)→X.N[j]? = N[i]?∧(N[i]?).elim False (fun x=>scope.names.lookup x = some .free)
def cst (src:List (Option Nat)) (σ:St):St:=src.map fun o=>o.bind fun j=>(σ[j]?).join
theorem jcz {env:Env} (hk:env.scope.kind = .function):∀ {names:List (Str × NameKind)} {x:Str},names.lookup x = some .free→env.kindOf x = some .cell →
  (names.map fun (n,k)=>if (k == NameKind.free && env.scope.kind == .function && env.kindOf n == some .cell) then (n,NameKind.cell) else (n,k)).lookup x = some .cell
 | [],_,h,_=>by simp at h
 | (n,k) :: r,x,h,hc=>by
  have ih:=@jcz env hk r x
  show List.lookup x ((if (k == NameKind.free && env.scope.kind == .function && env.kindOf n == some .cell) = true then (n,NameKind.cell) else (n,k)) :: _) = _
  cases hx:x == n with
  | true =>
   simp only [List.lookup_cons,hx] at h
   cases h
   have hx':x = n:=by simpa using hx
   subst hx'
   rw [if_pos (by rw [hk,hc]; rfl)]
   simp [List.lookup_cons]
  | false =>
   simp only [List.lookup_cons,hx] at h
   by_cases hq:(k == NameKind.free && env.scope.kind == .function && env.kindOf n == some .cell) = true
   ·rw [if_pos hq]; simp only [List.lookup_cons,hx]; exact ih h hc
   ·rw [if_neg hq]; simp only [List.lookup_cons,hx]; exact ih h hc
theorem jcc {env:Env}:∀ {names:List (Str × NameKind)} {x:Str} {k':NameKind},
  (names.map fun (n,k)=>if (k == NameKind.free && env.scope.kind == .function && env.kindOf n == some .cell) then (n,NameKind.cell) else (n,k)).lookup x = some k' →
   names.lookup x = some k' ∨ (names.lookup x = some .free∧k' = .cell)
 | [],_,_,h=>by simp at h
 | (n,k) :: r,x,k',h=>by
  have ih:=@jcc env r x k'
  have h:List.lookup x ((if (k == NameKind.free && env.scope.kind == .function && env.kindOf n == some .cell) = true then (n,NameKind.cell) else (n,k)) :: _) = _:=h
  cases hx:x == n with
  | true =>
   by_cases hq:(k == NameKind.free && env.scope.kind == .function && env.kindOf n == some .cell) = true
   ·rw [if_pos hq] at h
    have h1:=h
    simp only [List.lookup_cons,hx]
    have:k = .free:=by
     have:=(Bool.and_eq_true _ _ ▸ (Bool.and_eq_true _ _ ▸ hq).1).1
     simpa using this
    subst this
    refine .inr ⟨rfl,?_⟩
    have h2:List.lookup x ((n,NameKind.cell) :: (r.map fun (n,k)=>if (k == NameKind.free && env.scope.kind == .function && env.kindOf n == some .cell) then (n,NameKind.cell) else (n,k))) = some k':=h1
    simp only [List.lookup_cons,hx] at h2
    exact (Option.some.inj h2).symm
   ·rw [if_neg hq] at h
    simp only [List.lookup_cons,hx] at h ⊢
    exact .inl h
  | false =>
   have h':List.lookup x (r.map fun (n,k)=>if (k == NameKind.free && env.scope.kind == .function && env.kindOf n == some .cell) then (n,NameKind.cell) else (n,k)) = some k':=by
    by_cases hq:(k == NameKind.free && env.scope.kind == .function && env.kindOf n == some .cell) = true
    ·rw [if_pos hq] at h
     simpa only [List.lookup_cons,hx] using h
    ·rw [if_neg hq] at h
     simpa only [List.lookup_cons,hx] using h
   simp only [List.lookup_cons,hx]
   exact ih h'
def Cx.block (X:Cx) (scope:Scope) (N:List Str) (fp:List Addr) (s₀:Shared) (H₀:Hp) (C:Addr):Cx where
 prog:=X.prog
 w:=X.w
 K:=X.K
 mg:=X.mg
 base:=X.base
 A:=X.A
 N:=N
 s₀:=s₀
 H₀:=H₀
 env:=compEnvC scope (jci X.env scope.names []) C X.env
 outer:=X.stack
 stack:=X.stack
 ex:=fp
 calm:=X.calm
 fn:=fun _=>false
 pn:=[]
 xe:=fun _ _=>False
theorem jp8 {o:Option (Option V)} {v:V} (h:o.join = some v):o = some (some v):=by
 cases o with
 | none=>cases h
 | some z=>cases z with
  | none=>cases h
  | some z=>rw [show z = v from Option.some.inj h]
theorem Inv.enter {X:Cx} {scope:Scope} {N:List Str} {src:List (Option Nat)} {pins:List (Addr × Obj)} {σ:St} {H:Hp} {s s4:Shared} {fp:List Addr} (S:CpScope X scope N src) (I:Inv X pins σ H s)
  (f2:∀ b ∈ fp,FpOk X pins H b) (lt:∀ b ∈ fp,b < s.heap.objs.size) (hns:s4.heap.Ns s.heap.objs.size fun _=>none) (hk:∀ b o,s.heap.get? b = some o→s4.heap.get? b = some o) (hos:s4.os = s.os) (hg:s4.gens = s.gens) :
  Inv (X.block scope N fp s H s.heap.objs.size) [] (cst src σ) H s4:=by
 have cells:∀ x c,(jci X.env scope.names []).lookup x = some c→X.env.cells.lookup x = some c:=fun x c e=>by
  rcases jf1 _ _ _ e with ⟨⟨y,hy,e1,e2⟩,q⟩ | q
  ·obtain ⟨c',hc'⟩:=I.ok.has y.1 (.inl (S.frees y hy e2).2)
   rw [e1] at hc'
   rw [hc'] at q ⊢
   exact congrArg some q
  ·cases q
 refine ⟨⟨I.mod,S.kind,I.ok.glob,I.ok.blt,Nat.le_refl _,fun x y c h1 h2=>I.ok.inj x y c (cells x c h1) (cells y c h2),fun x hx=>?_,fun x c h=>absurd (show false = true from h) Bool.false_ne_true,I.ok.hd,I.ok.frames,.inl rfl,fun b hb=>?_,I.bs,
   Nat.le_trans I.ok.bsz I.sz,fun b o e hb=>?_,fun b hb z=>?_,I.stack,I.stkFree⟩,hos,?_,Un.kept hk,⟨fun _=>none,hns,fun i x v h1 h2 h3=>?_⟩,fun x c e=>?_,I.fresh,fun x c e=>I.freeC x c (cells x c e),fun p hp=>?_,I.hok.kept hk,?_⟩
 ·have hx':(scope.names.map fun (n,k)=>if (k == NameKind.free && X.env.scope.kind == .function && X.env.kindOf n == some .cell) then (n,NameKind.cell) else (n,k)).lookup x = some .cell ∨ (scope.names.map fun (n,k)=>if (k == NameKind.free && X.env.scope.kind == .function && X.env.kindOf n == some .cell) then (n,NameKind.cell) else (n,k)).lookup x = some .free:=hx
  have hf:scope.names.lookup x = some .free:=by
   rcases hx' with h | h
   ·rcases jcc h with h | h
    ·exact absurd rfl (S.nocell _ (PySem.mem_of_lookup h))
    ·exact h.1
   ·rcases jcc h with h | h
    ·exact h
    ·cases h.2
  have hsome:=jfi (env:=X.env) (x:=x) scope.names [] (.inl ⟨_,PySem.mem_of_lookup hf,rfl,rfl⟩)
  exact Option.isSome_iff_exists.mp hsome
 ·exact ⟨Nat.ne_of_lt (lt b hb),fun x c e=>(f2 b hb).2.2.2.2.1 x c (cells x c e)⟩
 ·have hb':b ∈ fp:=hb
  rcases (f2 b hb').2.2.2.1 with z | z
  ·exact I.ok.noex b o e z
  ·exact absurd (Nat.lt_of_lt_of_le (Heap.lt_size e) (Nat.le_trans I.ok.bsz z)) (Nat.lt_irrefl _)
 ·have hb':b ∈ fp:=hb
  have z':b ∈ frs X.stack:=z
  rcases List.mem_cons.mp (I.stkSub b z') with e | e
  ·exact (f2 b hb').2.1 e
  ·exact (f2 b hb').2.2.1 e
 ·rw [hg]; exact I.bare
 ·have h2':(src.map fun o=>o.bind fun j=>(σ[j]?).join)[i]? = some (some v):=h2
  rw [List.getElem?_map] at h2'
  cases e:src[i]? with
  | none=>rw [e] at h2'; cases h2'
  | some o =>
   rw [e] at h2'
   cases o with
   | none=>cases h2'
   | some j =>
    have h4:(σ[j]?).join = some v:=Option.some.inj h2'
    have h5:=jp8 h4
    obtain ⟨c1,c2⟩:=S.cap i j e
    have h1':N[i]? = some x:=h1
    rw [h1'] at c1 c2
    have c2':scope.names.lookup x = some .free:=c2
    have c3:=(S.frees _ (PySem.mem_of_lookup c2') rfl).2
    obtain ⟨m,hn,hl⟩:=I.loc
    obtain ⟨u,r,l⟩:=hl j x v c1 h5 (.inr (.inl c3))
    refine ⟨u,r,?_⟩
    have c3':X.env.kindOf x = some .cell:=c3
    rcases l with ⟨k,_⟩ | ⟨_,c,e1,z⟩
    ·rw [c3'] at k; cases k
    ·refine .inr ⟨.inl (jcz I.ok.kind c2' c3'),c,?_,?_⟩
     ·have hs:=jfi (env:=X.env) (x:=x) scope.names [] (.inl ⟨_,PySem.mem_of_lookup c2',rfl,rfl⟩)
      obtain ⟨c',hc'⟩:=Option.isSome_iff_exists.mp hs
      have:=cells x c' hc'
      rw [e1] at this
      cases this
      exact hc'
     ·obtain ⟨o,ho,hd⟩:=z
      exact ⟨o,hk c o ho,hd⟩
 ·obtain ⟨v,o,ho,hd⟩:=I.cell x c (cells x c e)
  exact ⟨v,o,hk c o ho,hd⟩
 ·exact absurd (show p ∈ ([]:List (Addr × Obj)) from hp) (by simp)
 ·show (src.map _).length = N.length
  rw [List.length_map]
  exact S.len
def PIf (X:Cx) (ifs:List Expr) (t:TT):Prop :=
 ∀ (pins:List (Addr × Obj)) (s:Shared) (σ:St) (H:Hp) (Q:Bool→Hp→Prop),Inv X pins σ H s→t σ H Q →
  wpAny (model X.prog X.w) X.A (forIn ifs true fun c r=>if r = true then do let ok ← isTrue c X.env (eval c X.env); pure (ForInStep.yield ok) else pure (ForInStep.yield r)) (TP X pins σ Q) X.xe s
def js6:TT:=fun _ H Q=>Q true H
theorem jc3 {X:Cx}:PIf X [] js6:=fun pins s σ H Q I h=>wpAny_tests_nil ⟨H,I,h⟩
theorem jd4 {X:Cx} {c:Expr} {t:TT} (h:PT X c t):PIf X [c] t:=fun pins s σ H Q I hq=>wpAny_tests_one (h pins s σ H Q I hq)
def jq6 (J:It) (src:List (Option Nat)) (g:TG) (tc:TT) (te:TE) (Q:VK) (σ:St) (H:Hp) (l:Addr):Prop :=
 ∃ W:Nat→Nat→St→Hp→Prop,(∃ m,W 0 m (cst src σ) (upd H l (.lst [])))∧∀ i m σ' H,W i m σ' H →
  (J.stop i H∧Q (.ref l) H) ∨ (J.go i H∧∃ N:St→Hp→Prop,(∀ σ' H',N σ' H'→∃ m',m' < m∧W (i + 1) m' σ' H')∧∀ x H',J.yld i H x H'→g x σ' H' fun σ2 H2=>tc σ2 H2 fun b H3 =>
   if b = true then te σ2 H3 fun v H4=>∃ xs,H4 l = some (.lst xs)∧xs.length < sizeLine∧N σ2 (upd H4 l (.lst (xs ++ [v]))) else N σ2 H3)
theorem jay {J:It} {src:List (Option Nat)} {g:TG} {tc:TT} {te:TE} {Q:VK} {σ:St} {H:Hp} {l:Addr} (n:Nat) (Iv:Nat→St→Hp→Prop) (h0:Iv 0 (cst src σ) (upd H l (.lst [])))
  (hs:∀ i σ' Hc,i < n→Iv i σ' Hc→J.go i Hc∧∀ x H',J.yld i Hc x H'→g x σ' H' fun σ2 H2=>tc σ2 H2 fun b H3 =>
   if b = true then te σ2 H3 fun v H4=>∃ xs,H4 l = some (.lst xs)∧xs.length < sizeLine∧Iv (i + 1) σ2 (upd H4 l (.lst (xs ++ [v]))) else Iv (i + 1) σ2 H3)
  (hd:∀ σ' Hc,Iv n σ' Hc→J.stop n Hc∧Q (.ref l) Hc):jq6 J src g tc te Q σ H l:=by
 refine ⟨fun i m σ' Hc=>m = n - i∧i ≤ n∧Iv i σ' Hc,⟨n,by simp,Nat.zero_le _,h0⟩,?_⟩
 rintro i m σ' Hc ⟨rfl,hi,p⟩
 by_cases hlt:i < n
 ·obtain ⟨go,step⟩:=hs i σ' Hc hlt p
  exact .inr ⟨go,Iv (i + 1),fun σ2 H2 p'=>⟨n - (i + 1),by omega,rfl,hlt,p'⟩,step⟩
 ·have e:i = n:=by omega
  subst e
  exact .inl (hd σ' Hc p)
theorem jka {X:Cx} {elt tg iter:Expr} {ifs:List Expr} {scope:Scope} {pos:Pos} {N:List Str} {src:List (Option Nat)} {g:TG} {tc:TT} {te:TE} {pins:List (Addr × Obj)} {σ:St} {H2:Hp} {s2:Shared}
  {fp:List Addr} {it:Addr} {tn:Nat→Heap→Prop} {J:It} {Q:VK} {E:Value→Shared→Prop} {RR:Value→Addr→Result→Shared→Prop} (S:CpScope X scope N src) (hc:X.calm = true)
  (hg:∀ fp s₀ H₀ C,PG (X.block scope N fp s₀ H₀ C) tg g) (ht:∀ fp s₀ H₀ C,PIf (X.block scope N fp s₀ H₀ C) ifs tc) (he:∀ fp s₀ H₀ C,PE (X.block scope N fp s₀ H₀ C) elt te)
  (I2:Inv X pins σ H2 s2) (T:Turn X.prog X.w X.K tg J fp it tn) (st2:tn 0 s2.heap) (f2:∀ b ∈ fp,FpOk X pins H2 b) (hw:∀ l,H2 l = none→jq6 J src g tc te Q σ H2 l)
  (hRR:∀ l C H' s',Inv X pins σ H' s'→(∃ m,s'.heap.Ns C m)→FpOk X pins H' C→Q (.ref l) H'→RR (.ref l) C (.ok .next) s') :
  wpAny (model X.prog X.w) X.A (newList []) (fun acc s₃=>wpAny (model X.prog X.w) X.A (newFunctionEnv scope X.env.globals (jci X.env scope.names []) [] X.env.qual none .none (some X.env)) (fun cenv s₄ =>
   codeAny (model X.prog X.w) X.A (.compStart (.ListComp elt [⟨tg,iter,ifs,0⟩] scope pos) 0 (.ref it) acc { cenv with scope:=relabel scope X.env }) (RR acc cenv.locals) s₄) E s₃) E s2:=by
 have hl0:H2 s2.heap.objs.size = none:=I2.fresh
 have I3:Inv X pins σ (upd H2 s2.heap.objs.size (.lst [])) { s2 with heap:=s2.heap.push { cls:=.type "list",data:=.seq ([]:List Value).toArray } }:=I2.lnew (ys:=[]) (its:=[]) (t':=s2.toks) .nil (Nat.zero_le _)
 have ltf:∀ b ∈ fp,b < s2.heap.objs.size:=fun b hb=>by
  obtain ⟨o,e,_⟩:=T.obj _ _ st2 b hb
  exact Heap.lt_size e
 have f3:∀ b ∈ fp,FpOk X pins (upd H2 s2.heap.objs.size (.lst [])) b:=fun b hb=>⟨by rw [jae (Nat.ne_of_lt (ltf b hb))]; exact (f2 b hb).1,(f2 b hb).2⟩
 obtain ⟨W,⟨m0,w0⟩,turn⟩:=hw _ hl0
 refine wpAny_newObj_type (wpAny_newFunctionEnv S.nocell (by intro y hy; simp at hy) (fun h₁ hns₁ hsb₁=>?_) S.kind)
 dsimp only at hns₁ hsb₁ ⊢
 revert I3 f3
 intro I3 f3
 have st1:tn 0 (s2.heap.push { cls:=.type "list",data:=.seq ([]:List Value).toArray }):=T.keep _ _ _ st2 fun b hb o e=>Heap.get?_push_of_some _ e
 have lt3:∀ b ∈ fp,b < (s2.heap.push { cls:=.type "list",data:=.seq ([]:List Value).toArray }).objs.size:=fun b hb=>by rw [Heap.size_push]; exact Nat.lt_succ_of_lt (ltf b hb)
 generalize hH:s2.heap.push { cls:=.type "list",data:=.seq ([]:List Value).toArray } = h3 at I3 st1 lt3 hns₁ hsb₁ ⊢
 have hk:∀ b o,h3.get? b = some o→h₁.get? b = some o:=fun b o e=>hsb₁.extBut b o (Nat.ne_of_lt (Heap.lt_size e)) (Heap.get?_push_of_some _ e)
 have Ib:Inv (X.block scope N fp { s2 with heap:=h3 } (upd H2 s2.heap.objs.size (.lst [])) h3.objs.size) [] (cst src σ) (upd H2 s2.heap.objs.size (.lst [])) { s2 with heap:=h₁,toks:=s2.toks + ([]:List (Str × Value)).length } :=
  Inv.enter (s:={ s2 with heap:=h3 }) S I3 f3 lt3 hns₁ hk rfl rfl
 have fpB:∀ {H':Hp},(∀ b ∈ fp,H' b = none)→∀ b ∈ fp,FpOk (X.block scope N fp { s2 with heap:=h3 } (upd H2 s2.heap.objs.size (.lst [])) h3.objs.size) [] H' b:=fun hn b hb =>
  ⟨hn b hb,(Ib.ok.exf b hb).1,Ib.ok.exfs b hb,.inl hb,(Ib.ok.exf b hb).2,fun p hp=>absurd (show p ∈ ([]:List (Addr × Obj)) from hp) (by simp)⟩
 have tn1:tn 0 h₁:=T.keep _ _ _ st1 fun b _ o e=>hk b o e
 have loop:∀ s₃:Shared,s₃ = { s2 with heap:=h₁,toks:=s2.toks + ([]:List (Str × Value)).length } →
   codeAny (model X.prog X.w) X.A (.compLoop (.ListComp elt [⟨tg,iter,ifs,0⟩] scope pos) 0 (.ref it) (.ref s2.heap.objs.size) (compEnvC scope (jci X.env scope.names []) h3.objs.size X.env))
    (RR (.ref s2.heap.objs.size) h3.objs.size) s₃:=by
  rintro s₃ rfl
  refine codeAny_loop rfl (fun n s'=>∃ i σ' H',Inv (X.block scope N fp { s2 with heap:=h3 } (upd H2 s2.heap.objs.size (.lst [])) h3.objs.size) [] σ' H' s'∧tn i s'.heap∧(∀ b ∈ fp,H' b = none)∧W i n σ' H') ?_ m0
   ⟨0,_,_,Ib,tn1,fun b hb=>(f3 b hb).1,w0⟩
  rintro n s5 ⟨i,σ5,H5,I5,st5,fr5,w5⟩
  show wpAny _ X.A ((compTurn (.ListComp elt [⟨tg,iter,ifs,0⟩] scope pos) 0 (.ref it) (.ref s2.heap.objs.size) (compEnvC scope (jci X.env scope.names []) h3.objs.size X.env)).onRaise (fun x=>do noteFrame x (compEnvC scope (jci X.env scope.names []) h3.objs.size X.env); theTreesLotGoes x)) _ _ s5
  refine wpAny_noted ?_
  rw [compTurn_list]
  refine wpAny_bind (wpAny_standAt (wpAny_bind ?_))
  rcases turn i n σ5 H5 w5 with ⟨stop,qn⟩ | ⟨go,N',hN',step⟩
  ·refine thn (T.done (X.block scope N fp { s2 with heap:=h3 } (upd H2 s2.heap.objs.size (.lst [])) h3.objs.size) rfl rfl rfl hc i [] s5 σ5 H5 _ I5 (fpB fr5) st5 stop) fun r s6 ⟨hr,I6⟩=>?_
   subst hr
   refine wpAny_pure ?_
   have u6:Un (frs X.stack) fp (upd H2 s2.heap.objs.size (.lst [])) H5 h3 s6.heap:=I6.base
   have hf6:H5 h3.objs.size = none:=I6.free
   have I7:Inv X pins σ H5 s6:=I3.call' (ch:=fp) I6.os u6 I6.hok I6.bare fun b hb=>⟨(f3 b hb).2.2.2.1,(f3 b hb).2.1,(f3 b hb).2.2.2.2.1,(f3 b hb).2.2.2.2.2⟩
   obtain ⟨m,hm,_⟩:=I6.loc
   exact hRR _ _ H5 s6 I7 ⟨m,hm⟩ (I3.fpOk (Nat.le_refl _) hf6) qn
  ·refine thn (T.item (X.block scope N fp { s2 with heap:=h3 } (upd H2 s2.heap.objs.size (.lst [])) h3.objs.size) rfl rfl rfl hc i [] s5 σ5 H5 _ I5 (fpB fr5) st5 go) fun r s6 ⟨u,hr,h6⟩=>?_
   subst hr
   refine wpAny_bind (thn h6 fun _ s7 ⟨x,H7,I7,r7,y7,st7,fr7⟩=>?_)
   have I7':=I7.pinned (fpB fr7) (T.obj _ _ st7)
   have fin:∀ {σ9:St} {H9:Hp} {s9:Shared},Inv (X.block scope N fp { s2 with heap:=h3 } (upd H2 s2.heap.objs.size (.lst [])) h3.objs.size) ([] ++ jje fp s7.heap) σ9 H9 s9→N' σ9 H9 →
     ∃ m,m < n∧∃ i σ' H',Inv (X.block scope N fp { s2 with heap:=h3 } (upd H2 s2.heap.objs.size (.lst [])) h3.objs.size) [] σ' H' s9∧tn i s9.heap∧(∀ b ∈ fp,H' b = none)∧W i m σ' H':=fun {σ9 H9 s9} I9 n9=>by
    obtain ⟨m',hm,w9⟩:=hN' σ9 H9 n9
    refine ⟨m',hm,i + 1,σ9,H9,I9.unpinned,T.keep _ _ _ st7 fun b hb o e=>(I9.pin (b,o) (List.mem_append_right _ (List.mem_append_right _ (jdz hb e)))).1,fun b hb=>?_,w9⟩
    obtain ⟨o,e,d⟩:=T.obj _ _ st7 b hb
    exact (I9.pin (b,o) (List.mem_append_right _ (List.mem_append_right _ (jdz hb e)))).2.1
   refine wpAny_bind (wpAny_mono (hg fp _ _ _ _ s7 σ5 H7 x u _ I7' r7 (step x H7 y7)) (fun _ s8 ⟨σ8,H8,I8,q8⟩=>?_) fun _ _ z=>False.elim z)
   refine wpAny_bind (wpAny_mono (ht fp _ _ _ _ s8 σ8 H8 _ I8 q8) (fun ok s9 ⟨H9,I9,q9⟩=>?_) fun _ _ z=>False.elim z)
   cases ok with
   | false=>exact wpAny_pure ⟨rfl,fin I9 q9⟩
   | true =>
    refine wpAny_bind (wpAny_bind (wpAny_mono (he fp _ _ _ _ s9 σ8 H9 _ I9 q9) (fun v s10 ⟨y,H10,I10,r10,xs,hx,hz,q10⟩=>?_) fun _ _ z=>False.elim z))
    refine wpAny_bind (wpAny_mono (jjr (X:=X.block scope N fp { s2 with heap:=h3 } (upd H2 s2.heap.objs.size (.lst [])) h3.objs.size) _ s10 σ8 H10 (.ref s2.heap.objs.size) [y] _ [v] (fun _ H11=>N' σ8 H11) I10 rfl (.cons r10 .nil) ⟨_,xs,y,rfl,rfl,hx,hz,q10⟩)
     (fun _ s11 ⟨_,H11,I11,_,q11⟩=>wpAny_pure (wpAny_pure ⟨rfl,fin I11 q11⟩)) fun _ _ z=>False.elim z)
 exact codeAny_compStart_list (loop _ rfl) (T.self _ 0 _ _ _ tn1 (loop _ rfl))
def jqa (src:List (Option Nat)) (wi:TI) (g:TG) (tc:TT) (te:TE):TE:=fun σ H Q=>wi σ H fun J H1=>∀ l,H1 l = none→jq6 J src g tc te Q σ H1 l
theorem jbw {X:Cx} {elt tg iter:Expr} {ifs:List Expr} {scope:Scope} {pos:Pos} {N:List Str} {src:List (Option Nat)} {wi:TI} {g:TG} {tc:TT} {te:TE} (S:CpScope X scope N src) (hc:X.calm = true)
  (hi:PI X tg iter wi) (hg:∀ fp s₀ H₀ C,PG (X.block scope N fp s₀ H₀ C) tg g) (ht:∀ fp s₀ H₀ C,PIf (X.block scope N fp s₀ H₀ C) ifs tc) (he:∀ fp s₀ H₀ C,PE (X.block scope N fp s₀ H₀ C) elt te)
  (hs:∀ x,foldedSetIterable iter X.env x = pure x:=by intro _; rfl):PE X (.ListComp elt [⟨tg,iter,ifs,0⟩] scope pos) (jqa src wi g tc te):=by
 intro pins s σ H Q I h
 rw [eval_ListComp]
 refine wpAny_comprehension_free (use:=none) rfl hs (jde fun y hy e=>I.ok.has y.1 (.inl (S.frees y hy e).2)) S.kind S.locs ?_
 refine thn (hi pins s σ H _ I h) fun v s1 h1=>thn h1 fun itv s2 h2=>?_
 obtain ⟨it,fp,tn,J,H2,e,I2,T,st2,f2,hw⟩:=h2
 subst e
 refine jka (RR:=fun acc C=>compPost (model X.prog X.w) X.A X.xe none (EP X pins σ Q) acc C) S hc hg ht he I2 T st2 f2 hw ?_
 intro l C H' s' I' hm fC q
 obtain ⟨m,hm⟩:=hm
 refine ⟨m,hm,fun h' hs'=>?_⟩
 exact ⟨.ref l,H',I'.turned (t':=s'.toks) (fun b o hb e=>hs'.extBut b o hb e) fC.1 fC.2.1 fC.2.2.2.1 fC.2.2.2.2.1 fC.2.2.2.2.2,rfl,q⟩
theorem jdq {X:Cx} {i:Nat} {x:Str} {pos' spos:Pos} {elt tg iter:Expr} {ifs:List Expr} {scope:Scope} {pos:Pos} {N:List Str} {src:List (Option Nat)} {wi:TI} {g:TG} {tc:TT} {te:TE} (hN:X.N.Nodup) (hix:X.N[i]? = some x) (hx:Loc X.env.scope x)
  (S:CpScope X scope N src) (hc:X.calm = true)
  (hi:PI X tg iter wi) (hg:∀ fp s₀ H₀ C,PG (X.block scope N fp s₀ H₀ C) tg g) (ht:∀ fp s₀ H₀ C,PIf (X.block scope N fp s₀ H₀ C) ifs tc) (he:∀ fp s₀ H₀ C,PE (X.block scope N fp s₀ H₀ C) elt te)
  (hsw:swapsWith (.ListComp elt [⟨tg,iter,ifs,0⟩] scope pos) (some (.Name x pos')) spos.line X.env = pure true:=by rfl)
  (hs:∀ x,foldedSetIterable iter X.env x = pure x:=by intro _; rfl) (hf:X.fn x = true ∨ X.env.scope.names.lookup x = some .local:=by first | exact .inl rfl | exact .inr rfl | assumption) :
  PS X (.Assign [.Name x pos'] (.ListComp elt [⟨tg,iter,ifs,0⟩] scope pos) spos) (tAsg (jqa src wi g tc te) (jff i)):=by
 intro pins s σ H D I h
 rw [exec_Assign_Name_used _ _ _ _ hsw]
 refine wpAny_bind (wpAny_standAt (wpAny_bind ?_))
 show wpAny _ X.A (do let _ ← comprehension (.ListComp elt [⟨tg,iter,ifs,0⟩] scope pos) scope X.env _ (newList []) false (eval iter X.env) (some (assign (.Name x pos') X.env))) _ _ s
 refine wpAny_bind (wpAny_mono (wpAny_comprehension_free (use:=some (assign (.Name x pos') X.env)) (Q:=fun _ s'=>SP X pins D .next s') rfl hs (jde fun y hy e=>I.ok.has y.1 (.inl (S.frees y hy e).2)) S.kind S.locs
  (thn (hi pins s σ H _ I h) fun v s1 h1=>thn h1 fun itv s2 h2=>?_)) (fun _ s' hq=>wpAny_pure (wpAny_pure hq)) fun _ _ e=>e)
 obtain ⟨it,fp,tn,J,H2,e,I2,T,st2,f2,hw⟩:=h2
 subst e
 refine jka (Q:=fun v H'=>D.nx (σ.set i (some v)) H') (RR:=fun acc C=>compPost (model X.prog X.w) X.A X.xe (some (assign (.Name x pos') X.env)) (fun _ s'=>SP X pins D .next s') acc C) S hc hg ht he I2 T st2 f2 hw ?_
 intro l C H' s' I' hm fC q
 obtain ⟨m,hm⟩:=hm
 show wpAny _ X.A (assign (.Name x pos') X.env (.ref l)) _ _ _
 refine wpAny_assign_Name (jj6 I' hN hix hx (v:=.ref l) rfl (fun s'' I'' ⟨a,sb,ha⟩=>?_) hf)
 have hCa:C ≠ a:=by
  rcases ha with rfl | ha
  ·exact fC.2.1
  ·exact fun z=>fC.2.2.2.2.1 x a ha z.symm
 refine ⟨m,hm.sameBut sb hCa,fun h' hs'=>?_⟩
 exact ⟨_,H',I''.turned (t':=s''.toks) (fun b o hb e=>hs'.extBut b o hb e) fC.1 fC.2.1 fC.2.2.2.1 fC.2.2.2.2.1 fC.2.2.2.2.2,q⟩
end L2
namespace L2
open PySem PySem.Spec PyProof.Rows
theorem Inv.turnedNew {X:Cx} {pins:List (Addr × Obj)} {σ:St} {H:Hp} {s:Shared} {h':Heap} {ch:List Addr} {t:Addr} {o:HO} {t':Nat} (I:Inv X pins σ H s) (hsz:s.heap.objs.size ≤ t)
  (k:∀ b ob,b ∉ ch→s.heap.get? b = some ob→h'.get? b = some ob) (hch:∀ b ∈ ch,FpOk X pins H b) (new:jc9 X.prog X.w (upd H t o) h' t o) :
  Inv X pins σ (upd H t o) { s with heap:=h',toks:=t' }:=by
 have hn:H t = none:=I.hok.fresh hsz
 have nt:∀ {b ob},s.heap.get? b = some ob→b ≠ t:=fun q=>Nat.ne_of_lt (Nat.lt_of_lt_of_le (Heap.lt_size q) hsz)
 have u:Un (frs X.stack) ch H (upd H t o) s.heap h' :=
  ⟨fun b ob q _ _ hx=>k b ob hx q,fun b ob q _ _ hx=>⟨ob.slots,k b ob hx q⟩,fun b ob q n _=>by rw [jae (nt q)]; exact n,fun b ob q hx=>⟨ob,k b ob hx q⟩,
   fun b xs q=>by rw [jae (jab q hn)]; exact q,fun b ob xs q=>by rw [jae (jab q hn)]; exact q,fun b ps q=>⟨#[],by rw [jae (jab q hn),q]; simp⟩⟩
 refine I.call (g':=s.gens) (t':=t') (d':=s.drawn) u (fun b ob e=>?_) I.bare fun b hb=>⟨(hch b hb).2.2.2.1,(hch b hb).2.1,(hch b hb).2.2.2.2.1,(hch b hb).2.2.2.2.2⟩
 by_cases hb:b = t
 ·subst hb; rw [ja1] at e; cases e; exact new
 ·rw [jae hb] at e
  have ntr:∀ {c u},H c = some u→c ∉ ch:=fun q z=>by rw [(hch _ z).1] at q; cases q
  refine (I.hok b ob e).stay (fun c v hc q=>k c v ?_ q) (fun c q=>by rw [jae (jab q hn)]; exact q) fun c xs q=>by rw [jae (jab q hn)]; exact q
  rcases hc with z | z
  ·rw [z]; exact ntr e
  ·exact ntr z
theorem Inv.turnedAll {X:Cx} {pins:List (Addr × Obj)} {σ:St} {H:Hp} {s:Shared} {h':Heap} {ch:List Addr} {t':Nat} (I:Inv X pins σ H s)
  (k:∀ b ob,b ∉ ch→s.heap.get? b = some ob→h'.get? b = some ob) (hch:∀ b ∈ ch,FpOk X pins H b):Inv X pins σ H { s with heap:=h',toks:=t' }:=by
 have u:Un (frs X.stack) ch H H s.heap h' :=
  ⟨fun b ob q _ _ hx=>k b ob hx q,fun b ob q _ _ hx=>⟨ob.slots,k b ob hx q⟩,fun b ob q n _=>n,fun b ob q hx=>⟨ob,k b ob hx q⟩,fun b xs q=>q,fun b ob xs q=>q,fun b ps q=>⟨#[],by rw [q]; simp⟩⟩
 refine I.call (g':=s.gens) (t':=t') (d':=s.drawn) u (fun b ob e=>?_) I.bare fun b hb=>⟨(hch b hb).2.2.2.1,(hch b hb).2.1,(hch b hb).2.2.2.2.1,(hch b hb).2.2.2.2.2⟩
 have ntr:∀ {c u},H c = some u→c ∉ ch:=fun q z=>by rw [(hch _ z).1] at q; cases q
 refine (I.hok b ob e).stay (fun c v hc q=>k c v ?_ q) (fun c q=>q) fun c xs q=>q
 rcases hc with z | z
 ·rw [z]; exact ntr e
 ·exact ntr z
def Ite (K:PySem.W.Frag) (a:Addr):It :=
 ⟨fun i H=>∃ xs x,SqL K H a xs∧xs[i]? = some x,fun i H x H'=>∃ t y,H t = none∧x = .ref t∧H' = upd H t (.tup [.int i,y])∧∀ xs,SqL K H a xs→xs[i]? = some y,fun i H=>∃ xs,SqL K H a xs∧xs.length ≤ i⟩
theorem jnb {P:Program} {w:World} {K:PySem.W.Frag} {elts:List Expr} {x1:Nat} {pos:Pos} (a e it:Addr) (hne:e ≠ it) :
  Turn P w K (.Tuple elts x1 pos) (Ite K a) [e,it] e (fun i h=>(∃ old,IsEnum h e it i old)∧h.IsListIter it a i) where
 mem:=by simp
 obj:=fun i h st b hb=>by
  obtain ⟨⟨old,he⟩,hit⟩:=st
  have q:b = e ∨ b = it:=by simpa using hb
  rcases q with rfl | rfl
  ·exact ⟨_,he,fun v z=>by
    have z':Data.fields _ = Data.cell v:=z
    cases z'⟩
  ·obtain ⟨o,e1,c,d⟩:=hit
   exact ⟨o,e1,fun v z=>by rw [d] at z; cases z⟩
 keep:=fun i h h' st k=>by
  obtain ⟨⟨old,he⟩,hit⟩:=st
  exact ⟨⟨old,k e (by simp) _ he⟩,hit.at fun o z=>k it (by simp) o z⟩
 item:=by
  intro X hP hw hK hc i pins s σ H E I hf st hg
  subst hP hw hK
  obtain ⟨⟨old,he⟩,hit⟩:=st
  obtain ⟨xs,x,hq,hx⟩:=hg
  obtain ⟨its,rv,p,hz⟩:=I.list hq
  obtain ⟨u,hu,ru⟩:=rv.get hx
  have elt:e < s.heap.objs.size:=Heap.lt_size he
  have ilt:it < s.heap.objs.size:=by obtain ⟨_,z,_⟩:=hit; exact Heap.lt_size z
  refine wpAny_pyNext_enum_item he hit p.isList (x:=u) (by simpa using hu) hne fun h1 ho hit1 hT hsz1 hk1=>?_
  refine ⟨_,rfl,wpAny_letOwnedTupleGo_enum ho fun h2 he2 hs2=>?_⟩
  replace hs2:Heap.SameBut e h1 h2:=hs2
  have kk:∀ b ob,b ∉ [e,it]→s.heap.get? b = some ob→h2.get? b = some ob:=fun b ob hb q=>by
   have hb':b ≠ e∧b ≠ it:=by simpa using hb
   exact hs2.extBut b ob hb'.1 (hk1 b ob hb'.1 hb'.2 q)
  have hT2:h2.get? s.heap.objs.size = some { cls:=.type "tuple",data:=.seq #[.int i s.toks,u] }:=(hs2.2 _ (Nat.ne_of_gt elt)).trans hT
  refine ⟨.ref s.heap.objs.size,upd H s.heap.objs.size (.tup [.int i,x]),I.turnedNew (ch:=[e,it]) (Nat.le_refl _) kk hf ?_,rfl,⟨_,x,I.fresh,rfl,rfl,fun ys hy=>by rw [I.list_inj hy hq]; exact hx⟩,⟨⟨u,by simpa using he2⟩,hit1.at fun o z=>(hs2.2 it hne.symm).trans z⟩,fun b hb=>?_⟩
  ·exact ⟨by show 2 ≤ sizeLine; decide,[.int i s.toks,u],.cons ⟨_,rfl⟩ (.cons ru .nil),⟨_,hT2,rfl,_,rfl⟩⟩
  ·have hb':b = e ∨ b = it:=by simpa using hb
   have:b ≠ s.heap.objs.size:=by
    rcases hb' with rfl | rfl
    ·exact Nat.ne_of_lt elt
    ·exact Nat.ne_of_lt ilt
   rw [jae this]
   exact (hf b hb).1
 done:=by
  intro X hP hw hK hc i pins s σ H E I hf st hg
  subst hP hw hK
  obtain ⟨⟨old,he⟩,hit⟩:=st
  obtain ⟨xs,hq,hx⟩:=hg
  obtain ⟨its,rv,p,hz⟩:=I.list hq
  have hl:=rv.length
  refine wpAny_pyNext_enum_end (I.ok.hd hc) he hit p.isList (by simp; omega) fun h' eb=>⟨rfl,I.turnedAll (ch:=[e,it]) (t':=s.toks) (fun b o hb q=>eb b o (fun z=>hb (by simp [z])) q) hf⟩
 self:=fun _ _ _ _ _ st h=>by
  obtain ⟨⟨old,he⟩,_⟩:=st
  exact wpAny_pyIter_enum he h
def iEnum (K:PySem.W.Frag) (ta:TA):TI:=fun σ H R=>ta σ H fun vs H1=>∃ a,vs = [.ref a]∧(∃ xs,SqL K H1 a xs)∧R (Ite K a) H1
theorem joe {X:Cx} {elts:List Expr} {x1:Nat} {tpos:Pos} {a:Expr} {ta:TA} {p pos:Pos} (hg:Gl X "enumerate") (hm:X.mg "enumerate" = none) (ha:PA X [a] ta) (hs:starEach [a] X.env = [(false,eval a X.env)]:=by rfl) :
  PI X (.Tuple elts x1 tpos) (.Call (.Name "enumerate" p) [a] [] pos) (iEnum X.K ta):=by
 intro pins s σ H R I h
 refine Call_ (jet I hg hm boot_enumerate (PyProof.Rows.callWith_type1 (thn (ha pos pins s σ H _ I h) fun us s1 ⟨vs,H1,I1,r1,q1⟩=>?_) hs rfl))
 obtain ⟨a,e,⟨xs,hq⟩,q⟩:=q1
 subst e
 cases r1 with
 | cons r rr =>
  cases rr
  cases r
  obtain ⟨its,rv,pl,hz⟩:=I1.list hq
  refine call_enumerate_list pl.isList fun h' he hit hsz hk=>?_
  refine wpAny_pyIter_enum he ?_
  have I2:Inv X pins σ H1 { s1 with heap:=h' }:=I1.kept (t':=s1.toks) fun b o q=>hk b o q
  refine ⟨_,[s1.heap.objs.size + 1,s1.heap.objs.size],_,_,H1,rfl,I2,jnb a _ _ (Nat.succ_ne_self _),⟨⟨_,he⟩,hit⟩,fun b hb=>?_,q⟩
  have hb':b = s1.heap.objs.size + 1 ∨ b = s1.heap.objs.size:=by simpa using hb
  rcases hb' with rfl | rfl
  ·exact I1.fpOk (Nat.le_succ _) (I1.hok.fresh (Nat.le_succ _))
  ·exact I1.fpOk (Nat.le_refl _) (I1.hok.fresh (Nat.le_refl _))
end L2
namespace L2
open PySem PySem.Spec PyProof.Rows
section
variable {prog:Program} {w:World} {A:Around} {E:Value→Shared→Prop} {s:Shared}
theorem jmq {j t:Addr} {k:Nat} {ar:Array Value} {x:Value} {Q:Value→Shared→Prop} (hj:s.heap.IsTupleIter j t k) (ht:s.heap.IsTuple t ar) (hx:ar[k]? = some x)
  (hQ:∀ h',h'.IsTupleIter j t (k + 1)→Heap.SameBut j s.heap h'→Q x { s with heap:=h' }):wpAny (model prog w) A (Builtin.SmallTypes.nextOf (.ref j)) Q E s:=by
 obtain ⟨ob,e0,hcl,hdt⟩:=id hj
 obtain ⟨ot,e1,_,nt,hdl⟩:=ht
 unfold Builtin.SmallTypes.nextOf
 refine wpAny_bind (wpAny_callSpecial?_slot (name:=Str.ofString "__next__") hj.typeIs F.slot_tuple_iterator_next (wpAny_call_entry F.slot_tuple_iterator_next hj.typeIs F.entry_tuple_iterator_next ?_ (F.args_tuple_iterator_next_1 _)))
 show wpAny _ _ (field (.ref j) 0 >>= _) _ _ s
 refine wpAny_bind (wpAny_field e0 hdt (x:=.ref t) rfl ?_)
 show wpAny _ _ (if (Value.ref t == Value.none) = true then _ else _) _ _ s
 rw [if_neg (show ¬ ((Value.ref t == Value.none) = true) from Bool.false_ne_true)]
 show wpAny _ _ (field (.ref j) 1 >>= _) _ _ s
 refine wpAny_bind (wpAny_field e0 hdt (x:=.int k 0) rfl ?_)
 show wpAny _ _ (seqItems? (.ref t) >>= _) _ _ s
 refine wpAny_bind (wpAny_seqItems e1 hdl ?_)
 simp only [Int.toNat_natCast,hx]
 refine wpAny_bind (wpAny_setField e0 hdt (by simp) (wpAny_pure ⟨x,rfl,wpAny_pure (hQ _ ?_ (Heap.SameBut.update ..))⟩))
 exact ⟨_,Heap.get?_update_self _ e0 (Obj.isFreed_of_fields (Obj.data_mapFields hdt _)),(Obj.cls_mapFields ..).trans hcl,by rw [Obj.data_mapFields hdt]; simp [rawInt]⟩
theorem jhe {j t:Addr} {k:Nat} {ar:Array Value} {Q:Value→Shared→Prop} (hh:A.handled = none) (hj:s.heap.IsTupleIter j t k) (ht:s.heap.IsTuple t ar) (hx:ar[k]? = none)
  (hE:∀ h' e,Heap.ExtBut j s.heap h'→(∃ o,h'.get? e = some o∧o.cls = .type "StopIteration")→E (.ref e) { s with heap:=h' }):wpAny (model prog w) A (Builtin.SmallTypes.nextOf (.ref j)) Q E s:=by
 obtain ⟨ob,e0,hcl,hdt⟩:=id hj
 obtain ⟨ot,e1,_,nt,hdl⟩:=ht
 unfold Builtin.SmallTypes.nextOf
 refine wpAny_bind (wpAny_callSpecial?_slot (name:=Str.ofString "__next__") hj.typeIs F.slot_tuple_iterator_next (wpAny_call_entry F.slot_tuple_iterator_next hj.typeIs F.entry_tuple_iterator_next ?_ (F.args_tuple_iterator_next_1 _)))
 show wpAny _ _ (field (.ref j) 0 >>= _) _ _ s
 refine wpAny_bind (wpAny_field e0 hdt (x:=.ref t) rfl ?_)
 show wpAny _ _ (if (Value.ref t == Value.none) = true then _ else _) _ _ s
 rw [if_neg (show ¬ ((Value.ref t == Value.none) = true) from Bool.false_ne_true)]
 show wpAny _ _ (field (.ref j) 1 >>= _) _ _ s
 refine wpAny_bind (wpAny_field e0 hdt (x:=.int k 0) rfl ?_)
 show wpAny _ _ (seqItems? (.ref t) >>= _) _ _ s
 refine wpAny_bind (wpAny_seqItems e1 hdl ?_)
 simp only [Int.toNat_natCast,hx]
 refine wpAny_bind (wpAny_rule (wpAny_bind (wpAny_setField e0 hdt (by simp) ?_)))
 show wpAny _ _ (newExc (.type "StopIteration") [] >>= _) _ _ _
 refine wpAny_bind ?_
 simp only [newExc,newTuple]
 refine wpAny_bind (wpAny_newObj_type ?_ (by size_fits))
 refine wpAny_bind (m:=firstArgMember _ _) (wpAny_of_eq (a:=Value.none) (by first | rfl | (simp only [firstArgMember]; rfl)) ?_)
 refine wpAny_newObj_type ?_ (by size_fits)
 simp only [raiseNew]
 refine wpAny_bind (wpAny_handled ?_)
 first | rw [show A.in1.handled = none from hh] | rw [hh]
 refine wpAny_bind (wpAny_pure (wpAny_throw ?_))
 exact hE _ _ (((Heap.SameBut.update ..).extBut.push _).push _) ⟨_,Heap.get?_push_size _ rfl,rfl⟩
def IsSq (b:Bool) (h:Heap) (l:Addr) (ar:Array Value):Prop:=if b = true then h.IsList l ar else h.IsTuple l ar
def jc7 (b:Bool) (h:Heap) (j l:Addr) (k:Nat):Prop:=if b = true then h.IsListIter j l k else h.IsTupleIter j l k
theorem IsSq.at' {b:Bool} {h h':Heap} {l:Addr} {ar:Array Value} (x:IsSq b h l ar) (k:∀ o,h.get? l = some o→h'.get? l = some o):IsSq b h' l ar:=by
 cases b with
 | true=>obtain ⟨o,e,r⟩:=(show h.IsList l ar from x); exact (show h'.IsList l ar from ⟨o,k o e,r⟩)
 | false=>obtain ⟨o,e,r⟩:=(show h.IsTuple l ar from x); exact (show h'.IsTuple l ar from ⟨o,k o e,r⟩)
theorem jc7.at' {b:Bool} {h h':Heap} {j l:Addr} {i:Nat} (x:jc7 b h j l i) (k:∀ o,h.get? j = some o→h'.get? j = some o):jc7 b h' j l i:=by
 cases b with
 | true=>obtain ⟨o,e,r⟩:=(show h.IsListIter j l i from x); exact (show h'.IsListIter j l i from ⟨o,k o e,r⟩)
 | false=>obtain ⟨o,e,r⟩:=(show h.IsTupleIter j l i from x); exact (show h'.IsTupleIter j l i from ⟨o,k o e,r⟩)
theorem jc7.obj {b:Bool} {h:Heap} {j l:Addr} {i:Nat} (x:jc7 b h j l i):∃ o,h.get? j = some o∧∀ v,o.data ≠ .cell v:=by
 cases b with
 | true=>obtain ⟨o,e,_,d⟩:=(show h.IsListIter j l i from x); exact ⟨o,e,fun v z=>by rw [d] at z; cases z⟩
 | false=>obtain ⟨o,e,_,d⟩:=(show h.IsTupleIter j l i from x); exact ⟨o,e,fun v z=>by rw [d] at z; cases z⟩
theorem jgv {b:Bool} {j l:Addr} {k:Nat} {ar:Array Value} {x:Value} {Q:Value→Shared→Prop} (hj:jc7 b s.heap j l k) (hl:IsSq b s.heap l ar) (hx:ar[k]? = some x)
  (hQ:∀ h',jc7 b h' j l (k + 1)→Heap.SameBut j s.heap h'→Q x { s with heap:=h' }):wpAny (model prog w) A (Builtin.SmallTypes.nextOf (.ref j)) Q E s:=by
 cases b with
 | true=>exact wpAny_nextOf_list_item (show s.heap.IsListIter j l k from hj) (show s.heap.IsList l ar from hl) hx fun h' a b=>hQ h' a b
 | false=>exact jmq (show s.heap.IsTupleIter j l k from hj) (show s.heap.IsTuple l ar from hl) hx fun h' a b=>hQ h' a b
theorem jer {b:Bool} {j l:Addr} {k:Nat} {ar:Array Value} {Q:Value→Shared→Prop} (hh:A.handled = none) (hj:jc7 b s.heap j l k) (hl:IsSq b s.heap l ar) (hx:ar[k]? = none)
  (hE:∀ h' e,Heap.ExtBut j s.heap h'→(∃ o,h'.get? e = some o∧o.cls = .type "StopIteration")→E (.ref e) { s with heap:=h' }):wpAny (model prog w) A (Builtin.SmallTypes.nextOf (.ref j)) Q E s:=by
 cases b with
 | true=>exact wpAny_nextOf_list_end hh (show s.heap.IsListIter j l k from hj) (show s.heap.IsList l ar from hl) hx hE
 | false=>exact jhe hh (show s.heap.IsTupleIter j l k from hj) (show s.heap.IsTuple l ar from hl) hx hE
theorem jj1 {b:Bool} {z TI TO i1 i2 l1 l2:Addr} {k1 k2:Nat} {xs ys:Array Value} {x y v0 v1:Value} {Q:Value→Shared→Prop} (D:ZipApart z TI TO i1 i2 l1 l2)
  (hz:IsZip s.heap z TI TO .none) (hTI:IsPair s.heap TI (.ref i1) (.ref i2)) (hTO:IsPair s.heap TO v0 v1)
  (h1:jc7 b s.heap i1 l1 k1) (h2:jc7 b s.heap i2 l2 k2) (hl1:IsSq b s.heap l1 xs) (hl2:IsSq b s.heap l2 ys) (hx:xs[k1]? = some x) (hy:ys[k2]? = some y)
  (hQ:∀ h',IsZip h' z TI TO (rawInt s.heap.objs.size)→IsPair h' TO x y→jc7 b h' i1 l1 (k1 + 1)→jc7 b h' i2 l2 (k2 + 1)→IsPair h' s.heap.objs.size x y →
   (∀ c o,c ≠ z→c ≠ TO→c ≠ i1→c ≠ i2→s.heap.get? c = some o→h'.get? c = some o)→Q (.ref s.heap.objs.size) { s with heap:=h' }) :
  wpAny (model prog w) A (Builtin.«zip.__next__» ⟨[.ref z],[]⟩) (fun fin s'=>∃ v,fin = .done (.ret v)∧Q v s') E s:=by
 show wpAny _ _ (field (.ref z) 2 >>= _) _ _ _
 refine wpAny_bind (wpAny_field hz rfl (x:=.bool false) rfl ?_)
 show wpAny _ _ (field (.ref z) 3 >>= _) _ _ _
 refine wpAny_bind (wpAny_field hz rfl (x:=.ref TI) rfl ?_)
 refine wpAny_bind (wpAny_seqItems hTI rfl ?_)
 show wpAny _ _ (Builtin.SmallTypes.ownedTupleIsFree (.ref z) >>= _) _ _ _
 refine wpAny_bind ?_
 unfold Builtin.SmallTypes.ownedTupleIsFree
 refine wpAny_bind (wpAny_field hz rfl (x:=.none) rfl (wpAny_pure ?_))
 simp only [if_true]
 refine wpAny_bind (wpAny_rule ?_)
 refine wpAny_bind (wpAny_field hz rfl (x:=.ref TO) rfl ?_)
 refine wpAny_bind (wpAny_setField_rec hz (by simp) fun g1 hzA sA=>?_)
 replace hzA:IsZip g1 z TI TO .ellipsis:=hzA
 refine wpAny_bind ?_
 simp only [List.zipIdx_cons,List.zipIdx_nil,List.forIn_cons,List.forIn_nil]
 refine wpAny_bind (wpAny_bind (wpAny_onRaise ?_))
 show wpAny _ _ (Builtin.SmallTypes.nextOf (.ref i1) >>= _) _ _ _
 refine wpAny_bind (jgv (b:=b) (h1.at' fun o e=>sA.extBut _ o D.i1z e) (hl1.at' fun o e=>sA.extBut _ o D.l1z e) hx fun g2 h1B sB=>wpAny_pure ?_)
 have TOB:IsPair g2 TO v0 v1:=sB.extBut _ _ D.TOi1 (sA.extBut _ _ D.TOz hTO)
 refine wpAny_bind (wpAny_seqItems TOB rfl ?_)
 refine wpAny_bind (wpAny_updateSeq_pair TOB fun g3 TOC sC=>?_)
 replace TOC:IsPair g3 TO x v1:=TOC
 refine wpAny_bind (wpAny_letGo (wpAny_pure ?_))
 refine wpAny_bind (wpAny_bind (wpAny_onRaise ?_))
 show wpAny _ _ (Builtin.SmallTypes.nextOf (.ref i2) >>= _) _ _ _
 refine wpAny_bind (jgv (b:=b) (h2.at' fun o e=>sC.extBut _ o D.TOi2.symm (sB.extBut _ o D.i12.symm (sA.extBut _ o D.i2z e))) (hl2.at' fun o e=>sC.extBut _ o D.l2TO (sB.extBut _ o D.l2i1 (sA.extBut _ o D.l2z e))) hy fun g4 h2D sD=>wpAny_pure ?_)
 have TOD:IsPair g4 TO x v1:=sD.extBut _ _ D.TOi2 TOC
 refine wpAny_bind (wpAny_seqItems TOD rfl ?_)
 refine wpAny_bind (wpAny_updateSeq_pair TOD fun g5 TOE sE=>?_)
 replace TOE:IsPair g5 TO x y:=TOE
 refine wpAny_bind (wpAny_letGo (wpAny_pure (wpAny_pure ?_)))
 refine wpAny_bind (wpAny_seqItems TOE rfl ?_)
 refine wpAny_bind (wpAny_newTuple ?_)
 have hsz:g5.objs.size = s.heap.objs.size:=by rw [sE.1,sD.1,sC.1,sB.1,sA.1]
 have hzE:IsZip g5 z TI TO .ellipsis:=sE.extBut _ _ D.TOz.symm (sD.extBut _ _ D.i2z.symm (sC.extBut _ _ D.TOz.symm (sB.extBut _ _ D.i1z.symm hzA)))
 have hkE:∀ c o,c ≠ z→c ≠ TO→c ≠ i1→c ≠ i2→s.heap.get? c = some o→g5.get? c = some o:=fun c o c1 c2 c3 c4 e=>sE.extBut _ _ c2 (sD.extBut _ _ c4 (sC.extBut _ _ c2 (sB.extBut _ _ c3 (sA.extBut _ _ c1 e))))
 have h1E:jc7 b g5 i1 l1 (k1 + 1):=h1B.at' fun o e=>sE.extBut _ o D.TOi1.symm (sD.extBut _ o D.i12 (sC.extBut _ o D.TOi1.symm e))
 have h2E:jc7 b g5 i2 l2 (k2 + 1):=h2D.at' fun o e=>sE.extBut _ o D.TOi2.symm e
 have zlt:z < g5.objs.size:=Heap.lt_size hzE
 show wpAny _ _ (Builtin.SmallTypes.ownedTupleHandOut (.ref z) (.ref g5.objs.size) >>= _) _ _ _
 refine wpAny_bind ?_
 unfold Builtin.SmallTypes.ownedTupleHandOut
 have hzF:IsZip (g5.push { cls:=.type "tuple",data:=.seq #[x,y] }) z TI TO .ellipsis:=Heap.get?_push_of_some _ hzE
 refine wpAny_bind (wpAny_setField_rec hzF (by simp) fun g7 hzG sG=>?_)
 replace hzG:IsZip g7 z TI TO (rawInt g5.objs.size):=hzG
 refine wpAny_setField_rec hzG (by simp) fun g8 hzI sI=>?_
 replace hzI:IsZip g8 z TI TO (rawInt g5.objs.size):=hzI
 have up:∀ c o,c ≠ z→g5.get? c = some o→g8.get? c = some o:=fun c o c1 e=>sI.extBut _ _ c1 (sG.extBut _ _ c1 (Heap.get?_push_of_some _ e))
 have hTI8:IsPair g8 g5.objs.size x y:=sI.extBut _ _ (Nat.ne_of_gt zlt) (sG.extBut _ _ (Nat.ne_of_gt zlt) (Heap.get?_push_size _ rfl))
 rw [hsz] at hzI hTI8
 refine wpAny_pure ⟨_,rfl,?_⟩
 show Q (.ref g5.objs.size) _
 rw [hsz]
 exact hQ g8 hzI (up _ _ D.TOz TOE) (h1E.at' fun o e=>up _ o D.i1z e) (h2E.at' fun o e=>up _ o D.i2z e) hTI8 fun c o c1 c2 c3 c4 e=>up c o c1 (hkE c o c1 c2 c3 c4 e)
theorem jkj {b:Bool} {z TI TO i1 i2 l1 l2:Addr} {k1 k2:Nat} {xs ys:Array Value} {v0 v1:Value} {Q:Fin→Shared→Prop} (hh:A.handled = none) (D:ZipApart z TI TO i1 i2 l1 l2)
  (hz:IsZip s.heap z TI TO .none) (hTI:IsPair s.heap TI (.ref i1) (.ref i2)) (hTO:IsPair s.heap TO v0 v1)
  (h1:jc7 b s.heap i1 l1 k1) (h2:jc7 b s.heap i2 l2 k2) (hl1:IsSq b s.heap l1 xs) (hl2:IsSq b s.heap l2 ys) (hend:xs[k1]? = none ∨ ys[k2]? = none)
  (hE:∀ h' e,(∀ c o,c ≠ z→c ≠ TO→c ≠ i1→c ≠ i2→s.heap.get? c = some o→h'.get? c = some o)→(∃ o,h'.get? e = some o∧o.cls = .type "StopIteration")→E (.ref e) { s with heap:=h' }) :
  wpAny (model prog w) A (Builtin.«zip.__next__» ⟨[.ref z],[]⟩) Q E s:=by
 show wpAny _ _ (field (.ref z) 2 >>= _) _ _ _
 refine wpAny_bind (wpAny_field hz rfl (x:=.bool false) rfl ?_)
 show wpAny _ _ (field (.ref z) 3 >>= _) _ _ _
 refine wpAny_bind (wpAny_field hz rfl (x:=.ref TI) rfl ?_)
 refine wpAny_bind (wpAny_seqItems hTI rfl ?_)
 show wpAny _ _ (Builtin.SmallTypes.ownedTupleIsFree (.ref z) >>= _) _ _ _
 refine wpAny_bind ?_
 unfold Builtin.SmallTypes.ownedTupleIsFree
 refine wpAny_bind (wpAny_field hz rfl (x:=.none) rfl (wpAny_pure ?_))
 simp only [if_true]
 refine wpAny_bind (wpAny_rule ?_)
 refine wpAny_bind (wpAny_field hz rfl (x:=.ref TO) rfl ?_)
 refine wpAny_bind (wpAny_setField_rec hz (by simp) fun g1 hzA sA=>?_)
 replace hzA:IsZip g1 z TI TO .ellipsis:=hzA
 refine wpAny_bind ?_
 simp only [List.zipIdx_cons,List.zipIdx_nil,List.forIn_cons,List.forIn_nil]
 refine wpAny_bind (wpAny_bind (wpAny_onRaise ?_))
 show wpAny _ _ (Builtin.SmallTypes.nextOf (.ref i1) >>= _) _ _ _
 cases hx:xs[k1]? with
 | none =>
  refine wpAny_bind (jer (b:=b) hh (h1.at' fun o e=>sA.extBut _ o D.i1z e) (hl1.at' fun o e=>sA.extBut _ o D.l1z e) hx fun g2 ex sB he=>?_)
  obtain ⟨oe,hoe,hce⟩:=he
  have hzB:IsZip g2 z TI TO .ellipsis:=sB _ _ D.i1z.symm hzA
  have hez:ex ≠ z:=fun q=>by subst q; rw [hzB] at hoe; cases hoe; simp at hce
  refine wpAny_setField_rec hzB (by simp) fun g3 _ sC=>hE g3 ex (fun c o c1 _ c3 _ q=>sC.extBut _ _ c1 (sB _ _ c3 (sA.extBut _ _ c1 q))) ⟨oe,sC.extBut _ _ hez hoe,hce⟩
 | some x =>
  have hy:ys[k2]? = none:=by rcases hend with h | h; rw [hx] at h; cases h; exact h
  refine wpAny_bind (jgv (b:=b) (h1.at' fun o e=>sA.extBut _ o D.i1z e) (hl1.at' fun o e=>sA.extBut _ o D.l1z e) hx fun g2 h1B sB=>wpAny_pure ?_)
  have TOB:IsPair g2 TO v0 v1:=sB.extBut _ _ D.TOi1 (sA.extBut _ _ D.TOz hTO)
  refine wpAny_bind (wpAny_seqItems TOB rfl ?_)
  refine wpAny_bind (wpAny_updateSeq_pair TOB fun g3 TOC sC=>?_)
  refine wpAny_bind (wpAny_letGo (wpAny_pure ?_))
  refine wpAny_bind (wpAny_bind (wpAny_onRaise ?_))
  show wpAny _ _ (Builtin.SmallTypes.nextOf (.ref i2) >>= _) _ _ _
  refine wpAny_bind (jer (b:=b) hh (h2.at' fun o e=>sC.extBut _ o D.TOi2.symm (sB.extBut _ o D.i12.symm (sA.extBut _ o D.i2z e))) (hl2.at' fun o e=>sC.extBut _ o D.l2TO (sB.extBut _ o D.l2i1 (sA.extBut _ o D.l2z e))) hy fun g4 ex sD he=>?_)
  obtain ⟨oe,hoe,hce⟩:=he
  have hzD:IsZip g4 z TI TO .ellipsis:=sD _ _ D.i2z.symm (sC.extBut _ _ D.TOz.symm (sB.extBut _ _ D.i1z.symm hzA))
  have hez:ex ≠ z:=fun q=>by subst q; rw [hzD] at hoe; cases hoe; simp at hce
  refine wpAny_setField_rec hzD (by simp) fun g5 _ sE=>hE g5 ex (fun c o c1 c2 c3 c4 q=>sE.extBut _ _ c1 (sD _ _ c4 (sC.extBut _ _ c2 (sB.extBut _ _ c3 (sA.extBut _ _ c1 q))))) ⟨oe,sE.extBut _ _ hez hoe,hce⟩
end
abbrev zpIt (b:Bool) (l:Addr):Obj:={ cls:=.type (if b = true then "list_iterator" else "tuple_iterator"),data:=.fields #[.ref l,.int 0 0] }
abbrev zp2 (b:Bool) (h:Heap) (l1 l2:Addr):Heap:=(h.push (zpIt b l1)).push (zpIt b l2)
abbrev zp3 (b:Bool) (h:Heap) (l1 l2:Addr):Heap:=(zp2 b h l1 l2).push { cls:=.type "tuple",data:=.seq #[.ref h.objs.size,.ref (h.push (zpIt b l1)).objs.size] }
abbrev zp4 (b:Bool) (h:Heap) (l1 l2:Addr):Heap:=(zp3 b h l1 l2).push { cls:=.type "tuple",data:=.seq #[.none,.none] }
abbrev zp5 (b:Bool) (h:Heap) (l1 l2:Addr):Heap:=(zp4 b h l1 l2).push { cls:=.type "zip",data:=.fields #[.none,.bool false,.bool false,.ref (zp2 b h l1 l2).objs.size,.ref (zp3 b h l1 l2).objs.size] }
theorem jn5 (l1 l2:Addr) (xs ys:Array Value) :
  Meets (Builtin.«zip.__new__» ⟨[.type "zip",.ref l1,.ref l2],[]⟩) (fun _ R s=>s.heap.IsTuple l1 xs∧s.heap.IsTuple l2 ys∧R (.ok (.ret (.ref (zp4 false s.heap l1 l2).objs.size))) { s with heap:=zp5 false s.heap l1 l2 }) :=
 .of_wp fun prog w A R s h=>by
  obtain ⟨hp,g,d,tk,os⟩:=s; obtain ⟨hl1,hl2,h⟩:=h
  have hsub:=sub_zip
  have hL1:Heap.IsTuple (Shared.heap ⟨hp,g,d,tk,os⟩) l1 xs:=hl1
  have hL2:Heap.IsTuple (Shared.heap ⟨hp.push { cls:=.type "tuple_iterator",data:=.fields #[.ref l1,.int 0 0] },g,d,tk,os⟩) l2 ys:=Heap.IsTuple.push hl2 _
  wp_walk using wpAny_pyIter_tuple hL1,wpAny_pyIter_tuple hL2
  exact ⟨_,rfl,h⟩
section
variable {prog:Program} {w:World} {A:Around} {E:Value→Shared→Prop} {s:Shared}
theorem jt2 {b:Bool} {l1 l2:Addr} {xs ys:Array Value} {Q:Value→Shared→Prop} (hl1:IsSq b s.heap l1 xs) (hl2:IsSq b s.heap l2 ys)
  (h:∀ h',IsZip h' (s.heap.objs.size + 4) (s.heap.objs.size + 2) (s.heap.objs.size + 3) .none→IsPair h' (s.heap.objs.size + 2) (.ref s.heap.objs.size) (.ref (s.heap.objs.size + 1)) →
   IsPair h' (s.heap.objs.size + 3) .none .none→jc7 b h' s.heap.objs.size l1 0→jc7 b h' (s.heap.objs.size + 1) l2 0→(∀ c o,s.heap.get? c = some o→h'.get? c = some o)→Q (.ref (s.heap.objs.size + 4)) { s with heap:=h' }) :
  wpAny (model prog w) A (call (.type "zip") [.ref l1,.ref l2]) Q E s:=by
 cases b with
 | true=>exact call_zip_2 (show s.heap.IsList l1 xs from hl1) (show s.heap.IsList l2 ys from hl2) fun h' a1 a2 a3 a4 a5 _ a7=>h h' a1 a2 a3 a4 a5 a7
 | false =>
  refine callType_new F.called_zip (by decide) (F.typeCall_zip_2 _ _) (F.newCall_zip_2 _ _) (fun obj=>F.args_object_init_3 obj _ _) F.entry_zip_new (jn5 l1 l2 xs ys) ⟨hl1,hl2,?_⟩
  have q1:(s.heap.push (zpIt false l1)).objs.size = s.heap.objs.size + 1:=Heap.size_push ..
  have q2:(zp2 false s.heap l1 l2).objs.size = s.heap.objs.size + 2:=by rw [Heap.size_push,q1]
  have q3:(zp3 false s.heap l1 l2).objs.size = s.heap.objs.size + 3:=by rw [Heap.size_push,q2]
  have q4:(zp4 false s.heap l1 l2).objs.size = s.heap.objs.size + 4:=by rw [Heap.size_push,q3]
  have p5:(zp5 false s.heap l1 l2).get? (zp4 false s.heap l1 l2).objs.size = some _:=Heap.get?_push_size _ rfl
  have p4:(zp5 false s.heap l1 l2).get? (zp3 false s.heap l1 l2).objs.size = some _:=Heap.get?_push_of_some _ (Heap.get?_push_size _ rfl)
  have p3:(zp5 false s.heap l1 l2).get? (zp2 false s.heap l1 l2).objs.size = some _:=Heap.get?_push_of_some _ (Heap.get?_push_of_some _ (Heap.get?_push_size _ rfl))
  have p2:(zp5 false s.heap l1 l2).get? (s.heap.push (zpIt false l1)).objs.size = some _:=Heap.get?_push_of_some _ (Heap.get?_push_of_some _ (Heap.get?_push_of_some _ (Heap.get?_push_size _ rfl)))
  have p1:(zp5 false s.heap l1 l2).get? s.heap.objs.size = some _:=Heap.get?_push_of_some _ (Heap.get?_push_of_some _ (Heap.get?_push_of_some _ (Heap.get?_push_of_some _ (Heap.get?_push_size _ rfl))))
  show _∧_
  rw [q2,q3,q4] at p5
  rw [q1,q2] at p3
  rw [q3] at p4
  rw [q1] at p2
  rw [q4]
  exact ⟨⟨_,p5,rfl⟩,h _ p5 p3 p4 (show Heap.IsTupleIter _ _ _ _ from ⟨_,p1,rfl,rfl⟩) (show Heap.IsTupleIter _ _ _ _ from ⟨_,p2,rfl,rfl⟩) fun c o x =>
   Heap.get?_push_of_some _ (Heap.get?_push_of_some _ (Heap.get?_push_of_some _ (Heap.get?_push_of_some _ (Heap.get?_push_of_some _ x))))⟩
end
def SqB (b:Bool) (K:PySem.W.Frag) (H:Hp) (a:Addr) (xs:List V):Prop:=if b = true then SqL K H a xs else SqT K H a xs
theorem Inv.sqB {X:Cx} {pins:List (Addr × Obj)} {σ:St} {H:Hp} {s:Shared} {b:Bool} {a:Addr} {xs:List V} (I:Inv X pins σ H s) (h:SqB b X.K H a xs):∃ its:List Value,Vals xs its∧IsSq b s.heap a its.toArray∧xs.length ≤ sizeLine:=by
 cases b with
 | true =>
  obtain ⟨its,r,p,z⟩:=I.list (show SqL X.K H a xs from h)
  exact ⟨its,r,p.isList,z⟩
 | false =>
  obtain ⟨its,r,p,z⟩:=I.tuple (show SqT X.K H a xs from h)
  exact ⟨its,r,(show s.heap.IsTuple a its.toArray from p),z⟩
theorem Inv.sqB_inj {X:Cx} {pins:List (Addr × Obj)} {σ:St} {H:Hp} {s:Shared} {b:Bool} {a:Addr} {xs ys:List V} (I:Inv X pins σ H s) (h:SqB b X.K H a xs) (h':SqB b X.K H a ys):xs = ys:=by
 cases b with
 | true=>exact I.list_inj (show SqL X.K H a xs from h) (show SqL X.K H a ys from h')
 | false=>exact I.tuple_inj (show SqT X.K H a xs from h) (show SqT X.K H a ys from h')
def Itz (b:Bool) (K:PySem.W.Frag) (a c:Addr):It :=
  ⟨fun i H=>∃ xs ys x y,SqB b K H a xs∧SqB b K H c ys∧xs[i]? = some x∧ys[i]? = some y,
   fun i H v H'=>∃ t x y,H t = none∧v = .ref t∧H' = upd H t (.tup [x,y])∧(∀ xs,SqB b K H a xs→xs[i]? = some x)∧∀ ys,SqB b K H c ys→ys[i]? = some y,
   fun i H=>∃ xs ys,SqB b K H a xs∧SqB b K H c ys∧(xs.length ≤ i ∨ ys.length ≤ i)⟩
theorem je6 {X:Cx} {pins:List (Addr × Obj)} {σ:St} {H:Hp} {s:Shared} {b:Bool} {a j:Addr} {xs:List V} (I:Inv X pins σ H s) (h:SqB b X.K H a xs) (f:FpOk X pins H j):a ≠ j:=by
 intro e
 subst e
 have key:∀ {o},X.K.lookup a = some o→False:=fun {o} q=>by
  have q1:=I.mod.kin a o q
  rcases f.2.2.2.1 with z | z
  ·exact I.ok.noex a o q1 z
  ·exact absurd (Nat.lt_of_lt_of_le (Heap.lt_size q1) (Nat.le_trans I.ok.bsz z)) (Nat.lt_irrefl _)
 cases b with
 | true =>
  rcases (show SqL X.K H a xs from h) with (h | ⟨o,h⟩) | ⟨o,its,n,hk,_⟩
  ·rw [f.1] at h; cases h
  ·rw [f.1] at h; cases h
  ·exact key hk
 | false =>
  rcases (show SqT X.K H a xs from h) with (h | ⟨o,h⟩) | ⟨o,its,n,hk,_⟩
  ·rw [f.1] at h; cases h
  ·rw [f.1] at h; cases h
  ·exact key hk
structure ZpA (z TI TO i1 i2:Addr):Prop where
 TIz:TI ≠ z
 TOz:TO ≠ z
 i1z:i1 ≠ z
 i2z:i2 ≠ z
 TITO:TI ≠ TO
 TIi1:TI ≠ i1
 TIi2:TI ≠ i2
 TOi1:TO ≠ i1
 TOi2:TO ≠ i2
 i12:i1 ≠ i2
theorem jq8 {P:Program} {w:World} {K:PySem.W.Frag} {elts:List Expr} {x1:Nat} {pos:Pos} (b:Bool) (a c z TI TO i1 i2:Addr) (D0:ZpA z TI TO i1 i2) :
  Turn P w K (.Tuple elts x1 pos) (Itz b K a c) [z,TI,TO,i1,i2] z (fun i h=>IsZip h z TI TO .none∧IsPair h TI (.ref i1) (.ref i2)∧(∃ u v,IsPair h TO u v)∧jc7 b h i1 a i∧jc7 b h i2 c i) where
 mem:=by simp
 obj:=fun i h st d hd=>by
  obtain ⟨hz,hTI,⟨u,v,hTO⟩,h1,h2⟩:=st
  have q:d = z ∨ d = TI ∨ d = TO ∨ d = i1 ∨ d = i2:=by simpa using hd
  rcases q with rfl | rfl | rfl | rfl | rfl
  ·exact ⟨_,hz,fun v z=>by
    have z':Data.fields _ = Data.cell v:=z
    cases z'⟩
  ·exact ⟨_,hTI,fun v z=>by
    have z':Data.seq _ _ = Data.cell v:=z
    cases z'⟩
  ·exact ⟨_,hTO,fun v z=>by
    have z':Data.seq _ _ = Data.cell v:=z
    cases z'⟩
  ·exact h1.obj
  ·exact h2.obj
 keep:=fun i h h' st k=>by
  obtain ⟨hz,hTI,⟨u,v,hTO⟩,h1,h2⟩:=st
  exact ⟨k z (by simp) _ hz,k TI (by simp) _ hTI,⟨u,v,k TO (by simp) _ hTO⟩,h1.at' fun o e=>k i1 (by simp) o e,h2.at' fun o e=>k i2 (by simp) o e⟩
 item:=by
  intro X hP hw hK hc i pins s σ H E I hf st hg
  subst hP hw hK
  obtain ⟨hz,hTI,⟨u0,v0,hTO⟩,h1,h2⟩:=st
  obtain ⟨xs,ys,x,y,hq1,hq2,hx,hy⟩:=hg
  obtain ⟨its1,rv1,p1,hz1⟩:=I.sqB hq1
  obtain ⟨its2,rv2,p2,hz2⟩:=I.sqB hq2
  obtain ⟨u1,hu1,ru1⟩:=rv1.get hx
  obtain ⟨u2,hu2,ru2⟩:=rv2.get hy
  have D:ZipApart z TI TO i1 i2 a c:=⟨D0.TIz,D0.TOz,D0.i1z,D0.i2z,D0.TITO,D0.TIi1,D0.TIi2,D0.TOi1,D0.TOi2,D0.i12,
   je6 I hq1 (hf z (by simp)),je6 I hq1 (hf TO (by simp)),je6 I hq1 (hf i1 (by simp)),je6 I hq1 (hf i2 (by simp)),je6 I hq2 (hf z (by simp)),je6 I hq2 (hf TO (by simp)),je6 I hq2 (hf i1 (by simp)),je6 I hq2 (hf i2 (by simp))⟩
  have zlt:z < s.heap.objs.size:=Heap.lt_size hz
  have hT:s.TypeIs (.ref z) "zip":=⟨_,hz,rfl⟩
  unfold pyNext
  refine wpAny_bind (wpAny_attempt (wpAny_callSpecial?_slot (name:=Str.ofString "__next__") hT F.slot_zip_next (wpAny_call_entry F.slot_zip_next hT F.entry_zip_next
   (jj1 (b:=b) D hz hTI hTO h1 h2 p1 p2 (x:=u1) (y:=u2) (by simpa using hu1) (by simpa using hu2) fun h' a1 a2 a3 a4 a5 a7=>wpAny_pure ?_) (F.args_zip_next_1 _))))
  refine ⟨_,rfl,wpAny_letOwnedTupleGo_zip a1 fun g hz' hs'=>?_⟩
  replace hs':Heap.SameBut z h' g:=hs'
  have kk:∀ d ob,d ∉ [z,TI,TO,i1,i2]→s.heap.get? d = some ob→g.get? d = some ob:=fun d ob hd q=>by
   have hd':d ≠ z∧d ≠ TI∧d ≠ TO∧d ≠ i1∧d ≠ i2:=by simpa using hd
   exact hs'.extBut _ _ hd'.1 (a7 d ob hd'.1 hd'.2.2.1 hd'.2.2.2.1 hd'.2.2.2.2 q)
  have hT2:g.get? s.heap.objs.size = some { cls:=.type "tuple",data:=.seq #[u1,u2] }:=hs'.extBut _ _ (Nat.ne_of_gt zlt) a5
  refine ⟨.ref s.heap.objs.size,upd H s.heap.objs.size (.tup [x,y]),I.turnedNew (ch:=[z,TI,TO,i1,i2]) (t':=s.toks) (Nat.le_refl _) kk hf ?_,rfl,
   ⟨_,x,y,I.fresh,rfl,rfl,fun zs hq=>by rw [I.sqB_inj hq hq1]; exact hx,fun zs hq=>by rw [I.sqB_inj hq hq2]; exact hy⟩,
   ⟨hz',hs'.extBut _ _ D.TIz (a7 _ _ D.TIz D.TITO D.TIi1 D.TIi2 hTI),⟨_,_,hs'.extBut _ _ D.TOz a2⟩,a3.at' fun o e=>hs'.extBut _ _ D.i1z e,a4.at' fun o e=>hs'.extBut _ _ D.i2z e⟩,fun d hd=>?_⟩
  ·exact ⟨by show 2 ≤ sizeLine; decide,[u1,u2],.cons ru1 (.cons ru2 .nil),⟨_,hT2,rfl,_,rfl⟩⟩
  ·have dlt:d < s.heap.objs.size:=by
    have q:d = z ∨ d = TI ∨ d = TO ∨ d = i1 ∨ d = i2:=by simpa using hd
    rcases q with rfl | rfl | rfl | rfl | rfl
    ·exact zlt
    ·exact Heap.lt_size hTI
    ·exact Heap.lt_size hTO
    ·obtain ⟨o,e,_⟩:=h1.obj; exact Heap.lt_size e
    ·obtain ⟨o,e,_⟩:=h2.obj; exact Heap.lt_size e
   rw [jae (Nat.ne_of_lt dlt)]
   exact (hf d hd).1
 done:=by
  intro X hP hw hK hc i pins s σ H E I hf st hg
  subst hP hw hK
  obtain ⟨hz,hTI,⟨u0,v0,hTO⟩,h1,h2⟩:=st
  obtain ⟨xs,ys,hq1,hq2,hlen⟩:=hg
  obtain ⟨its1,rv1,p1,hz1⟩:=I.sqB hq1
  obtain ⟨its2,rv2,p2,hz2⟩:=I.sqB hq2
  have e1:=rv1.length
  have e2:=rv2.length
  have D:ZipApart z TI TO i1 i2 a c:=⟨D0.TIz,D0.TOz,D0.i1z,D0.i2z,D0.TITO,D0.TIi1,D0.TIi2,D0.TOi1,D0.TOi2,D0.i12,
   je6 I hq1 (hf z (by simp)),je6 I hq1 (hf TO (by simp)),je6 I hq1 (hf i1 (by simp)),je6 I hq1 (hf i2 (by simp)),je6 I hq2 (hf z (by simp)),je6 I hq2 (hf TO (by simp)),je6 I hq2 (hf i1 (by simp)),je6 I hq2 (hf i2 (by simp))⟩
  have hT:s.TypeIs (.ref z) "zip":=⟨_,hz,rfl⟩
  unfold pyNext
  refine wpAny_bind (wpAny_attempt (wpAny_callSpecial?_slot (name:=Str.ofString "__next__") hT F.slot_zip_next (wpAny_call_entry F.slot_zip_next hT F.entry_zip_next
   (jkj (b:=b) (I.ok.hd hc) D hz hTI hTO h1 h2 p1 p2 (by rcases hlen with h | h; exact .inl (by simp; omega); exact .inr (by simp; omega)) fun h' e hk he=>?_) (F.args_zip_next_1 _))))
  obtain ⟨o,ho,hcl⟩:=he
  refine wpAny_bind (wpAny_isInstance (T:="StopIteration") (b:=true) ⟨o,ho,hcl⟩ isSubtype_stop ?_)
  exact wpAny_pure ⟨rfl,I.turnedAll (ch:=[z,TI,TO,i1,i2]) (t':=s.toks) (fun d ob hd q=>by
   have hd':d ≠ z∧d ≠ TI∧d ≠ TO∧d ≠ i1∧d ≠ i2:=by simpa using hd
   exact hk d ob hd'.1 hd'.2.2.1 hd'.2.2.2.1 hd'.2.2.2.2 q) hf⟩
 self:=fun _ _ _ _ _ st h=>wpAny_pyIter_zip st.1 h
theorem jki {X:Cx} {b:Bool} {elts:List Expr} {x1:Nat} {tpos:Pos} {pins:List (Addr × Obj)} {σ:St} {H1:Hp} {s1:Shared} {R:It→Hp→Prop} {a c:Addr} {xs ys:List V} (I1:Inv X pins σ H1 s1) (hq1:SqB b X.K H1 a xs) (hq2:SqB b X.K H1 c ys) (q:R (Itz b X.K a c) H1) :
  wpAny (model X.prog X.w) X.A (call (.type "zip") [.ref a,.ref c]) (fun v s2=>wpAny (model X.prog X.w) X.A (pyIter v) (PIE X pins σ (.Tuple elts x1 tpos) R) X.xe s2) X.xe s1:=by
 obtain ⟨its1,rv1,p1,hz1⟩:=I1.sqB hq1
 obtain ⟨its2,rv2,p2,hz2⟩:=I1.sqB hq2
 refine jt2 p1 p2 fun h' a1 a2 a3 a4 a5 hk=>?_
 refine wpAny_pyIter_zip a1 ?_
 have I2:Inv X pins σ H1 { s1 with heap:=h' }:=I1.kept (t':=s1.toks) fun b o q=>hk b o q
 have ne:∀ i j:Nat,i ≠ j→s1.heap.objs.size + i ≠ s1.heap.objs.size + j:=fun i j h e=>h (Nat.add_left_cancel e)
 refine ⟨_,[s1.heap.objs.size + 4,s1.heap.objs.size + 2,s1.heap.objs.size + 3,s1.heap.objs.size,s1.heap.objs.size + 1],_,_,H1,rfl,I2,jq8 b a c _ _ _ _ _ ⟨ne 2 4 (by decide),ne 3 4 (by decide),ne 0 4 (by decide),ne 1 4 (by decide),ne 2 3 (by decide),ne 2 0 (by decide),ne 2 1 (by decide),ne 3 0 (by decide),ne 3 1 (by decide),ne 0 1 (by decide)⟩,
  ⟨a1,a2,⟨_,_,a3⟩,a4,a5⟩,fun d hd=>?_,q⟩
 have hd':d = s1.heap.objs.size + 4 ∨ d = s1.heap.objs.size + 2 ∨ d = s1.heap.objs.size + 3 ∨ d = s1.heap.objs.size ∨ d = s1.heap.objs.size + 1:=by simpa using hd
 have hle:s1.heap.objs.size ≤ d:=by
  rcases hd' with e | e | e | e | e <;> rw [e]
  ·exact Nat.le_add_right _ _
  ·exact Nat.le_add_right _ _
  ·exact Nat.le_add_right _ _
  ·exact Nat.le_refl _
  ·exact Nat.le_add_right _ _
 exact I1.fpOk hle (I1.hok.fresh hle)
def iZipE (K:PySem.W.Frag) (ta:TA):TI:=fun σ H R=>ta σ H fun vs H1=>∃ (b:Bool) (a c:Addr),vs = [.ref a,.ref c]∧(∃ xs,SqB b K H1 a xs)∧(∃ ys,SqB b K H1 c ys)∧R (Itz b K a c) H1
theorem jsf {X:Cx} {elts:List Expr} {x1:Nat} {tpos:Pos} {a c:Expr} {ta:TA} {p pos:Pos} (hg:Gl X "zip") (hm:X.mg "zip" = none) (ha:PA X [a,c] ta) (hs:starEach [a,c] X.env = [(false,eval a X.env),(false,eval c X.env)]:=by rfl) (hs2:starEach [c] X.env = [(false,eval c X.env)]:=by rfl) :
  PI X (.Tuple elts x1 tpos) (.Call (.Name "zip" p) [a,c] [] pos) (iZipE X.K ta):=by
 intro pins s σ H R I h
 refine Call_ (jet I hg hm boot_zip (PyProof.Rows.callWith_type1 (thn (ha pos pins s σ H _ I h) fun us s1 ⟨vs,H1,I1,r1,q1⟩=>?_) (by rw [hs,hs2]) (by rw [hs2]; rfl)))
 obtain ⟨b,a,c,e,⟨xs,hq1⟩,⟨ys,hq2⟩,q⟩:=q1
 subst e
 cases r1 with
 | cons r rr =>
  cases rr with
  | cons r' rr =>
   cases rr
   cases r
   cases r'
   exact jki I1 hq1 hq2 q
end L2
namespace L2
open PySem PySem.Spec PyProof.Rows
theorem jjt:typeLookup (.type "list") "keys" = pure none:=by rw [typeLookup_type,builtinLookup_eq_fast]; kernel_rfl
theorem jgy:typeLookup (.type "list") "__getattr__" = pure none:=by rw [typeLookup_type,builtinLookup_eq_fast]; kernel_rfl
theorem ji0:isSubtype (.type "AttributeError") (.type "AttributeError") = pure true:=by rw [isSubtype_type]; kernel_rfl
section
variable {prog:Program} {w:World} {A:Around} {E:Value→Shared→Prop} {h:Heap} {g:Array GenState} {d:Drawn} {t:Nat} {os:OsState} {a:Addr} {o:Obj}
theorem jmj {α:Type} {Q:α→Shared→Prop} {u:Value} {x msg:Str} (hh:A.handled = none) (hm:msg.length ≤ sizeLine)
  (hE:∀ h' e tk,(∀ b o,h.get? b = some o→h'.get? b = some o)→(∃ o,h'.get? e = some o∧o.cls = .type "AttributeError")→E (.ref e) ⟨h',g,d,tk,os⟩) :
  wpAny (model prog w) A (raiseAttrError u x msg:Sem α) Q E ⟨h,g,d,t,os⟩:=by
 unfold raiseAttrError
 refine wpAny_bind (wpAny_mkStr ?_ hm)
 simp only [newExc,newTuple]
 refine wpAny_bind (wpAny_bind (wpAny_newObj_type ?_ (by size_fits)))
 refine wpAny_bind (m:=firstArgMember _ _) (wpAny_of_eq (a:=Value.none) (by first | rfl | (simp only [firstArgMember]; rfl)) ?_)
 refine wpAny_newObj_type ?_ (by size_fits)
 refine wpAny_bind (wpAny_mkText ?_)
 dsimp only
 refine wpAny_bind ?_
 unfold noteAttr
 generalize hh1:h.push { cls:=.type "tuple",data:=.seq #[.str msg t] } = h1
 have k1:∀ b o,h.get? b = some o→h1.get? b = some o:=fun b o q=>by rw [← hh1]; exact Heap.get?_push_of_some _ q
 have hg:(h1.push { cls:=.type "AttributeError",data:=.fields #[.ref h.objs.size,.none,.none,.none,.bool false,.none,unsetMember,unsetMember] }).get? h1.objs.size = some _:=Heap.get?_push_size _ rfl
 have k2:∀ b o,h.get? b = some o→(h1.push { cls:=.type "AttributeError",data:=.fields #[.ref h.objs.size,.none,.none,.none,.bool false,.none,unsetMember,unsetMember] }).get? b = some o:=fun b o q=>Heap.get?_push_of_some _ (k1 b o q)
 have nb:∀ b o,h.get? b = some o→b ≠ h1.objs.size:=fun b o q=>Nat.ne_of_lt (Heap.lt_size (k1 b o q))
 show wpAny _ _ (lacksNameAndObj (.ref h1.objs.size) >>= _) _ _ ⟨h1.push { cls:=.type "AttributeError",data:=.fields #[.ref h.objs.size,.none,.none,.none,.bool false,.none,unsetMember,unsetMember] },g,d,t + 1 + 1,os⟩
 generalize hh2:h1.push { cls:=.type "AttributeError",data:=.fields #[.ref h.objs.size,.none,.none,.none,.bool false,.none,unsetMember,unsetMember] } = h2 at hg k2
 generalize h1.objs.size = e at hg nb
 clear hh2 k1 hh1
 have hT:(⟨h2,g,d,t + 1 + 1,os⟩:Shared).TypeIs (.ref e) "AttributeError":=⟨_,hg,rfl⟩
 refine wpAny_bind ?_
 unfold lacksNameAndObj
 refine wpAny_bind (wpAny_isInstance hT ji0 ?_)
 simp only [Bool.not_true,Bool.false_eq_true,if_false]
 refine wpAny_bind (wpAny_load hg ?_)
 show wpAny _ _ (pure true) _ _ _
 refine wpAny_pure ?_
 simp only [if_true]
 refine wpAny_bind (wpAny_rule (wpAny_bind (wpAny_typeOf hT ?_)))
 show wpAny _ _ (layMembers e 6 #[_,u]) _ _ _
 unfold layMembers
 refine wpAny_bind (wpAny_load hg ?_)
 show wpAny _ _ (update e _) _ _ _
 refine wpAny_update hg ?_
 refine wpAny_raiseNew_none hh (hE _ _ _ (fun b o q=>?_) ⟨_,Heap.get?_update_self _ hg rfl,rfl⟩)
 exact (Heap.get?_update_other _ _ (nb b o q).symm).trans (k2 b o q)
theorem jjp {tk:Tok} {Q:PySem.Fin→Shared→Prop} {its:Array Value} {n:Nat} (hx:h.get? a = some { cls:=.type "list",dict:=none,data:=.seq its n,slots:=#[] }) (hh:A.handled = none)
  (hE:∀ h' e tk,(∀ b o,h.get? b = some o→h'.get? b = some o)→(∃ o,h'.get? e = some o∧o.cls = .type "AttributeError")→E (.ref e) ⟨h',g,d,tk,os⟩) :
  wpAny (model prog w) A (Builtin.«object.__getattribute__» ⟨[.ref a,.str "keys" tk],[]⟩) Q E ⟨h,g,d,t,os⟩:=by
 have hT:(⟨h,g,d,t,os⟩:Shared).TypeIs (.ref a) "list":=⟨_,hx,rfl⟩
 have f4:=jjt
 repeat (any_goals (first | assumption | wp_step))
 refine jmj hh (by decide +kernel) hE
theorem jou {tk:Tok} {Q:Value→Shared→Prop} {its:Array Value} {n:Nat} (hx:h.get? a = some { cls:=.type "list",dict:=none,data:=.seq its n,slots:=#[] }) (hh:A.handled = none)
  (hE:∀ h' e tk,(∀ b o,h.get? b = some o→h'.get? b = some o)→(∃ o,h'.get? e = some o∧o.cls = .type "AttributeError")→E (.ref e) ⟨h',g,d,tk,os⟩) :
  wpAny (model prog w) A (getAttrBy (.ref a) (.str "keys" tk) false) Q E ⟨h,g,d,t,os⟩:=by
 have hT:(⟨h,g,d,t,os⟩:Shared).TypeIs (.ref a) "list":=⟨_,hx,rfl⟩
 have f2:=F.slot_list_getattribute.lookup
 have f3:=F.slot_list_getattribute.bind (.ref a)
 repeat (any_goals (first | assumption | wp_step))
 refine codeAny_call_builtin F.slot_list_getattribute.plain F.entry_list_ga (F.slot_list_getattribute.check _ _ _ _ _ _ _ _ (show (⟨h,g,d,t,os⟩:Shared).TypeIs (.ref a) "list" from ⟨_,hx,rfl⟩) (F.args_list_getattribute_2 _ _) (jjp hx ?_ ?_))
 ·exact hh
 ·intro h' e tk k q
  obtain ⟨oe,he,hc⟩:=q
  have hT2:(⟨h',g,d,tk,os⟩:Shared).TypeIs (.ref e) "AttributeError":=⟨_,he,hc⟩
  have f5:=ji0
  have f6:=jgy
  show wpAny _ A (getattributeRaised (Value.ref a) _ (Value.type "list") (.ref e) none false false) _ _ _
  have done:=hE h' e tk k ⟨oe,he,hc⟩
  unfold getattributeRaised
  repeat (any_goals (first | assumption | wp_step))
theorem jrp {Q:Option Value→Shared→Prop} {its:Array Value} {n:Nat} (hx:h.get? a = some { cls:=.type "list",dict:=none,data:=.seq its n,slots:=#[] }) (hh:A.handled = none)
  (hq:∀ h' tk,(∀ b o,h.get? b = some o→h'.get? b = some o)→Q none ⟨h',g,d,tk,os⟩):wpAny (model prog w) A (getAttr? (.ref a) "keys") Q E ⟨h,g,d,t,os⟩:=by
 unfold getAttr? getAttrBy?
 refine wpAny_bind (wpAny_mkText (wpAny_bind (wpAny_attempt (jou hx hh fun h' e tk k q=>?_))))
 obtain ⟨oe,he,hc⟩:=q
 refine wpAny_bind (wpAny_isInstance (T:="AttributeError") (b:=true) ⟨_,he,hc⟩ ji0 ?_)
 exact wpAny_pure (hq h' tk k)
end
end L2
namespace L2
open PySem PySem.Spec PyProof.Rows
theorem jbc:entryFor table "dict.update.loop" = some Builtin.«dict.update.loop»:=entryFor_of_fast (by kernel_rfl)
theorem jat:plainId "dict.update.loop" = true:=by decide +kernel
theorem jmi {K:Type} [DecidableEq K] (kvs:List (K × Value)) (k:K) (v:Value):(stored kvs k v).length ≤ kvs.length + 1:=by
 unfold stored
 split
 ·rw [List.length_map]; omega
 ·rw [List.length_append]; exact Nat.le_refl _
section
variable {prog:Program} {w:World} {A:Around} {E:Value→Shared→Prop} {K:Type} [DecidableEq K] {knd:KeyKind prog w K} {R:Result→Shared→Prop}
theorem jpk {d it l:Addr} {its:Array Value} {more:List (K × Value)} (hh:A.handled = none) (hlen:more.length = its.size) (hsz:its.size ≤ 1000) (hdl:l ≠ d) (hdi:it ≠ d) (hil:l ≠ it) :
  ∀ (k i:Nat) (tk0:Tok) (s:Shared) (kvs:List (K × Value)),its.size - i = k→i ≤ its.size→kvs.length ≤ i→s.heap.IsListIter it l i→s.heap.IsList l its→s.heap.DictOf knd d kvs →
   (∀ (j:Nat) (q:K × Value),more[j]? = some q→∃ t kv,its[j]? = some (.ref t)∧s.heap.IsTuple t #[kv,q.2]∧knd.is q.1 kv = true) →
   (∀ h' tk,h'.DictOf knd d (merged kvs (more.drop i))→(∀ b o,b ≠ d→b ≠ it→s.heap.get? b = some o→h'.get? b = some o)→R (.ok (.ret .none)) { s with heap:=h',toks:=tk }) →
   codeAny (model prog w) A (.builtin "dict.update.loop" ⟨[.ref d,.ref it,.int i tk0,.none],[]⟩) R s:=by
 intro k
 induction k with
 | zero =>
  intro i tk0 s kvs hk hi hkl hit hl hd hp hR
  have e:i = its.size:=by omega
  subst e
  refine codeAny_builtin jbc ?_
  rw [Around.under_plainId jat _]
  show wpAny _ A.in1 (pyNext (.ref it) >>= _) _ _ s
  refine wpAny_bind (wpAny_pyNext_list_end hh hit hl (by simp) fun h' eb=>?_)
  show wpAny _ A.in1 (Builtin.Dict.addKeywords d [] >>= _) _ _ _
  refine wpAny_bind (wpAny_pure (wpAny_pure ?_))
  refine hR h' s.toks ?_ fun b o _ hb q=>eb b o hb q
  rw [List.drop_eq_nil_of_le (by omega)]
  exact hd.extBut eb hdi.symm
 | succ k ih =>
  intro i tk0 s kvs hk hi hkl hit hl hd hp hR
  have hlt:i < its.size:=by omega
  have hlm:i < more.length:=by omega
  obtain ⟨t,kv,hu,ht,hkey⟩:=hp i more[i] (by simp [hlm])
  refine codeAny_builtin jbc ?_
  rw [Around.under_plainId jat _]
  show wpAny _ A.in1 (pyNext (.ref it) >>= _) _ _ s
  refine wpAny_bind (wpAny_pyNext_list_item hit hl hu fun h1 hit1 sb1=>?_)
  have nti:t ≠ it:=fun z=>by
   subst z
   obtain ⟨o,e1,c1,_⟩:=ht
   obtain ⟨o',e2,c2,_⟩:=hit
   rw [e1] at e2; cases e2; rw [c1] at c2; exact absurd c2 (by decide)
  have ntd:t ≠ d:=fun z=>by
   subst z
   obtain ⟨o,e1,c1,_⟩:=ht
   obtain ⟨o',_,_,e2,c2,_⟩:=hd
   rw [e1] at e2; cases e2; rw [c2.1] at c1; exact absurd c1 (by decide)
  have ht1:h1.IsTuple t #[kv,more[i].2]:=ht.extBut sb1.extBut nti
  have hd1:h1.DictOf knd d kvs:=hd.extBut sb1.extBut hdi.symm
  show wpAny _ A.in1 (holding [.ref t] _ >>= _) _ _ _
  refine wpAny_bind (wpAny_holding ?_)
  refine wpAny_bind (m:=(Builtin.Dict.pairItems (.ref t)).tryCatch _) ?_
  refine wpAny_tryCatch ?_
  unfold Builtin.Dict.pairItems
  refine wpAny_bind (wpAny_typeOf ht1.typeIs ?_)
  obtain ⟨ot,e1,c1,n1,d1⟩:=id ht1
  rw [if_pos (by decide)]
  refine wpAny_bind (wpAny_seqItems e1 d1 ?_)
  refine wpAny_pure ?_
  show wpAny _ A.in1 (holding [kv,more[i].2] (dictSet d kv more[i].2)) _ _ _
  refine wpAny_holding (wpAny_dictSet_pairs hkey hd1 (fun h2 hd2 sb2=>?_) (by have:=(by decide:1000 ≤ sizeLine); omega))
  replace sb2:Heap.SameBut d h1 h2:=sb2
  have kk:∀ b o,b ≠ d→b ≠ it→s.heap.get? b = some o→h2.get? b = some o:=fun b o b1 b2 q=>sb2.extBut b o b1 (sb1.extBut b o b2 q)
  refine wpAny_pure ⟨plainId_quiet jat _,?_⟩
  have hik:((i:Int) + 1) = ((i + 1:Nat):Int):=by omega
  show codeAny _ _ (.builtin "dict.update.loop" ⟨[.ref d,.ref it,rawInt ((i:Int) + 1),.none],[]⟩) _ _
  rw [hik]
  refine ih (i + 1) 0 _ (stored kvs more[i].1 more[i].2) (by omega) (by omega) ?_ (hit1.extBut sb2.extBut hdi) ((hl.extBut sb1.extBut hil).extBut sb2.extBut hdl) hd2 ?_ ?_
  ·have:=jmi kvs more[i].1 more[i].2
   omega
  ·intro j q hq
   obtain ⟨t',kv',a1,a2,a3⟩:=hp j q hq
   have n1:t' ≠ it:=fun z=>by
    subst z
    obtain ⟨o,e1,c1,_⟩:=a2
    obtain ⟨o',e2,c2,_⟩:=hit
    rw [e1] at e2; cases e2; rw [c1] at c2; exact absurd c2 (by decide)
   have n2:t' ≠ d:=fun z=>by
    subst z
    obtain ⟨o,e1,c1,_⟩:=a2
    obtain ⟨o',_,_,e2,c2,_⟩:=hd
    rw [e1] at e2; cases e2; rw [c2.1] at c1; exact absurd c1 (by decide)
   exact ⟨t',kv',a1,(a2.extBut sb1.extBut n1).extBut sb2.extBut n2,a3⟩
  ·intro h' tk hd' k'
   refine hR h' tk ?_ fun b o b1 b2 q=>k' b o b1 b2 (kk b o b1 b2 q)
   rw [List.drop_eq_getElem_cons hlm]
   exact hd'
theorem jhh {l:Addr} {its:Array Value} {c:Nat} {more:List (K × Value)} {s:Shared} {Q:Value→Shared→Prop} (hh:A.handled = none) (hl:s.heap.get? l = some { cls:=.type "list",dict:=none,data:=.seq its c,slots:=#[] }) (hlen:more.length = its.size) (hsz:its.size ≤ 1000)
  (hp:∀ (j:Nat) (q:K × Value),more[j]? = some q→∃ t kv,its[j]? = some (.ref t)∧s.heap.IsTuple t #[kv,q.2]∧knd.is q.1 kv = true)
  (h:∀ h' tk,h'.DictOf knd s.heap.objs.size (merged [] more)→(∀ b o,s.heap.get? b = some o→h'.get? b = some o)→Q (.ref s.heap.objs.size) { s with heap:=h',toks:=tk }) :
  wpAny (model prog w) A (call (.type "dict") [.ref l]) Q E s:=by
 refine callType_codes (Q₁:=fun obj s₁=>obj = .ref s.heap.objs.size∧s₁ = { s with heap:=s.heap.push { cls:=.type "dict",data:=.dict #[] } }) F.kt_called_dict (F.kt_typeCall_dict_1 _) F.entry_dict_init (kt_code_dict_new _ ⟨rfl,rfl⟩) ?_
 rintro obj s₁ ⟨rfl,rfl⟩
 have hnew:(s.heap.push { cls:=.type "dict",data:=.dict #[] }).DictOf knd s.heap.objs.size []:=Heap.DictOf.new s.heap
 have hl1:(s.heap.push { cls:=.type "dict",data:=.dict #[] }).get? l = some { cls:=.type "list",dict:=none,data:=.seq its c,slots:=#[] }:=Heap.get?_push_of_some _ hl
 have k1:∀ b o,s.heap.get? b = some o→(s.heap.push { cls:=.type "dict",data:=.dict #[] }).get? b = some o:=fun b o q=>Heap.get?_push_of_some _ q
 have llt:l < s.heap.objs.size:=Heap.lt_size hl
 generalize s.heap.push { cls:=.type "dict",data:=.dict #[] } = h1 at hnew hl1 k1
 refine ⟨hnew.typeIs,F.args_dict_init_2 _ _,?_⟩
 unfold Builtin.«dict.__init__»
 refine wpAny_bind ?_
 unfold Builtin.Dict.selfAndRest
 refine wpAny_bind (wpAny_notOrdered_dict hnew.typeIs ?_)
 show wpAny _ _ (pure (s.heap.objs.size,[Value.ref l])) _ _ _
 refine wpAny_pure ?_
 show wpAny _ _ (Builtin.Dict.updateFrom "dict.__init__" s.heap.objs.size (.ref l) [] .none) _ _ _
 unfold Builtin.Dict.updateFrom
 refine wpAny_bind (wpAny_typeOf (T:="list") ⟨_,hl1,rfl⟩ ?_)
 rw [if_pos (by decide)]
 refine wpAny_bind (jrp hl1 hh fun h2 tk2 k2=>?_)
 have hl2:=k2 _ _ hl1
 have hd2:h2.DictOf knd s.heap.objs.size []:=let ⟨o,es,ep,ho,r⟩:=hnew; ⟨o,es,ep,k2 _ _ ho,r⟩
 have dlt:s.heap.objs.size < h2.objs.size:=by obtain ⟨_,_,_,ho,_⟩:=hd2; exact Heap.lt_size ho
 simp only [Option.isNone_none,if_true]
 refine wpAny_bind (wpAny_rule ?_)
 have hL:Heap.IsList h2 l its:=⟨_,hl2,rfl,_,rfl⟩
 refine wpAny_bind (wpAny_pyIter_list (s:={ s with heap:=h2,toks:=tk2 }) hL ?_)
 refine wpAny_pure ⟨plainId_quiet jat _,?_⟩
 have hit:(h2.push { cls:=.type "list_iterator",data:=.fields #[.ref l,.int 0 0] }).IsListIter h2.objs.size l 0:=⟨_,Heap.get?_push_size _ rfl,rfl,rfl⟩
 refine jpk (A:=A.in1) (knd:=knd) (more:=more) hh hlen hsz (Nat.ne_of_lt llt) (Nat.ne_of_gt dlt) (Nat.ne_of_lt (Nat.lt_trans llt dlt)) its.size 0 0 { s with heap:=h2.push { cls:=.type "list_iterator",data:=.fields #[.ref l,.int 0 0] },toks:=tk2 } [] rfl (Nat.zero_le _) (Nat.le_refl _) hit (hL.push _) (hd2.push _) ?_ ?_
 ·intro j q hq
  obtain ⟨t,kv,a1,a2,a3⟩:=hp j q hq
  obtain ⟨o,e,r⟩:=a2
  exact ⟨t,kv,a1,⟨o,Heap.get?_push_of_some _ (k2 _ _ (k1 _ _ e)),r⟩,a3⟩
 ·intro h' tk hd' k'
  rw [List.drop_zero] at hd'
  refine ⟨rfl,h h' tk hd' fun b o q=>k' b o (Nat.ne_of_lt (Heap.lt_size q)) (Nat.ne_of_lt (Heap.lt_size (k2 _ _ (k1 _ _ q)))) (Heap.get?_push_of_some _ (k2 _ _ (k1 _ _ q)))⟩
end
def PairAt (H:Hp) (v:V) (p:Key × V):Prop:=∃ t,v = .ref t∧H t = some (.tup [kV p.1,p.2])
def rDictL (K:PySem.W.Frag):List V→Hp→VK→Prop:=fun vs H Q=>∃ l xs kvs,vs = [.ref l]∧H l = some (.lst xs)∧Paired (PairAt H) xs kvs∧xs.length ≤ 1000∧(kvs.map (·.1)).Nodup∧∀ d,H d = none→Q (.ref d) (upd H d (.dK kvs))
theorem jho {X:Cx} {pins:List (Addr × Obj)} {σ:St} {H:Hp} {s:Shared} (I:Inv X pins σ H s):∀ {xs:List V} {kvs:List (Key × V)} {its:List Value},Paired (PairAt H) xs kvs→Vals xs its →
  ∃ more:List (Key × Value),KV kvs more∧∀ (j:Nat) (q:Key × Value),more[j]? = some q→∃ t kv,its[j]? = some (.ref t)∧s.heap.IsTuple t #[kv,q.2]∧(jbl X.prog X.w).is q.1 kv = true
 | _,_,_,.nil,.nil=>⟨[],.nil,fun j q h=>by simp at h⟩
 | _,_,_,.cons hp tp,.cons rv tr=>by
  obtain ⟨more,hk,hm⟩:=jho I tp tr
  obtain ⟨t,rfl,ht⟩:=hp
  cases rv
  obtain ⟨_,its',rt,hi⟩:=I.hok t _ ht
  obtain ⟨u1,u2,rfl,r1,r2⟩:=rt.two
  refine ⟨(_,u2) :: more,.cons ⟨rfl,r2⟩ hk,fun j q h=>?_⟩
  cases j with
  | zero =>
   simp at h
   subst h
   exact ⟨t,u1,rfl,hi,jla r1⟩
  | succ j =>
   obtain ⟨t',kv,a1,a2,a3⟩:=hm j q (by simpa using h)
   exact ⟨t',kv,by simpa using a1,a2,a3⟩
theorem jn1 {X:Cx} (hc:X.calm = true):jd0 X (.type "dict") (rDictL X.K):=by
 intro pins s σ H vs us Q I rv h
 obtain ⟨l,xs,kvs,rfl,hl,hp,hz,hn,q⟩:=h
 obtain ⟨u,rfl,ru⟩:=rv.one
 cases ru
 obtain ⟨z,its,n,r,hlen,e⟩:=I.lstM hl
 obtain ⟨more,hkv,hm⟩:=jho I hp r
 have hlm:kvs.length = more.length:=Paired.length hkv
 have hlx:xs.length = kvs.length:=Paired.length hp
 refine jhh (knd:=jbl X.prog X.w) (more:=more) (I.ok.hd hc) e (by rw [List.size_toArray]; omega) (by rw [List.size_toArray]; omega) (fun j q hj=>?_) fun h' tk dd k=>?_
 ·obtain ⟨t,kv,a1,a2,a3⟩:=hm j q hj
  exact ⟨t,kv,by simpa using a1,a2,a3⟩
 ·refine ⟨.ref s.heap.objs.size,upd H s.heap.objs.size (.dK kvs),I.laid k (Nat.le_refl _) ?_,rfl,q _ I.fresh⟩
  rw [merged_nil_of_nodup more (by rw [← hkv.keys]; exact hn)] at dd
  exact js0 (by have:=(by decide:1000 ≤ sizeLine); omega) (by have:=I.big; exact beq_false_of_ne (Nat.ne_of_gt this)) hkv dd
end L2
namespace L2
open PySem PySem.Spec PyProof.Rows
def jrh (f:List Bool→Bool):List V→Hp→VK→Prop:=fun vs H Q=>∃ l bs,vs = [.ref l]∧H l = some (.lst (bs.map V.bl))∧Q (.bl (f bs)) H
theorem jq3 {bs:List Bool} {tr:Nat→Bool} (h:∀ i b,bs[i]? = some b→tr i = b):(List.range bs.length).all tr = bs.all id:=by
 rw [Bool.eq_iff_iff,List.all_eq_true,List.all_eq_true]
 constructor
 ·intro q b hb
  obtain ⟨i,hi,e⟩:=List.mem_iff_getElem.mp hb
  have:=q i (List.mem_range.mpr hi)
  rw [h i b (by rw [List.getElem?_eq_getElem hi,e])] at this
  exact this
 ·intro q i hi
  have hi':=List.mem_range.mp hi
  rw [h i bs[i] (List.getElem?_eq_getElem hi')]
  exact q _ (List.getElem_mem hi')
theorem jn7:∀ {bs:List Bool} {us:List Value},Vals (bs.map V.bl) us→us = bs.map Value.bool
 | [],_,.nil=>rfl
 | b :: r,_,.cons q t=>by
  cases (show _ = Value.bool b from q)
  rw [jn7 t]
  rfl
theorem jr7 {X:Cx} (hc:X.calm = true):jd0 X (.builtin "all") (jrh fun bs=>bs.all id):=by
 intro pins s σ H vs us Q I rv h
 obtain ⟨l,bs,rfl,hl,q⟩:=h
 obtain ⟨u,rfl,ru⟩:=rv.one
 cases ru
 obtain ⟨z,its,n,r,hlen,e⟩:=I.lstM hl
 have e2:=jn7 r
 subst e2
 have llt:l < s.heap.objs.size:=Heap.lt_size e
 have hL:s.heap.IsList l (bs.map Value.bool).toArray:=⟨_,e,rfl,_,rfl⟩
 refine call_all_walk (wpAny_pyIter_list hL ⟨s.heap.objs.size,[s.heap.objs.size,l],[s.heap.objs.size],_,_,_,fun i=>bs[i]?.getD true,rfl,Walks.list (A:=X.A.in1) (show X.A.in1.handled = none from I.ok.hd hc) s.heap.objs.size l (Nat.ne_of_lt llt) (bs.map Value.bool).toArray,
  (show Heap.IsListIter _ _ _ _∧Heap.IsList _ _ _ from ⟨⟨_,Heap.get?_push_size _ rfl,rfl,rfl⟩,hL.push _⟩),fun i v s' Q' E' hv hq=>?_,fun h' tk k=>?_⟩)
 ·have hv':(bs.map Value.bool)[i]? = some v:=by simpa using hv
  rw [List.getElem?_map] at hv'
  cases eb:bs[i]? with
  | none=>rw [eb] at hv'; cases hv'
  | some b =>
   rw [eb] at hv'
   cases hv'
   have hq':Q' b s':=by dsimp only at hq; rw [eb] at hq; exact hq
   exact wpAny_pure hq'
 ·have ez:((bs.map Value.bool).toArray).size = bs.length:=by simp
  rw [ez,jq3 (bs:=bs) (tr:=fun i=>bs[i]?.getD true) (fun i b hb=>by rw [hb]; rfl)]
  refine ⟨.bl _,H,I.kept fun b o qq=>k b o ?_ (Heap.get?_push_of_some _ qq),rfl,q⟩
  intro hb
  have:b = s.heap.objs.size:=by simpa using hb
  subst this
  exact absurd (Heap.lt_size qq) (Nat.lt_irrefl _)
inductive Knd (H:Hp):V→String→Prop where
 | non:Knd H .non "NoneType"
 | bl {x:Bool}:Knd H (.bl x) "bool"
 | int {i:Int}:Knd H (.int i) "int"
 | str {x:Str}:Knd H (.str x) "str"
 | lst {a:Addr} {xs:List V} (e:H a = some (.lst xs)):Knd H (.ref a) "list"
 | tup {a:Addr} {xs:List V} (e:H a = some (.tup xs)):Knd H (.ref a) "tuple"
 | dK {a:Addr} {kvs:List (Key × V)} (e:H a = some (.dK kvs)):Knd H (.ref a) "dict"
theorem Knd.ty {K:PySem.W.Frag} {H:Hp} {v:V} {n:String} (h:Knd H v n):TyOf K H v (.type n):=by
 cases h with
 | non=>exact .non
 | bl=>exact .bl _
 | int=>exact .int _
 | str=>exact .str _
 | lst e=>exact .lst e
 | tup e=>exact .tup e
 | dK e=>exact .dK e
def isiK (a b:String):Bool:=a == b || (a == "bool" && b == "int")
def jin:List String:=["NoneType","bool","int","str","list","tuple","dict"]
theorem jsp {K:PySem.W.Frag}:∀ a ∈ jin,∀ b ∈ jin,PySem.W.kitOne K (.type a) (.type b) = some (isiK a b):=by
 intro a ha b hb
 have ha':a = "NoneType" ∨ a = "bool" ∨ a = "int" ∨ a = "str" ∨ a = "list" ∨ a = "tuple" ∨ a = "dict":=by simpa [jin] using ha
 have hb':b = "NoneType" ∨ b = "bool" ∨ b = "int" ∨ b = "str" ∨ b = "list" ∨ b = "tuple" ∨ b = "dict":=by simpa [jin] using hb
 rcases ha' with rfl | rfl | rfl | rfl | rfl | rfl | rfl <;> rcases hb' with rfl | rfl | rfl | rfl | rfl | rfl | rfl <;> rfl
def rIsi:List V→Hp→VK→Prop:=fun vs H Q=>∃ x n T,vs = [x,.ty T]∧Knd H x n∧T ∈ jin∧Q (.bl (isiK n T)) H
theorem Knd.mem {H:Hp} {v:V} {n:String} (h:Knd H v n):n ∈ jin:=by cases h <;> simp [jin]
theorem jr6 {X:Cx}:jd0 X (.builtin "isinstance") rIsi:=by
 intro pins s σ H vs us Q I rv h
 obtain ⟨x,n,T,rfl,hk,hT,q⟩:=h
 obtain ⟨u1,u2,rfl,r1,r2⟩:=rv.two
 cases (show u2 = Value.type T from r2)
 exact jpa I r1 hk.ty (jsp n hk.mem T hT) fun tk=>⟨.bl _,H,I.tok tk,rfl,q⟩
end L2
namespace L2
open PySem PySem.Spec PyProof.Rows
section
variable {X:Cx} {e a b c o i:Expr} {es:List Expr} {t t' ta tb tc td te:TE} {pos p p2:Pos}
theorem PE.imp (h:PE X e t) (hi:∀ σ H Q,t' σ H Q→t σ H Q):PE X e t':=fun pins s σ H Q I q=>h pins s σ H Q I (hi σ H Q q)
theorem PG.imp {t t':TG} (h:PG X e t) (hi:∀ v σ H Q,t' v σ H Q→t v σ H Q):PG X e t':=fun pins s σ H v u Q I r q=>h pins s σ H v u Q I r (hi v σ H Q q)
theorem PGs.imp {t t':TGs} (h:PGs X es t) (hi:∀ v σ H Q,t' v σ H Q→t v σ H Q):PGs X es t':=fun pins s σ H v u Q I r q=>h pins s σ H v u Q I r (hi v σ H Q q)
theorem OpR.imp {f:Value→Value→Sem Value} {r r':R2} (h:OpR X f r) (hi:∀ x y H Q,r' x y H Q→r x y H Q):OpR X f r':=fun pins s σ H x y v u Q I rx ry q=>h pins s σ H x y v u Q I rx ry (hi x y H Q q)
theorem jd0.imp {f:Value} {r r':List V→Hp→VK→Prop} (h:jd0 X f r) (hi:∀ vs H Q,r' vs H Q→r vs H Q):jd0 X f r':=fun pins s σ H xs us Q I rv q=>h pins s σ H xs us Q I rv (hi xs H Q q)
theorem IxR.imp {r r':R2} (h:IxR X r) (hi:∀ x y H Q,r' x y H Q→r x y H Q):IxR X r':=fun value slice pins s σ H x y v u Q I rx ry q hs=>h value slice pins s σ H x y v u Q I rx ry (hi x y H Q q) hs
theorem MtR.imp {id:String} {r r':V→List V→Hp→VK→Prop} (h:MtR X id r) (hi:∀ x vs H Q,r' x vs H Q→r x vs H Q):MtR X id r':=fun pins s σ H x xs v us Q I rx rv q=>h pins s σ H x xs v us Q I rx rv (hi x xs H Q q)
theorem PSet.imp {t t':TSet} (h:PSet X t) (hi:∀ o i v H Q,t' o i v H Q→t o i v H Q):PSet X t':=fun pins s σ H o i v ov iv u Q I r1 r2 r3 q=>h pins s σ H o i v ov iv u Q I r1 r2 r3 (hi o i v H Q q)
theorem SlR.imp {r r':V→Option Int→Option Int→Hp→VK→Prop} (h:SlR X r) (hi:∀ x l u H Q,r' x l u H Q→r x l u H Q):SlR X r':=fun pins s σ H x v vl vu lo hi' sl Q I rx hs pl pu q=>h pins s σ H x v vl vu lo hi' sl Q I rx hs pl pu (hi x lo hi' H Q q)
def fVar (i:Nat):TE:=fun σ H Q=>match σ[i]? with
 | some (some v)=>Q v H
 | _=>False
theorem qv (i:Nat) {x:Str} {pos:Pos} (hN:X.N[i]? = some x:=by rfl) (hv:Vis X.env.scope x:=by first | exact Or.inl rfl | exact Or.inr (Or.inl rfl) | exact Or.inr (Or.inr rfl)) (hd:(x == ("__debug__":Str)) = false:=by decide)
  (hcd:(x == ("__classdict__":Str)) = false:=by decide):PE X (.Name x pos) (fVar i):=(pe_var hN hv hd hcd).imp fun σ H Q q=>by
 unfold fVar at q
 split at q
 ·rename_i v e; exact ⟨v,e,q⟩
 ·exact q.elim
def fI (g:Int→Int→V):R2:=fun x y H Q=>match x,y with
 | .int i,.int j=>Q (g i j) H
 | _,_=>False
def fIC (C:Int→Int→Prop) (g:Int→Int→V):R2:=fun x y H Q=>match x,y with
 | .int i,.int j=>C i j∧Q (g i j) H
 | _,_=>False
theorem fI.r {g:Int→Int→V} {x y:V} {H:Hp} {Q:VK} (h:fI g x y H Q):rI0 g x y H Q:=by
 unfold fI at h
 split at h
 ·exact ⟨_,_,rfl,rfl,h⟩
 ·exact h.elim
theorem fIC.r {C:Int→Int→Prop} {g:Int→Int→V} {x y:V} {H:Hp} {Q:VK} (h:fIC C g x y H Q):rI C g x y H Q:=by
 unfold fIC at h
 split at h
 ·exact ⟨_,_,rfl,rfl,h.1,h.2⟩
 ·exact h.elim
theorem jc8:OpR X (binaryOp .Add) (fI fun i j=>.int (i + j)):=op_add.imp fun _ _ _ _=>fI.r
theorem jqf:OpR X (binaryOp .Sub) (fI fun i j=>.int (i - j)):=op_sub.imp fun _ _ _ _=>fI.r
theorem je3:OpR X (binaryOp .Mult) (fIC CMul fun i j=>.int (i * j)):=op_mul.imp fun _ _ _ _=>fIC.r
theorem jjd:OpR X (binaryOp .Mod) (fIC (fun _ j=>0 < j) fun i j=>.int (i % j)):=op_mod.imp fun _ _ _ _=>fIC.r
theorem jlv:OpR X (binaryOp .FloorDiv) (fIC CDiv fun i j=>.int (i / j)):=jsk.imp fun _ _ _ _=>fIC.r
theorem jsc:OpR X (binaryOp .Pow) (fIC CPow fun i j=>.int (i ^ j.toNat)):=op_pow.imp fun _ _ _ _=>fIC.r
theorem q_lt:OpR X (compareOp .Lt) (fI fun i j=>.bl (decide (i < j))):=op_lt.imp fun _ _ _ _=>fI.r
theorem q_le:OpR X (compareOp .LtE) (fI fun i j=>.bl (decide (i ≤ j))):=op_le.imp fun _ _ _ _=>fI.r
theorem q_gt:OpR X (compareOp .Gt) (fI fun i j=>.bl (decide (i > j))):=op_gt.imp fun _ _ _ _=>fI.r
theorem q_ge:OpR X (compareOp .GtE) (fI fun i j=>.bl (decide (i ≥ j))):=op_ge.imp fun _ _ _ _=>fI.r
theorem q_iadd:PIp X .Add (fI fun i j=>.int (i + j)):=fun pins s σ H x y v u Q I rx ry q=>jss pins s σ H x y v u Q I rx ry q.r
def fNeg:V→Hp→VK→Prop:=fun x H Q=>match x with
 | .int i=>Q (.int (-i)) H
 | _=>False
theorem jdo:UnR X (unaryOp .USub) fNeg:=fun pins s σ H x v Q I rx q=>by
 cases x <;> first
  | exact False.elim q
  | exact un_neg pins s σ H _ v Q I rx ⟨_,rfl,q⟩
def fEq:R2:=fun x y H Q=>match x,y with
 | .int i,.int j=>Q (.bl (decide (i = j))) H
 | .bl i,.bl j=>Q (.bl (decide (i = j))) H
 | .str i,.str j=>Q (.bl (decide (i = j))) H
 | _,_=>False
def fNe:R2:=fun x y H Q=>match x,y with
 | .int i,.int j=>Q (.bl (!decide (i = j))) H
 | .bl i,.bl j=>Q (.bl (!decide (i = j))) H
 | .str i,.str j=>Q (.bl (!decide (i = j))) H
 | _,_=>False
theorem dI (i j:Int):decide (V.int i = V.int j) = decide (i = j):=by simp
theorem dB (i j:Bool):decide (V.bl i = V.bl j) = decide (i = j):=by simp
theorem dS (i j:Str):decide (V.str i = V.str j) = decide (i = j):=by simp
theorem q_eq:OpR X (compareOp .Eq) fEq:=op_eq.imp fun x y H Q h=>by
 unfold fEq at h
 split at h
 ·exact ⟨rfl,by rw [dI]; exact h⟩
 ·exact ⟨rfl,by rw [dB]; exact h⟩
 ·exact ⟨rfl,by rw [dS]; exact h⟩
 ·exact h.elim
theorem q_ne:OpR X (compareOp .NotEq) fNe:=op_ne.imp fun x y H Q h=>by
 unfold fNe at h
 split at h
 ·exact ⟨rfl,by rw [dI]; exact h⟩
 ·exact ⟨rfl,by rw [dB]; exact h⟩
 ·exact ⟨rfl,by rw [dS]; exact h⟩
 ·exact h.elim
def jsq:V→Bool
 | .non=>true
 | _=>false
def fIsN (f:Bool→Bool):R2:=fun x y H Q=>match y with
 | .non=>Q (.bl (f (jsq x))) H
 | _=>False
def fAnd (ta tb:TE):TE:=fun σ H Q=>ta σ H fun x H1=>match x with
 | .bl c=>if c = true then tb σ H1 Q else Q (.bl false) H1
 | _=>False
def fOr (ta tb:TE):TE:=fun σ H Q=>ta σ H fun x H1=>match x with
 | .bl c=>if c = true then Q (.bl true) H1 else tb σ H1 Q
 | _=>False
def fNot (ta:TE):TE:=fun σ H Q=>ta σ H fun x H1=>match x with
 | .bl c=>Q (.bl (!c)) H1
 | _=>False
def fB (t:TE):TT:=fun σ H Q=>t σ H fun x H1=>match x with
 | .bl c=>Q c H1
 | _=>False
variable {rest:List Expr}
theorem jdm (ha:PE X a ta) (hb:PE X (.BoolOp .And (b :: rest) pos) tb):PE X (.BoolOp .And (a :: b :: rest) pos) (fAnd ta tb):=by
  intro pins s σ H Q I h
  refine BoolOp_and (thn (ha pins s σ H _ I h) fun v s1 ⟨x,H1,I1,r1,q1⟩=>?_)
  cases x <;> first
    | exact False.elim q1
    | (rename_i c
       cases r1
       refine wpAny_truthy_bool ?_
       cases c with
       | true=>exact hb pins s1 σ H1 Q I1 q1
       | false=>exact ⟨.bl false,H1,I1,rfl,q1⟩)
theorem q_not (ha:PE X a ta):PE X (.UnaryOp .Not a pos) (fNot ta):=by
  intro pins s σ H Q I h
  refine UnaryOp_ (thn (ha pins s σ H _ I h) fun v s1 ⟨x,H1,I1,r1,q1⟩=>?_)
  cases x <;> first
    | exact False.elim q1
    | (rename_i c
       cases r1
       exact not_of (wpAny_truthy_bool ⟨.bl (!c),H1,I1,rfl,q1⟩))
theorem jb6 {t:TE} (h:PE X e t) (he:∀ whole,isTrue e X.env whole = (do let v ← whole; standAt e.pos; holding [v] (truthy v)):=by intro _; rfl):PT X e (fB t):=by
  intro pins s σ H Q I hw
  refine isTrue_plain (thn (h pins s σ H _ I hw) fun v s1 ⟨x,H1,I1,r1,q1⟩=>?_) (he _)
  cases x <;> first
    | exact False.elim q1
    | (cases r1
       exact wpAny_truthy_bool ⟨H1,I1,q1⟩)
theorem jao {op:CmpOp} {r:R2} (ho:OpR X (compareOp op) r) (ha:PE X a ta) (hb:PE X b tb) (hm:behindInMarks op b = false):PT X (.Compare a [op] [b] pos) (fB (tOp r ta tb)):=by
  intro pins s σ H Q I h
  refine wpAny_isTrue_Compare1 (thn (ha pins s σ H _ I h) fun v s1 ⟨x,H1,I1,r1,q1⟩=>thn (hb pins s1 σ H1 _ I1 q1) fun u s2 ⟨y,H2,I2,r2,q2⟩ =>
    thn (ho pins s2 σ H2 x y v u _ I2 r1 r2 q2) fun c s3 ⟨z,H3,I3,r3,q3⟩=>?_) hm
  cases z <;> first
    | exact False.elim q3
    | (cases r3
       exact wpAny_truthy_bool ⟨H3,I3,q3⟩)
theorem jsa {op:CmpOp} {t:TE} (h:PC X op a b t) (h1:behindInMarks op b = false:=by first | exact jih _ (by decide) (by decide) | rfl):PT X (.Compare a [op] [b] pos) (fB t):=by
  intro pins s σ H Q I hw
  refine wpAny_isTrue_Compare1 (thn (h pins s σ H _ I hw) fun v s1 h1=>thn h1 fun u s2 h2=>thn h2 fun c s3 ⟨x,H1,I1,r1,q1⟩=>?_) h1
  cases x <;> first
    | exact False.elim q1
    | (cases r1
       exact wpAny_truthy_bool ⟨H1,I1,q1⟩)
def jma (r r':R2) (ta tb tc:TE):TE:=fun σ H Q=>ta σ H fun x H1=>tb σ H1 fun y H2=>r x y H2 fun z H3=>match z with
 | .bl k=>(if k = true then tc σ H3 fun w' H4=>r' y w' H4 Q else Q (.bl false) H3)
 | _=>False
theorem jo8 {op op':CmpOp} {g:Int→Int→Bool} {r':R2} (ho:OpR X (compareOp op) (fI fun i j=>.bl (g i j))) (ho':OpR X (compareOp op') r') (ha:PE X a ta) (hb:PE X b tb) (hc:PE X c tc)
  (hm:lastMarks [op,op'] [b,c] = false:=by with_unfolding_all rfl):PE X (.Compare a [op,op'] [b,c] pos) (jma (fI fun i j=>.bl (g i j)) r' ta tb tc):=by
 intro pins s σ H Q I h
 refine Compare_chain (thn (ha pins s σ H _ I h) fun v s1 ⟨x,H1,I1,r1,q1⟩=>chain_link (thn (hb pins s1 σ H1 _ I1 q1) fun u s2 ⟨y,H2,I2,r2,q2⟩ =>
  thn (ho pins s2 σ H2 x y v u (fun z H3=>∃ k,z = .bl k∧(if k = true then tc σ H3 fun w' H4=>r' y w' H4 Q else Q (.bl false) H3)) I2 r1 r2 ?_) fun d s3 ⟨z,H3,I3,r3,k,e,q3⟩=>?_)) hm
 ·dsimp only at q2
  unfold fI at q2 ⊢
  cases x <;> cases y <;> first
   | exact q2.elim
   | exact ⟨_,rfl,q2⟩
 ·subst e
  cases r3
  refine wpAny_truthy_bool ?_
  cases k with
  | false=>exact ite_ff ⟨.bl false,H3,I3,rfl,q3⟩
  | true=>exact ite_tt (chain_last (thn (hc pins s3 σ H3 _ I3 q3) fun w' s4 ⟨z',H4,I4,r4,q4⟩=>ho' pins s4 σ H4 y z' u w' Q I4 r2 r4 q4))
def jaj (H:Hp) (p:Addr):Option (List V):=match H p with
 | some (.lst xs)=>some xs
 | some (.tup xs)=>some xs
 | some (.frz _ (.lst xs))=>some xs
 | _=>none
theorem jfy {K:PySem.W.Frag} {H:Hp} {p:Addr} {xs:List V} (h:jaj H p = some xs):SqL K H p xs ∨ SqT K H p xs:=by
 unfold jaj at h
 split at h
 ·rename_i ys e; cases h; exact .inl (.inl (.inl e))
 ·rename_i ys e; cases h; exact .inr (SqT.of e)
 ·rename_i o ys e; cases h; exact .inl (.inl (.inr ⟨_,e⟩))
 ·cases h
def fIx:R2:=fun x y H Q=>match x,y with
 | .ref p,.int i=>match jaj H p with
  | some xs=>match atI xs i with
   | some v=>Q v H
   | none=>False
  | none=>False
 | _,_=>False
theorem q_ix:IxR X fIx:=(jp9.or ix_tup).imp fun x y H Q h=>by
 unfold fIx at h
 split at h
 ·split at h
  ·rename_i xs e
   split at h
   ·rename_i v ev
    rcases jfy (K:=X.K) e with z | z
    ·exact .inl ⟨_,_,_,_,rfl,rfl,z,ev,h⟩
    ·exact .inr ⟨_,_,_,_,rfl,rfl,z,ev,h⟩
   ·exact h.elim
  ·exact h.elim
 ·exact h.elim
def fLen:List V→Hp→VK→Prop:=fun vs H Q=>match vs with
 | [.ref p]=>match jaj H p with
  | some xs=>Q (.int xs.length) H
  | none=>False
 | _=>False
theorem jcj:jd0 X (.builtin "len") fLen:=jdv.imp fun vs H Q h=>by
 unfold fLen at h
 split at h
 ·split at h
  ·rename_i xs e; exact ⟨_,xs,rfl,jfy e,h⟩
  ·exact h.elim
 ·exact h.elim
def jir:List V→Hp→VK→Prop:=fun vs H Q=>match vs with
 | [.ref p]=>match jaj H p with
  | some xs=>∀ l,H l = none→Q (.ref l) (upd H l (.lst xs))
  | none=>False
 | _=>False
theorem jcm:jd0 X (.type "list") jir:=jkb.imp fun vs H Q h=>by
 unfold jir at h
 split at h
 ·split at h
  ·rename_i xs e; exact ⟨_,xs,rfl,jfy e,h⟩
  ·exact h.elim
 ·exact h.elim
def fMin:List V→Hp→VK→Prop:=fun vs H Q=>match vs with
 | [.int i,.int j]=>Q (.int (if j < i then j else i)) H
 | _=>False
theorem q_min (hc:X.calm = true):jd0 X (.builtin "min") fMin:=(jpx hc).imp fun vs H Q h=>by
 unfold fMin at h
 split at h
 ·exact ⟨_,_,rfl,h⟩
 ·exact h.elim
def fSlL:V→Option Int→Option Int→Hp→VK→Prop:=fun x lo hi H Q=>match x with
 | .ref a=>match H a with
  | some (.lst xs)=>∀ p,H p = none→Q (.ref p) (upd H p (.lst (cutV xs lo hi)))
  | _=>False
 | _=>False
theorem q_slL:SlR X fSlL:=js9.imp fun x l u H Q h=>by
 unfold fSlL at h
 split at h
 ·split at h
  ·rename_i xs e; exact ⟨_,xs,rfl,SqL.of e,h⟩
  ·exact h.elim
 ·exact h.elim
def jeh:V→List V→Hp→VK→Prop:=fun x vs H Q=>match x,vs with
 | .ref l,[y]=>match H l with
  | some (.lst xs)=>xs.length < sizeLine∧Q .non (upd H l (.lst (xs ++ [y])))
  | _=>False
 | _,_=>False
theorem jct:MtR X "list.append" jeh:=MtR.imp (r:=jo5) (fun pins s σ H x xs v us Q I rx rv q=>jjr pins s σ H x xs v us Q I rx rv q) fun x vs H Q h=>by
 unfold jeh at h
 split at h
 ·split at h
  ·rename_i xs e; exact ⟨_,xs,_,rfl,rfl,e,h.1,h.2⟩
  ·exact h.elim
 ·exact h.elim
def fBM (r:V→List V→Hp→VK→Prop) (to:TE) (t:TA):TE:=fun σ H Q=>to σ H fun x H1=>(∃ a xs,x = .ref a∧H1 a = some (.lst xs))∧t σ H1 fun xs H2=>r x xs H2 Q
def jqw:TSet:=fun o i v H Q=>match o,i with
 | .ref p,.int k=>match H p with
  | some (.lst xs)=>match ixN xs.length k with
   | some j=>Q (upd H p (.lst (xs.set j v)))
   | none=>False
  | _=>False
 | _,_=>False
theorem jd7:PSet X jqw:=jqc.imp fun o i v H Q h=>by
 unfold jqw at h
 split at h
 ·split at h
  ·rename_i xs e
   split at h
   ·rename_i j ej; exact ⟨_,xs,_,j,rfl,rfl,e,ej,h⟩
   ·exact h.elim
  ·exact h.elim
 ·exact h.elim
def jph:TGs:=fun vs σ H Q=>match vs with
 | []=>Q σ H
 | _=>False
def jk3 (t:TG) (u:TGs):TGs:=fun vs σ H Q=>match vs with
 | v :: r=>t v σ H fun σ' H'=>u r σ' H' Q
 | []=>False
theorem jbf:PGs X [] jph:=jsg.imp fun v σ H Q h=>by
 unfold jph at h
 split at h
 ·exact ⟨rfl,h⟩
 ·exact h.elim
theorem jag {t:TG} {u:TGs} (h1:PG X e t) (h2:PGs X es u) (hs:(assignEach (e :: es) X.env).map (·.2) = assign e X.env :: (assignEach es X.env).map (·.2):=by rfl):PGs X (e :: es) (jk3 t u):=(jqi h1 h2 hs).imp fun v σ H Q h=>by
 unfold jk3 at h
 split at h
 ·exact ⟨_,_,rfl,h⟩
 ·exact h.elim
def jpg (n:Nat) (t:TGs):TG:=fun v σ H Q=>match v with
 | .ref a=>match H a with
  | some (.tup xs)=>xs.length = n∧t xs σ H Q
  | _=>False
 | _=>False
theorem jcd {k:Nat} {t:TGs} {n:Nat} (hc:X.calm = true) (h:PGs X es t) (hn:(assignEach es X.env).length = n:=by rfl) (hst:(assignEach es X.env).findIdx? (·.1) = none:=by rfl):PG X (.Tuple es k pos) (jpg n t) :=
 (pg_tup hc h hn hst).imp fun v σ H Q q=>by
  unfold jpg at q
  split at q
  ·split at q
   ·rename_i xs e; exact ⟨_,xs,rfl,SqT.of e,q.1,q.2⟩
   ·exact q.elim
  ·exact q.elim
def fDIn (f:Bool→Bool) (ty td:TE):TE:=fun σ H Q=>ty σ H fun y H1=>td σ H1 fun x H2=>match y,x with
 | .int n,.ref a=>match H2 a with
  | some (.dK kvs)=>Q (.bl (f (valV kvs (Sum.inl n:Key)).isSome)) H2
  | _=>False
 | _,_=>False
def jsz (td ty:TE):TE:=fun σ H Q=>td σ H fun x H1=>ty σ H1 fun y H2=>match x,y with
 | .ref a,.int n=>match H2 a with
  | some (.dK kvs)=>match valV kvs (Sum.inl n:Key) with
   | some v=>Q v H2
   | none=>False
  | _=>False
 | _,_=>False
end
section
variable {X:Cx} {o i:Expr} {td ty:TE} {pos:Pos}
theorem jru {f:Bool→Bool} {H2:Hp} {Q:VK} {y x:V} (h:(match y,x with
  | .int n,.ref a=>match H2 a with
    | some (.dK kvs)=>Q (.bl (f (valV kvs (Sum.inl n:Key)).isSome)) H2
    | _=>False
  | _,_=>False)):∃ a ov,x = .ref a∧DGet H2 a y ov∧Q (.bl (f ov.isSome)) H2:=by
  cases y <;> cases x <;> first
    | exact h.elim
    | (rename_i n a
       dsimp only at h
       split at h
       · rename_i kvs e; exact ⟨a,_,rfl,DGet.k (k:=Sum.inl n) e,h⟩
       · exact h.elim)
theorem jse (hu:X.A.units + 1 < cLine) (hi:PE X i ty) (ho:PE X o td):PC X .In i o (fDIn id ty td):=by
 intro pins s σ H Q I h
 refine thn (hi pins s σ H _ I h) fun iv s1 ⟨y,H1,I1,ry,q1⟩=>thn (ho pins s1 σ H1 _ I1 q1) fun u s2 ⟨x,H2,I2,rx,q2⟩=>?_
 obtain ⟨a,ov,ex,g,q3⟩:=jru q2
 subst ex
 obtain rfl:u = Value.ref a:=rx
 exact d_in hu I2 g ry fun s' I3=>⟨.bl ov.isSome,H2,I3,rfl,q3⟩
theorem ji9 (hu:X.A.units + 1 < cLine) (hi:PE X i ty) (ho:PE X o td):PC X .NotIn i o (fDIn not ty td):=by
 intro pins s σ H Q I h
 refine thn (hi pins s σ H _ I h) fun iv s1 ⟨y,H1,I1,ry,q1⟩=>thn (ho pins s1 σ H1 _ I1 q1) fun u s2 ⟨x,H2,I2,rx,q2⟩=>?_
 obtain ⟨a,ov,ex,g,q3⟩:=jru q2
 subst ex
 obtain rfl:u = Value.ref a:=rx
 exact jpq hu I2 g ry fun s' I3=>⟨.bl (!ov.isSome),H2,I3,rfl,q3⟩
theorem je7 (hu:X.A.units + 1 < cLine) (ho:PE X o td) (hi:PE X i ty) (hs:NoSl i):PE X (.Subscript o i pos) (jsz td ty):=by
  intro pins s σ H Q I h
  refine js8 PySem.F.slot_dict_getitem.lookup hs (thn (ho pins s σ H _ I h) fun u s1 ⟨x,H1,I1,rx,q1⟩=>thn (hi pins s1 σ H1 _ I1 q1) fun iv s2 ⟨y,H2,I2,ry,q2⟩=>?_)
  cases x <;> cases y <;> first
    | exact False.elim q2
    | (dsimp only at q2
       split at q2
       · rename_i kvs e
         split at q2
         · rename_i v ev
           cases rx
           have g:∀ {a:Addr} {n:Int},H2 a = some (.dK kvs)→valV kvs (Sum.inl n:Key) = some v→DGet H2 a (.int n) (some v):=fun e1 e2=>e2 ▸ DGet.k (k:=Sum.inl _) e1
           have g:=g e ev
           exact ⟨jle I2 g,jpr hu I2 g ry fun w' s3 I3 rw'=>⟨v,H2,I3,rw',q2⟩⟩
         · exact q2.elim
       · exact q2.elim)
theorem q_bm {e:Expr} {es:List Expr} {to:TE} {t:TA} {name:Str} {apos cpos:Pos} {id:String} {r:V→List V→Hp→VK→Prop} (pa:PlainAttrs "list") (slot:Slot "list" name id) (hty:typeOf (.builtin id) = pure (.type "method_descriptor")) (hm:MtR X id r) (ho:PE X o to) (ha:PA X (e :: es) t)
  (hbase:attributeBase o name X.env (eval o X.env) = eval o X.env:=by rfl)
  (hfew:((backTo cpos (starEach (e :: es) X.env)).all (fun x=>!x.1) && (backToKw cpos (keywordEach [] X.env)).all (fun x=>x.1.isSome)
   && decide ((e :: es).length + ([]:List Keyword).length + (if ([]:List Keyword).isEmpty then 0 else 1) < 30)) = true:=by rfl)
  (hline:(apos.endLine == cpos.line) = true:=by rfl) (hs:starEach (e :: es) X.env = (false,eval e X.env) :: starEach es X.env:=by rfl) (hplain:(backTo cpos (starEach es X.env)).any (·.1) = false:=by rfl) :
  PE X (.Call (.Attribute o name apos) (e :: es) [] cpos) (fBM r to t):=by
 intro pins s σ H Q I h
 refine wpAny_Call_method_late hbase hfew hline rfl (thn (ho pins s σ H _ I h) fun v s1 ⟨x,H1,I1,r1,⟨a,xs,ex,ea⟩,q1⟩=>?_)
 subst ex
 obtain ⟨h1,h2⟩:=tyV_is (T:="list") I1 r1 (.inl ⟨rfl,_,SqL.of ea⟩)
 refine ⟨"list",id,pa,slot,hty,h1,h2,?_⟩
 have hA:=ha cpos pins s1 σ H1 _ I1 q1
 rw [hs] at hA ⊢
 refine Calls.callWith_builtin (by show (false || (backTo cpos (starEach es X.env)).any (·.1)) = false; rw [hplain] <;> rfl) (Calls.evalArgs_plain ?_)
 exact thn hA fun us s2 ⟨vs,H2,I2,r2,q2⟩=>hm pins s2 σ H2 _ vs v us Q I2 r1 r2 q2
end
inductive Kd where
 | non | bl | int | str | lst | tup | dct
 deriving DecidableEq
def Kd.nm:Kd→String
 | .non=>"NoneType"
 | .bl=>"bool"
 | .int=>"int"
 | .str=>"str"
 | .lst=>"list"
 | .tup=>"tuple"
 | .dct=>"dict"
def kd (H:Hp) (v:V):Option Kd:=match v with
 | .non=>some .non
 | .bl _=>some .bl
 | .int _=>some .int
 | .str _=>some .str
 | .ref a=>match H a with
  | some (.lst _)=>some .lst
  | some (.tup _)=>some .tup
  | some (.dK _)=>some .dct
  | _=>none
 | _=>none
def isi (a b:Kd):Bool:=match a,b with
 | .bl,.int=>true
 | .non,.non=>true
 | .bl,.bl=>true
 | .int,.int=>true
 | .str,.str=>true
 | .lst,.lst=>true
 | .tup,.tup=>true
 | .dct,.dct=>true
 | _,_=>false
theorem kd_knd {H:Hp} {v:V} {k:Kd} (h:kd H v = some k):Knd H v k.nm:=by
 unfold kd at h
 split at h
 ·cases h; exact .non
 ·cases h; exact .bl
 ·cases h; exact .int
 ·cases h; exact .str
 ·split at h
  ·rename_i e; cases h; exact .lst e
  ·rename_i e; cases h; exact .tup e
  ·rename_i e; cases h; exact .dK e
  ·cases h
 ·cases h
theorem isi_K (a b:Kd):isiK a.nm b.nm = isi a b:=by cases a <;> cases b <;> rfl
theorem Kd.mem (b:Kd):b.nm ∈ jin:=by cases b <;> simp [jin,Kd.nm]
def fIsi (T:Kd):List V→Hp→VK→Prop:=fun vs H Q=>match vs with
 | [x,y]=>y = .ty T.nm∧match kd H x with
  | some k=>Q (.bl (isi k T)) H
  | none=>False
 | _=>False
theorem jdl {X:Cx} (T:Kd):jd0 X (.builtin "isinstance") (fIsi T):=jr6.imp fun vs H Q h=>by
 unfold fIsi at h
 split at h
 ·obtain ⟨rfl,h⟩:=h
  split at h
  ·rename_i k e
   exact ⟨_,_,_,rfl,kd_knd e,Kd.mem T,by rw [isi_K]; exact h⟩
  ·exact h.elim
 ·exact h.elim
def fAug (i:Nat) (te:TE) (ti:TIp):TS:=fun D σ H=>match σ[i]? with
 | some (some x)=>te σ H fun y H1=>ti x y H1 fun z H2=>D.nx (σ.set i (some z)) H2
 | _=>False
theorem qs_aug {X:Cx} {pos:Pos} {i:Nat} {x:Str} {e:Expr} {te:TE} {op:Operator} {ti:TIp} {pos':Pos} (hN:X.N.Nodup) (hi:X.N[i]? = some x) (hx:Loc X.env.scope x) (he:PE X e te) (ho:PIp X op ti) (hf:X.fn x = true ∨ X.env.scope.names.lookup x = some .local:=by first | exact .inl rfl | exact .inr rfl | assumption) :
  PS X (.AugAssign (.Name x pos') op e pos) (fAug i te ti):=fun pins s σ H D I h=>ps_aug hN hi hx he ho hf pins s σ H D I (by
 unfold fAug at h
 split at h
 ·rename_i x e; exact ⟨x,e,h⟩
 ·exact h.elim)
def jsx (t:TE):TO:=fun σ H Q=>t σ H fun x H1=>match x with
 | .int i=>Q (some i) H1
 | _=>False
theorem jbe {X:Cx} {e:Expr} {te:TE} (h:PE X e te):PO X (some e) (jsx te):=by
  intro pins s σ H Q I hw
  rw [evalPart_some]
  refine thn (h pins s σ H _ I hw) fun u s1 ⟨x,H1,I1,r1,q1⟩=>?_
  cases x <;> first
    | exact False.elim q1
    | (obtain ⟨t,rfl⟩:=r1
       exact ⟨some _,H1,I1,.int _ t,q1⟩)
def jk4 (f:List Bool→Bool):List V→Hp→VK→Prop:=fun vs H Q=>match vs with
 | [.ref l]=>match H l with
  | some (.lst xs)=>∃ bs:List Bool,xs = bs.map V.bl∧Q (.bl (f bs)) H
  | _=>False
 | _=>False
theorem jr0 {f:List Bool→Bool} {vs:List V} {H:Hp} {Q:VK} (h:jk4 f vs H Q):jrh f vs H Q:=by
 unfold jk4 at h
 split at h
 ·split at h
  ·rename_i xs e
   obtain ⟨bs,rfl,h⟩:=h
   exact ⟨_,bs,rfl,e,h⟩
  ·exact h.elim
 ·exact h.elim
theorem jqg {X:Cx} (hc:X.calm = true):jd0 X (.builtin "all") (jk4 fun bs=>bs.all id):=(jr7 hc).imp fun _ _ _=>jr0
def jm9:List V→Hp→VK→Prop:=fun vs H Q=>match vs with
 | [.ref l]=>match H l with
  | some (.lst xs)=>∃ kvs:List (Key × V),Paired (PairAt H) xs kvs∧xs.length ≤ 1000∧(kvs.map (·.1)).Nodup∧∀ d,H d = none→Q (.ref d) (upd H d (.dK kvs))
  | _=>False
 | _=>False
theorem jgd {X:Cx} (hc:X.calm = true):jd0 X (.type "dict") jm9:=(jn1 hc).imp fun vs H Q h=>by
 unfold jm9 at h
 split at h
 ·split at h
  ·rename_i xs e
   obtain ⟨kvs,h1,h2,h3,h4⟩:=h
   exact ⟨_,xs,kvs,rfl,e,h1,h2,h3,h4⟩
  ·exact h.elim
 ·exact h.elim
def fLtT:R2:=fun x y H Q=>match x,y with
 | .ref a,.ref b=>match H a,H b with
  | some (.tup [.int i,.int j]),some (.tup [.int k,.int l])=>Q (.bl (HT.lexLt [i,j] [k,l])) H
  | _,_=>False
 | _,_=>False
theorem q_ltT {X:Cx} (hu:X.A.units < cLine):OpR X (compareOp .Lt) fLtT:=(op_ltT hu).imp fun x y H Q h=>by
 unfold fLtT at h
 split at h
 ·split at h
  ·rename_i a b _ _ i j k l e1 e2
   exact ⟨a,b,[i,j],[k,l],rfl,rfl,SqT.of e1,SqT.of e2,h⟩
  ·exact h.elim
 ·exact h.elim
def capB (XN:List Str) (names:List (Str × NameKind)):List Str→List (Option Nat)→Bool
 | [],[]=>true
 | x :: N,none :: r=>capB XN names N r
 | x :: N,some j :: r=>(XN[j]? == some x) && (names.lookup x == some .free) && capB XN names N r
 | _,_=>false
theorem jlf {XN:List Str} {names:List (Str × NameKind)}:∀ {N:List Str} {src:List (Option Nat)},capB XN names N src = true→src.length = N.length∧∀ (i j:Nat),src[i]? = some (some j)→XN[j]? = N[i]?∧(N[i]?).elim False (fun x=>names.lookup x = some .free)
 | [],[],_=>⟨rfl,fun i j e=>by simp at e⟩
 | x :: N,none :: r,h=>by
  obtain ⟨h1,h2⟩:=jlf (N:=N) (src:=r) h
  refine ⟨by simp [h1],fun i j e=>?_⟩
  cases i with
  | zero=>simp at e
  | succ i=>exact h2 i j (by simpa using e)
 | x :: N,some k :: r,h=>by
  have h':((XN[k]? == some x) && (names.lookup x == some .free) && capB XN names N r) = true:=h
  rw [Bool.and_eq_true,Bool.and_eq_true] at h'
  obtain ⟨h1,h2⟩:=jlf (N:=N) (src:=r) h'.2
  refine ⟨by simp [h1],fun i j e=>?_⟩
  cases i with
  | zero =>
   have e':k = j:=by simpa using e
   subst e'
   exact ⟨by simpa using h'.1.1,by simpa using h'.1.2⟩
  | succ i=>exact h2 i j (by simpa using e)
def jm0:List Str→Bool
 | []=>true
 | x :: r=>!(r.contains x) && jm0 r
theorem jai:∀ {l:List Str},jm0 l = true→l.Nodup
 | [],_=>List.nodup_nil
 | x :: r,h=>by
  have h':(!(r.contains x) && jm0 r) = true:=h
  rw [Bool.and_eq_true] at h'
  exact List.nodup_cons.mpr ⟨by simpa using h'.1,jai h'.2⟩
def cpB (XN:List Str) (outer:List (Str × NameKind)) (scope:Scope) (N:List Str) (src:List (Option Nat)):Bool :=
 (scope.kind == .function) && scope.names.all (fun y=>y.2 != .cell) && scope.names.all (fun y=>y.2 != .local || scope.names.lookup y.1 == some .local) &&
  scope.names.all (fun y=>y.2 != .free || (scope.names.lookup y.1 == some .free && outer.lookup y.1 == some .cell)) && jm0 N && capB XN scope.names N src
theorem CpScope.of {X:Cx} {scope:Scope} {N:List Str} {src:List (Option Nat)} (h:cpB X.N X.env.scope.names scope N src = true):CpScope X scope N src:=by
 unfold cpB at h
 simp only [Bool.and_eq_true] at h
 obtain ⟨⟨⟨⟨⟨h1,h2⟩,h3⟩,h4⟩,h5⟩,h6⟩:=h
 rw [List.all_eq_true] at h2 h3 h4
 obtain ⟨l,c⟩:=jlf h6
 refine ⟨by simpa using h1,fun y hy=>by simpa using h2 y hy,fun y hy e=>?_,fun y hy e=>?_,jai h5,l,c⟩
 ·have:=h3 y hy
  rw [e] at this
  simpa using this
 ·have:=h4 y hy
  rw [e] at this
  simpa using this
end L2
namespace L2
open PySem PySem.Spec PyProof.Rows
theorem jm8 {K:PySem.W.Frag} {a:Addr} {xs:List V} {g:TG} {tb:TS} {D:Ends} {σ:St} {H:Hp} (Pv:Nat→St→Hp→Prop) (h0:Pv 0 σ H) (hl:∀ i σ H,i ≤ xs.length→Pv i σ H→SqL K H a xs)
  (hs:∀ i x σ H t,xs[i]? = some x→Pv i σ H→H t = none→g (.ref t) σ (upd H t (.tup [.int i,x])) fun σ2 H2=>tb { D with nx:=Pv (i + 1),ct:=Pv (i + 1),bk:=D.nx } σ2 H2) (hd:∀ σ H,Pv xs.length σ H→D.nx σ H) :
  ∃ W:Nat→Nat→St→Hp→Prop,(∃ m,W 0 m σ H)∧∀ i m σ H,W i m σ H →
   ((Ite K a).stop i H∧D.nx σ H) ∨ ((Ite K a).go i H∧∃ N:St→Hp→Prop,(∀ σ' H',N σ' H'→∃ m',m' < m∧W (i + 1) m' σ' H')∧∀ x H',(Ite K a).yld i H x H'→g x σ H' fun σ2 H2=>tb { D with nx:=N,ct:=N,bk:=D.nx } σ2 H2):=by
 refine ⟨fun i m σ H=>m = xs.length - i∧i ≤ xs.length∧Pv i σ H,⟨xs.length,by simp,Nat.zero_le _,h0⟩,?_⟩
 rintro i m σ H ⟨rfl,hi,p⟩
 have q:=hl i σ H hi p
 by_cases hlt:i < xs.length
 ·refine .inr ⟨⟨xs,xs[i],q,by simp [hlt]⟩,Pv (i + 1),fun σ' H' p'=>⟨xs.length - (i + 1),by omega,rfl,hlt,p'⟩,fun x H' y=>?_⟩
  obtain ⟨t,z,ht,e1,e2,y⟩:=y
  subst e1 e2
  exact hs i z σ _ t (y xs q) p ht
 ·have e:i = xs.length:=by omega
  subst e
  exact .inl ⟨⟨xs,q,Nat.le_refl _⟩,hd σ H p⟩
theorem jb0 {wi:TI} {g:TG} {tb:TS} {D:Ends} {σ:St} {H:Hp} (J:It) (H1:Hp) (h1:∀ R:It→Hp→Prop,R J H1→wi σ H R)
  (h2:∃ W:Nat→Nat→St→Hp→Prop,(∃ m,W 0 m σ H1)∧∀ i m σ H,W i m σ H→(J.stop i H∧D.nx σ H) ∨ (J.go i H∧∃ N:St→Hp→Prop,(∀ σ' H',N σ' H'→∃ m',m' < m∧W (i + 1) m' σ' H')∧∀ x H',J.yld i H x H'→g x σ H' fun σ2 H2=>tb { D with nx:=N,ct:=N,bk:=D.nx } σ2 H2)) :
  tFor wi g tb D σ H:=h1 _ h2
theorem jas {src:List (Option Nat)} {wi:TI} {g:TG} {tc:TT} {te:TE} {Q:VK} {σ:St} {H:Hp} (J:It) (H1:Hp) (h1:∀ R:It→Hp→Prop,R J H1→wi σ H R) (h2:∀ l,H1 l = none→jq6 J src g tc te Q σ H1 l):jqa src wi g tc te σ H Q:=h1 _ h2
theorem ja5 {H:Hp} {p:Addr} (h:H p = none) (o:HO):Same H (upd H p o):=fun b u q=>by rw [jae (jab q h)]; exact q
theorem jan {H H':Hp} {p:Addr} {o:HO} (s:Same H H') (h:H p = none):Same H (upd H' p o):=fun b u q=>by rw [jae (jab q h)]; exact s b u q
def Pr (H:Hp) (v:V) (p:Int × Int):Prop:=∃ t,v = .ref t∧H t = some (.tup [.int p.1,.int p.2])
theorem Pr.same {H H':Hp} {v:V} {p:Int × Int} (h:Pr H v p) (s:Same H H'):Pr H' v p:=let ⟨t,e,q⟩:=h; ⟨t,e,s _ _ q⟩
def jsr:HO→Bool
 | .tup _=>true
 | .frz _ _=>true
 | _=>false
def TupS (H H':Hp):Prop:=∀ b o,jsr o = true→H b = some o→H' b = some o
theorem Same.tups {H H':Hp} (s:Same H H'):TupS H H':=fun b o _ q=>s b _ q
theorem TupS.trans {H H1 H2:Hp} (a:TupS H H1) (b:TupS H1 H2):TupS H H2:=fun c o i q=>b c o i (a c o i q)
theorem jb2 {H:Hp} {l:Addr} {xs ys:List V} (h:H l = some (.lst xs)):TupS H (upd H l (.lst ys)):=fun b o i q=>by
 have:b ≠ l:=fun z=>by rw [z,h] at q; cases q; cases i
 rw [jae this]
 exact q
theorem Pr.tups {H H':Hp} {v:V} {p:Int × Int} (h:Pr H v p) (s:TupS H H'):Pr H' v p:=let ⟨t,e,q⟩:=h; ⟨t,e,s _ _ rfl q⟩
def Scr (K:PySem.W.Frag) (H:Hp) (a:Addr) (ns:List Int):Prop :=
 (∃ o,H a = some (.frz o (.lst (ns.map V.int)))) ∨ ∃ (o:Obj) (its:Array Value) (n:Nat),K.lookup a = some o∧o.cls = .type "list"∧o.dict = none∧o.data = .seq its n∧its.size ≤ sizeLine∧Vals (ns.map V.int) its.toList
theorem Scr.sq {K:PySem.W.Frag} {H:Hp} {a:Addr} {ns:List Int} (h:Scr K H a ns):SqL K H a (ns.map V.int):=h.elim (fun ⟨o,q⟩=>.inl (.inr ⟨o,q⟩)) .inr
theorem Scr.of {K:PySem.W.Frag} {H:Hp} {a:Addr} {ns:List Int} (h:SqL K H a (ns.map V.int)) (o:Only H):Scr K H a ns:=by
 rcases h with (h | ⟨ob,h⟩) | h
 ·rcases o a with z | ⟨ob,xs,z⟩
  ·rw [h] at z; cases z
  ·rw [h] at z; cases z
 ·exact .inl ⟨ob,h⟩
 ·exact .inr h
theorem Scr.tups {K:PySem.W.Frag} {H H':Hp} {a:Addr} {ns:List Int} (h:Scr K H a ns) (s:TupS H H'):Scr K H' a ns:=h.elim (fun ⟨o,q⟩=>.inl ⟨o,s _ _ rfl q⟩) .inr
abbrev Prs (H:Hp):List V→List (Int × Int)→Prop:=Paired (Pr H)
theorem Prs.tups {H H':Hp} (s:TupS H H') {xs:List V} {ps:List (Int × Int)} (h:Prs H xs ps):Prs H' xs ps:=Paired.mapP h fun _ _ q=>q.tups s
theorem Prs.same {H H':Hp} (s:Same H H') {xs:List V} {ps:List (Int × Int)} (h:Prs H xs ps):Prs H' xs ps:=Prs.tups s.tups h
theorem jaa {α β:Type} {F:α→β→Prop}:∀ {xs:List α} {ys:List β} {i:Nat} {x:α},Paired F xs ys→xs[i]? = some x→∃ y,ys[i]? = some y∧F x y
 | _,_,_,_,.nil,e=>by simp at e
 | _,_,0,_,.cons r _,e=>by simp at e; subst e; exact ⟨_,rfl,r⟩
 | _,_,i + 1,y,.cons _ t,e=>by
  obtain ⟨u,h1,h2⟩:=jaa (i:=i) t (by simpa using e)
  exact ⟨u,by simpa using h1,h2⟩
theorem jc6 {α β:Type} {F:α→β→Prop}:∀ {xs:List α} {ys:List β} {i:Nat} {y:β},Paired F xs ys→ys[i]? = some y→∃ x,xs[i]? = some x∧F x y
 | _,_,_,_,.nil,e=>by simp at e
 | _,_,0,_,.cons r _,e=>by simp at e; subst e; exact ⟨_,rfl,r⟩
 | _,_,i + 1,y,.cons _ t,e=>by
  obtain ⟨u,h1,h2⟩:=jc6 (i:=i) t (by simpa using e)
  exact ⟨u,by simpa using h1,h2⟩
theorem jav {α β:Type} {F:α→β→Prop} {a:α} {b:β} {l₁:List α} {l₂:List β} (h:Paired F l₁ l₂) (r:F a b):Paired F (l₁ ++ [a]) (l₂ ++ [b]):=Paired.snoc h r
theorem jch {α:Type} {l:List α} {i:Nat} {x:α} (h:l[i]? = some x):l.drop i = x :: l.drop (i + 1):=by
 obtain ⟨h1,h2⟩:=List.getElem?_eq_some_iff.mp h
 rw [List.drop_eq_getElem_cons h1,h2]
theorem jar {α:Type} {l:List α} {i:Nat} {x:α} (h:l[i]? = some x):l.take (i + 1) = l.take i ++ [x]:=by
 obtain ⟨h1,h2⟩:=List.getElem?_eq_some_iff.mp h
 rw [List.take_succ,h]
 rfl
inductive Dt where
 | non
 | bl (b:Bool)
 | int (i:Int)
 | str (x:Str)
 | tup (ds:List Dt)
 | lst (ds:List Dt)
mutual
def Rep (H:Hp):Dt→V→Prop
 | .non,v=>v = .non
 | .bl b,v=>v = .bl b
 | .int i,v=>v = .int i
 | .str x,v=>v = .str x
 | .tup ds,v=>∃ a vs,v = .ref a∧H a = some (.tup vs)∧Reps H ds vs
 | .lst ds,v=>∃ a vs,v = .ref a∧H a = some (.lst vs)∧Reps H ds vs
def Reps (H:Hp):List Dt→List V→Prop
 | [],vs=>vs = []
 | d :: ds,vs=>∃ v r,vs = v :: r∧Rep H d v∧Reps H ds r
end
mutual
theorem Rep.same {H H':Hp} (s:Same H H'):∀ (d:Dt) {v:V},Rep H d v→Rep H' d v
 | .non,_,h=>by rw [Rep] at *; exact h
 | .bl _,_,h=>by rw [Rep] at *; exact h
 | .int _,_,h=>by rw [Rep] at *; exact h
 | .str _,_,h=>by rw [Rep] at *; exact h
 | .tup ds,_,h=>by
  rw [Rep] at *
  obtain ⟨a,vs,e,q,r⟩:=h
  exact ⟨a,vs,e,s _ _ q,Reps.same s ds r⟩
 | .lst ds,_,h=>by
  rw [Rep] at *
  obtain ⟨a,vs,e,q,r⟩:=h
  exact ⟨a,vs,e,s _ _ q,Reps.same s ds r⟩
theorem Reps.same {H H':Hp} (s:Same H H'):∀ (ds:List Dt) {vs:List V},Reps H ds vs→Reps H' ds vs
 | [],_,h=>by rw [Reps] at *; exact h
 | d :: ds,_,h=>by
  rw [Reps] at *
  obtain ⟨v,r,e,h1,h2⟩:=h
  exact ⟨v,r,e,Rep.same s d h1,Reps.same s ds h2⟩
end
theorem Reps.len {H:Hp}:∀ {ds:List Dt} {vs:List V},Reps H ds vs→vs.length = ds.length
 | [],_,h=>by rw [Reps] at h; subst h; rfl
 | d :: ds,_,h=>by
  rw [Reps] at h
  obtain ⟨v,r,e,h1,h2⟩:=h
  rw [e,List.length_cons,List.length_cons,Reps.len h2]
theorem Reps.at {H:Hp}:∀ {ds:List Dt} {vs:List V} {i:Nat} {v:V},Reps H ds vs→vs[i]? = some v→∃ d,ds[i]? = some d∧Rep H d v
 | [],_,i,v,h,e=>by rw [Reps] at h; rw [h] at e; simp at e
 | d :: ds,_,i,v,h,e=>by
  rw [Reps] at h
  obtain ⟨w,r,e1,h1,h2⟩:=h
  subst e1
  cases i with
  | zero=>simp at e; subst e; exact ⟨d,rfl,h1⟩
  | succ i =>
   obtain ⟨d',q1,q2⟩:=Reps.at h2 (i:=i) (by simpa using e)
   exact ⟨d',by simpa using q1,q2⟩
def jb9 (p:Int × Int):Dt:=.tup [.int p.1,.int p.2]
theorem Pr.rep {H:Hp} {v:V} {p:Int × Int} (h:Pr H v p):Rep H (jb9 p) v:=by
 obtain ⟨t,e,q⟩:=h
 rw [jb9,Rep]
 refine ⟨t,_,e,q,?_⟩
 rw [Reps]
 refine ⟨_,_,rfl,(by rw [Rep]),?_⟩
 rw [Reps]
 exact ⟨_,_,rfl,(by rw [Rep]),(by rw [Reps])⟩
theorem Prs.reps {H:Hp}:∀ {xs:List V} {ps:List (Int × Int)},Prs H xs ps→Reps H (ps.map jb9) xs
 | _,_,.nil=>by rw [List.map_nil,Reps]
 | _,_,.cons r t=>by rw [List.map_cons,Reps]; exact ⟨_,_,rfl,r.rep,Prs.reps t⟩
theorem jew {H:Hp}:∀ (ns:List Int),Reps H (ns.map Dt.int) (ns.map V.int)
 | []=>by rw [List.map_nil,Reps,List.map_nil]
 | n :: r=>by rw [List.map_cons,Reps,List.map_cons]; exact ⟨_,_,rfl,(by rw [Rep]),jew r⟩
end L2
namespace L2
open PySem PySem.Spec PyProof.Rows
def fMax:List V→Hp→VK→Prop:=fun vs H Q=>match vs with
 | [.int i,.int j]=>Q (.int (if i < j then j else i)) H
 | _=>False
theorem q_max {X:Cx} (hc:X.calm = true):jd0 X (.builtin "max") fMax:=(jpz hc).imp fun vs H Q h=>by
 unfold fMax at h
 split at h
 ·refine ⟨_,_,rfl,?_⟩
  first | exact h | (rename_i i j; by_cases c:i < j <;> simp_all)
 ·exact h.elim
def fInL (neg:Bool):R2:=fun x y H Q=>match y with
 | .ref p=>match jaj H p with
  | some xs=>je5 x = true∧xs.all je5 = true∧Q (.bl (if neg = true then !inV x xs else inV x xs)) H
  | none=>False
 | _=>False
theorem fInL_r {K:PySem.W.Frag} {neg:Bool} {x y:V} {H:Hp} {Q:VK} (h:fInL neg x y H Q):rIn K neg x y H Q:=by
 unfold fInL at h
 split at h
 ·split at h
  ·rename_i xs e
   obtain ⟨h1,h2,h3⟩:=h
   exact ⟨_,xs,rfl,jfy e,h1,h2,h3⟩
  ·exact h.elim
 ·exact h.elim
theorem jks {X:Cx}:OpR X (compareOp .In) (fInL false):=jok.imp fun _ _ _ _=>fInL_r
theorem jez (ns:List Int):(ns.map V.int).all je5 = true:=by
 rw [List.all_eq_true]
 intro v hv
 obtain ⟨n,_,e⟩:=List.mem_map.mp hv
 rw [← e]
 rfl
theorem jex (n:Int) (ns:List Int):inV (.int n) (ns.map V.int) = decide (n ∈ ns):=by
 rw [Bool.eq_iff_iff,inV,List.any_eq_true,decide_eq_true_iff]
 constructor
 ·rintro ⟨v,hv,e⟩
  obtain ⟨m,hm,e2⟩:=List.mem_map.mp hv
  subst e2
  have:m = n:=by simpa [eqV] using e
  rw [← this]
  exact hm
 ·intro h
  exact ⟨.int n,List.mem_map_of_mem h,by simp [eqV]⟩
end L2
namespace L2
open PySem PySem.Spec PyProof.Rows
end L2
namespace L2
open PySem PySem.Spec PyProof.Rows
mutual
def eqP:Dt→Dt→Bool
 | .non,.non=>true
 | .bl a,.bl b=>a == b
 | .bl a,.int b=>(if a then 1 else 0) == b
 | .int a,.bl b=>a == (if b then 1 else 0)
 | .int a,.int b=>a == b
 | .str a,.str b=>a == b
 | .tup a,.tup b=>eqPs a b
 | .lst a,.lst b=>eqPs a b
 | _,_=>false
def eqPs:List Dt→List Dt→Bool
 | [],[]=>true
 | a :: r,b :: t=>eqP a b && eqPs r t
 | _,_=>false
end
mutual
def depP:Dt→Nat
 | .tup a=>jb8 a + 1
 | .lst a=>jb8 a + 1
 | _=>0
def jb8:List Dt→Nat
 | []=>0
 | a :: r=>max (depP a) (jb8 r)
end
def jfg (a b:List Dt) (j:Nat):Bool:=match a[j]?,b[j]? with
 | some x,some y=>eqP x y
 | _,_=>false
theorem je0:∀ {a b:List Dt},a.length ≠ b.length→eqPs a b = false
 | [],[],h=>absurd rfl h
 | [],_ :: _,_=>by simp [eqPs]
 | _ :: _,[],_=>by simp [eqPs]
 | x :: a,y :: b,h=>by
  rw [eqPs,je0 (by simpa using h),Bool.and_false]
theorem jo4:∀ (n:Nat) (f:Nat→Bool),(List.range (n + 1)).all f = (f 0 && (List.range n).all fun j=>f (j + 1)):=fun n f=>by
 rw [List.range_succ_eq_map,List.all_cons,List.all_map]
 rfl
theorem jcw:∀ {a b:List Dt},a.length = b.length→eqPs a b = (List.range a.length).all (jfg a b)
 | [],[],_=>by rw [eqPs]; rfl
 | [],_ :: _,h=>by simp at h
 | _ :: _,[],h=>by simp at h
 | x :: a,y :: b,h=>by
  rw [eqPs,jcw (a:=a) (b:=b) (by simpa using h),List.length_cons,jo4]
  rfl
theorem jg6:∀ {a:List Dt} {j:Nat} {d:Dt},a[j]? = some d→depP d ≤ jb8 a
 | [],_,_,h=>by simp at h
 | x :: a,0,d,h=>by
  simp at h; subst h
  rw [jb8]; omega
 | x :: a,j + 1,d,h=>by
  have:=jg6 (a:=a) (j:=j) (by simpa using h)
  rw [jb8]; omega
def jd1:Dt→Option V
 | .non=>some .non
 | .bl b=>some (.bl b)
 | .int i=>some (.int i)
 | .str x=>some (.str x)
 | _=>none
theorem jr1 {d e:Dt} {x y:V} (hd:jd1 d = some x) (he:jd1 e = some y):eqP d e = eqV x y:=by
 cases d <;> cases e <;> simp only [jd1,Option.some.injEq,reduceCtorEq] at hd he <;> subst hd <;> subst he <;> simp [eqP,eqV]
theorem ji8 {H:Hp} {d:Dt} {x v:V} (hd:jd1 d = some x) (h:Rep H d v):v = x∧je5 x = true:=by
 cases d <;> simp only [jd1,Option.some.injEq,reduceCtorEq] at hd <;> subst hd <;> rw [Rep] at h <;> exact ⟨h,rfl⟩
section
variable {X:Cx} {pins:List (Addr × Obj)} {σ:St} {H:Hp} {s:Shared}
theorem Inv.tupE (I:Inv X pins σ H s) {a:Addr} {vs:List V} (e:H a = some (.tup vs)):∃ its:List Value,Vals vs its∧s.heap.IsTuple a its.toArray:=by
 obtain ⟨its,r,p,_⟩:=I.tuple (SqT.of e)
 exact ⟨its,r,p⟩
theorem Inv.lstE (I:Inv X pins σ H s) {a:Addr} {vs:List V} (e:H a = some (.lst vs)):∃ its:List Value,Vals vs its∧s.heap.IsList a its.toArray:=by
 obtain ⟨its,r,p,_⟩:=I.list (SqL.of e)
 exact ⟨its,r,p.isList⟩
mutual
theorem jg5:∀ d:Dt,eqP d d = true
 | .non=>by simp [eqP]
 | .bl _=>by simp [eqP]
 | .int _=>by simp [eqP]
 | .str _=>by simp [eqP]
 | .tup a=>by rw [eqP]; exact jh6 a
 | .lst a=>by rw [eqP]; exact jh6 a
theorem jh6:∀ a:List Dt,eqPs a a = true
 | []=>by rw [eqPs]
 | d :: r=>by rw [eqPs,jg5 d,jh6 r]; rfl
end
mutual
theorem Rep.inj {H:Hp}:∀ {d e:Dt} {v:V},Rep H d v→Rep H e v→d = e
 | .non,e,v,h1,h2=>by rw [Rep] at h1; subst h1; cases e <;> simp [Rep] at h2 ⊢
 | .bl _,e,v,h1,h2=>by rw [Rep] at h1; subst h1; cases e <;> simp [Rep] at h2 ⊢; exact h2
 | .int _,e,v,h1,h2=>by rw [Rep] at h1; subst h1; cases e <;> simp [Rep] at h2 ⊢; exact h2
 | .str _,e,v,h1,h2=>by rw [Rep] at h1; subst h1; cases e <;> simp [Rep] at h2 ⊢; exact h2
 | .tup ds,e,v,h1,h2=>by
  rw [Rep] at h1
  obtain ⟨a,vs,rfl,q,r⟩:=h1
  cases e with
  | tup es =>
   rw [Rep] at h2
   obtain ⟨a',vs',e',q',r'⟩:=h2
   cases e'
   rw [q] at q'; cases q'
   rw [Reps.inj r r']
  | lst es =>
   rw [Rep] at h2
   obtain ⟨a',vs',e',q',r'⟩:=h2
   cases e'
   rw [q] at q'; cases q'
  | non=>rw [Rep] at h2; cases h2
  | bl _=>rw [Rep] at h2; cases h2
  | int _=>rw [Rep] at h2; cases h2
  | str _=>rw [Rep] at h2; cases h2
 | .lst ds,e,v,h1,h2=>by
  rw [Rep] at h1
  obtain ⟨a,vs,rfl,q,r⟩:=h1
  cases e with
  | lst es =>
   rw [Rep] at h2
   obtain ⟨a',vs',e',q',r'⟩:=h2
   cases e'
   rw [q] at q'; cases q'
   rw [Reps.inj r r']
  | tup es =>
   rw [Rep] at h2
   obtain ⟨a',vs',e',q',r'⟩:=h2
   cases e'
   rw [q] at q'; cases q'
  | non=>rw [Rep] at h2; cases h2
  | bl _=>rw [Rep] at h2; cases h2
  | int _=>rw [Rep] at h2; cases h2
  | str _=>rw [Rep] at h2; cases h2
theorem Reps.inj {H:Hp}:∀ {ds es:List Dt} {vs:List V},Reps H ds vs→Reps H es vs→ds = es
 | [],es,vs,h1,h2=>by
  rw [Reps] at h1; subst h1
  cases es with
  | nil=>rfl
  | cons e es=>rw [Reps] at h2; obtain ⟨_,_,z,_⟩:=h2; cases z
 | d :: ds,es,vs,h1,h2=>by
  rw [Reps] at h1
  obtain ⟨v,r,rfl,q1,q2⟩:=h1
  cases es with
  | nil=>rw [Reps] at h2; cases h2
  | cons e es =>
   rw [Reps] at h2
   obtain ⟨v',r',z,p1,p2⟩:=h2
   cases z
   rw [Rep.inj q1 p1,Reps.inj q2 p2]
end
theorem jfn {d e:Dt} (hd:jd1 d = none) {y:V} (he:jd1 e = some y):eqP d e = false∧eqP e d = false:=by
 cases d <;> cases e <;> simp only [jd1,Option.some.injEq,reduceCtorEq] at hd he <;> simp [eqP]
theorem jrz:∀ (n:Nat) {A:Around} (I:Inv X pins σ H s) {d e:Dt} {x y:V} {u v:Value},depP d ≤ n→A.units + n < cLine→Rep H d x→Rep H e y→RelV x u→RelV y v→SeqAt.EqAt A s u v (eqP d e):=by
 intro n
 induction n with
 | zero =>
  intro A I d e x y u v hn hu rd re rx ry
  have hf:∃ z,jd1 d = some z:=by
   cases d <;> simp only [depP,jd1] at hn ⊢ <;> first | exact ⟨_,rfl⟩ | omega
  obtain ⟨z,hz⟩:=hf
  obtain ⟨rfl,fz⟩:=ji8 hz rd
  cases he:jd1 e with
  | some y' =>
   obtain ⟨rfl,fy⟩:=ji8 he re
   rw [jr1 hz he]
   exact jry rx ry fz fy
  | none =>
   rw [(jfn he hz).2]
   have hu0:A.units < cLine:=by omega
   cases e <;> simp only [jd1,reduceCtorEq] at he
   ·rw [Rep] at re
    obtain ⟨a,vs,rfl,q,_⟩:=re
    cases ry
    obtain ⟨its,_,p⟩:=I.tupE q
    cases d <;> simp only [jd1,Option.some.injEq,reduceCtorEq] at hz <;> subst hz
    ·cases rx; exact SeqAt.EqAt.none_tuple p hu0
    ·cases rx; exact SeqAt.EqAt.bool_tuple _ p hu0
    ·obtain ⟨t,rfl⟩:=rx; exact SeqAt.EqAt.int_tuple _ _ p hu0
    ·obtain ⟨t,rfl⟩:=rx; exact SeqAt.EqAt.str_tuple _ _ p hu0
   ·rw [Rep] at re
    obtain ⟨a,vs,rfl,q,_⟩:=re
    cases ry
    obtain ⟨its,_,p⟩:=I.lstE q
    cases d <;> simp only [jd1,Option.some.injEq,reduceCtorEq] at hz <;> subst hz
    ·cases rx; exact SeqAt.EqAt.none_list p hu0
    ·cases rx; exact SeqAt.EqAt.bool_list _ p hu0
    ·obtain ⟨t,rfl⟩:=rx; exact SeqAt.EqAt.int_list _ _ p hu0
    ·obtain ⟨t,rfl⟩:=rx; exact SeqAt.EqAt.str_list _ _ p hu0
 | succ n ih =>
  intro A I d e x y u v hn hu rd re rx ry
  have hu0:A.units < cLine:=by omega
  have items:∀ {ds es:List Dt} {vs ws:List V} {its its2:List Value},jb8 ds ≤ n→Reps H ds vs→Reps H es ws→Vals vs its→Vals ws its2 →
    ∀ j (h1:j < its.toArray.size) (h2:j < its2.toArray.size),SeqAt.EqAt A.in1 s its.toArray[j] its2.toArray[j] (jfg ds es j):=by
   intro ds es vs ws its its2 hdp r1 r2 w1 w2 j h1 h2
   rw [List.size_toArray] at h1 h2
   have l1:=w1.length
   have l2:=w2.length
   obtain ⟨u',e1,q1⟩:=w1.get (i:=j) (x:=vs[j]'(by omega)) (List.getElem?_eq_getElem _)
   obtain ⟨v',e2,q2⟩:=w2.get (i:=j) (x:=ws[j]'(by omega)) (List.getElem?_eq_getElem _)
   obtain ⟨d',f1,g1⟩:=r1.at (i:=j) (List.getElem?_eq_getElem (by omega))
   obtain ⟨e',f2,g2⟩:=r2.at (i:=j) (List.getElem?_eq_getElem (by omega))
   rw [List.getElem?_eq_getElem h1] at e1
   rw [List.getElem?_eq_getElem h2] at e2
   cases e1; cases e2
   have hj:jfg ds es j = eqP d' e':=by unfold jfg; rw [f1,f2]
   rw [hj]
   have:=jg6 f1
   exact ih (A:=A.in1) I (by omega) (by show A.units + 1 + n < cLine; omega) g1 g2 q1 q2
  cases hf:jd1 d with
  | some z =>
   refine ih I ?_ (by omega) rd re rx ry
   cases d <;> simp only [jd1,reduceCtorEq] at hf <;> simp [depP]
  | none =>
   cases he:jd1 e with
   | some y' =>
    rw [(jfn hf he).1]
    obtain ⟨rfl,fy⟩:=ji8 he re
    cases d <;> simp only [jd1,reduceCtorEq] at hf
    ·rw [Rep] at rd
     obtain ⟨a,vs,rfl,q,_⟩:=rd
     cases rx
     obtain ⟨its,_,p⟩:=I.tupE q
     cases e <;> simp only [jd1,Option.some.injEq,reduceCtorEq] at he <;> subst he
     ·cases ry; exact SeqAt.EqAt.tuple_none p hu0
     ·cases ry; exact SeqAt.EqAt.tuple_bool _ p hu0
     ·obtain ⟨t,rfl⟩:=ry; exact SeqAt.EqAt.tuple_int _ _ p hu0
     ·obtain ⟨t,rfl⟩:=ry; exact SeqAt.EqAt.tuple_str _ _ p hu0
    ·rw [Rep] at rd
     obtain ⟨a,vs,rfl,q,_⟩:=rd
     cases rx
     obtain ⟨its,_,p⟩:=I.lstE q
     cases e <;> simp only [jd1,Option.some.injEq,reduceCtorEq] at he <;> subst he
     ·cases ry; exact SeqAt.EqAt.list_none p hu0
     ·cases ry; exact SeqAt.EqAt.list_bool _ p hu0
     ·obtain ⟨t,rfl⟩:=ry; exact SeqAt.EqAt.list_int _ _ p hu0
     ·obtain ⟨t,rfl⟩:=ry; exact SeqAt.EqAt.list_str _ _ p hu0
   | none =>
    cases d <;> simp only [jd1,reduceCtorEq] at hf <;> cases e <;> simp only [jd1,reduceCtorEq] at he
    ·rename_i ds es
     have hn':jb8 ds ≤ n:=by rw [depP] at hn; omega
     have rd0:=rd
     have re0:=re
     rw [Rep] at rd
     rw [Rep] at re
     obtain ⟨a,vs,rfl,q,r1⟩:=rd
     obtain ⟨b,ws,rfl,q2,r2⟩:=re
     cases rx; cases ry
     by_cases hab:a = b
     ·subst hab
      rw [Rep.inj rd0 re0,jg5]
      exact SeqAt.EqAt.same _
     ·obtain ⟨its,w1,p1⟩:=I.tupE q
      obtain ⟨its2,w2,p2⟩:=I.tupE q2
      have k:=SeqAt.RcAt.tuples p1 p2 hu0 (items hn' r1 r2 w1 w2)
      have e0:((List.range (min its.toArray.size its2.toArray.size)).all (jfg ds es) && its.toArray.size == its2.toArray.size) = eqP (.tup ds) (.tup es):=by
       have l1:=w1.length
       have l2:=w2.length
       have l3:=r1.len
       have l4:=r2.len
       rw [eqP,List.size_toArray,List.size_toArray]
       by_cases hl:ds.length = es.length
       ·rw [jcw hl,← l1,← l2,l3,l4,hl,Nat.min_self]
        simp
       ·rw [je0 hl]
        have:(its.length == its2.length) = false:=by
         rw [beq_eq_false_iff_ne]; omega
        rw [this,Bool.and_false]
      rw [e0] at k
      exact .of_refs hab k
    ·rename_i ds es
     rw [Rep] at rd
     rw [Rep] at re
     obtain ⟨a,vs,rfl,q,r1⟩:=rd
     obtain ⟨b,ws,rfl,q2,r2⟩:=re
     cases rx; cases ry
     obtain ⟨its,w1,p1⟩:=I.tupE q
     obtain ⟨its2,w2,p2⟩:=I.lstE q2
     have:eqP (.tup ds) (.lst es) = false:=by simp [eqP]
     rw [this]
     exact SeqAt.EqAt.tuple_list p1 p2 hu0
    ·rename_i ds es
     rw [Rep] at rd
     rw [Rep] at re
     obtain ⟨a,vs,rfl,q,r1⟩:=rd
     obtain ⟨b,ws,rfl,q2,r2⟩:=re
     cases rx; cases ry
     obtain ⟨its,w1,p1⟩:=I.lstE q
     obtain ⟨its2,w2,p2⟩:=I.tupE q2
     have:eqP (.lst ds) (.tup es) = false:=by simp [eqP]
     rw [this]
     exact SeqAt.EqAt.list_tuple p1 p2 hu0
    ·rename_i ds es
     have hn':jb8 ds ≤ n:=by rw [depP] at hn; omega
     have rd0:=rd
     have re0:=re
     rw [Rep] at rd
     rw [Rep] at re
     obtain ⟨a,vs,rfl,q,r1⟩:=rd
     obtain ⟨b,ws,rfl,q2,r2⟩:=re
     cases rx; cases ry
     by_cases hab:a = b
     ·subst hab
      rw [Rep.inj rd0 re0,jg5]
      exact SeqAt.EqAt.same _
     ·obtain ⟨its,w1,p1⟩:=I.lstE q
      obtain ⟨its2,w2,p2⟩:=I.lstE q2
      have l1:=w1.length
      have l2:=w2.length
      have l3:=r1.len
      have l4:=r2.len
      refine .of_refs hab ?_
      rw [eqP]
      by_cases hl:ds.length = es.length
      ·rw [jcw hl]
       have k:=SeqAt.RcAt.lists p1 p2 (by rw [List.size_toArray,List.size_toArray]; omega) hu0 (items hn' r1 r2 w1 w2)
       rw [List.size_toArray,← l1,l3] at k
       exact k
      ·rw [je0 hl]
       exact SeqAt.RcAt.lists_lengths p1 p2 (by rw [List.size_toArray,List.size_toArray]; simp; omega) hu0
end
end L2
namespace L2
open PySem PySem.Spec PyProof.Rows
section
variable {prog:Program} {w:World} {A:Around} {R:Result→Shared→Prop} {I:Addr} {fp wr:List Addr} {n:Nat} {P:Nat→Value→Prop} {St:Nat→Heap→Prop}
def Best (val:Nat→Int) (n:Nat) (m:Int):Prop:=(∃ i,i < n∧m = val i)∧∀ i,i < n→val i ≤ m
theorem Best.up {val:Nat→Int} {j:Nat} {m:Int} (h:Best val j m) (hb:val j > m):Best val (j + 1) (val j) :=
 ⟨⟨j,Nat.lt_succ_self _,rfl⟩,fun i hi=>by
  rcases Nat.lt_succ_iff_lt_or_eq.mp hi with z | z
  ·have:=h.2 i z; omega
  ·rw [z]; exact Int.le_refl _⟩
theorem Best.keep {val:Nat→Int} {j:Nat} {m:Int} (h:Best val j m) (hb:¬ val j > m):Best val (j + 1) m :=
 ⟨let ⟨i,hi,e⟩:=h.1; ⟨i,Nat.lt_succ_of_lt hi,e⟩,fun i hi=>by
  rcases Nat.lt_succ_iff_lt_or_eq.mp hi with z | z
  ·exact h.2 i z
  ·rw [z]; omega⟩
theorem jg3:(toString "max" ++ toString ".loop":String) = "max.loop":=by decide
theorem jl8 (W:Walks prog w A.in1 I fp wr n P St) (val:Nat→Int) (hval:∀ i v,P i v→∃ t:Tok,v = Value.int (val i) t) (kw:List (Str × Value)) (S:Addr) (hSf:S ∉ fp) :
  ∀ (k j:Nat) (s:Shared) (m:Int) (t:Tok) (c:Nat),n - j = k→j ≤ n→St j s.heap→Best val j m →
  s.heap.get? S = some { cls:=.type "list",dict:=none,data:=.seq #[.int m t,.int m t] c,slots:=#[] } →
  (∀ m' t' h' tk,Best val n m'→(∀ b o,b ∉ wr→b ≠ S→s.heap.get? b = some o→h'.get? b = some o)→R (.ok (.ret (.int m' t'))) { s with heap:=h',toks:=tk }) →
  codeAny (model prog w) A (.builtin "max.loop" ⟨[.ref I,.none,.ref S],kw⟩) R s:=by
 have hSw:S ∉ wr:=fun z=>hSf (W.sub _ z)
 intro k
 induction k with
 | zero =>
  intro j s m t c hk hj hst hb hS hR
  have hin:j = n:=by omega
  subst hin
  refine codeAny_builtin PySem.F.entry_max_loop ?_
  rw [Around.under_plainId PySem.F.plain_max_loop _]
  show wpAny _ A.in1 (seqItems? (.ref S) >>= _) _ _ s
  refine wpAny_bind (wpAny_seqItems hS rfl ?_)
  show wpAny _ A.in1 (tryCatch (pyNext (.ref I)) _ >>= _) _ _ s
  refine wpAny_bind (wpAny_tryCatch (W.done s _ _ hst fun h' tk kp=>?_))
  have hS':=kp S _ hSw hS
  show wpAny _ A.in1 (updateSeq S (fun _=>#[]) >>= _) _ _ _
  refine wpAny_bind ?_
  refine wpAny_updateSeq hS' rfl (wpAny_bind (wpAny_letGo (wpAny_pure ?_)))
  exact hR m t _ tk hb fun b o hbw hbS e=>(Heap.get?_update_other _ _ (Ne.symm hbS)).trans (kp b o hbw e)
 | succ k ih =>
  intro j s m t c hk hj hst hb hS hR
  have hlt:j < n:=by omega
  refine codeAny_builtin PySem.F.entry_max_loop ?_
  rw [Around.under_plainId PySem.F.plain_max_loop _]
  show wpAny _ A.in1 (seqItems? (.ref S) >>= _) _ _ s
  refine wpAny_bind (wpAny_seqItems hS rfl ?_)
  show wpAny _ A.in1 (tryCatch (pyNext (.ref I)) _ >>= _) _ _ s
  refine wpAny_bind (wpAny_tryCatch (W.item j s _ _ hlt hst fun v h' tk hP hst' kp=>?_))
  obtain ⟨t',rfl⟩:=hval j v hP
  have hS':=kp S _ hSw hS
  show wpAny _ A.in1 (tryCatch (holding [.int (val j) t',.int (val j) t'] (richCompare .Gt (.int (val j) t') (.int m t) >>= _)) _ >>= _) _ _ _
  refine wpAny_bind (wpAny_tryCatch (wpAny_holding (wpAny_bind (gt_int ?_))))
  refine wpAny_bind (wpAny_holding (wpAny_truthy_bool ?_))
  refine wpAny_bind (wpAny_letGo (wpAny_pure ?_))
  by_cases hc:val j > m
  ·rw [decide_eq_true (show m < val j from hc)]
   simp only [if_true]
   refine wpAny_bind ?_
   refine wpAny_updateSeq hS' rfl (wpAny_bind (wpAny_letGo ?_))
   rw [jg3]
   refine wpAny_pure ⟨plainId_quiet PySem.F.plain_max_loop _,ih (j + 1) _ (val j) t' _ (by omega) hlt (W.frame _ _ _ hst' fun b hbf o e=>?_) (hb.up hc) (Heap.get?_update_self _ hS' rfl) fun m' u h'' tk'' hB k''=>?_⟩
   ·exact (Heap.get?_update_other _ _ (fun z:S = b=>hSf (by rw [z]; exact hbf))).trans e
   ·exact hR m' u h'' tk'' hB fun b o hbw hbS e=>k'' b o hbw hbS ((Heap.get?_update_other _ _ (Ne.symm hbS)).trans (kp b o hbw e))
  ·rw [decide_eq_false (show ¬ m < val j from hc)]
   simp only [Bool.false_eq_true,if_false]
   refine wpAny_bind (wpAny_letGo ?_)
   rw [jg3]
   refine wpAny_pure ⟨plainId_quiet PySem.F.plain_max_loop _,ih (j + 1) _ m t c (by omega) hlt hst' (hb.keep hc) hS' fun m' u h'' tk'' hB k''=>?_⟩
   exact hR m' u h'' tk'' hB fun b o hbw hbS e=>k'' b o hbw hbS (kp b o hbw e)
end
section
variable {X:Cx}
theorem jft (a d:Value):argsOk "max" ⟨[a],[(Str.ofString "default",d)]⟩:=by unfold argsOk; kernel_rfl
def rMaxD:List V→List V→Hp→VK→Prop:=fun vs zs H Q=>∃ (p:Addr) (ns:List Int) (d:Int),vs = [.ref p]∧zs = [.int d]∧H p = some (.lst (ns.map V.int)) ∧
 ∀ m,(ns = []→m = d)→(ns ≠ []→m ∈ ns)→(∀ x ∈ ns,x ≤ m)→Q (.int m) H
theorem jpy (hc:X.calm = true):∀ (pins:List (Addr × Obj)) (s:Shared) (σ:St) (H:Hp) (xs zs:List V) (us ws:List Value) (Q:VK),Inv X pins σ H s→Vals xs us→Vals zs ws→rMaxD xs zs H Q →
  wpAny (model X.prog X.w) X.A (call (.builtin "max") us ([Str.ofString "default"].zip ws)) (EP X pins σ Q) X.xe s:=by
 intro pins s σ H xs zs us ws Q I r rz h
 obtain ⟨p,ns,d,rfl,rfl,e,q⟩:=h
 obtain ⟨u,rfl,rx⟩:=jhv r
 cases rx
 obtain ⟨dv,rfl,td,rfl⟩:=jhv rz
 obtain ⟨z,its,c,r',hlen,e'⟩:=I.lstM e
 have hI:=jck r'
 have plt:p < s.heap.objs.size:=Heap.lt_size e'
 have hL:s.heap.IsList p its.toArray:=⟨_,e',rfl,_,rfl⟩
 refine kmk_tree PySem.F.kind_max PySem.F.plain_max PySem.F.entry_max (jft _ _) ?_
 show wpAny _ X.A.in1 (Builtin.Builtins.bindParams "max" ["key","default"] 0 ⟨[],[(Str.ofString "default",.int d td)]⟩ >>= _) _ _ s
 refine wpAny_bind (wpAny_of_eq (show Builtin.Builtins.bindParams "max" ["key","default"] 0 ⟨[],[(Str.ofString "default",.int d td)]⟩ = pure [none,some (.int d td)] from rfl) ?_)
 refine wpAny_bind (wpAny_pure ?_)
 refine wpAny_bind (wpAny_pyIter_list hL ?_)
 refine wpAny_bind (wpAny_newList ?_ (Nat.zero_le _))
 rw [jg3]
 have hS:(s.heap.push { cls:=.type "list_iterator",data:=.fields #[.ref p,.int 0 0] }).objs.size = s.heap.objs.size + 1:=size_push' ..
 have W:=Walks.list (prog:=X.prog) (w:=X.w) (A:=X.A.in1) (show X.A.in1.handled = none from I.ok.hd hc) s.heap.objs.size p (Nat.ne_of_lt plt) its.toArray
 have hsz:its.toArray.size = ns.length:=by rw [List.size_toArray,← hlen,List.length_map]
 have hval:∀ (i:Nat) (v:Value),its.toArray[i]? = some v→∃ t:Tok,v = Value.int (ns[i]?.getD 0) t:=fun i v hv=>by
  have hv':its[i]? = some v:=by simpa using hv
  have hi:i < ns.length:=by
   have:=(List.getElem?_eq_some_iff.mp hv').1
   rw [List.length_map] at hlen
   omega
  obtain ⟨u,e1,t,e2⟩:=r'.get (i:=i) (x:=.int ns[i]) (by rw [List.getElem?_map,List.getElem?_eq_getElem hi]; rfl)
  rw [hv'] at e1
  cases e1
  exact ⟨t,by rw [e2,List.getElem?_eq_getElem hi]; rfl⟩
 have kp0:∀ (h':Heap) (tk:Nat),(∀ b o,b ∉ [s.heap.objs.size]→b ≠ (s.heap.push { cls:=.type "list_iterator",data:=.fields #[.ref p,.int 0 0] }).objs.size→((s.heap.push { cls:=.type "list_iterator",data:=.fields #[.ref p,.int 0 0] }).push { cls:=.type "list",data:=.seq #[] }).get? b = some o→h'.get? b = some o) →
   Inv X pins σ H { s with heap:=h',toks:=tk }:=fun h' tk k=>I.kept fun b o qq=>k b o (by
    intro z
    have:b = s.heap.objs.size:=by simpa using z
    exact absurd (Heap.lt_size qq) (by rw [this]; exact Nat.lt_irrefl _)) (by rw [hS]; exact Nat.ne_of_lt (Nat.lt_succ_of_lt (Heap.lt_size qq))) (Heap.get?_push_of_some _ (Heap.get?_push_of_some _ qq))
 have hst0:(fun i (h:Heap)=>h.IsListIter s.heap.objs.size p i∧h.IsList p its.toArray) 0 ((s.heap.push { cls:=.type "list_iterator",data:=.fields #[.ref p,.int 0 0] }).push { cls:=.type "list",data:=.seq #[] }) :=
  ⟨⟨_,Heap.get?_push_of_some _ (Heap.get?_push_size _ rfl),rfl,rfl⟩,(hL.push _).push _⟩
 have hSg:((s.heap.push { cls:=.type "list_iterator",data:=.fields #[.ref p,.int 0 0] }).push { cls:=.type "list",data:=.seq #[] }).get? (s.heap.push { cls:=.type "list_iterator",data:=.fields #[.ref p,.int 0 0] }).objs.size = some { cls:=.type "list",dict:=none,data:=.seq #[] 0,slots:=#[] }:=Heap.get?_push_size _ rfl
 have hSf:(s.heap.push { cls:=.type "list_iterator",data:=.fields #[.ref p,.int 0 0] }).objs.size ∉ [s.heap.objs.size,p]:=by
  rw [hS]
  intro z
  rcases List.mem_cons.mp z with z | z
  ·exact absurd z (Nat.succ_ne_self _)
  ·have z:=List.mem_singleton.mp z
   rw [← z] at plt
   exact Nat.lt_irrefl _ (Nat.lt_of_succ_lt plt)
 refine wpAny_pure ⟨plainId_quiet PySem.F.plain_max_loop _,?_⟩
 refine codeAny_builtin PySem.F.entry_max_loop ?_
 rw [Around.under_plainId PySem.F.plain_max_loop _]
 show wpAny _ X.A.in1 (seqItems? (.ref _) >>= _) _ _ _
 refine wpAny_bind (wpAny_seqItems hSg rfl ?_)
 show wpAny _ X.A.in1 (tryCatch (pyNext (.ref s.heap.objs.size)) _ >>= _) _ _ _
 cases hn:ns with
 | nil =>
  have h0:its.toArray.size = 0:=by rw [hsz,hn]; rfl
  refine wpAny_bind (wpAny_tryCatch (W.done _ _ _ (by rw [h0]; exact hst0) fun h' tk kp=>?_))
  refine wpAny_bind (wpAny_rule (wpAny_pure ?_))
  exact ⟨.int d,H,kp0 h' tk fun b o h1 _ h3=>kp b o h1 h3,⟨td,rfl⟩,q d (fun _=>rfl) (fun z=>absurd hn z) (by rw [hn]; intro x hx; cases hx)⟩
 | cons n0 rest =>
  have hpos:0 < its.toArray.size:=by rw [hsz,hn]; simp
  refine wpAny_bind (wpAny_tryCatch (W.item 0 _ _ _ hpos hst0 fun v h' tk hP hst' kp=>?_))
  obtain ⟨t',rfl⟩:=hval 0 v hP
  have hS':=kp _ _ (fun z=>hSf (List.mem_cons.mpr (.inl (List.mem_singleton.mp z)))) hSg
  show wpAny _ X.A.in1 (updateSeq _ (fun _=>#[_,_]) >>= _) _ _ _
  refine wpAny_bind ?_
  refine wpAny_updateSeq hS' rfl ?_
  rw [jg3]
  refine wpAny_pure ⟨plainId_quiet PySem.F.plain_max_loop _,jl8 W (fun i=>ns[i]?.getD 0) hval _ _ hSf _ 1 _ _ t' _ rfl hpos (W.frame _ _ _ hst' fun b hbf o e=>?_) ⟨⟨0,Nat.one_pos,rfl⟩,fun i hi=>by
   have:i = 0:=by omega
   subst this; exact Int.le_refl _⟩ (Heap.get?_update_self _ hS' rfl) fun m u h'' tk'' hB k''=>?_⟩
  ·exact (Heap.get?_update_other _ _ (fun z=>hSf (by rw [z]; exact hbf))).trans e
  ·refine ⟨.int m,H,kp0 h'' tk'' fun b o h1 h2 h3=>k'' b o h1 h2 ((Heap.get?_update_other _ _ (Ne.symm h2)).trans (kp b o h1 h3)),⟨u,rfl⟩,q m (fun z=>by rw [hn] at z; cases z) (fun _=>?_) fun x hx=>?_⟩
   ·obtain ⟨i,hi,e1⟩:=hB.1
    rw [hsz] at hi
    rw [e1]
    show ns[i]?.getD 0 ∈ ns
    rw [List.getElem?_eq_getElem hi]
    exact List.getElem_mem hi
   ·obtain ⟨i,hi,e1⟩:=List.mem_iff_getElem.mp hx
    have:ns[i]?.getD 0 ≤ m:=hB.2 i (by rw [hsz]; exact hi)
    rw [List.getElem?_eq_getElem hi] at this
    rw [← e1]
    exact this
def tCBK (r:List V→List V→Hp→VK→Prop) (t tk:TA):TE:=fun σ H Q=>t σ H fun vs H1=>tk σ H1 fun zs H2=>r vs zs H2 Q
theorem jjf {x k:Str} {p kp pos:Pos} {e g:Expr} {t tk:TA} {id:String} {r:List V→List V→Hp→VK→Prop}
  (hcall:∀ (pins:List (Addr × Obj)) (s:Shared) (σ:St) (H:Hp) (xs zs:List V) (us ws:List Value) (Q:VK),Inv X pins σ H s→Vals xs us→Vals zs ws→r xs zs H Q →
   wpAny (model X.prog X.w) X.A (call (.builtin id) us ([k].zip ws)) (EP X pins σ Q) X.xe s)
  (hg:Gl X x) (hm:X.mg x = none) (hv:bootBuiltins x = some (.builtin id)) (ha:PA X [e] t) (hk:PK X [⟨some k,g,kp⟩] tk) (hn:x ≠ "__name__":=by decide) (hdb:(x == ("__debug__":Str)) = false:=by decide)
  (he:backTo pos (starEach [e] X.env) = (false,eval e X.env) :: backTo pos (starEach [] X.env):=by rfl) (hpl:(backTo pos (starEach [e] X.env)).any (·.1) = false:=by rfl):PE X (.Call (.Name x p) [e] [⟨some k,g,kp⟩] pos) (tCBK r t tk):=by
 intro pins s σ H Q I h
 refine wpAny_Call_Name_kw (jet I hg hm hv ?_ hn hdb)
 refine callWith_kw (thn (ha pos pins s σ H _ I h) fun us s1 ⟨vs,H1,I1,r1,q1⟩=>thn (hk pos pins s1 σ H1 _ I1 q1) fun ws s2 ⟨zs,H2,I2,r2,q2⟩=>?_) he hpl
 exact hcall pins s2 σ H2 vs zs us ws Q I2 r1 r2 q2
end
end L2
namespace L2
open PySem PySem.Spec PyProof.Rows
section
variable {X:Cx} {pins:List (Addr × Obj)} {σ:St} {H:Hp} {s:Shared}
theorem jip (n:Nat) {A:Around} (I:Inv X pins σ H s) {ds es:List Dt} {vs ws:List V} {its its2:List Value} (hdp:jb8 ds ≤ n) (hu:A.units + n < cLine) (r1:Reps H ds vs) (r2:Reps H es ws) (w1:Vals vs its) (w2:Vals ws its2) :
  ∀ j (h1:j < its.toArray.size) (h2:j < its2.toArray.size),SeqAt.EqAt A s its.toArray[j] its2.toArray[j] (jfg ds es j):=by
 intro j h1 h2
 rw [List.size_toArray] at h1 h2
 have l1:=w1.length
 have l2:=w2.length
 obtain ⟨u',e1,q1⟩:=w1.get (i:=j) (x:=vs[j]'(by omega)) (List.getElem?_eq_getElem _)
 obtain ⟨v',e2,q2⟩:=w2.get (i:=j) (x:=ws[j]'(by omega)) (List.getElem?_eq_getElem _)
 obtain ⟨d',f1,g1⟩:=r1.at (i:=j) (List.getElem?_eq_getElem (by omega))
 obtain ⟨e',f2,g2⟩:=r2.at (i:=j) (List.getElem?_eq_getElem (by omega))
 rw [List.getElem?_eq_getElem h1] at e1
 rw [List.getElem?_eq_getElem h2] at e2
 cases e1; cases e2
 have hj:jfg ds es j = eqP d' e':=by unfold jfg; rw [f1,f2]
 rw [hj]
 have:=jg6 f1
 exact jrz n I (by omega) hu g1 g2 q1 q2
theorem jhj {ds es:List Dt} {vs ws:List V} {its its2:List Value} (r1:Reps H ds vs) (r2:Reps H es ws) (w1:Vals vs its) (w2:Vals ws its2) :
  ((List.range (min its.toArray.size its2.toArray.size)).all (jfg ds es) && its.toArray.size == its2.toArray.size) = eqPs ds es:=by
 have l1:=w1.length
 have l2:=w2.length
 have l3:=r1.len
 have l4:=r2.len
 rw [List.size_toArray,List.size_toArray]
 by_cases hl:ds.length = es.length
 ·rw [jcw hl,← l1,← l2,l3,l4,hl,Nat.min_self]
  simp
 ·rw [je0 hl]
  have:(its.length == its2.length) = false:=by
   rw [beq_eq_false_iff_ne]; omega
  rw [this,Bool.and_false]
def rEqD (neg:Bool):R2:=fun x y H Q=>∃ d e,Rep H d x∧Rep H e y∧depP d ≤ 20∧((∃ ds es,d = .lst ds∧e = .lst es) ∨ ∃ ds es,d = .tup ds∧e = .tup es)∧Q (.bl (if neg = true then !eqP d e else eqP d e)) H
theorem op_eqD (hu:X.A.units + 64 < cLine):OpR X (compareOp .Eq) (rEqD false):=by
 intro pins s σ H x y v u Q I rx ry h
 obtain ⟨d,e,rd,re,hd,hk,q⟩:=h
 have hu0:X.A.units < cLine:=by omega
 rcases hk with ⟨ds,es,rfl,rfl⟩ | ⟨ds,es,rfl,rfl⟩
 ·have hn':jb8 ds ≤ 20:=by rw [depP] at hd; omega
  rw [Rep] at rd re
  obtain ⟨a,vs,rfl,q1,r1⟩:=rd
  obtain ⟨b,ws,rfl,q2,r2⟩:=re
  cases rx; cases ry
  obtain ⟨its,w1,p1⟩:=I.lstE q1
  obtain ⟨its2,w2,p2⟩:=I.lstE q2
  have l1:=w1.length
  have l2:=w2.length
  have l3:=r1.len
  have l4:=r2.len
  by_cases hl:ds.length = es.length
  ·refine SeqAt.RcAt.lists (e:=jfg ds es) p1 p2 (by rw [List.size_toArray,List.size_toArray]; omega) hu0 (jip 20 I hn' (by show X.A.units + 1 + 20 < cLine; omega) r1 r2 w1 w2) _ _ _ _ ⟨.bl _,H,I,rfl,?_⟩
   rw [List.size_toArray,← l1,l3,← jcw hl]
   rw [eqP] at q
   exact q
  ·refine SeqAt.RcAt.lists_lengths p1 p2 (by rw [List.size_toArray,List.size_toArray]; simp; omega) hu0 _ _ _ _ ⟨.bl _,H,I,rfl,?_⟩
   rw [eqP,je0 hl] at q
   exact q
 ·have hn':jb8 ds ≤ 20:=by rw [depP] at hd; omega
  rw [Rep] at rd re
  obtain ⟨a,vs,rfl,q1,r1⟩:=rd
  obtain ⟨b,ws,rfl,q2,r2⟩:=re
  cases rx; cases ry
  obtain ⟨its,w1,p1⟩:=I.tupE q1
  obtain ⟨its2,w2,p2⟩:=I.tupE q2
  refine SeqAt.RcAt.tuples (e:=jfg ds es) p1 p2 hu0 (jip 20 I hn' (by show X.A.units + 1 + 20 < cLine; omega) r1 r2 w1 w2) _ _ _ _ ⟨.bl _,H,I,rfl,?_⟩
  rw [jhj r1 r2 w1 w2]
  rw [eqP] at q
  exact q
theorem jfm (hu:X.A.units + 64 < cLine):OpR X (compareOp .NotEq) (rEqD true):=by
 intro pins s σ H x y v u Q I rx ry h
 obtain ⟨d,e,rd,re,hd,hk,q⟩:=h
 have hu0:X.A.units < cLine:=by omega
 rcases hk with ⟨ds,es,rfl,rfl⟩ | ⟨ds,es,rfl,rfl⟩
 ·have hn':jb8 ds ≤ 20:=by rw [depP] at hd; omega
  rw [Rep] at rd re
  obtain ⟨a,vs,rfl,q1,r1⟩:=rd
  obtain ⟨b,ws,rfl,q2,r2⟩:=re
  cases rx; cases ry
  obtain ⟨its,w1,p1⟩:=I.lstE q1
  obtain ⟨its2,w2,p2⟩:=I.lstE q2
  have l1:=w1.length
  have l2:=w2.length
  have l3:=r1.len
  have l4:=r2.len
  by_cases hl:ds.length = es.length
  ·refine SeqAt.RcNeAt.lists (e:=jfg ds es) p1 p2 (by rw [List.size_toArray,List.size_toArray]; omega) hu0 (jip 20 I hn' (by show X.A.units + 1 + 20 < cLine; omega) r1 r2 w1 w2) _ _ _ _ ⟨.bl _,H,I,rfl,?_⟩
   rw [List.size_toArray,← l1,l3,← jcw hl]
   rw [eqP] at q
   exact q
  ·refine SeqAt.RcNeAt.lists_lengths p1 p2 (by rw [List.size_toArray,List.size_toArray]; simp; omega) hu0 _ _ _ _ ⟨.bl _,H,I,rfl,?_⟩
   rw [eqP,je0 hl] at q
   exact q
 ·have hn':jb8 ds ≤ 20:=by rw [depP] at hd; omega
  rw [Rep] at rd re
  obtain ⟨a,vs,rfl,q1,r1⟩:=rd
  obtain ⟨b,ws,rfl,q2,r2⟩:=re
  cases rx; cases ry
  obtain ⟨its,w1,p1⟩:=I.tupE q1
  obtain ⟨its2,w2,p2⟩:=I.tupE q2
  refine SeqAt.RcNeAt.tuples (e:=jfg ds es) p1 p2 hu0 (jip 20 I hn' (by show X.A.units + 1 + 20 < cLine; omega) r1 r2 w1 w2) _ _ _ _ ⟨.bl _,H,I,rfl,?_⟩
  rw [jhj r1 r2 w1 w2]
  rw [eqP] at q
  exact q
theorem RelV.inj' {x y:V} {u:Value} (h1:RelV x u) (h2:RelV y u):x = y:=Option.some.inj (h1.abs.symm.trans h2.abs)
open Classical in
def eqW (H:Hp) (d:Dt) (u:Value):Bool:=if h:∃ c,∃ x,RelV x u∧Rep H c x then eqP h.choose d else false
theorem jrw {H:Hp} {d c:Dt} {x:V} {u:Value} (r:RelV x u) (p:Rep H c x):eqW H d u = eqP c d:=by
 unfold eqW
 have h:∃ c,∃ x,RelV x u∧Rep H c x:=⟨c,x,r,p⟩
 rw [dif_pos h]
 obtain ⟨y,r2,p2⟩:=h.choose_spec
 have:=RelV.inj' r r2
 subst this
 rw [Rep.inj p2 p]
theorem jlg {H:Hp} {d:Dt}:∀ {cs:List Dt} {xs:List V} {us:List Value},Reps H cs xs→Vals xs us→us.any (eqW H d) = cs.any fun c=>eqP c d
 | [],_,_,h,r=>by
  rw [Reps] at h; subst h
  cases r
  rfl
 | c :: cs,_,_,h,r=>by
  rw [Reps] at h
  obtain ⟨v,t,rfl,h1,h2⟩:=h
  cases r with
  | cons r1 r2=>rw [List.any_cons,List.any_cons,jrw r1 h1,jlg h2 r2]
def rInD (neg:Bool):R2:=fun x y H Q=>∃ (d:Dt) (p:Addr) (xs:List V) (cs:List Dt),Rep H d x∧y = .ref p∧H p = some (.lst xs)∧Reps H cs xs∧jb8 cs ≤ 20∧Q (.bl (if neg = true then !cs.any (fun c=>eqP c d) else cs.any fun c=>eqP c d)) H
theorem jm6 (hu:X.A.units + 64 < cLine) (I:Inv X pins σ H s) {d:Dt} {x:V} {v:Value} {cs:List Dt} {xs:List V} {its:List Value} (rd:Rep H d x) (rx:RelV x v) (rc:Reps H cs xs) (r:Vals xs its) (hd:jb8 cs ≤ 20) :
  ∀ y,y ∈ its.toArray→SeqAt.EqAt X.A.in1 s y v (eqW H d y):=by
 intro y hy
 have hy':y ∈ its:=by simpa using hy
 obtain ⟨j,hj,e⟩:=List.mem_iff_getElem.mp hy'
 have l1:=r.length
 obtain ⟨u',e1,q1⟩:=r.get (i:=j) (x:=xs[j]'(by omega)) (List.getElem?_eq_getElem _)
 obtain ⟨c,f1,g1⟩:=rc.at (i:=j) (List.getElem?_eq_getElem (by omega))
 rw [List.getElem?_eq_getElem hj] at e1
 cases e1
 rw [← e,jrw q1 g1]
 have:=jg6 f1
 exact jrz 20 I (by omega) (by show X.A.units + 1 + 20 < cLine; omega) g1 rd q1 rx
theorem op_inD (hu:X.A.units + 64 < cLine):OpR X (compareOp .In) (rInD false):=by
 intro pins s σ H x y v u Q I rx ry h
 obtain ⟨d,p,xs,cs,rd,rfl,e,rc,hd,q⟩:=h
 cases ry
 obtain ⟨its,r,pl⟩:=I.lstE e
 refine SeqAt.in_listAt (eqW H d) pl (jm6 hu I rd rx rc r hd) ⟨.bl _,H,I,rfl,?_⟩
 rw [show its.toArray.any (eqW H d) = its.any (eqW H d) by simp,jlg rc r]
 exact q
theorem jgk (hu:X.A.units + 64 < cLine):OpR X (compareOp .NotIn) (rInD true):=by
 intro pins s σ H x y v u Q I rx ry h
 obtain ⟨d,p,xs,cs,rd,rfl,e,rc,hd,q⟩:=h
 cases ry
 obtain ⟨its,r,pl⟩:=I.lstE e
 refine SeqAt.notIn_listAt (eqW H d) pl (jm6 hu I rd rx rc r hd) ⟨.bl _,H,I,rfl,?_⟩
 rw [show its.toArray.any (eqW H d) = its.any (eqW H d) by simp,jlg rc r]
 exact q
end
end L2
namespace L2
open PySem PySem.Spec PyProof.Rows
section
variable {X:Cx} {o i e f value:Expr} {td ty tv tx:TE} {pos pos' apos cpos:Pos}
def jo3 (td ty tv:TE):TS:=fun D σ H=>tv σ H fun v H1=>td σ H1 fun x H2=>ty σ H2 fun y H3=>match x,y with
 | .ref a,.int n=>match H3 a with
  | some (.dK kvs)=>kvs.length < sizeLine∧D.nx σ (upd H3 a (.dK (putK kvs (Sum.inl n:Key) v)))
  | _=>False
 | _,_=>False
theorem dput_r {x y:V} {H3:Hp} {R:List (Key × V)→Addr→Int→Prop} (h:match x,y with
 | .ref a,.int n=>match H3 a with
  | some (.dK kvs)=>R kvs a n
  | _=>False
 | _,_=>False):∃ a n kvs,x = .ref a∧y = .int n∧H3 a = some (.dK kvs)∧R kvs a n:=by
 split at h
 ·split at h
  ·rename_i e; exact ⟨_,_,_,rfl,rfl,e,h⟩
  ·exact h.elim
 ·exact h.elim
theorem jt1 {y:V} {a:Addr} {H3:Hp} {R:List (Key × V)→Int→Prop} (h:match y with
 | .int n=>match H3 a with
  | some (.dK kvs)=>R kvs n
  | _=>False
 | _=>False):∃ n kvs,y = .int n∧H3 a = some (.dK kvs)∧R kvs n:=by
 split at h
 ·split at h
  ·rename_i e; exact ⟨_,_,rfl,e,h⟩
  ·exact h.elim
 ·exact h.elim
theorem jep (hu:X.A.units + 1 < cLine) (ho:PE X o td) (hi:PE X i ty) (hv:PE X value tv) (hs:swapsWith value (some (.Subscript o i pos')) pos.line X.env = pure false:=by rfl) :
  PS X (.Assign [.Subscript o i pos'] value pos) (jo3 td ty tv):=by
 intro pins s σ H D I h
 refine wpAny_Assign_Subscript (thn (hv pins s σ H _ I h) fun r s1 ⟨v,H1,I1,rv,q1⟩=>thn (ho pins s1 σ H1 _ I1 q1) fun u s2 ⟨x,H2,I2,rx,q2⟩=>thn (hi pins s2 σ H2 _ I2 q2) fun iv s3 ⟨y,H3,I3,ry,q3⟩=>?_) hs
 obtain ⟨a,n,kvs,rfl,rfl,ea,q4,q5⟩:=dput_r (R:=fun kvs a n=>kvs.length < sizeLine∧D.nx σ (upd H3 a (.dK (putK kvs (Sum.inl n:Key) v)))) q3
 obtain rfl:u = Value.ref a:=rx
 exact jk7 hu I3 (DPut.k (k:=Sum.inl n) ea q4) ry rv fun s4 I4=>⟨σ,_,I4,q5⟩
def jpi (td ty tx:TE):TE:=fun σ H Q=>td σ H fun x H1=>match x with
 | .ref a=>(∃ kvs,H1 a = some (.dK kvs))∧ty σ H1 fun y H2=>tx σ H2 fun z H3=>match y with
  | .int n=>match H3 a with
   | some (.dK kvs)=>Q ((valV kvs (Sum.inl n:Key)).getD z) H3
   | _=>False
  | _=>False
 | _=>False
theorem je9 (hu:X.A.units + 1 < cLine) (ho:PE X o td) (he:PE X e ty) (hf:PE X f tx) (m:M2 X o "get" apos e f cpos:=by exact ⟨rfl,rfl,rfl,rfl⟩):PE X (.Call (.Attribute o "get" apos) [e,f] [] cpos) (jpi td ty tx):=by
  intro pins s σ H Q I h
  refine wpAny_Call_method m.base m.few m.line PySem.F.plainAttrs_dict PySem.F.slot_dict_get PySem.F.type_dict_get (thn (ho pins s σ H _ I h) fun u s1 ⟨x,H1,I1,rx,q1⟩=>?_)
  cases x <;> first
    | exact False.elim q1
    | (rename_i a
       dsimp only at q1
       obtain ⟨⟨kvs0,e0⟩,q1⟩:=q1
       obtain rfl:u = Value.ref a:=rx
       obtain ⟨t1,t2,_⟩:=jrt I1 (.inl ⟨kvs0,.inl e0⟩)
       refine ⟨t1,t2,?_⟩
       rw [m.trees]
       refine Calls.callWith_builtin rfl (Calls.evalArgs_plain (Calls.spliced_cons (thn (he pins s1 σ H1 _ I1 q1) fun iv s2 ⟨y,H2,I2,ry,q2⟩ =>
         Calls.spliced_cons (thn (hf pins s2 σ H2 _ I2 q2) fun fv s3 ⟨z,H3,I3,rz,q3⟩=>Calls.spliced_nil ?_))))
       obtain ⟨n,kvs,rfl,ea,q4⟩:=jt1 (R:=fun kvs n=>Q ((valV kvs (Sum.inl n:Key)).getD z) H3) q3
       exact d_get2 hu I3 (DGet.k (k:=Sum.inl n) ea) ry rz fun w' s4 I4 rw'=>⟨_,H3,I4,rw',q4⟩)
def fCat:R2:=fun x y H Q=>match x,y with
 | .ref l,.ref b=>match H l,H b with
  | some (.lst xs),some (.lst zs)=>xs.length + zs.length ≤ sizeLine∧∀ p,H p = none→Q (.ref p) (upd H p (.lst (xs ++ zs)))
  | _,_=>False
 | _,_=>False
theorem q_cat:OpR X (binaryOp .Add) fCat:=op_cat.imp fun x y H Q h=>by
 unfold fCat at h
 split at h
 ·split at h
  ·rename_i e1 e2; exact ⟨_,_,_,_,rfl,rfl,e1,e2,h.1,h.2⟩
  ·exact h.elim
 ·exact h.elim
def jrv:V→List V→Hp→VK→Prop:=fun x vs H Q=>match x,vs with
 | .ref l,[]=>match H l with
  | some (.lst _)=>Q .non (upd H l (.lst []))
  | _=>False
 | _,_=>False
def fBM0 (r:V→List V→Hp→VK→Prop) (to:TE):TE:=fun σ H Q=>to σ H fun x H1=>(∃ a xs,x = .ref a∧H1 a = some (.lst xs))∧r x [] H1 Q
def fSlT:V→Option Int→Option Int→Hp→VK→Prop:=fun x lo hi H Q=>match x with
 | .ref a=>match H a with
  | some (.tup xs)=>¬ (HT.sIx xs.length 0 lo = 0∧HT.sIx xs.length xs.length hi = xs.length)∧∀ p,H p = none→Q (.ref p) (upd H p (.tup (cutV xs lo hi)))
  | _=>False
 | _=>False
theorem jf6:SlR X fSlT:=jrd.imp fun x l u H Q h=>by
 unfold fSlT at h
 split at h
 ·split at h
  ·rename_i xs e; exact ⟨_,xs,rfl,SqT.of e,h.1,h.2⟩
  ·exact h.elim
 ·exact h.elim
def jqx:List V→Hp→VK→Prop:=fun vs H Q=>match vs with
 | [.bl k]=>Q (.int (if k = true then 1 else 0)) H
 | [.int i]=>Q (.int i) H
 | _=>False
theorem jri:jd0 X (.type "int") jqx:=jq0.imp fun vs H Q h=>by
 unfold jqx at h
 split at h
 ·exact .inr ⟨_,rfl,h⟩
 ·exact .inl ⟨_,rfl,h⟩
 ·exact h.elim
end
end L2
namespace L2
open PySem PySem.Spec PyProof.Rows
section
variable {prog:Program} {w:World} {A:Around} {E:Value→Shared→Prop}
theorem drawL {it l:Addr} {items:Array Value} (hne:l ≠ it):∀ (n i:Nat) (s:Shared) (Q:List Value→Shared→Prop),s.heap.IsListIter it l i→s.heap.IsList l items→i + n ≤ items.size →
  (∀ h',h'.IsListIter it l (i + n)→Heap.SameBut it s.heap h'→Q ((items.toList.drop i).take n) { s with heap:=h' })→wpAny (model prog w) A (draw (.ref it) n) Q E s
 | 0,i,s,Q,hit,_,_,hQ=>wpAny_pure (by simpa using hQ s.heap hit (Heap.SameBut.refl ..))
 | n + 1,i,s,Q,hit,hl,hle,hQ=>by
  have hlt:i < items.size:=by omega
  show wpAny _ _ (pyNext (.ref it) >>= _) Q E s
  refine wpAny_bind (wpAny_pyNext_list_item hit hl (x:=items[i]) (by simp [hlt]) fun h1 hit1 hs1=>?_)
  refine wpAny_bind (wpAny_holding (drawL hne n (i + 1) _ _ hit1 (hl.extBut hs1.extBut hne) (by omega) fun h2 hit2 hs2=>wpAny_pure ?_))
  have z:=hQ h2 (by rw [show i + (n + 1) = i + 1 + n by omega]; exact hit2) (hs1.trans hs2)
  have hd:items.toList.drop i = items[i] :: items.toList.drop (i + 1):=by simp [List.drop_eq_getElem_cons,hlt]
  rw [hd,List.take_succ_cons] at z
  exact z
theorem js3 {s:Shared} {l:Addr} {items:Array Value} {Q:List Value→Shared→Prop} (hh:A.handled = none) (hl:s.heap.IsList l items)
  (hQ:∀ h',Heap.ExtBut s.heap.objs.size s.heap h'→Q items.toList { s with heap:=h' }):wpAny (model prog w) A (unpackItems (.ref l) items.size none) Q E s:=by
 have hne:l ≠ s.heap.objs.size:=by obtain ⟨o,ho,_⟩:=hl; exact Nat.ne_of_lt (Heap.lt_size ho)
 unfold unpackItems
 refine wpAny_bind ?_
 unfold notIterableAtAll
 refine wpAny_bind (wpAny_specialOf hl.typeIs slot_list_iter.lookup ?_)
 refine wpAny_pure ?_
 simp only [Bool.false_eq_true,if_false]
 refine wpAny_bind (wpAny_holding (wpAny_pyIter_list hl ?_))
 refine wpAny_bind (wpAny_holding (drawL hne items.size 0 _ _ ⟨_,Heap.get?_push_size _ rfl,rfl,rfl⟩ (hl.push _) (by omega) fun h1 hit1 hs1=>?_))
 rw [show List.take items.size (List.drop 0 items.toList) = items.toList by rw [List.drop_zero]; exact List.take_of_length_le (by simp)]
 rw [if_neg (by simp)]
 refine wpAny_bind (wpAny_holding (wpAny_pyNext_list_end hh hit1 ((hl.push _).extBut hs1.extBut hne) (by simp) fun h2 he2=>?_))
 simp only [Option.isSome_none,Bool.false_eq_true,if_false]
 exact wpAny_pure (hQ h2 fun b o hb e=>he2 b o hb (hs1.extBut b o hb (Heap.get?_push_of_some _ e)))
end
section
variable {X:Cx} {es:List Expr} {pos:Pos}
def jqy (n:Nat) (t:TGs):TG:=fun v σ H Q=>match v with
 | .ref a=>match H a with
  | some (.lst xs)=>xs.length = n∧t xs σ H Q
  | _=>False
 | _=>False
theorem jo6 {k:Nat} {t:TGs} {n:Nat} (hc:X.calm = true) (h:PGs X es t) (hn:(assignEach es X.env).length = n:=by rfl) (hst:(assignEach es X.env).findIdx? (·.1) = none:=by rfl):PG X (.Tuple es k pos) (jqy n t):=by
 intro pins s σ H v u Q I r hw
 have hw':∃ a xs,v = .ref a∧H a = some (.lst xs)∧xs.length = n∧t xs σ H Q:=by
  unfold jqy at hw
  split at hw
  ·split at hw
   ·rename_i e; exact ⟨_,_,rfl,e,hw.1,hw.2⟩
   ·exact hw.elim
  ·exact hw.elim
 obtain ⟨a,xs,rfl,e,hl,hw⟩:=hw'
 cases r
 obtain ⟨its,rv,ht⟩:=I.lstE e
 rw [assign_Tuple]
 refine wpAny_bind (wpAny_standAt ?_)
 unfold unpack
 have hsz:(assignEach es X.env).length = its.toArray.size:=by rw [hn,← hl,List.size_toArray]; exact rv.length
 rw [hsz,hst]
 refine wpAny_bind (wpAny_holding (js3 (I.ok.hd hc) ht fun h' hx=>?_))
 have I1:Inv X pins σ H { s with heap:=h' }:=I.kept (t':=s.toks) fun b o q=>hx b o (Nat.ne_of_lt (Heap.lt_size q)) q
 exact h pins _ σ H xs _ Q I1 (by simpa using rv) hw
end
end L2
namespace L2
open PySem PySem.Spec PyProof.Rows
def TrD (h B:Heap) (x:Addr) (cl:Value) (dd:Option Addr) (fl:Value):Prop :=
 ∃ ox ws T oT ts,h.get? x = some ox∧ox.cls = cl∧ox.dict = dd∧ox.data = .fields ws∧ws[1]? = some (.ref T)∧B.get? T = none∧T ≠ x∧h.get? T = some oT∧oT.data = .fields ts∧ts[3]? = some fl∧(dd ≠ none→ws[2]? = some .none)
structure FlyD (B:Heap) (l:List Env) (x:Addr) (cl:Value) (dd:Option Addr) (fl:Value) (h:Heap):Prop where
 stays:B.StaysIn h
 new:B.get? x = none
 funs:h.FunFrames B l
 tr:TrD h B x cl dd fl
theorem FlyD.there {B:Heap} {l:List Env} {x:Addr} {cl:Value} {dd:Option Addr} {fl:Value} {h:Heap} (f:FlyD B l x cl dd fl h):∃ ox ws,h.get? x = some ox∧ox.cls = cl∧ox.dict = dd∧ox.data = .fields ws:=by
 obtain ⟨ox,ws,_,_,_,h1,h2,h3,h4,_⟩:=f.tr
 exact ⟨ox,ws,h1,h2,h3,h4⟩
section
variable {M:Model} {A:Around} {E:Value→Shared→Prop} {s:Shared} {B:Heap} {env:Env} {l:List Env} {L x:Addr} {cl:Value} {dd:Option Addr} {Q:Unit→Shared→Prop}
end
end L2
namespace L2
open PySem PySem.Spec PyProof.Rows
structure Df (X:Cx):Prop where
 stk:X.stack = X.env :: X.outer
 fr:X.env.frame = some X.env.locals
 ex:X.ex = []
 fn:∀ x,X.fn x = true
structure Cov (X:Cx) (B:Heap) (H:Hp) (h:Heap):Prop where
 tr:∀ b o,H b = some o→∃ q,h.get? b = some q∧B.get? b = some q
 old:∀ b o,X.s₀.heap.get? b = some o→b ∉ frs X.stack→∃ q,h.get? b = some q∧B.get? b = some q
 pin:∀ p ∈ X.pn,B.get? p.1 = some p.2
 cel:∀ x c,X.env.cells.lookup x = some c→∃ q,h.get? c = some q∧B.get? c = some q
section
variable {X:Cx} {σ:St} {H:Hp} {s:Shared} {B h':Heap}
end
inductive Md (B:Heap) (l:List Env) (L x:Addr) (cl:Value) (dd:Option Addr) (h:Heap):Prop where
 | new {ox:Obj} {ws:Array Value}:h.get? x = some ox→ox.cls = cl→ox.dict = dd→ox.data = .fields ws→ws[1]? = some .none→(dd ≠ none→ws[2]? = some .none)→B.StaysIn h→B.get? x = none→h.FunFrames B l→Md B l L x cl dd h
 | fly:FlyD B l x cl dd .none h→Md B l L x cl dd h
 | held:FlyD B l x cl dd (rawInt L) h→Md B l L x cl dd h
theorem Md.stays {B:Heap} {l:List Env} {L x:Addr} {cl:Value} {dd:Option Addr} {h:Heap} (m:Md B l L x cl dd h):B.StaysIn h:=by
 cases m with
 | new _ _ _ _ _ _ s _ _=>exact s
 | fly f=>exact f.stays
 | held f=>exact f.stays
def XT (X:Cx) (EX:St→XK):Value→Shared→Prop:=fun e s'=>∃ (x:Addr) (cl:Value) (dd:Option Addr) (σ:St) (H:Hp) (B:Heap),e = .ref x∧Inv X [] σ H s'∧H x = none∧X.s₀.heap.objs.size ≤ x∧Cov X B H s'.heap∧EX σ cl dd H∧Md B X.stack X.env.locals x cl dd s'.heap
def Cx.tr (X:Cx) (pins:List (Addr × Obj)) (EX:St→XK):Cx:={ X with pn:=X.pn ++ pins,xe:=XT { X with pn:=X.pn ++ pins } EX }
theorem Cx.Ok.pn {X:Cx} (ok:X.Ok) (pn:List (Addr × Obj)) (E:Value→Shared→Prop):({ X with pn:=pn,xe:=E }:Cx).Ok :=
 ⟨ok.mod,ok.kind,ok.glob,ok.blt,ok.above,ok.inj,ok.has,ok.cab,ok.hd,ok.frames,ok.stk,ok.exf,ok.bs,ok.bsz,ok.noex,ok.exfs,ok.funs,ok.frf⟩
theorem Inv.tr {X:Cx} {pins:List (Addr × Obj)} {σ:St} {H:Hp} {s:Shared} (I:Inv X pins σ H s) (EX:St→XK):Inv (X.tr pins EX) [] σ H s :=
 ⟨I.ok.pn _ _,I.os,I.bare,I.base,I.loc,I.cell,I.free,I.freeC,fun p hp=>I.pin p (by
  have:p ∈ (X.pn ++ pins) ++ []:=hp
  simpa using this),I.hok,I.len⟩
theorem Df.tr {X:Cx} (d:Df X) (pins:List (Addr × Obj)) (EX:St→XK):Df (X.tr pins EX):=⟨d.stk,d.fr,d.ex,d.fn⟩
end L2
namespace L2
open PySem PySem.Spec PyProof.Rows
section
variable {X:Cx} {CX:CXT} {k:Nat} {f:Addr} {fd:FuncData} {ps:List Str} {sp:Sp} {EX:St→XK} {x:Str} {p pos:Pos} {e:Expr} {es:List Expr} {t:TA} {ds:List Value} {dvs:List V}
end
section
variable {P:Program} {w:World} {K:PySem.W.Frag} {mg:Str→Option Value} {base:Heap}
end
section
variable {prog:Program} {w:World} {A:Around} {E:Value→Shared→Prop} {h:Heap} {g:Array GenState} {d:Drawn} {t:Nat} {os:OsState}
variable {nm q:Str} {C N:Addr} {bs bm bmB:List Value} {hdct:Bool} {sn:List Str} {sub:List Value} {ab:Bool} {col:Option Bool} {dd:Option Addr} {k0 k1 k2 k3 k5:Option Value} {B newId initId:String}
end
end L2
namespace L2
open PySem PySem.Spec PyProof.Rows Builtin Builtin.ObjectAttr
section
variable {prog:Program} {w:World} {A:Around} {E:Value→Shared→Prop} {h:Heap} {g:Array GenState} {d:Drawn} {t:Nat} {os:OsState} {C:Addr} {bmB:List Value} {B newId initId:String}
end
def jrs:Value→Bool
 | .ref _=>true
 | _=>false
theorem jrs.ex {v:Value} (h:jrs v = true):∃ a,v = .ref a:=by
 cases v <;> first | exact ⟨_,rfl⟩ | cases h
section
variable {prog:Program} {w:World} {A:Around} {E:Value→Shared→Prop} {s:Shared} {K:PySem.W.Frag} {x C t0:Addr} {dz:Option Addr} {name:Str} {v:Value} {Q:Unit→Shared→Prop}
end
end L2
namespace L2
open PySem PySem.Spec PyProof.Rows
section
variable {P:Program} {w:World} {H:Hp} {h:Heap} {a C:Addr} {dd:Option Addr} {fs:List (Str × V)}
end
section
variable {X:Cx} {pins:List (Addr × Obj)} {σ:St} {H:Hp} {s:Shared} {h':Heap} {x dx:Addr} {φ:Heap→Prop} {o1 o2:HO} {t':Nat}
end
section
variable {X:Cx} {o value e:Expr} {es:List Expr} {f x:Str} {p pos pos' apos:Pos} {ta tv:TE} {t:TA} {C T:Addr} {bmB:List Value} {B newId initId:String} {fI:Addr}
end
end L2
namespace L2
open PySem PySem.Spec PyProof.Rows
section
variable {X:Cx} {EX:St→XK} {k:Nat} {fI C:Addr} {fd:FuncData} {ps:List Str} {sp:Sp} {x:Str} {p cpos pos:Pos} {e:Expr} {es:List Expr} {t:TA} {bmB:List Value} {B newId initId:String}
end
end L2
namespace L2
open PySem PySem.Spec PyProof.Rows
section
variable {X:Cx} {pins:List (Addr × Obj)} {σ:St} {H:Hp} {s:Shared} {x:Addr} {o:HO}
end
section
variable {X:Cx} {x n:Str} {np hpos pos:Pos} {body suite:List Stmt} {b0:Stmt} {C:Addr} {mt:Value→Prop} {i:Nat} {tb:(St→XK)→TS} {th:TS}
end
end L2
namespace L2
open PySem PySem.Spec PyProof.Rows
section
variable {X:Cx} {C dx a:Addr} {fs:List (Str × V)} {H:Hp} {s:Shared}
end
end L2
namespace L2
open PySem PySem.Spec PyProof.Rows Builtin Builtin.ObjectAttr
structure XG (K:PySem.W.Frag) (C:Addr):Prop where
 ga:PySem.W.findIn K (.ref C) "__getattribute__" = some (some (.builtin "BaseException.__getattribute__"))
 gt:PySem.W.findIn K (.ref C) "__getattr__" = some none
 sub:PySem.W.mroIn K C (.type "BaseException") = some true
section
variable {prog:Program} {w:World} {A:Around} {E:Value→Shared→Prop} {s:Shared} {K:PySem.W.Frag} {x C:Addr} {ox:Obj} {od:Option Obj} {name:Str} {v:Value}
end
structure XY (K:PySem.W.Frag) (C:Addr):Prop where
 g:XG K C
 hd:PySem.W.hasDictIn K C = true
 ha:PySem.W.findIn K (.ref C) "__class__" = some (some (.builtin "object.__class__"))
 hn:PySem.W.specialIn K (.builtin "object.__class__") "__get__" = some (some (.builtin "getset_descriptor.__get__"))
 ht:PySem.W.takesIn K (.builtin "object.__class__") = some true
 hm:PySem.W.mroIn K C (.type "object") = some true
theorem XY.cls {K:PySem.W.Frag} {C:Addr} (y:XY K C):∃ c d cd sl,K.lookup C = some ⟨c,d,.cls cd,sl⟩:=by
 obtain ⟨cd,hc,_⟩:=PySem.W.any_some y.hd
 unfold PySem.W.clsIn at hc
 split at hc
 ·rename_i ho
  exact ⟨_,_,_,_,ho⟩
 ·cases hc
section
variable {X:Cx} {C dx a:Addr} {fs:List (Str × V)} {H:Hp} {s:Shared}
end
end L2
namespace L2
open PySem PySem.Spec PyProof.Rows
section
variable {X:Cx}
end
end L2
namespace L2
open PySem PySem.Spec PyProof.Rows
structure RoomH (k:Nat) (A:Around):Prop where
 dp:A.depth + 3 * k + 5 < recursionLimit
 un:A.units + 16 * k + 200 < cLine
theorem Room.h {j k:Nat} {A:Around} (r:Room k A) (h:j ≤ k):RoomH j A:=⟨(r.mono h).dp,(r.mono h).un⟩
theorem Room.hm {j k:Nat} {A:Around} {o:Option Value} (r:Room k A) (h:j ≤ k):RoomH j (A.mark o):=⟨(r.mono h).dp,(r.mono h).un⟩
theorem RoomH.mono {j k:Nat} {A:Around} (r:RoomH k A) (h:j ≤ k):RoomH j A:=⟨by have:=r.dp; omega,by have:=r.un; omega⟩
section
variable {P:Program} {w:World} {K:PySem.W.Frag} {mg:Str→Option Value} {base:Heap}
end
section
variable {X:Cx} {k:Nat} {f:Addr} {fd:FuncData} {ps:List Str} {sp:Sp} {x:Str} {p pos:Pos} {e:Expr} {es:List Expr} {t:TA}
end
section
variable {X:Cx} {C:Addr}
end
end L2
namespace L2
open PySem PySem.Spec PyProof.Rows
section
variable {X:Cx} {x n:Str} {np hpos pos:Pos} {body suite:List Stmt} {b0:Stmt} {C:Addr} {mt:Value→Prop} {tb:(St→XK)→TS} {th:TS}
end
end L2
namespace L2
open PySem PySem.Spec PyProof.Rows
section
variable {prog:Program} {w:World} {A:Around} {E:Value→Shared→Prop} {s:Shared} {C a:Addr} {bmB:List Value} {newId:String}
end
section
variable {prog:Program} {w:World} {A:Around} {E:Value→Shared→Prop} {h:Heap} {g:Array GenState} {d:Drawn} {t:Nat} {os:OsState}
variable {C:Addr} {bmB:List Value} {B newId initId:String}
end
section
variable {X:Cx} {x y:Str} {np hpos pos p cpos rpos cp:Pos} {kk:Nat} {body:List Stmt} {C D':Addr} {mt:Value→Prop} {tb:(St→XK)→TS} {EX:St→XK} {e:Expr} {es:List Expr} {t:TA} {bmB:List Value} {B newId initId:String}
end
end L2
namespace L2
open PySem PySem.Spec PyProof.Rows
open PySem.Builtin.ObjectAttr
section
variable {X:Cx} {C a:Addr} {H:Hp} {s:Shared}
end
end L2
namespace L2
open PySem PySem.Spec PyProof.Rows
def CDivB (i j:Int):Prop:=0 < j∧j < 1000000000000000000
section
variable {X:Cx}
theorem jsd:OpR X (binaryOp .FloorDiv) (fIC CDivB fun i j=>.int (i / j)):=by
 intro pins s σ H x y v u Q I rx ry h
 unfold fIC at h
 split at h
 ·rename_i i j
  obtain ⟨⟨h1,h2⟩,q⟩:=h
  obtain ⟨t,rfl⟩:=rx
  obtain ⟨t',rfl⟩:=ry
  refine floordiv_int (by omega) ?_ (.inl (PyProof.noPylong_of_log2 ?_))
  ·rw [Int.fdiv_eq_ediv_of_nonneg i (by omega)]
   exact ⟨.int (i / j),H,I.tok _,⟨_,rfl⟩,q⟩
  ·by_cases h0:j.natAbs = 0
   ·rw [h0]; decide
   ·exact Nat.lt_of_lt_of_le ((Nat.log2_lt h0).mpr (show j.natAbs < 2 ^ 60 by omega)) (by decide)
 ·exact h.elim
end
end L2
namespace L2
open PySem PySem.Spec PyProof.Rows
theorem ja8 {a b:TS} {D:Ends} {σ:St} {H:Hp} (h:∀ R,R = b→tSeq a R D σ H):tSeq a b D σ H:=h b rfl
theorem jdw {ι:Type} {wi:TI} {g:TG} {tb:TS} {D:Ends} {σ:St} {H:Hp} (J:ι→It) (H1:ι→Hp) (ok:ι→Prop) (h1:∀ R:It→Hp→Prop,(∀ i,ok i→R (J i) (H1 i))→wi σ H R)
  (h2:∀ i0,ok i0→∃ W:Nat→Nat→St→Hp→Prop,(∃ m,W 0 m σ (H1 i0))∧∀ i m σ H,W i m σ H→((J i0).stop i H∧D.nx σ H) ∨ ((J i0).go i H∧∃ N:St→Hp→Prop,(∀ σ' H',N σ' H'→∃ m',m' < m∧W (i + 1) m' σ' H')∧∀ x H',(J i0).yld i H x H'→g x σ H' fun σ2 H2=>tb { D with nx:=N,ct:=N,bk:=D.nx } σ2 H2)) :
  tFor wi g tb D σ H:=h1 _ h2
section
variable {X:Cx}
end
end L2
namespace So
open PySem PyProof.Rows
def kv (R:Keyed→Int) (xs:Array Keyed) (i:Nat):Int:=(xs[i]?.map R).getD 0
theorem kv_at {R:Keyed→Int} {xs:Array Keyed} {i:Nat} {x:Keyed} (h:xs[i]? = some x):kv R xs i = R x:=by unfold kv; rw [h]; rfl
def Up (R:Keyed→Int) (xs:Array Keyed) (a b:Nat):Prop:=∀ i j,a ≤ i→i ≤ j→j < b→kv R xs i ≤ kv R xs j
def Fore (lo:Nat) (xs ys:Array Keyed):Prop:=∀ i,i < lo→ys[i]? = xs[i]?
theorem Fore.tr {lo:Nat} {xs ys zs:Array Keyed} (a:Fore lo xs ys) (b:Fore lo ys zs):Fore lo xs zs:=fun i h=>(b i h).trans (a i h)
theorem Up.one {R:Keyed→Int} {xs:Array Keyed} {a b:Nat} (h:b ≤ a + 1):Up R xs a b:=fun i j h1 h2 h3=>by
 have e:i = j:=by omega
 rw [e]; exact Int.le_refl _
structure Bs (κ:SortKind) (a₀:Array Keyed) (pd:Array (Nat × Nat × Nat)) (st:SortSt):Prop where
 perm:(arrOf st).Perm a₀
 kind:kindOf st = κ
 ok:failedOf st = none
 pend:pendingOf st = pd
section
variable {prog:Program} {w:World} {A:Around} {E:Value→Shared→Prop} {s:Shared} {R:Keyed→Int} {κ:SortKind} {a₀:Array Keyed} {pd:Array (Nat × Nat × Nat)}
theorem Bs.size {st:SortSt} (b:Bs κ a₀ pd st):(arrOf st).size = a₀.size:=b.perm.size_eq
end
end So
namespace So
open PySem PyProof.Rows
section
variable {prog:Program} {w:World} {A:Around} {E:Value→Shared→Prop} {s:Shared} {R:Keyed→Int} {κ:SortKind} {a₀:Array Keyed} {pd:Array (Nat × Nat × Nat)}
end
end So
namespace So
open PySem PyProof.Rows
def Le (R:Keyed→Int):Keyed→Keyed→Prop:=fun x y=>R x ≤ R y
def MS (R:Keyed→Int) (o la lb tot:List Keyed):Prop:=(o ++ la).Pairwise (Le R)∧(o ++ lb).Pairwise (Le R)∧(o ++ (la ++ lb)).Perm tot
def Fi (R:Keyed→Int) (l tot:List Keyed):Prop:=l.Pairwise (Le R)∧l.Perm tot
section
variable {R:Keyed→Int} {o la lb tot xs:List Keyed}
theorem MS.a (h:MS R o (xs ++ la) lb tot) (hx:∀ x ∈ xs,∀ y ∈ lb,R x ≤ R y):MS R (o ++ xs) la lb tot:=by
 obtain ⟨h1,h2,h3⟩:=h
 refine ⟨by rw [List.append_assoc]; exact h1,?_,by rw [List.append_assoc,← List.append_assoc xs]; exact h3⟩
 rw [List.append_assoc,List.pairwise_append]
 rw [List.pairwise_append] at h1 h2
 obtain ⟨o1,o2,o3⟩:=h1
 obtain ⟨p1,p2,p3⟩:=h2
 rw [List.pairwise_append] at o2
 refine ⟨o1,List.pairwise_append.mpr ⟨o2.1,p2,hx⟩,fun x m y n=>?_⟩
 rcases List.mem_append.mp n with n | n
 ·exact o3 x m y (List.mem_append_left _ n)
 ·exact p3 x m y n
theorem MS.b (h:MS R o la (xs ++ lb) tot) (hx:∀ x ∈ xs,∀ y ∈ la,R x ≤ R y):MS R (o ++ xs) la lb tot:=by
 have z:MS R o (xs ++ lb) la tot:=⟨h.2.1,h.1,(List.Perm.append_left _ List.perm_append_comm).trans h.2.2⟩
 have q:=z.a hx
 exact ⟨q.2.1,q.1,(List.Perm.append_left _ List.perm_append_comm).trans q.2.2⟩
end
section
variable {a:Array Keyed} {R:Keyed→Int} {i k:Nat}
theorem Up.le (u:Up R a 0 a.size) {j:Nat} {x y:Keyed} (hx:a[i]? = some x) (hy:a[j]? = some y) (h:i ≤ j):R x ≤ R y:=by
 have z:=u i j (Nat.zero_le _) h (Array.getElem?_eq_some_iff.mp hy).1
 rwa [kv_at hx,kv_at hy] at z
end
section
variable {M:Model} {A:Around} {E:Value→Shared→Prop} {s:Shared} {σ α:Type}
end
structure Lk (st st':SortSt):Prop where
 kind:kindOf st' = kindOf st
 arr:arrOf st' = arrOf st
 pend:pendingOf st' = pendingOf st
 ok:failedOf st' = failedOf st
section
variable {R:Keyed→Int} {a b out:Array Keyed} {ia ib k:Nat} {tot:List Keyed}
end
section
variable {prog:Program} {w:World} {A:Around} {E:Value→Shared→Prop} {s:Shared} {R:Keyed→Int} {κ:SortKind} {a₀:Array Keyed} {pd:Array (Nat × Nat × Nat)}
end
end So
namespace So
open PySem PyProof.Rows
def MH (R:Keyed→Int) (la lb o tot:List Keyed):Prop:=(la ++ o).Pairwise (Le R)∧(lb ++ o).Pairwise (Le R)∧(la ++ (lb ++ o)).Perm tot
section
variable {R:Keyed→Int} {o la lb tot xs:List Keyed}
theorem MH.a (h:MH R (la ++ xs) lb o tot) (hx:∀ x ∈ xs,∀ y ∈ lb,R y ≤ R x):MH R la lb (xs ++ o) tot:=by
 obtain ⟨h1,h2,h3⟩:=h
 refine ⟨by rw [← List.append_assoc]; exact h1,?_,?_⟩
 ·rw [List.append_assoc,List.pairwise_append] at h1
  rw [List.pairwise_append] at h2 ⊢
  refine ⟨h2.1,h1.2.1,fun y hy x hx2=>?_⟩
  rcases List.mem_append.mp hx2 with n | n
  ·exact hx x n y hy
  ·exact h2.2.2 y hy x n
 ·refine List.Perm.trans ?_ h3
  rw [List.append_assoc]
  refine List.Perm.append_left _ ?_
  rw [← List.append_assoc,← List.append_assoc]
  exact List.Perm.append_right _ List.perm_append_comm
theorem MH.swap (h:MH R la lb o tot):MH R lb la o tot:=by
 refine ⟨h.2.1,h.1,List.Perm.trans ?_ h.2.2⟩
 rw [← List.append_assoc,← List.append_assoc]
 exact List.Perm.append_right _ List.perm_append_comm
theorem MH.b (h:MH R la (lb ++ xs) o tot) (hx:∀ x ∈ xs,∀ y ∈ la,R y ≤ R x):MH R la lb (xs ++ o) tot:=(h.swap.a hx).swap
theorem MH.first (h:MH R la lb o tot) (hx:∀ y ∈ lb,∀ x ∈ la,R y ≤ R x):Fi R (lb ++ la ++ o) tot:=by
 obtain ⟨h1,h2,h3⟩:=h.swap
 refine ⟨?_,by rw [List.append_assoc]; exact h3⟩
 rw [List.append_assoc]
 rw [List.pairwise_append] at h1 h2 ⊢
 refine ⟨h1.1,List.pairwise_append.mpr h2,fun y hy x hx2=>?_⟩
 rcases List.mem_append.mp hx2 with n | n
 ·exact hx y hy x n
 ·exact h1.2.2 y hy x n
end
section
variable {a:Array Keyed} {R:Keyed→Int} {i k n:Nat}
end
section
variable {R:Keyed→Int} {a b out:Array Keyed} {na nb k:Nat} {tot:List Keyed}
end
section
variable {prog:Program} {w:World} {A:Around} {E:Value→Shared→Prop} {s:Shared} {R:Keyed→Int} {κ:SortKind} {a₀:Array Keyed} {pd:Array (Nat × Nat × Nat)}
end
end So
namespace So
open PySem PyProof.Rows
section
variable {prog:Program} {w:World} {A:Around} {E:Value→Shared→Prop} {s:Shared} {R:Keyed→Int} {κ:SortKind} {a₀:Array Keyed} {pd:Array (Nat × Nat × Nat)}
end
end So
namespace So
open PySem PyProof.Rows
def two (pd:Array (Nat × Nat × Nat)):List (Nat × Nat):=pd.toList.map fun t=>(t.1,t.2.1)
def Ch (R:Keyed→Int) (xs:Array Keyed):Nat→List (Nat × Nat)→Nat→Prop
 | p,[],q=>p = q
 | p,(s,n) :: r,q=>s = p∧1 ≤ n∧Up R xs s (s + n)∧Ch R xs (s + n) r q
section
variable {R:Keyed→Int} {xs ys:Array Keyed}
theorem Ch.le:∀ {l:List (Nat × Nat)} {p q:Nat},Ch R xs p l q→p + l.length ≤ q
 | [],p,q,h=>by rw [show p = q from h]; exact Nat.le_refl _
 | (s,n) :: l,p,q,⟨a,b,c,d⟩=>by
  have z:=Ch.le d
  rw [List.length_cons]; omega
end
section
variable {prog:Program} {w:World} {A:Around} {E:Value→Shared→Prop} {s:Shared} {R:Keyed→Int} {κ:SortKind} {a₀:Array Keyed} {pd:Array (Nat × Nat × Nat)}
end
end So
namespace So
open PySem PyProof.Rows
section
variable {prog:Program} {w:World} {A:Around} {E:Value→Shared→Prop} {s:Shared}
theorem Up.all {R:Keyed→Int} {xs:Array Keyed} (u:Up R xs 0 xs.size):xs.toList.Pairwise (Le R):=by
 rw [List.pairwise_iff_getElem]
 intro i j hi hj hij
 rw [Array.length_toList] at hi hj
 exact u.le (getElem?_pos xs i hi) (getElem?_pos xs j hj) (Nat.le_of_lt hij)
def PairAt (h:Heap) (v:Value) (x y:Int):Prop:=∃ a o t u n,v = .ref a∧h.get? a = some o∧o.cls = .type "tuple"∧o.data = .seq #[.int x t,.int y u] n
end
end So
namespace L2
open PySem PySem.Spec PyProof.Rows
end L2
namespace L2
open PySem PySem.Spec PyProof.Rows
def rSum:List V→Hp→VK→Prop:=fun vs H Q=>∃ (p:Addr) (ns:List Int),vs = [.ref p]∧H p = some (.lst (ns.map V.int))∧Q (.int ns.sum) H
theorem jsb {X:Cx} (hc:X.calm = true):jd0 X (.builtin "sum") rSum:=by
 intro pins s σ H xs us Q I r h
 obtain ⟨p,ns,rfl,e,q⟩:=h
 obtain ⟨u,rfl,rx⟩:=jhv r
 cases rx
 obtain ⟨its,r',pl,_⟩:=I.list (SqL.of e)
 have hI:=jck r'
 obtain ⟨zs,hz⟩:=hI.allInts.items
 have hn:=hI.numsOf
 have hl:=pl.isList
 rw [hz] at hl
 refine sum_intListG (I.ok.hd hc) hl fun h' tk t' hk=>?_
 have e2:preSum (numAt zs) zs.size = ns.sum:=by
  rw [preSum_eq,List.take_of_length_le (by simp),← hn,← nums_intItems,← hz]
 rw [e2]
 exact ⟨.int ns.sum,H,I.kept hk,⟨t',rfl⟩,q⟩
def fIsB (f:Bool→Bool):R2:=fun x y H Q=>match x,y with
 | .bl a,.bl b=>Q (.bl (f (a == b))) H
 | _,_=>False
theorem fIsB_r {f:Bool→Bool} {x y:V} {H:Hp} {Q:VK} (h:fIsB f x y H Q):∃ a b,x = .bl a∧y = .bl b∧Q (.bl (f (a == b))) H:=by
 unfold fIsB at h
 split at h
 ·exact ⟨_,_,rfl,rfl,h⟩
 ·exact h.elim
theorem jo7 {X:Cx}:OpR X (compareOp .IsNot) (fIsB not):=by
 intro pins s σ H x y v u Q I rx ry h
 obtain ⟨a,b,rfl,rfl,q⟩:=fIsB_r h
 cases rx
 cases ry
 exact isnot_bool (jbb I q rfl)
end L2
namespace L2
open PySem PySem.Spec PyProof.Rows
theorem kv_at {kvs:List (Key × V)} {vs:List (Key × Value)} (r:KV kvs vs) {i:Nat} {k:Key} {x:Value} (e:vs[i]? = some (k,x)):∃ kv,kvs[i]? = some kv∧kv.1 = k:=by
 obtain ⟨kv,e1,e2⟩:=jc6 r e
 exact ⟨kv,e1,e2.1⟩
end L2
namespace So
open PySem PyProof.Rows
section
variable {prog:Program} {w:World} {A:Around} {E:Value→Shared→Prop} {s:Shared}
section
variable {prog:Program} {w:World} {A:Around} {E:Value→Shared→Prop} {s:Shared} {R:Keyed→Int} {κ:SortKind} {a₀:Array Keyed} {pd:Array (Nat × Nat × Nat)}
end
section
variable {prog:Program} {w:World} {A:Around} {E:Value→Shared→Prop} {s:Shared}
end
end
end So
namespace L2
open PySem PySem.Spec PyProof.Rows
end L2
namespace My
open PySem L2
theorem sl0:(0 ≤ sizeLine) = True:=eq_true (by decide)
theorem sl1:(1 ≤ sizeLine) = True:=eq_true (by decide)
theorem sl2:(2 ≤ sizeLine) = True:=eq_true (by decide)
theorem sl3:(3 ≤ sizeLine) = True:=eq_true (by decide)
theorem sl4:(4 ≤ sizeLine) = True:=eq_true (by decide)
end My
local macro_rules | `(tactic| walk_at "RD") => `(tactic| try simp only [L2.fIsB, L2.tSeq, L2.jq9, L2.jmh, L2.tRet, L2.tRetN, L2.tIfS, L2.tAsg, L2.jff, L2.fAug, L2.tOp, L2.tUn, L2.tC, L2.fVar, L2.fI, L2.fIC, L2.fNeg, L2.fEq, L2.fNe, L2.fIsN, L2.jsq, L2.fAnd, L2.fOr, L2.fNot, L2.fB, L2.tNot, L2.tAnd, L2.tOr, L2.jma, L2.fIx, L2.fLen, L2.jir, L2.fMin, L2.fMax, L2.fInL, L2.fSlL, L2.tSl, L2.jsx, L2.jkl, L2.jeh, L2.fBM, L2.jqw, L2.gSub, L2.jph, L2.jk3, L2.jpg, L2.jqy, L2.jpi, L2.jo3, L2.jnf, L2.fCat, L2.jrv, L2.fBM0, L2.fSlT, L2.jqx, L2.tCBK, L2.fDIn, L2.jsz, L2.fIsi, L2.jk4, L2.jm9, L2.fLtT, L2.js7, L2.tCB, L2.jel, L2.tNil, L2.tTup, L2.tLst, L2.tIf, L2.js6, L2.Kd.nm, L2.start, List.map_cons, List.map_nil, List.length_cons, List.length_nil, Nat.reduceAdd, Nat.reduceSub, List.replicate_succ, List.replicate_zero, List.getElem?_cons_zero, List.getElem?_cons_succ, List.set_cons_zero, List.set_cons_succ, List.append_nil, List.nil_append, List.cons_append, eq_self, true_and, and_true, if_true, Bool.false_eq_true, if_false, Bool.not_true, Bool.not_false, id_eq, My.sl0, My.sl1, My.sl2, My.sl3, My.sl4])
local macro_rules | `(tactic| simp_arith [$args,*]) => `(tactic| try simp only [L2.fIsB, L2.tSeq, L2.jq9, L2.jmh, L2.tRet, L2.tRetN, L2.tIfS, L2.tAsg, L2.jff, L2.fAug, L2.tOp, L2.tUn, L2.tC, L2.fVar, L2.fI, L2.fIC, L2.fNeg, L2.fEq, L2.fNe, L2.fIsN, L2.jsq, L2.fAnd, L2.fOr, L2.fNot, L2.fB, L2.tNot, L2.tAnd, L2.tOr, L2.jma, L2.fIx, L2.fLen, L2.jir, L2.fMin, L2.fMax, L2.fInL, L2.fSlL, L2.tSl, L2.jsx, L2.jkl, L2.jeh, L2.fBM, L2.jqw, L2.gSub, L2.jph, L2.jk3, L2.jpg, L2.jqy, L2.jpi, L2.jo3, L2.jnf, L2.fCat, L2.jrv, L2.fBM0, L2.fSlT, L2.jqx, L2.tCBK, L2.fDIn, L2.jsz, L2.fIsi, L2.jk4, L2.jm9, L2.fLtT, L2.js7, L2.tCB, L2.jel, L2.tNil, L2.tTup, L2.tLst, L2.tIf, L2.js6, L2.Kd.nm, L2.start, List.map_cons, List.map_nil, List.length_cons, List.length_nil, Nat.reduceAdd, Nat.reduceSub, List.replicate_succ, List.replicate_zero, List.getElem?_cons_zero, List.getElem?_cons_succ, List.set_cons_zero, List.set_cons_succ, List.append_nil, List.nil_append, List.cons_append, eq_self, true_and, and_true, if_true, Bool.false_eq_true, if_false, Bool.not_true, Bool.not_false, id_eq, My.sl0, My.sl1, My.sl2, My.sl3, My.sl4, $args,*])
namespace My
open PySem L2
theorem szl {n:Nat} (h:n ≤ 1000):n ≤ sizeLine:=Nat.le_trans h (by decide)
theorem szl' {n:Nat} (h:n ≤ 1000):n < sizeLine:=Nat.lt_of_le_of_lt h (by decide)
def top (i:Nat):Stmt:=PySem.Challenge.pw_touchall_k28_chains_let_by.main.body.getD i (.Pass ⟨0,0,0,0⟩)
structure DefAt (K:PySem.W.Frag) (mg:Str→Option Value) (x:Str) (st:Stmt) (ps:List Str) (f:Addr) (fd:FuncData):Prop where
 F:Fun K x x st f fd
 b:jli K fd ps []
 m:mg x = some (.ref f)
structure Blt (mg:Str→Option Value):Prop where
 len:mg "len" = none
 isinstance:mg "isinstance" = none
 all:mg "all" = none
 min:mg "min" = none
 list:mg "list" = none
 dict:mg "dict" = none
 int:mg "int" = none
 bool:mg "bool" = none
 str:mg "str" = none
 tuple:mg "tuple" = none
 range:mg "range" = none
 enumerate:mg "enumerate" = none
 zip:mg "zip" = none
 max:mg "max" = none
 any:mg "any" = none
 sum:mg "sum" = none
 sorted:mg "sorted" = none
 set:mg "set" = none
structure Cst (mg:Str→Option Value) (t1 t2 t3 t4:Tok):Prop where
 MOST_PLACES:mg "MOST_PLACES" = some (.int 40 t1)
 MOST_TIES:mg "MOST_TIES" = some (.int 120 t2)
 LAST_PLACE:mg "LAST_PLACE" = some (.int 999 t3)
 MOST_PRICE:mg "MOST_PRICE" = some (.int 1000000000000 t4)
section
variable {P:Program} {w:World} {K:PySem.W.Frag} {mg:Str→Option Value} {base:Heap} {c1 c2 c3 c4:Tok}
theorem at0 {α:Type} {x:α} {r:List α}:atI (x :: r) 0 = some x:=by
 have e:atI (x :: r) ((0:Nat):Int) = some x:=jcr rfl
 exact e
theorem at1 {α:Type} {x y:α} {r:List α}:atI (x :: y :: r) 1 = some y:=by
 have e:atI (x :: y :: r) ((1:Nat):Int) = some y:=jcr rfl
 exact e
theorem at2 {α:Type} {x y z:α} {r:List α}:atI (x :: y :: z :: r) 2 = some z:=by
 have e:atI (x :: y :: z :: r) ((2:Nat):Int) = some z:=jcr rfl
 exact e
def jc5:Kd→Bool
 | .int=>true
 | _=>false
def jdn:Sp:=fun vs H Q _=>∃ x k,vs = [x]∧kd H x = some k∧Q (.bl (jc5 k)) H
def jem:Sp:=fun vs H Q _=>∃ a xs m,vs = [.ref a,.int m]∧H a = some (.tup xs)∧Q (.bl (decide ((xs.length:Int) = m))) H
def jdx:Sp:=fun vs H Q _=>∃ a xs m,vs = [.ref a,.int m]∧H a = some (.lst xs)∧Q (.bl (decide ((xs.length:Int) ≤ m))) H
def jnl:Sp:=fun vs H Q _=>∃ x p,vs = [x]∧Pr H x p∧Q (.bl true) H
def jen:Sp:=fun vs H Q _=>∃ x p l s,vs = [x,.int l,.int s]∧Pr H x p∧(l < p.1∧p.1 ≤ 999∧1 ≤ p.2∧p.2 ≤ 1000000000000 - s)∧Q (.bl true) H
def hasK (kvs:List (Key × V)) (n:Int):Bool:=(valV kvs (Sum.inl n:Key)).isSome
def jgc:Sp:=fun vs H Q _=>∃ x p y q d kvs,vs = [x,y,.ref d]∧Pr H x p∧Pr H y q∧H d = some (.dK kvs)∧(HT.lexLt [q.1,q.2] [p.1,p.2] = true∧p.1 < p.2∧hasK kvs p.1 = true∧hasK kvs p.2 = true)∧Q (.bl true) H
theorem jl0 {f:Addr} {fd:FuncData}  (B:Blt mg) (D:DefAt K mg "is_whole" (top 1) ["thing"] f fd):FnOk P w K mg base CX0 1 f fd ["thing"] jdn:=by
 have sc:FnScope ["thing"] ["thing"] (jaf (top 1)):=⟨rfl,rfl,rfl,by decide +kernel,rfl,by decide +kernel,by decide +kernel⟩
 refine D.F.ok sc (fun vs H Q E h=>?_) (fun cdv A outer s H vs Q E hr h=>?_)
 ·obtain ⟨x,k,rfl,_⟩:=h
  rfl
 obtain ⟨x,k,rfl,ek,h⟩:=h
 have hu:=jbh hr
 have hu0:_ < PySem.cLine:=Nat.lt_of_succ_lt hu
 refine ⟨_,(ja6 (jah (jdm (jad (jdl .int) rfl B.isinstance PyProof.Rows.boot_isinstance (ja0 (qv 0) (ja0 (jbq (v:=.ty "int") rfl B.int PyProof.Rows.boot_int rfl) ja3))) (jd9 (q_not (jad (jdl .bl) rfl B.isinstance PyProof.Rows.boot_isinstance (ja0 (qv 0) (ja0 (jbq (v:=.ty "bool") rfl B.bool PyProof.Rows.boot_bool rfl) ja3)))))))),?_⟩
 simp_arith [ek]
 cases k <;> simpa only [isi,jc5,if_true,if_false,Bool.false_eq_true,Bool.not_true,Bool.not_false] using h
theorem jhd {f:Addr} {fd:FuncData}  (B:Blt mg) (D:DefAt K mg "is_tuple_of" (top 2) ["thing","many"] f fd):FnOk P w K mg base CX0 1 f fd ["thing","many"] jem:=by
 have sc:FnScope ["thing","many"] ["thing","many"] (jaf (top 2)):=⟨rfl,rfl,rfl,by decide +kernel,rfl,by decide +kernel,by decide +kernel⟩
 refine D.F.ok sc (fun vs H Q E h=>?_) (fun cdv A outer s H vs Q E hr h=>?_)
 ·obtain ⟨a,xs,m,rfl,_⟩:=h
  rfl
 obtain ⟨a,xs,m,rfl,ea,h⟩:=h
 have hu:=jbh hr
 have hu0:_ < PySem.cLine:=Nat.lt_of_succ_lt hu
 refine ⟨_,(ja6 (jah (jdm (jad (jdl .tup) rfl B.isinstance PyProof.Rows.boot_isinstance (ja0 (qv 0) (ja0 (jbq (v:=.ty "tuple") rfl B.tuple PyProof.Rows.boot_tuple rfl) ja3))) (jd9 (jbn q_eq (jad jcj rfl B.len PySem.boot_len (ja0 (qv 0) ja3)) (qv 1) (jam _)))))),?_⟩
 simp_arith [kd,ea,jaj,isi]
 exact h
theorem jfq {f:Addr} {fd:FuncData}  (B:Blt mg) (D:DefAt K mg "is_list_up_to" (top 4) ["thing","most"] f fd):FnOk P w K mg base CX0 1 f fd ["thing","most"] jdx:=by
 have sc:FnScope ["thing","most"] ["thing","most"] (jaf (top 4)):=⟨rfl,rfl,rfl,by decide +kernel,rfl,by decide +kernel,by decide +kernel⟩
 refine D.F.ok sc (fun vs H Q E h=>?_) (fun cdv A outer s H vs Q E hr h=>?_)
 ·obtain ⟨a,xs,m,rfl,_⟩:=h
  rfl
 obtain ⟨a,xs,m,rfl,ea,h⟩:=h
 have hu:=jbh hr
 have hu0:_ < PySem.cLine:=Nat.lt_of_succ_lt hu
 refine ⟨_,(ja6 (jah (jdm (jad (jdl .lst) rfl B.isinstance PyProof.Rows.boot_isinstance (ja0 (qv 0) (ja0 (jbq (v:=.ty "list") rfl B.list PyProof.Rows.boot_list rfl) ja3))) (jd9 (jbn q_le (jad jcj rfl B.len PySem.boot_len (ja0 (qv 0) ja3)) (qv 1) (jam _)))))),?_⟩
 simp_arith [kd,ea,jaj,isi]
 exact h
theorem je4 {f:Addr} {fd:FuncData} {f_is_tuple_of:Addr} {d_is_tuple_of:FuncData} {f_is_whole:Addr} {d_is_whole:FuncData} (B:Blt mg) (D:DefAt K mg "is_pair_of_wholes" (top 3) ["thing"] f fd) (D_is_tuple_of:DefAt K mg "is_tuple_of" (top 2) ["thing","many"] f_is_tuple_of d_is_tuple_of) (G_is_tuple_of:FnOk P w K mg base CX0 1 f_is_tuple_of d_is_tuple_of ["thing","many"] jem) (D_is_whole:DefAt K mg "is_whole" (top 1) ["thing"] f_is_whole d_is_whole) (G_is_whole:FnOk P w K mg base CX0 1 f_is_whole d_is_whole ["thing"] jdn):FnOk P w K mg base CX0 2 f fd ["thing"] jnl:=by
 have sc:FnScope ["thing"] ["thing"] (jaf (top 3)):=⟨rfl,rfl,rfl,by decide +kernel,rfl,by decide +kernel,by decide +kernel⟩
 refine D.F.ok sc (fun vs H Q E h=>?_) (fun cdv A outer s H vs Q E hr h=>?_)
 ·obtain ⟨x,p,rfl,_⟩:=h
  rfl
 obtain ⟨x,p,rfl,⟨a,rfl,ea⟩,h⟩:=h
 have hu:=jbh hr
 have hu0:_ < PySem.cLine:=Nat.lt_of_succ_lt hu
 refine ⟨_,(ja6 (jah (jdm (ja7 G_is_tuple_of (hr.mono (by decide)) rfl D_is_tuple_of.m D_is_tuple_of.F.kp D_is_tuple_of.b .nil jap (ja0 (qv 0) (ja0 ja4 ja3))) (jdm (ja7 G_is_whole (hr.mono (by decide)) rfl D_is_whole.m D_is_whole.F.kp D_is_whole.b .nil jap (ja0 (jac q_ix (qv 0) ja4 (fun _ _=>rfl)) ja3)) (jd9 (ja7 G_is_whole (hr.mono (by decide)) rfl D_is_whole.m D_is_whole.F.kp D_is_whole.b .nil jap (ja0 (jac q_ix (qv 0) ja4 (fun _ _=>rfl)) ja3))))))),?_⟩
 simp_arith [jaj,ea,at0,at1]
 refine ⟨a,_,2,rfl,ea,?_⟩
 simp_arith [jaj,ea,at0,at1,Int.cast_ofNat_Int,decide_true]
 refine ⟨_,.int,rfl,rfl,?_⟩
 simp_arith [jc5,jaj,ea,at0,at1]
 exact ⟨_,.int,rfl,rfl,h⟩
theorem jgm {f:Addr} {fd:FuncData} {f_is_pair_of_wholes:Addr} {d_is_pair_of_wholes:FuncData} (B:Blt mg) (C:Cst mg c1 c2 c3 c4) (D:DefAt K mg "place_stands" (top 14) ["thing","last","spent"] f fd) (D_is_pair_of_wholes:DefAt K mg "is_pair_of_wholes" (top 3) ["thing"] f_is_pair_of_wholes d_is_pair_of_wholes) (G_is_pair_of_wholes:FnOk P w K mg base CX0 2 f_is_pair_of_wholes d_is_pair_of_wholes ["thing"] jnl):FnOk P w K mg base CX0 3 f fd ["thing","last","spent"] jen:=by
 have sc:FnScope ["thing","last","spent"] ["thing","last","spent"] (jaf (top 14)):=⟨rfl,rfl,rfl,by decide +kernel,rfl,by decide +kernel,by decide +kernel⟩
 refine D.F.ok sc (fun vs H Q E h=>?_) (fun cdv A outer s H vs Q E hr h=>?_)
 ·obtain ⟨x,p,l,s,rfl,_⟩:=h
  rfl
 obtain ⟨x,p,l,sp,rfl,hp,⟨b1,b2,b3,b4⟩,h⟩:=h
 obtain ⟨a,rfl,ea⟩:=id hp
 have hu:=jbh hr
 have hu0:_ < PySem.cLine:=Nat.lt_of_succ_lt hu
 refine ⟨_,(ja2 (jb1 (jb4 (jb6 (ja7 G_is_pair_of_wholes (hr.mono (by decide)) rfl D_is_pair_of_wholes.m D_is_pair_of_wholes.F.kp D_is_pair_of_wholes.b .nil jap (ja0 (qv 0) ja3)))) (ja6 (jah jbd)) jal) (ja6 (jah (jdm (jo8 q_lt q_le (qv 1) (jac q_ix (qv 0) ja4 (fun _ _=>rfl)) (jgg (v:=.int 999) rfl C.LAST_PLACE ⟨_,rfl⟩)) (jd9 (jo8 q_le q_le ja4 (jac q_ix (qv 0) ja4 (fun _ _=>rfl)) (jau jqf (jgg (v:=.int 1000000000000) rfl C.MOST_PRICE ⟨_,rfl⟩) (qv 2)))))))),?_⟩
 walk_at "RD"
 refine ⟨_,p,rfl,hp,?_⟩
 simp_arith [jaj,ea,at0,at1,decide_eq_true b1,decide_eq_true b2,decide_eq_true b3,decide_eq_true b4]
 exact h
theorem jic {f:Addr} {fd:FuncData} {f_is_pair_of_wholes:Addr} {d_is_pair_of_wholes:FuncData} (B:Blt mg) (D:DefAt K mg "tie_stands" (top 15) ["thing","last","prices"] f fd) (D_is_pair_of_wholes:DefAt K mg "is_pair_of_wholes" (top 3) ["thing"] f_is_pair_of_wholes d_is_pair_of_wholes) (G_is_pair_of_wholes:FnOk P w K mg base CX0 2 f_is_pair_of_wholes d_is_pair_of_wholes ["thing"] jnl):FnOk P w K mg base CX0 3 f fd ["thing","last","prices"] jgc:=by
 have sc:FnScope ["thing","last","prices"] ["thing","last","prices"] (jaf (top 15)):=⟨rfl,rfl,rfl,by decide +kernel,rfl,by decide +kernel,by decide +kernel⟩
 refine D.F.ok sc (fun vs H Q E h=>?_) (fun cdv A outer s H vs Q E hr h=>?_)
 ·obtain ⟨x,p,y,q,d,kvs,rfl,_⟩:=h
  rfl
 obtain ⟨x,p,y,q,d,kvs,rfl,hp,hq,hd,⟨b1,b2,b3,b4⟩,h⟩:=h
 obtain ⟨a,rfl,ea⟩:=id hp
 obtain ⟨b,rfl,eb⟩:=id hq
 unfold hasK at b3 b4
 have hu:=jbh hr
 have hu0:_ < PySem.cLine:=Nat.lt_of_succ_lt hu
 refine ⟨_,(ja2 (jb1 (jb4 (jb6 (ja7 G_is_pair_of_wholes (hr.mono (by decide)) rfl D_is_pair_of_wholes.m D_is_pair_of_wholes.F.kp D_is_pair_of_wholes.b .nil jap (ja0 (qv 0) ja3)))) (ja6 (jah jbd)) jal) (ja6 (jah (jdm (jbn (q_ltT hu0) (qv 1) (qv 0) (jam _)) (jdm (jbn q_lt (jac q_ix (qv 0) ja4 (fun _ _=>rfl)) (jac q_ix (qv 0) ja4 (fun _ _=>rfl)) (jam _)) (jdm (jof (jse hu (jac q_ix (qv 0) ja4 (fun _ _=>rfl)) (qv 2))) (jd9 (jof (jse hu (jac q_ix (qv 0) ja4 (fun _ _=>rfl)) (qv 2)))))))))),?_⟩
 walk_at "RD"
 refine ⟨_,p,rfl,hp,?_⟩
 simp_arith [jaj,ea,eb,hd,at0,at1,b1,decide_eq_true b2,b3,b4]
 exact h
end
end My
namespace My
open PySem L2
section
variable {P:Program} {w:World} {K:PySem.W.Frag} {mg:Str→Option Value} {base:Heap} {c1 c2 c3 c4:Tok}
def PlOk:Int→Int→List (Int × Int)→Prop
 | _,_,[]=>True
 | l,s,p :: r=>(l < p.1∧p.1 ≤ 999∧1 ≤ p.2∧p.2 ≤ 1000000000000 - s)∧PlOk p.1 (s + p.2) r
def jbr (ps:List (Int × Int)):List (Key × V):=ps.map fun p=>(Sum.inl p.1,V.int p.2)
def TiOk (kvs:List (Key × V)):Int × Int→List (Int × Int)→Prop
 | _,[]=>True
 | q,p :: r=>(HT.lexLt [q.1,q.2] [p.1,p.2] = true∧p.1 < p.2∧hasK kvs p.1 = true∧hasK kvs p.2 = true)∧TiOk kvs p r
structure WebOk (ps ts:List (Int × Int)):Prop where
 pl:ps.length ≤ 40
 p:PlOk (-1) 0 ps
 tl:ts.length ≤ 120
 t:TiOk (jbr ps) (-1,-1) ts
def jc4 (H:Hp) (v:V) (ps ts:List (Int × Int)):Prop :=
 ∃ u pa ta xs ys,v = .ref u∧H u = some (.tup [.ref pa,.ref ta])∧H pa = some (.lst xs)∧H ta = some (.lst ys)∧Prs H xs ps∧Prs H ys ts
theorem jc4.same {H H':Hp} {v:V} {ps ts:List (Int × Int)} (h:jc4 H v ps ts) (s:Same H H'):jc4 H' v ps ts:=by
 obtain ⟨u,pa,ta,xs,ys,e,h1,h2,h3,h4,h5⟩:=h
 exact ⟨u,pa,ta,xs,ys,e,s _ _ h1,s _ _ h2,s _ _ h3,Prs.same s h4,Prs.same s h5⟩
theorem PlOk.gt:∀ {ps:List (Int × Int)} {l s:Int},PlOk l s ps→∀ p ∈ ps,l < p.1
 | [],_,_,_,_,h=>by cases h
 | q :: r,l,s,h,p,hp=>by
  rcases List.mem_cons.mp hp with e | hp
  ·rw [e]; exact h.1.1
  ·have:=PlOk.gt h.2 p hp
   have:=h.1.1
   omega
theorem PlOk.nodup:∀ {ps:List (Int × Int)} {l s:Int},PlOk l s ps→(ps.map (·.1)).Nodup
 | [],_,_,_=>List.nodup_nil
 | q :: r,l,s,h=>by
  rw [List.map_cons]
  refine List.nodup_cons.mpr ⟨fun hm=>?_,PlOk.nodup h.2⟩
  obtain ⟨p,hp,e⟩:=List.mem_map.mp hm
  have:=PlOk.gt h.2 p hp
  omega
theorem jfd {ps:List (Int × Int)} (h:(ps.map (·.1)).Nodup):((jbr ps).map (·.1)).Nodup:=by
 unfold jbr
 rw [List.map_map]
 have e:((fun (x:Key × V)=>x.1) ∘ fun (p:Int × Int)=>((Sum.inl p.1:Key),V.int p.2)) = (fun (n:Int)=>(Sum.inl n:Key)) ∘ fun (p:Int × Int)=>p.1:=rfl
 rw [e,← List.map_map]
 unfold List.Nodup at h ⊢
 rw [List.pairwise_map]
 exact h.imp fun q z=>q (Sum.inl.inj z)
theorem jg0 {H:Hp}:∀ {xs:List V} {ps:List (Int × Int)},Prs H xs ps→Paired (PairAt H) xs (jbr ps)
 | _,_,.nil=>.nil
 | _,_,.cons r t=>by
  obtain ⟨a,e,q⟩:=r
  exact .cons ⟨a,e,q⟩ (jg0 t)
theorem jg9:∀ {ps:List (Int × Int)} {p:Int × Int},(ps.map (·.1)).Nodup→p ∈ ps→valV (jbr ps) (Sum.inl p.1:Key) = some (.int p.2)
 | [],_,_,h=>by cases h
 | q :: r,p,hn,h=>by
  rw [List.map_cons] at hn
  unfold jbr valV
  rw [List.map_cons,List.find?_cons]
  rcases List.mem_cons.mp h with e | h
  ·rw [e]
   simp
  ·have hne:q.1 ≠ p.1:=fun z=>(List.nodup_cons.mp hn).1 (by rw [z]; exact List.mem_map_of_mem h)
   have hd:decide ((Sum.inl q.1:Key) = Sum.inl p.1) = false:=decide_eq_false fun z=>hne (Sum.inl.inj z)
   dsimp only
   rw [hd]
   exact jg9 (List.nodup_cons.mp hn).2 h
theorem jpe {ps:List (Int × Int)} {p:Int × Int} (hn:(ps.map (·.1)).Nodup) (h:p ∈ ps):hasK (jbr ps) p.1 = true:=by
 unfold hasK
 rw [jg9 hn h]
 rfl
def jfl:Sp:=fun vs H Q _=>∃ a xs ps,vs = [.ref a]∧H a = some (.lst xs)∧Prs H xs ps∧ps.length ≤ 40∧PlOk (-1) 0 ps∧∀ H',Same H H'→Q .non H'
def jhm:Sp:=fun vs H Q _=>∃ a d xs ts kvs,vs = [.ref a,.ref d]∧H a = some (.lst xs)∧H d = some (.dK kvs)∧Prs H xs ts∧ts.length ≤ 120∧TiOk kvs (-1,-1) ts∧∀ H',Same H H'→Q .non H'
def jja:Sp:=fun vs H Q _=>∃ v ps ts,vs = [v]∧jc4 H v ps ts∧WebOk ps ts∧∀ H',Same H H'→Q .non H'
theorem jf7 {f:Addr} {fd:FuncData} {f_is_list_up_to:Addr} {d_is_list_up_to:FuncData} {f_place_stands:Addr} {d_place_stands:FuncData} (B:Blt mg) (C:Cst mg c1 c2 c3 c4) (D:DefAt K mg "look_at_places" (top 16) ["places"] f fd) (D_is_list_up_to:DefAt K mg "is_list_up_to" (top 4) ["thing","most"] f_is_list_up_to d_is_list_up_to) (G_is_list_up_to:FnOk P w K mg base CX0 1 f_is_list_up_to d_is_list_up_to ["thing","most"] jdx) (D_place_stands:DefAt K mg "place_stands" (top 14) ["thing","last","spent"] f_place_stands d_place_stands) (G_place_stands:FnOk P w K mg base CX0 3 f_place_stands d_place_stands ["thing","last","spent"] jen):FnOk P w K mg base CX0 4 f fd ["places"] jfl:=by
 have sc:FnScope ["places","last","spent","number","thing"] ["places"] (jaf (top 16)):=⟨rfl,rfl,rfl,by decide +kernel,rfl,by decide +kernel,by decide +kernel⟩
 refine D.F.ok sc (fun vs H Q E h=>?_) (fun cdv A outer s H vs Q E hr h=>?_)
 ·obtain ⟨a,xs,ps,rfl,_⟩:=h
  rfl
 obtain ⟨a,xs,ps,rfl,ea,hp,hl,ok,h⟩:=h
 have hlx:xs.length = ps.length:=Paired.length hp
 have hu:=jbh hr
 have hu0:_ < PySem.cLine:=Nat.lt_of_succ_lt hu
 refine ⟨_,(ja2 (jb1 (jb4 (jb6 (ja7 G_is_list_up_to (hr.mono (by decide)) rfl D_is_list_up_to.m D_is_list_up_to.F.kp D_is_list_up_to.b .nil jap (ja0 (qv 0) (ja0 (jgg (v:=.int 40) rfl C.MOST_PLACES ⟨_,rfl⟩) ja3))))) (ja6 jeq) jal) (ja2 (jak (i:=1) sc.nd rfl (Or.inl rfl) (jdr jdo ja4)) (ja2 (jak (i:=2) sc.nd rfl (Or.inl rfl) ja4) (ja6 (jbm PassesOwn.never rfl (joe rfl B.enumerate (ja0 (qv 0) ja3)) (jcd (n:=2) rfl (jag (ja9 (i:=3) sc.nd rfl (Or.inl rfl)) (jag (ja9 (i:=4) sc.nd rfl (Or.inl rfl)) jbf))) (ja2 (jb1 (jb4 (jb6 (ja7 G_place_stands (hr.mono (by decide)) rfl D_place_stands.m D_place_stands.F.kp D_place_stands.b .nil jap (ja0 (qv 4) (ja0 (qv 1) (ja0 (qv 2) ja3)))))) (ja6 jeq) jal) (ja2 (jak (i:=1) sc.nd rfl (Or.inl rfl) (jac q_ix (qv 4) ja4 (fun _ _=>rfl))) (ja6 (qs_aug (i:=2) sc.nd rfl (Or.inl rfl) (jac q_ix (qv 4) ja4 (fun _ _=>rfl)) q_iadd))))))))),?_⟩
 walk_at "RD"
 refine ⟨a,xs,40,rfl,ea,?_⟩
 rw [decide_eq_true (show (xs.length:Int) ≤ 40 by omega)]
 walk_at "RD"
 refine ⟨a,rfl,⟨xs,SqL.of ea⟩,jm8 (K:=K) (a:=a) (xs:=xs) (fun i σ H1=>∃ l sp nb th,σ = [some (.ref a),some (.int l),some (.int sp),nb,th]∧Same H H1∧PlOk l sp (ps.drop i)) ⟨-1,0,none,none,rfl,Same.refl _,ok⟩ (fun i σ H1 _ ⟨_,_,_,_,_,s1,_⟩=>SqL.of (s1 _ _ ea)) ?_ ?_⟩
 ·rintro i x σ H1 t hi ⟨l,sp,nb,th,rfl,s1,ok1⟩ ht
  obtain ⟨p,hpi,px⟩:=jaa hp hi
  rw [jch hpi] at ok1
  have s2:Same H (upd H1 t (.tup [.int i,x])):=s1.trans (ja5 ht _)
  have px2:=px.same s2
  obtain ⟨u,rfl,eu⟩:=id px2
  simp_arith [ja1]
  refine ⟨_,p,l,sp,rfl,px2,ok1.1,?_⟩
  simp_arith [jaj,eu,at0,at1]
  exact ⟨_,_,_,_,rfl,s2,ok1.2⟩
 ·rintro σ H1 ⟨l,sp,nb,th,rfl,s1,_⟩
  exact h H1 s1
theorem jgp {f:Addr} {fd:FuncData} {f_is_list_up_to:Addr} {d_is_list_up_to:FuncData} {f_tie_stands:Addr} {d_tie_stands:FuncData} (B:Blt mg) (C:Cst mg c1 c2 c3 c4) (D:DefAt K mg "look_at_ties" (top 17) ["ties","prices"] f fd) (D_is_list_up_to:DefAt K mg "is_list_up_to" (top 4) ["thing","most"] f_is_list_up_to d_is_list_up_to) (G_is_list_up_to:FnOk P w K mg base CX0 1 f_is_list_up_to d_is_list_up_to ["thing","most"] jdx) (D_tie_stands:DefAt K mg "tie_stands" (top 15) ["thing","last","prices"] f_tie_stands d_tie_stands) (G_tie_stands:FnOk P w K mg base CX0 3 f_tie_stands d_tie_stands ["thing","last","prices"] jgc):FnOk P w K mg base CX0 4 f fd ["ties","prices"] jhm:=by
 have sc:FnScope ["ties","prices","last","number","thing"] ["ties","prices"] (jaf (top 17)):=⟨rfl,rfl,rfl,by decide +kernel,rfl,by decide +kernel,by decide +kernel⟩
 refine D.F.ok sc (fun vs H Q E h=>?_) (fun cdv A outer s H vs Q E hr h=>?_)
 ·obtain ⟨a,d,xs,ts,kvs,rfl,_⟩:=h
  rfl
 obtain ⟨a,d,xs,ts,kvs,rfl,ea,ed,hp,hl,ok,h⟩:=h
 have hlx:xs.length = ts.length:=Paired.length hp
 have hu:=jbh hr
 have hu0:_ < PySem.cLine:=Nat.lt_of_succ_lt hu
 refine ⟨_,(ja2 (jb1 (jb4 (jb6 (ja7 G_is_list_up_to (hr.mono (by decide)) rfl D_is_list_up_to.m D_is_list_up_to.F.kp D_is_list_up_to.b .nil jap (ja0 (qv 0) (ja0 (jgg (v:=.int 120) rfl C.MOST_TIES ⟨_,rfl⟩) ja3))))) (ja6 jeq) jal) (ja2 (jak (i:=2) sc.nd rfl (Or.inl rfl) (jaz (ja0 (jdr jdo ja4) (ja0 (jdr jdo ja4) ja3)))) (ja6 (jbm PassesOwn.never rfl (joe rfl B.enumerate (ja0 (qv 0) ja3)) (jcd (n:=2) rfl (jag (ja9 (i:=3) sc.nd rfl (Or.inl rfl)) (jag (ja9 (i:=4) sc.nd rfl (Or.inl rfl)) jbf))) (ja2 (jb1 (jb4 (jb6 (ja7 G_tie_stands (hr.mono (by decide)) rfl D_tie_stands.m D_tie_stands.F.kp D_tie_stands.b .nil jap (ja0 (qv 4) (ja0 (qv 2) (ja0 (qv 1) ja3)))))) (ja6 jeq) jal) (ja6 (jak (i:=2) sc.nd rfl (Or.inl rfl) (qv 4)))))))),?_⟩
 walk_at "RD"
 refine ⟨a,xs,120,rfl,ea,?_⟩
 rw [decide_eq_true (show (xs.length:Int) ≤ 120 by omega)]
 walk_at "RD"
 intro t0 ht0
 refine ⟨a,rfl,⟨xs,SqL.of (ja5 ht0 _ _ _ ea)⟩,jm8 (K:=K) (a:=a) (xs:=xs) (fun i σ H1=>∃ lv q nb th,σ = [some (.ref a),some (.ref d),some lv,nb,th]∧Same H H1∧Pr H1 lv q∧TiOk kvs q (ts.drop i)) ⟨_,(-1,-1),none,none,rfl,ja5 ht0 _,⟨t0,rfl,ja1⟩,ok⟩ (fun i σ H1 _ ⟨_,_,_,_,_,s1,_⟩=>SqL.of (s1 _ _ ea)) ?_ ?_⟩
 ·rintro i x σ H1 t hi ⟨lv,q,nb,th,rfl,s1,pq,ok1⟩ ht
  obtain ⟨p,hpi,px⟩:=jaa hp hi
  rw [jch hpi] at ok1
  have s2:Same H (upd H1 t (.tup [.int i,x])):=s1.trans (ja5 ht _)
  have px2:=px.same s2
  simp_arith [ja1]
  refine ⟨_,p,_,q,d,kvs,rfl,px2,pq.same (ja5 ht _),s2 _ _ ed,ok1.1,?_⟩
  walk_at "RD"
  exact ⟨_,_,_,_,rfl,s2,px2,ok1.2⟩
 ·rintro σ H1 ⟨lv,q,nb,th,rfl,s1,_⟩
  exact h H1 s1
theorem jhb {f:Addr} {fd:FuncData} {f_is_tuple_of:Addr} {d_is_tuple_of:FuncData} {f_look_at_places:Addr} {d_look_at_places:FuncData} {f_look_at_ties:Addr} {d_look_at_ties:FuncData} (B:Blt mg) (D:DefAt K mg "look_at_web" (top 18) ["thing"] f fd) (D_is_tuple_of:DefAt K mg "is_tuple_of" (top 2) ["thing","many"] f_is_tuple_of d_is_tuple_of) (G_is_tuple_of:FnOk P w K mg base CX0 1 f_is_tuple_of d_is_tuple_of ["thing","many"] jem) (D_look_at_places:DefAt K mg "look_at_places" (top 16) ["places"] f_look_at_places d_look_at_places) (G_look_at_places:FnOk P w K mg base CX0 4 f_look_at_places d_look_at_places ["places"] jfl) (D_look_at_ties:DefAt K mg "look_at_ties" (top 17) ["ties","prices"] f_look_at_ties d_look_at_ties) (G_look_at_ties:FnOk P w K mg base CX0 4 f_look_at_ties d_look_at_ties ["ties","prices"] jhm):FnOk P w K mg base CX0 5 f fd ["thing"] jja:=by
 have sc:FnScope ["thing"] ["thing"] (jaf (top 18)):=⟨rfl,rfl,rfl,by decide +kernel,rfl,by decide +kernel,by decide +kernel⟩
 refine D.F.ok sc (fun vs H Q E h=>?_) (fun cdv A outer s H vs Q E hr h=>?_)
 ·obtain ⟨v,ps,ts,rfl,_⟩:=h
  rfl
 obtain ⟨v,ps,ts,rfl,hw,ok,h⟩:=h
 obtain ⟨u,pa,ta,xs,ys,rfl,eu,ep,et,pp,pt⟩:=hw
 have hlx:xs.length = ps.length:=Paired.length pp
 have okl:=ok.pl
 have hu:=jbh hr
 have hu0:_ < PySem.cLine:=Nat.lt_of_succ_lt hu
 refine ⟨_,(ja2 (jb1 (jb4 (jb6 (ja7 G_is_tuple_of (hr.mono (by decide)) rfl D_is_tuple_of.m D_is_tuple_of.F.kp D_is_tuple_of.b .nil jap (ja0 (qv 0) (ja0 ja4 ja3))))) (ja6 jeq) jal) (ja2 (jce (ja7 G_look_at_places (hr.mono (by decide)) rfl D_look_at_places.m D_look_at_places.F.kp D_look_at_places.b .nil jap (ja0 (jac q_ix (qv 0) ja4 (fun _ _=>rfl)) ja3))) (ja6 (jce (ja7 G_look_at_ties (hr.mono (by decide)) rfl D_look_at_ties.m D_look_at_ties.F.kp D_look_at_ties.b .nil jap (ja0 (jac q_ix (qv 0) ja4 (fun _ _=>rfl)) (ja0 (jb5 (jgd rfl) rfl B.dict PyProof.Rows.boot_dict (ja0 (jac q_ix (qv 0) ja4 (fun _ _=>rfl)) ja3)) ja3))))))),?_⟩
 walk_at "RD"
 refine ⟨u,_,2,rfl,eu,?_⟩
 simp_arith [jaj,eu,at0,at1,Int.cast_ofNat_Int,decide_true]
 refine ⟨pa,xs,ps,rfl,ep,pp,ok.pl,ok.p,fun H1 s1=>?_⟩
 simp_arith [jaj,s1 _ _ eu,s1 _ _ ep,at0,at1]
 refine ⟨jbr ps,jg0 (Prs.same s1 pp),by omega,jfd ok.p.nodup,fun d hd=>?_⟩
 have s2:Same H (upd H1 d (.dK (jbr ps))):=s1.trans (ja5 hd _)
 exact ⟨ta,d,ys,ts,_,rfl,s2 _ _ et,ja1,Prs.same s2 pt,ok.tl,ok.t,fun H3 s3=>h H3 (s2.trans s3)⟩
end
end My
namespace My
open PySem L2
section
variable {P:Program} {w:World} {K:PySem.W.Frag} {mg:Str→Option Value} {base:Heap} {c1 c2 c3 c4:Tok}
theorem ix30:ixN 3 0 = some 0:=rfl
theorem ix31:ixN 3 1 = some 1:=rfl
theorem ix32:ixN 3 2 = some 2:=rfl
def StO (o:HO):Prop:=∃ c st fl,o = .lst [.int c,.int st,.bl fl]∧0 ≤ st∧st < 4294967296
theorem StO.imm {o:HO} (h:StO o):jsr o = false:=by obtain ⟨_,_,_,rfl,_⟩:=h; rfl
def jny (K:PySem.W.Frag):Sp:=fun vs H Q _=>∃ a k ns,vs = [.ref a,.int k]∧Scr K H a ns∧0 ≤ k∧k ≤ 1000∧∀ s o,H s = none→StO o→Q (.ref s) (upd H s o)
def jfk:Sp:=fun vs H Q _=>∃ s o m,vs = [.ref s,.int m]∧H s = some o∧StO o∧1 ≤ m∧m < 1000000000000000000∧∀ d o,0 ≤ d→d < m→StO o→Q (.int d) (upd H s o)
theorem cmR {i j:Int} (h1:-(2 ^ 64) < j) (h2:j < 2 ^ 64):CMul i j:=.inr ⟨h1,h2⟩
theorem cmL {i j:Int} (h1:-(2 ^ 64) < i) (h2:i < 2 ^ 64):CMul i j:=.inl ⟨h1,h2⟩
def But (s:Addr) (H H':Hp):Prop:=∀ b o,b ≠ s→H b = some o→H' b = some o
theorem But.refl (s:Addr) (H:Hp):But s H H:=fun _ _ _ q=>q
theorem But.trans {s:Addr} {H H1 H2:Hp} (a:But s H H1) (b:But s H1 H2):But s H H2:=fun c o n q=>b c o n (a c o n q)
theorem But.at (s:Addr) (H:Hp) (o:HO):But s H (upd H s o):=fun b u n q=>by rw [jae n]; exact q
theorem But.new {s t:Addr} {H:Hp} {o:HO} (h:H t = none):But s H (upd H t o):=fun b u n q=>by rw [jae (jab q h)]; exact q
theorem But.tups {s:Addr} {H H':Hp} (h:But s H H') {o:HO} (e:H s = some o) (i:jsr o = false):TupS H H':=fun b u z q=>h b u (fun x=>by rw [x,e] at q; cases q; rw [i] at z; cases z) q
def js2 (H H':Hp) (t:Addr) (ps ts:List (Int × Int)):Prop:=∃ l1 l2 xs ys,H l1 = none∧H l2 = none∧l1 ≠ l2∧H' t = some (.tup [.ref l1,.ref l2])∧H' l1 = some (.lst xs)∧H' l2 = some (.lst ys)∧Prs H' xs ps∧Prs H' ys ts
def jnv:Sp:=fun vs H Q _=>∃ v ps ts,vs = [v]∧jc4 H v ps ts∧∀ t H',Same H H'→js2 H H' t ps ts→Q (.ref t) H'
theorem jkv {f:Addr} {fd:FuncData}  (B:Blt mg) (D:DefAt K mg "_law_take" (top 39) ["_law_state","_law_many"] f fd):FnOk P w K mg base CX0 1 f fd ["_law_state","_law_many"] jfk:=by
 have sc:FnScope ["_law_state","_law_many","_law_digit","_law_number"] ["_law_state","_law_many"] (jaf (top 39)):=⟨rfl,rfl,rfl,by decide +kernel,rfl,by decide +kernel,by decide +kernel⟩
 refine D.F.ok sc (fun vs H Q E h=>?_) (fun cdv A outer s H vs Q E hr h=>?_)
 ·obtain ⟨s,o,m,rfl,_⟩:=h
  rfl
 obtain ⟨st,o,m,rfl,es,⟨c,x,fl,rfl,x0,x1⟩,m0,m1,h⟩:=h
 have hu:=jbh hr
 have hu0:_ < PySem.cLine:=Nat.lt_of_succ_lt hu
 refine ⟨_,(ja2 (jb1 (jb6 (jac q_ix (qv 0) ja4 (fun _ _=>rfl))) (ja2 (jak (i:=2) sc.nd rfl (Or.inl rfl) (jau jjd (jac q_ix (qv 0) ja4 (fun _ _=>rfl)) (qv 1))) (ja2 (jd3 (jau jsd (jac q_ix (qv 0) ja4 (fun _ _=>rfl)) (qv 1)) (jd8 (qv 0) ja4 jd7)) (ja2 (jd3 (jbn q_gt (jac q_ix (qv 0) ja4 (fun _ _=>rfl)) ja4 (jam _)) (jd8 (qv 0) ja4 jd7)) (ja6 (jah (qv 2)))))) jal) (ja2 (jd3 (jau jjd (jau jc8 (jau je3 (jac q_ix (qv 0) ja4 (fun _ _=>rfl)) ja4) ja4) ja4) (jd8 (qv 0) ja4 jd7)) (ja2 (jak (i:=3) sc.nd rfl (Or.inl rfl) (jau jlv (jau jjd (jau je3 (jac q_ix (qv 0) ja4 (fun _ _=>rfl)) (jac q_ix (qv 0) ja4 (fun _ _=>rfl))) ja4) ja4)) (ja2 (jb1 (jao q_gt (qv 1) (jau jsc ja4 ja4) (jam _)) (ja2 (jd3 (jau jjd (jau jc8 (jau je3 (jac q_ix (qv 0) ja4 (fun _ _=>rfl)) ja4) ja4) ja4) (jd8 (qv 0) ja4 jd7)) (ja6 (jak (i:=3) sc.nd rfl (Or.inl rfl) (jau jc8 (jau je3 (qv 3) ja4) (jac q_ix (qv 0) ja4 (fun _ _=>rfl)))))) jal) (ja6 (jah (jau jjd (qv 3) (qv 1)))))))),?_⟩
 simp_arith [jaj,es,at0,at1,at2,ix30,ix31,ix32,ja1,jf5]
 have lo:∀ n:Int,0 ≤ n % m:=fun n=>Int.emod_nonneg _ (by omega)
 have hi:∀ n:Int,n % m < m:=fun n=>Int.emod_lt_of_pos _ (by omega)
 have y0:0 ≤ (x * 48271 + 39373) % 2147483647:=Int.emod_nonneg _ (by decide)
 have y1:(x * 48271 + 39373) % 2147483647 < 2147483647:=Int.emod_lt_of_pos _ (by decide)
 generalize (x * 48271 + 39373) % 2147483647 = y at y0 y1
 have z0:0 ≤ (y * 48271 + 39373) % 2147483647:=Int.emod_nonneg _ (by decide)
 have z1:(y * 48271 + 39373) % 2147483647 < 2147483647:=Int.emod_lt_of_pos _ (by decide)
 generalize (y * 48271 + 39373) % 2147483647 = z at z0 z1
 have cd:CDivB c m:=⟨by omega,by omega⟩
 have cd2:∀ n:Int,CDiv n 16:=fun n=>⟨by decide,by decide⟩
 have cp:CPow 10 6:=⟨by decide,by decide,by decide⟩
 refine ite2 (fun _=>⟨by omega,cd,h _ _ (lo _) (hi _) ⟨_,_,_,rfl,x0,x1⟩⟩) (fun _=>⟨cmR (by decide) (by decide),by decide,cmL (by omega) (by omega),by decide,cd2 _,cp,?_⟩)
 refine ite2 (fun _=>⟨cmR (by decide) (by decide),by decide,cmR (by decide) (by decide),by omega,h _ _ (lo _) (hi _) ⟨_,_,_,rfl,z0,by omega⟩⟩) (fun _=>⟨by omega,h _ _ (lo _) (hi _) ⟨_,_,_,rfl,y0,by omega⟩⟩)
theorem jjn {f:Addr} {fd:FuncData}  (B:Blt mg) (D:DefAt K mg "_law_begun" (top 38) ["_law_script","_law_k"] f fd):FnOk P w K mg base CX0 1 f fd ["_law_script","_law_k"] (jny K):=by
 have sc:FnScope ["_law_script","_law_k","_law_cell","_law_mixed"] ["_law_script","_law_k"] (jaf (top 38)):=⟨rfl,rfl,rfl,by decide +kernel,rfl,by decide +kernel,by decide +kernel⟩
 refine D.F.ok sc (fun vs H Q E h=>?_) (fun cdv A outer s H vs Q E hr h=>?_)
 ·obtain ⟨a,k,ns,rfl,_⟩:=h
  rfl
 obtain ⟨a,k,ns,rfl,hs,k0,k1,h⟩:=h
 have hu:=jbh hr
 have hu0:_ < PySem.cLine:=Nat.lt_of_succ_lt hu
 refine ⟨_,(ja2 (jak (i:=2) sc.nd rfl (Or.inl rfl) ja4) (ja2 (jb1 (jao q_lt (qv 1) (jad jdv rfl B.len PySem.boot_len (ja0 (qv 0) ja3)) (jam _)) (ja6 (jak (i:=2) sc.nd rfl (Or.inl rfl) (jac jp9 (qv 0) (qv 1) (fun _ _=>rfl)))) jal) (ja2 (jak (i:=3) sc.nd rfl (Or.inl rfl) (jau jc8 (jau jc8 (jau jjd (qv 2) ja4) (jau je3 ja4 (qv 1))) (jau je3 ja4 (jau jlv (qv 1) ja4)))) (ja6 (jah (jc0 (ja0 (qv 2) (ja0 (jau jjd (qv 3) ja4) (ja0 (jbn q_ge (qv 2) (jau jsc ja4 ja4) (jam _)) ja3))))))))),?_⟩
 walk_at "RD"
 refine ⟨a,_,rfl,.inl hs.sq,?_⟩
 simp_arith [List.length_map,rIxL]
 have q0:∀ n:Int,0 ≤ n % 2147483629:=fun n=>Int.emod_nonneg _ (by decide)
 have q1:∀ n:Int,n % 2147483629 < 2147483629:=fun n=>Int.emod_lt_of_pos _ (by decide)
 have cp:CPow 10 18:=⟨by decide,by decide,by decide⟩
 have cd:CDiv k 7:=⟨by decide,by decide⟩
 refine ite2 (fun c=>?_) (fun c=>?_)
 ·have c':k < (ns.length:Int):=of_decide_eq_true c
  have hk:k.toNat < ns.length:=by omega
  have e1:atI (ns.map V.int) ((k.toNat:Nat):Int) = some (.int ns[k.toNat]):=jcr (by rw [List.getElem?_map,List.getElem?_eq_getElem hk]; rfl)
  rw [show ((k.toNat:Nat):Int) = k by omega] at e1
  refine ⟨a,_,k,_,rfl,rfl,hs.sq,e1,?_⟩
  walk_at "RD"
  exact ⟨by decide,cmL (by decide) (by decide),cd,cmL (by decide) (by decide),by decide,cp,fun p hp=>h p _ hp ⟨_,_,_,rfl,q0 _,by have:=q1 (ns[k.toNat] % 2147483629 + 104729 * k + 7919 * (k / 7)); omega⟩⟩
 ·exact ⟨by decide,cmL (by decide) (by decide),cd,cmL (by decide) (by decide),by decide,cp,fun p hp=>h p _ hp ⟨_,_,_,rfl,q0 _,by have:=q1 (0 % 2147483629 + 104729 * k + 7919 * (k / 7)); omega⟩⟩
end
end My
namespace So
open PySem PySem.Spec PyProof.Rows
section
variable {prog:Program} {w:World} {s:Shared}
end
end So
namespace L2
open PySem PySem.Spec PyProof.Rows
def Tp (H:Hp) (v:V) (p:Int × Int × Int):Prop:=∃ a,v = .ref a∧H a = some (.tup [.int p.1,.int p.2.1,.int p.2.2])
abbrev Tps (H:Hp) (xs:List V) (ps:List (Int × Int × Int)):Prop:=Paired (Tp H) xs ps
end L2
namespace L2
open PySem PySem.Spec PyProof.Rows
section
variable {X:Cx}
def jqz:R2:=fun x y H Q=>match x,y with
 | .ref a,.ref b=>match H a,H b with
  | some (.tup xs),some (.tup ys)=>xs.length + ys.length ≤ sizeLine∧ys ≠ []∧if xs = [] then Q (.ref b) H else ∀ p,H p = none→Q (.ref p) (upd H p (.tup (xs ++ ys)))
  | _,_=>False
 | _,_=>False
theorem jrj:OpR X (binaryOp .Add) jqz:=by
 intro pins s σ H x y v u Q I rx ry h
 unfold jqz at h
 split at h
 ·rename_i a b
  split at h
  ·rename_i xs ys ha hb
   obtain ⟨hz,hy,h⟩:=h
   by_cases c:xs = []
   ·rw [if_pos c] at h
    subst c
    cases rx
    cases ry
    obtain ⟨its,r1,p1,_⟩:=I.tuple (SqT.of ha)
    obtain ⟨its2,r2,p2,_⟩:=I.tuple (SqT.of hb)
    cases r1
    obtain ⟨⟨cls,dd,data,sl⟩,ho,hc,n,hd⟩:=id p1
    obtain ⟨⟨cls2,dd2,data2,sl2⟩,ho2,hc2,n2,hd2⟩:=id p2
    simp only at hc hd hc2 hd2
    subst hc hd hc2 hd2
    exact concat_meets (T:="tuple") ⟨_,ho,rfl⟩ ⟨_,ho2,rfl⟩ noFill_tuple_add seq_tuple_add PySem.F.slot_tuple_add PySem.F.entry_tuple_add (PySem.F.args_tuple_add_2 _ _) (tuple_addW0 a b _ _ n n2 dd dd2 sl sl2 (by simp)) ⟨ho,ho2,⟨.ref b,H,I,rfl,h⟩⟩
   ·rw [if_neg c] at h
    exact jol pins s σ H _ _ v u Q I rx ry ⟨a,b,xs,ys,rfl,rfl,SqT.of ha,SqT.of hb,c,hz,fun z=>absurd z hy,fun _=>h⟩
  ·exact h.elim
 ·exact h.elim
theorem q_popI:MtR X "list.pop" jrg:=fun pins s σ H x xs v us Q I rx rv q=>jqq pins s σ H x xs v us Q I rx rv q
end
end L2
namespace L2
open PySem PySem.Spec PyProof.Rows
theorem jsw {K:PySem.W.Frag} {a c:Addr} {xs ys:List V} {g:TG} {tb:TS} {D:Ends} {σ:St} {H:Hp} (Pv:Nat→St→Hp→Prop) (hxy:xs.length = ys.length) (h0:Pv 0 σ H) (hl:∀ i σ H,i ≤ xs.length→Pv i σ H→SqL K H a xs∧SqL K H c ys)
  (hs:∀ i x y σ H t,xs[i]? = some x→ys[i]? = some y→Pv i σ H→H t = none→g (.ref t) σ (upd H t (.tup [x,y])) fun σ2 H2=>tb { D with nx:=Pv (i + 1),ct:=Pv (i + 1),bk:=D.nx } σ2 H2) (hd:∀ σ H,Pv xs.length σ H→D.nx σ H) :
  ∃ W:Nat→Nat→St→Hp→Prop,(∃ m,W 0 m σ H)∧∀ i m σ H,W i m σ H →
   ((Itz true K a c).stop i H∧D.nx σ H) ∨ ((Itz true K a c).go i H∧∃ N:St→Hp→Prop,(∀ σ' H',N σ' H'→∃ m',m' < m∧W (i + 1) m' σ' H')∧∀ x H',(Itz true K a c).yld i H x H'→g x σ H' fun σ2 H2=>tb { D with nx:=N,ct:=N,bk:=D.nx } σ2 H2):=by
 refine ⟨fun i m σ H=>m = xs.length - i∧i ≤ xs.length∧Pv i σ H,⟨xs.length,by simp,Nat.zero_le _,h0⟩,?_⟩
 rintro i m σ H ⟨rfl,hi,p⟩
 obtain ⟨q1,q2⟩:=hl i σ H hi p
 have q1':SqB true K H a xs:=by unfold SqB; rw [if_pos rfl]; exact q1
 have q2':SqB true K H c ys:=by unfold SqB; rw [if_pos rfl]; exact q2
 by_cases hlt:i < xs.length
 ·refine .inr ⟨⟨xs,ys,xs[i],ys[i]'(by omega),q1',q2',by simp [hlt],by simp [show i < ys.length by omega]⟩,Pv (i + 1),fun σ' H' p'=>⟨xs.length - (i + 1),by omega,rfl,hlt,p'⟩,fun x H' y=>?_⟩
  obtain ⟨t,z1,z2,ht,e1,e2,y1,y2⟩:=y
  subst e1 e2
  exact hs i z1 z2 σ _ t (y1 xs q1') (y2 ys q2') p ht
 ·have e:i = xs.length:=by omega
  subst e
  exact .inl ⟨⟨xs,ys,q1',q2',.inl (Nat.le_refl _)⟩,hd σ H p⟩
end L2
namespace L2
open PySem PySem.Spec PyProof.Rows
section
variable {X:Cx}
def jsy:V→List V→Hp→VK→Prop:=fun x vs H Q=>match x,vs with
 | .ref l,[.int k,y]=>match H l with
  | some (.lst xs)=>(0 ≤ k∧k ≤ xs.length∧xs.length < 1000)∧Q .non (upd H l (.lst (xs.take k.toNat ++ y :: xs.drop k.toNat)))
  | _=>False
 | _,_=>False
theorem jqu (its:List Value) (k:Int) (u:Value) (h0:0 ≤ k) (h1:k ≤ its.length) :
  (fun xs:Array Value=>have j:=if k < 0 then (k + (xs.size:Int)).toNat else min k.toNat xs.size; (xs.extract 0 j).push u ++ xs.extract j) its.toArray = (its.take k.toNat ++ u :: its.drop k.toNat).toArray:=by
 have e:(if k < 0 then (k + (its.toArray.size:Int)).toNat else min k.toNat its.toArray.size) = k.toNat:=by
  rw [if_neg (by omega),List.size_toArray]
  omega
 show ((its.toArray.extract 0 (if k < 0 then (k + (its.toArray.size:Int)).toNat else min k.toNat its.toArray.size)).push u ++ its.toArray.extract (if k < 0 then (k + (its.toArray.size:Int)).toNat else min k.toNat its.toArray.size)) = _
 rw [e]
 apply Array.ext'
 simp
 exact List.take_of_length_le (by rw [List.length_drop]; omega)
theorem q_insS:MtR X "list.insert" jsy:=by
 intro pins s σ H x vs v us Q I rx rv h
 unfold jsy at h
 split at h
 ·rename_i l k y
  split at h
  ·rename_i xs hH
   obtain ⟨⟨h0,h1,hz⟩,q⟩:=h
   cases rx
   obtain ⟨u1,u2,rfl,r1,r2⟩:=rv.two
   obtain ⟨t,rfl⟩:=r1
   obtain ⟨z,its,n,r,hl,e⟩:=I.lstM hH
   have hsz:its.toArray.size ≤ sizeLine:=by rw [List.size_toArray,sizeLine_eq]; omega
   refine call_meets F.slot_list_insert ⟨_,e,rfl⟩ F.entry_list_insert (F.args_list_insert_3 _ _ _) (PySem.AutoSeq1.list_insert_list_int_val_1 l its.toArray n k t u2 (by unfold Builtin.List.listFitsIndex; simp; omega) hsz) ⟨e,?_⟩
   refine ⟨.non,_,I.lset (its':=its.take k.toNat ++ u2 :: its.drop k.toNat) hH e (jqu its k u2 h0 (by omega)) (Vals.append (r.take _) (.cons r2 (r.drop _))) ?_,rfl,q⟩
   rw [List.length_append,List.length_cons,List.length_take,List.length_drop,sizeLine_eq]
   omega
  ·exact h.elim
 ·exact h.elim
end
end L2
namespace L2
open PySem PySem.Spec PyProof.Rows
section
variable {prog:Program} {w:World} {A:Around} {E:Value→Shared→Prop} {s:Shared}
end
end L2
namespace L2
open PySem PySem.Spec PyProof.Rows
def jfa {K:Type} [DecidableEq K] (xs:List (K × Addr × Value)):List (K × Addr × Value)→List (K × Addr × Value)
 | []=>xs
 | q :: r=>jfa (storedH xs q.1 q.2.1 q.2.2) r
theorem jko {K:Type} [DecidableEq K] (xs:List (K × Addr × Value)) (k:K) (a:Addr) (v:Value):(storedH xs k a v).length ≤ xs.length + 1:=by
 unfold storedH
 split
 ·rw [List.length_map]; omega
 ·rw [List.length_append]; exact Nat.le_refl _
section
variable {prog:Program} {w:World} {A:Around} {E:Value→Shared→Prop} {R:Result→Shared→Prop}
abbrev TK (prog:Program) (w:World):HeapKind prog w (List Key):=tupleKind (jbl prog w)
theorem je2 {h h':Heap} {d:Addr} {xs:List (List Key × Addr × Value)} (hd:h.DictOfH (TK prog w) d xs) (k0:∀ o,h.get? d = some o→h'.get? d = some o) (k1:∀ b o,o.cls = .type "tuple"→h.get? b = some o→h'.get? b = some o):h'.DictOfH (TK prog w) d xs:=by
 obtain ⟨o,es,ep,e1,e2,e3,e4,e5,e6⟩:=hd
 refine ⟨o,es,ep,k0 _ e1,e2,e3,e4,fun x hx=>?_,e6⟩
 obtain ⟨o2,its,n,f1,f2,f3⟩:=e5 x hx
 exact ⟨o2,its,n,k1 _ _ f2 f1,f2,f3⟩
theorem jmw {d it l:Addr} {its:Array Value} {more:List (List Key × Addr × Value)} (hh:A.handled = none) (hu:A.in1.units < cLine) (hlen:more.length = its.size) (hsz:its.size ≤ 1000) (hdl:l ≠ d) (hdi:it ≠ d) (hil:l ≠ it) :
  ∀ (k i:Nat) (tk0:Tok) (s:Shared) (kvs:List (List Key × Addr × Value)),its.size - i = k→i ≤ its.size→kvs.length ≤ i→s.heap.IsListIter it l i→s.heap.IsList l its→s.heap.DictOfH (TK prog w) d kvs →
   (∀ (j:Nat) (q:List Key × Addr × Value),more[j]? = some q→∃ t,its[j]? = some (.ref t)∧s.heap.IsTuple t #[.ref q.2.1,q.2.2]∧(TK prog w).is s.heap q.1 q.2.1) →
   (∀ h' tk,h'.DictOfH (TK prog w) d (jfa kvs (more.drop i))→(∀ b o,b ≠ d→b ≠ it→s.heap.get? b = some o→h'.get? b = some o)→R (.ok (.ret .none)) { s with heap:=h',toks:=tk }) →
   codeAny (model prog w) A (.builtin "dict.update.loop" ⟨[.ref d,.ref it,.int i tk0,.none],[]⟩) R s:=by
 intro k
 induction k with
 | zero =>
  intro i tk0 s kvs hk hi hkl hit hl hd hp hR
  have e:i = its.size:=by omega
  subst e
  refine codeAny_builtin jbc ?_
  rw [Around.under_plainId jat _]
  show wpAny _ A.in1 (pyNext (.ref it) >>= _) _ _ s
  refine wpAny_bind (wpAny_pyNext_list_end hh hit hl (by simp) fun h' eb=>?_)
  show wpAny _ A.in1 (Builtin.Dict.addKeywords d [] >>= _) _ _ _
  refine wpAny_bind (wpAny_pure (wpAny_pure ?_))
  refine hR h' s.toks ?_ fun b o _ hb q=>eb b o hb q
  rw [List.drop_eq_nil_of_le (by omega)]
  refine je2 hd (fun o q=>eb d o hdi.symm q) fun b o c q=>eb b o (fun z=>?_) q
  subst z
  obtain ⟨o',e2,c2,_⟩:=hit
  rw [q] at e2; cases e2; rw [c] at c2; exact absurd c2 (by decide)
 | succ k ih =>
  intro i tk0 s kvs hk hi hkl hit hl hd hp hR
  have hlt:i < its.size:=by omega
  have hlm:i < more.length:=by omega
  obtain ⟨t,hu',ht,hkey⟩:=hp i more[i] (by simp [hlm])
  have nit:∀ {b:Addr} {o:Obj},o.cls = .type "tuple"→s.heap.get? b = some o→b ≠ it:=fun {b o} c q z=>by
   subst z
   obtain ⟨o',e2,c2,_⟩:=hit
   rw [q] at e2; cases e2; rw [c] at c2; exact absurd c2 (by decide)
  have nd:∀ {b:Addr} {o:Obj},o.cls = .type "tuple"→s.heap.get? b = some o→b ≠ d:=fun {b o} c q z=>by
   subst z
   obtain ⟨o',_,_,e2,c2,_⟩:=hd
   rw [q] at e2; cases e2; rw [c2.1] at c; exact absurd c (by decide)
  refine codeAny_builtin jbc ?_
  rw [Around.under_plainId jat _]
  show wpAny _ A.in1 (pyNext (.ref it) >>= _) _ _ s
  refine wpAny_bind (wpAny_pyNext_list_item hit hl hu' fun h1 hit1 sb1=>?_)
  obtain ⟨ot0,et0,ct0,_⟩:=id ht
  have ht1:h1.IsTuple t #[.ref more[i].2.1,more[i].2.2]:=ht.extBut sb1.extBut (nit ct0 et0)
  have keep1:∀ b o,o.cls = .type "tuple"→s.heap.get? b = some o→h1.get? b = some o:=fun b o c q=>sb1.extBut b o (nit c q) q
  have hd1:h1.DictOfH (TK prog w) d kvs:=je2 hd (fun o q=>sb1.extBut d o hdi.symm q) keep1
  have hkey1:(TK prog w).is h1 more[i].1 more[i].2.1:=by
   obtain ⟨o2,its2,n2,f1,f2,f3⟩:=hkey
   exact ⟨o2,its2,n2,keep1 _ _ f2 f1,f2,f3⟩
  show wpAny _ A.in1 (holding [.ref t] _ >>= _) _ _ _
  refine wpAny_bind (wpAny_holding ?_)
  refine wpAny_bind (m:=(Builtin.Dict.pairItems (.ref t)).tryCatch _) ?_
  refine wpAny_tryCatch ?_
  unfold Builtin.Dict.pairItems
  refine wpAny_bind (wpAny_typeOf ht1.typeIs ?_)
  obtain ⟨ot,e1,c1,n1,d1⟩:=id ht1
  rw [if_pos (by decide)]
  refine wpAny_bind (wpAny_seqItems e1 d1 ?_)
  refine wpAny_pure ?_
  show wpAny _ A.in1 (holding [.ref more[i].2.1,more[i].2.2] (dictSet d (.ref more[i].2.1) more[i].2.2)) _ _ _
  refine wpAny_holding (wpAny_dictSet_heap (knd:=TK prog w) hu hkey1 hd1 (fun h2 hd2 sb2=>?_) (by have:=(by decide:1000 ≤ sizeLine); omega))
  replace sb2:Heap.SameBut d h1 h2:=sb2
  have kk:∀ b o,b ≠ d→b ≠ it→s.heap.get? b = some o→h2.get? b = some o:=fun b o b1 b2 q=>sb2.extBut b o b1 (sb1.extBut b o b2 q)
  refine wpAny_pure ⟨plainId_quiet jat _,?_⟩
  have hik:((i:Int) + 1) = ((i + 1:Nat):Int):=by omega
  show codeAny _ _ (.builtin "dict.update.loop" ⟨[.ref d,.ref it,rawInt ((i:Int) + 1),.none],[]⟩) _ _
  rw [hik]
  refine ih (i + 1) 0 _ (storedH kvs more[i].1 more[i].2.1 more[i].2.2) (by omega) (by omega) ?_ (hit1.extBut sb2.extBut hdi) ((hl.extBut sb1.extBut hil).extBut sb2.extBut hdl) hd2 ?_ ?_
  ·have:=jko kvs more[i].1 more[i].2.1 more[i].2.2
   omega
  ·intro j q hq
   obtain ⟨t',a1,a2,a3⟩:=hp j q hq
   obtain ⟨o3,f1,f2,f3⟩:=a2
   obtain ⟨o4,its4,n4,g1,g2,g3⟩:=a3
   exact ⟨t',a1,⟨o3,kk _ _ (nd f2 f1) (nit f2 f1) f1,f2,f3⟩,⟨o4,its4,n4,kk _ _ (nd g2 g1) (nit g2 g1) g1,g2,g3⟩⟩
  ·intro h' tk hd' k'
   refine hR h' tk ?_ fun b o b1 b2 q=>k' b o b1 b2 (kk b o b1 b2 q)
   rw [List.drop_eq_getElem_cons hlm]
   exact hd'
theorem jha {l:Addr} {its:Array Value} {c:Nat} {more:List (List Key × Addr × Value)} {s:Shared} {Q:Value→Shared→Prop} (hh:A.handled = none) (hu:A.in1.in1.units < cLine) (hl:s.heap.get? l = some { cls:=.type "list",dict:=none,data:=.seq its c,slots:=#[] }) (hlen:more.length = its.size) (hsz:its.size ≤ 1000)
  (hp:∀ (j:Nat) (q:List Key × Addr × Value),more[j]? = some q→∃ t,its[j]? = some (.ref t)∧s.heap.IsTuple t #[.ref q.2.1,q.2.2]∧(TK prog w).is s.heap q.1 q.2.1)
  (h:∀ h' tk,h'.DictOfH (TK prog w) s.heap.objs.size (jfa [] more)→(∀ b o,s.heap.get? b = some o→h'.get? b = some o)→Q (.ref s.heap.objs.size) { s with heap:=h',toks:=tk }) :
  wpAny (model prog w) A (call (.type "dict") [.ref l]) Q E s:=by
 refine callType_codes (Q₁:=fun obj s₁=>obj = .ref s.heap.objs.size∧s₁ = { s with heap:=s.heap.push { cls:=.type "dict",data:=.dict #[] } }) F.kt_called_dict (F.kt_typeCall_dict_1 _) F.entry_dict_init (kt_code_dict_new _ ⟨rfl,rfl⟩) ?_
 rintro obj s₁ ⟨rfl,rfl⟩
 have hnew:(s.heap.push { cls:=.type "dict",data:=.dict #[] }).DictOfH (TK prog w) s.heap.objs.size []:=Heap.DictOfH.new s.heap
 have hl1:(s.heap.push { cls:=.type "dict",data:=.dict #[] }).get? l = some { cls:=.type "list",dict:=none,data:=.seq its c,slots:=#[] }:=Heap.get?_push_of_some _ hl
 have k1:∀ b o,s.heap.get? b = some o→(s.heap.push { cls:=.type "dict",data:=.dict #[] }).get? b = some o:=fun b o q=>Heap.get?_push_of_some _ q
 have llt:l < s.heap.objs.size:=Heap.lt_size hl
 generalize s.heap.push { cls:=.type "dict",data:=.dict #[] } = h1 at hnew hl1 k1
 refine ⟨hnew.typeIs,F.args_dict_init_2 _ _,?_⟩
 unfold Builtin.«dict.__init__»
 refine wpAny_bind ?_
 unfold Builtin.Dict.selfAndRest
 refine wpAny_bind (wpAny_notOrdered_dict hnew.typeIs ?_)
 show wpAny _ _ (pure (s.heap.objs.size,[Value.ref l])) _ _ _
 refine wpAny_pure ?_
 show wpAny _ _ (Builtin.Dict.updateFrom "dict.__init__" s.heap.objs.size (.ref l) [] .none) _ _ _
 unfold Builtin.Dict.updateFrom
 refine wpAny_bind (wpAny_typeOf (T:="list") ⟨_,hl1,rfl⟩ ?_)
 rw [if_pos (by decide)]
 refine wpAny_bind (jrp hl1 hh fun h2 tk2 k2=>?_)
 have hl2:=k2 _ _ hl1
 have hd2:h2.DictOfH (TK prog w) s.heap.objs.size []:=je2 hnew (fun o q=>k2 _ _ q) fun b o _ q=>k2 _ _ q
 have dlt:s.heap.objs.size < h2.objs.size:=by obtain ⟨_,_,_,ho,_⟩:=hd2; exact Heap.lt_size ho
 simp only [Option.isNone_none,if_true]
 refine wpAny_bind (wpAny_rule ?_)
 have hL:Heap.IsList h2 l its:=⟨_,hl2,rfl,_,rfl⟩
 refine wpAny_bind (wpAny_pyIter_list (s:={ s with heap:=h2,toks:=tk2 }) hL ?_)
 refine wpAny_pure ⟨plainId_quiet jat _,?_⟩
 have hit:(h2.push { cls:=.type "list_iterator",data:=.fields #[.ref l,.int 0 0] }).IsListIter h2.objs.size l 0:=⟨_,Heap.get?_push_size _ rfl,rfl,rfl⟩
 refine jmw (A:=A.in1) (more:=more) hh hu hlen hsz (Nat.ne_of_lt llt) (Nat.ne_of_gt dlt) (Nat.ne_of_lt (Nat.lt_trans llt dlt)) its.size 0 0 { s with heap:=h2.push { cls:=.type "list_iterator",data:=.fields #[.ref l,.int 0 0] },toks:=tk2 } [] rfl (Nat.zero_le _) (Nat.le_refl _) hit (hL.push _) (je2 hd2 (fun o q=>Heap.get?_push_of_some _ q) fun b o _ q=>Heap.get?_push_of_some _ q) ?_ ?_
 ·intro j q hq
  obtain ⟨t,a1,a2,a3⟩:=hp j q hq
  obtain ⟨o,e,r⟩:=a2
  obtain ⟨o4,its4,n4,g1,g2,g3⟩:=a3
  exact ⟨t,a1,⟨o,Heap.get?_push_of_some _ (k2 _ _ (k1 _ _ e)),r⟩,⟨o4,its4,n4,Heap.get?_push_of_some _ (k2 _ _ (k1 _ _ g1)),g2,g3⟩⟩
 ·intro h' tk hd' k'
  rw [List.drop_zero] at hd'
  refine ⟨rfl,h h' tk hd' fun b o q=>k' b o (Nat.ne_of_lt (Heap.lt_size q)) (Nat.ne_of_lt (Heap.lt_size (k2 _ _ (k1 _ _ q)))) (Heap.get?_push_of_some _ (k2 _ _ (k1 _ _ q)))⟩
end
theorem jn2 {K:Type} [DecidableEq K] {xs:List (K × Addr × Value)} {k:K} (h:k ∉ xs.map (·.1)):(atKey xs k).isSome = false:=by
 unfold atKey
 rw [Option.isSome_map]
 refine Bool.eq_false_iff.mpr fun z=>?_
 rw [List.find?_isSome] at z
 obtain ⟨x,hx,e⟩:=z
 exact h (by rw [← of_decide_eq_true e]; exact List.mem_map_of_mem hx)
theorem jgw {K:Type} [DecidableEq K]:∀ (more xs:List (K × Addr × Value)),((xs ++ more).map (·.1)).Nodup→jfa xs more = xs ++ more
 | [],xs,_=>by rw [jfa,List.append_nil]
 | q :: r,xs,h=>by
  have hq:q.1 ∉ xs.map (·.1):=by
   rw [List.map_append,List.nodup_append] at h
   intro z
   exact h.2.2 _ z _ (List.mem_map_of_mem (List.mem_cons_self ..)) rfl
  rw [jfa]
  have e:storedH xs q.1 q.2.1 q.2.2 = xs ++ [q]:=by
   unfold storedH
   rw [jn2 hq,if_neg Bool.false_ne_true]
  rw [e,jgw r (xs ++ [q]) (by rw [List.append_assoc]; exact h),List.append_assoc]
  rfl
def jis (H:Hp) (v:V) (p:List Key × V):Prop:=∃ t b,v = .ref t∧H t = some (.tup [.ref b,p.2])∧H b = some (.tup (p.1.map kV))
def rDictT:List V→Hp→VK→Prop:=fun vs H Q=>∃ l xs kvs,vs = [.ref l]∧H l = some (.lst xs)∧Paired (jis H) xs kvs∧xs.length ≤ 1000∧(kvs.map (·.1)).Nodup∧∀ d,H d = none→Q (.ref d) (upd H d (.dT kvs))
theorem jgh {X:Cx} {pins:List (Addr × Obj)} {σ:St} {H:Hp} {s:Shared} (I:Inv X pins σ H s):∀ {xs:List V} {kvs:List (List Key × V)} {its:List Value},Paired (jis H) xs kvs→Vals xs its →
  ∃ more:List (List Key × Addr × Value),KT H kvs more∧∀ (j:Nat) (q:List Key × Addr × Value),more[j]? = some q→∃ t,its[j]? = some (.ref t)∧s.heap.IsTuple t #[.ref q.2.1,q.2.2]∧(TK X.prog X.w).is s.heap q.1 q.2.1
 | _,_,_,.nil,.nil=>⟨[],.nil,fun j q h=>by simp at h⟩
 | _,_,_,.cons hp tp,.cons rv tr=>by
  obtain ⟨more,hk,hm⟩:=jgh I tp tr
  obtain ⟨t,b,rfl,ht,hb⟩:=hp
  cases rv
  obtain ⟨_,its',rt,hi⟩:=I.hok t _ ht
  obtain ⟨u1,u2,rfl,r1,r2⟩:=rt.two
  cases (show u1 = Value.ref b from r1)
  refine ⟨(_,b,u2) :: more,.cons ⟨rfl,hb,r2⟩ hk,fun j q h=>?_⟩
  cases j with
  | zero =>
   have e:=(show some _ = some q from h)
   cases e
   exact ⟨t,rfl,hi,jgz I.hok hb⟩
  | succ j =>
   obtain ⟨t2,a1,a2,a3⟩:=hm j q (by simpa using h)
   exact ⟨t2,by simpa using a1,a2,a3⟩
theorem jq5 {H:Hp}:∀ {kvs:List (List Key × V)} {xs:List (List Key × Addr × Value)},KT H kvs xs→kvs.map (·.1) = xs.map (·.1)
 | _,_,.nil=>rfl
 | _,_,.cons r t=>by rw [List.map_cons,List.map_cons,r.1,jq5 t]
theorem jn0 {X:Cx} (hc:X.calm = true) (hu:X.A.units + 64 < cLine):jd0 X (.type "dict") rDictT:=by
 intro pins s σ H vs us Q I rv h
 obtain ⟨l,xs,kvs,rfl,hl,hp,hz,hn,q⟩:=h
 obtain ⟨u,rfl,ru⟩:=rv.one
 cases ru
 obtain ⟨z,its,n,r,hlen,e⟩:=I.lstM hl
 obtain ⟨more,hkv,hm⟩:=jgh I hp r
 have hlm:kvs.length = more.length:=Paired.length hkv
 have hlx:xs.length = kvs.length:=Paired.length hp
 refine jha (more:=more) (I.ok.hd hc) (show X.A.units + 1 + 1 < cLine by omega) e (by rw [List.size_toArray]; omega) (by rw [List.size_toArray]; omega) (fun j q hj=>?_) fun h' tk dd k=>?_
 ·obtain ⟨t,a1,a2,a3⟩:=hm j q hj
  exact ⟨t,by simpa using a1,a2,a3⟩
 ·rw [jgw more [] (by rw [List.nil_append,← jq5 hkv]; exact hn),List.nil_append] at dd
  obtain ⟨o,es,ep,h1,h2,h3,h4,_,h5⟩:=dd
  refine ⟨.ref s.heap.objs.size,upd H s.heap.objs.size (.dT kvs),I.laid k (Nat.le_refl _) (show jc9 X.prog X.w _ _ _ (.dT kvs) from ⟨by have:=(by decide:1000 ≤ sizeLine); omega,by have:=I.big; exact beq_false_of_ne (Nat.ne_of_gt this),more,hkv.keeps fun b ys eb=>?_,o,es,ep,h1,h2,h3,h4,h5⟩),rfl,q _ I.fresh⟩
  rw [jae (jab eb I.fresh)]
  exact eb
end L2
namespace L2
open PySem PySem.Spec PyProof.Rows
def leL:List Int→List Int→Bool
 | [],_=>true
 | _ :: _,[]=>false
 | x :: xs,y :: ys=>if x = y then leL xs ys else decide (x ≤ y)
theorem jm3 (x y:Int) (xs ys:List Int):leL (x :: xs) (y :: ys) = if x = y then leL xs ys else decide (x ≤ y):=rfl
theorem rc_le (A:Around) (s:Shared) (a:Int) (t:Tok) (c:Int) (u:Tok) (prog:Program) (w:World) (E Q:Value→Shared→Prop) (h:Q (.bool (decide (a ≤ c))) s) :
  wpAny (model prog w) A (richCompare .LtE (.int a t) (.int c u)) Q E s :=
 (PyProof.Rows.le_int h:wpAny (model prog w) A (compareOp .LtE (.int a t) (.int c u)) Q E s)
section
open PySem.SeqAt
open PySem.AutoSeq1 (wpAny_loadPart')
open PySem.MeetsSeq PySem.MeetsSeq2 PySem.MeetsSeq3
theorem jqr (l b:Addr) (is js:Array Value) (n n2:Nat) (dd dd2:Option Addr) (sl sl2:Array (Option Value)) (ns ms:List Int) (hi:IntsAre is.toList ns) (hj:IntsAre js.toList ms) :
  Meets (Builtin.«tuple.__le__» ⟨[.ref l,.ref b],[]⟩)
   (fun _ R s=>s.heap.get? l = some { cls:=.type "tuple",dict:=dd,data:=.seq is n,slots:=sl }∧s.heap.get? b = some { cls:=.type "tuple",dict:=dd2,data:=.seq js n2,slots:=sl2 }∧R (.ok (.ret (.bool (leL ns ms)))) s) :=
 .of_wp fun prog w A R s h=>by
  obtain ⟨hp,g,d,tk,os⟩:=s
  obtain ⟨hl,hb,h⟩:=h
  have f2:=AutoSeq1.sub_tuple_tuple
  have z1:is.size = ns.length:=by rw [← hi.length]; simp
  have z2:js.size = ms.length:=by rw [← hj.length]; simp
  wp_walk using wpAny_loadPart' hl,wpAny_loadPart' hb,wpAny_forIn_list _ (fun rest b s'=>b.1 = none∧s' = ⟨hp,g,d,tk,os⟩∧∃ (vs ws:List Value) (k m:List Int),rest = vs.zip ws∧IntsAre vs k∧IntsAre ws m∧k.length + js.size = m.length + is.size∧R (.ok (.ret (.bool (leL k m)))) ⟨hp,g,d,tk,os⟩) _
  case turn =>
   rintro ⟨y,x⟩ rest b s' ⟨q0,rfl,vs,ws,k,m,hz,q1,q2,q3,q4⟩
   cases q1 with
   | nil=>rw [List.zip_nil_left] at hz; cases hz
   | cons a t q1 =>
    cases q2 with
    | nil=>rw [List.zip_nil_right] at hz; cases hz
    | cons c u q2 =>
     rw [List.zip_cons_cons] at hz
     injection hz with p1 p2
     injection p1 with p3 p4
     subst p3 p4
     rw [jm3] at q4
     simp only [List.length_cons] at q3
     refine wpAny_bind (SeqAt.EqAt.int_int a t c u prog w _ _ ?_)
     by_cases e:a = c
     ·rw [if_pos e] at q4
      rw [show (a == c) = true by rw [e]; exact beq_self_eq_true _]
      wp_walk
      exact ⟨rfl,rfl,_,_,_,_,p2,q1,q2,by omega,q4⟩
     ·rw [if_neg e] at q4
      rw [show (a == c) = false by rw [beq_eq_false_iff_ne]; exact e]
      have hri:=rc_le A.in1 ⟨hp,g,d,tk,os⟩ a t c u prog w
      wp_walk using hri
      exact ⟨_,rfl,by simpa using q4⟩
  case fin =>
   rintro ⟨b1,b2⟩ s' ⟨q0,rfl,vs,ws,k,m,hz,q1,q2,q3,q4⟩
   simp only at q0
   subst q0
   have hv:leL k m = decide (is.size ≤ js.size):=by
    cases q1 with
    | nil =>
     simp only [List.length_nil] at q3
     rw [show leL [] m = true by cases m <;> rfl]
     exact (decide_eq_true (by omega)).symm
    | cons a t q1 =>
     cases q2 with
     | nil =>
      simp only [List.length_nil,List.length_cons] at q3
      exact (decide_eq_false (by omega)).symm
     | cons c u q2 =>
      rw [List.zip_cons_cons] at hz
      cases hz
   rw [hv] at q4
   wp_walk
   exact ⟨_,rfl,by simpa [Builtin.Tuple.tupleCompareSizes] using q4⟩
  case h =>
   exact ⟨rfl,rfl,is.toList,js.toList,ns,ms,rfl,hi,hj,by omega,h⟩
end
section
variable {X:Cx} {a b c:Expr} {ta tb tc:TE} {pos:Pos}
theorem jlu {op op':CmpOp} {g:Int→Int→Bool} {r':R2} (ho:OpR X (compareOp op) (fI fun i j=>.bl (g i j))) (ho':OpR X (compareOp op') r') (ha:PE X a ta) (hb:PE X b tb) (hc:PE X c tc)
    (hm:lastMarks [op,op'] [b,c] = false:=by with_unfolding_all rfl):PT X (.Compare a [op,op'] [b,c] pos) (fB (jma (fI fun i j=>.bl (g i j)) r' ta tb tc)):=by
  intro pins s σ H Q I h
  refine isTrue_chain (thn (ha pins s σ H _ I h) fun v s1 ⟨x,H1,I1,r1,q1⟩=>test_link (thn (hb pins s1 σ H1 _ I1 q1) fun u s2 ⟨y,H2,I2,r2,q2⟩ =>
    thn (ho pins s2 σ H2 x y v u (fun z H3=>∃ k,z = .bl k∧(if k = true then tc σ H3 fun w' H4=>r' y w' H4 fun z2 H5=>match z2 with | .bl q=>Q q H5 | _=>False else Q false H3)) I2 r1 r2 ?_) fun d s3 ⟨z,H3,I3,r3,k,e,q3⟩=>?_)) hm
  · dsimp only at q2
    unfold fI at q2 ⊢
    cases x <;> cases y <;> first
      | exact q2.elim
      | exact ⟨_,rfl,q2⟩
  · subst e
    cases r3
    refine wpAny_truthy_bool ?_
    cases k with
    | false=>exact ite_ff ⟨H3,I3,q3⟩
    | true =>
      refine ite_tt (test_last (thn (hc pins s3 σ H3 _ I3 q3) fun w' s4 ⟨z',H4,I4,r4,q4⟩=>thn (ho' pins s4 σ H4 y z' u w' _ I4 r2 r4 q4) fun d2 s5 ⟨z2,H5,I5,r5,q5⟩=>?_))
      cases z2 <;> first
        | exact False.elim q5
        | (cases r5
           exact wpAny_truthy_bool ⟨H5,I5,q5⟩)
end
def fLeT:R2:=fun x y H Q=>match x,y with
 | .ref a,.ref b=>match H a,H b with
  | some (.tup [.int i,.int j]),some (.tup [.int k,.int l])=>Q (.bl (leL [i,j] [k,l])) H
  | _,_=>False
 | _,_=>False
theorem q_leT {X:Cx} (hu:X.A.units < cLine):OpR X (compareOp .LtE) fLeT:=by
 intro pins s σ H x y v u Q I rx ry h
 unfold fLeT at h
 split at h
 ·split at h
  ·rename_i a b _ _ i j k l e1 e2
   cases rx
   cases ry
   obtain ⟨its,r1,p1,_⟩:=I.tuple (SqT.of e1)
   obtain ⟨its2,r2,p2,_⟩:=I.tuple (SqT.of e2)
   have i1:IntsAre its.toArray.toList [i,j]:=jck r1
   have i2:IntsAre its2.toArray.toList [k,l]:=jck r2
   obtain ⟨⟨cls,dd,data,sl⟩,ho,hc,n,hd⟩:=id p1
   obtain ⟨⟨cls2,dd2,data2,sl2⟩,ho2,hc2,n2,hd2⟩:=id p2
   simp only at hc hd hc2 hd2
   subst hc hd hc2 hd2
   exact richCompare_meets_room (op:=.LtE) ⟨_,ho,rfl⟩ ⟨_,ho2,rfl⟩ PySem.F.slot_tuple_le PySem.F.entry_tuple_le (PySem.F.args_tuple_le_2 _ _) (jqr _ _ _ _ n n2 dd dd2 sl sl2 _ _ i1 i2)
    ⟨ho,ho2,(fun z=>nomatch z),.bl _,H,I,rfl,h⟩ hu
  ·exact h.elim
 ·exact h.elim
end L2
namespace My
open PySem L2
section
variable {P:Program} {w:World} {K:PySem.W.Frag} {mg:Str→Option Value} {base:Heap} {c1 c2 c3 c4:Tok} {C_NoWeb f_NoWeb:Addr} {dI:FuncData}
def prO:Dt→Option (Int × Int)
 | .tup [.int x,.int y]=>some (x,y)
 | _=>none
def OPr (H:Hp) (x:V) (o:Option (Int × Int)):Prop:=∃ d,Rep H d x∧prO d = o
theorem jia {d:Dt} {p:Int × Int} (h:prO d = some p):d = jb9 p:=by
 unfold prO at h
 split at h
 ·cases h; rfl
 ·cases h
theorem jly {H:Hp} {x:V} {p:Int × Int} (h:Rep H (jb9 p) x):Pr H x p:=by
 rw [jb9,Rep] at h
 obtain ⟨a,vs,rfl,ea,r⟩:=h
 rw [Reps] at r
 obtain ⟨v,r1,rfl,e1,r⟩:=r
 rw [Reps] at r
 obtain ⟨v2,r2,rfl,e2,r⟩:=r
 rw [Reps] at r
 subst r
 rw [Rep] at e1 e2
 subst e1 e2
 exact ⟨a,rfl,ea⟩
theorem Pr.o {H:Hp} {x:V} {p:Int × Int} (h:Pr H x p):OPr H x (some p):=⟨jb9 p,h.rep,rfl⟩
def kdD:Dt→Kd
 | .non=>.non
 | .bl _=>.bl
 | .int _=>.int
 | .str _=>.str
 | .tup _=>.tup
 | .lst _=>.lst
theorem jd2 {H:Hp} {d:Dt} {x:V} (h:Rep H d x):L2.kd H x = some (kdD d):=by
 cases d with
 | non=>rw [Rep] at h; subst h; rfl
 | bl b=>rw [Rep] at h; subst h; rfl
 | int b=>rw [Rep] at h; subst h; rfl
 | str b=>rw [Rep] at h; subst h; rfl
 | tup ds=>rw [Rep] at h; obtain ⟨a,vs,rfl,e,_⟩:=h; unfold L2.kd; dsimp only; rw [e]; rfl
 | lst ds=>rw [Rep] at h; obtain ⟨a,vs,rfl,e,_⟩:=h; unfold L2.kd; dsimp only; rw [e]; rfl
def tupB (m:Int):Dt→Bool
 | .tup ds=>decide ((ds.length:Int) = m)
 | _=>false
def jlq:Sp:=fun vs H Q _=>∃ x d m,vs = [x,.int m]∧Rep H d x∧Q (.bl (tupB m d)) H
def jnk:Sp:=fun vs H Q _=>∃ x o,vs = [x]∧OPr H x o∧Q (.bl o.isSome) H
def trO:Dt→Option (Int × Int × Int)
 | .tup [.int x,.int y,.int z]=>some (x,y,z)
 | _=>none
def tripD (d:Int × Int × Int):Dt:=.tup [.int d.1,.int d.2.1,.int d.2.2]
theorem jlm {d:Dt} {p:Int × Int × Int} (h:trO d = some p):d = tripD p:=by
 unfold trO at h
 split at h
 ·cases h; rfl
 ·cases h
theorem jfv {H:Hp} {x:V} {p:Int × Int × Int} (h:Rep H (tripD p) x):Tp H x p:=by
 rw [tripD,Rep] at h
 obtain ⟨a,vs,rfl,ea,r⟩:=h
 rw [Reps] at r
 obtain ⟨v,r1,rfl,e1,r⟩:=r
 rw [Reps] at r
 obtain ⟨v2,r2,rfl,e2,r⟩:=r
 rw [Reps] at r
 obtain ⟨v3,r3,rfl,e3,r⟩:=r
 rw [Reps] at r
 subst r
 rw [Rep] at e1 e2 e3
 subst e1 e2 e3
 exact ⟨a,rfl,ea⟩
def dueO (d:Dt):Option (Int × Int × Int):=match trO d with
 | some p=>if 1 ≤ p.2.2 then some p else none
 | none=>none
def jns:Sp:=fun vs H Q _=>∃ x d,vs = [x]∧Rep H d x∧∀ H',Same H H'→Q (.bl (dueO d).isSome) H'
def jg8 (ds:List Dt):Bool:=ds.all fun d=>jc5 (kdD d)
theorem jk5 {ds:List Dt} (h:ds.length = 3) (hw:jg8 ds = true):∃ p:Int × Int × Int,ds = [.int p.1,.int p.2.1,.int p.2.2]:=by
 match ds,h with
 | [a,b,c],_ =>
  unfold jg8 at hw
  simp only [List.all_cons,List.all_nil,Bool.and_true,Bool.and_eq_true] at hw
  obtain ⟨h1,h2,h3⟩:=hw
  cases a with
  | int x=>cases b with
   | int y=>cases c with
    | int z=>exact ⟨(x,y,z),rfl⟩
    | _=>cases h3
   | _=>cases h2
  | _=>cases h1
theorem jln {ds:List Dt} (h:¬ ds.length = 3 ∨ jg8 ds = false):trO (.tup ds) = none:=by
 unfold trO
 split
 ·rename_i e
  cases e
  rcases h with h | h
  ·exact absurd rfl h
  ·cases h
 ·rfl
def jaq (ds:List (Int × Int × Int)) (n:Int):Int:=(ds.map fun d=>(if d.1 = n then d.2.2 else 0) + (if d.2.1 = n then d.2.2 else 0)).sum
def jhi (kvs:List (Key × V)) (ds:List (Int × Int × Int)):Prop:=∀ n:Int,(valV kvs (Sum.inl n:Key) = none∧jaq ds n = 0) ∨ valV kvs (Sum.inl n:Key) = some (.int (jaq ds n))
theorem jhi.get {kvs:List (Key × V)} {ds:List (Int × Int × Int)} (h:jhi kvs ds) (n:Int):(valV kvs (Sum.inl n:Key)).getD (.int 0) = .int (jaq ds n):=by
 rcases h n with ⟨e,f⟩ | e
 ·rw [e,f]; rfl
 ·rw [e]; rfl
def jkq:Sp:=fun vs H Q _=>∃ l zs ds,vs = [.ref l]∧H l = some (.lst zs)∧Tps H zs ds∧ds.length ≤ 200∧∀ d kvs H',Same H H'→H' d = some (.dK kvs)→jhi kvs ds→Q (.ref d) H'
theorem Tp.tups {H H':Hp} {v:V} {p:Int × Int × Int} (h:Tp H v p) (s:TupS H H'):Tp H' v p:=let ⟨a,e,q⟩:=h; ⟨a,e,s _ _ rfl q⟩
theorem jbk {H H':Hp} (s:TupS H H'):∀ {xs:List V} {ps:List (Int × Int × Int)},Tps H xs ps→Tps H' xs ps
 | _,_,.nil=>.nil
 | _,_,.cons r t=>.cons (Tp.tups r s) (jbk s t)
theorem jfz (kvs:List (Key × V)) (k:Key) (v:V):(putK kvs k v).length ≤ kvs.length + 1:=jeg kvs k v
theorem jgu {f:Addr} {fd:FuncData}  (B:Blt mg) (D:DefAt K mg "is_tuple_of" (top 2) ["thing","many"] f fd):FnOk P w K mg base CX0 1 f fd ["thing","many"] jlq:=by
 have sc:FnScope ["thing","many"] ["thing","many"] (jaf (top 2)):=⟨rfl,rfl,rfl,by decide +kernel,rfl,by decide +kernel,by decide +kernel⟩
 refine D.F.ok sc (fun vs H Q E h=>?_) (fun cdv A outer s H vs Q E hr h=>?_)
 ·obtain ⟨x,d,m,rfl,_⟩:=h
  rfl
 obtain ⟨x,d,m,rfl,hd,h⟩:=h
 have hk:=jd2 hd
 have hu:=jbh hr
 have hu0:_ < PySem.cLine:=Nat.lt_of_succ_lt hu
 refine ⟨_,(ja6 (jah (jdm (jad (jdl .tup) rfl B.isinstance PyProof.Rows.boot_isinstance (ja0 (qv 0) (ja0 (jbq (v:=.ty "tuple") rfl B.tuple PyProof.Rows.boot_tuple rfl) ja3))) (jd9 (jbn q_eq (jad jcj rfl B.len PySem.boot_len (ja0 (qv 0) ja3)) (qv 1) (jam _)))))),?_⟩
 cases d with
 | tup ds =>
  rw [Rep] at hd
  obtain ⟨a,vs,rfl,ea,r⟩:=hd
  simp_arith [kd,ea,jaj,isi]
  rw [r.len]
  exact h
 | non=>simp_arith [hk,isi,kdD]; exact h
 | bl b=>simp_arith [hk,isi,kdD]; exact h
 | int b=>simp_arith [hk,isi,kdD]; exact h
 | str b=>simp_arith [hk,isi,kdD]; exact h
 | lst b=>simp_arith [hk,isi,kdD]; exact h
theorem jds {f:Addr} {fd:FuncData} {f_is_tuple_of:Addr} {d_is_tuple_of:FuncData} {f_is_whole:Addr} {d_is_whole:FuncData} (B:Blt mg) (D:DefAt K mg "is_pair_of_wholes" (top 3) ["thing"] f fd) (D_is_tuple_of:DefAt K mg "is_tuple_of" (top 2) ["thing","many"] f_is_tuple_of d_is_tuple_of) (G_is_tuple_of:FnOk P w K mg base CX0 1 f_is_tuple_of d_is_tuple_of ["thing","many"] jlq) (D_is_whole:DefAt K mg "is_whole" (top 1) ["thing"] f_is_whole d_is_whole) (G_is_whole:FnOk P w K mg base CX0 1 f_is_whole d_is_whole ["thing"] jdn):FnOk P w K mg base CX0 2 f fd ["thing"] jnk:=by
 have sc:FnScope ["thing"] ["thing"] (jaf (top 3)):=⟨rfl,rfl,rfl,by decide +kernel,rfl,by decide +kernel,by decide +kernel⟩
 refine D.F.ok sc (fun vs H Q E h=>?_) (fun cdv A outer s H vs Q E hr h=>?_)
 ·obtain ⟨x,o,rfl,_⟩:=h
  rfl
 obtain ⟨x,o,rfl,ho,h⟩:=h
 obtain ⟨d,hd,rfl⟩:=ho
 have hu:=jbh hr
 have hu0:_ < PySem.cLine:=Nat.lt_of_succ_lt hu
 refine ⟨_,(ja6 (jah (jdm (ja7 G_is_tuple_of (hr.mono (by decide)) rfl D_is_tuple_of.m D_is_tuple_of.F.kp D_is_tuple_of.b .nil jap (ja0 (qv 0) (ja0 ja4 ja3))) (jdm (ja7 G_is_whole (hr.mono (by decide)) rfl D_is_whole.m D_is_whole.F.kp D_is_whole.b .nil jap (ja0 (jac q_ix (qv 0) ja4 (fun _ _=>rfl)) ja3)) (jd9 (ja7 G_is_whole (hr.mono (by decide)) rfl D_is_whole.m D_is_whole.F.kp D_is_whole.b .nil jap (ja0 (jac q_ix (qv 0) ja4 (fun _ _=>rfl)) ja3))))))),?_⟩
 walk_at "RD"
 refine ⟨_,d,2,rfl,hd,?_⟩
 cases d with
 | tup ds =>
  rw [Rep] at hd
  obtain ⟨a,vs,rfl,ea,r⟩:=hd
  match ds,r,h with
  | [],r,h =>
   rw [show tupB 2 (.tup []) = false from rfl]
   walk_at "RD"
   exact h
  | [d1],r,h =>
   have e2:prO (.tup [d1]) = none:=by cases d1 <;> rfl
   rw [e2] at h
   rw [show tupB 2 (.tup [d1]) = false from rfl]
   walk_at "RD"
   exact h
  | d1 :: d2 :: d3 :: ds,r,h =>
   have e:tupB 2 (.tup (d1 :: d2 :: d3 :: ds)) = false:=by
    unfold tupB
    refine decide_eq_false ?_
    rw [List.length_cons,List.length_cons,List.length_cons]
    omega
   have e2:prO (.tup (d1 :: d2 :: d3 :: ds)) = none:=by cases d1 <;> cases d2 <;> rfl
   rw [e2] at h
   rw [e]
   walk_at "RD"
   exact h
  | [d1,d2],r,h =>
   rw [Reps] at r
   obtain ⟨v1,r1,rfl,e1,r⟩:=r
   rw [Reps] at r
   obtain ⟨v2,r2,rfl,e2,r⟩:=r
   rw [Reps] at r
   subst r
   rw [show tupB 2 (.tup [d1,d2]) = true from rfl]
   simp_arith [jaj,ea,at0,at1]
   refine ⟨_,kdD d1,rfl,jd2 e1,?_⟩
   cases d1 with
   | int i =>
    simp_arith [kdD,jc5,jaj,ea,at0,at1]
    refine ⟨_,kdD d2,rfl,jd2 e2,?_⟩
    cases d2 <;> exact h
   | _=>simp_arith [kdD,jc5]; exact h
 | _=>simp_arith [tupB]; exact h
theorem joo {f:Addr} {fd:FuncData} {f_is_tuple_of:Addr} {d_is_tuple_of:FuncData} {f_is_whole:Addr} {d_is_whole:FuncData} (B:Blt mg) (D:DefAt K mg "is_due" (top 24) ["thing"] f fd) (D_is_tuple_of:DefAt K mg "is_tuple_of" (top 2) ["thing","many"] f_is_tuple_of d_is_tuple_of) (G_is_tuple_of:FnOk P w K mg base CX0 1 f_is_tuple_of d_is_tuple_of ["thing","many"] jlq) (D_is_whole:DefAt K mg "is_whole" (top 1) ["thing"] f_is_whole d_is_whole) (G_is_whole:FnOk P w K mg base CX0 1 f_is_whole d_is_whole ["thing"] jdn):FnOk P w K mg base CX0 2 f fd ["thing"] jns:=by
 have sc:FnScope ["thing"] ["thing"] (jaf (top 24)):=⟨rfl,rfl,rfl,by decide +kernel,rfl,by decide +kernel,by decide +kernel⟩
 refine D.F.ok sc (fun vs H Q E h=>?_) (fun cdv A outer s H vs Q E hr h=>?_)
 ·obtain ⟨x,d,rfl,_⟩:=h
  rfl
 obtain ⟨x,d,rfl,hd,h⟩:=h
 have hu:=jbh hr
 have hu0:_ < PySem.cLine:=Nat.lt_of_succ_lt hu
 refine ⟨_,(ja6 (jah (jdm (ja7 G_is_tuple_of (hr.mono (by decide)) rfl D_is_tuple_of.m D_is_tuple_of.F.kp D_is_tuple_of.b .nil jap (ja0 (qv 0) (ja0 ja4 ja3))) (jdm (jad (jqg rfl) rfl B.all PyProof.Rows.boot_all (ja0 (jbw (CpScope.of (N:=["part"]) (src:=[none]) (by rfl)) rfl (joc (qv 0)) (fun _ _ _ _=>(ja9 (i:=0) (jai (l:=["part"]) (by rfl)) rfl (Or.inl rfl))) (fun _ _ _ _=>jc3) (fun _ _ _ _=>(ja7 G_is_whole (hr.mono (by decide)) rfl D_is_whole.m D_is_whole.F.kp D_is_whole.b .nil jap (ja0 (qv 0) ja3)))) ja3)) (jd9 (jbn q_ge (jac q_ix (qv 0) ja4 (fun _ _=>rfl)) ja4 (jam _))))))),?_⟩
 walk_at "RD"
 refine ⟨_,d,3,rfl,hd,?_⟩
 cases d with
 | tup ds =>
  have hd0:=hd
  rw [Rep] at hd
  obtain ⟨a,vs,rfl,ea,r⟩:=hd
  have hlv:=r.len
  by_cases c3:ds.length = 3
  ·rw [show tupB 3 (.tup ds) = true from decide_eq_true (by omega)]
   walk_at "RD"
   refine jas (Itt K a) H (fun R hR=>?_) (fun z hz0=>jay ds.length (fun i σ' Hc=>∃ w1,σ' = [w1]∧Same H Hc∧Hc z = some (.lst (((ds.take i).map fun d=>jc5 (kdD d)).map V.bl))) ⟨none,rfl,ja5 hz0 _,ja1⟩ ?_ ?_)
   ·unfold iTup
    walk_at "RD"
    exact ⟨a,rfl,⟨_,SqT.of ea⟩,hR⟩
   ·rintro i σ' Hc hi ⟨w1,rfl,s2,ez⟩
    have x1:vs[i]? = some (vs[i]'(by omega)):=List.getElem?_eq_getElem _
    refine ⟨⟨_,_,SqT.of (s2 _ _ ea),x1⟩,?_⟩
    rintro y H' ⟨rfl,hy⟩
    have E1:=Option.some.inj (x1.symm.trans (hy _ (SqT.of (s2 _ _ ea))))
    subst E1
    obtain ⟨dt,hdt,rdt⟩:=r.at x1
    walk_at "RD"
    refine ⟨_,kdD dt,rfl,jd2 (Rep.same s2 _ rdt),?_⟩
    refine ⟨_,ez,?_,_,rfl,jan s2 hz0,?_⟩
    ·rw [List.length_map,List.length_map,List.length_take]
     exact szl' (by omega)
    ·rw [ja1,jar hdt,List.map_append,List.map_append]
     rfl
   rintro σ' H1 ⟨w1,rfl,s1,ez⟩
   refine ⟨⟨_,SqT.of (s1 _ _ ea),by omega⟩,?_⟩
   rw [List.take_length] at ez
   simp_arith [ez]
   refine ⟨_,rfl,?_⟩
   have ew:(ds.map fun d=>jc5 (kdD d)).all id = jg8 ds:=by rw [List.all_map]; rfl
   refine ite2 (fun c=>?_) (fun c=>?_)
   ·have c:=ew.symm.trans c
    obtain ⟨p,hp⟩:=jk5 c3 c
    subst hp
    obtain ⟨a',ea',e3⟩:=jfv (p:=p) hd0
    cases ea'
    simp_arith [jaj,s1 _ _ e3,at2]
    have e9:(dueO (tripD p)).isSome = decide (p.2.2 ≥ 1):=by
     unfold dueO
     show (match some (p.1,p.2.1,p.2.2) with | some p=>if 1 ≤ p.2.2 then some p else none | none=>none).isSome = _
     dsimp only
     by_cases c9:1 ≤ p.2.2
     ·rw [if_pos c9,decide_eq_true c9]; rfl
     ·rw [if_neg c9,decide_eq_false c9]; rfl
    have:=h H1 s1
    rw [show (Dt.tup [.int p.1,.int p.2.1,.int p.2.2]) = tripD p from rfl,e9] at this
    exact this
   ·have c:=ew.symm.trans (Bool.eq_false_iff.mpr c)
    have:=h H1 s1
    unfold dueO at this
    rw [jln (.inr c)] at this
    exact this
  ·rw [show tupB 3 (.tup ds) = false from decide_eq_false (by omega)]
   walk_at "RD"
   have:=h H (Same.refl _)
   unfold dueO at this
   rw [jln (.inl c3)] at this
   exact this
 | _=>simp_arith [tupB]; exact h H (Same.refl _)
end
end My
namespace My
open PySem L2
section
variable {P:Program} {w:World} {K:PySem.W.Frag} {mg:Str→Option Value} {base:Heap} {c1 c2 c3 c4:Tok} {C_NoWeb f_NoWeb:Addr} {dI:FuncData}
def mkT (ts:List (Int × Int)):List (List Key × V):=ts.map fun t=>([Sum.inl t.1,Sum.inl t.2],V.bl true)
theorem jov:∀ (ts:List (Int × Int)) (t:Int × Int),(valV (mkT ts) ([Sum.inl t.1,Sum.inl t.2]:List Key)).isSome = decide (t ∈ ts)
 | [],t=>by simp [mkT,valV]
 | u :: r,t=>by
  have ih:=jov r t
  unfold mkT valV at ih ⊢
  rw [List.map_cons,List.find?_cons]
  by_cases h:u = t
  ·subst h; simp
  ·have hne:¬ (([Sum.inl u.1,Sum.inl u.2]:List Key) = [Sum.inl t.1,Sum.inl t.2]):=fun z=>by
    injection z with z1 z2
    injection z2 with z2 _
    exact h (Prod.ext (Sum.inl.inj z1) (Sum.inl.inj z2))
   dsimp only
   rw [decide_eq_false hne]
   dsimp only
   rw [ih]
   have hn:¬ t = u:=fun z=>h z.symm
   simp [hn]
def jnn:Sp:=fun vs H Q _=>∃ u zs ts,vs = [.ref u]∧H u = some (.lst zs)∧Prs H zs ts∧ts.Nodup∧ts.length ≤ 120∧∀ d H',H d = none→Same H H'→H' d = some (.dT (mkT ts))→Q (.ref d) H'
theorem jis.tups {H H':Hp} {v:V} {p:List Key × V} (h:jis H v p) (s:TupS H H'):jis H' v p:=let ⟨t,b,e,q,r⟩:=h; ⟨t,b,e,s _ _ rfl q,s _ _ rfl r⟩
theorem jea {H H':Hp} (s:TupS H H'):∀ {xs:List V} {ps:List (List Key × V)},Paired (jis H) xs ps→Paired (jis H') xs ps
 | _,_,.nil=>.nil
 | _,_,.cons r t=>.cons (jis.tups r s) (jea s t)
theorem jhr {ds:List (Int × Int × Int)} {i:Nat} {d:Int × Int × Int} (h:ds[i]? = some d) (n:Int):jaq (ds.take (i + 1)) n = jaq (ds.take i) n + ((if d.1 = n then d.2.2 else 0) + (if d.2.1 = n then d.2.2 else 0)):=by
 unfold jaq
 rw [jar h,List.map_append,List.sum_append]
 simp
theorem jhi.put {kvs:List (Key × V)} {f:Int→Int} (h:∀ n:Int,(valV kvs (Sum.inl n:Key) = none∧f n = 0) ∨ valV kvs (Sum.inl n:Key) = some (.int (f n))) (m a:Int):∀ n:Int,(valV (putK kvs (Sum.inl m:Key) (.int (f m + a))) (Sum.inl n:Key) = none∧f n + (if m = n then a else 0) = 0) ∨ valV (putK kvs (Sum.inl m:Key) (.int (f m + a))) (Sum.inl n:Key) = some (.int (f n + (if m = n then a else 0))):=fun n=>by
 rw [jfu]
 by_cases c:m = n
 ·subst c
  rw [if_pos rfl,if_pos rfl]
  exact .inr rfl
 ·rw [if_neg (fun z=>c (Sum.inl.inj z).symm),if_neg c,Int.add_zero]
  exact h n
theorem jop {f:Addr} {fd:FuncData}  (B:Blt mg) (D:DefAt K mg "due_at" (top 25) ["dues"] f fd):FnOk P w K mg base CX0 1 f fd ["dues"] jkq:=by
 have sc:FnScope ["dues","paid","one","other","amount"] ["dues"] (jaf (top 25)):=⟨rfl,rfl,rfl,by decide +kernel,rfl,by decide +kernel,by decide +kernel⟩
 refine D.F.ok sc (fun vs H Q E h=>?_) (fun cdv A outer s H vs Q E hr h=>?_)
 ·obtain ⟨l,zs,ds,rfl,_⟩:=h
  rfl
 obtain ⟨l,zs,ds,rfl,el,pz,h200,h⟩:=h
 have hlz:zs.length = ds.length:=Paired.length pz
 have hu:=jbh hr
 have hu0:_ < PySem.cLine:=Nat.lt_of_succ_lt hu
 refine ⟨_,(ja2 (jak (i:=1) sc.nd rfl (Or.inl rfl) jdy) (ja2 (jbm PassesOwn.never rfl (jaw (qv 0)) (jcd (n:=3) rfl (jag (ja9 (i:=2) sc.nd rfl (Or.inl rfl)) (jag (ja9 (i:=3) sc.nd rfl (Or.inl rfl)) (jag (ja9 (i:=4) sc.nd rfl (Or.inl rfl)) jbf)))) (ja2 (jep hu (qv 1) (qv 2) (jau jc8 (je9 hu (qv 1) (qv 2) ja4) (qv 4))) (ja6 (jep hu (qv 1) (qv 3) (jau jc8 (je9 hu (qv 1) (qv 3) ja4) (qv 4)))))) (ja6 (jah (qv 1))))),?_⟩
 refine ja8 fun R hR=>?_
 walk_at "RD"
 intro d hd
 have s1:=ja5 hd (.dK [])
 have ed:upd H d (.dK []) d = some (.dK []):=ja1
 generalize upd H d (.dK []) = H1 at s1 ed
 walk_at "RD"
 subst hR
 refine ja8 fun R hR=>?_
 refine jb0 (Itl K l) H1 (fun R' hR'=>?_) (jby (K:=K) (a:=l) (xs:=zs) (fun i σ H2=>∃ v1 v2 v3 kvs,σ = [some (.ref l),some (.ref d),v1,v2,v3]∧Same H H2∧H2 d = some (.dK kvs)∧jhi kvs (ds.take i)∧kvs.length ≤ 2 * i) ⟨none,none,none,[],rfl,s1,ed,fun n=>.inl ⟨rfl,rfl⟩,Nat.zero_le _⟩ (fun i σ H2 _ ⟨_,_,_,_,_,s2,_⟩=>SqL.of (s2 _ _ el)) ?_ ?_)
 ·unfold jbz
  walk_at "RD"
  exact ⟨l,rfl,⟨_,SqL.of (s1 _ _ el)⟩,hR'⟩
 ·rintro i x σ H2 hx ⟨v1,v2,v3,kvs,rfl,s2,ed2,pd,hkl⟩
  obtain ⟨p,hp,px⟩:=jaa pz hx
  obtain ⟨t,rfl,ht⟩:=Tp.tups px s2.tups
  have hil:=(List.getElem?_eq_some_iff.mp hp).1
  simp_arith [ht,ed2,pd.get]
  have q1:=jhi.put (f:=jaq (ds.take i)) pd p.1 p.2.2
  have kl1:=jfz kvs (Sum.inl p.1:Key) (.int (jaq (ds.take i) p.1 + p.2.2))
  refine ⟨⟨_,rfl⟩,szl' (by omega),⟨_,ja1⟩,?_⟩
  generalize putK kvs (Sum.inl p.1:Key) (.int (jaq (ds.take i) p.1 + p.2.2)) = k1 at q1 kl1 ⊢
  have g2:(valV k1 (Sum.inl p.2.1:Key)).getD (.int 0) = .int (jaq (ds.take i) p.2.1 + (if p.1 = p.2.1 then p.2.2 else 0)):=by
   rcases q1 p.2.1 with ⟨e,z⟩ | e
   ·rw [e,z]; rfl
   ·rw [e]; rfl
  have q2:=jhi.put (f:=fun n=>jaq (ds.take i) n + (if p.1 = n then p.2.2 else 0)) q1 p.2.1 p.2.2
  have kl2:=jfz k1 (Sum.inl p.2.1:Key) (.int (jaq (ds.take i) p.2.1 + (if p.1 = p.2.1 then p.2.2 else 0) + p.2.2))
  rw [ja1]
  dsimp only
  rw [g2]
  dsimp only
  refine ⟨szl' (by omega),_,_,_,_,rfl,?_,ja1,?_,by omega⟩
  ·exact jan (jan s2 hd) hd
  ·intro n
   rw [jhr hp n,← Int.add_assoc]
   exact q2 n
 ·rintro σ H2 ⟨v1,v2,v3,kvs,rfl,s2,ed2,pd,hkl⟩
  rw [hlz,List.take_length] at pd
  subst hR
  walk_at "RD"
  exact h d kvs H2 s2 ed2 pd
theorem jon {f:Addr} {fd:FuncData}  (B:Blt mg) (D:DefAt K mg "marked" (top 5) ["places"] f fd):FnOk P w K mg base CX0 1 f fd ["places"] jnn:=by
 have sc:FnScope ["places"] ["places"] (jaf (top 5)):=⟨rfl,rfl,rfl,by decide +kernel,rfl,by decide +kernel,by decide +kernel⟩
 refine D.F.ok sc (fun vs H Q E h=>?_) (fun cdv A outer s H vs Q E hr h=>?_)
 ·obtain ⟨u,zs,ts,rfl,_⟩:=h
  rfl
 obtain ⟨u,zs,ts,rfl,eu,pz,nd,h120,h⟩:=h
 have hlz:zs.length = ts.length:=Paired.length pz
 have hu:=jbh hr
 have hu0:_ < PySem.cLine:=Nat.lt_of_succ_lt hu
 refine ⟨_,(ja6 (jah (jb5 (jn0 rfl hr.units) rfl B.dict PyProof.Rows.boot_dict (ja0 (jbw (CpScope.of (N:=["place"]) (src:=[none]) (by rfl)) rfl (jaw (qv 0)) (fun _ _ _ _=>(ja9 (i:=0) (jai (l:=["place"]) (by rfl)) rfl (Or.inl rfl))) (fun _ _ _ _=>jc3) (fun _ _ _ _=>(jaz (ja0 (qv 0) (ja0 jbd ja3))))) ja3)))),?_⟩
 walk_at "RD"
 refine jas (Itl K u) H (fun R hR=>?_) (fun l hl0=>jay ts.length (fun i σ' Hc=>∃ w1 vs,σ' = [w1]∧Same H Hc∧Hc l = some (.lst vs)∧Paired (jis Hc) vs (mkT (ts.take i))) ⟨none,[],rfl,ja5 hl0 _,ja1,.nil⟩ ?_ ?_)
 ·unfold jbz
  walk_at "RD"
  exact ⟨u,rfl,⟨_,SqL.of eu⟩,hR⟩
 ·rintro i σ' Hc hi ⟨w1,vs,rfl,s2,ev,pv⟩
  have z1:SqL K Hc u zs:=SqL.of (s2 _ _ eu)
  have x1:zs[i]? = some (zs[i]'(by omega)):=List.getElem?_eq_getElem _
  refine ⟨⟨_,_,z1,x1⟩,?_⟩
  rintro y H' ⟨rfl,hy⟩
  obtain ⟨q,hq,pq⟩:=jaa pz (hy _ z1)
  obtain ⟨b,rfl,hb⟩:=pq.same s2
  have hvl:vs.length ≤ 120:=by
   have:=Paired.length pv
   unfold mkT at this
   rw [List.length_map,List.length_take] at this
   omega
  walk_at "RD"
  intro t ht
  have q3:=ja5 ht (.tup [.ref b,.bl true])
  have ett:upd H' t (.tup [.ref b,.bl true]) t = some (.tup [.ref b,.bl true]):=ja1
  have ev2:=q3 _ _ ev
  have hb2:=q3 _ _ hb
  generalize upd H' t (.tup [.ref b,.bl true]) = H3 at q3 ett ev2 hb2
  have t6:=jb2 (ys:=vs ++ [.ref t]) ev2
  refine ⟨vs,ev2,szl' (by omega),_,vs ++ [.ref t],rfl,jan (s2.trans q3) hl0,(by first | rfl | exact ja1),?_⟩
  have em:mkT (ts.take (i + 1)) = mkT (ts.take i) ++ [([Sum.inl q.1,Sum.inl q.2],V.bl true)]:=by
   unfold mkT
   rw [jar hq,List.map_append]
   rfl
  rw [em]
  exact jav (jea t6 (jea q3.tups pv)) ⟨t,b,rfl,t6 _ _ rfl ett,t6 _ _ rfl hb2⟩
 ·rintro σ' Hc ⟨w1,vs,rfl,s2,ev,pv⟩
  refine ⟨⟨_,SqL.of (s2 _ _ eu),by omega⟩,?_⟩
  rw [List.take_length] at pv
  have hvl:vs.length ≤ 120:=by
   have:=Paired.length pv
   unfold mkT at this
   rw [List.length_map] at this
   omega
  refine ⟨l,vs,mkT ts,rfl,ev,pv,by omega,?_,fun d hd=>h d _ (s2.free hd) (s2.trans (ja5 hd _)) ja1⟩
  unfold mkT
  rw [List.map_map]
  unfold List.Nodup at nd ⊢
  rw [List.pairwise_map]
  refine nd.imp fun {x y} hne e=>hne ?_
  have e:([Sum.inl x.1,Sum.inl x.2]:List Key) = [Sum.inl y.1,Sum.inl y.2]:=e
  injection e with e1 e2
  injection e2 with e2 _
  exact Prod.ext (Sum.inl.inj e1) (Sum.inl.inj e2)
end
end My
namespace My
open PySem L2
section
variable {P:Program} {w:World} {K:PySem.W.Frag} {mg:Str→Option Value} {base:Heap} {c1 c2 c3 c4:Tok} {C_NoWeb f_NoWeb:Addr} {dI:FuncData}
def jcg (ts:List (Int × Int)):Int × Int→List Dt→Option (List (Int × Int × Int))
 | _,[]=>some []
 | q,d :: r=>match dueO d with
  | some p=>if (p.1,p.2.1) ∈ ts∧leL [p.1,p.2.1] [q.1,q.2] = false then (jcg ts (p.1,p.2.1) r).map (p :: ·) else none
  | none=>none
def jgi (ps:List (Int × Int)) (qs:List (Int × Int × Int)):Bool:=ps.all fun p=>decide (jaq qs p.1 ≤ 2 * p.2)
def jh8 (ps ts:List (Int × Int)):Dt→Bool
 | .lst ds=>match jcg ts (-1,-1) ds with
  | some qs=>jgi ps qs
  | none=>false
 | _=>false
def jo1 (d:Dt):Prop:=∀ ds,d = .lst ds→ds.length ≤ 200
def jrc:Sp:=fun vs H Q _=>∃ v ps ts y d,vs = [v,y]∧jc4 H v ps ts∧WebOk ps ts∧Rep H d y∧jo1 d∧∀ H',Same H H'→Q (.bl (jh8 ps ts d)) H'
theorem jg4 {a b c d:Int} (h:HT.lexLt [a,b] [c,d] = true):a < c ∨ (a = c∧b < d):=by
 rw [HT.lexLt_cons] at h
 by_cases e:a = c
 ·rw [if_pos e,HT.lexLt_cons] at h
  by_cases e2:b = d
  ·rw [if_pos e2] at h
   cases h
  ·rw [if_neg e2] at h
   exact .inr ⟨e,of_decide_eq_true h⟩
 ·rw [if_neg e] at h
  exact .inl (of_decide_eq_true h)
theorem jjv {a b c d:Int} (h:a < c):HT.lexLt [a,b] [c,d] = true:=by
 rw [HT.lexLt_cons,if_neg (by omega)]
 exact decide_eq_true h
theorem jp1 {a b d:Int} (h:b < d):HT.lexLt [a,b] [a,d] = true:=by
 rw [HT.lexLt_cons,if_pos rfl,HT.lexLt_cons,if_neg (by omega)]
 exact decide_eq_true h
theorem jcl {ps ts:List (Int × Int)} {ds:List Dt} (h:jcg ts (-1,-1) ds = none):jh8 ps ts (.lst ds) = false:=by
 show (match jcg ts (-1,-1) ds with | some qs=>jgi ps qs | none=>false) = false
 rw [h]
theorem je1 {ps ts:List (Int × Int)} {ds:List Dt} {qs:List (Int × Int × Int)} (h:jcg ts (-1,-1) ds = some qs):jh8 ps ts (.lst ds) = jgi ps qs:=by
 show (match jcg ts (-1,-1) ds with | some qs=>jgi ps qs | none=>false) = _
 rw [h]
theorem cut3 (a b c:V):cutV [a,b,c] none (some 2) = [a,b]:=rfl
theorem jk9 (a b c:V):¬ (HT.sIx [a,b,c].length 0 none = 0∧HT.sIx [a,b,c].length [a,b,c].length (some 2) = [a,b,c].length):=fun h=>by cases h.2
theorem jox {a b c d e f:Int} (h:HT.lexLt [a,b] [c,d] = true) (g:HT.lexLt [c,d] [e,f] = true):HT.lexLt [a,b] [e,f] = true:=by
 have h:=jg4 h
 have g:=jg4 g
 by_cases c:a < e
 ·exact jjv c
 ·have:a = e:=by omega
  subst this
  exact jp1 (by omega)
theorem TiOk.lt {kvs:List (Key × V)}:∀ {ts:List (Int × Int)} {q:Int × Int},TiOk kvs q ts→∀ p ∈ ts,HT.lexLt [q.1,q.2] [p.1,p.2] = true
 | [],_,_,_,h=>by cases h
 | u :: r,q,h,p,hp=>by
  rcases List.mem_cons.mp hp with e | hp
  ·rw [e]; exact h.1.1
  ·exact jox h.1.1 (TiOk.lt h.2 p hp)
theorem TiOk.nodup {kvs:List (Key × V)}:∀ {ts:List (Int × Int)} {q:Int × Int},TiOk kvs q ts→ts.Nodup
 | [],_,_=>List.nodup_nil
 | u :: r,q,h=>by
  refine List.nodup_cons.mpr ⟨fun hm=>?_,TiOk.nodup h.2⟩
  have:=TiOk.lt h.2 u hm
  simp [HT.lexLt] at this
theorem jif {f:Addr} {fd:FuncData} {f_is_due:Addr} {d_is_due:FuncData} {f_marked:Addr} {d_marked:FuncData} {f_due_at:Addr} {d_due_at:FuncData} (B:Blt mg) (D:DefAt K mg "dues_stand" (top 26) ["web","thing"] f fd) (D_is_due:DefAt K mg "is_due" (top 24) ["thing"] f_is_due d_is_due) (G_is_due:FnOk P w K mg base CX0 2 f_is_due d_is_due ["thing"] jns) (D_marked:DefAt K mg "marked" (top 5) ["places"] f_marked d_marked) (G_marked:FnOk P w K mg base CX0 1 f_marked d_marked ["places"] jnn) (D_due_at:DefAt K mg "due_at" (top 25) ["dues"] f_due_at d_due_at) (G_due_at:FnOk P w K mg base CX0 1 f_due_at d_due_at ["dues"] jkq):FnOk P w K mg base CX0 4 f fd ["web","thing"] jrc:=by
 have sc:FnScope ["web","thing","ties","last","due","paid"] ["web","thing"] (jaf (top 26)):=⟨rfl,rfl,rfl,by decide +kernel,rfl,by decide +kernel,by decide +kernel⟩
 refine D.F.ok sc (fun vs H Q E h=>?_) (fun cdv A outer s H vs Q E hr h=>?_)
 ·obtain ⟨v,ps,ts,y,d,rfl,_⟩:=h
  rfl
 obtain ⟨v,ps,ts,y,d,rfl,hw,wk,hd,hs,h⟩:=h
 obtain ⟨u,pa,ta,xs,ys,rfl,hu1,hpa,hta,hxs,hys⟩:=hw
 have hu:=jbh hr
 have hu0:_ < PySem.cLine:=Nat.lt_of_succ_lt hu
 refine ⟨_,(ja2 (jb1 (jb4 (jb6 (jad (jdl .lst) rfl B.isinstance PyProof.Rows.boot_isinstance (ja0 (qv 1) (ja0 (jbq (v:=.ty "list") rfl B.list PyProof.Rows.boot_list rfl) ja3))))) (ja6 (jah jbd)) jal) (ja2 (jak (i:=2) sc.nd rfl (Or.inl rfl) (ja7 G_marked (hr.mono (by decide)) rfl D_marked.m D_marked.F.kp D_marked.b .nil jap (ja0 (jac q_ix (qv 0) ja4 (fun _ _=>rfl)) ja3))) (ja2 (jak (i:=3) sc.nd rfl (Or.inl rfl) (jaz (ja0 (jdr jdo ja4) (ja0 (jdr jdo ja4) ja3)))) (ja2 (jbm PassesOwn.never rfl (jaw (qv 1)) (ja9 (i:=4) sc.nd rfl (Or.inl rfl)) (ja2 (jb1 (PW.pt (jcx (jb4 (jb6 (ja7 G_is_due (hr.mono (by decide)) rfl D_is_due.m D_is_due.F.kp D_is_due.b .nil jap (ja0 (qv 4) ja3)))) (jcx (jrk (jjg hu (jb3 jf6 (qv 4) jbg (jbe ja4)) (qv 2))) (jco (jao (q_leT hu0) (jb3 jf6 (qv 4) jbg (jbe ja4)) (qv 3) (jam _)))))) (ja6 (jah jbd)) jal) (ja6 (jak (i:=3) sc.nd rfl (Or.inl rfl) (jb3 jf6 (qv 4) jbg (jbe ja4)))))) (ja2 (jak (i:=5) sc.nd rfl (Or.inr rfl) (ja7 G_due_at (hr.mono (by decide)) rfl D_due_at.m D_due_at.F.kp D_due_at.b .nil jap (ja0 (qv 1) ja3))) (ja6 (jah (jad (jqg rfl) rfl B.all PyProof.Rows.boot_all (ja0 (jbw (CpScope.of (N:=["place","price","paid"]) (src:=[none,none,some 5]) (by rfl)) rfl (jaw (jac q_ix (qv 0) ja4 (fun _ _=>rfl))) (fun _ _ _ _=>(jcd (n:=2) rfl (jag (ja9 (i:=0) (jai (l:=["place","price","paid"]) (by rfl)) rfl (Or.inl rfl)) (jag (ja9 (i:=1) (jai (l:=["place","price","paid"]) (by rfl)) rfl (Or.inl rfl)) jbf)))) (fun _ _ _ _=>jc3) (fun _ _ _ _=>(jbn q_le (je9 hu (qv 2) (qv 0) ja4) (jau je3 ja4 (qv 1)) (jam _)))) ja3))))))))),?_⟩
 have hkd:=jd2 hd
 simp_arith [hkd]
 cases d with
 | lst ds =>
  rw [Rep] at hd
  obtain ⟨l,zs,rfl,el,r⟩:=hd
  have hlv:=r.len
  simp_arith [kdD,isi,jaj,hu1,at1]
  refine ⟨ta,ys,ts,rfl,hta,hys,wk.t.nodup,wk.tl,fun m H1 hm0 s1 em p hp=>?_⟩
  have s2:=s1.trans (ja5 hp (.tup [.int (-1),.int (-1)]))
  have em2:=ja5 hp (.tup [.int (-1),.int (-1)]) _ _ em
  have ep:upd H1 p (.tup [.int (-1),.int (-1)]) p = some (.tup [.int (-1),.int (-1)]):=ja1
  generalize upd H1 p (.tup [.int (-1),.int (-1)]) = H2 at s2 em2 ep
  refine jb0 (Itl K l) H2 (fun R' hR'=>?_) (jby (K:=K) (a:=l) (xs:=zs) (fun i σ Hc=>∃ v4 pl q qs,σ = [some (.ref u),some (.ref l),some (.ref m),some (.ref pl),v4,none]∧Same H Hc∧Hc m = some (.dT (mkT ts))∧Hc pl = some (.tup [.int q.1,.int q.2])∧jcg ts (-1,-1) ds = (jcg ts q (ds.drop i)).map (qs ++ ·)∧Tps H (zs.take i) qs) ⟨none,p,(-1,-1),[],rfl,s2,em2,ep,by simp,.nil⟩ (fun i σ Hc _ ⟨_,_,_,_,_,s3,_⟩=>SqL.of (s3 _ _ el)) ?_ ?_)
  ·unfold jbz
   walk_at "RD"
   exact ⟨l,rfl,⟨_,SqL.of (s2 _ _ el)⟩,hR'⟩
  ·rintro i x σ Hc hx ⟨v4,pl,q,qs,rfl,s3,em3,epl,hdo,hq⟩
   obtain ⟨dt,hdt,rdt⟩:=r.at hx
   have hdr:ds.drop i = dt :: ds.drop (i + 1):=jch hdt
   walk_at "RD"
   refine ⟨_,dt,rfl,Rep.same s3 _ rdt,fun H4 s4=>?_⟩
   have s5:=s3.trans s4
   have em4:=s4 _ _ em3
   have ep4:=s4 _ _ epl
   cases hdu:dueO dt with
   | none =>
    simp_arith [Option.isSome]
    have hb:=h H4 s5
    rw [jcl (by rw [hdo,hdr,jcg,hdu]; rfl)] at hb
    exact hb
   | some p =>
    simp_arith [Option.isSome]
    have htd:dt = tripD p:=by
     unfold dueO at hdu
     split at hdu
     ·rename_i p' e
      split at hdu
      ·cases hdu; exact jlm e
      ·cases hdu
     ·cases hdu
    subst htd
    obtain ⟨t,rfl,ht⟩:=jfv rdt
    have ht4:=s5 _ _ ht
    simp_arith [ht4,tB,jkm]
    refine ⟨jk9 (.int p.1) (.int p.2.1) (.int p.2.2),fun k1 hk1=>?_⟩
    rw [cut3]
    have s6:=ja5 hk1 (.tup [.int p.1,.int p.2.1])
    have e6:upd H4 k1 (.tup [.int p.1,.int p.2.1]) k1 = some (.tup [.int p.1,.int p.2.1]):=ja1
    generalize upd H4 k1 (.tup [.int p.1,.int p.2.1]) = H6 at s6 e6
    refine ⟨m,_,rfl,DGet.t (k:=[Sum.inl p.1,Sum.inl p.2.1]) (s6 _ _ em4) e6,?_⟩
    have hmk:=jov ts (p.1,p.2.1)
    dsimp only at hmk
    refine ⟨_,rfl,?_⟩
    rw [hmk]
    by_cases cm:(p.1,p.2.1) ∈ ts
    ·rw [decide_eq_true cm,if_neg (by decide),s6 _ _ ht4]
     refine ⟨jk9 (.int p.1) (.int p.2.1) (.int p.2.2),fun k2 hk2=>?_⟩
     rw [cut3]
     have s7:=ja5 hk2 (.tup [.int p.1,.int p.2.1])
     have e7:upd H6 k2 (.tup [.int p.1,.int p.2.1]) k2 = some (.tup [.int p.1,.int p.2.1]):=ja1
     generalize upd H6 k2 (.tup [.int p.1,.int p.2.1]) = H7 at s7 e7
     have s8:=s6.trans s7
     simp_arith [fLeT,e7,s8 _ _ ep4]
     by_cases cl:leL [p.1,p.2.1] [q.1,q.2] = true
     ·rw [if_pos cl]
      have hb:=h H7 (s5.trans s8)
      rw [jcl (by rw [hdo,hdr,jcg,hdu]; dsimp only; rw [if_neg (fun z=>by rw [z.2] at cl; cases cl)]; rfl)] at hb
      exact hb
     ·rw [if_neg cl,s8 _ _ ht4]
      refine ⟨jk9 (.int p.1) (.int p.2.1) (.int p.2.2),fun k3 hk3=>?_⟩
      rw [cut3]
      have s9:=s8.trans (ja5 hk3 (.tup [.int p.1,.int p.2.1]))
      refine ⟨_,k3,(p.1,p.2.1),qs ++ [p],rfl,s5.trans s9,s9 _ _ em4,ja1,?_,?_⟩
      ·rw [hdo,hdr,jcg,hdu]
       dsimp only
       rw [if_pos ⟨cm,Bool.eq_false_iff.mpr cl⟩,Option.map_map]
       congr 1
       funext w
       show qs ++ p :: w = (qs ++ [p]) ++ w
       rw [List.append_assoc]
       rfl
      ·rw [jar hx]
       exact jav hq ⟨t,rfl,ht⟩
    ·rw [decide_eq_false cm,if_pos (by decide)]
     have hb:=h H6 (s5.trans s6)
     rw [jcl (by rw [hdo,hdr,jcg,hdu]; dsimp only; rw [if_neg (fun z=>cm z.1)]; rfl)] at hb
     exact hb
  ·rintro σ Hc ⟨v4,pl,q,qs,rfl,s3,em3,epl,hdo,hq⟩
   rw [List.drop_eq_nil_of_le (by omega),jcg,Option.map_some,List.append_nil] at hdo
   rw [List.take_length] at hq
   walk_at "RD"
   refine ⟨l,zs,qs,rfl,s3 _ _ el,jbk s3.tups hq,?_,fun d kvs H5 s5 ed5 pd=>?_⟩
   ·rw [← Paired.length hq,hlv]; exact hs _ rfl
   have s6:=s3.trans s5
   refine jas (Itl K pa) H5 (fun R hR=>?_) (fun z hz0=>jay ps.length (fun i σ' Hc=>∃ w1 w2,σ' = [w1,w2,some (.ref d)]∧Same H5 Hc∧Hc z = some (.lst (((ps.take i).map fun p=>decide (jaq qs p.1 ≤ 2 * p.2)).map V.bl))) ⟨none,none,rfl,ja5 hz0 _,ja1⟩ ?_ ?_)
   ·unfold jbz
    simp_arith [jaj,s6 _ _ hu1,at0]
    exact ⟨pa,rfl,⟨_,SqL.of (s6 _ _ hpa)⟩,hR⟩
   ·rintro i σ' Hc hi ⟨w1,w2,rfl,s7,ez⟩
    have hxl:=Paired.length hxs
    have x1:xs[i]? = some (xs[i]'(by omega)):=List.getElem?_eq_getElem _
    have s8:=s6.trans s7
    refine ⟨⟨_,_,SqL.of (s8 _ _ hpa),x1⟩,?_⟩
    rintro y H' ⟨rfl,hy⟩
    have E1:=Option.some.inj (x1.symm.trans (hy _ (SqL.of (s8 _ _ hpa))))
    obtain ⟨pr,hpr,px⟩:=jaa hxs x1
    rw [E1] at px
    obtain ⟨b,rfl,hb⟩:=px.same s8
    simp_arith [hb,s7 _ _ ed5,pd.get]
    refine ⟨⟨_,rfl⟩,cmL (by decide) (by decide),_,ez,?_,_,_,rfl,jan s7 hz0,?_⟩
    ·rw [List.length_map,List.length_map,List.length_take]
     have:=wk.pl
     exact szl' (by omega)
    ·rw [ja1,jar hpr,List.map_append,List.map_append]
     rfl
   ·rintro σ' Hc ⟨w1,w2,rfl,s7,ez⟩
    have s8:=s6.trans s7
    refine ⟨⟨_,SqL.of (s8 _ _ hpa),by have:=Paired.length hxs; omega⟩,?_⟩
    rw [List.take_length] at ez
    simp_arith [ez]
    refine ⟨_,rfl,?_⟩
    have hb:=h Hc s8
    rw [je1 hdo] at hb
    have ew:(ps.map fun p=>decide (jaq qs p.1 ≤ 2 * p.2)).all id = jgi ps qs:=by rw [List.all_map]; rfl
    rw [ew]
    exact hb
 | _=>simp_arith [kdD,isi]; exact h H (Same.refl _)
end
end My
namespace My
open PySem L2
section
variable {P:Program} {w:World} {K:PySem.W.Frag} {mg:Str→Option Value} {base:Heap} {c1 c2 c3 c4:Tok} {C_NoWeb f_NoWeb:Addr} {dI:FuncData}
def halO:List (Int × Int)→List Dt→Option (List (Int × Int))
 | [],[]=>some []
 | p :: ps,d :: ds=>match prO d with
  | some h=>if h.1 = p.1∧0 ≤ h.2∧h.2 ≤ 2 then (halO ps ds).map (h :: ·) else none
  | none=>none
 | _,_=>none
def hOf (hs:List (Int × Int)) (n:Int):Int:=match valV (jbr hs) (Sum.inl n:Key) with
 | some (.int i)=>i
 | _=>0
def jga (ts hs:List (Int × Int)):Bool:=ts.all fun t=>decide (hOf hs t.1 + hOf hs t.2 ≥ 2)
def halB (ps ts:List (Int × Int)):Dt→Bool
 | .lst ds=>match halO ps ds with
  | some hs=>jga ts hs
  | none=>false
 | _=>false
theorem jbi {ps ts:List (Int × Int)} {ds:List Dt} (h:halO ps ds = none):halB ps ts (.lst ds) = false:=by
 show (match halO ps ds with | some hs=>jga ts hs | none=>false) = false
 rw [h]
theorem jey {ps ts:List (Int × Int)} {ds:List Dt} {hs:List (Int × Int)} (h:halO ps ds = some hs):halB ps ts (.lst ds) = jga ts hs:=by
 show (match halO ps ds with | some hs=>jga ts hs | none=>false) = _
 rw [h]
theorem jiq:∀ {ps:List (Int × Int)} {ds:List Dt},¬ ds.length = ps.length→halO ps ds = none
 | [],[],h=>absurd rfl h
 | [],_ :: _,_=>rfl
 | _ :: _,[],_=>rfl
 | p :: ps,d :: ds,h=>by
  rw [halO,jiq (ps:=ps) (ds:=ds) (fun z=>h (by rw [List.length_cons,List.length_cons,z]))]
  split
  ·split <;> rfl
  ·rfl
theorem jh5 {hs:List (Int × Int)} {n:Int} (hn:(hs.map (·.1)).Nodup) (h:n ∈ hs.map (·.1)):valV (jbr hs) (Sum.inl n:Key) = some (.int (hOf hs n)):=by
 obtain ⟨p,hp,rfl⟩:=List.mem_map.mp h
 have e:=jg9 hn hp
 unfold hOf
 rw [e]
theorem TiOk.in {kvs:List (Key × V)}:∀ {ts:List (Int × Int)} {q:Int × Int},TiOk kvs q ts→∀ p ∈ ts,p.1 < p.2∧hasK kvs p.1 = true∧hasK kvs p.2 = true
 | [],_,_,_,h=>by cases h
 | u :: r,q,h,p,hp=>by
  rcases List.mem_cons.mp hp with e | hp
  ·rw [e]; exact h.1.2
  ·exact TiOk.in h.2 p hp
theorem jcq:∀ {ps:List (Int × Int)} {n:Int},hasK (jbr ps) n = true→n ∈ ps.map (·.1)
 | [],_,h=>by cases h
 | p :: r,n,h=>by
  by_cases c:p.1 = n
  ·rw [← c]; exact List.mem_cons_self
  ·refine List.mem_cons_of_mem _ (jcq ?_)
   unfold hasK jbr valV at h
   rw [List.map_cons,List.find?_cons] at h
   dsimp only at h
   rw [decide_eq_false (fun z=>c (Sum.inl.inj z))] at h
   exact h
def jfx:Sp:=fun vs H Q _=>∃ v ps ts y d,vs = [v,y]∧jc4 H v ps ts∧WebOk ps ts∧Rep H d y∧∀ H',Same H H'→Q (.bl (halB ps ts d)) H'
def jmx (ps hs:List (Int × Int)):Int:=(hs.map fun h=>hOf ps h.1 * h.2).sum
def jnu:Sp:=fun vs H Q _=>∃ v ps ts l zs hs,vs = [v,.ref l]∧jc4 H v ps ts∧WebOk ps ts∧H l = some (.lst zs)∧Prs H zs hs∧hs.length ≤ 200∧(∀ h ∈ hs,h.1 ∈ ps.map (·.1)∧0 ≤ h.2∧h.2 ≤ 2)∧∀ H',Same H H'→Q (.int (jmx ps hs)) H'
theorem jgs {f:Addr} {fd:FuncData} {f_is_pair_of_wholes:Addr} {d_is_pair_of_wholes:FuncData} (B:Blt mg) (D:DefAt K mg "halves_stand" (top 23) ["web","thing"] f fd) (D_is_pair_of_wholes:DefAt K mg "is_pair_of_wholes" (top 3) ["thing"] f_is_pair_of_wholes d_is_pair_of_wholes) (G_is_pair_of_wholes:FnOk P w K mg base CX0 2 f_is_pair_of_wholes d_is_pair_of_wholes ["thing"] jnk):FnOk P w K mg base CX0 3 f fd ["web","thing"] jfx:=by
 have sc:FnScope ["web","thing","pair","known","halves"] ["web","thing"] (jaf (top 23)):=⟨rfl,rfl,rfl,by decide +kernel,rfl,by decide +kernel,by decide +kernel⟩
 refine D.F.ok sc (fun vs H Q E h=>?_) (fun cdv A outer s H vs Q E hr h=>?_)
 ·obtain ⟨v,ps,ts,y,d,rfl,_⟩:=h
  rfl
 obtain ⟨v,ps,ts,y,d,rfl,hw,wk,hd,h⟩:=h
 obtain ⟨u,pa,ta,xs,ys,rfl,hu1,hpa,hta,hxs,hys⟩:=hw
 have hxl:=Paired.length hxs
 have hu:=jbh hr
 have hu0:_ < PySem.cLine:=Nat.lt_of_succ_lt hu
 refine ⟨_,(ja2 (jb1 (PW.pt (jcx (jb4 (jb6 (jad (jdl .lst) rfl B.isinstance PyProof.Rows.boot_isinstance (ja0 (qv 1) (ja0 (jbq (v:=.ty "list") rfl B.list PyProof.Rows.boot_list rfl) ja3))))) (jco (jao q_ne (jad jcj rfl B.len PySem.boot_len (ja0 (qv 1) ja3)) (jad jcj rfl B.len PySem.boot_len (ja0 (jac q_ix (qv 0) ja4 (fun _ _=>rfl)) ja3)) (jam _))))) (ja6 (jah jbd)) jal) (ja2 (jbm PassesOwn.never rfl (jsf rfl B.zip (ja0 (qv 1) (ja0 (jac q_ix (qv 0) ja4 (fun _ _=>rfl)) ja3))) (jcd (n:=2) rfl (jag (ja9 (i:=2) sc.nd rfl (Or.inl rfl)) (jag (ja9 (i:=3) sc.nd rfl (Or.inl rfl)) jbf))) (ja6 (jb1 (PW.pt (jcx (jb4 (jb6 (ja7 G_is_pair_of_wholes (hr.mono (by decide)) rfl D_is_pair_of_wholes.m D_is_pair_of_wholes.F.kp D_is_pair_of_wholes.b .nil jap (ja0 (qv 2) ja3)))) (jcx (jao q_ne (jac q_ix (qv 2) ja4 (fun _ _=>rfl)) (jac q_ix (qv 3) ja4 (fun _ _=>rfl)) (jam _)) (jco (jb4 (jlu q_le q_le ja4 (jac q_ix (qv 2) ja4 (fun _ _=>rfl)) ja4)))))) (ja6 (jah jbd)) jal))) (ja2 (jak (i:=4) sc.nd rfl (Or.inr rfl) (jb5 (jgd rfl) rfl B.dict PyProof.Rows.boot_dict (ja0 (qv 1) ja3))) (ja6 (jah (jad (jqg rfl) rfl B.all PyProof.Rows.boot_all (ja0 (jbw (CpScope.of (N:=["one","other","halves"]) (src:=[none,none,some 4]) (by rfl)) rfl (jaw (jac q_ix (qv 0) ja4 (fun _ _=>rfl))) (fun _ _ _ _=>(jcd (n:=2) rfl (jag (ja9 (i:=0) (jai (l:=["one","other","halves"]) (by rfl)) rfl (Or.inl rfl)) (jag (ja9 (i:=1) (jai (l:=["one","other","halves"]) (by rfl)) rfl (Or.inl rfl)) jbf)))) (fun _ _ _ _=>jc3) (fun _ _ _ _=>(jbn q_ge (jau jc8 (je7 hu (qv 2) (qv 0) (fun _ _=>rfl)) (je7 hu (qv 2) (qv 1) (fun _ _=>rfl))) ja4 (jam _)))) ja3))))))),?_⟩
 have hkd:=jd2 hd
 simp_arith [hkd]
 cases d with
 | lst ds =>
  rw [Rep] at hd
  obtain ⟨l,zs,rfl,el,r⟩:=hd
  have hlv:=r.len
  simp_arith [kdD,isi,jaj,hu1,at0,el,hpa]
  by_cases cl:zs.length = xs.length
  ·rw [decide_eq_true (show (zs.length:Int) = (xs.length:Int) by omega),if_neg (by decide)]
   refine jb0 (Itz true K l pa) H (fun R' hR'=>?_) (jsw (K:=K) (a:=l) (c:=pa) (xs:=zs) (ys:=xs) (fun i σ H1=>∃ w1 w2 hs,σ = [some (.ref u),some (.ref l),w1,w2,none]∧Same H H1∧halO ps ds = (halO (ps.drop i) (ds.drop i)).map (hs ++ ·)∧Prs H (zs.take i) hs∧hs.map (·.1) = (ps.take i).map (·.1)) cl ⟨none,none,[],rfl,Same.refl _,by simp,.nil,rfl⟩ (fun i σ H1 _ ⟨_,_,_,_,s1,_⟩=>⟨SqL.of (s1 _ _ el),SqL.of (s1 _ _ hpa)⟩) ?_ ?_)
   ·unfold iZipE
    simp_arith [jaj,hu1,at0]
    exact ⟨true,l,pa,rfl,⟨zs,by unfold SqB; rw [if_pos rfl]; exact SqL.of el⟩,⟨xs,by unfold SqB; rw [if_pos rfl]; exact SqL.of hpa⟩,hR'⟩
   ·rintro i x y σ H1 t hx hy ⟨w1,w2,hs,rfl,s1,hho,hq,hk⟩ ht
    obtain ⟨dt,hdt,rdt⟩:=r.at hx
    obtain ⟨p,hp,pq⟩:=jaa hxs hy
    rw [jch hdt,jch hp,halO] at hho
    have s2:Same H (upd H1 t (.tup [x,y])):=s1.trans (ja5 ht _)
    have et2:upd H1 t (.tup [x,y]) t = some (.tup [x,y]):=ja1
    generalize upd H1 t (.tup [x,y]) = H2 at s2 et2
    obtain ⟨b2,rfl,eb2⟩:=pq.same s2
    simp_arith [et2]
    refine ⟨_,prO dt,rfl,⟨dt,Rep.same s2 _ rdt,rfl⟩,?_⟩
    cases hpd:prO dt with
    | none =>
     simp_arith [Option.isSome]
     have hb:=h H2 s2
     rw [jbi (by rw [hho,hpd]; rfl)] at hb
     exact hb
    | some k =>
     have hpk:=jia hpd
     rw [hpk] at rdt
     have pk:=jly rdt
     obtain ⟨b1,rfl,eb1⟩:=pk.same s2
     rw [hpd] at hho
     dsimp only at hho
     simp_arith [Option.isSome,jaj,eb1,eb2,at0,at1]
     by_cases c1:k.1 = p.1
     ·by_cases c2:0 ≤ k.2
      ·by_cases c3:k.2 ≤ 2
       ·rw [if_pos ⟨c1,c2,c3⟩] at hho
        simp only [c1,decide_true,Bool.not_true,Bool.false_eq_true,if_false,decide_eq_true c2,decide_eq_true c3]
        have hn:∃ w1 w2 hs',[some (V.ref u),some (.ref l),some (.ref b1),some (.ref b2),none] = [some (V.ref u),some (.ref l),w1,w2,none]∧Same H H2∧halO ps ds = (halO (ps.drop (i + 1)) (ds.drop (i + 1))).map (hs' ++ ·)∧Prs H (zs.take (i + 1)) hs'∧hs'.map (·.1) = (ps.take (i + 1)).map (·.1):=by
         refine ⟨_,_,hs ++ [k],rfl,s2,?_,?_,?_⟩
         ·rw [hho,Option.map_map]
          congr 1
          funext w
          show hs ++ k :: w = (hs ++ [k]) ++ w
          rw [List.append_assoc]
          rfl
         ·rw [jar hx]
          exact jav hq pk
         ·rw [jar hp,List.map_append,List.map_append,hk,List.map_singleton,List.map_singleton,c1]
        first | exact hn | (walk_at "RD"; exact hn)
       ·have hb:=h H2 s2
        rw [jbi (by rw [hho,if_neg (fun z=>c3 z.2.2)]; rfl)] at hb
        simp only [c1,decide_true,Bool.not_true,Bool.false_eq_true,if_false,decide_eq_true c2,decide_eq_false c3]
        first | exact hb | (walk_at "RD"; exact hb)
      ·have hb:=h H2 s2
       rw [jbi (by rw [hho,if_neg (fun z=>c2 z.2.1)]; rfl)] at hb
       simp only [c1,decide_true,Bool.not_true,Bool.false_eq_true,if_false,decide_eq_false c2]
       first | exact hb | (walk_at "RD"; exact hb)
     ·have hb:=h H2 s2
      rw [jbi (by rw [hho,if_neg (fun z=>c1 z.1)]; rfl)] at hb
      simp only [decide_eq_false c1]
      first | exact hb | (walk_at "RD"; exact hb)
   ·rintro σ H1 ⟨w1,w2,hs,rfl,s1,hho,hq,hk⟩
    rw [List.drop_eq_nil_of_le (show ps.length ≤ zs.length by omega),List.drop_eq_nil_of_le (show ds.length ≤ zs.length by omega),halO,Option.map_some,List.append_nil] at hho
    rw [List.take_length] at hq
    rw [List.take_of_length_le (by omega)] at hk
    have nd:(hs.map (·.1)).Nodup:=by rw [hk]; exact wk.p.nodup
    have hzl:=Paired.length hq
    have hpl:=wk.pl
    simp_arith [s1 _ _ el]
    refine ⟨jbr hs,jg0 (Prs.same s1 hq),by omega,jfd nd,fun d hd0=>?_⟩
    have s2:Same H (upd H1 d (.dK (jbr hs))):=s1.trans (ja5 hd0 _)
    have ed:upd H1 d (.dK (jbr hs)) d = some (.dK (jbr hs)):=ja1
    generalize upd H1 d (.dK (jbr hs)) = H2 at s2 ed
    refine jas (Itl K ta) H2 (fun R hR=>?_) (fun z hz0=>jay ts.length (fun i σ' Hc=>∃ w1 w2,σ' = [w1,w2,some (.ref d)]∧Same H2 Hc∧Hc z = some (.lst (((ts.take i).map fun t=>decide (hOf hs t.1 + hOf hs t.2 ≥ 2)).map V.bl))) ⟨none,none,rfl,ja5 hz0 _,ja1⟩ ?_ ?_)
    ·unfold jbz
     simp_arith [jaj,s2 _ _ hu1,at1]
     exact ⟨ta,rfl,⟨_,SqL.of (s2 _ _ hta)⟩,hR⟩
    ·rintro i σ' Hc hi ⟨w1,w2,rfl,s7,ez⟩
     have hyl:=Paired.length hys
     have x1:ys[i]? = some (ys[i]'(by omega)):=List.getElem?_eq_getElem _
     have s8:=s2.trans s7
     refine ⟨⟨_,_,SqL.of (s8 _ _ hta),x1⟩,?_⟩
     rintro y H' ⟨rfl,hy⟩
     have E1:=Option.some.inj (x1.symm.trans (hy _ (SqL.of (s8 _ _ hta))))
     obtain ⟨pr,hpr,px⟩:=jaa hys x1
     rw [E1] at px
     obtain ⟨b,rfl,hb⟩:=px.same s8
     obtain ⟨_,k1,k2⟩:=wk.t.in pr (List.mem_of_getElem? hpr)
     have v1:=jh5 nd (by rw [hk]; exact jcq k1)
     have v2:=jh5 nd (by rw [hk]; exact jcq k2)
     simp_arith [hb,s7 _ _ ed,v1,v2]
     refine ⟨_,ez,?_,_,_,rfl,jan s7 hz0,?_⟩
     ·rw [List.length_map,List.length_map,List.length_take]
      have:=wk.tl
      exact szl' (by omega)
     ·rw [ja1,jar hpr,List.map_append,List.map_append]
      rfl
    ·rintro σ' Hc ⟨w1,w2,rfl,s7,ez⟩
     have s8:=s2.trans s7
     refine ⟨⟨_,SqL.of (s8 _ _ hta),by have:=Paired.length hys; omega⟩,?_⟩
     rw [List.take_length] at ez
     simp_arith [ez]
     refine ⟨_,rfl,?_⟩
     have hb:=h Hc s8
     rw [jey hho] at hb
     have ew:(ts.map fun t=>decide (hOf hs t.1 + hOf hs t.2 ≥ 2)).all id = jga ts hs:=by rw [List.all_map]; rfl
     rw [ew]
     exact hb
  ·have hb:=h H (Same.refl _)
   rw [jbi (jiq (by omega))] at hb
   rw [decide_eq_false (show ¬ (zs.length:Int) = (xs.length:Int) by omega),if_pos (by decide)]
   exact hb
 | _=>simp_arith [kdD,isi]; exact h H (Same.refl _)
theorem jf9 {f:Addr} {fd:FuncData}  (B:Blt mg) (D:DefAt K mg "cost_in_halves" (top 27) ["web","halves"] f fd):FnOk P w K mg base CX0 1 f fd ["web","halves"] jnu:=by
 have sc:FnScope ["web","halves","prices"] ["web","halves"] (jaf (top 27)):=⟨rfl,rfl,rfl,by decide +kernel,rfl,by decide +kernel,by decide +kernel⟩
 refine D.F.ok sc (fun vs H Q E h=>?_) (fun cdv A outer s H vs Q E hr h=>?_)
 ·obtain ⟨v,ps,ts,l,zs,hs,rfl,_⟩:=h
  rfl
 obtain ⟨v,ps,ts,l,zs,hs,rfl,hw,wk,el,hz,hl,hh,h⟩:=h
 obtain ⟨u,pa,ta,xs,ys,rfl,hu1,hpa,hta,hxs,hys⟩:=hw
 have hxl:=Paired.length hxs
 have hu:=jbh hr
 have hu0:_ < PySem.cLine:=Nat.lt_of_succ_lt hu
 refine ⟨_,(ja2 (jak (i:=2) sc.nd rfl (Or.inr rfl) (jb5 (jgd rfl) rfl B.dict PyProof.Rows.boot_dict (ja0 (jac q_ix (qv 0) ja4 (fun _ _=>rfl)) ja3))) (ja6 (jah (jad (jsb rfl) rfl B.sum PyProof.Rows.boot_sum (ja0 (jbw (CpScope.of (N:=["place","h","prices"]) (src:=[none,none,some 2]) (by rfl)) rfl (jaw (qv 1)) (fun _ _ _ _=>(jcd (n:=2) rfl (jag (ja9 (i:=0) (jai (l:=["place","h","prices"]) (by rfl)) rfl (Or.inl rfl)) (jag (ja9 (i:=1) (jai (l:=["place","h","prices"]) (by rfl)) rfl (Or.inl rfl)) jbf)))) (fun _ _ _ _=>jc3) (fun _ _ _ _=>(jau je3 (je7 hu (qv 2) (qv 0) (fun _ _=>rfl)) (qv 1)))) ja3))))),?_⟩
 simp_arith [jaj,hu1,at0,hpa]
 have hpl:=wk.pl
 refine ⟨jbr ps,jg0 hxs,by omega,jfd wk.p.nodup,fun d hd0=>?_⟩
 have s2:Same H (upd H d (.dK (jbr ps))):=ja5 hd0 _
 have ed:upd H d (.dK (jbr ps)) d = some (.dK (jbr ps)):=ja1
 generalize upd H d (.dK (jbr ps)) = H2 at s2 ed
 have hzl:=Paired.length hz
 refine jas (Itl K l) H2 (fun R hR=>?_) (fun z hz0=>jay hs.length (fun i σ' Hc=>∃ w1 w2,σ' = [w1,w2,some (.ref d)]∧Same H2 Hc∧Hc z = some (.lst (((hs.take i).map fun h=>hOf ps h.1 * h.2).map V.int))) ⟨none,none,rfl,ja5 hz0 _,ja1⟩ ?_ ?_)
 ·unfold jbz
  walk_at "RD"
  exact ⟨l,rfl,⟨_,SqL.of (s2 _ _ el)⟩,hR⟩
 ·rintro i σ' Hc hi ⟨w1,w2,rfl,s7,ez⟩
  have x1:zs[i]? = some (zs[i]'(by omega)):=List.getElem?_eq_getElem _
  have s8:=s2.trans s7
  refine ⟨⟨_,_,SqL.of (s8 _ _ el),x1⟩,?_⟩
  rintro y H' ⟨rfl,hy⟩
  have E1:=Option.some.inj (x1.symm.trans (hy _ (SqL.of (s8 _ _ el))))
  obtain ⟨pr,hpr,px⟩:=jaa hz x1
  rw [E1] at px
  obtain ⟨b,rfl,hb⟩:=px.same s8
  obtain ⟨k1,k2,k3⟩:=hh pr (List.mem_of_getElem? hpr)
  have v1:=jh5 wk.p.nodup k1
  simp_arith [hb,s7 _ _ ed,v1]
  refine ⟨cmR (by omega) (by omega),_,ez,?_,_,_,rfl,jan s7 hz0,?_⟩
  ·rw [List.length_map,List.length_map,List.length_take]
   exact szl' (by omega)
  ·rw [ja1,jar hpr,List.map_append,List.map_append]
   rfl
 ·rintro σ' Hc ⟨w1,w2,rfl,s7,ez⟩
  have s8:=s2.trans s7
  refine ⟨⟨_,SqL.of (s8 _ _ el),by omega⟩,?_⟩
  rw [List.take_length] at ez
  exact ⟨z,_,rfl,ez,h Hc s8⟩
end
end My
namespace My
open PySem L2
section
variable {P:Program} {w:World} {K:PySem.W.Frag} {mg:Str→Option Value} {base:Heap} {c1 c2 c3 c4:Tok} {C_NoWeb f_NoWeb:Addr} {dI:FuncData}
theorem jdc:∀ {ps:List (Int × Int)} {ds:List Dt} {hs:List (Int × Int)},halO ps ds = some hs→ds = hs.map jb9∧hs.map (·.1) = ps.map (·.1)∧∀ h ∈ hs,0 ≤ h.2∧h.2 ≤ 2
 | [],[],hs,h=>by cases h; exact ⟨rfl,rfl,fun _ z=>by cases z⟩
 | [],_ :: _,_,h=>by cases h
 | _ :: _,[],_,h=>by cases h
 | p :: ps,d :: ds,hs,h=>by
  rw [halO] at h
  split at h
  ·rename_i k hk
   split at h
   ·rename_i c
    cases e:halO ps ds with
    | none=>rw [e] at h; cases h
    | some r =>
     rw [e] at h
     cases h
     obtain ⟨i1,i2,i3⟩:=jdc e
     refine ⟨by rw [List.map_cons,← i1,jia hk],by rw [List.map_cons,List.map_cons,i2,c.1],fun z hz=>?_⟩
     rcases List.mem_cons.mp hz with e | hz
     ·rw [e]; exact c.2
     ·exact i3 z hz
   ·cases h
  ·cases h
theorem jk6 {d:Dt} {p:Int × Int × Int} (hdu:dueO d = some p):d = tripD p∧1 ≤ p.2.2:=by
 unfold dueO at hdu
 split at hdu
 ·rename_i p' e
  split at hdu
  ·rename_i c; cases hdu; exact ⟨jlm e,c⟩
  ·cases hdu
 ·cases hdu
theorem jdd {ts:List (Int × Int)}:∀ {ds:List Dt} {q:Int × Int} {qs:List (Int × Int × Int)},jcg ts q ds = some qs→ds = qs.map tripD∧∀ d ∈ qs,(d.1,d.2.1) ∈ ts∧1 ≤ d.2.2
 | [],_,qs,h=>by cases h; exact ⟨rfl,fun _ z=>by cases z⟩
 | d :: ds,q,qs,h=>by
  rw [jcg] at h
  split at h
  ·rename_i k hk
   split at h
   ·rename_i c
    cases e:jcg ts (k.1,k.2.1) ds with
    | none=>rw [e] at h; cases h
    | some r =>
     rw [e] at h
     cases h
     obtain ⟨i1,i3⟩:=jdd e
     refine ⟨by rw [List.map_cons,← i1,(jk6 hk).1],fun z hz=>?_⟩
     rcases List.mem_cons.mp hz with e | hz
     ·rw [e]; exact ⟨c.1,(jk6 hk).2⟩
     ·exact i3 z hz
   ·cases h
  ·cases h
theorem ji7 {H:Hp}:∀ {hs:List (Int × Int)} {zs:List V},Reps H (hs.map jb9) zs→Prs H zs hs
 | [],zs,h=>by rw [List.map_nil,Reps] at h; subst h; exact .nil
 | k :: r,zs,h=>by
  rw [List.map_cons,Reps] at h
  obtain ⟨v,vs,rfl,h1,h2⟩:=h
  exact .cons (jly h1) (ji7 h2)
theorem ji6 {H:Hp}:∀ {hs:List (Int × Int × Int)} {zs:List V},Reps H (hs.map tripD) zs→Tps H zs hs
 | [],zs,h=>by rw [List.map_nil,Reps] at h; subst h; exact .nil
 | k :: r,zs,h=>by
  rw [List.map_cons,Reps] at h
  obtain ⟨v,vs,rfl,h1,h2⟩:=h
  exact .cons (jfv h1) (ji6 h2)
def pap2 (ps ts:List (Int × Int)) (a b:Dt):Bool:=match a,b with
 | .lst as,.lst bs=>match halO ps as,jcg ts (-1,-1) bs with
  | some hs,some qs=>jga ts hs && (jgi ps qs && decide ((qs.map (·.2.2)).sum = jmx ps hs))
  | _,_=>false
 | _,_=>false
def jc1 (ps ts:List (Int × Int)):Dt→Bool
 | .tup [a,b]=>pap2 ps ts a b
 | _=>false
theorem jda {ps ts:List (Int × Int)} {a b:Dt}:jc1 ps ts (.tup [a,b]) = pap2 ps ts a b:=rfl
theorem jjh {ps ts:List (Int × Int)} {ds:List Dt} (h:¬ ds.length = 2):jc1 ps ts (.tup ds) = false:=by
 unfold jc1
 split
 ·rename_i e; cases e; exact absurd rfl h
 ·rfl
theorem jrm {ps ts:List (Int × Int)} {a b:Dt} (h:halB ps ts a = false):pap2 ps ts a b = false:=by
 unfold pap2
 split
 ·rename_i as bs
  split
  ·rename_i hs qs e1 e2
   rw [jey e1] at h
   rw [h]; rfl
  ·rfl
 ·rfl
theorem joh {ps ts:List (Int × Int)} {a b:Dt} (h:jh8 ps ts b = false):pap2 ps ts a b = false:=by
 unfold pap2
 split
 ·rename_i as bs
  split
  ·rename_i hs qs e1 e2
   rw [je1 e2] at h
   rw [h,Bool.false_and,Bool.and_false]
  ·rfl
 ·rfl
theorem jk2 {ps ts:List (Int × Int)} {a:Dt} (h:halB ps ts a = true):∃ hs,a = .lst (hs.map jb9)∧halO ps (hs.map jb9) = some hs∧jga ts hs = true:=by
 cases a with
 | lst as =>
  cases e:halO ps as with
  | none=>rw [jbi e] at h; cases h
  | some hs =>
   rw [jey e] at h
   have:=(jdc e).1
   subst this
   exact ⟨hs,rfl,e,h⟩
 | _=>cases h
theorem jfh {ps ts:List (Int × Int)} {a:Dt} (h:jh8 ps ts a = true):∃ qs,a = .lst (qs.map tripD)∧jcg ts (-1,-1) (qs.map tripD) = some qs∧jgi ps qs = true:=by
 cases a with
 | lst as =>
  cases e:jcg ts (-1,-1) as with
  | none=>rw [jcl e] at h; cases h
  | some hs =>
   rw [je1 e] at h
   have:=(jdd e).1
   subst this
   exact ⟨hs,rfl,e,h⟩
 | _=>cases h
def jo0 (d:Dt):Prop:=∀ a b,d = .tup [a,b]→jo1 b
def jnj:Sp:=fun vs H Q _=>∃ v ps ts y d,vs = [v,y]∧jc4 H v ps ts∧WebOk ps ts∧Rep H d y∧jo0 d∧∀ H',Same H H'→Q (.bl (jc1 ps ts d)) H'
theorem jgn {f:Addr} {fd:FuncData} {f_is_tuple_of:Addr} {d_is_tuple_of:FuncData} {f_halves_stand:Addr} {d_halves_stand:FuncData} {f_dues_stand:Addr} {d_dues_stand:FuncData} {f_cost_in_halves:Addr} {d_cost_in_halves:FuncData} (B:Blt mg) (D:DefAt K mg "paper_stands" (top 28) ["web","thing"] f fd) (D_is_tuple_of:DefAt K mg "is_tuple_of" (top 2) ["thing","many"] f_is_tuple_of d_is_tuple_of) (G_is_tuple_of:FnOk P w K mg base CX0 1 f_is_tuple_of d_is_tuple_of ["thing","many"] jlq) (D_halves_stand:DefAt K mg "halves_stand" (top 23) ["web","thing"] f_halves_stand d_halves_stand) (G_halves_stand:FnOk P w K mg base CX0 3 f_halves_stand d_halves_stand ["web","thing"] jfx) (D_dues_stand:DefAt K mg "dues_stand" (top 26) ["web","thing"] f_dues_stand d_dues_stand) (G_dues_stand:FnOk P w K mg base CX0 4 f_dues_stand d_dues_stand ["web","thing"] jrc) (D_cost_in_halves:DefAt K mg "cost_in_halves" (top 27) ["web","halves"] f_cost_in_halves d_cost_in_halves) (G_cost_in_halves:FnOk P w K mg base CX0 1 f_cost_in_halves d_cost_in_halves ["web","halves"] jnu):FnOk P w K mg base CX0 5 f fd ["web","thing"] jnj:=by
 have sc:FnScope ["web","thing"] ["web","thing"] (jaf (top 28)):=⟨rfl,rfl,rfl,by decide +kernel,rfl,by decide +kernel,by decide +kernel⟩
 refine D.F.ok sc (fun vs H Q E h=>?_) (fun cdv A outer s H vs Q E hr h=>?_)
 ·obtain ⟨v,ps,ts,y,d,rfl,_⟩:=h
  rfl
 obtain ⟨v,ps,ts,y,d,rfl,hw,wk,hd,hs,h⟩:=h
 have hu:=jbh hr
 have hu0:_ < PySem.cLine:=Nat.lt_of_succ_lt hu
 refine ⟨_,(ja2 (jb1 (PW.pt (jcx (jb4 (jb6 (ja7 G_is_tuple_of (hr.mono (by decide)) rfl D_is_tuple_of.m D_is_tuple_of.F.kp D_is_tuple_of.b .nil jap (ja0 (qv 1) (ja0 ja4 ja3))))) (jcx (jb4 (jb6 (ja7 G_halves_stand (hr.mono (by decide)) rfl D_halves_stand.m D_halves_stand.F.kp D_halves_stand.b .nil jap (ja0 (qv 0) (ja0 (jac q_ix (qv 1) ja4 (fun _ _=>rfl)) ja3))))) (jco (jb4 (jb6 (ja7 G_dues_stand (hr.mono (by decide)) rfl D_dues_stand.m D_dues_stand.F.kp D_dues_stand.b .nil jap (ja0 (qv 0) (ja0 (jac q_ix (qv 1) ja4 (fun _ _=>rfl)) ja3))))))))) (ja6 (jah jbd)) jal) (ja6 (jah (jbn q_eq (jad (jsb rfl) rfl B.sum PyProof.Rows.boot_sum (ja0 (jbw (CpScope.of (N:=["one","other","amount"]) (src:=[none,none,none]) (by rfl)) rfl (jaw (jac q_ix (qv 1) ja4 (fun _ _=>rfl))) (fun _ _ _ _=>(jcd (n:=3) rfl (jag (ja9 (i:=0) (jai (l:=["one","other","amount"]) (by rfl)) rfl (Or.inl rfl)) (jag (ja9 (i:=1) (jai (l:=["one","other","amount"]) (by rfl)) rfl (Or.inl rfl)) (jag (ja9 (i:=2) (jai (l:=["one","other","amount"]) (by rfl)) rfl (Or.inl rfl)) jbf))))) (fun _ _ _ _=>jc3) (fun _ _ _ _=>(qv 2))) ja3)) (ja7 G_cost_in_halves (hr.mono (by decide)) rfl D_cost_in_halves.m D_cost_in_halves.F.kp D_cost_in_halves.b .nil jap (ja0 (qv 0) (ja0 (jac q_ix (qv 1) ja4 (fun _ _=>rfl)) ja3))) (jam _))))),?_⟩
 walk_at "RD"
 refine ⟨_,d,2,rfl,hd,?_⟩
 cases d with
 | tup ds =>
  by_cases c2:ds.length = 2
  ·rw [show tupB 2 (.tup ds) = true from decide_eq_true (by omega)]
   match ds,c2 with
   | [a,b],_ =>
   have hsb:=hs a b rfl
   rw [Rep] at hd
   obtain ⟨g,vs,rfl,ea,r⟩:=hd
   rw [Reps] at r
   obtain ⟨v1,r1,rfl,e1,r⟩:=r
   rw [Reps] at r
   obtain ⟨v2,r2,rfl,e2,r⟩:=r
   rw [Reps] at r
   subst r
   simp_arith [jaj,ea,at0,at1]
   refine ⟨_,ps,ts,_,a,rfl,hw,wk,e1,fun H1 s1=>?_⟩
   cases ch:halB ps ts a with
   | false =>
    walk_at "RD"
    have hb:=h H1 s1
    rw [show jc1 ps ts (.tup [a,b]) = pap2 ps ts a b from rfl,jrm ch] at hb
    exact hb
   | true =>
    simp_arith [jaj,s1 _ _ ea,at1]
    refine ⟨_,ps,ts,_,b,rfl,hw.same s1,wk,Rep.same s1 _ e2,hsb,fun H2 s2=>?_⟩
    have s3:=s1.trans s2
    cases cd:jh8 ps ts b with
    | false =>
     walk_at "RD"
     have hb:=h H2 s3
     rw [show jc1 ps ts (.tup [a,b]) = pap2 ps ts a b from rfl,joh cd] at hb
     exact hb
    | true =>
     obtain ⟨hs',rfl,ho,hti⟩:=jk2 ch
     obtain ⟨qs,rfl,qo,hpa⟩:=jfh cd
     rw [Rep] at e1 e2
     obtain ⟨l1,z1,rfl,el1,r1⟩:=e1
     obtain ⟨l2,z2,rfl,el2,r2⟩:=e2
     have p1:=ji7 r1
     have p2:=ji6 r2
     obtain ⟨_,hk,hrg⟩:=jdc ho
     have hzl:=Paired.length p2
     have hql:qs.length ≤ 200:=by have:=hsb _ rfl; rw [List.length_map] at this; exact this
     simp_arith [jaj,s3 _ _ ea,at1,at0]
     refine jas (Itl K l2) H2 (fun R hR=>?_) (fun z hz0=>jay qs.length (fun i σ' Hc=>∃ w1 w2 w3,σ' = [w1,w2,w3]∧Same H2 Hc∧Hc z = some (.lst (((qs.take i).map (·.2.2)).map V.int))) ⟨none,none,none,rfl,ja5 hz0 _,ja1⟩ ?_ ?_)
     ·unfold jbz
      simp_arith [jaj,s3 _ _ ea,at1]
      exact ⟨l2,rfl,⟨_,SqL.of (s3 _ _ el2)⟩,hR⟩
     ·rintro i σ' Hc hi ⟨w1,w2,w3,rfl,s7,ez⟩
      have x1:z2[i]? = some (z2[i]'(by omega)):=List.getElem?_eq_getElem _
      have s8:=s3.trans s7
      refine ⟨⟨_,_,SqL.of (s8 _ _ el2),x1⟩,?_⟩
      rintro y H' ⟨rfl,hy⟩
      have E1:=Option.some.inj (x1.symm.trans (hy _ (SqL.of (s8 _ _ el2))))
      obtain ⟨pr,hpr,px⟩:=jaa p2 x1
      rw [E1] at px
      obtain ⟨b,rfl,hb⟩:=Tp.tups px s8.tups
      simp_arith [hb]
      refine ⟨_,ez,?_,_,_,_,rfl,jan s7 hz0,?_⟩
      ·rw [List.length_map,List.length_map,List.length_take]
       exact szl' (by omega)
      ·rw [ja1,jar hpr,List.map_append,List.map_append]
       rfl
     ·rintro σ' Hc ⟨w1,w2,w3,rfl,s7,ez⟩
      have s8:=s3.trans s7
      refine ⟨⟨_,SqL.of (s8 _ _ el2),by omega⟩,?_⟩
      rw [List.take_length] at ez
      refine ⟨z,_,rfl,ez,?_⟩
      simp only [s8 _ _ ea,at0]
      have hpl:hs'.length = ps.length:=by
       have:=congrArg List.length hk
       rw [List.length_map,List.length_map] at this
       exact this
      have h40:=wk.pl
      refine ⟨_,ps,ts,l1,z1,hs',rfl,hw.same s8,wk,s8 _ _ el1,Prs.same s8 p1,by omega,fun k hk'=>⟨by rw [← hk]; exact List.mem_map_of_mem hk',hrg k hk'⟩,fun H9 s9=>?_⟩
      have hb:=h H9 (s8.trans s9)
      have e9:jc1 ps ts (.tup [.lst (hs'.map jb9),.lst (qs.map tripD)]) = decide ((qs.map (·.2.2)).sum = jmx ps hs'):=by
       rw [jda]
       unfold pap2
       dsimp only
       rw [ho,qo]
       dsimp only
       rw [hti,hpa,Bool.true_and,Bool.true_and]
      rw [e9] at hb
      exact hb
  ·rw [show tupB 2 (.tup ds) = false from decide_eq_false (by omega)]
   walk_at "RD"
   have hb:=h H (Same.refl _)
   rw [jjh c2] at hb
   exact hb
 | _=>simp_arith [tupB]; exact h H (Same.refl _)
end
end My
namespace My
open PySem L2
section
variable {P:Program} {w:World} {K:PySem.W.Frag} {mg:Str→Option Value} {base:Heap} {c1 c2 c3 c4:Tok} {C_NoWeb f_NoWeb:Addr} {dI:FuncData}
def nr (n:Int) (t:Int × Int):List Int:=if t.1 = n then [t.2] else if t.2 = n then [t.1] else []
def jes (ts:List (Int × Int)) (n:Int):List Int:=ts.flatMap (nr n)
theorem jmr {ts:List (Int × Int)} {j:Nat} {t:Int × Int} (h:ts[j]? = some t) (n:Int):jes (ts.take (j + 1)) n = jes (ts.take j) n ++ nr n t:=by
 unfold jes
 rw [jar h,List.flatMap_append]
 simp
theorem jjq:∀ (ts:List (Int × Int)) (n:Int),(jes ts n).length ≤ ts.length
 | [],n=>by simp [jes]
 | t :: r,n=>by
  have ih:=jjq r n
  have e:jes (t :: r) n = nr n t ++ jes r n:=by simp [jes]
  have e2:(nr n t).length ≤ 1:=by
   unfold nr
   split
   ·simp
   ·split <;> simp
  rw [e,List.length_append,List.length_cons]
  omega
def kz:List (Int × Int)→List Addr→List (Key × V)
 | p :: r,a :: s=>(Sum.inl p.1,V.ref a) :: kz r s
 | _,_=>[]
theorem jp3:∀ {ps:List (Int × Int)} {as:List Addr} {p:Int × Int} {a:Addr},ps.length = as.length→kz (ps ++ [p]) (as ++ [a]) = kz ps as ++ [(Sum.inl p.1,V.ref a)]
 | [],[],_,_,_=>rfl
 | [],_ :: _,_,_,h=>by simp at h
 | _ :: _,[],_,_,h=>by simp at h
 | q :: r,b :: s,p,a,h=>by
  have ih:=jp3 (ps:=r) (as:=s) (p:=p) (a:=a) (by simpa using h)
  show (Sum.inl q.1,V.ref b) :: kz (r ++ [p]) (s ++ [a]) = _
  rw [ih]
  rfl
theorem jim:∀ {ps:List (Int × Int)} {as:List Addr},ps.length = as.length→(kz ps as).map (·.1) = ps.map fun p=>(Sum.inl p.1:Key)
 | [],[],_=>rfl
 | [],_ :: _,h=>by simp at h
 | _ :: _,[],h=>by simp at h
 | q :: r,b :: s,h=>by
  show (Sum.inl q.1:Key) :: (kz r s).map (·.1) = _
  rw [jim (by simpa using h)]
  rfl
theorem jm4:∀ {ps:List (Int × Int)} {as:List Addr} {i:Nat} {p:Int × Int} {a:Addr},(ps.map (·.1)).Nodup→ps[i]? = some p→as[i]? = some a→valV (kz ps as) (Sum.inl p.1:Key) = some (.ref a)
 | [],_,i,_,_,_,h,_=>by simp at h
 | _ :: _,[],i,_,_,_,_,h=>by simp at h
 | q :: r,b :: s,i,p,a,hn,h1,h2=>by
  rw [List.map_cons] at hn
  unfold valV
  show Option.map _ (List.find? _ ((Sum.inl q.1,V.ref b) :: kz r s)) = _
  rw [List.find?_cons]
  cases i with
  | zero =>
   simp at h1 h2
   subst h1 h2
   simp
  | succ i =>
   have hp:p ∈ r:=List.mem_of_getElem? (by simpa using h1)
   have hne:q.1 ≠ p.1:=fun z=>(List.nodup_cons.mp hn).1 (by rw [z]; exact List.mem_map_of_mem hp)
   have hd:decide ((Sum.inl q.1:Key) = Sum.inl p.1) = false:=decide_eq_false fun z=>hne (Sum.inl.inj z)
   dsimp only
   rw [hd]
   exact jm4 (List.nodup_cons.mp hn).2 (i:=i) (by simpa using h1) (by simpa using h2)
theorem jm7 {ps:List (Int × Int)} {n:Int} (h:hasK (jbr ps) n = true):∃ (i:Nat) (p:Int × Int),ps[i]? = some p∧p.1 = n:=by
 unfold hasK valV jbr at h
 rw [Option.isSome_map,List.find?_isSome] at h
 obtain ⟨kv,hm,he⟩:=h
 obtain ⟨p,hp,e⟩:=List.mem_map.mp hm
 subst e
 obtain ⟨i,hi,e2⟩:=List.mem_iff_getElem.mp hp
 refine ⟨i,p,by rw [List.getElem?_eq_getElem hi,e2],?_⟩
 exact Sum.inl.inj (of_decide_eq_true he)
theorem TiOk.ats {kvs:List (Key × V)}:∀ {ts:List (Int × Int)} {q:Int × Int},TiOk kvs q ts→∀ t ∈ ts,t.1 < t.2∧hasK kvs t.1 = true∧hasK kvs t.2 = true
 | [],_,_,_,h=>by cases h
 | p :: r,q,h,t,ht=>by
  rcases List.mem_cons.mp ht with e | ht
  ·rw [e]; exact ⟨h.1.2.1,h.1.2.2.1,h.1.2.2.2⟩
  ·exact TiOk.ats h.2 t ht
def jt5 (H:Hp) (ps ts:List (Int × Int)) (as:List Addr):Prop:=∀ (i:Nat) (p:Int × Int) (a:Addr),ps[i]? = some p→as[i]? = some a→H a = some (.lst ((jes ts p.1).map V.int))
def jj8:Sp:=fun vs H Q _=>∃ v ps ts,vs = [v]∧jc4 H v ps ts∧WebOk ps ts∧∀ d as H',H d = none→Same H H'→H' d = some (.dK (kz ps as))→as.length = ps.length→jt5 H' ps ts as→Q (.ref d) H'
theorem jg1 {α:Type} {l:List α} (h:l.Nodup) {i j:Nat} {a b:α} (h1:l[i]? = some a) (h2:l[j]? = some b) (hij:i ≠ j):a ≠ b:=by
 intro e
 subst e
 obtain ⟨p1,q1⟩:=List.getElem?_eq_some_iff.mp h1
 obtain ⟨p2,q2⟩:=List.getElem?_eq_some_iff.mp h2
 exact hij ((List.getElem_inj h).mp (q1.trans q2.symm))
theorem jku {f:Addr} {fd:FuncData}  (B:Blt mg) (D:DefAt K mg "nears_in" (top 21) ["web"] f fd):FnOk P w K mg base CX0 1 f fd ["web"] jj8:=by
 have sc:FnScope ["web","nears","one","other"] ["web"] (jaf (top 21)):=⟨rfl,rfl,rfl,by decide +kernel,rfl,by decide +kernel,by decide +kernel⟩
 refine D.F.ok sc (fun vs H Q E h=>?_) (fun cdv A outer s H vs Q E hr h=>?_)
 ·obtain ⟨v,ps,ts,rfl,_⟩:=h
  rfl
 obtain ⟨v,ps,ts,rfl,hw,wok,h⟩:=h
 obtain ⟨x,pa,ta,xs,ys,rfl,ex,ep,et,pp,pt⟩:=id hw
 have hlx:xs.length = ps.length:=Paired.length pp
 have hly:ys.length = ts.length:=Paired.length pt
 have okl:=wok.pl
 have okt:=wok.tl
 have hnd:=wok.p.nodup
 have hu:=jbh hr
 have hu0:_ < PySem.cLine:=Nat.lt_of_succ_lt hu
 refine ⟨_,(ja2 (jak (i:=1) sc.nd rfl (Or.inl rfl) (jb5 (jgd rfl) rfl B.dict PyProof.Rows.boot_dict (ja0 (jbw (CpScope.of (N:=["place","price"]) (src:=[none,none]) (by rfl)) rfl (jaw (jac q_ix (qv 0) ja4 (fun _ _=>rfl))) (fun _ _ _ _=>(jcd (n:=2) rfl (jag (ja9 (i:=0) (jai (l:=["place","price"]) (by rfl)) rfl (Or.inl rfl)) (jag (ja9 (i:=1) (jai (l:=["place","price"]) (by rfl)) rfl (Or.inl rfl)) jbf)))) (fun _ _ _ _=>jc3) (fun _ _ _ _=>(jaz (ja0 (qv 0) (ja0 (jc0 ja3) ja3))))) ja3))) (ja2 (jbm PassesOwn.never rfl (jaw (jac q_ix (qv 0) ja4 (fun _ _=>rfl))) (jcd (n:=2) rfl (jag (ja9 (i:=2) sc.nd rfl (Or.inl rfl)) (jag (ja9 (i:=3) sc.nd rfl (Or.inl rfl)) jbf))) (ja2 (jce (q_bm PySem.F.plainAttrs_list PySem.F.slot_list_append PySem.F.type_list_append jct (je7 hu (qv 1) (qv 2) (fun _ _=>rfl)) (ja0 (qv 3) ja3))) (ja6 (jce (q_bm PySem.F.plainAttrs_list PySem.F.slot_list_append PySem.F.type_list_append jct (je7 hu (qv 1) (qv 3) (fun _ _=>rfl)) (ja0 (qv 2) ja3)))))) (ja6 (jah (qv 1))))),?_⟩
 walk_at "RD"
 refine jas (Itl K pa) H (fun R hR=>?_) (fun l hl0=>jay ps.length (fun i σ' Hc=>∃ w1 w2 zs as,σ' = [w1,w2]∧Same H Hc∧Hc l = some (.lst zs)∧as.length = i∧as.Nodup∧(∀ a ∈ as,H a = none∧a ≠ l∧Hc a = some (.lst []))∧Paired (PairAt Hc) zs (kz (ps.take i) as)) ⟨none,none,[],[],rfl,ja5 hl0 _,ja1,rfl,List.nodup_nil,(fun _ h=>by cases h),.nil⟩ ?_ ?_)
 ·unfold jbz
  simp_arith [jaj,ex,at0]
  exact ⟨pa,rfl,⟨_,SqL.of ep⟩,hR⟩
 ·rintro i σ' Hc hi ⟨w1,w2,zs,as,rfl,s2,ez,hla,nda,ha,pz⟩
  have x1:xs[i]? = some (xs[i]'(by omega)):=List.getElem?_eq_getElem _
  have z1:SqL K Hc pa xs:=SqL.of (s2 _ _ ep)
  have hlt:(ps.take i).length = as.length:=by rw [List.length_take]; omega
  have hlz:zs.length = (kz (ps.take i) as).length:=Paired.length pz
  have hlz2:zs.length ≤ i:=by
   have e:=congrArg List.length (jim hlt)
   rw [List.length_map,List.length_map] at e
   omega
  refine ⟨⟨_,_,z1,x1⟩,?_⟩
  rintro y H' ⟨rfl,hy⟩
  obtain ⟨q,hq,pq⟩:=jaa pp (hy _ z1)
  obtain ⟨t,rfl,ht⟩:=pq.same s2
  simp_arith [ht]
  intro a1 ha1 t2 ht2
  have na1:a1 ≠ l:=fun z=>by rw [z,ez] at ha1; cases ha1
  have nt2:t2 ≠ a1:=fun z=>by rw [z,ja1] at ht2; cases ht2
  have s3:=ja5 ha1 (.lst [])
  have s4:=ja5 ht2 (.tup [.int q.1,.ref a1])
  have ez2:=s4 _ _ (s3 _ _ ez)
  have t6:=jb2 (ys:=zs ++ [.ref t2]) ez2
  refine ⟨zs,ez2,szl' (by omega),_,_,zs ++ [.ref t2],as ++ [a1],rfl,jan (s2.trans (s3.trans s4)) hl0,(by first | rfl | exact ja1),(by rw [List.length_append,hla]; rfl),?_,?_,?_⟩
  ·rw [List.nodup_append]
   refine ⟨nda,(by simp),fun a hm b hb=>?_⟩
   have hb':b = a1:=by simpa using hb
   intro z
   rw [hb'] at z
   have:=(ha a hm).2.2
   rw [z,ha1] at this
   cases this
  ·intro a hm
   rcases List.mem_append.mp hm with hm | hm
   ·obtain ⟨q1,q2,q3⟩:=ha a hm
    refine ⟨q1,q2,?_⟩
    rw [jae q2]
    exact s4 _ _ (s3 _ _ q3)
   ·have e:a = a1:=by simpa using hm
    subst e
    refine ⟨s2.free ha1,na1,?_⟩
    rw [jae na1]
    exact s4 _ _ ja1
  ·rw [jar hq,jp3 hlt]
   refine jav (Paired.mapP pz fun v p q=>?_) ⟨t2,rfl,t6 _ _ rfl ja1⟩
   obtain ⟨b,e,q⟩:=q
   exact ⟨b,e,t6 _ _ rfl (s4 _ _ (s3 _ _ q))⟩
 rintro σ' Hc ⟨w1,w2,zs,as,rfl,s2,ez,hla,nda,ha,pz⟩
 refine ⟨⟨_,SqL.of (s2 _ _ ep),by omega⟩,?_⟩
 rw [List.take_length] at pz
 have hlz:zs.length = (kz ps as).length:=Paired.length pz
 have hkk:=jim (ps:=ps) (as:=as) hla.symm
 have hlz2:zs.length = ps.length:=by
  have e:=congrArg List.length hkk
  rw [List.length_map,List.length_map] at e
  omega
 simp_arith [ez]
 refine ⟨kz ps as,pz,by omega,?_,fun d hd=>?_⟩
 ·rw [hkk]
  have hnd2:=hnd
  unfold List.Nodup at hnd2 ⊢
  rw [List.pairwise_map] at hnd2 ⊢
  exact hnd2.imp fun q z=>q (Sum.inl.inj z)
 have s3:=ja5 hd (.dK (kz ps as))
 have ed:upd Hc d (.dK (kz ps as)) d = some (.dK (kz ps as)):=ja1
 have hd0:=s2.free hd
 have ha3:∀ a ∈ as,H a = none∧a ≠ d∧upd Hc d (.dK (kz ps as)) a = some (.lst []):=fun a hm=>by
  obtain ⟨q1,q2,q3⟩:=ha a hm
  exact ⟨q1,jab q3 hd,s3 _ _ q3⟩
 have s23:=s2.trans s3
 generalize upd Hc d (.dK (kz ps as)) = H2 at s23 ed ha3
 clear s3 s2 ez pz ha hlz hd
 refine jb0 (Itl K ta) H2 (fun R hR=>?_) (jby (K:=K) (a:=ta) (xs:=ys) (fun j σ H3=>∃ v1 v2,σ = [some (.ref x),some (.ref d),v1,v2]∧Same H H3∧H3 d = some (.dK (kz ps as))∧jt5 H3 ps (ts.take j) as) ⟨none,none,rfl,s23,ed,fun i p a _ h2=>(ha3 a (List.mem_of_getElem? h2)).2.2⟩ (fun i σ H3 _ ⟨_,_,_,s3,_⟩=>SqL.of (s3 _ _ et)) ?_ ?_)
 ·unfold jbz
  simp_arith [jaj,s23 _ _ ex,at1]
  exact ⟨ta,rfl,⟨_,SqL.of (s23 _ _ et)⟩,hR⟩
 ·rintro j y σ H3 hj ⟨v1,v2,rfl,s3,ed3,hN⟩
  obtain ⟨q,hq,pq⟩:=jaa pt hj
  obtain ⟨t,rfl,ht⟩:=pq.same s3
  obtain ⟨b1,b2,b3⟩:=wok.t.ats q (List.mem_of_getElem? hq)
  obtain ⟨i1,p1,g1,e1⟩:=jm7 b2
  obtain ⟨i2,p2,g2,e2⟩:=jm7 b3
  have hi1:i1 < as.length:=by have:=(List.getElem?_eq_some_iff.mp g1).1; omega
  have hi2:i2 < as.length:=by have:=(List.getElem?_eq_some_iff.mp g2).1; omega
  have A1:as[i1]? = some as[i1]:=List.getElem?_eq_getElem hi1
  have A2:as[i2]? = some as[i2]:=List.getElem?_eq_getElem hi2
  generalize as[i1] = a1 at A1
  generalize as[i2] = a2 at A2
  have V1:=jm4 hnd g1 A1
  have V2:=jm4 hnd g2 A2
  have n12:i1 ≠ i2:=fun z=>by rw [z,g2] at g1; cases g1; omega
  have na:a1 ≠ a2:=jg1 nda A1 A2 n12
  rw [e1] at V1
  rw [e2] at V2
  have M1:=hN i1 p1 a1 g1 A1
  have M2:=hN i2 p2 a2 g2 A2
  have hlj:∀ n,(jes (ts.take j) n).length ≤ 120:=fun n=>Nat.le_trans (jjq _ _) (by rw [List.length_take]; omega)
  have nd1:d ≠ a1:=((ha3 a1 (List.mem_of_getElem? A1)).2.1).symm
  have nd2:d ≠ a2:=((ha3 a2 (List.mem_of_getElem? A2)).2.1).symm
  simp_arith [ht,ed3,V1]
  refine ⟨⟨a1,_,rfl,M1⟩,?_⟩
  simp_arith [M1]
  refine ⟨szl' (by rw [List.length_map]; have:=hlj p1.1; omega),?_⟩
  simp_arith [jae nd1,ed3,V2]
  refine ⟨⟨a2,_,rfl,(by rw [jae na.symm]; exact M2)⟩,?_⟩
  simp_arith [jae na.symm,M2]
  refine ⟨szl' (by rw [List.length_map]; have:=hlj p2.1; omega),_,_,rfl,?_,?_,?_⟩
  ·intro b o hb
   rw [jae (jab hb (ha3 a2 (List.mem_of_getElem? A2)).1),jae (jab hb (ha3 a1 (List.mem_of_getElem? A1)).1)]
   exact s3 b o hb
  ·rw [jae nd2,jae nd1]
   exact ed3
  ·intro i p a hp ha'
   rw [jmr hq,List.map_append]
   have hpe:∀ {k:Nat} {r:Int × Int},ps[k]? = some r→r.1 = p.1→k = i:=fun {k r} hr he=>by
    have h1:(ps.map (·.1))[k]? = some r.1:=by rw [List.getElem?_map,hr]; rfl
    have h2:(ps.map (·.1))[i]? = some p.1:=by rw [List.getElem?_map,hp]; rfl
    by_cases z:k = i
    ·exact z
    ·exact absurd he (jg1 hnd h1 h2 z)
   by_cases c2:i = i2
   ·subst c2
    rw [g2] at hp
    cases hp
    rw [A2] at ha'
    cases ha'
    have e3:nr p2.1 q = [q.1]:=by
     unfold nr
     rw [if_neg (by omega),if_pos e2.symm]
    rw [ja1,e3]
    rfl
   by_cases c1:i = i1
   ·subst c1
    rw [g1] at hp
    cases hp
    rw [A1] at ha'
    cases ha'
    have e3:nr p1.1 q = [q.2]:=by
     unfold nr
     rw [if_pos e1.symm]
    rw [jae na,ja1,e3]
    rfl
   have n1:a ≠ a1:=jg1 nda ha' A1 c1
   have n2:a ≠ a2:=jg1 nda ha' A2 c2
   have e3:nr p.1 q = []:=by
    unfold nr
    rw [if_neg (fun z=>c1 (hpe g1 (e1.trans z)).symm),if_neg (fun z=>c2 (hpe g2 (e2.trans z)).symm)]
   rw [jae n2,jae n1,e3,List.map_nil,List.append_nil]
   exact hN i p a hp ha'
 ·rintro σ H3 ⟨v1,v2,rfl,s3,ed3,hN⟩
  rw [hly,List.take_length] at hN
  walk_at "RD"
  exact h d as H3 hd0 s3 ed3 hla hN
def jrb:Sp:=fun vs H Q _=>∃ d n kvs,vs = [.ref d,.int n]∧H d = some (.dK kvs)∧Q (.bl (hasK kvs n)) H
def jnz:Sp:=fun vs H Q _=>∃ d kvs l,∃ ns:List Int,vs = [.ref d,.ref l]∧H d = some (.dK kvs)∧H l = some (.tup (ns.map V.int))∧ns.length ≤ 900∧∀ H',Same H H'→Q (.bl (ns.all fun n=>hasK kvs n)) H'
theorem jpc {ns:List Int} {i:Nat} {x:V} (h:(ns.map V.int)[i]? = some x):∃ n,ns[i]? = some n∧x = .int n:=by
 rw [List.getElem?_map] at h
 cases c:ns[i]? with
 | none=>rw [c] at h; cases h
 | some n=>rw [c] at h; exact ⟨n,rfl,(Option.some.inj h).symm⟩
def NrAt (H:Hp) (d:Addr) (ps ts:List (Int × Int)):Prop:=∃ as,H d = some (.dK (kz ps as))∧as.length = ps.length∧jt5 H ps ts as
theorem NrAt.same {H H':Hp} {d:Addr} {ps ts:List (Int × Int)} (h:NrAt H d ps ts) (s:Same H H'):NrAt H' d ps ts:=by
 obtain ⟨as,e,l,n⟩:=h
 exact ⟨as,s _ _ e,l,fun i p a h1 h2=>s _ _ (n i p a h1 h2)⟩
theorem jrr {ps:List (Int × Int)} {as:List Addr} (hl:as.length = ps.length) {n:Int}:hasK (kz ps as) n = decide (n ∈ ps.map (·.1)):=by
 have hk:=jim (ps:=ps) (as:=as) hl.symm
 unfold hasK valV
 rw [Option.isSome_map,Bool.eq_iff_iff,List.find?_isSome,decide_eq_true_eq]
 constructor
 ·rintro ⟨kv,hm,he⟩
  have h1:kv.1 ∈ (kz ps as).map (·.1):=List.mem_map_of_mem hm
  rw [hk] at h1
  obtain ⟨p,hp,e⟩:=List.mem_map.mp h1
  have e2:kv.1 = Sum.inl n:=of_decide_eq_true he
  rw [e2] at e
  exact List.mem_map.mpr ⟨p,hp,Sum.inl.inj e⟩
 ·intro h
  obtain ⟨p,hp,e⟩:=List.mem_map.mp h
  have h1:(Sum.inl n:Key) ∈ (kz ps as).map (·.1):=by rw [hk]; exact List.mem_map.mpr ⟨p,hp,by rw [e]⟩
  obtain ⟨kv,hm,he⟩:=List.mem_map.mp h1
  exact ⟨kv,hm,by rw [he]; simp⟩
theorem NrAt.get {H:Hp} {d:Addr} {ps ts:List (Int × Int)} (h:NrAt H d ps ts) (hn:(ps.map (·.1)).Nodup) {n:Int} (m:n ∈ ps.map (·.1)):∃ as a,H d = some (.dK (kz ps as))∧valV (kz ps as) (Sum.inl n:Key) = some (.ref a)∧H a = some (.lst ((jes ts n).map V.int)):=by
 obtain ⟨as,e,l,nr⟩:=h
 obtain ⟨p,hp,rfl⟩:=List.mem_map.mp m
 obtain ⟨i,hi,e2⟩:=List.mem_iff_getElem.mp hp
 have h1:ps[i]? = some p:=by rw [List.getElem?_eq_getElem hi,e2]
 have h2:as[i]? = some (as[i]'(by omega)):=List.getElem?_eq_getElem _
 exact ⟨as,_,e,jm4 hn h1 h2,nr i p _ h1 h2⟩
theorem jl1 {f:Addr} {fd:FuncData} {f_is_whole:Addr} {d_is_whole:FuncData} (B:Blt mg) (D:DefAt K mg "is_place" (top 19) ["prices","thing"] f fd) (D_is_whole:DefAt K mg "is_whole" (top 1) ["thing"] f_is_whole d_is_whole) (G_is_whole:FnOk P w K mg base CX0 1 f_is_whole d_is_whole ["thing"] jdn):FnOk P w K mg base CX0 2 f fd ["prices","thing"] jrb:=by
 have sc:FnScope ["prices","thing"] ["prices","thing"] (jaf (top 19)):=⟨rfl,rfl,rfl,by decide +kernel,rfl,by decide +kernel,by decide +kernel⟩
 refine D.F.ok sc (fun vs H Q E h=>?_) (fun cdv A outer s H vs Q E hr h=>?_)
 ·obtain ⟨d,n,kvs,rfl,_⟩:=h
  rfl
 obtain ⟨d,n,kvs,rfl,ed,h⟩:=h
 unfold hasK at h
 have hu:=jbh hr
 have hu0:_ < PySem.cLine:=Nat.lt_of_succ_lt hu
 refine ⟨_,(ja6 (jah (jdm (ja7 G_is_whole (hr.mono (by decide)) rfl D_is_whole.m D_is_whole.F.kp D_is_whole.b .nil jap (ja0 (qv 1) ja3)) (jd9 (jof (jse hu (qv 1) (qv 0))))))),?_⟩
 walk_at "RD"
 refine ⟨_,.int,rfl,rfl,?_⟩
 simp_arith [jc5,ed]
 exact h
theorem jig {f:Addr} {fd:FuncData} {f_is_place:Addr} {d_is_place:FuncData} (B:Blt mg) (D:DefAt K mg "are_places" (top 20) ["prices","things"] f fd) (D_is_place:DefAt K mg "is_place" (top 19) ["prices","thing"] f_is_place d_is_place) (G_is_place:FnOk P w K mg base CX0 2 f_is_place d_is_place ["prices","thing"] jrb):FnOk P w K mg base CX0 3 f fd ["prices","things"] jnz:=by
 have sc:FnScope ["prices","things"] ["prices","things"] (jaf (top 20)):=⟨rfl,rfl,rfl,by decide +kernel,rfl,by decide +kernel,by decide +kernel⟩
 refine D.F.ok sc (fun vs H Q E h=>?_) (fun cdv A outer s H vs Q E hr h=>?_)
 ·obtain ⟨d,kvs,l,ns,rfl,_⟩:=h
  rfl
 obtain ⟨d,kvs,l,ns,rfl,ed,el,hl9,h⟩:=h
 have hu:=jbh hr
 have hu0:_ < PySem.cLine:=Nat.lt_of_succ_lt hu
 refine ⟨_,(ja6 (jah (jad (jqg rfl) rfl B.all PyProof.Rows.boot_all (ja0 (jbw (CpScope.of (N:=["thing","prices"]) (src:=[none,some 0]) (by rfl)) rfl (joc (qv 1)) (fun _ _ _ _=>(ja9 (i:=0) (jai (l:=["thing","prices"]) (by rfl)) rfl (Or.inl rfl))) (fun _ _ _ _=>jc3) (fun _ _ _ _=>(ja7 G_is_place (hr.mono (by decide)) rfl D_is_place.m D_is_place.F.kp D_is_place.b .nil jap (ja0 (qv 1) (ja0 (qv 0) ja3))))) ja3)))),?_⟩
 walk_at "RD"
 refine jas (Itt K l) H (fun R hR=>?_) (fun z hz0=>jay ns.length (fun i σ' Hc=>∃ w1,σ' = [w1,some (.ref d)]∧Same H Hc∧Hc z = some (.lst (((ns.take i).map fun n=>hasK kvs n).map V.bl))∧i ≤ 900) ⟨none,rfl,ja5 hz0 _,ja1,by omega⟩ ?_ ?_)
 ·unfold iTup
  walk_at "RD"
  exact ⟨l,rfl,⟨_,SqT.of el⟩,hR⟩
 ·rintro i σ' Hc hi ⟨w1,rfl,s2,ez,i9⟩
  have x1:(ns.map V.int)[i]? = some ((ns.map V.int)[i]'(by rw [List.length_map]; omega)):=List.getElem?_eq_getElem _
  refine ⟨⟨_,_,SqT.of (s2 _ _ el),x1⟩,?_⟩
  rintro y H' ⟨rfl,hy⟩
  obtain ⟨n,hn,rfl⟩:=jpc (hy _ (SqT.of (s2 _ _ el)))
  walk_at "RD"
  refine ⟨d,n,kvs,rfl,s2 _ _ ed,?_⟩
  refine ⟨_,ez,?_,_,rfl,jan s2 hz0,?_,by omega⟩
  ·rw [List.length_map,List.length_map,List.length_take]
   exact szl' (by omega)
  ·rw [ja1,jar hn,List.map_append,List.map_append]
   rfl
 ·rintro σ' Hc ⟨w1,rfl,s2,ez,_⟩
  refine ⟨⟨_,SqT.of (s2 _ _ el),by rw [List.length_map]; omega⟩,?_⟩
  rw [List.take_length] at ez
  simp_arith [ez]
  refine ⟨_,rfl,?_⟩
  rw [List.all_map]
  exact h Hc s2
end
end My
namespace My
open PySem L2
section
variable {P:Program} {w:World} {K:PySem.W.Frag} {mg:Str→Option Value} {base:Heap} {c1 c2 c3 c4:Tok} {C_NoWeb f_NoWeb:Addr} {dI:FuncData}
def jcs (ps:List (Int × Int)) (ds:List (Int × Int × Int)):List Int:=(ps.filter fun p=>decide (jaq ds p.1 < 2 * p.2)).map (·.1)
def jnp:Sp:=fun vs H Q _=>∃ v ps ts l zs ds,vs = [v,.ref l]∧jc4 H v ps ts∧WebOk ps ts∧H l = some (.lst zs)∧Tps H zs ds∧ds.length ≤ 200∧∀ r H',Same H H'→H' r = some (.lst ((jcs ps ds).map V.int))→Q (.ref r) H'
theorem jgx {ps:List (Int × Int)} {ds:List (Int × Int × Int)} {i:Nat} {q:Int × Int} (h:ps[i]? = some q):jcs (ps.take (i + 1)) ds = jcs (ps.take i) ds ++ (if jaq ds q.1 < 2 * q.2 then [q.1] else []):=by
 unfold jcs
 rw [jar h,List.filter_append,List.map_append]
 congr 1
 by_cases c:jaq ds q.1 < 2 * q.2
 ·simp [c]
 ·simp [c]
def mkI (ns:List Int):List (Key × V):=ns.map fun n=>(Sum.inl n,V.bl true)
theorem jow:∀ (ns:List Int) (n:Int),hasK (mkI ns) n = decide (n ∈ ns)
 | [],n=>rfl
 | m :: r,n=>by
  have ih:=jow r n
  unfold hasK valV mkI at ih ⊢
  rw [List.map_cons,List.find?_cons]
  by_cases c:m = n
  ·subst c
   simp
  ·have hd:decide ((Sum.inl m:Key) = Sum.inl n) = false:=decide_eq_false fun z=>c (Sum.inl.inj z)
   dsimp only
   rw [hd]
   rw [ih,Bool.eq_iff_iff,decide_eq_true_eq,decide_eq_true_eq,List.mem_cons]
   exact ⟨.inr,fun z=>z.resolve_left fun y=>c y.symm⟩
def jno:Sp:=fun vs H Q _=>∃ u,∃ ns:List Int,vs = [.ref u]∧H u = some (.lst (ns.map V.int))∧ns.Nodup∧ns.length ≤ 120∧∀ d H',H d = none→Same H H'→H' d = some (.dK (mkI ns))→Q (.ref d) H'
def jgb (ds:List (Int × Int × Int)) (a b:Int):Bool:=ds.any fun d=>(d.1 == a && d.2.1 == b) || (d.1 == b && d.2.1 == a)
def TiedD (kvs:List (List Key × V)) (ds:List (Int × Int × Int)):Prop:=∀ a b:Int,(valV kvs ([Sum.inl a,Sum.inl b]:List Key)).isSome = jgb ds a b
theorem jmg {ds:List (Int × Int × Int)} {i:Nat} {q:Int × Int × Int} (h:ds[i]? = some q) (a b:Int):jgb (ds.take (i + 1)) a b = (jgb (ds.take i) a b || ((q.1 == a && q.2.1 == b) || (q.1 == b && q.2.1 == a))):=by
 unfold jgb
 rw [jar h,List.any_append]
 simp
theorem jgf {κ:Type} [DecidableEq κ] (kvs:List (κ × V)) (k:κ) (v:V):(putK kvs k v).length ≤ kvs.length + 1:=by
 unfold putK
 split <;> simp
def jr9:Sp:=fun vs H Q _=>∃ l zs ds,vs = [.ref l]∧H l = some (.lst zs)∧Tps H zs ds∧ds.length ≤ 200∧∀ d kvs H',Same H H'→H' d = some (.dT kvs)→TiedD kvs ds→Q (.ref d) H'
theorem jgo {f:Addr} {fd:FuncData} {f_due_at:Addr} {d_due_at:FuncData} (B:Blt mg) (D:DefAt K mg "loose_places" (top 31) ["web","dues"] f fd) (D_due_at:DefAt K mg "due_at" (top 25) ["dues"] f_due_at d_due_at) (G_due_at:FnOk P w K mg base CX0 1 f_due_at d_due_at ["dues"] jkq):FnOk P w K mg base CX0 2 f fd ["web","dues"] jnp:=by
 have sc:FnScope ["web","dues","paid"] ["web","dues"] (jaf (top 31)):=⟨rfl,rfl,rfl,by decide +kernel,rfl,by decide +kernel,by decide +kernel⟩
 refine D.F.ok sc (fun vs H Q E h=>?_) (fun cdv A outer s H vs Q E hr h=>?_)
 ·obtain ⟨v,ps,ts,l,zs,ds,rfl,_⟩:=h
  rfl
 obtain ⟨v,ps,ts,l,zs,ds,rfl,hw,wk,el,pd,hl,h⟩:=h
 obtain ⟨u,pa,ta,xs,ys,rfl,hu1,hpa,hta,hxs,hys⟩:=hw
 have hu:=jbh hr
 have hu0:_ < PySem.cLine:=Nat.lt_of_succ_lt hu
 refine ⟨_,(ja2 (jak (i:=2) sc.nd rfl (Or.inr rfl) (ja7 G_due_at (hr.mono (by decide)) rfl D_due_at.m D_due_at.F.kp D_due_at.b .nil jap (ja0 (qv 1) ja3))) (ja6 (jah (jbw (CpScope.of (N:=["place","price","paid"]) (src:=[none,none,some 2]) (by rfl)) rfl (jaw (jac q_ix (qv 0) ja4 (fun _ _=>rfl))) (fun _ _ _ _=>(jcd (n:=2) rfl (jag (ja9 (i:=0) (jai (l:=["place","price","paid"]) (by rfl)) rfl (Or.inl rfl)) (jag (ja9 (i:=1) (jai (l:=["place","price","paid"]) (by rfl)) rfl (Or.inl rfl)) jbf)))) (fun _ _ _ _=>(jd4 (jao q_lt (je9 hu (qv 2) (qv 0) ja4) (jau je3 ja4 (qv 1)) (jam _)))) (fun _ _ _ _=>(qv 0)))))),?_⟩
 have hlx:xs.length = ps.length:=Paired.length hxs
 have hpl:=wk.pl
 walk_at "RD"
 refine ⟨l,zs,ds,rfl,el,pd,hl,fun d kvs H1 s1 ed pk=>?_⟩
 walk_at "RD"
 refine jas (Itl K pa) H1 (fun R hR=>?_) (fun z hz0=>jay ps.length (fun i σ' Hc=>∃ w1 w2,σ' = [w1,w2,some (.ref d)]∧Same H1 Hc∧Hc z = some (.lst ((jcs (ps.take i) ds).map V.int))) ⟨none,none,rfl,ja5 hz0 _,ja1⟩ ?_ ?_)
 ·unfold jbz
  simp_arith [jaj,s1 _ _ hu1,at0]
  exact ⟨pa,rfl,⟨_,SqL.of (s1 _ _ hpa)⟩,hR⟩
 ·rintro i σ' Hc hi ⟨w1,w2,rfl,s2,ez⟩
  have s3:=s1.trans s2
  have x1:xs[i]? = some (xs[i]'(by omega)):=List.getElem?_eq_getElem _
  have z1:SqL K Hc pa xs:=SqL.of (s3 _ _ hpa)
  refine ⟨⟨_,_,z1,x1⟩,?_⟩
  rintro y H' ⟨rfl,hy⟩
  obtain ⟨q,hq,pq⟩:=jaa hxs (hy _ z1)
  obtain ⟨t,rfl,ht⟩:=pq.same s3
  have ed2:=s2 _ _ ed
  have lt:=jgx (ds:=ds) hq
  have hlz:(jcs (ps.take i) ds).length ≤ 40:=by
   unfold jcs
   rw [List.length_map]
   have:=List.length_filter_le (fun p:Int × Int=>decide (jaq ds p.1 < 2 * p.2)) (ps.take i)
   rw [List.length_take] at this
   omega
  simp_arith [ht]
  refine ⟨⟨kvs,ed2⟩,?_⟩
  simp only [ed2,pk.get]
  refine ⟨cmL (by decide) (by decide),?_⟩
  by_cases c:jaq ds q.1 < 2 * q.2
  ·rw [if_pos c] at lt
   simp only [decide_eq_true c,if_true]
   refine ⟨_,ez,by rw [List.length_map]; exact szl' (by omega),_,_,rfl,jan s2 hz0,?_⟩
   rw [ja1,lt,List.map_append]
   rfl
  ·rw [if_neg c,List.append_nil] at lt
   simp only [decide_eq_false c,Bool.false_eq_true,if_false]
   exact ⟨_,_,rfl,s2,by rw [lt]; exact ez⟩
 ·rintro σ' Hc ⟨w1,w2,rfl,s2,ez⟩
  rw [List.take_length] at ez
  refine ⟨⟨_,SqL.of ((s1.trans s2) _ _ hpa),by omega⟩,?_⟩
  exact h z Hc (s1.trans s2) ez
theorem jmp {f:Addr} {fd:FuncData}  (B:Blt mg) (D:DefAt K mg "marked" (top 5) ["places"] f fd):FnOk P w K mg base CX0 1 f fd ["places"] jno:=by
 have sc:FnScope ["places"] ["places"] (jaf (top 5)):=⟨rfl,rfl,rfl,by decide +kernel,rfl,by decide +kernel,by decide +kernel⟩
 refine D.F.ok sc (fun vs H Q E h=>?_) (fun cdv A outer s H vs Q E hr h=>?_)
 ·obtain ⟨u,ns,rfl,_⟩:=h
  rfl
 obtain ⟨u,ns,rfl,eu,nd,hl,h⟩:=h
 have hu:=jbh hr
 have hu0:_ < PySem.cLine:=Nat.lt_of_succ_lt hu
 refine ⟨_,(ja6 (jah (jb5 (jgd rfl) rfl B.dict PyProof.Rows.boot_dict (ja0 (jbw (CpScope.of (N:=["place"]) (src:=[none]) (by rfl)) rfl (jaw (qv 0)) (fun _ _ _ _=>(ja9 (i:=0) (jai (l:=["place"]) (by rfl)) rfl (Or.inl rfl))) (fun _ _ _ _=>jc3) (fun _ _ _ _=>(jaz (ja0 (qv 0) (ja0 jbd ja3))))) ja3)))),?_⟩
 walk_at "RD"
 refine jas (Itl K u) H (fun R hR=>?_) (fun l hl0=>jay ns.length (fun i σ' Hc=>∃ w1 zs,σ' = [w1]∧Same H Hc∧Hc l = some (.lst zs)∧Paired (PairAt Hc) zs (mkI (ns.take i))) ⟨none,[],rfl,ja5 hl0 _,ja1,.nil⟩ ?_ ?_)
 ·unfold jbz
  walk_at "RD"
  exact ⟨u,rfl,⟨_,SqL.of eu⟩,hR⟩
 ·rintro i σ' Hc hi ⟨w1,zs,rfl,s2,ez,pz⟩
  have x1:ns[i]? = some ns[i]:=List.getElem?_eq_getElem hi
  have X1:(ns.map V.int)[i]? = some (.int ns[i]):=by rw [List.getElem?_map,x1]; rfl
  have hlz:zs.length = (mkI (ns.take i)).length:=Paired.length pz
  have hlz2:zs.length ≤ i:=by
   rw [hlz,mkI,List.length_map,List.length_take]
   omega
  refine ⟨⟨_,_,SqL.of (s2 _ _ eu),X1⟩,?_⟩
  rintro y H' ⟨rfl,hy⟩
  have E1:V.int ns[i] = y:=Option.some.inj (X1.symm.trans (hy _ (SqL.of (s2 _ _ eu))))
  subst E1
  walk_at "RD"
  intro t ht
  have ez2:=ja5 ht (.tup [.int ns[i],.bl true]) _ _ ez
  have t6:=jb2 (ys:=zs ++ [.ref t]) ez2
  refine ⟨zs,ez2,szl' (by omega),_,zs ++ [.ref t],rfl,jan (s2.trans (ja5 ht _)) hl0,(by first | rfl | exact ja1),?_⟩
  rw [jar x1,mkI,List.map_append]
  refine jav (Paired.mapP pz fun v p q=>?_) ?_
  ·obtain ⟨b,e,q⟩:=q
   exact ⟨b,e,t6 _ _ rfl (ja5 ht _ _ _ q)⟩
  ·exact ⟨t,rfl,t6 _ _ rfl ja1⟩
 ·rintro σ' Hc ⟨w1,zs,rfl,s2,ez,pz⟩
  refine ⟨⟨_,SqL.of (s2 _ _ eu),by rw [List.length_map]; exact Nat.le_refl _⟩,?_⟩
  rw [List.take_length] at pz
  have hlz:zs.length = (mkI ns).length:=Paired.length pz
  rw [mkI,List.length_map] at hlz
  simp_arith [ez]
  refine ⟨mkI ns,pz,by omega,?_,fun d hd=>h d _ (s2.free hd) (s2.trans (ja5 hd _)) ja1⟩
  unfold mkI
  rw [List.map_map]
  have e:((fun (x:Key × V)=>x.1) ∘ fun (n:Int)=>((Sum.inl n:Key),V.bl true)) = fun (n:Int)=>(Sum.inl n:Key):=rfl
  rw [e]
  unfold List.Nodup at nd ⊢
  rw [List.pairwise_map]
  exact nd.imp fun q z=>q (Sum.inl.inj z)
theorem jgl {f:Addr} {fd:FuncData}  (B:Blt mg) (D:DefAt K mg "tied_by_dues" (top 32) ["dues"] f fd):FnOk P w K mg base CX0 1 f fd ["dues"] jr9:=by
 have sc:FnScope ["dues","tied","one","other","amount"] ["dues"] (jaf (top 32)):=⟨rfl,rfl,rfl,by decide +kernel,rfl,by decide +kernel,by decide +kernel⟩
 refine D.F.ok sc (fun vs H Q E h=>?_) (fun cdv A outer s H vs Q E hr h=>?_)
 ·obtain ⟨l,zs,ds,rfl,_⟩:=h
  rfl
 obtain ⟨l,zs,ds,rfl,el,pd,hl,h⟩:=h
 have hu:=jbh hr
 have hu0:_ < PySem.cLine:=Nat.lt_of_succ_lt hu
 refine ⟨_,(ja2 (jak (i:=1) sc.nd rfl (Or.inl rfl) jqk) (ja2 (jbm PassesOwn.never rfl (jaw (qv 0)) (jcd (n:=3) rfl (jag (ja9 (i:=2) sc.nd rfl (Or.inl rfl)) (jag (ja9 (i:=3) sc.nd rfl (Or.inl rfl)) (jag (ja9 (i:=4) sc.nd rfl (Or.inl rfl)) jbf)))) (ja2 (jo9 hu (qv 1) (jaz (ja0 (qv 2) (ja0 (qv 3) ja3))) jbd rfl) (ja6 (jo9 hu (qv 1) (jaz (ja0 (qv 3) (ja0 (qv 2) ja3))) jbd rfl)))) (ja6 (jah (qv 1))))),?_⟩
 refine ja8 fun R hR=>?_
 walk_at "RD"
 intro d hd
 subst hR
 refine ja8 fun R hR=>?_
 refine jb0 (Itl K l) _ (fun R' hR'=>?_) (jby (K:=K) (a:=l) (xs:=zs) (fun i σ Hc=>∃ v1 v2 v3 kvs,σ = [some (.ref l),some (.ref d),v1,v2,v3]∧Same H Hc∧Hc d = some (.dT kvs)∧TiedD kvs (ds.take i)∧kvs.length ≤ 2 * i) ⟨none,none,none,[],rfl,ja5 hd _,ja1,(fun a b=>rfl),Nat.le_refl _⟩ (fun i σ Hc _ ⟨_,_,_,_,_,s3,_⟩=>SqL.of (s3 _ _ el)) ?_ ?_)
 ·unfold jbz
  walk_at "RD"
  exact ⟨l,rfl,⟨_,SqL.of (ja5 hd _ _ _ el)⟩,hR'⟩
 ·rintro i x σ Hc hx ⟨v1,v2,v3,kvs,rfl,s3,ed,td,hk⟩
  obtain ⟨q,hq,pq⟩:=jaa pd hx
  obtain ⟨t,rfl,ht⟩:=Tp.tups pq s3.tups
  have hi:=(List.getElem?_eq_some_iff.mp hq).1
  simp_arith [ht,sDPut]
  intro t1 ht1
  have q1:=ja5 ht1 (.tup [.int q.1,.int q.2.1])
  have f1:upd Hc t1 (.tup [.int q.1,.int q.2.1]) t1 = some (.tup (([Sum.inl q.1,Sum.inl q.2.1]:List Key).map kV)):=ja1
  have ed1:=q1 _ _ ed
  generalize upd Hc t1 (.tup [.int q.1,.int q.2.1]) = H1 at q1 f1 ed1
  refine ⟨d,_,rfl,DPut.t ed1 f1 (szl' (by omega)),?_⟩
  have s4:=jan (s3.trans q1) hd (o:=.dT (putK kvs [Sum.inl q.1,Sum.inl q.2.1] (.bl true)))
  have ed3:upd H1 d (.dT (putK kvs ([Sum.inl q.1,Sum.inl q.2.1]:List Key) (.bl true))) d = some (.dT (putK kvs [Sum.inl q.1,Sum.inl q.2.1] (.bl true))):=ja1
  generalize upd H1 d (.dT (putK kvs ([Sum.inl q.1,Sum.inl q.2.1]:List Key) (.bl true))) = H2 at s4 ed3
  intro t2 ht2
  have q2:=ja5 ht2 (.tup [.int q.2.1,.int q.1])
  have f2:upd H2 t2 (.tup [.int q.2.1,.int q.1]) t2 = some (.tup (([Sum.inl q.2.1,Sum.inl q.1]:List Key).map kV)):=ja1
  have ed4:=q2 _ _ ed3
  generalize upd H2 t2 (.tup [.int q.2.1,.int q.1]) = H3 at q2 f2 ed4
  have hp1:=jgf kvs ([Sum.inl q.1,Sum.inl q.2.1]:List Key) (.bl true)
  have hp2:=jgf (putK kvs ([Sum.inl q.1,Sum.inl q.2.1]:List Key) (.bl true)) ([Sum.inl q.2.1,Sum.inl q.1]:List Key) (.bl true)
  refine ⟨d,_,rfl,DPut.t ed4 f2 (szl' (by omega)),_,_,_,_,rfl,jan (s4.trans q2) hd,ja1,?_,by omega⟩
  intro a b
  rw [jfu,jfu,jmg hq,← td a b]
  by_cases c2:([Sum.inl a,Sum.inl b]:List Key) = [Sum.inl q.2.1,Sum.inl q.1]
  ·rw [if_pos c2]
   injection c2 with c3 c4
   injection c4 with c4 _
   have:=Sum.inl.inj c3
   have:=Sum.inl.inj c4
   subst_vars
   simp
  ·rw [if_neg c2]
   by_cases c1:([Sum.inl a,Sum.inl b]:List Key) = [Sum.inl q.1,Sum.inl q.2.1]
   ·rw [if_pos c1]
    injection c1 with c3 c4
    injection c4 with c4 _
    have:=Sum.inl.inj c3
    have:=Sum.inl.inj c4
    subst_vars
    simp
   ·rw [if_neg c1]
    have n1:(q.1 == a && q.2.1 == b) = false:=Bool.eq_false_iff.mpr fun z=>c1 (by rw [Bool.and_eq_true] at z; rw [eq_of_beq z.1,eq_of_beq z.2])
    have n2:(q.1 == b && q.2.1 == a) = false:=Bool.eq_false_iff.mpr fun z=>c2 (by rw [Bool.and_eq_true] at z; rw [eq_of_beq z.1,eq_of_beq z.2])
    rw [n1,n2]
    simp
 ·rintro σ Hc ⟨v1,v2,v3,kvs,rfl,s3,ed,td,hk⟩
  have hlz:zs.length = ds.length:=Paired.length pd
  rw [hlz,List.take_length] at td
  subst hR
  walk_at "RD"
  exact h d kvs Hc s3 ed td
end
end My
namespace HT
open PySem PyProof.Rows
open PySem.SeqAt
open PySem.AutoSeq1 (wpAny_loadPart')
open PySem.MeetsSeq PySem.MeetsSeq2 PySem.MeetsSeq3
section
variable {prog:Program} {w:World} {A:Around} {E:Value→Shared→Prop} {s:Shared}
theorem getItem_tuple_all {t sl:Addr} {items:Array Value} {vl vu:Value} {lo hi:Option Int} {Q:Value→Shared→Prop} (ht:IsTup s.heap t items) (hs:s.heap.IsSliceOf sl vl vu .none) (pl:IsPart vl lo) (pu:IsPart vu hi)
  (hw:sIx items.size 0 lo = 0∧sIx items.size items.size hi = items.size) (h:Q (.ref t) s):wpAny (model prog w) A (getItem (.ref t) (.ref sl)) Q E s:=by
 have hj:sIx items.size items.size hi ≤ items.size:=jre _ _ (Nat.le_refl _) hi
 obtain ⟨os,hos,hcs,hds⟩:=id hs
 have hTs:s.TypeIs (.ref sl) "slice":=⟨os,hos,hcs⟩
 unfold getItem
 try with_reducible refine wpAny_holding ?_
 first | refine wpAny_bind (wpAny_pure ?_) | skip
 refine wpAny_bind (wpAny_sequenceKey ht.typeIs (by decide) ?_)
 refine wpAny_bind (wpAny_callSpecial?_slot (name:=Str.ofString "__getitem__") ht.typeIs PyProof.Rows.slot_tuple_getitem
  (wpAny_call_entry PyProof.Rows.slot_tuple_getitem ht.typeIs entry_tuple_getitem ?_ (args_tuple_getitem _ _)))
 show wpAny _ _ (Builtin.Tuple.tupleItemsOf (.ref t) >>= _) _ _ s
 refine wpAny_bind (tupleItemsOf_ ht ?_)
 refine wpAny_bind (wpAny_typeOf hTs ?_)
 rw [if_pos (by decide)]
 refine wpAny_bind (jdk hs pl pu ?_)
 have hyes:(((sIx items.size 0 lo:Nat):Int) == 0 && (1:Int) == 1 && (sIx items.size items.size hi - sIx items.size 0 lo) == items.size) = true:=by
  rw [hw.1,hw.2,Nat.sub_zero]
  simp
 show wpAny _ _ (if (((sIx items.size 0 lo:Nat):Int) == 0 && (1:Int) == 1 && (sIx items.size items.size hi - sIx items.size 0 lo) == items.size) = true then _ else _) _ _ s
 rw [if_pos hyes]
 refine wpAny_bind ?_
 unfold Builtin.Tuple.tupleIsExact
 refine wpAny_bind (wpAny_typeOf ht.typeIs (wpAny_pure ?_))
 rw [if_pos (by decide)]
 refine wpAny_bind (wpAny_rule ?_)
 first
  | exact wpAny_pure ⟨_,rfl,wpAny_pure h⟩
  | exact wpAny_bind (wpAny_pure (wpAny_pure ⟨_,rfl,wpAny_pure h⟩))
  | exact wpAny_bind (wpAny_pure ⟨_,rfl,wpAny_pure h⟩)
end
end HT
namespace L2
open PySem PySem.Spec PyProof.Rows
section
variable {X:Cx}
def rSlA:V→Option Int→Option Int→Hp→VK→Prop:=fun x lo hi H Q=>∃ a xs,x = .ref a∧H a = some (.tup xs) ∧
 ((HT.sIx xs.length 0 lo = 0∧HT.sIx xs.length xs.length hi = xs.length)→Q (.ref a) H) ∧
 (¬ (HT.sIx xs.length 0 lo = 0∧HT.sIx xs.length xs.length hi = xs.length)→∀ p,H p = none→Q (.ref p) (upd H p (.tup (cutV xs lo hi))))
theorem q_slA:SlR X rSlA:=by
 intro pins s σ H x v vl vu lo hi sl Q I rx hs pl pu h
 obtain ⟨a,xs,rfl,hx,q1,q2⟩:=h
 by_cases c:HT.sIx xs.length 0 lo = 0∧HT.sIx xs.length xs.length hi = xs.length
 ·cases rx
  obtain ⟨its,r,ht,hz⟩:=I.tuple (SqT.of (K:=X.K) hx)
  have hlen:its.toArray.size = xs.length:=by rw [List.size_toArray]; exact r.length.symm
  refine ⟨"tuple",_,PyProof.Rows.slot_tuple_getitem.lookup,ht.typeIs,?_⟩
  exact HT.getItem_tuple_all ht hs pl pu (by rw [hlen]; exact c) ⟨.ref a,H,I,rfl,q1 c⟩
 ·exact jrd pins s σ H _ v vl vu lo hi sl Q I rx hs pl pu ⟨a,xs,rfl,SqT.of hx,c,q2 c⟩
end
end L2
namespace My
open PySem L2
section
variable {P:Program} {w:World} {K:PySem.W.Frag} {mg:Str→Option Value} {base:Heap} {c1 c2 c3 c4:Tok} {C_NoWeb f_NoWeb:Addr} {dI:FuncData}
abbrev Lk:=Option Str × List Int
def lkV (x:Lk):List V:=(match x.1 with | some w=>[V.str w] | none=>[]) ++ x.2.map V.int
def LkAt (H:Hp) (v:V) (x:Lk):Prop:=∃ t,v = .ref t∧H t = some (.tup (lkV x))
theorem LkAt.tups {H H':Hp} {v:V} {x:Lk} (h:LkAt H v x) (s:TupS H H'):LkAt H' v x:=let ⟨t,e,q⟩:=h; ⟨t,e,s _ _ rfl q⟩
abbrev wL:Str:=Str.ofString "loose"
abbrev wB:Str:=Str.ofString "beside"
abbrev wT:Str:=Str.ofString "tight"
def jef (ps ts:List (Int × Int)):Lk→Bool
 | (some w,[p])=>decide (p ∈ ps.map (·.1)) && decide (w = wL)
 | (some w,[u,v])=>decide (u ∈ ps.map (·.1)) && decide (v ∈ ps.map (·.1)) && ((decide (w = wB) || decide (w = wT)) && decide (v ∈ jes ts u))
 | _=>false
theorem jp0 (w:Str) (ns:List Int):(lkV (some w,ns)).length = ns.length + 1:=by simp [lkV]
theorem jsu (w a b:Str):inV (V.str w) [V.str a,V.str b] = (decide (w = a) || decide (w = b)):=by
 have e:∀ x:Str,(x == w) = decide (w = x):=fun x=>by
  by_cases c:w = x
  ·subst c; simp
  ·rw [decide_eq_false c]; exact beq_false_of_ne (Ne.symm c)
 show ((a == w) || ((b == w) || false)) = _
 rw [e,e,Bool.or_false]
def jra:Sp:=fun vs H Q _=>∃ d v ps ts x,vs = [.ref d,v]∧NrAt H d ps ts∧WebOk ps ts∧LkAt H v x∧x.2.length ≤ 8∧∀ H',Same H H'→Q (.bl (jef ps ts x)) H'
theorem jik {ps ts:List (Int × Int)} {x:Lk} (h:x.1 = none ∨ x.2 = [] ∨ 3 ≤ x.2.length):jef ps ts x = false:=by
 obtain ⟨w,ns⟩:=x
 rcases h with h | h | h
 ·cases h; rfl
 ·cases h; cases w <;> rfl
 ·match w,ns,h with
  | none,_,_=>rfl
  | some _,_ :: _ :: _ :: _,_=>rfl
theorem jmo {f:Addr} {fd:FuncData} {f_are_places:Addr} {d_are_places:FuncData} (B:Blt mg) (D:DefAt K mg "is_link" (top 33) ["nears","thing"] f fd) (D_are_places:DefAt K mg "are_places" (top 20) ["prices","things"] f_are_places d_are_places) (G_are_places:FnOk P w K mg base CX0 3 f_are_places d_are_places ["prices","things"] jnz):FnOk P w K mg base CX0 4 f fd ["nears","thing"] jra:=by
 have sc:FnScope ["nears","thing"] ["nears","thing"] (jaf (top 33)):=⟨rfl,rfl,rfl,by decide +kernel,rfl,by decide +kernel,by decide +kernel⟩
 refine D.F.ok sc (fun vs H Q E h=>?_) (fun cdv A outer s H vs Q E hr h=>?_)
 ·obtain ⟨d,v,ps,ts,x,rfl,_⟩:=h
  rfl
 obtain ⟨d,v,ps,ts,x,rfl,hn,wk,hx,hl,h⟩:=h
 obtain ⟨t,rfl,et⟩:=hx
 obtain ⟨w,ns⟩:=x
 have hu:=jbh hr
 have hu0:_ < PySem.cLine:=Nat.lt_of_succ_lt hu
 refine ⟨_,(ja2 (jb1 (PW.pt (jcx (jb4 (jb6 (jad (jdl .tup) rfl B.isinstance PyProof.Rows.boot_isinstance (ja0 (qv 1) (ja0 (jbq (v:=.ty "tuple") rfl B.tuple PyProof.Rows.boot_tuple rfl) ja3))))) (jcx (jb4 (jlu q_le q_le ja4 (jad jcj rfl B.len PySem.boot_len (ja0 (qv 1) ja3)) ja4)) (jco (jb4 (jb6 (jad (jdl .str) rfl B.isinstance PyProof.Rows.boot_isinstance (ja0 (jac q_ix (qv 1) ja4 (fun _ _=>rfl)) (ja0 (jbq (v:=.ty "str") rfl B.str PyProof.Rows.boot_str rfl) ja3))))))))) (ja6 (jah jbd)) jal) (ja2 (jb1 (jb4 (jb6 (ja7 G_are_places (hr.mono (by decide)) rfl D_are_places.m D_are_places.F.kp D_are_places.b .nil jap (ja0 (qv 0) (ja0 (jb3 jf6 (qv 1) (jbe ja4) jbg) ja3))))) (ja6 (jah jbd)) jal) (ja2 (jb1 (jao q_eq (jad jcj rfl B.len PySem.boot_len (ja0 (qv 1) ja3)) ja4 (jam _)) (ja6 (jah (jbn q_eq (jac q_ix (qv 1) ja4 (fun _ _=>rfl)) jcp (jam _)))) jal) (ja6 (jah (jdm (jbn jks (jac q_ix (qv 1) ja4 (fun _ _=>rfl)) (jaz (ja0 jcp (ja0 jcp ja3))) (by with_unfolding_all rfl)) (jd9 (jbn jks (jac q_ix (qv 1) ja4 (fun _ _=>rfl)) (je7 hu (qv 0) (jac q_ix (qv 1) ja4 (fun _ _=>rfl)) (fun _ _=>rfl)) (by with_unfolding_all rfl))))))))),?_⟩
 have hkt:kd H (.ref t) = some .tup:=by unfold kd; dsimp only; rw [et]
 refine ja8 fun R hR=>?_
 simp_arith [hkt,isi,jaj,et]
 have hb:=h H (Same.refl _)
 by_cases c1:(2:Int) ≤ ((lkV (w,ns)).length:Int)
 ·simp only [decide_eq_true c1,if_true]
  by_cases c2:((lkV (w,ns)).length:Int) ≤ 3
  ·simp only [decide_eq_true c2,Bool.not_true,Bool.false_eq_true,if_false]
   cases w with
   | none =>
    rw [jik (.inl rfl)] at hb
    cases ns with
    | nil=>simp [lkV] at c1
    | cons n r =>
     simp only [lkV,List.nil_append,List.map_cons,at0,kd,Bool.not_false,if_true]
     exact hb
   | some w =>
    clear hb
    match ns,c1,c2,hl,et,h with
    | [],c1,_,_,_,_=>simp [lkV] at c1
    | [p],_,_,_,et,h =>
     simp only [lkV,List.cons_append,List.nil_append,List.map_cons,List.map_nil] at et ⊢
     simp only [at0,kd,Bool.not_true,Bool.false_eq_true,if_false]
     subst hR
     refine ja8 fun R hR=>?_
     simp_arith [et]
     refine ⟨(fun z=>by cases z.1),fun p1 hp1=>?_⟩
     rw [show cutV [V.str w,V.int p] (some 1) none = [V.int p] from rfl]
     have q1:=ja5 hp1 (.tup ([V.int p]))
     have e1:upd H p1 (.tup ([V.int p])) p1 = some (.tup ([p].map V.int)):=ja1
     generalize upd H p1 (.tup ([V.int p])) = H1 at q1 e1
     obtain ⟨as,ed,la,nr⟩:=id (hn.same q1)
     refine ⟨d,_,p1,[p],rfl,ed,e1,by simp only [List.length_cons,List.length_nil]; omega,fun H2 q2=>?_⟩
     have q3:=q1.trans q2
     have hk:([p].all fun n=>hasK (kz ps as) n) = decide (p ∈ ps.map (·.1)):=by simp only [List.all_cons,List.all_nil,jrr la,Bool.and_true]
     rw [hk]
     have hb:=h H2 q3
     simp only [jef] at hb
     cases c3:decide (p ∈ ps.map (·.1)) with
     | false =>
      simp only [c3,Bool.false_and] at hb
      walk_at "RD"
      exact hb
     | true =>
      simp only [c3,Bool.true_and] at hb
      simp only [Bool.not_true,Bool.false_eq_true,if_false]
      subst hR
      simp_arith [jaj,q3 _ _ et,at0]
      exact hb
    | [u,v],_,_,_,et,h =>
     simp only [lkV,List.cons_append,List.nil_append,List.map_cons,List.map_nil] at et ⊢
     simp only [at0,kd,Bool.not_true,Bool.false_eq_true,if_false]
     subst hR
     refine ja8 fun R hR=>?_
     simp_arith [et]
     refine ⟨(fun z=>by cases z.1),fun p1 hp1=>?_⟩
     rw [show cutV [V.str w,V.int u,V.int v] (some 1) none = [V.int u,V.int v] from rfl]
     have q1:=ja5 hp1 (.tup ([V.int u,V.int v]))
     have e1:upd H p1 (.tup ([V.int u,V.int v])) p1 = some (.tup ([u,v].map V.int)):=ja1
     generalize upd H p1 (.tup ([V.int u,V.int v])) = H1 at q1 e1
     obtain ⟨as,ed,la,nr⟩:=id (hn.same q1)
     refine ⟨d,_,p1,[u,v],rfl,ed,e1,by simp only [List.length_cons,List.length_nil]; omega,fun H2 q2=>?_⟩
     have q3:=q1.trans q2
     have hk:([u,v].all fun n=>hasK (kz ps as) n) = (decide (u ∈ ps.map (·.1)) && decide (v ∈ ps.map (·.1))):=by simp only [List.all_cons,List.all_nil,jrr la,Bool.and_true]
     rw [hk]
     have hb:=h H2 q3
     simp only [jef] at hb
     cases c3:(decide (u ∈ ps.map (·.1)) && decide (v ∈ ps.map (·.1))) with
     | false =>
      simp only [c3,Bool.false_and] at hb
      walk_at "RD"
      exact hb
     | true =>
      simp only [c3,Bool.true_and] at hb
      simp only [Bool.not_true,Bool.false_eq_true,if_false]
      have hu2:=of_decide_eq_true ((Bool.and_eq_true _ _).mp c3).1
      subst hR
      simp_arith [jaj,q3 _ _ et,at0,at1,at2]
      rw [if_neg (by first | decide | simp)]
      intro p2 hp2
      have q4:=ja5 hp2 (.tup [V.str (Str.ofString "beside"),V.str (Str.ofString "tight")])
      have e2:upd H2 p2 (.tup [V.str (Str.ofString "beside"),V.str (Str.ofString "tight")]) p2 = some (.tup [V.str (Str.ofString "beside"),V.str (Str.ofString "tight")]):=ja1
      generalize upd H2 p2 (.tup [V.str (Str.ofString "beside"),V.str (Str.ofString "tight")]) = H3 at q4 e2
      have q5:=q3.trans q4
      have hb:=h H3 q5
      simp only [jef,c3,Bool.true_and] at hb
      simp only [e2]
      refine ⟨rfl,rfl,?_⟩
      rw [show inV (V.str w) [V.str (Str.ofString "beside"),V.str (Str.ofString "tight")] = (decide (w = wB) || decide (w = wT)) from jsu w _ _]
      cases c4:(decide (w = wB) || decide (w = wT)) with
      | false =>
       simp only [c4,Bool.false_and] at hb
       simp only [Bool.false_eq_true,if_false]
       exact hb
      | true =>
       simp only [c4,Bool.true_and] at hb
       obtain ⟨as',a',ed',ev',ea'⟩:=(hn.same q5).get wk.p.nodup hu2
       simp only [if_true,q5 _ _ et,at2,at1,ed',ev',ea',jez,je5,jex,true_and]
       exact hb
    | _ :: _ :: _ :: _,_,c2,_,_,_=>simp [lkV] at c2; omega
  ·simp only [decide_eq_false c2,Bool.not_false,if_true]
   rw [jik (by cases w with | none=>exact .inl rfl | some w=>have:=jp0 w ns; exact .inr (.inr (by show 3 ≤ ns.length; omega)))] at hb
   exact hb
 ·simp only [decide_eq_false c1,Bool.false_eq_true,if_false]
  rw [jik (by cases w with | none=>exact .inl rfl | some w=>have:=jp0 w ns; exact .inr (.inl (List.length_eq_zero_iff.mp (show ns.length = 0 by omega))))] at hb
  exact hb
end
end My
namespace My
open PySem L2
section
variable {P:Program} {w:World} {K:PySem.W.Frag} {mg:Str→Option Value} {base:Heap} {c1 c2 c3 c4:Tok} {C_NoWeb f_NoWeb:Addr} {dI:FuncData}
abbrev Lks (H:Hp) (xs:List V) (c:List Lk):Prop:=Paired (LkAt H) xs c
theorem Lks.tups {H H':Hp} {xs:List V} {c:List Lk} (h:Lks H xs c) (s:TupS H H'):Lks H' xs c:=Paired.mapP h fun _ _ q=>q.tups s
def jfc (x:Lk):Int:=x.2.getLastD 0
def okB (ps ts:List (Int × Int)) (ds:List (Int × Int × Int)) (ins outs:List Int) (x:Lk):Bool:=jef ps ts x && (match x with
 | (some w,[p])=>decide (p ∈ jcs ps ds)
 | (some w,[u,v])=>if w = wB then decide (u ∈ outs) else decide (u ∈ ins) && jgb ds u v
 | _=>false)
def jb7 (ps ts:List (Int × Int)) (ds:List (Int × Int × Int)):List Int→List Int→List Lk→Bool
 | _,_,[]=>true
 | ins,outs,x :: r=>okB ps ts ds ins outs x && (if x.1 = some wB then jb7 ps ts ds (jfc x :: ins) outs r else jb7 ps ts ds ins (jfc x :: outs) r)
def HasI (kvs:List (Key × V)) (ns:List Int):Prop:=∀ n:Int,hasK kvs n = decide (n ∈ ns)
theorem HasI.put {kvs:List (Key × V)} {ns:List Int} (h:HasI kvs ns) (m:Int):HasI (putK kvs (Sum.inl m) (.bl true)) (m :: ns):=fun n=>by
 unfold hasK
 rw [jfu]
 by_cases c:n = m
 ·subst c
  simp
 ·rw [if_neg fun z=>c (Sum.inl.inj z)]
  have:=h n
  unfold hasK at this
  rw [this,Bool.eq_iff_iff,decide_eq_true_eq,decide_eq_true_eq,List.mem_cons]
  exact ⟨.inr,fun z=>z.resolve_left c⟩
theorem jdi {ps ts:List (Int × Int)} {x:Lk} (h:jef ps ts x = true):(∃ p,x = (some wL,[p])) ∨ (∃ u v,x = (some wB,[u,v])) ∨ ∃ u v,x = (some wT,[u,v]):=by
 unfold jef at h
 split at h
 ·rw [Bool.and_eq_true,decide_eq_true_eq,decide_eq_true_eq] at h
  rename_i w p
  exact .inl ⟨p,by rw [h.2]⟩
 ·rename_i w u v
  simp only [Bool.and_eq_true,Bool.or_eq_true,decide_eq_true_eq] at h
  rcases h.2.1 with z | z
  ·exact .inr (.inl ⟨u,v,by rw [z]⟩)
  ·exact .inr (.inr ⟨u,v,by rw [z]⟩)
 ·cases h
theorem nLB:(wL = wB) = False:=eq_false (by decide +kernel)
theorem nLT:(wL = wT) = False:=eq_false (by decide +kernel)
theorem nBL:(wB = wL) = False:=eq_false (by decide +kernel)
theorem nBT:(wB = wT) = False:=eq_false (by decide +kernel)
theorem nTL:(wT = wL) = False:=eq_false (by decide +kernel)
theorem nTB:(wT = wB) = False:=eq_false (by decide +kernel)
theorem atL2 {x y:V}:atI [x,y] (-1) = some y:=jg7 [x] y
theorem atL3 {x y z:V}:atI [x,y,z] (-1) = some z:=jg7 [x,y] z
def jnw:Sp:=fun vs H Q _=>∃ v ps ts l zs ds ch xs c,vs = [v,.ref l,.ref ch]∧jc4 H v ps ts∧WebOk ps ts∧H l = some (.lst zs)∧Tps H zs ds∧ds.length ≤ 200∧H ch = some (.lst xs)∧Lks H xs c∧c.length ≤ 200∧(∀ x ∈ c,x.2.length ≤ 8)∧∀ H',Same H H'→Q (.bl (jb7 ps ts ds [] [] c)) H'
theorem jcv (ps:List (Int × Int)) (ds:List (Int × Int × Int)):(jcs ps ds).Sublist (ps.map (·.1)):=List.Sublist.map _ List.filter_sublist
theorem jgt {f:Addr} {fd:FuncData} {f_is_list_up_to:Addr} {d_is_list_up_to:FuncData} {f_nears_in:Addr} {d_nears_in:FuncData} {f_loose_places:Addr} {d_loose_places:FuncData} {f_marked:Addr} {d_marked:FuncData} {f_tied_by_dues:Addr} {d_tied_by_dues:FuncData} {f_is_link:Addr} {d_is_link:FuncData} (B:Blt mg) (D:DefAt K mg "chain_stands" (top 34) ["web","dues","chain"] f fd) (D_is_list_up_to:DefAt K mg "is_list_up_to" (top 4) ["thing","most"] f_is_list_up_to d_is_list_up_to) (G_is_list_up_to:FnOk P w K mg base CX0 1 f_is_list_up_to d_is_list_up_to ["thing","most"] jdx) (D_nears_in:DefAt K mg "nears_in" (top 21) ["web"] f_nears_in d_nears_in) (G_nears_in:FnOk P w K mg base CX0 1 f_nears_in d_nears_in ["web"] jj8) (D_loose_places:DefAt K mg "loose_places" (top 31) ["web","dues"] f_loose_places d_loose_places) (G_loose_places:FnOk P w K mg base CX0 2 f_loose_places d_loose_places ["web","dues"] jnp) (D_marked:DefAt K mg "marked" (top 5) ["places"] f_marked d_marked) (G_marked:FnOk P w K mg base CX0 1 f_marked d_marked ["places"] jno) (D_tied_by_dues:DefAt K mg "tied_by_dues" (top 32) ["dues"] f_tied_by_dues d_tied_by_dues) (G_tied_by_dues:FnOk P w K mg base CX0 1 f_tied_by_dues d_tied_by_dues ["dues"] jr9) (D_is_link:DefAt K mg "is_link" (top 33) ["nears","thing"] f_is_link d_is_link) (G_is_link:FnOk P w K mg base CX0 4 f_is_link d_is_link ["nears","thing"] jra) {c5:Tok} (hML:mg "MOST_LINKS" = some (.int 200 c5)):FnOk P w K mg base CX0 5 f fd ["web","dues","chain"] jnw:=by
 have sc:FnScope ["web","dues","chain","nears","loose","paid_ties","ins","outs","link","named"] ["web","dues","chain"] (jaf (top 34)):=⟨rfl,rfl,rfl,by decide +kernel,rfl,by decide +kernel,by decide +kernel⟩
 refine D.F.ok sc (fun vs H Q E h=>?_) (fun cdv A outer s H vs Q E hr h=>?_)
 ·obtain ⟨v,ps,ts,l,zs,ds,ch,xs,c,rfl,_⟩:=h
  rfl
 obtain ⟨v,ps,ts,l,zs,ds,ch,xs,c,rfl,hw,wk,el,pd,hl,ec,pc,hc,hx8,h⟩:=h
 have hu:=jbh hr
 have hu0:_ < PySem.cLine:=Nat.lt_of_succ_lt hu
 refine ⟨_,(ja2 (jb1 (jb4 (jb6 (ja7 G_is_list_up_to (hr.mono (by decide)) rfl D_is_list_up_to.m D_is_list_up_to.F.kp D_is_list_up_to.b .nil jap (ja0 (qv 2) (ja0 (jgg (v:=.int 200) rfl hML ⟨_,rfl⟩) ja3))))) (ja6 (jah jbd)) jal) (ja2 (jak (i:=3) sc.nd rfl (Or.inl rfl) (ja7 G_nears_in (hr.mono (by decide)) rfl D_nears_in.m D_nears_in.F.kp D_nears_in.b .nil jap (ja0 (qv 0) ja3))) (ja2 (jak (i:=4) sc.nd rfl (Or.inl rfl) (ja7 G_marked (hr.mono (by decide)) rfl D_marked.m D_marked.F.kp D_marked.b .nil jap (ja0 (ja7 G_loose_places (hr.mono (by decide)) rfl D_loose_places.m D_loose_places.F.kp D_loose_places.b .nil jap (ja0 (qv 0) (ja0 (qv 1) ja3))) ja3))) (ja2 (jak (i:=5) sc.nd rfl (Or.inl rfl) (ja7 G_tied_by_dues (hr.mono (by decide)) rfl D_tied_by_dues.m D_tied_by_dues.F.kp D_tied_by_dues.b .nil jap (ja0 (qv 1) ja3))) (ja2 (jak (i:=6) sc.nd rfl (Or.inl rfl) jdy) (ja2 (jak (i:=7) sc.nd rfl (Or.inl rfl) jdy) (ja2 (jbm PassesOwn.never rfl (jaw (qv 2)) (ja9 (i:=8) sc.nd rfl (Or.inl rfl)) (ja2 (jb1 (jb4 (jb6 (ja7 G_is_link (hr.mono (by decide)) rfl D_is_link.m D_is_link.F.kp D_is_link.b .nil jap (ja0 (qv 3) (ja0 (qv 8) ja3))))) (ja6 (jah jbd)) jal) (ja2 (jb1 (PW.pt (jdp (jao q_eq (jac q_ix (qv 8) ja4 (fun _ _=>rfl)) jcp (jam _)) (jcy (jsa (ji9 hu (jac q_ix (qv 8) ja4 (fun _ _=>rfl)) (qv 4)))))) (ja6 (jah jbd)) jal) (ja2 (jb1 (PW.pt (jdp (jao q_eq (jac q_ix (qv 8) ja4 (fun _ _=>rfl)) jcp (jam _)) (jcy (jsa (ji9 hu (jac q_ix (qv 8) ja4 (fun _ _=>rfl)) (qv 7)))))) (ja6 (jah jbd)) jal) (ja2 (jb1 (PW.pt (jdp (jao q_eq (jac q_ix (qv 8) ja4 (fun _ _=>rfl)) jcp (jam _)) (jcy (PW.pt (jcx (jsa (ji9 hu (jac q_ix (qv 8) ja4 (fun _ _=>rfl)) (qv 6))) (jco (jrk (jjg hu (jb3 jf6 (qv 8) (jbe ja4) jbg) (qv 5))))))))) (ja6 (jah jbd)) jal) (ja2 (jak (i:=9) sc.nd rfl (Or.inl rfl) (jqj (jao q_eq (jac q_ix (qv 8) ja4 (fun _ _=>rfl)) jcp (jam _)) (qv 6) (qv 7))) (ja6 (jep hu (qv 9) (jac q_ix (qv 8) (jdr jdo ja4) (fun _ _=>rfl)) jbd)))))))) (ja6 (jah jbd))))))))),?_⟩
 have hlx:xs.length = c.length:=Paired.length pc
 refine ja8 fun R hR=>?_
 walk_at "RD"
 refine ⟨ch,xs,200,rfl,ec,?_⟩
 rw [decide_eq_true (show (xs.length:Int) ≤ 200 by omega)]
 walk_at "RD"
 subst hR
 refine ja8 fun R hR=>?_
 walk_at "RD"
 refine ⟨v,ps,ts,rfl,hw,wk,fun dn as H1 hd1 s1 ed1 la1 nr1=>?_⟩
 have nrA:NrAt H1 dn ps ts:=⟨as,ed1,la1,nr1⟩
 subst hR
 refine ja8 fun R hR=>?_
 walk_at "RD"
 refine ⟨v,ps,ts,l,zs,ds,rfl,hw.same s1,wk,s1 _ _ el,jbk s1.tups pd,hl,fun r H2 s2 er=>?_⟩
 refine ⟨r,_,rfl,er,(jcv ps ds).nodup wk.p.nodup,?_,fun dl H3 hd3 s3 edl=>?_⟩
 ·have:=(jcv ps ds).length_le
  rw [List.length_map] at this
  have:=wk.pl
  omega
 have s13:=s1.trans (s2.trans s3)
 have nrB:=nrA.same (s2.trans s3)
 clear nrA er ed1 nr1
 subst hR
 refine ja8 fun R hR=>?_
 walk_at "RD"
 refine ⟨l,zs,ds,rfl,s13 _ _ el,jbk s13.tups pd,hl,fun dt kt H4 s4 edt tdt=>?_⟩
 have s14:=s13.trans s4
 have nrC:=nrB.same s4
 have edl4:=s4 _ _ edl
 subst hR
 refine ja8 fun R hR=>?_
 walk_at "RD"
 intro di hdi
 have q5:=ja5 hdi (.dK [])
 have edi:upd H4 di (.dK []) di = some (.dK []):=ja1
 generalize upd H4 di (.dK []) = H5 at q5 edi
 subst hR
 refine ja8 fun R hR=>?_
 walk_at "RD"
 intro do' hdo
 have q6:=ja5 hdo (.dK [])
 have edo:upd H5 do' (.dK []) do' = some (.dK []):=ja1
 have ndio:di ≠ do':=jab edi hdo
 have edi6:=q6 _ _ edi
 have hdiH4:=hdi
 have hdoH4:H4 do' = none:=q5.free hdo
 have s46:=q5.trans q6
 generalize upd H5 do' (.dK []) = H6 at q6 edo edi6 s46
 have s16:=s14.trans s46
 have nd1:di ≠ dn:=fun z=>by rw [z] at hdi; obtain ⟨_,e,_⟩:=nrC; rw [e] at hdi; cases hdi
 have edt4:=edt
 clear nd1
 subst hR
 refine ja8 fun R hR=>?_
 refine jb0 (Itl K ch) _ (fun R' hR'=>?_) (jby (K:=K) (a:=ch) (xs:=xs) (fun i σ Hc=>∃ v8 v9 kin kout ins outs,σ = [some v,some (.ref l),some (.ref ch),some (.ref dn),some (.ref dl),some (.ref dt),some (.ref di),some (.ref do'),v8,v9]∧Same H4 Hc∧Hc di = some (.dK kin)∧Hc do' = some (.dK kout)∧HasI kin ins∧HasI kout outs∧kin.length ≤ i∧kout.length ≤ i∧jb7 ps ts ds [] [] c = jb7 ps ts ds ins outs (c.drop i)) ⟨none,none,[],[],[],[],rfl,s46,edi6,edo,(fun n=>rfl),(fun n=>rfl),Nat.le_refl _,Nat.le_refl _,by rw [List.drop_zero]⟩ (fun i σ Hc _ ⟨_,_,_,_,_,_,_,s3,_⟩=>SqL.of ((s14.trans s3) _ _ ec)) ?_ ?_)
 ·unfold jbz
  walk_at "RD"
  exact ⟨ch,rfl,⟨_,SqL.of (s16 _ _ ec)⟩,hR'⟩
 ·rintro i y σ Hc hy ⟨v8,v9,kin,kout,ins,outs,rfl,s7,eki,eko,hki,hko,lki,lko,hch⟩
  obtain ⟨x,hx,pq⟩:=jaa pc hy
  obtain ⟨t,rfl,ht⟩:=pq.tups (s14.trans s7).tups
  have hi:=(List.getElem?_eq_some_iff.mp hx).1
  have hdr:c.drop i = x :: c.drop (i + 1):=jch hx
  rw [hdr,jb7] at hch
  have nr7:=nrC.same s7
  have hki':∀ n:Int,(valV kin (Sum.inl n:Key)).isSome = decide (n ∈ ins):=hki
  have hko':∀ n:Int,(valV kout (Sum.inl n:Key)).isSome = decide (n ∈ outs):=hko
  refine ja8 fun R9 hR9=>?_
  walk_at "RD"
  refine ⟨dn,.ref t,ps,ts,x,rfl,nr7,wk,⟨t,rfl,ht⟩,hx8 x (List.mem_of_getElem? hx),fun H8 s8=>?_⟩
  have s48:=s7.trans s8
  have F:okB ps ts ds ins outs x = false→Q (.bl false) H8:=fun z=>by
   have:=h H8 (s14.trans s48)
   rw [hch,z,Bool.false_and] at this
   exact this
  cases hlb:jef ps ts x with
  | false =>
   walk_at "RD"
   exact F (by unfold okB; rw [hlb,Bool.false_and])
  | true =>
   walk_at "RD"
   have ht8:=s8 _ _ ht
   have ei8:=s8 _ _ eki
   have eo8:=s8 _ _ eko
   have el8:=s48 _ _ edl4
   have et8:=s48 _ _ edt
   rcases jdi hlb with ⟨p,rfl⟩ | ⟨a,b,rfl⟩ | ⟨a,b,rfl⟩
   ·simp only [lkV,List.cons_append,List.nil_append,List.map_cons,List.map_nil] at ht8
    subst hR9
    refine ja8 fun R9 hR9=>?_
    simp_arith [jaj,ht8,at0,at1,el8,decide_true]
    have e9:(valV (mkI (jcs ps ds)) (Sum.inl p:Key)).isSome = decide (p ∈ jcs ps ds):=jow _ p
    rw [e9]
    have hok0:okB ps ts ds ins outs (some wL,[p]) = decide (p ∈ jcs ps ds):=by unfold okB; rw [hlb,Bool.true_and]
    by_cases c9:p ∈ jcs ps ds
    case neg =>
     rw [decide_eq_false c9] at hok0 ⊢
     exact F hok0
    rw [decide_eq_true c9] at hok0 ⊢
    have hok:=hok0
    simp only [Bool.not_true,Bool.false_eq_true,if_false]
    subst hR9
    simp_arith [jaj,ht8,at0,at1,nLB,nLT,decide_false,atL2,eo8]
    refine ⟨szl' (by omega),_,_,kin,putK kout (Sum.inl p) (.bl true),ins,p :: outs,rfl,jan s48 hdoH4,by rw [jae ndio]; exact ei8,ja1,hki,hko.put p,by omega,(by have:=jgf kout (Sum.inl p:Key) (.bl true); omega),?_⟩
    rw [hch,hok]
    simp only [Bool.true_and,jfc,Option.some.injEq,nLB,if_false]
    rfl
   ·simp only [lkV,List.cons_append,List.nil_append,List.map_cons,List.map_nil] at ht8
    subst hR9
    refine ja8 fun R9 hR9=>?_
    simp_arith [jaj,ht8,at0,at1,el8,nBL,decide_false]
    subst hR9
    refine ja8 fun R9 hR9=>?_
    simp_arith [jaj,ht8,at0,at1,eo8,decide_true]
    rw [hko' a]
    have hok0:okB ps ts ds ins outs (some wB,[a,b]) = decide (a ∈ outs):=by unfold okB; rw [hlb,Bool.true_and]; dsimp only; rw [if_pos rfl]
    by_cases c9:a ∈ outs
    case neg =>
     rw [decide_eq_false c9] at hok0 ⊢
     exact F hok0
    rw [decide_eq_true c9] at hok0 ⊢
    have hok:=hok0
    simp only [Bool.not_true,Bool.false_eq_true,if_false]
    subst hR9
    simp_arith [jaj,ht8,at0,at1,nBT,decide_false,decide_true,atL3,ei8]
    refine ⟨szl' (by omega),_,_,putK kin (Sum.inl b) (.bl true),kout,b :: ins,outs,rfl,jan s48 hdiH4,ja1,by rw [jae ndio.symm]; exact eo8,hki.put b,hko,(by have:=jgf kin (Sum.inl b:Key) (.bl true); omega),by omega,?_⟩
    rw [hch,hok]
    simp only [Bool.true_and,jfc,if_true]
    rfl
   ·simp only [lkV,List.cons_append,List.nil_append,List.map_cons,List.map_nil] at ht8
    subst hR9
    refine ja8 fun R9 hR9=>?_
    simp_arith [jaj,ht8,at0,at1,el8,nTL,decide_false]
    subst hR9
    refine ja8 fun R9 hR9=>?_
    simp_arith [jaj,ht8,at0,at1,eo8,nTB,decide_false]
    subst hR9
    refine ja8 fun R9 hR9=>?_
    simp_arith [jaj,ht8,at0,at1,ei8,decide_true,tB,jkm]
    rw [hki' a]
    have hok0:okB ps ts ds ins outs (some wT,[a,b]) = (decide (a ∈ ins) && jgb ds a b):=by unfold okB; rw [hlb,Bool.true_and]; dsimp only; rw [if_neg (by rw [nTB]; exact id)]
    by_cases c9:a ∈ ins
    case neg =>
     rw [decide_eq_false c9] at hok0 ⊢
     exact F hok0
    rw [decide_eq_true c9,Bool.true_and] at hok0
    rw [decide_eq_true c9]
    simp only [Bool.not_true,Bool.false_eq_true,if_false]
    refine ⟨(fun z=>by cases z.1),fun p1 hp1=>?_⟩
    rw [show cutV [V.str wT,V.int a,V.int b] (some 1) none = [V.int a,V.int b] from rfl]
    have q9:=ja5 hp1 (.tup [V.int a,V.int b])
    have f9:upd H8 p1 (.tup [V.int a,V.int b]) p1 = some (.tup (([Sum.inl a,Sum.inl b]:List Key).map kV)):=ja1
    generalize upd H8 p1 (.tup [V.int a,V.int b]) = H9 at q9 f9
    have s49:=s48.trans q9
    refine ⟨dt,_,rfl,DGet.t (q9 _ _ et8) f9,_,rfl,?_⟩
    rw [tdt a b]
    cases c8:jgb ds a b with
    | false =>
     rw [c8] at hok0
     simp only [Bool.not_false,if_true]
     have:=h H9 (s14.trans s49)
     rw [hch,hok0,Bool.false_and] at this
     exact this
    | true =>
     rw [c8] at hok0
     have hok:=hok0
     simp only [Bool.not_true,Bool.false_eq_true,if_false]
     have eo9:=q9 _ _ eo8
     have ei9:=q9 _ _ ei8
     have ht9:=q9 _ _ ht8
     subst hR9
     simp_arith [jaj,ht9,at0,at1,nTB,decide_false,atL3,eo9]
     refine ⟨szl' (by omega),_,_,kin,putK kout (Sum.inl b) (.bl true),ins,b :: outs,rfl,jan s49 hdoH4,by rw [jae ndio]; exact ei9,ja1,hki,hko.put b,by omega,(by have:=jgf kout (Sum.inl b:Key) (.bl true); omega),?_⟩
     rw [hch,hok]
     simp only [Bool.true_and,jfc,Option.some.injEq,nTB,if_false]
     rfl
 ·rintro σ Hc ⟨v8,v9,kin,kout,ins,outs,rfl,s7,eki,eko,hki,hko,lki,lko,hch⟩
  rw [hlx,List.drop_length,jb7] at hch
  subst hR
  walk_at "RD"
  have:=h Hc (s14.trans s7)
  rw [hch] at this
  exact this
end
end My
namespace My
open PySem L2
section
variable {P:Program} {w:World} {K:PySem.W.Frag} {mg:Str→Option Value} {base:Heap} {c1 c2 c3 c4:Tok} {C_NoWeb f_NoWeb:Addr} {dI:FuncData}
def papD (la lb:List Dt):Dt:=.tup [.lst la,.lst lb]
structure Fx (H:Hp) (t hl da ch:Addr) (qs:List (Int × Int)) (ds:List (Int × Int × Int)) (c:List Lk):Prop where
 e:H t = some (.tup [.ref hl,.ref da,.ref ch])
 h:∃ hx,H hl = some (.lst hx)∧Prs H hx qs
 d:∃ dx,H da = some (.lst dx)∧Tps H dx ds
 c:∃ xs,H ch = some (.lst xs)∧Lks H xs c
theorem Fx.same {H H':Hp} {t hl da ch:Addr} {qs:List (Int × Int)} {ds:List (Int × Int × Int)} {c:List Lk} (h:Fx H t hl da ch qs ds c) (s:Same H H'):Fx H' t hl da ch qs ds c:=by
 obtain ⟨e,⟨hx,e1,p1⟩,⟨dx,e2,p2⟩,⟨xs,e3,p3⟩⟩:=h
 exact ⟨s _ _ e,⟨hx,s _ _ e1,Prs.same s p1⟩,⟨dx,s _ _ e2,jbk s.tups p2⟩,⟨xs,s _ _ e3,Lks.tups p3 s.tups⟩⟩
def fixB (ps ts qs:List (Int × Int)) (ds:List (Int × Int × Int)) (c:List Lk):Bool:=jc1 ps ts (papD (qs.map jb9) (ds.map tripD)) && jb7 ps ts ds [] [] c
def jkp:Sp:=fun vs H Q _=>∃ v ps ts t hl da ch qs ds c,vs = [v,.ref t]∧jc4 H v ps ts∧WebOk ps ts∧Fx H t hl da ch qs ds c∧ds.length ≤ 200∧c.length ≤ 200∧(∀ x ∈ c,x.2.length ≤ 8)∧∀ H',Same H H'→Q (.bl (fixB ps ts qs ds c)) H'
theorem jej {H:Hp}:∀ {xs:List V} {ds:List (Int × Int × Int)},Tps H xs ds→Reps H (ds.map tripD) xs
 | _,_,.nil=>by rw [List.map_nil,Reps]
 | _,_,.cons a t=>by
  rw [List.map_cons,Reps]
  refine ⟨_,_,rfl,?_,jej t⟩
  obtain ⟨u,e,q⟩:=a
  rw [tripD,Rep]
  exact ⟨u,_,e,q,jew [_,_,_]⟩
theorem jog {H:Hp} {t hl da:Addr} {qs:List (Int × Int)} {ds:List (Int × Int × Int)} (e:H t = some (.tup [.ref hl,.ref da])) (h:∃ hx,H hl = some (.lst hx)∧Prs H hx qs) (d:∃ dx,H da = some (.lst dx)∧Tps H dx ds):Rep H (papD (qs.map jb9) (ds.map tripD)) (.ref t):=by
 obtain ⟨hx,e1,p1⟩:=h
 obtain ⟨dx,e2,p2⟩:=d
 unfold papD
 rw [Rep]
 refine ⟨t,_,rfl,e,?_⟩
 rw [Reps]
 refine ⟨_,_,rfl,by rw [Rep]; exact ⟨hl,hx,rfl,e1,Prs.reps p1⟩,?_⟩
 rw [Reps]
 exact ⟨_,_,rfl,by rw [Rep]; exact ⟨da,dx,rfl,e2,jej p2⟩,by rw [Reps]⟩
theorem jji {qs:List (Int × Int)} {ds:List (Int × Int × Int)} (h:ds.length ≤ 200):jo0 (papD (qs.map jb9) (ds.map tripD)):=fun a b e xs hb=>by
 unfold papD at e
 injection e with e
 injection e with e1 e2
 injection e2 with e2 _
 rw [← e2] at hb
 injection hb with hb
 rw [← hb,List.length_map]
 exact h
theorem jid {f:Addr} {fd:FuncData} {f_look_at_web:Addr} {d_look_at_web:FuncData} {f_is_tuple_of:Addr} {d_is_tuple_of:FuncData} {f_paper_stands:Addr} {d_paper_stands:FuncData} {f_chain_stands:Addr} {d_chain_stands:FuncData} (B:Blt mg) (D:DefAt K mg "lets_fixed" (top 35) ["web","thing"] f fd) (D_look_at_web:DefAt K mg "look_at_web" (top 18) ["thing"] f_look_at_web d_look_at_web) (G_look_at_web:FnOk P w K mg base CX0 5 f_look_at_web d_look_at_web ["thing"] jja) (D_is_tuple_of:DefAt K mg "is_tuple_of" (top 2) ["thing","many"] f_is_tuple_of d_is_tuple_of) (G_is_tuple_of:FnOk P w K mg base CX0 1 f_is_tuple_of d_is_tuple_of ["thing","many"] jem) (D_paper_stands:DefAt K mg "paper_stands" (top 28) ["web","thing"] f_paper_stands d_paper_stands) (G_paper_stands:FnOk P w K mg base CX0 5 f_paper_stands d_paper_stands ["web","thing"] jnj) (D_chain_stands:DefAt K mg "chain_stands" (top 34) ["web","dues","chain"] f_chain_stands d_chain_stands) (G_chain_stands:FnOk P w K mg base CX0 5 f_chain_stands d_chain_stands ["web","dues","chain"] jnw):FnOk P w K mg base CX0 6 f fd ["web","thing"] jkp:=by
 have sc:FnScope ["web","thing"] ["web","thing"] (jaf (top 35)):=⟨rfl,rfl,rfl,by decide +kernel,rfl,by decide +kernel,by decide +kernel⟩
 refine D.F.ok sc (fun vs H Q E h=>?_) (fun cdv A outer s H vs Q E hr h=>?_)
 ·obtain ⟨v,ps,ts,t,hl,da,ch,qs,ds,c,rfl,_⟩:=h
  rfl
 obtain ⟨v,ps,ts,t,hl,da,ch,qs,ds,c,rfl,hw,wk,fx,ld,lc,l8,h⟩:=h
 have hu:=jbh hr
 have hu0:_ < PySem.cLine:=Nat.lt_of_succ_lt hu
 refine ⟨_,(ja2 (jce (ja7 G_look_at_web (hr.mono (by decide)) rfl D_look_at_web.m D_look_at_web.F.kp D_look_at_web.b .nil jap (ja0 (qv 0) ja3))) (ja2 (jb1 (PW.pt (jcx (jb4 (jb6 (ja7 G_is_tuple_of (hr.mono (by decide)) rfl D_is_tuple_of.m D_is_tuple_of.F.kp D_is_tuple_of.b .nil jap (ja0 (qv 1) (ja0 ja4 ja3))))) (jco (jb4 (jb6 (ja7 G_paper_stands (hr.mono (by decide)) rfl D_paper_stands.m D_paper_stands.F.kp D_paper_stands.b .nil jap (ja0 (qv 0) (ja0 (jb3 jf6 (qv 1) jbg (jbe ja4)) ja3)))))))) (ja6 (jah jbd)) jal) (ja6 (jah (ja7 G_chain_stands (hr.mono (by decide)) rfl D_chain_stands.m D_chain_stands.F.kp D_chain_stands.b .nil jap (ja0 (qv 0) (ja0 (jac q_ix (qv 1) ja4 (fun _ _=>rfl)) (ja0 (jac q_ix (qv 1) ja4 (fun _ _=>rfl)) ja3)))))))),?_⟩
 walk_at "RD"
 refine ⟨_,ps,ts,rfl,hw,wk,fun H1 s1=>?_⟩
 have fx1:=fx.same s1
 walk_at "RD"
 refine ⟨t,_,3,rfl,fx1.e,?_⟩
 simp_arith [fx1.e]
 rw [if_neg (by first | decide | simp)]
 refine ⟨jk9 (.ref hl) (.ref da) (.ref ch),fun p hp=>?_⟩
 rw [cut3]
 have q2:=ja5 hp (.tup [.ref hl,.ref da])
 have ep:upd H1 p (.tup [.ref hl,.ref da]) p = some (.tup [.ref hl,.ref da]):=ja1
 generalize upd H1 p (.tup [.ref hl,.ref da]) = H2 at q2 ep
 have fx2:=fx1.same q2
 have s2:=s1.trans q2
 refine ⟨_,ps,ts,_,_,rfl,hw.same s2,wk,jog ep fx2.h fx2.d,jji ld,fun H3 s3=>?_⟩
 have fx3:=fx2.same s3
 have s23:=s2.trans s3
 cases hp2:jc1 ps ts (papD (qs.map jb9) (ds.map tripD)) with
 | false =>
  simp only [Bool.not_false,if_true]
  have:=h H3 s23
  unfold fixB at this
  rw [hp2,Bool.false_and] at this
  exact this
 | true =>
  simp only [Bool.not_true,Bool.false_eq_true,if_false,jaj,fx3.e,at1,at2]
  obtain ⟨dx,ed,pd⟩:=fx3.d
  obtain ⟨xs,ec,pc⟩:=fx3.c
  refine ⟨v,ps,ts,da,dx,ds,ch,xs,c,rfl,hw.same s23,wk,ed,pd,ld,ec,pc,lc,l8,fun H4 s4=>?_⟩
  have:=h H4 (s23.trans s4)
  unfold fixB at this
  rw [hp2,Bool.true_and] at this
  exact this
end
end My
namespace My
open PySem L2
section
variable {P:Program} {w:World} {K:PySem.W.Frag} {mg:Str→Option Value} {base:Heap} {c1 c2 c3 c4:Tok} {C_NoWeb f_NoWeb:Addr} {dI:FuncData}
theorem jbx:∀ (ps:List (Int × Int)),jb8 (ps.map jb9) ≤ 1
 | []=>by rw [List.map_nil,jb8]; omega
 | p :: r=>by
  rw [List.map_cons,jb8]
  have:=jbx r
  have e:depP (jb9 p) = 1:=rfl
  omega
theorem jmu (hs:List (Int × Int)) (h:Int × Int):jbr (hs ++ [h]) = jbr hs ++ [(Sum.inl h.1,V.int h.2)]:=by
 unfold jbr
 rw [List.map_append]
 rfl
theorem jn8 {hs:List (Int × Int)} {n:Int} (h:n ∉ hs.map (·.1)):valV (jbr hs) (Sum.inl n:Key) = none:=by
 cases e:valV (jbr hs) (Sum.inl n:Key) with
 | none=>rfl
 | some v=>exact absurd (jcq (by unfold hasK; rw [e]; rfl)) h
theorem jhk {ns:List Int} (nd:ns.Nodup) {i:Nat} {n:Int} (h:ns[i]? = some n):n ∉ ns.take i:=fun hm=>by
 obtain ⟨j,hj,e⟩:=List.mem_iff_getElem.mp hm
 rw [List.getElem_take] at e
 rw [List.length_take] at hj
 obtain ⟨hi,e2⟩:=List.getElem?_eq_some_iff.mp h
 exact List.pairwise_iff_getElem.mp nd j i (by omega) hi (by omega) (e.trans e2.symm)
theorem jne (ts hs:List (Int × Int)):eqP (.lst ((ts.filter fun t=>decide (hOf hs t.1 + hOf hs t.2 < 2)).map jb9)) (.lst []) = jga ts hs:=by
 unfold jga
 rw [eqP]
 induction ts with
 | nil=>rfl
 | cons t r ih =>
  rw [List.filter_cons,List.all_cons]
  by_cases c:hOf hs t.1 + hOf hs t.2 < 2
  ·rw [if_pos (decide_eq_true c),decide_eq_false (show ¬ hOf hs t.1 + hOf hs t.2 ≥ 2 by omega),List.map_cons,Bool.false_and]
   rfl
  ·rw [if_neg (by simpa using c),decide_eq_true (show hOf hs t.1 + hOf hs t.2 ≥ 2 by omega),Bool.true_and]
   exact ih
theorem jlx {ds:List Dt} (h:ds.length = 2):∃ a b,ds = [a,b]:=by
 match ds,h with
 | [a,b],_=>exact ⟨a,b,rfl⟩
theorem prO_no {d:Dt} (h:∀ p,d ≠ jb9 p):prO d = none:=by
 cases e:prO d with
 | none=>rfl
 | some p=>exact absurd (jia e) (h p)
theorem jmn {f:Addr} {fd:FuncData}  (B:Blt mg) (D:DefAt K mg "_law_own" (top 37) ["_law_web"] f fd):FnOk P w K mg base CX0 1 f fd ["_law_web"] jnv:=by
 have sc:FnScope ["_law_web"] ["_law_web"] (jaf (top 37)):=⟨rfl,rfl,rfl,by decide +kernel,rfl,by decide +kernel,by decide +kernel⟩
 refine D.F.ok sc (fun vs H Q E h=>?_) (fun cdv A outer s H vs Q E hr h=>?_)
 ·obtain ⟨v,ps,ts,rfl,_⟩:=h
  rfl
 obtain ⟨v,ps,ts,rfl,hw,h⟩:=h
 obtain ⟨u,pa,ta,xs,ys,rfl,eu,ep,et,pp,pt⟩:=id hw
 have hu:=jbh hr
 have hu0:_ < PySem.cLine:=Nat.lt_of_succ_lt hu
 refine ⟨_,(ja6 (jah (jaz (ja0 (jb5 jcm rfl B.list PyProof.Rows.boot_list (ja0 (jac q_ix (qv 0) ja4 (fun _ _=>rfl)) ja3)) (ja0 (jb5 jcm rfl B.list PyProof.Rows.boot_list (ja0 (jac q_ix (qv 0) ja4 (fun _ _=>rfl)) ja3)) ja3))))),?_⟩
 simp_arith [jaj,eu,ep,at0,at1]
 intro l1 h1
 have s1:Same H (upd H l1 (.lst xs)):=ja5 h1 _
 simp_arith [jaj,s1 _ _ eu,s1 _ _ et,at0,at1]
 intro l2 h2
 have s2:Same H (upd (upd H l1 (.lst xs)) l2 (.lst ys)):=s1.trans (ja5 h2 _)
 intro t h3
 have s3:Same (upd (upd H l1 (.lst xs)) l2 (.lst ys)) (upd (upd (upd H l1 (.lst xs)) l2 (.lst ys)) t (.tup [.ref l1,.ref l2])):=ja5 h3 _
 refine h _ _ (s2.trans s3) ⟨l1,l2,xs,ys,h1,s1.free h2,jab ja1 h2,ja1,s3 _ _ (ja5 h2 _ _ _ ja1),s3 _ _ ja1,Prs.same (s2.trans s3) pp,Prs.same (s2.trans s3) pt⟩
theorem jjk {f:Addr} {fd:FuncData}  (B:Blt mg) (D:DefAt K mg "_law_whole" (top 47) ["_law_thing"] f fd):FnOk P w K mg base CX0 1 f fd ["_law_thing"] jdn:=by
 have sc:FnScope ["_law_thing"] ["_law_thing"] (jaf (top 47)):=⟨rfl,rfl,rfl,by decide +kernel,rfl,by decide +kernel,by decide +kernel⟩
 refine D.F.ok sc (fun vs H Q E h=>?_) (fun cdv A outer s H vs Q E hr h=>?_)
 ·obtain ⟨x,k,rfl,_⟩:=h
  rfl
 obtain ⟨x,k,rfl,ek,h⟩:=h
 have hu:=jbh hr
 have hu0:_ < PySem.cLine:=Nat.lt_of_succ_lt hu
 refine ⟨_,(ja6 (jah (jdm (jad (jdl .int) rfl B.isinstance PyProof.Rows.boot_isinstance (ja0 (qv 0) (ja0 (jbq (v:=.ty "int") rfl B.int PyProof.Rows.boot_int rfl) ja3))) (jd9 (q_not (jad (jdl .bl) rfl B.isinstance PyProof.Rows.boot_isinstance (ja0 (qv 0) (ja0 (jbq (v:=.ty "bool") rfl B.bool PyProof.Rows.boot_bool rfl) ja3)))))))),?_⟩
 simp_arith [ek]
 cases k <;> simpa only [isi,jc5,if_true,if_false,Bool.false_eq_true,Bool.not_true,Bool.not_false] using h
theorem jf8 {f:Addr} {fd:FuncData} {f_law_whole:Addr} {d_law_whole:FuncData} (B:Blt mg) (D:DefAt K mg "_law_are_halves" (top 48) ["_law_web","_law_thing"] f fd) (D_law_whole:DefAt K mg "_law_whole" (top 47) ["_law_thing"] f_law_whole d_law_whole) (G_law_whole:FnOk P w K mg base CX0 1 f_law_whole d_law_whole ["_law_thing"] jdn):FnOk P w K mg base CX0 2 f fd ["_law_web","_law_thing"] jfx:=by
 have sc:FnScope ["_law_web","_law_thing","_law_hs","_law_k","_law_one"] ["_law_web","_law_thing"] (jaf (top 48)):=⟨rfl,rfl,rfl,by decide +kernel,rfl,by decide +kernel,by decide +kernel⟩
 refine D.F.ok sc (fun vs H Q E h=>?_) (fun cdv A outer s H vs Q E hr h=>?_)
 ·obtain ⟨v,ps,ts,y,d,rfl,_⟩:=h
  rfl
 obtain ⟨v,ps,ts,y,d,rfl,hw,wk,hd,h⟩:=h
 obtain ⟨u,pa,ta,xs,ys,rfl,hu1,hpa,hta,hxs,hys⟩:=hw
 have hxl:=Paired.length hxs
 have hu:=jbh hr
 have hu0:_ < PySem.cLine:=Nat.lt_of_succ_lt hu
 refine ⟨_,(ja2 (jb1 (PW.pt (jcx (jb4 (jb6 (jad (jdl .lst) rfl B.isinstance PyProof.Rows.boot_isinstance (ja0 (qv 1) (ja0 (jbq (v:=.ty "list") rfl B.list PyProof.Rows.boot_list rfl) ja3))))) (jco (jao q_ne (jad jcj rfl B.len PySem.boot_len (ja0 (qv 1) ja3)) (jad jcj rfl B.len PySem.boot_len (ja0 (jac q_ix (qv 0) ja4 (fun _ _=>rfl)) ja3)) (jam _))))) (ja6 (jah jbd)) jal) (ja2 (jak (i:=2) sc.nd rfl (Or.inr rfl) jdy) (ja2 (jbm PassesOwn.never rfl (jbv rfl B.range (ja0 (jad jcj rfl B.len PySem.boot_len (ja0 (qv 1) ja3)) ja3)) (ja9 (i:=3) sc.nd rfl (Or.inl rfl)) (ja2 (jak (i:=4) sc.nd rfl (Or.inl rfl) (jac q_ix (qv 1) (qv 3) (fun _ _=>rfl))) (ja2 (jb1 (PW.pt (jcx (jb4 (jb6 (jad (jdl .tup) rfl B.isinstance PyProof.Rows.boot_isinstance (ja0 (qv 4) (ja0 (jbq (v:=.ty "tuple") rfl B.tuple PyProof.Rows.boot_tuple rfl) ja3))))) (jco (jao q_ne (jad jcj rfl B.len PySem.boot_len (ja0 (qv 4) ja3)) ja4 (jam _))))) (ja6 (jah jbd)) jal) (ja2 (jb1 (PW.pt (jcx (jb4 (jb6 (ja7 G_law_whole (hr.mono (by decide)) rfl D_law_whole.m D_law_whole.F.kp D_law_whole.b .nil jap (ja0 (jac q_ix (qv 4) ja4 (fun _ _=>rfl)) ja3)))) (jco (jb4 (jb6 (ja7 G_law_whole (hr.mono (by decide)) rfl D_law_whole.m D_law_whole.F.kp D_law_whole.b .nil jap (ja0 (jac q_ix (qv 4) ja4 (fun _ _=>rfl)) ja3))))))) (ja6 (jah jbd)) jal) (ja2 (jb1 (PW.pt (jcx (jao q_ne (jac q_ix (qv 4) ja4 (fun _ _=>rfl)) (jac q_ix (jac q_ix (jac q_ix (qv 0) ja4 (fun _ _=>rfl)) (qv 3) (fun _ _=>rfl)) ja4 (fun _ _=>rfl)) (jam _)) (jcx (jao q_lt (jac q_ix (qv 4) ja4 (fun _ _=>rfl)) ja4 (jam _)) (jco (jao q_gt (jac q_ix (qv 4) ja4 (fun _ _=>rfl)) ja4 (jam _)))))) (ja6 (jah jbd)) jal) (ja6 (jep hu (qv 2) (jac q_ix (qv 4) ja4 (fun _ _=>rfl)) (jac q_ix (qv 4) ja4 (fun _ _=>rfl))))))))) (ja6 (jah (jbn (op_eqD hr.units) (jbw (CpScope.of (N:=["_law_tie","_law_hs"]) (src:=[none,some 2]) (by rfl)) rfl (jaw (jac q_ix (qv 0) ja4 (fun _ _=>rfl))) (fun _ _ _ _=>(ja9 (i:=0) (jai (l:=["_law_tie","_law_hs"]) (by rfl)) rfl (Or.inl rfl))) (fun _ _ _ _=>(jd4 (jao q_lt (jau jc8 (je7 hu (qv 1) (jac q_ix (qv 0) ja4 (fun _ _=>rfl)) (fun _ _=>rfl)) (je7 hu (qv 1) (jac q_ix (qv 0) ja4 (fun _ _=>rfl)) (fun _ _=>rfl))) ja4 (jam _)))) (fun _ _ _ _=>(qv 0))) (jc0 ja3) (jam _))))))),?_⟩
 have hkd:=jd2 hd
 simp_arith [hkd]
 cases d with
 | lst ds =>
  rw [Rep] at hd
  obtain ⟨l,zs,rfl,el,r⟩:=hd
  have hlv:=r.len
  simp_arith [kdD,isi,jaj,hu1,at0,el,hpa]
  by_cases cl:zs.length = xs.length
  ·rw [decide_eq_true (show (zs.length:Int) = (xs.length:Int) by omega),if_neg (by decide)]
   intro d hd0
   have s1:=ja5 hd0 (.dK [])
   have ed:upd H d (.dK []) d = some (.dK []):=ja1
   generalize upd H d (.dK []) = H1 at s1 ed
   have hpl:=wk.pl
   have nd:(ps.map (·.1)).Nodup:=wk.p.nodup
   refine jb0 (Itr 0 zs.length) H1 (fun R' hR'=>?_) (jc2 (n:=zs.length) (fun i σ Hc=>∃ w1 w2 hs,σ = [some (.ref u),some (.ref l),some (.ref d),w1,w2]∧Same H Hc∧Hc d = some (.dK (jbr hs))∧halO ps ds = (halO (ps.drop i) (ds.drop i)).map (hs ++ ·)∧hs.map (·.1) = (ps.take i).map (·.1)) ⟨none,none,[],rfl,s1,ed,by simp,rfl⟩ ?_ ?_)
   ·unfold jfr
    simp_arith [jaj,s1 _ _ el]
    exact ⟨_,rfl,by omega,by omega,by simpa using hR'⟩
   ·rintro i σ Hc hi ⟨w1,w2,hs,rfl,s2,ed2,hho,hk⟩
    have hx:zs[i]? = some (zs[i]'(by omega)):=List.getElem?_eq_getElem _
    have hy:xs[i]? = some (xs[i]'(by omega)):=List.getElem?_eq_getElem _
    obtain ⟨dt,hdt,rdt⟩:=r.at hx
    obtain ⟨p,hp,pq⟩:=jaa hxs hy
    rw [jch hdt,jch hp,halO] at hho
    rw [Int.zero_add]
    have ax:atI zs (i:Int) = some _:=jcr hx
    have ay:atI xs (i:Int) = some _:=jcr hy
    generalize zs[i] = x at hx rdt ax
    generalize xs[i] = y at hy pq ay
    obtain ⟨b2,rfl,eb2⟩:=pq.same s2
    have hb:=h Hc s2
    have hkx:=jd2 (Rep.same s2 _ rdt)
    cases dt with
    | tup es =>
     rw [Rep] at rdt
     obtain ⟨b1,vs,rfl,eb1,rr⟩:=rdt
     have hvl:=rr.len
     have eb:=s2 _ _ eb1
     by_cases c2:es.length = 2
     ·obtain ⟨a1,a2,rfl⟩:=jlx c2
      rw [Reps] at rr
      obtain ⟨v1,r1,rfl,e1,rr⟩:=rr
      rw [Reps] at rr
      obtain ⟨v2,r2,rfl,e2,rr⟩:=rr
      rw [Reps] at rr
      subst rr
      simp_arith [jaj,s2 _ _ el,ax,hkx,kdD,isi,eb,at0,List.length_cons,List.length_nil]
      have k1:=jd2 (Rep.same s2 _ e1)
      have k2:=jd2 (Rep.same s2 _ e2)
      rw [if_neg (by simp)]
      refine ⟨_,kdD a1,rfl,k1,?_⟩
      cases a1 with
      | int n1 =>
       simp_arith [kdD,jc5,eb,at1]
       refine ⟨_,kdD a2,rfl,k2,?_⟩
       cases a2 with
       | int n2 =>
        rw [Rep] at e1 e2
        subst e1 e2
        have ep:=s2 _ _ hpa
        have eu:=s2 _ _ hu1
        simp_arith [kdD,jc5,eb,at0,at1,eu,ep,ay,eb2,ed2]
        have hho:=hho
        rw [show prO (.tup [.int n1,.int n2]) = some (n1,n2) from rfl] at hho
        dsimp only at hho
        by_cases c1:n1 = p.1
        ·by_cases c2:0 ≤ n2
         ·by_cases c3:n2 ≤ 2
          ·rw [if_pos ⟨c1,c2,c3⟩] at hho
           rw [decide_eq_true c1,if_neg (by decide),decide_eq_false (show ¬ n2 < 0 by omega),if_neg (by decide),decide_eq_false (show ¬ n2 > 2 by omega),if_neg (by decide)]
           have hn:n1 ∉ hs.map (·.1):=by
            rw [hk,List.map_take]
            exact jhk nd (by rw [List.getElem?_map,hp,c1]; rfl)
           have hhl:hs.length ≤ i:=by
            have:=congrArg List.length hk
            rw [List.length_map,List.length_map,List.length_take] at this
            omega
           refine ⟨?_,_,_,hs ++ [(n1,n2)],rfl,jan s2 hd0,?_,?_,?_⟩
           ·have:(jbr hs).length = hs.length:=by unfold jbr; rw [List.length_map]
            rw [this]
            exact szl' (by omega)
           ·rw [ja1,jlw _ (jn8 hn),jmu]
           ·rw [hho,Option.map_map]
            congr 1
            funext w
            show hs ++ (n1,n2) :: w = (hs ++ [(n1,n2)]) ++ w
            rw [List.append_assoc]
            rfl
           ·rw [jar hp,List.map_append,List.map_append,hk,List.map_singleton,List.map_singleton,c1]
          ·rw [decide_eq_true c1,if_neg (by decide),decide_eq_false (show ¬ n2 < 0 by omega),if_neg (by decide),decide_eq_true (show n2 > 2 by omega),if_pos rfl]
           rw [jbi (by rw [hho,if_neg (fun z=>c3 z.2.2)]; rfl)] at hb
           exact hb
         ·rw [decide_eq_true c1,if_neg (by decide),decide_eq_true (show n2 < 0 by omega),if_pos rfl]
          rw [jbi (by rw [hho,if_neg (fun z=>c2 z.2.1)]; rfl)] at hb
          exact hb
        ·rw [decide_eq_false c1,if_pos (by decide)]
         rw [jbi (by rw [hho,if_neg (fun z=>c1 z.1)]; rfl)] at hb
         exact hb
       | _ =>
        simp_arith [kdD,jc5]
        rw [jbi (by rw [hho]; rfl)] at hb
        exact hb
      | _ =>
       simp_arith [kdD,jc5]
       rw [jbi (by rw [hho]; rfl)] at hb
       exact hb
     ·have c3:¬ (vs.length:Int) = 2:=by omega
      simp_arith [jaj,s2 _ _ el,ax,hkx,kdD,isi,eb,decide_eq_false c3]
      rw [jbi (by rw [hho,prO_no (fun p z=>by unfold jb9 at z; cases z; exact c2 rfl)]; rfl)] at hb
      exact hb
    | _ =>
     simp_arith [jaj,s2 _ _ el,ax,hkx,kdD,isi]
     rw [jbi (by rw [hho]; rfl)] at hb
     exact hb
   ·rintro σ Hc ⟨w1,w2,hs,rfl,s2,ed2,hho,hk⟩
    rw [List.drop_eq_nil_of_le (show ps.length ≤ zs.length by omega),List.drop_eq_nil_of_le (show ds.length ≤ zs.length by omega),halO,Option.map_some,List.append_nil] at hho
    rw [List.take_of_length_le (by omega)] at hk
    have ndh:(hs.map (·.1)).Nodup:=by rw [hk]; exact nd
    walk_at "RD"
    refine jas (Itl K ta) Hc (fun R hR=>?_) (fun z hz0=>jay ts.length (fun i σ' Hd=>∃ w1 ws,σ' = [w1,some (.ref d)]∧Same Hc Hd∧Hd z = some (.lst ws)∧Prs Hd ws ((ts.take i).filter fun t=>decide (hOf hs t.1 + hOf hs t.2 < 2))∧ws.length ≤ i) ⟨none,[],rfl,ja5 hz0 _,ja1,.nil,Nat.zero_le _⟩ ?_ ?_)
    ·unfold jbz
     simp_arith [jaj,s2 _ _ hu1,at1]
     exact ⟨ta,rfl,⟨_,SqL.of (s2 _ _ hta)⟩,hR⟩
    ·rintro i σ' Hd hi ⟨w1,ws,rfl,s7,ez,pw,hwl⟩
     have hyl:=Paired.length hys
     have htl:=wk.tl
     have x1:ys[i]? = some (ys[i]'(by omega)):=List.getElem?_eq_getElem _
     have s8:=s2.trans s7
     refine ⟨⟨_,_,SqL.of (s8 _ _ hta),x1⟩,?_⟩
     rintro y H' ⟨rfl,hy⟩
     have E1:=Option.some.inj (x1.symm.trans (hy _ (SqL.of (s8 _ _ hta))))
     obtain ⟨pr,hpr,px⟩:=jaa hys x1
     rw [E1] at px
     obtain ⟨b,rfl,hb⟩:=px.same s8
     obtain ⟨_,k1,k2⟩:=wk.t.in pr (List.mem_of_getElem? hpr)
     have v1:=jh5 ndh (by rw [hk]; exact jcq k1)
     have v2:=jh5 ndh (by rw [hk]; exact jcq k2)
     simp_arith [jaj,hb,s7 _ _ ed2,at0,at1,v1,v2]
     rw [jar hpr,List.filter_append]
     by_cases c:hOf hs pr.1 + hOf hs pr.2 < 2
     ·rw [if_pos (decide_eq_true c),List.filter_cons,if_pos (decide_eq_true c)]
      have t6:=jb2 (ys:=ws ++ [.ref b]) ez
      exact ⟨ws,ez,szl' (by omega),_,ws ++ [.ref b],rfl,jan s7 hz0,ja1,jav (Prs.tups t6 pw) ⟨b,rfl,t6 _ _ rfl hb⟩,by rw [List.length_append,List.length_singleton]; omega⟩
     ·rw [if_neg (by simpa using c),List.filter_cons,if_neg (by simpa using c),List.filter_nil,List.append_nil]
      exact ⟨_,ws,rfl,s7,ez,pw,by omega⟩
    ·rintro σ' Hd ⟨w1,ws,rfl,s7,ez,pw,hwl⟩
     have s8:=s2.trans s7
     refine ⟨⟨_,SqL.of (s8 _ _ hta),by have:=Paired.length hys; omega⟩,?_⟩
     rw [List.take_length] at pw
     walk_at "RD"
     intro e he
     have s9:=ja5 he (.lst [])
     refine ⟨.lst ((ts.filter fun t=>decide (hOf hs t.1 + hOf hs t.2 < 2)).map jb9),.lst [],?_,?_,?_,.inl ⟨_,_,rfl,rfl⟩,?_⟩
     ·rw [Rep]; exact ⟨z,ws,rfl,s9 _ _ ez,(Prs.same s9 pw).reps⟩
     ·rw [Rep]; exact ⟨e,[],rfl,ja1,by rw [Reps]⟩
     ·have:=jbx (ts.filter fun t=>decide (hOf hs t.1 + hOf hs t.2 < 2))
      rw [depP]; omega
     ·rw [if_neg (by decide),jne]
      have hb:=h _ (s8.trans s9)
      rw [jey hho] at hb
      exact hb
  ·have hb:=h H (Same.refl _)
   rw [jbi (jiq (by omega))] at hb
   rw [decide_eq_false (show ¬ (zs.length:Int) = (xs.length:Int) by omega),if_pos (by decide)]
   exact hb
 | _=>simp_arith [kdD,isi]; exact h H (Same.refl _)
end
end My
namespace L2
open PySem PySem.Spec PyProof.Rows
def tVals (td:TE):TE:=fun σ H Q=>td σ H fun x H1=>∃ a kvs,x = .ref a∧H1 a = some (.dK kvs)∧∀ l,H1 l = none→Q (.ref l) (upd H1 l (.lst (kvs.map (·.2))))
theorem jp4 {κ:Type}:∀ {kvs:List (κ × V)} {vs:List (κ × Value)},KV kvs vs→Vals (kvs.map (·.2)) (vs.map (·.2))
 | _,_,.nil=>.nil
 | _,_,.cons r t=>.cons r.2 (jp4 t)
theorem jkt {X:Cx} {x:Str} {o:Expr} {td:TE} {p apos vpos cpos:Pos} (hc:X.calm = true) (hg:Gl X x) (hm:X.mg x = none) (hv:bootBuiltins x = some (.type "list")) (ho:PE X o td)
  (hn:x ≠ "__name__":=by decide) (hdb:(x == ("__debug__":Str)) = false:=by decide)
  (hbase:attributeBase o "values" X.env (eval o X.env) = eval o X.env:=by rfl) (hline:(apos.endLine == vpos.line) = true:=by rfl)
  (he:starEach [.Call (.Attribute o "values" apos) [] [] vpos] X.env = (false,eval (.Call (.Attribute o "values" apos) [] [] vpos) X.env) :: starEach [] X.env:=by rfl) :
  PE X (.Call (.Name x p) [.Call (.Attribute o "values" apos) [] [] vpos] [] cpos) (tVals td):=by
 intro pins s σ H Q I h
 refine wpAny_Call_Name_kw (jet I hg hm hv ?_ hn hdb)
 refine PyProof.Rows.callWith_type1 ?_ he rfl
 rw [he]
 show wpAny _ _ (spliced ((false,eval (.Call (.Attribute o "values" apos) [] [] vpos) X.env) :: backTo cpos (starEach [] X.env))) _ _ s
 refine Calls.spliced_cons ?_
 refine wpAny_Call_method0_late hbase hline (thn (ho pins s σ H _ I h) fun v s1 ⟨x,H1,I1,r1,a,kvs,ex,ea,q1⟩=>?_)
 subst ex
 cases r1
 obtain ⟨z,hd,vs,rel,dd⟩:=dk_of I1.hok ea
 refine ⟨"dict","dict.values",PySem.F.plainAttrs_dict,PySem.F.slot_dict_values,PySem.F.type_dict_values,dd.typeIs,?_,Calls.callWith_builtin rfl (PySem.evalArgs_none ?_)⟩
 ·exact (jrt I1 (.inl ⟨kvs,.inl ea⟩)).2.1
 refine call_meetsIn PySem.F.slot_dict_values dd.typeIs PySem.F.entry_dict_values (PySem.F.args_dict_values_1 _) (meets_dict_values (jbl X.prog X.w) a hd) ⟨⟨vs,dd⟩,?_⟩
 show wpAny _ _ (spliced []) _ _ _
 refine wpAny_pure ?_
 obtain ⟨ep,dat⟩:=dd.dictAt
 have hlv:kvs.length = vs.length:=Paired.length rel
 refine PySem.W.kdl_call (PySem.W.kdl_values (prog:=X.prog) (w:=X.w) (knd:=jbl X.prog X.w) (r:=s1.heap.objs.size) (d:=a) (kvs:=vs) (ep:=ep)) (I.ok.hd hc) ⟨⟨_,Heap.get?_push_size _ rfl,rfl,rfl⟩,dat.push _⟩ (by omega) fun h' tk acc' c' hk hD hacc=>?_
 have hav:acc'.toList = vs.map (·.2):=by
  refine List.ext_getElem? fun j=>?_
  rw [List.getElem?_map,Array.getElem?_toList]
  cases e:acc'[j]? with
  | some v =>
   obtain ⟨k,hk⟩:=hacc.2 j v e
   rw [hk]; rfl
  | none =>
   have:acc'.size ≤ j:=by simpa using e
   rw [List.getElem?_eq_none (by rw [← hacc.1]; exact this)]
   rfl
 refine ⟨.ref _,_,I1.laid (fun b o' qq=>hk b o' (Heap.get?_push_of_some _ qq)) ?_ (show jc9 X.prog X.w _ h' _ (.lst (kvs.map (·.2))) from ⟨by rw [List.length_map]; exact z,vs.map (·.2),c',jp4 rel,?_⟩),rfl,q1 _ ?_⟩
 ·show _ ≤ (s1.heap.push _).objs.size
  rw [size_push']
  exact Nat.le_succ _
 ·rw [← hav,Array.toArray_toList]
  exact hD
 ·refine I1.hok.fresh ?_
  show _ ≤ (s1.heap.push _).objs.size
  rw [size_push']
  exact Nat.le_succ _
end L2
namespace L2
open PySem PySem.Spec PyProof.Rows
section
variable {prog:Program} {w:World} {A:Around} {R:Result→Shared→Prop} {I:Addr} {fp wr:List Addr} {n:Nat} {P:Nat→Value→Prop} {St:Nat→Heap→Prop}
def jkg (val:Nat→Int) (n:Nat) (m:Int):Prop:=(∃ i,i < n∧m = val i)∧∀ i,i < n→m ≤ val i
theorem jkg.up {val:Nat→Int} {j:Nat} {m:Int} (h:jkg val j m) (hb:val j < m):jkg val (j + 1) (val j) :=
 ⟨⟨j,Nat.lt_succ_self _,rfl⟩,fun i hi=>by
  rcases Nat.lt_succ_iff_lt_or_eq.mp hi with z | z
  ·have:=h.2 i z; omega
  ·rw [z]; exact Int.le_refl _⟩
theorem jkg.keep {val:Nat→Int} {j:Nat} {m:Int} (h:jkg val j m) (hb:¬ val j < m):jkg val (j + 1) m :=
 ⟨let ⟨i,hi,e⟩:=h.1; ⟨i,Nat.lt_succ_of_lt hi,e⟩,fun i hi=>by
  rcases Nat.lt_succ_iff_lt_or_eq.mp hi with z | z
  ·exact h.2 i z
  ·rw [z]; omega⟩
theorem jg2:(toString "min" ++ toString ".loop":String) = "min.loop":=by decide
theorem jl7 (W:Walks prog w A.in1 I fp wr n P St) (val:Nat→Int) (hval:∀ i v,P i v→∃ t:Tok,v = Value.int (val i) t) (kw:List (Str × Value)) (S:Addr) (hSf:S ∉ fp) :
  ∀ (k j:Nat) (s:Shared) (m:Int) (t:Tok) (c:Nat),n - j = k→j ≤ n→St j s.heap→jkg val j m →
  s.heap.get? S = some { cls:=.type "list",dict:=none,data:=.seq #[.int m t,.int m t] c,slots:=#[] } →
  (∀ m' t' h' tk,jkg val n m'→(∀ b o,b ∉ wr→b ≠ S→s.heap.get? b = some o→h'.get? b = some o)→R (.ok (.ret (.int m' t'))) { s with heap:=h',toks:=tk }) →
  codeAny (model prog w) A (.builtin "min.loop" ⟨[.ref I,.none,.ref S],kw⟩) R s:=by
 have hSw:S ∉ wr:=fun z=>hSf (W.sub _ z)
 intro k
 induction k with
 | zero =>
  intro j s m t c hk hj hst hb hS hR
  have hin:j = n:=by omega
  subst hin
  refine codeAny_builtin PySem.F.entry_min_loop ?_
  rw [Around.under_plainId PySem.F.plain_min_loop _]
  show wpAny _ A.in1 (seqItems? (.ref S) >>= _) _ _ s
  refine wpAny_bind (wpAny_seqItems hS rfl ?_)
  show wpAny _ A.in1 (tryCatch (pyNext (.ref I)) _ >>= _) _ _ s
  refine wpAny_bind (wpAny_tryCatch (W.done s _ _ hst fun h' tk kp=>?_))
  have hS':=kp S _ hSw hS
  show wpAny _ A.in1 (updateSeq S (fun _=>#[]) >>= _) _ _ _
  refine wpAny_bind ?_
  refine wpAny_updateSeq hS' rfl (wpAny_bind (wpAny_letGo (wpAny_pure ?_)))
  exact hR m t _ tk hb fun b o hbw hbS e=>(Heap.get?_update_other _ _ (Ne.symm hbS)).trans (kp b o hbw e)
 | succ k ih =>
  intro j s m t c hk hj hst hb hS hR
  have hlt:j < n:=by omega
  refine codeAny_builtin PySem.F.entry_min_loop ?_
  rw [Around.under_plainId PySem.F.plain_min_loop _]
  show wpAny _ A.in1 (seqItems? (.ref S) >>= _) _ _ s
  refine wpAny_bind (wpAny_seqItems hS rfl ?_)
  show wpAny _ A.in1 (tryCatch (pyNext (.ref I)) _ >>= _) _ _ s
  refine wpAny_bind (wpAny_tryCatch (W.item j s _ _ hlt hst fun v h' tk hP hst' kp=>?_))
  obtain ⟨t',rfl⟩:=hval j v hP
  have hS':=kp S _ hSw hS
  show wpAny _ A.in1 (tryCatch (holding [.int (val j) t',.int (val j) t'] (richCompare .Lt (.int (val j) t') (.int m t) >>= _)) _ >>= _) _ _ _
  refine wpAny_bind (wpAny_tryCatch (wpAny_holding (wpAny_bind (lt_int ?_))))
  refine wpAny_bind (wpAny_holding (wpAny_truthy_bool ?_))
  refine wpAny_bind (wpAny_letGo (wpAny_pure ?_))
  by_cases hc:val j < m
  ·rw [decide_eq_true (show val j < m from hc)]
   simp only [if_true]
   refine wpAny_bind ?_
   refine wpAny_updateSeq hS' rfl (wpAny_bind (wpAny_letGo ?_))
   rw [jg2]
   refine wpAny_pure ⟨plainId_quiet PySem.F.plain_min_loop _,ih (j + 1) _ (val j) t' _ (by omega) hlt (W.frame _ _ _ hst' fun b hbf o e=>?_) (hb.up hc) (Heap.get?_update_self _ hS' rfl) fun m' u h'' tk'' hB k''=>?_⟩
   ·exact (Heap.get?_update_other _ _ (fun z:S = b=>hSf (by rw [z]; exact hbf))).trans e
   ·exact hR m' u h'' tk'' hB fun b o hbw hbS e=>k'' b o hbw hbS ((Heap.get?_update_other _ _ (Ne.symm hbS)).trans (kp b o hbw e))
  ·rw [decide_eq_false (show ¬ val j < m from hc)]
   simp only [Bool.false_eq_true,if_false]
   refine wpAny_bind (wpAny_letGo ?_)
   rw [jg2]
   refine wpAny_pure ⟨plainId_quiet PySem.F.plain_min_loop _,ih (j + 1) _ m t c (by omega) hlt hst' (hb.keep hc) hS' fun m' u h'' tk'' hB k''=>?_⟩
   exact hR m' u h'' tk'' hB fun b o hbw hbS e=>k'' b o hbw hbS (kp b o hbw e)
end
section
variable {X:Cx}
theorem jfs (a d:Value):argsOk "min" ⟨[a],[(Str.ofString "default",d)]⟩:=by unfold argsOk; kernel_rfl
def rMinD:List V→List V→Hp→VK→Prop:=fun vs zs H Q=>∃ (p:Addr) (ns:List Int) (d:Int),vs = [.ref p]∧zs = [.int d]∧H p = some (.lst (ns.map V.int)) ∧
 ∀ m,(ns = []→m = d)→(ns ≠ []→m ∈ ns)→(∀ x ∈ ns,m ≤ x)→Q (.int m) H
theorem jpw (hc:X.calm = true):∀ (pins:List (Addr × Obj)) (s:Shared) (σ:St) (H:Hp) (xs zs:List V) (us ws:List Value) (Q:VK),Inv X pins σ H s→Vals xs us→Vals zs ws→rMinD xs zs H Q →
  wpAny (model X.prog X.w) X.A (call (.builtin "min") us ([Str.ofString "default"].zip ws)) (EP X pins σ Q) X.xe s:=by
 intro pins s σ H xs zs us ws Q I r rz h
 obtain ⟨p,ns,d,rfl,rfl,e,q⟩:=h
 obtain ⟨u,rfl,rx⟩:=jhv r
 cases rx
 obtain ⟨dv,rfl,td,rfl⟩:=jhv rz
 obtain ⟨z,its,c,r',hlen,e'⟩:=I.lstM e
 have hI:=jck r'
 have plt:p < s.heap.objs.size:=Heap.lt_size e'
 have hL:s.heap.IsList p its.toArray:=⟨_,e',rfl,_,rfl⟩
 refine kmk_tree PySem.F.kind_min PySem.F.plain_min PySem.F.entry_min (jfs _ _) ?_
 show wpAny _ X.A.in1 (Builtin.Builtins.bindParams "min" ["key","default"] 0 ⟨[],[(Str.ofString "default",.int d td)]⟩ >>= _) _ _ s
 refine wpAny_bind (wpAny_of_eq (show Builtin.Builtins.bindParams "min" ["key","default"] 0 ⟨[],[(Str.ofString "default",.int d td)]⟩ = pure [none,some (.int d td)] from rfl) ?_)
 refine wpAny_bind (wpAny_pure ?_)
 refine wpAny_bind (wpAny_pyIter_list hL ?_)
 refine wpAny_bind (wpAny_newList ?_ (Nat.zero_le _))
 rw [jg2]
 have hS:(s.heap.push { cls:=.type "list_iterator",data:=.fields #[.ref p,.int 0 0] }).objs.size = s.heap.objs.size + 1:=size_push' ..
 have W:=Walks.list (prog:=X.prog) (w:=X.w) (A:=X.A.in1) (show X.A.in1.handled = none from I.ok.hd hc) s.heap.objs.size p (Nat.ne_of_lt plt) its.toArray
 have hsz:its.toArray.size = ns.length:=by rw [List.size_toArray,← hlen,List.length_map]
 have hval:∀ (i:Nat) (v:Value),its.toArray[i]? = some v→∃ t:Tok,v = Value.int (ns[i]?.getD 0) t:=fun i v hv=>by
  have hv':its[i]? = some v:=by simpa using hv
  have hi:i < ns.length:=by
   have:=(List.getElem?_eq_some_iff.mp hv').1
   rw [List.length_map] at hlen
   omega
  obtain ⟨u,e1,t,e2⟩:=r'.get (i:=i) (x:=.int ns[i]) (by rw [List.getElem?_map,List.getElem?_eq_getElem hi]; rfl)
  rw [hv'] at e1
  cases e1
  exact ⟨t,by rw [e2,List.getElem?_eq_getElem hi]; rfl⟩
 have kp0:∀ (h':Heap) (tk:Nat),(∀ b o,b ∉ [s.heap.objs.size]→b ≠ (s.heap.push { cls:=.type "list_iterator",data:=.fields #[.ref p,.int 0 0] }).objs.size→((s.heap.push { cls:=.type "list_iterator",data:=.fields #[.ref p,.int 0 0] }).push { cls:=.type "list",data:=.seq #[] }).get? b = some o→h'.get? b = some o) →
   Inv X pins σ H { s with heap:=h',toks:=tk }:=fun h' tk k=>I.kept fun b o qq=>k b o (by
    intro z
    have:b = s.heap.objs.size:=by simpa using z
    exact absurd (Heap.lt_size qq) (by rw [this]; exact Nat.lt_irrefl _)) (by rw [hS]; exact Nat.ne_of_lt (Nat.lt_succ_of_lt (Heap.lt_size qq))) (Heap.get?_push_of_some _ (Heap.get?_push_of_some _ qq))
 have hst0:(fun i (h:Heap)=>h.IsListIter s.heap.objs.size p i∧h.IsList p its.toArray) 0 ((s.heap.push { cls:=.type "list_iterator",data:=.fields #[.ref p,.int 0 0] }).push { cls:=.type "list",data:=.seq #[] }) :=
  ⟨⟨_,Heap.get?_push_of_some _ (Heap.get?_push_size _ rfl),rfl,rfl⟩,(hL.push _).push _⟩
 have hSg:((s.heap.push { cls:=.type "list_iterator",data:=.fields #[.ref p,.int 0 0] }).push { cls:=.type "list",data:=.seq #[] }).get? (s.heap.push { cls:=.type "list_iterator",data:=.fields #[.ref p,.int 0 0] }).objs.size = some { cls:=.type "list",dict:=none,data:=.seq #[] 0,slots:=#[] }:=Heap.get?_push_size _ rfl
 have hSf:(s.heap.push { cls:=.type "list_iterator",data:=.fields #[.ref p,.int 0 0] }).objs.size ∉ [s.heap.objs.size,p]:=by
  rw [hS]
  intro z
  rcases List.mem_cons.mp z with z | z
  ·exact absurd z (Nat.succ_ne_self _)
  ·have z:=List.mem_singleton.mp z
   rw [← z] at plt
   exact Nat.lt_irrefl _ (Nat.lt_of_succ_lt plt)
 refine wpAny_pure ⟨plainId_quiet PySem.F.plain_min_loop _,?_⟩
 refine codeAny_builtin PySem.F.entry_min_loop ?_
 rw [Around.under_plainId PySem.F.plain_min_loop _]
 show wpAny _ X.A.in1 (seqItems? (.ref _) >>= _) _ _ _
 refine wpAny_bind (wpAny_seqItems hSg rfl ?_)
 show wpAny _ X.A.in1 (tryCatch (pyNext (.ref s.heap.objs.size)) _ >>= _) _ _ _
 cases hn:ns with
 | nil =>
  have h0:its.toArray.size = 0:=by rw [hsz,hn]; rfl
  refine wpAny_bind (wpAny_tryCatch (W.done _ _ _ (by rw [h0]; exact hst0) fun h' tk kp=>?_))
  refine wpAny_bind (wpAny_rule (wpAny_pure ?_))
  exact ⟨.int d,H,kp0 h' tk fun b o h1 _ h3=>kp b o h1 h3,⟨td,rfl⟩,q d (fun _=>rfl) (fun z=>absurd hn z) (by rw [hn]; intro x hx; cases hx)⟩
 | cons n0 rest =>
  have hpos:0 < its.toArray.size:=by rw [hsz,hn]; simp
  refine wpAny_bind (wpAny_tryCatch (W.item 0 _ _ _ hpos hst0 fun v h' tk hP hst' kp=>?_))
  obtain ⟨t',rfl⟩:=hval 0 v hP
  have hS':=kp _ _ (fun z=>hSf (List.mem_cons.mpr (.inl (List.mem_singleton.mp z)))) hSg
  show wpAny _ X.A.in1 (updateSeq _ (fun _=>#[_,_]) >>= _) _ _ _
  refine wpAny_bind ?_
  refine wpAny_updateSeq hS' rfl ?_
  rw [jg2]
  refine wpAny_pure ⟨plainId_quiet PySem.F.plain_min_loop _,jl7 W (fun i=>ns[i]?.getD 0) hval _ _ hSf _ 1 _ _ t' _ rfl hpos (W.frame _ _ _ hst' fun b hbf o e=>?_) ⟨⟨0,Nat.one_pos,rfl⟩,fun i hi=>by
   have:i = 0:=by omega
   subst this; exact Int.le_refl _⟩ (Heap.get?_update_self _ hS' rfl) fun m u h'' tk'' hB k''=>?_⟩
  ·exact (Heap.get?_update_other _ _ (fun z=>hSf (by rw [z]; exact hbf))).trans e
  ·refine ⟨.int m,H,kp0 h'' tk'' fun b o h1 h2 h3=>k'' b o h1 h2 ((Heap.get?_update_other _ _ (Ne.symm h2)).trans (kp b o h1 h3)),⟨u,rfl⟩,q m (fun z=>by rw [hn] at z; cases z) (fun _=>?_) fun x hx=>?_⟩
   ·obtain ⟨i,hi,e1⟩:=hB.1
    rw [hsz] at hi
    rw [e1]
    show ns[i]?.getD 0 ∈ ns
    rw [List.getElem?_eq_getElem hi]
    exact List.getElem_mem hi
   ·obtain ⟨i,hi,e1⟩:=List.mem_iff_getElem.mp hx
    have:m ≤ ns[i]?.getD 0:=hB.2 i (by rw [hsz]; exact hi)
    rw [List.getElem?_eq_getElem hi] at this
    rw [← e1]
    exact this
end
end L2
namespace My
open PySem L2
section
variable {P:Program} {w:World} {K:PySem.W.Frag} {mg:Str→Option Value} {base:Heap} {c1 c2 c3 c4:Tok} {C_NoWeb f_NoWeb:Addr} {dI:FuncData}
theorem jq2 (ts:List (Int × Int)) (q:Int × Int):((ts.map jb9).any fun c=>eqP c (jb9 q)) = decide (q ∈ ts):=by
 induction ts with
 | nil=>simp
 | cons t r ih =>
  rw [List.map_cons,List.any_cons,ih]
  have:eqP (jb9 t) (jb9 q) = decide (t = q):=by
   obtain ⟨a,b⟩:=t
   obtain ⟨c,d⟩:=q
   simp only [jb9,eqP,eqPs,Bool.and_true]
   by_cases h1:a = c <;> by_cases h2:b = d <;> simp [h1,h2]
  rw [this]
  by_cases c1:t = q
  ·subst c1; simp
  ·by_cases c2:q ∈ r
   ·simp [c2]
   ·simp [c1,c2,Ne.symm c1]
def jd5 (ps:List (Int × Int)) (f:Int→Int):List (Key × V):=ps.map fun p=>(Sum.inl p.1,V.int (2 * p.2 - f p.1))
theorem jjy {ps:List (Int × Int)} (nd:(ps.map (·.1)).Nodup) {f:Int→Int} {p:Int × Int} (hp:p ∈ ps) (a:Int):putK (jd5 ps f) (Sum.inl p.1:Key) (.int (2 * p.2 - f p.1 - a)) = jd5 ps fun m=>f m + (if p.1 = m then a else 0):=by
 unfold putK
 have h1:((jd5 ps f).any fun kv=>decide (kv.1 = (Sum.inl p.1:Key))) = true:=by
  unfold jd5
  rw [List.any_map,List.any_eq_true]
  exact ⟨p,hp,by simp⟩
 rw [if_pos h1]
 unfold jd5
 rw [List.map_map]
 refine List.map_congr_left fun q hq=>?_
 dsimp only [Function.comp]
 by_cases c:p.1 = q.1
 ·have e:p = q:=by
   have w:=(List.pairwise_map.mp nd)
   have:∀ x ∈ ps,∀ y ∈ ps,x.1 = y.1→x = y:=fun x hx y hy e=>by
    obtain ⟨i,hi,rfl⟩:=List.mem_iff_getElem.mp hx
    obtain ⟨j,hj,rfl⟩:=List.mem_iff_getElem.mp hy
    rcases Nat.lt_trichotomy i j with z | z | z
    ·exact absurd e (List.pairwise_iff_getElem.mp w i j hi hj z)
    ·subst z; rfl
    ·exact absurd e.symm (List.pairwise_iff_getElem.mp w j i hj hi z)
   exact this p hp q hq c
  subst e
  rw [if_pos rfl,if_pos rfl]
  congr 2
  omega
 ·rw [if_neg (fun z=>c (Sum.inl.inj z).symm),if_neg c,Int.add_zero]
theorem jjx {ps:List (Int × Int)} (nd:(ps.map (·.1)).Nodup) {f:Int→Int} {p:Int × Int} (hp:p ∈ ps):valV (jd5 ps f) (Sum.inl p.1:Key) = some (.int (2 * p.2 - f p.1)):=by
 have e:jd5 ps f = jbr (ps.map fun p=>(p.1,2 * p.2 - f p.1)):=by
  unfold jd5 jbr
  rw [List.map_map]
  rfl
 rw [e]
 exact jg9 (ps:=ps.map fun p=>(p.1,2 * p.2 - f p.1)) (p:=(p.1,2 * p.2 - f p.1)) (by rw [List.map_map]; exact nd) (List.mem_map.mpr ⟨p,hp,rfl⟩)
theorem jmt {ps:List (Int × Int)} {qs:List (Int × Int × Int)} {m:Int} (h1:(ps.map fun p=>2 * p.2 - jaq qs p.1) = []→m = 0) (h2:(ps.map fun p=>2 * p.2 - jaq qs p.1) ≠ []→m ∈ ps.map fun p=>2 * p.2 - jaq qs p.1) (h3:∀ x ∈ ps.map fun p=>2 * p.2 - jaq qs p.1,m ≤ x):decide (m ≥ 0) = jgi ps qs:=by
 unfold jgi
 by_cases c:m ≥ 0
 ·rw [decide_eq_true c]
  refine (List.all_eq_true.mpr fun p hp=>decide_eq_true ?_).symm
  have:=h3 _ (List.mem_map.mpr ⟨p,hp,rfl⟩)
  omega
 ·rw [decide_eq_false c]
  have hne:(ps.map fun p=>2 * p.2 - jaq qs p.1) ≠ []:=fun z=>c (by rw [h1 z]; exact Int.le_refl _)
  obtain ⟨p,hp,e⟩:=List.mem_map.mp (h2 hne)
  cases e2:ps.all fun p=>decide (jaq qs p.1 ≤ 2 * p.2) with
  | false=>rfl
  | true =>
   have:=of_decide_eq_true (List.all_eq_true.mp e2 p hp)
   omega
theorem jhu (q:Dt→Bool):∀ (ds:List Dt),jb8 (ds.filter q) ≤ jb8 ds
 | []=>Nat.le_refl _
 | d :: r=>by
  have ih:=jhu q r
  rw [List.filter_cons,jb8]
  split
  ·rw [jb8]; omega
  ·omega
theorem jjc {H:Hp}:∀ {ds:List Dt} {vs:List V} {d:Dt} {v:V},Reps H ds vs→Rep H d v→Reps H (ds ++ [d]) (vs ++ [v])
 | [],vs,d,v,h,g=>by
  rw [Reps] at h
  subst h
  rw [List.nil_append,List.nil_append,Reps]
  exact ⟨v,[],rfl,g,by rw [Reps]⟩
 | a :: r,vs,d,v,h,g=>by
  rw [Reps] at h
  obtain ⟨x,xs,rfl,h1,h2⟩:=h
  rw [List.cons_append,List.cons_append,Reps]
  exact ⟨x,xs ++ [v],rfl,h1,jjc h2 g⟩
theorem jt0 (ds:List Dt):eqP (.lst ds) (.lst []) = decide (ds = []):=by
 cases ds <;> rfl
theorem jq7 (es:List Dt):decide ((es.filter fun e=>! jc5 (kdD e)) = []) = jg8 es:=by
 unfold jg8
 induction es with
 | nil=>rfl
 | cons e r ih =>
  rw [List.filter_cons,List.all_cons]
  cases c:jc5 (kdD e) with
  | true=>simpa using ih
  | false=>simp
theorem jpl:∀ {ds:List Dt} {d:Dt},d ∈ ds→depP d ≤ jb8 ds
 | a :: r,d,h=>by
  rw [jb8]
  rcases List.mem_cons.mp h with e | h
  ·subst e; omega
  ·have:=jpl h
   omega
def jnt:Sp:=fun vs H Q _=>∃ v ps ts y d,vs = [v,y]∧jc4 H v ps ts∧WebOk ps ts∧Rep H d y∧jo1 d∧depP d ≤ 20∧∀ H',Same H H'→Q (.bl (jh8 ps ts d)) H'
theorem jgr {f:Addr} {fd:FuncData} {f_law_whole:Addr} {d_law_whole:FuncData} (B:Blt mg) (D:DefAt K mg "_law_are_dues" (top 49) ["_law_web","_law_thing"] f fd) (D_law_whole:DefAt K mg "_law_whole" (top 47) ["_law_thing"] f_law_whole d_law_whole) (G_law_whole:FnOk P w K mg base CX0 1 f_law_whole d_law_whole ["_law_thing"] jdn):FnOk P w K mg base CX0 2 f fd ["_law_web","_law_thing"] jnt:=by
 have sc:FnScope ["_law_web","_law_thing","_law_left","_law_place","_law_price","_law_last","_law_one"] ["_law_web","_law_thing"] (jaf (top 49)):=⟨rfl,rfl,rfl,by decide +kernel,rfl,by decide +kernel,by decide +kernel⟩
 refine D.F.ok sc (fun vs H Q E h=>?_) (fun cdv A outer s H vs Q E hr h=>?_)
 ·obtain ⟨v,ps,ts,y,d,rfl,_⟩:=h
  rfl
 obtain ⟨v,ps,ts,y,d,rfl,hw,wk,hd,hs,hdp,h⟩:=h
 obtain ⟨u,pa,ta,xs,ys,rfl,hu1,hpa,hta,hxs,hys⟩:=hw
 have hxl:=Paired.length hxs
 have hu:=jbh hr
 have hu0:_ < PySem.cLine:=Nat.lt_of_succ_lt hu
 refine ⟨_,(ja2 (jb1 (jb4 (jb6 (jad (jdl .lst) rfl B.isinstance PyProof.Rows.boot_isinstance (ja0 (qv 1) (ja0 (jbq (v:=.ty "list") rfl B.list PyProof.Rows.boot_list rfl) ja3))))) (ja6 (jah jbd)) jal) (ja2 (jak (i:=2) sc.nd rfl (Or.inl rfl) jdy) (ja2 (jbm PassesOwn.never rfl (jaw (jac q_ix (qv 0) ja4 (fun _ _=>rfl))) (jcd (n:=2) rfl (jag (ja9 (i:=3) sc.nd rfl (Or.inl rfl)) (jag (ja9 (i:=4) sc.nd rfl (Or.inl rfl)) jbf))) (ja6 (jep hu (qv 2) (qv 3) (jau je3 ja4 (qv 4))))) (ja2 (jak (i:=5) sc.nd rfl (Or.inl rfl) (jaz (ja0 (jdr jdo ja4) (ja0 (jdr jdo ja4) ja3)))) (ja2 (jbm PassesOwn.never rfl (jaw (qv 1)) (ja9 (i:=6) sc.nd rfl (Or.inl rfl)) (ja2 (jb1 (PW.pt (jcx (jb4 (jb6 (jad (jdl .tup) rfl B.isinstance PyProof.Rows.boot_isinstance (ja0 (qv 6) (ja0 (jbq (v:=.ty "tuple") rfl B.tuple PyProof.Rows.boot_tuple rfl) ja3))))) (jco (jao q_ne (jad jcj rfl B.len PySem.boot_len (ja0 (qv 6) ja3)) ja4 (jam _))))) (ja6 (jah jbd)) jal) (ja2 (jb1 (jao (jfm hr.units) (jbw (CpScope.of (N:=["_law_part"]) (src:=[none]) (by rfl)) rfl (joc (qv 6)) (fun _ _ _ _=>(ja9 (i:=0) (jai (l:=["_law_part"]) (by rfl)) rfl (Or.inl rfl))) (fun _ _ _ _=>(jd4 (jb4 (jb6 (ja7 G_law_whole (hr.mono (by decide)) rfl D_law_whole.m D_law_whole.F.kp D_law_whole.b .nil jap (ja0 (qv 0) ja3)))))) (fun _ _ _ _=>(qv 0))) (jc0 ja3) (jam _)) (ja6 (jah jbd)) jal) (ja2 (jb1 (PW.pt (jcx (jao q_lt (jac q_ix (qv 6) ja4 (fun _ _=>rfl)) ja4 (jam _)) (jcx (jao (jgk hr.units) (jb3 jf6 (qv 6) jbg (jbe ja4)) (jac q_ix (qv 0) ja4 (fun _ _=>rfl)) (by with_unfolding_all rfl)) (jco (jao (q_leT hu0) (jb3 jf6 (qv 6) jbg (jbe ja4)) (qv 5) (jam _)))))) (ja6 (jah jbd)) jal) (ja2 (jak (i:=5) sc.nd rfl (Or.inl rfl) (jb3 jf6 (qv 6) jbg (jbe ja4))) (ja2 (jep hu (qv 2) (jac q_ix (qv 6) ja4 (fun _ _=>rfl)) (jau jqf (je7 hu (qv 2) (jac q_ix (qv 6) ja4 (fun _ _=>rfl)) (fun _ _=>rfl)) (jac q_ix (qv 6) ja4 (fun _ _=>rfl)))) (ja6 (jep hu (qv 2) (jac q_ix (qv 6) ja4 (fun _ _=>rfl)) (jau jqf (je7 hu (qv 2) (jac q_ix (qv 6) ja4 (fun _ _=>rfl)) (fun _ _=>rfl)) (jac q_ix (qv 6) ja4 (fun _ _=>rfl))))))))))) (ja6 (jah (jbn q_ge (jjf (jpw rfl) rfl B.min PyProof.Rows.boot_min (ja0 (jkt rfl rfl B.list PyProof.Rows.boot_list (qv 2)) ja3) (job ja4 jrl)) ja4 (jam _))))))))),?_⟩
 have hkd:=jd2 hd
 simp_arith [hkd]
 cases d with
 | lst ds =>
  rw [Rep] at hd
  obtain ⟨l,zs,rfl,el,r⟩:=hd
  have hlv:=r.len
  simp_arith [kdD,isi,jaj,hu1,at0,el,hpa]
  intro d hd0
  have s1:=ja5 hd0 (.dK [])
  have ed:upd H d (.dK []) d = some (.dK []):=ja1
  generalize upd H d (.dK []) = H1 at s1 ed
  have nd:(ps.map (·.1)).Nodup:=wk.p.nodup
  have hpl:=wk.pl
  refine jb0 (Itl K pa) H1 (fun R' hR'=>?_) (jby (K:=K) (a:=pa) (xs:=xs) (fun i σ Hc=>∃ w1 w2,σ = [some (.ref u),some (.ref l),some (.ref d),w1,w2,none,none]∧Same H Hc∧Hc d = some (.dK (jd5 (ps.take i) fun _=>0))) ⟨none,none,rfl,s1,ed⟩ (fun i σ Hc _ ⟨_,_,_,s3,_⟩=>SqL.of (s3 _ _ hpa)) ?_ ?_)
  ·unfold jbz
   simp_arith [jaj,s1 _ _ hu1,at0]
   exact ⟨pa,rfl,⟨_,SqL.of (s1 _ _ hpa)⟩,hR'⟩
  ·rintro i x σ Hc hx ⟨w1,w2,rfl,s2,ed2⟩
   obtain ⟨p,hp,px⟩:=jaa hxs hx
   obtain ⟨b,rfl,hb⟩:=px.same s2
   simp_arith [hb,ed2]
   have hi:=(List.getElem?_eq_some_iff.mp hp).1
   refine ⟨cmL (by decide) (by decide),?_,_,_,rfl,jan s2 hd0,?_⟩
   ·unfold jd5
    rw [List.length_map,List.length_take]
    exact szl' (by omega)
   ·have hn:valV (jd5 (ps.take i) fun _=>0) (Sum.inl p.1:Key) = none:=by
     have e:(jd5 (ps.take i) fun _=>0) = jbr ((ps.take i).map fun p=>(p.1,2 * p.2 - 0)):=by
      unfold jd5 jbr
      rw [List.map_map]
      rfl
     rw [e]
     refine jn8 ?_
     rw [List.map_map]
     show p.1 ∉ (ps.take i).map (·.1)
     rw [List.map_take]
     exact jhk nd (by rw [List.getElem?_map,hp]; rfl)
    rw [ja1,jlw _ hn,jar hp]
    unfold jd5
    rw [List.map_append,List.map_singleton,Int.sub_zero]
  ·rintro σ H2 ⟨w1,w2,rfl,s2,ed2⟩
   rw [hxl,List.take_length] at ed2
   walk_at "RD"
   intro pl0 hp0
   have s3:=s2.trans (ja5 hp0 (.tup [.int (-1),.int (-1)]))
   have ed3:=ja5 hp0 (.tup [.int (-1),.int (-1)]) _ _ ed2
   have ep:upd H2 pl0 (.tup [.int (-1),.int (-1)]) pl0 = some (.tup [.int (-1),.int (-1)]):=ja1
   generalize upd H2 pl0 (.tup [.int (-1),.int (-1)]) = H3 at s3 ed3 ep
   refine jb0 (Itl K l) H3 (fun R' hR'=>?_) (jby (K:=K) (a:=l) (xs:=zs) (fun i σ Hc=>∃ v4 pl q qs,σ = [some (.ref u),some (.ref l),some (.ref d),w1,w2,some (.ref pl),v4]∧Same H Hc∧Hc d = some (.dK (jd5 ps (jaq qs)))∧Hc pl = some (.tup [.int q.1,.int q.2])∧jcg ts (-1,-1) ds = (jcg ts q (ds.drop i)).map (qs ++ ·)) ⟨none,pl0,(-1,-1),[],rfl,s3,ed3,ep,by simp⟩ (fun i σ Hc _ ⟨_,_,_,_,_,s3,_⟩=>SqL.of (s3 _ _ el)) ?_ ?_)
   ·unfold jbz
    walk_at "RD"
    exact ⟨l,rfl,⟨_,SqL.of (s3 _ _ el)⟩,hR'⟩
   ·rintro i x σ Hc hx ⟨v4,pl,q,qs,rfl,s4,ed4,epl,hdo⟩
    obtain ⟨dt,hdt,rdt⟩:=r.at hx
    have hdr:ds.drop i = dt :: ds.drop (i + 1):=jch hdt
    have hb0:=h Hc s4
    have hkx:=jd2 (Rep.same s4 _ rdt)
    have fail:dueO dt = none→jh8 ps ts (.lst ds) = false:=fun e=>jcl (by rw [hdo,hdr,jcg,e]; rfl)
    have htup:∀ es,dt = .tup es→jb8 es ≤ 18:=fun es e=>by
     have:=jpl (List.mem_of_getElem? hdt)
     rw [e,depP] at this
     rw [depP] at hdp
     omega
    cases dt with
    | tup es =>
     rw [Rep] at rdt
     obtain ⟨t,vs,rfl,et,rr⟩:=rdt
     have et4:=s4 _ _ et
     have hvl:=rr.len
     by_cases c3:es.length = 3
     ·simp_arith [jaj,hkx,kdD,isi,et4]
      rw [decide_eq_true (show (vs.length:Int) = 3 by omega),if_neg (by decide)]
      refine jas (Itt K t) Hc (fun R hR=>?_) (fun z hz0=>jay es.length (fun i σ' Hd=>∃ w1 ws,σ' = [w1]∧Same Hc Hd∧Hd z = some (.lst ws)∧Reps Hc ((es.take i).filter fun e=>! jc5 (kdD e)) ws∧ws.length ≤ i) ⟨none,[],rfl,ja5 hz0 _,ja1,by rw [List.take_zero,List.filter_nil,Reps],Nat.zero_le _⟩ ?_ ?_)
      ·unfold iTup
       walk_at "RD"
       exact ⟨t,rfl,⟨_,SqT.of et4⟩,hR⟩
      ·rintro j σ' Hd hj ⟨w3,ws,rfl,s7,ez,pw,hwl⟩
       have x1:vs[j]? = some (vs[j]'(by omega)):=List.getElem?_eq_getElem _
       refine ⟨⟨_,_,SqT.of (s7 _ _ et4),x1⟩,?_⟩
       rintro y H' ⟨rfl,hy⟩
       have E1:=Option.some.inj (x1.symm.trans (hy _ (SqT.of (s7 _ _ et4))))
       obtain ⟨e0,he0,re0⟩:=rr.at x1
       rw [E1] at re0
       walk_at "RD"
       refine ⟨_,kdD e0,rfl,jd2 (Rep.same (s4.trans s7) _ re0),?_⟩
       rw [jar he0,List.filter_append]
       cases c:jc5 (kdD e0) with
       | true =>
        dsimp only
        rw [if_neg (by decide),List.filter_cons,if_neg (by rw [c]; decide),List.filter_nil,List.append_nil]
        exact ⟨_,ws,rfl,s7,ez,pw,by omega⟩
       | false =>
        dsimp only
        rw [if_pos (by decide),List.filter_cons,if_pos (by rw [c]; rfl),List.filter_nil]
        exact ⟨ws,ez,szl' (by omega),_,ws ++ [y],rfl,jan s7 hz0,ja1,jjc pw (Rep.same s4 _ re0),by rw [List.length_append,List.length_singleton]; omega⟩
      ·rintro σ' Hd ⟨w3,ws,rfl,s7,ez,pw,hwl⟩
       refine ⟨⟨_,SqT.of (s7 _ _ et4),by omega⟩,?_⟩
       rw [List.take_length] at pw
       walk_at "RD"
       intro e he
       have s9:=ja5 he (.lst [])
       have ee:upd Hd e (.lst []) e = some (.lst []):=ja1
       generalize upd Hd e (.lst []) = He at s9 ee
       have sA:=s7.trans s9
       have sB:=s4.trans sA
       refine ⟨.lst (es.filter fun e=>! jc5 (kdD e)),.lst [],?_,?_,?_,.inl ⟨_,_,rfl,rfl⟩,?_⟩
       ·rw [Rep]; exact ⟨z,ws,rfl,s9 _ _ ez,Reps.same sA _ pw⟩
       ·rw [Rep]; exact ⟨e,[],rfl,ee,by rw [Reps]⟩
       ·have:=jhu (fun e=>! jc5 (kdD e)) es
        have:=htup es rfl
        rw [depP]; omega
       rw [if_pos rfl,jt0,jq7]
       have hb:=h He sB
       cases cw:jg8 es with
       | false =>
        rw [fail (by unfold dueO; rw [jln (.inr cw)])] at hb
        walk_at "RD"
        exact hb
       | true =>
        obtain ⟨p,hp⟩:=jk5 c3 cw
        subst hp
        obtain ⟨t',et',e3⟩:=jfv (p:=p) (H:=H) (x:=.ref t) (by rw [tripD,Rep]; exact ⟨t,vs,rfl,et,rr⟩)
        cases et'
        rw [et] at e3
        cases e3
        have etB:=sB _ _ et
        have edB:=sA _ _ ed4
        have epB:=sA _ _ epl
        have euB:=sB _ _ hu1
        have etaB:=sB _ _ hta
        simp_arith [etB,at2]
        have dO:dueO (.tup [.int p.1,.int p.2.1,.int p.2.2]) = if 1 ≤ p.2.2 then some p else none:=rfl
        by_cases c1:p.2.2 < 1
        ·rw [decide_eq_true c1,if_pos rfl]
         rw [fail (by rw [dO,if_neg (by omega)])] at hb
         exact hb
        ·rw [decide_eq_false c1,if_neg (by decide)]
         rw [if_pos (by omega)] at dO
         refine ⟨by decide,fun k1 hk1=>?_⟩
         rw [cut3]
         have u1:=ja5 hk1 (.tup [.int p.1,.int p.2.1])
         have e1:upd He k1 (.tup [.int p.1,.int p.2.1]) k1 = some (.tup [.int p.1,.int p.2.1]):=ja1
         generalize upd He k1 (.tup [.int p.1,.int p.2.1]) = H5 at u1 e1
         simp only [u1 _ _ euB,at1]
         refine ⟨jb9 (p.1,p.2.1),ta,ys,ts.map jb9,Pr.rep ⟨k1,rfl,e1⟩,rfl,u1 _ _ etaB,(Prs.same (sB.trans u1) hys).reps,by have:=jbx ts; omega,?_⟩
         rw [if_pos rfl,jq2]
         by_cases cm:(p.1,p.2.1) ∈ ts
         ·rw [decide_eq_true cm]
          have et5:=u1 _ _ etB
          dsimp only [Bool.not_true]
          rw [if_neg (by decide),et5]
          refine ⟨jk9 (.int p.1) (.int p.2.1) (.int p.2.2),fun k2 hk2=>?_⟩
          rw [cut3]
          have u2:=u1.trans (ja5 hk2 (.tup [.int p.1,.int p.2.1]))
          have e2:upd H5 k2 (.tup [.int p.1,.int p.2.1]) k2 = some (.tup [.int p.1,.int p.2.1]):=ja1
          generalize upd H5 k2 (.tup [.int p.1,.int p.2.1]) = H6 at u2 e2
          simp only [fLeT,e2,u2 _ _ epB]
          by_cases cl:leL [p.1,p.2.1] [q.1,q.2] = true
          ·rw [if_pos cl]
           have hb:=h H6 (sB.trans u2)
           rw [jcl (by rw [hdo,hdr,jcg,dO]; dsimp only; rw [if_neg (fun z=>by rw [z.2] at cl; cases cl)]; rfl)] at hb
           exact hb
          ·rw [if_neg cl,u2 _ _ etB]
           refine ⟨jk9 (.int p.1) (.int p.2.1) (.int p.2.2),fun k3 hk3=>?_⟩
           rw [cut3]
           have u3:=u2.trans (ja5 hk3 (.tup [.int p.1,.int p.2.1]))
           have e3:upd H6 k3 (.tup [.int p.1,.int p.2.1]) k3 = some (.tup [.int p.1,.int p.2.1]):=ja1
           generalize upd H6 k3 (.tup [.int p.1,.int p.2.1]) = H7 at u3 e3
           obtain ⟨_,m1,m2⟩:=wk.t.in _ cm
           obtain ⟨p1,hp1,f1⟩:=List.mem_map.mp (jcq m1)
           obtain ⟨p2,hp2,f2⟩:=List.mem_map.mp (jcq m2)
           dsimp only at f1 f2
           have g1:=jjx nd (f:=jaq qs) hp1
           rw [f1] at g1
           have et7:=u3 _ _ etB
           have ed7:=u3 _ _ edB
           simp only [et7,ed7,at0,at1,at2,g1]
           have w1:=jjy nd (f:=jaq qs) hp1 p.2.2
           rw [f1] at w1
           rw [w1]
           have hgl:∀ g:Int→Int,(jd5 ps g).length < sizeLine:=fun g=>by
            unfold jd5
            rw [List.length_map]
            exact szl' (by omega)
           refine ⟨hgl _,?_⟩
           have et8:upd H7 d (.dK (jd5 ps fun m=>jaq qs m + (if p.1 = m then p.2.2 else 0))) t = some (.tup [.int p.1,.int p.2.1,.int p.2.2]):=by
            rw [jae (jab et hd0)]
            exact et7
           have ed8:upd H7 d (.dK (jd5 ps fun m=>jaq qs m + (if p.1 = m then p.2.2 else 0))) d = some (.dK (jd5 ps fun m=>jaq qs m + (if p.1 = m then p.2.2 else 0))):=ja1
           have g2:=jjx nd (f:=fun m=>jaq qs m + (if p.1 = m then p.2.2 else 0)) hp2
           rw [f2] at g2
           have w2':=jjy nd (f:=fun m=>jaq qs m + (if p.1 = m then p.2.2 else 0)) hp2 p.2.2
           rw [f2] at w2'
           have nk:k3 ≠ d:=fun z=>by rw [z,ed7] at e3; cases e3
           simp only [et8,ed8,at1,at2,g2]
           refine ⟨hgl _,_,k3,(p.1,p.2.1),qs ++ [p],rfl,jan (jan (sB.trans u3) hd0) hd0,?_,?_,?_⟩
           ·rw [ja1]
            refine congrArg (fun z=>some (HO.dK z)) (Eq.trans w2' ?_)
            have ef:(fun m=>jaq qs m + (if p.1 = m then p.2.2 else 0) + (if p.2.1 = m then p.2.2 else 0)) = jaq (qs ++ [p]):=by
             funext m
             unfold jaq
             rw [List.map_append,List.sum_append]
             simp
             omega
            rw [← ef]
           ·rw [jae nk,jae nk]
            exact e3
           ·rw [hdo,hdr,jcg,dO]
            dsimp only
            rw [if_pos ⟨cm,Bool.eq_false_iff.mpr cl⟩,Option.map_map]
            congr 1
            funext w
            show qs ++ p :: w = (qs ++ [p]) ++ w
            rw [List.append_assoc]
            rfl
         ·rw [decide_eq_false cm]
          have hb:=h H5 (sB.trans u1)
          rw [jcl (by rw [hdo,hdr,jcg,dO]; dsimp only; rw [if_neg (fun z=>cm z.1)]; rfl)] at hb
          walk_at "RD"
          exact hb
     ·have c4:¬ (vs.length:Int) = 3:=by omega
      simp_arith [jaj,hkx,kdD,isi,et4,decide_eq_false c4]
      rw [fail (by unfold dueO; rw [jln (.inl c3)])] at hb0
      exact hb0
    | _ =>
     simp_arith [jaj,hkx,kdD,isi]
     rw [fail rfl] at hb0
     exact hb0
   ·rintro σ Hc ⟨v4,pl,q,qs,rfl,s4,ed4,epl,hdo⟩
    rw [List.drop_eq_nil_of_le (by omega),jcg,Option.map_some,List.append_nil] at hdo
    simp_arith [tVals,ed4,tCBK]
    refine ⟨d,_,rfl,ed4,fun z hz=>⟨z,ps.map (fun p=>2 * p.2 - jaq qs p.1),0,rfl,rfl,?_,fun m m1 m2 m3=>?_⟩⟩
    ·rw [ja1]
     unfold jd5
     rw [List.map_map,List.map_map]
     rfl
    ·show Q (.bl (decide (m ≥ 0))) _
     rw [jmt m1 m2 m3]
     refine (je1 hdo) ▸ (h _ (s4.trans (ja5 hz _)))
 | _=>simp_arith [kdD,isi]; exact h H (Same.refl _)
end
end My
namespace My
open PySem L2
section
variable {P:Program} {w:World} {K:PySem.W.Frag} {mg:Str→Option Value} {base:Heap} {c1 c2 c3 c4:Tok} {C_NoWeb f_NoWeb:Addr} {dI:FuncData}
theorem jpf {ps:List (Int × Int)} {p:Int × Int} (nd:(ps.map (·.1)).Nodup) (h:p ∈ ps):hOf ps p.1 = p.2:=by
 unfold hOf
 rw [jg9 nd h]
def jlr:Sp:=fun vs H Q _=>∃ v ps ts y d,vs = [v,y]∧jc4 H v ps ts∧WebOk ps ts∧Rep H d y∧jo0 d∧depP d ≤ 20∧∀ H',Same H H'→Q (.bl (jc1 ps ts d)) H'
theorem jgq {f:Addr} {fd:FuncData} {f_law_are_halves:Addr} {d_law_are_halves:FuncData} {f_law_are_dues:Addr} {d_law_are_dues:FuncData} (B:Blt mg) (D:DefAt K mg "_law_is_paper" (top 50) ["_law_web","_law_thing"] f fd) (D_law_are_halves:DefAt K mg "_law_are_halves" (top 48) ["_law_web","_law_thing"] f_law_are_halves d_law_are_halves) (G_law_are_halves:FnOk P w K mg base CX0 2 f_law_are_halves d_law_are_halves ["_law_web","_law_thing"] jfx) (D_law_are_dues:DefAt K mg "_law_are_dues" (top 49) ["_law_web","_law_thing"] f_law_are_dues d_law_are_dues) (G_law_are_dues:FnOk P w K mg base CX0 2 f_law_are_dues d_law_are_dues ["_law_web","_law_thing"] jnt):FnOk P w K mg base CX0 3 f fd ["_law_web","_law_thing"] jlr:=by
 have sc:FnScope ["_law_web","_law_thing","_law_cost","_law_k"] ["_law_web","_law_thing"] (jaf (top 50)):=⟨rfl,rfl,rfl,by decide +kernel,rfl,by decide +kernel,by decide +kernel⟩
 refine D.F.ok sc (fun vs H Q E h=>?_) (fun cdv A outer s H vs Q E hr h=>?_)
 ·obtain ⟨v,ps,ts,y,d,rfl,_⟩:=h
  rfl
 obtain ⟨v,ps,ts,y,d,rfl,hw,wk,hd,hs,hdp,h⟩:=h
 have hu:=jbh hr
 have hu0:_ < PySem.cLine:=Nat.lt_of_succ_lt hu
 refine ⟨_,(ja2 (jb1 (PW.pt (jcx (jb4 (jb6 (jad (jdl .tup) rfl B.isinstance PyProof.Rows.boot_isinstance (ja0 (qv 1) (ja0 (jbq (v:=.ty "tuple") rfl B.tuple PyProof.Rows.boot_tuple rfl) ja3))))) (jco (jao q_ne (jad jcj rfl B.len PySem.boot_len (ja0 (qv 1) ja3)) ja4 (jam _))))) (ja6 (jah jbd)) jal) (ja2 (jb1 (PW.pt (jcx (jb4 (jb6 (ja7 G_law_are_halves (hr.mono (by decide)) rfl D_law_are_halves.m D_law_are_halves.F.kp D_law_are_halves.b .nil jap (ja0 (qv 0) (ja0 (jac q_ix (qv 1) ja4 (fun _ _=>rfl)) ja3))))) (jco (jb4 (jb6 (ja7 G_law_are_dues (hr.mono (by decide)) rfl D_law_are_dues.m D_law_are_dues.F.kp D_law_are_dues.b .nil jap (ja0 (qv 0) (ja0 (jac q_ix (qv 1) ja4 (fun _ _=>rfl)) ja3)))))))) (ja6 (jah jbd)) jal) (ja2 (jak (i:=2) sc.nd rfl (Or.inl rfl) ja4) (ja2 (jbm PassesOwn.never rfl (jbv rfl B.range (ja0 (jad jcj rfl B.len PySem.boot_len (ja0 (jac q_ix (qv 0) ja4 (fun _ _=>rfl)) ja3)) ja3)) (ja9 (i:=3) sc.nd rfl (Or.inl rfl)) (ja6 (jak (i:=2) sc.nd rfl (Or.inl rfl) (jau jc8 (qv 2) (jau je3 (jac q_ix (jac q_ix (jac q_ix (qv 0) ja4 (fun _ _=>rfl)) (qv 3) (fun _ _=>rfl)) ja4 (fun _ _=>rfl)) (jac q_ix (jac q_ix (jac q_ix (qv 1) ja4 (fun _ _=>rfl)) (qv 3) (fun _ _=>rfl)) ja4 (fun _ _=>rfl))))))) (ja6 (jah (jbn q_eq (jad (jsb rfl) rfl B.sum PyProof.Rows.boot_sum (ja0 (jbw (CpScope.of (N:=["_law_one"]) (src:=[none]) (by rfl)) rfl (jaw (jac q_ix (qv 1) ja4 (fun _ _=>rfl))) (fun _ _ _ _=>(ja9 (i:=0) (jai (l:=["_law_one"]) (by rfl)) rfl (Or.inl rfl))) (fun _ _ _ _=>jc3) (fun _ _ _ _=>(jac q_ix (qv 0) ja4 (fun _ _=>rfl)))) ja3)) (qv 2) (jam _)))))))),?_⟩
 have hkd:=jd2 hd
 simp_arith [hkd]
 cases d with
 | tup ds =>
  have hd0:=hd
  rw [Rep] at hd
  obtain ⟨g,vs,rfl,ea,r⟩:=hd
  have hlv:=r.len
  simp_arith [kdD,isi,jaj,ea]
  by_cases c2:ds.length = 2
  ·rw [decide_eq_true (show (vs.length:Int) = 2 by omega),if_neg (by decide)]
   obtain ⟨a,b,rfl⟩:=jlx c2
   have hsb:=hs a b rfl
   rw [Reps] at r
   obtain ⟨v1,r1,rfl,e1,r⟩:=r
   rw [Reps] at r
   obtain ⟨v2,r2,rfl,e2,r⟩:=r
   rw [Reps] at r
   subst r
   simp_arith [jaj,ea,at0,at1]
   refine ⟨_,ps,ts,_,a,rfl,hw,wk,e1,fun H1 s1=>?_⟩
   cases ch:halB ps ts a with
   | false =>
    walk_at "RD"
    have hb:=h H1 s1
    rw [show jc1 ps ts (.tup [a,b]) = pap2 ps ts a b from rfl,jrm ch] at hb
    exact hb
   | true =>
    simp_arith [jaj,s1 _ _ ea,at1]
    refine ⟨_,ps,ts,_,b,rfl,hw.same s1,wk,Rep.same s1 _ e2,hsb,by rw [depP,jb8,jb8] at hdp; omega,fun H2 s2=>?_⟩
    have s3:=s1.trans s2
    cases cd:jh8 ps ts b with
    | false =>
     walk_at "RD"
     have hb:=h H2 s3
     rw [show jc1 ps ts (.tup [a,b]) = pap2 ps ts a b from rfl,joh cd] at hb
     exact hb
    | true =>
     obtain ⟨hs',rfl,ho,hti⟩:=jk2 ch
     obtain ⟨qs,rfl,qo,hpa⟩:=jfh cd
     rw [Rep] at e1 e2
     obtain ⟨l1,z1,rfl,el1,r1⟩:=e1
     obtain ⟨l2,z2,rfl,el2,r2⟩:=e2
     have p1:=ji7 r1
     have p2:=ji6 r2
     obtain ⟨_,hk,hrg⟩:=jdc ho
     have hzl:=Paired.length p2
     have hz1:=Paired.length p1
     have hql:qs.length ≤ 200:=by have:=hsb _ rfl; rw [List.length_map] at this; exact this
     obtain ⟨u,pa,ta,xs,ys,rfl,hu1,hpl0,hta,hxs,hys⟩:=hw
     have hxl:=Paired.length hxs
     have hpl:hs'.length = ps.length:=by
      have:=congrArg List.length hk
      rw [List.length_map,List.length_map] at this
      exact this
     have h40:=wk.pl
     walk_at "RD"
     refine jb0 (Itr 0 xs.length) H2 (fun R' hR'=>?_) (jc2 (n:=xs.length) (fun i σ Hc=>∃ w1,σ = [some (.ref u),some (.ref g),some (.int (((hs'.take i).map fun h=>hOf ps h.1 * h.2).sum)),w1]∧Same H Hc) ⟨none,rfl,s3⟩ ?_ ?_)
     ·unfold jfr
      simp_arith [jaj,s3 _ _ hu1,at0,s3 _ _ hpl0]
      exact ⟨_,rfl,by omega,by omega,by simpa using hR'⟩
     ·rintro i σ Hc hi ⟨w1,rfl,s4⟩
      have hx:xs[i]? = some (xs[i]'(by omega)):=List.getElem?_eq_getElem _
      have hy:z1[i]? = some (z1[i]'(by omega)):=List.getElem?_eq_getElem _
      obtain ⟨p,hp,px⟩:=jaa hxs hx
      obtain ⟨k,hk',pk⟩:=jaa p1 hy
      have ax:atI xs (i:Int) = some _:=jcr hx
      have ay:atI z1 (i:Int) = some _:=jcr hy
      rw [Int.zero_add]
      generalize xs[i] = x at hx px ax
      generalize z1[i] = y at hy pk ay
      obtain ⟨b1,rfl,eb1⟩:=px.same s4
      obtain ⟨b2,rfl,eb2⟩:=pk.same s4
      simp_arith [jaj,s4 _ _ hu1,at0,s4 _ _ hpl0,ax,eb1,at1,s4 _ _ ea,s4 _ _ el1,ay,eb2]
      obtain ⟨k1,k2⟩:=hrg k (List.mem_of_getElem? hk')
      have ek:k.1 = p.1:=by
       have h1:(hs'.map (·.1))[i]? = some k.1:=by rw [List.getElem?_map,hk']; rfl
       have h2:(ps.map (·.1))[i]? = some p.1:=by rw [List.getElem?_map,hp]; rfl
       rw [hk,h2] at h1
       exact (Option.some.inj h1).symm
      refine ⟨cmR (by omega) (by omega),some (.int i),?_,s4⟩
      rw [jar hk',List.map_append,List.sum_append,List.map_singleton,List.sum_cons,List.sum_nil,Int.add_zero,ek,jpf wk.p.nodup (List.mem_of_getElem? hp)]
     ·rintro σ Hc ⟨w1,rfl,s4⟩
      rw [List.take_of_length_le (by omega)]
      walk_at "RD"
      refine jas (Itl K l2) Hc (fun R hR=>?_) (fun z hz0=>jay qs.length (fun i σ' Hd=>∃ w1,σ' = [w1]∧Same Hc Hd∧Hd z = some (.lst (((qs.take i).map (·.2.2)).map V.int))) ⟨none,rfl,ja5 hz0 _,ja1⟩ ?_ ?_)
      ·unfold jbz
       simp_arith [jaj,s4 _ _ ea,at1]
       exact ⟨l2,rfl,⟨_,SqL.of (s4 _ _ el2)⟩,hR⟩
      ·rintro i σ' Hd hi ⟨w1,rfl,s7,ez⟩
       have x1:z2[i]? = some (z2[i]'(by omega)):=List.getElem?_eq_getElem _
       have s8:=s4.trans s7
       refine ⟨⟨_,_,SqL.of (s8 _ _ el2),x1⟩,?_⟩
       rintro y H' ⟨rfl,hy⟩
       have E1:=Option.some.inj (x1.symm.trans (hy _ (SqL.of (s8 _ _ el2))))
       obtain ⟨pr,hpr,px⟩:=jaa p2 x1
       rw [E1] at px
       obtain ⟨b,rfl,hb⟩:=Tp.tups px s8.tups
       simp_arith [jaj,hb,at2]
       refine ⟨_,ez,?_,_,rfl,jan s7 hz0,?_⟩
       ·rw [List.length_map,List.length_map,List.length_take]
        exact szl' (by omega)
       ·rw [ja1,jar hpr,List.map_append,List.map_append]
        rfl
      ·rintro σ' Hd ⟨w1,rfl,s7,ez⟩
       have s8:=s4.trans s7
       refine ⟨⟨_,SqL.of (s8 _ _ el2),by omega⟩,?_⟩
       rw [List.take_length] at ez
       refine ⟨z,_,rfl,ez,?_⟩
       have hb:=h Hd s8
       have e9:jc1 ps ts (.tup [.lst (hs'.map jb9),.lst (qs.map tripD)]) = decide ((qs.map (·.2.2)).sum = jmx ps hs'):=by
        rw [jda]
        unfold pap2
        dsimp only
        rw [ho,qo]
        dsimp only
        rw [hti,hpa,Bool.true_and,Bool.true_and]
       rw [e9] at hb
       exact hb
  ·rw [decide_eq_false (show ¬ (vs.length:Int) = 2 by omega),if_pos (by decide)]
   have hb:=h H (Same.refl _)
   rw [jjh c2] at hb
   exact hb
 | _=>simp_arith [kdD,isi]; exact h H (Same.refl _)
end
end My
namespace My
open PySem L2
section
variable {P:Program} {w:World} {K:PySem.W.Frag} {mg:Str→Option Value} {base:Heap} {c1 c2 c3 c4:Tok} {C_NoWeb f_NoWeb:Addr} {dI:FuncData}
def jbt:List Int→List Int→List (Int × Int)
 | n :: ns,c :: cs=>if 0 < c then (n,c) :: jbt ns cs else jbt ns cs
 | _,_=>[]
def jbp:List Int→List Int→List Int→List (Int × Int)
 | n :: ns,c :: cs,h :: hs=>if 0 < c then (n,h) :: jbp ns cs hs else jbp ns cs hs
 | _,_,_=>[]
theorem jhs:∀ {ns cs:List Int},ns.length = cs.length→∀ (n c:Int),jbt (ns ++ [n]) (cs ++ [c]) = jbt ns cs ++ (if 0 < c then [(n,c)] else [])
 | [],[],_,n,c=>by
  show jbt [n] [c] = _
  rw [jbt]
  split <;> rfl
 | a :: ns,b :: cs,h,n,c=>by
  have ih:=jhs (ns:=ns) (cs:=cs) (by simpa using h) n c
  rw [List.cons_append,List.cons_append,jbt,jbt,ih]
  split <;> rfl
theorem jht:∀ {ns cs hs:List Int},ns.length = cs.length→ns.length = hs.length→∀ (n c h:Int),jbp (ns ++ [n]) (cs ++ [c]) (hs ++ [h]) = jbp ns cs hs ++ (if 0 < c then [(n,h)] else [])
 | [],[],[],_,_,n,c,h=>by
  show jbp [n] [c] [h] = _
  rw [jbp]
  split <;> rfl
 | a :: ns,b :: cs,e :: hs,h1,h2,n,c,h=>by
  have ih:=jht (ns:=ns) (cs:=cs) (hs:=hs) (by simpa using h1) (by simpa using h2) n c h
  rw [List.cons_append,List.cons_append,List.cons_append,jbp,jbp,ih]
  split <;> rfl
theorem jeu:∀ {ns cs hs:List Int},ns.length = cs.length→ns.length = hs.length→(∀ h ∈ hs,0 ≤ h∧h ≤ 2)→halO (jbt ns cs) ((jbp ns cs hs).map jb9) = some (jbp ns cs hs)
 | [],[],[],_,_,_=>rfl
 | n :: ns,c :: cs,h :: hs,h1,h2,hb=>by
  have ih:=jeu (ns:=ns) (cs:=cs) (hs:=hs) (by simpa using h1) (by simpa using h2) (fun x hx=>hb x (List.mem_cons_of_mem _ hx))
  rw [jbt,jbp]
  split
  ·rw [List.map_cons,halO,show prO (jb9 (n,h)) = some (n,h) from rfl]
   dsimp only
   rw [if_pos ⟨rfl,hb h (List.mem_cons_self ..)⟩,ih]
   rfl
  ·exact ih
theorem jev:∀ {ns cs:List Int},(jbt ns cs).map (·.1) |>.Sublist ns
 | [],_=>by rw [jbt]; exact List.Sublist.slnil; all_goals (intros; simp_all)
 | n :: ns,[]=>by rw [jbt]; exact List.nil_sublist _; all_goals (intros; simp_all)
 | n :: ns,c :: cs=>by
  rw [jbt]
  split
  ·rw [List.map_cons]; exact (jev (ns:=ns) (cs:=cs)).cons₂ _
  ·exact (jev (ns:=ns) (cs:=cs)).cons _
theorem jh1 {f:Int→Int}:∀ {ns cs hs:List Int},ns.length = cs.length→ns.length = hs.length→(∀ c ∈ cs,0 ≤ c)→(∀ p ∈ jbt ns cs,f p.1 = p.2)→((jbp ns cs hs).map fun h=>f h.1 * h.2).sum = ((cs.zip hs).map fun q=>q.1 * q.2).sum
 | [],[],[],_,_,_,_=>rfl
 | n :: ns,c :: cs,h :: hs,h1,h2,hc,hf=>by
  rw [jbt] at hf
  rw [jbp,List.zip_cons_cons,List.map_cons,List.sum_cons]
  by_cases c0:0 < c
  ·rw [if_pos c0] at hf ⊢
   have ih:=jh1 (f:=f) (ns:=ns) (cs:=cs) (hs:=hs) (by simpa using h1) (by simpa using h2) (fun x hx=>hc x (List.mem_cons_of_mem _ hx)) (fun p hp=>hf p (List.mem_cons_of_mem _ hp))
   have e1:f n = c:=hf (n,c) (List.mem_cons_self ..)
   rw [List.map_cons,List.sum_cons,ih,e1]
  ·rw [if_neg c0] at hf ⊢
   have ih:=jh1 (f:=f) (ns:=ns) (cs:=cs) (hs:=hs) (by simpa using h1) (by simpa using h2) (fun x hx=>hc x (List.mem_cons_of_mem _ hx)) hf
   have:=hc c (List.mem_cons_self ..)
   have:c = 0:=by omega
   rw [ih,this]
   simp
def nth (xs:List Int) (k:Int):Int:=(xs[k.toNat]?).getD 0
theorem jdf {xs:List Int} {k:Int} (h0:0 ≤ k) (h1:k < xs.length):atI (xs.map V.int) k = some (.int (nth xs k)):=by
 have hk:k.toNat < xs.length:=by omega
 have e:atI (xs.map V.int) ((k.toNat:Nat):Int) = some (.int xs[k.toNat]):=jcr (by rw [List.getElem?_map,List.getElem?_eq_getElem hk]; rfl)
 rw [show ((k.toNat:Nat):Int) = k by omega] at e
 rw [e]
 unfold nth
 rw [List.getElem?_eq_getElem hk]
 rfl
theorem jk0 {n:Nat} {k:Int} (h0:0 ≤ k) (h1:k < n):ixN n k = some k.toNat:=by
 unfold ixN
 rw [if_pos h0,if_pos h1]
theorem jl2 {xs:List Int} {k i v:Int} (h0:0 ≤ k) (h1:k < xs.length) (hi:0 ≤ i):nth (xs.set k.toNat v) i = if k = i then v else nth xs i:=by
 unfold nth
 rw [List.getElem?_set]
 by_cases c:k = i
 ·subst c
  have:k.toNat < xs.length:=by omega
  simp [this]
 ·have:¬ k.toNat = i.toNat:=by omega
  rw [if_neg this,if_neg c]
def sumN (n:Nat) (g:Int→Int):Int:=((List.range n).map fun (k:Nat)=>g (k:Int)).sum
theorem jbu (n:Nat) (g:Int→Int):sumN (n + 1) g = sumN n g + g (n:Int):=by
 unfold sumN
 rw [List.range_succ,List.map_append,List.sum_append]
 simp
theorem jhz (g h:Int→Int):∀ n:Nat,sumN n (fun k=>g k + h k) = sumN n g + sumN n h
 | 0=>rfl
 | n + 1=>by
  rw [jbu,jbu,jbu,jhz g h n]
  omega
theorem jfw (g:Int→Int) (a:Int):∀ n:Nat,sumN n (fun k=>g k * a) = sumN n g * a
 | 0=>by simp [sumN]
 | n + 1=>by
  rw [jbu,jbu,jfw g a n,Int.add_mul]
theorem jd6 {g h:Int→Int}:∀ {n:Nat},(∀ k:Int,0 ≤ k→k < n→g k = h k)→sumN n g = sumN n h
 | 0,_=>rfl
 | n + 1,e=>by
  rw [jbu,jbu,jd6 (n:=n) (fun k k0 k1=>e k k0 (by omega)),e n (by omega) (by omega)]
theorem jj5 {g:Int→Int} {i d:Int}:∀ {n:Nat},¬ (0 ≤ i∧i < n)→sumN n (fun k=>g k * (if i = k then d else 0)) = 0
 | 0,_=>rfl
 | n + 1,h=>by
  rw [jbu,jj5 (n:=n) (fun z=>h (by omega)),if_neg (fun z=>h (by omega))]
  simp
theorem jhy {g:Int→Int} {i d:Int}:∀ {n:Nat},0 ≤ i→i < n→sumN n (fun k=>g k * (if i = k then d else 0)) = g i * d
 | 0,h0,h1=>by omega
 | n + 1,h0,h1=>by
  rw [jbu]
  by_cases c:i = (n:Int)
  ·rw [if_pos c,jj5 (by omega),c]
   simp
  ·rw [if_neg c,jhy (n:=n) h0 (by omega)]
   simp
theorem jlo {h:Int→Int} {n:Nat}:∀ {raw:List (Int × Int × Int)},(∀ r ∈ raw,0 ≤ r.1∧r.1 < r.2.1∧r.2.1 < n)→sumN n (fun k=>h k * jaq raw k) = (raw.map fun r=>(h r.1 + h r.2.1) * r.2.2).sum
 | [],_=>by
  have:sumN n (fun k=>h k * jaq [] k) = sumN n fun _=>0 * 0:=jd6 fun k _ _=>by simp [jaq]
  rw [this,jfw]
  simp
 | r :: raw,hx=>by
  have hr:=hx r (List.mem_cons_self ..)
  have ih:=jlo (h:=h) (raw:=raw) (fun q hq=>hx q (List.mem_cons_of_mem _ hq))
  have e:sumN n (fun k=>h k * jaq (r :: raw) k) = sumN n fun k=>(h k * (if r.1 = k then r.2.2 else 0) + h k * (if r.2.1 = k then r.2.2 else 0)) + h k * jaq raw k:=jd6 fun k _ _=>by
   unfold jaq
   rw [List.map_cons,List.sum_cons,Int.mul_add,Int.mul_add]
  rw [e,jhz,jhz,jhy hr.1 (by omega),jhy (by omega) hr.2.2,ih,List.map_cons,List.sum_cons,Int.add_mul]
theorem jhl (g:Int→Int):∀ n:Nat,sumN (n + 1) g = g 0 + sumN n fun k=>g (k + 1)
 | 0=>by simp [sumN]
 | n + 1=>by
  rw [jbu,jhl g n,jbu]
  simp only [Int.natCast_add]
  rw [Int.add_assoc]
  rfl
theorem jdt (c:Int) (cs:List Int):nth (c :: cs) 0 = c:=rfl
theorem jcf (c:Int) (cs:List Int) {k:Int} (h:0 ≤ k):nth (c :: cs) (k + 1) = nth cs k:=by
 unfold nth
 rw [show (k + 1).toNat = k.toNat + 1 by omega,List.getElem?_cons_succ]
theorem jn4:∀ {cs hs:List Int},cs.length = hs.length→((cs.zip hs).map fun q=>q.1 * q.2).sum = sumN cs.length fun k=>nth cs k * nth hs k
 | [],[],_=>rfl
 | c :: cs,h :: hs,e=>by
  have ih:=jn4 (cs:=cs) (hs:=hs) (by simpa using e)
  rw [List.zip_cons_cons,List.map_cons,List.sum_cons,ih,List.length_cons,jhl,jdt,jdt]
  rw [jd6 (n:=cs.length) (g:=fun k=>nth (c :: cs) (k + 1) * nth (h :: hs) (k + 1)) (h:=fun k=>nth cs k * nth hs k) fun k k0 _=>by rw [jcf _ _ k0,jcf _ _ k0]]
theorem jpu {hs cs:List Int} {raw:List (Int × Int × Int)} {tw:Int} (hl:cs.length = hs.length) (ix:∀ r ∈ raw,0 ≤ r.1∧r.1 < r.2.1∧r.2.1 < hs.length) (due:∀ r ∈ raw,r.2.2 = 0 ∨ nth hs r.1 + nth hs r.2.1 = 2)
  (pr:∀ k:Int,0 ≤ k→k < hs.length→nth hs k = 0 ∨ 2 * nth cs k = jaq raw k * tw):((cs.zip hs).map fun q=>q.1 * q.2).sum = (raw.map fun r=>r.2.2 * tw).sum:=by
 rw [jn4 hl,hl]
 have e1:sumN hs.length (fun k=>nth cs k * nth hs k * 2) = sumN hs.length fun k=>nth hs k * jaq raw k * tw:=jd6 fun k k0 k1=>by
  rcases pr k k0 k1 with z | z
  ·rw [z]; simp
  ·rw [Int.mul_assoc (nth hs k),← z,Int.mul_comm (nth cs k),Int.mul_assoc,Int.mul_comm (nth cs k) 2]
 rw [jfw,jfw,jlo ix] at e1
 have e2:∀ {raw:List (Int × Int × Int)},(∀ r ∈ raw,r.2.2 = 0 ∨ nth hs r.1 + nth hs r.2.1 = 2)→(raw.map fun r=>(nth hs r.1 + nth hs r.2.1) * r.2.2).sum * tw = (raw.map fun r=>r.2.2 * tw).sum * 2:=by
  intro raw
  induction raw with
  | nil=>intro _; simp
  | cons r raw ih =>
   intro hd
   have i:=ih fun q hq=>hd q (List.mem_cons_of_mem _ hq)
   rw [List.map_cons,List.sum_cons,List.map_cons,List.sum_cons]
   have e3:(nth hs r.1 + nth hs r.2.1) * r.2.2 * tw = r.2.2 * tw * 2:=by
    rcases hd r (List.mem_cons_self ..) with z | z
    ·rw [z]; simp
    ·rw [z,Int.mul_assoc,Int.mul_comm]
   rw [Int.add_mul ((nth hs r.1 + nth hs r.2.1) * r.2.2),e3,i,← Int.add_mul]
 rw [e2 due] at e1
 omega
end
end My
namespace My
open PySem L2
section
variable {P:Program} {w:World} {K:PySem.W.Frag} {mg:Str→Option Value} {base:Heap} {c1 c2 c3 c4:Tok} {C_NoWeb f_NoWeb:Addr} {dI:FuncData}
theorem jl3 {ns:List Int} (hp:ns.Pairwise (· < ·)) {k j:Int} (k0:0 ≤ k) (k1:k < ns.length) (j0:0 ≤ j) (j1:j < ns.length) (e:nth ns k = nth ns j):k = j:=by
 have a1:k.toNat < ns.length:=by omega
 have a2:j.toNat < ns.length:=by omega
 unfold nth at e
 rw [List.getElem?_eq_getElem a1,List.getElem?_eq_getElem a2] at e
 have e':ns[k.toNat] = ns[j.toNat]:=e
 rcases Nat.lt_trichotomy k.toNat j.toNat with z | z | z
 ·have:=List.pairwise_iff_getElem.mp hp _ _ a1 a2 z
  omega
 ·omega
 ·have:=List.pairwise_iff_getElem.mp hp _ _ a2 a1 z
  omega
theorem jdh {hs:List Int} {k:Int} (h0:0 ≤ k) (h1:k < hs.length):nth hs k ∈ hs:=by
 have a:k.toNat < hs.length:=by omega
 unfold nth
 rw [List.getElem?_eq_getElem a]
 exact List.getElem_mem a
def jbj (ns:List Int) (tw:Int) (raw:List (Int × Int × Int)):List (Int × Int × Int):=(raw.filter fun r=>decide (r.2.2 > 0)).map fun r=>(nth ns r.1,nth ns r.2.1,r.2.2 * tw)
theorem jjj {ns:List Int} (hp:ns.Pairwise (· < ·)) {tw:Int} {i:Int} (i0:0 ≤ i) (i1:i < ns.length):∀ {raw:List (Int × Int × Int)},(∀ r ∈ raw,0 ≤ r.1∧r.1 < r.2.1∧r.2.1 < ns.length)→(∀ r ∈ raw,0 ≤ r.2.2)→jaq (jbj ns tw raw) (nth ns i) = jaq raw i * tw
 | [],_,_=>by simp [jbj,jaq,jaq]
 | r :: raw,hx,hz=>by
  have ih:=jjj hp (tw:=tw) i0 i1 (raw:=raw) (fun q hq=>hx q (List.mem_cons_of_mem _ hq)) (fun q hq=>hz q (List.mem_cons_of_mem _ hq))
  have hr:=hx r (List.mem_cons_self ..)
  have hr0:=hz r (List.mem_cons_self ..)
  have c1:(nth ns r.1 = nth ns i) = (r.1 = i):=propext ⟨fun e=>jl3 hp hr.1 (by omega) i0 i1 e,fun e=>by rw [e]⟩
  have c2:(nth ns r.2.1 = nth ns i) = (r.2.1 = i):=propext ⟨fun e=>jl3 hp (by omega) hr.2.2 i0 i1 e,fun e=>by rw [e]⟩
  have e1:jaq (r :: raw) i = (if r.1 = i then r.2.2 else 0) + (if r.2.1 = i then r.2.2 else 0) + jaq raw i:=by
   unfold jaq
   rw [List.map_cons,List.sum_cons]
  by_cases c:r.2.2 > 0
  ·have e2:jbj ns tw (r :: raw) = (nth ns r.1,nth ns r.2.1,r.2.2 * tw) :: jbj ns tw raw:=by
    unfold jbj
    rw [List.filter_cons,if_pos (decide_eq_true c),List.map_cons]
   rw [e2,e1]
   unfold jaq at ih ⊢
   rw [List.map_cons,List.sum_cons,ih]
   simp only [c1,c2]
   rw [Int.add_mul,Int.add_mul]
   split <;> split <;> simp
  ·have e2:jbj ns tw (r :: raw) = jbj ns tw raw:=by
    unfold jbj
    rw [List.filter_cons,if_neg (by simpa using c)]
   have r0:r.2.2 = 0:=by omega
   rw [e2,ih,e1,r0]
   simp
theorem jot {ns:List Int} (hp:ns.Pairwise (· < ·)) {k j:Int} (k0:0 ≤ k) (kj:k < j) (j1:j < ns.length):nth ns k < nth ns j:=by
 have a1:k.toNat < ns.length:=by omega
 have a2:j.toNat < ns.length:=by omega
 unfold nth
 rw [List.getElem?_eq_getElem a1,List.getElem?_eq_getElem a2]
 exact List.pairwise_iff_getElem.mp hp _ _ a1 a2 (by omega)
abbrev Lx (a b:Int × Int):Prop:=HT.lexLt [a.1,a.2] [b.1,b.2] = true
theorem jro {ns:List Int} (hp:ns.Pairwise (· < ·)) {a b:Int × Int} (a0:0 ≤ a.1∧a.1 < a.2∧a.2 < ns.length) (b0:0 ≤ b.1∧b.1 < b.2∧b.2 < ns.length) (h:Lx a b):Lx (nth ns a.1,nth ns a.2) (nth ns b.1,nth ns b.2):=by
 rcases jg4 h with z | ⟨z1,z2⟩
 ·exact jjv (jot hp a0.1 z (by omega))
 ·unfold Lx
  dsimp only
  rw [z1]
  exact jp1 (jot hp (by omega) z2 b0.2.2)
theorem leL_no {a b:Int × Int} (h:Lx a b):leL [b.1,b.2] [a.1,a.2] = false:=by
 rcases jg4 h with z | ⟨z1,z2⟩
 ·rw [jm3,if_neg (by omega)]
  exact decide_eq_false (by omega)
 ·rw [jm3,if_pos z1.symm,jm3,if_neg (by omega)]
  exact decide_eq_false (by omega)
theorem jnd {kvs:List (Key × V)}:∀ {ts:List (Int × Int)} {q:Int × Int},ts.Pairwise Lx→(∀ t ∈ ts,Lx q t)→(∀ t ∈ ts,t.1 < t.2∧hasK kvs t.1 = true∧hasK kvs t.2 = true)→TiOk kvs q ts
 | [],_,_,_,_=>trivial
 | t :: r,q,h1,h2,h3=>by
  rw [List.pairwise_cons] at h1
  exact ⟨⟨h2 t (List.mem_cons_self ..),h3 t (List.mem_cons_self ..)⟩,jnd h1.2 h1.1 fun x hx=>h3 x (List.mem_cons_of_mem _ hx)⟩
theorem jmb {ts:List (Int × Int)}:∀ {ds:List (Int × Int × Int)} {q:Int × Int},ds.Pairwise (fun a b=>Lx (a.1,a.2.1) (b.1,b.2.1))→(∀ d ∈ ds,Lx q (d.1,d.2.1))→(∀ d ∈ ds,(d.1,d.2.1) ∈ ts∧1 ≤ d.2.2)→jcg ts q (ds.map tripD) = some ds
 | [],_,_,_,_=>rfl
 | d :: r,q,h1,h2,h3=>by
  rw [List.pairwise_cons] at h1
  have hd:=h3 d (List.mem_cons_self ..)
  rw [List.map_cons,jcg,show dueO (tripD d) = if 1 ≤ d.2.2 then some d else none from rfl,if_pos hd.2]
  dsimp only
  rw [if_pos ⟨hd.1,leL_no (a:=q) (b:=(d.1,d.2.1)) (h2 d (List.mem_cons_self ..))⟩,jmb h1.2 h1.1 fun x hx=>h3 x (List.mem_cons_of_mem _ hx)]
  rfl
theorem jlp {ns:List Int} {tw:Int}:∀ {raw:List (Int × Int × Int)},(∀ r ∈ raw,0 ≤ r.2.2)→((jbj ns tw raw).map (·.2.2)).sum = (raw.map fun r=>r.2.2 * tw).sum
 | [],_=>rfl
 | r :: raw,h=>by
  have ih:=jlp (ns:=ns) (tw:=tw) (raw:=raw) fun q hq=>h q (List.mem_cons_of_mem _ hq)
  have h0:=h r (List.mem_cons_self ..)
  unfold jbj at ih ⊢
  rw [List.filter_cons,List.map_cons,List.sum_cons]
  by_cases c:r.2.2 > 0
  ·rw [if_pos (decide_eq_true c),List.map_cons,List.map_cons,List.sum_cons,ih]
  ·rw [if_neg (by simpa using c),ih,show r.2.2 = 0 by omega]
   simp
end
end My
namespace My
open PySem L2
section
variable {P:Program} {w:World} {K:PySem.W.Frag} {mg:Str→Option Value} {base:Heap} {c1 c2 c3 c4:Tok} {C_NoWeb f_NoWeb:Addr} {dI:FuncData}
theorem jh2:∀ {ns cs:List Int} {p:Int × Int},ns.length = cs.length→p ∈ jbt ns cs→∃ k:Int,0 ≤ k∧k < cs.length∧p = (nth ns k,nth cs k)∧0 < nth cs k
 | [],[],p,_,h=>by cases h
 | n :: ns,c :: cs,p,e,h=>by
  have sub:p ∈ jbt ns cs→∃ k:Int,0 ≤ k∧k < (c :: cs).length∧p = (nth (n :: ns) k,nth (c :: cs) k)∧0 < nth (c :: cs) k:=fun hp=>by
   obtain ⟨k,k0,k1,e1,e2⟩:=jh2 (by simpa using e) hp
   exact ⟨k + 1,by omega,by rw [List.length_cons]; omega,by rw [jcf _ _ k0,jcf _ _ k0]; exact e1,by rw [jcf _ _ k0]; exact e2⟩
  rw [jbt] at h
  split at h
  ·rename_i c0
   rcases List.mem_cons.mp h with z | z
   ·exact ⟨0,by omega,by rw [List.length_cons]; omega,by rw [jdt,jdt]; exact z,by rw [jdt]; exact c0⟩
   ·exact sub z
  ·exact sub h
theorem jio:∀ {ns cs:List Int},ns.length = cs.length→∀ {k:Nat},k < cs.length→0 < nth cs k→(nth ns k,nth cs k) ∈ jbt ns cs
 | [],[],_,k,h,_=>by cases h
 | n :: ns,c :: cs,e,0,_,h=>by
  have h:0 < c:=h
  rw [jbt,if_pos h]
  exact List.mem_cons_self ..
 | n :: ns,c :: cs,e,k + 1,h1,h2=>by
  have k0:(0:Int) ≤ (k:Int):=by omega
  have e1:((k + 1:Nat):Int) = (k:Int) + 1:=by omega
  rw [e1,jcf _ _ k0] at h2
  rw [e1,jcf _ _ k0,jcf _ _ k0]
  have ih:=jio (ns:=ns) (cs:=cs) (by simpa using e) (k:=k) (by simpa using h1) h2
  rw [jbt]
  split
  ·exact List.mem_cons_of_mem _ ih
  ·exact ih
theorem jm5:∀ {ns cs hs:List Int},ns.length = cs.length→ns.length = hs.length→∀ {k:Nat},k < cs.length→0 < nth cs k→(nth ns k,nth hs k) ∈ jbp ns cs hs
 | [],[],[],_,_,k,h,_=>by cases h
 | n :: ns,c :: cs,g :: hs,e,_,0,_,h=>by
  have h:0 < c:=h
  rw [jbp,if_pos h]
  exact List.mem_cons_self ..
 | n :: ns,c :: cs,g :: hs,e,f,k + 1,h1,h2=>by
  have k0:(0:Int) ≤ (k:Int):=by omega
  have e1:((k + 1:Nat):Int) = (k:Int) + 1:=by omega
  rw [e1,jcf _ _ k0] at h2
  rw [e1,jcf _ _ k0,jcf _ _ k0]
  have ih:=jm5 (ns:=ns) (cs:=cs) (hs:=hs) (by simpa using e) (by simpa using f) (k:=k) (by simpa using h1) h2
  rw [jbp]
  split
  ·exact List.mem_cons_of_mem _ ih
  ·exact ih
theorem jh0:∀ {ns cs:List Int} {l s:Int},ns.length = cs.length→ns.Pairwise (· < ·)→(∀ n ∈ ns,l < n∧n ≤ 999)→(∀ c ∈ cs,0 ≤ c)→s + cs.sum ≤ 1000000000000→PlOk l s (jbt ns cs)
 | [],[],_,_,_,_,_,_,_=>trivial
 | n :: ns,c :: cs,l,s,e,hp,hn,hc,hs=>by
  rw [List.pairwise_cons] at hp
  have h0:=hn n (List.mem_cons_self ..)
  have h1:=hc c (List.mem_cons_self ..)
  have hc':∀ c ∈ cs,0 ≤ c:=fun x hx=>hc x (List.mem_cons_of_mem _ hx)
  rw [List.sum_cons] at hs
  have pos:∀ {xs:List Int},(∀ c ∈ xs,0 ≤ c)→0 ≤ xs.sum:=by
   intro xs
   induction xs with
   | nil=>intro _; exact Int.le_refl _
   | cons a r ih =>
    intro h
    have:=ih fun x hx=>h x (List.mem_cons_of_mem _ hx)
    have:=h a (List.mem_cons_self ..)
    rw [List.sum_cons]; omega
  have p0:=pos hc'
  rw [jbt]
  split
  ·rename_i c0
   exact ⟨⟨h0.1,h0.2,by show 1 ≤ c; omega,by show c ≤ 1000000000000 - s; omega⟩,jh0 (by simpa using e) hp.2 (fun x hx=>⟨hp.1 x hx,(hn x (List.mem_cons_of_mem _ hx)).2⟩) hc' (by show s + c + _ ≤ _; omega)⟩
  ·exact jh0 (by simpa using e) hp.2 (fun x hx=>hn x (List.mem_cons_of_mem _ hx)) hc' (by omega)
def jcn (ns cs:List Int) (raw:List (Int × Int × Int)):List (Int × Int):=(raw.filter fun r=>decide (0 < nth cs r.1) && decide (0 < nth cs r.2.1)).map fun r=>(nth ns r.1,nth ns r.2.1)
structure Laid (hs ns cs:List Int) (raw:List (Int × Int × Int)) (tw:Int):Prop where
 nl:ns.length = hs.length
 cl:cs.length = hs.length
 hl:hs.length ≤ 9
 hb:∀ h ∈ hs,0 ≤ h∧h ≤ 2
 rise:ns.Pairwise (· < ·)
 nb:∀ n ∈ ns,-1 < n∧n ≤ 999
 ix:∀ r ∈ raw,0 ≤ r.1∧r.1 < r.2.1∧r.2.1 < hs.length
 len:raw.length ≤ 81
 up:raw.Pairwise fun a b=>Lx (a.1,a.2.1) (b.1,b.2.1)
 pos:∀ r ∈ raw,0 ≤ r.2.2
 two:∀ r ∈ raw,2 ≤ nth hs r.1 + nth hs r.2.1
 due:∀ r ∈ raw,0 < r.2.2→nth hs r.1 + nth hs r.2.1 = 2
 tw1:1 ≤ tw
 even:∀ k:Int,0 ≤ k→k < hs.length→0 < nth hs k→(jaq raw k * tw) % 2 = 0
 some':∀ k:Int,0 ≤ k→k < hs.length→¬ nth hs k = 0→nth cs k = jaq raw k * tw / 2
 none':∀ k:Int,0 ≤ k→k < hs.length→nth hs k = 0→1 ≤ nth cs k∧jaq raw k * tw ≤ 2 * nth cs k
 cpos:∀ c ∈ cs,0 ≤ c
 cap:cs.sum ≤ 1000000000000
end
end My
namespace My
open PySem L2
section
variable {P:Program} {w:World} {K:PySem.W.Frag} {mg:Str→Option Value} {base:Heap} {c1 c2 c3 c4:Tok} {C_NoWeb f_NoWeb:Addr} {dI:FuncData}
theorem joi {raw:List (Int × Int × Int)} (h:∀ r ∈ raw,0 ≤ r.2.2) (k:Int):0 ≤ jaq raw k:=by
 induction raw with
 | nil=>exact Int.le_refl _
 | cons a t ih =>
  have i:=ih fun x hx=>h x (List.mem_cons_of_mem _ hx)
  have h0:=h a (List.mem_cons_self ..)
  unfold jaq at i ⊢
  rw [List.map_cons,List.sum_cons]
  split <;> split <;> omega
theorem joj {raw:List (Int × Int × Int)} (h:∀ r ∈ raw,0 ≤ r.2.2) {r:Int × Int × Int} (hr:r ∈ raw) {k:Int} (hk:r.1 = k ∨ r.2.1 = k):r.2.2 ≤ jaq raw k:=by
 induction raw with
 | nil=>cases hr
 | cons a t ih =>
  have h0:=h a (List.mem_cons_self ..)
  have ht:∀ r ∈ t,0 ≤ r.2.2:=fun x hx=>h x (List.mem_cons_of_mem _ hx)
  have nn:=joi ht k
  have e:jaq (a :: t) k = (if a.1 = k then a.2.2 else 0) + (if a.2.1 = k then a.2.2 else 0) + jaq t k:=by
   unfold jaq
   rw [List.map_cons,List.sum_cons]
  rw [e]
  rcases List.mem_cons.mp hr with z | z
  ·subst z
   rcases hk with q | q
   ·rw [if_pos q]; split <;> omega
   ·rw [if_pos q]; split <;> omega
  ·have i:=ih ht z
   split <;> split <;> omega
section
variable {hs ns cs:List Int} {raw:List (Int × Int × Int)} {tw:Int}
theorem Laid.plok (L:Laid hs ns cs raw tw):PlOk (-1) 0 (jbt ns cs):=jh0 (by rw [L.nl,L.cl]) L.rise L.nb L.cpos (by have:=L.cap; omega)
theorem Laid.kin (L:Laid hs ns cs raw tw) {k:Int} (k0:0 ≤ k) (k1:k < hs.length) (hc:0 < nth cs k):(nth ns k,nth cs k) ∈ jbt ns cs:=by
 have e:((k.toNat:Nat):Int) = k:=by omega
 have:=jio (ns:=ns) (cs:=cs) (by rw [L.nl,L.cl]) (k:=k.toNat) (by rw [L.cl]; omega) (by rw [e]; exact hc)
 rw [e] at this
 exact this
theorem Laid.web (L:Laid hs ns cs raw tw):WebOk (jbt ns cs) (jcn ns cs raw):=by
 have hl:=L.hl
 have nl:=L.nl
 refine ⟨?_,L.plok,?_,?_⟩
 ·have:=(jev (ns:=ns) (cs:=cs)).length_le
  rw [List.length_map] at this
  omega
 ·unfold jcn
  rw [List.length_map]
  have:=List.length_filter_le (fun r:Int × Int × Int=>decide (0 < nth cs r.1) && decide (0 < nth cs r.2.1)) raw
  have:=L.len
  omega
 ·unfold jcn
  refine jnd ?_ ?_ ?_
  ·rw [List.pairwise_map]
   refine (L.up.filter _).imp_of_mem fun {a b} ha hb h=>?_
   have i1:=L.ix a (List.mem_filter.mp ha).1
   have i2:=L.ix b (List.mem_filter.mp hb).1
   exact jro L.rise (a:=(a.1,a.2.1)) (b:=(b.1,b.2.1)) ⟨i1.1,i1.2.1,by show a.2.1 < _; omega⟩ ⟨i2.1,i2.2.1,by show b.2.1 < _; omega⟩ h
  ·intro t ht
   obtain ⟨r,hr,rfl⟩:=List.mem_map.mp ht
   have i1:=L.ix r (List.mem_filter.mp hr).1
   exact jjv (L.nb _ (jdh i1.1 (by omega))).1
  ·intro t ht
   obtain ⟨r,hr,rfl⟩:=List.mem_map.mp ht
   obtain ⟨hr1,hr2⟩:=List.mem_filter.mp hr
   have i1:=L.ix r hr1
   have c:=(Bool.and_eq_true _ _).mp hr2
   exact ⟨jot L.rise i1.1 i1.2.1 (by omega),jpe (p:=(nth ns r.1,nth cs r.1)) L.plok.nodup (L.kin i1.1 (by omega) (of_decide_eq_true c.1)),jpe (p:=(nth ns r.2.1,nth cs r.2.1)) L.plok.nodup (L.kin (by omega) i1.2.2 (of_decide_eq_true c.2))⟩
theorem Laid.cpos' (L:Laid hs ns cs raw tw) {r:Int × Int × Int} (hr:r ∈ raw) (h0:0 < r.2.2) {k:Int} (hk:r.1 = k ∨ r.2.1 = k):0 < nth cs k:=by
 have i1:=L.ix r hr
 have g:=joj L.pos hr hk
 have kr:0 ≤ k∧k < hs.length:=by rcases hk with z | z <;> omega
 by_cases c:nth hs k = 0
 ·have:=(L.none' k kr.1 kr.2 c).1
  omega
 ·have hb:=L.hb _ (jdh kr.1 kr.2)
  have e:=L.even k kr.1 kr.2 (by omega)
  rw [L.some' k kr.1 kr.2 c]
  have:0 < jaq raw k * tw:=Int.mul_pos (by omega) (by have:=L.tw1; omega)
  omega
theorem Laid.half (L:Laid hs ns cs raw tw) {k:Int} (k0:0 ≤ k) (k1:k < hs.length) (hc:0 < nth cs k):hOf (jbp ns cs hs) (nth ns k) = nth hs k:=by
 have ho:=jeu (ns:=ns) (cs:=cs) (hs:=hs) (by rw [L.nl,L.cl]) L.nl L.hb
 have nd:((jbp ns cs hs).map (·.1)).Nodup:=by rw [(jdc ho).2.1]; exact L.plok.nodup
 have e:((k.toNat:Nat):Int) = k:=by omega
 have:=jm5 (ns:=ns) (cs:=cs) (hs:=hs) (by rw [L.nl,L.cl]) L.nl (k:=k.toNat) (by rw [L.cl]; omega) (by rw [e]; exact hc)
 rw [e] at this
 exact jpf nd this
theorem Laid.stands (L:Laid hs ns cs raw tw):jc1 (jbt ns cs) (jcn ns cs raw) (.tup [.lst ((jbp ns cs hs).map jb9),.lst ((jbj ns tw raw).map tripD)]) = true:=by
 have hl:=L.hl
 have nl:=L.nl
 have ho:=jeu (ns:=ns) (cs:=cs) (hs:=hs) (by rw [L.nl,L.cl]) L.nl L.hb
 have hix:∀ r ∈ raw,0 ≤ r.1∧r.1 < r.2.1∧r.2.1 < ns.length:=fun r hr=>by have:=L.ix r hr; omega
 have qo:jcg (jcn ns cs raw) (-1,-1) ((jbj ns tw raw).map tripD) = some (jbj ns tw raw):=by
  unfold jbj
  refine jmb ?_ ?_ ?_
  ·rw [List.pairwise_map]
   refine (L.up.filter _).imp_of_mem fun {a b} ha hb h=>?_
   exact jro L.rise (a:=(a.1,a.2.1)) (b:=(b.1,b.2.1)) (hix a (List.mem_filter.mp ha).1) (hix b (List.mem_filter.mp hb).1) h
  ·intro t ht
   obtain ⟨r,hr,rfl⟩:=List.mem_map.mp ht
   have i1:=hix r (List.mem_filter.mp hr).1
   exact jjv (L.nb _ (jdh i1.1 (by omega))).1
  ·intro t ht
   obtain ⟨r,hr,rfl⟩:=List.mem_map.mp ht
   obtain ⟨hr1,hr2⟩:=List.mem_filter.mp hr
   have h0:0 < r.2.2:=of_decide_eq_true hr2
   refine ⟨?_,?_⟩
   ·unfold jcn
    refine List.mem_map.mpr ⟨r,List.mem_filter.mpr ⟨hr1,?_⟩,rfl⟩
    rw [decide_eq_true (L.cpos' hr1 h0 (.inl rfl)),decide_eq_true (L.cpos' hr1 h0 (.inr rfl))]
    rfl
   ·have:0 < r.2.2 * tw:=Int.mul_pos h0 (by have:=L.tw1; omega)
    show 1 ≤ r.2.2 * tw
    omega
 rw [jda]
 unfold pap2
 dsimp only
 rw [ho,qo]
 dsimp only
 have e1:jga (jcn ns cs raw) (jbp ns cs hs) = true:=by
  unfold jga jcn
  refine List.all_eq_true.mpr fun t ht=>decide_eq_true ?_
  obtain ⟨r,hr,rfl⟩:=List.mem_map.mp ht
  obtain ⟨hr1,hr2⟩:=List.mem_filter.mp hr
  have i1:=L.ix r hr1
  have c:=(Bool.and_eq_true _ _).mp hr2
  dsimp only
  rw [L.half i1.1 (by omega) (of_decide_eq_true c.1),L.half (by omega) i1.2.2 (of_decide_eq_true c.2)]
  exact L.two r hr1
 have e2:jgi (jbt ns cs) (jbj ns tw raw) = true:=by
  unfold jgi
  refine List.all_eq_true.mpr fun p hp=>decide_eq_true ?_
  obtain ⟨k,k0,k1,rfl,_⟩:=jh2 (by rw [L.nl,L.cl]) hp
  have k2:k < hs.length:=by rw [← L.cl]; exact k1
  dsimp only
  rw [jjj L.rise k0 (by omega) hix L.pos]
  by_cases c:nth hs k = 0
  ·exact (L.none' k k0 k2 c).2
  ·have hb:=L.hb _ (jdh k0 k2)
   have e:=L.even k k0 k2 (by omega)
   rw [L.some' k k0 k2 c]
   omega
 have e3:((jbj ns tw raw).map (·.2.2)).sum = jmx (jbt ns cs) (jbp ns cs hs):=by
  unfold jmx
  rw [jh1 (f:=hOf (jbt ns cs)) (by rw [L.nl,L.cl]) L.nl L.cpos (fun p hp=>jpf L.plok.nodup hp),jlp L.pos]
  refine (jpu L.cl L.ix (fun r hr=>?_) fun k k0 k1=>?_).symm
  ·by_cases c:r.2.2 = 0
   ·exact .inl c
   ·exact .inr (L.due r hr (by have:=L.pos r hr; omega))
  ·by_cases c:nth hs k = 0
   ·exact .inl c
   ·have hb:=L.hb _ (jdh k0 k1)
    have e:=L.even k k0 k1 (by omega)
    refine .inr ?_
    rw [L.some' k k0 k1 c]
    omega
 rw [e1,e2,decide_eq_true e3]
 rfl
end
end
end My
namespace My
open PySem L2
section
variable {P:Program} {w:World} {K:PySem.W.Frag} {mg:Str→Option Value} {base:Heap} {c1 c2 c3 c4:Tok} {C_NoWeb f_NoWeb:Addr} {dI:FuncData}
theorem jml (ds:List (Int × Int × Int)) (d:Int × Int × Int) (p:Int):jaq (ds ++ [d]) p = jaq ds p + (if d.1 = p then d.2.2 else 0) + (if d.2.1 = p then d.2.2 else 0):=by
 unfold jaq
 rw [List.map_append,List.sum_append]
 simp
 omega
structure RawOk (hs:List Int) (raw:List (Int × Int × Int)):Prop where
 ix:∀ r ∈ raw,0 ≤ r.1∧r.1 < r.2.1∧r.2.1 < hs.length
 pos:∀ r ∈ raw,0 ≤ r.2.2
 top:∀ r ∈ raw,r.2.2 ≤ 1000000000
 two:∀ r ∈ raw,2 ≤ nth hs r.1 + nth hs r.2.1
 due:∀ r ∈ raw,0 < r.2.2→nth hs r.1 + nth hs r.2.1 = 2
 up:raw.Pairwise fun a b=>Lx (a.1,a.2.1) (b.1,b.2.1)
 len:raw.length ≤ 81
 hl:hs.length ≤ 9
 hb:∀ h ∈ hs,0 ≤ h∧h ≤ 2
theorem jsj {raw:List (Int × Int × Int)} (h:∀ r ∈ raw,r.1 < r.2.1∧0 ≤ r.2.2∧r.2.2 ≤ 1000000000) (k:Int):jaq raw k ≤ 1000000000 * raw.length:=by
 induction raw with
 | nil=>exact Int.le_refl _
 | cons a t ih =>
  have i:=ih fun x hx=>h x (List.mem_cons_of_mem _ hx)
  have h0:=h a (List.mem_cons_self ..)
  unfold jaq at i ⊢
  rw [List.map_cons,List.sum_cons,List.length_cons]
  split <;> split <;> omega
theorem RawOk.ple {hs:List Int} {raw:List (Int × Int × Int)} (R:RawOk hs raw) (k:Int):0 ≤ jaq raw k∧jaq raw k ≤ 81000000000:=by
 have a:=jsj (raw:=raw) (fun r hr=>⟨(R.ix r hr).2.1,R.pos r hr,R.top r hr⟩) k
 have b:=R.len
 exact ⟨joi R.pos k,by omega⟩
theorem jr3 (ns:List Int) (tw:Int) (raw:List (Int × Int × Int)):(jbj ns tw raw).length ≤ raw.length:=by
 unfold jbj
 rw [List.length_map]
 exact List.length_filter_le _ _
theorem jpj {ns:List Int} {tw:Int} {raw:List (Int × Int × Int)} {i:Nat} {r:Int × Int × Int} (h:raw[i]? = some r):jbj ns tw (raw.take (i + 1)) = jbj ns tw (raw.take i) ++ if decide (r.2.2 > 0) = true then [(nth ns r.1,nth ns r.2.1,r.2.2 * tw)] else []:=by
 unfold jbj
 rw [jar h,List.filter_append,List.map_append]
 congr 1
 rw [List.filter_cons]
 split <;> simp
theorem jqn {xs:List Int} {n k:Int} (h0:0 ≤ k) (h1:k < xs.length):nth (xs ++ [n]) k = nth xs k:=by
 unfold nth
 rw [List.getElem?_append_left (by omega)]
theorem jqo {xs:List Int} {n:Int}:nth (xs ++ [n]) xs.length = n:=by
 unfold nth
 simp
def jdb (hs:List Int) (raw:List (Int × Int × Int)) (i:Nat):List Int:=((List.range i).filter fun (k:Nat)=>decide (nth hs (k:Int) > 0)).map fun (k:Nat)=>jaq raw (k:Int) % 2
theorem jor (hs:List Int) (raw:List (Int × Int × Int)) (i:Nat):jdb hs raw (i + 1) = jdb hs raw i ++ if decide (nth hs i > 0) = true then [jaq raw i % 2] else []:=by
 unfold jdb
 rw [List.range_succ,List.filter_append,List.map_append]
 congr 1
 rw [List.filter_cons]
 split <;> simp
theorem jql (hs:List Int) (raw:List (Int × Int × Int)) (i:Nat):(jdb hs raw i).length ≤ i:=by
 unfold jdb
 rw [List.length_map]
 exact Nat.le_trans (List.length_filter_le _ _) (by rw [List.length_range]; exact Nat.le_refl _)
theorem jos {hs:List Int} {raw:List (Int × Int × Int)} {m:Int} (h1:jdb hs raw hs.length = []→m = 0) (h2:jdb hs raw hs.length ≠ []→m ∈ jdb hs raw hs.length) (h3:∀ x ∈ jdb hs raw hs.length,x ≤ m) :
  (0 ≤ m∧m ≤ 1)∧∀ k:Int,0 ≤ k→k < hs.length→0 < nth hs k→(jaq raw k * (1 + m)) % 2 = 0:=by
 have hb:0 ≤ m∧m ≤ 1:=by
  by_cases c:jdb hs raw hs.length = []
  ·have:=h1 c; omega
  ·obtain ⟨k,_,e⟩:=List.mem_map.mp (h2 c)
   have:=Int.emod_nonneg (jaq raw k) (show (2:Int) ≠ 0 by decide)
   have:=Int.emod_lt_of_pos (jaq raw k) (show (0:Int) < 2 by decide)
   omega
 refine ⟨hb,fun k k0 k1 hk=>?_⟩
 have hm:jaq raw k % 2 ∈ jdb hs raw hs.length:=by
  refine List.mem_map.mpr ⟨k.toNat,List.mem_filter.mpr ⟨List.mem_range.mpr (by omega),?_⟩,?_⟩
  ·rw [show ((k.toNat:Nat):Int) = k by omega]
   exact decide_eq_true hk
  ·rw [show ((k.toNat:Nat):Int) = k by omega]
 have h4:=h3 _ hm
 have:m = 0 ∨ m = 1:=by omega
 rcases this with rfl | rfl
 ·rw [show (1:Int) + 0 = 1 from rfl,Int.mul_one]
  have:=Int.emod_nonneg (jaq raw k) (show (2:Int) ≠ 0 by decide)
  omega
 ·rw [show (1:Int) + 1 = 2 from rfl]
  omega
def Rw (H:Hp) (v:V) (r:Int × Int × Int):Prop:=∃ a,v = .ref a∧H a = some (.lst [.int r.1,.int r.2.1,.int r.2.2])
abbrev Rws (H:Hp):List V→List (Int × Int × Int)→Prop:=Paired (Rw H)
theorem Rws.same {H H':Hp} (s:Same H H') {xs:List V} {rs:List (Int × Int × Int)} (h:Rws H xs rs):Rws H' xs rs:=Paired.mapP h fun _ _ ⟨a,e,q⟩=>⟨a,e,s _ _ q⟩
theorem jrq {H:Hp} {st a:Addr} {o:HO} {ns:List Int} (e:H st = some o) (so:StO o) (ea:H a = some (.lst (ns.map V.int))):a ≠ st:=fun z=>by
 rw [z,e] at ea
 obtain ⟨c,x,fl,rfl,_⟩:=so
 have:[V.int c,.int x,.bl fl] = ns.map V.int:=by injection ea with ea; injection ea
 match ns,this with
 | [a,b,d],h=>simp at h
theorem Rw.but {H H':Hp} {st:Addr} {o:HO} (e:H st = some o) (so:StO o) (b:But st H H') {v:V} {r:Int × Int × Int} (h:Rw H v r):Rw H' v r:=by
 obtain ⟨a,e1,q⟩:=h
 have q':H a = some (.lst ([r.1,r.2.1,r.2.2].map V.int)):=q
 exact ⟨a,e1,b _ _ (jrq e so q') q⟩
theorem Rws.but {H H':Hp} {st:Addr} {o:HO} (e:H st = some o) (so:StO o) (b:But st H H') {xs:List V} {rs:List (Int × Int × Int)} (h:Rws H xs rs):Rws H' xs rs:=Paired.mapP h fun _ _ q=>q.but e so b
theorem ji5 {H:Hp}:∀ {xs:List V} {ps:List (Int × Int × Int)},Rws H xs ps→∀ v ∈ xs,∃ t,v = .ref t
 | _,_,.nil=>fun v h=>by cases h
 | _,_,.cons r t=>fun v h=>by
  rcases List.mem_cons.mp h with z | z
  ·obtain ⟨b,e,_⟩:=r; rw [z]; exact ⟨b,e⟩
  ·exact ji5 t v z
theorem jqm {zs:List Int} (h:∀ x ∈ zs,x = 0) (k:Int):nth zs k = 0:=by
 unfold nth
 cases e:zs[k.toNat]? with
 | none=>rfl
 | some v=>exact h v (List.mem_of_getElem? e)
theorem menu3 {a b c d:Int} (h0:0 ≤ d) (h1:d < 3):∃ v,atI [V.int a,.int b,.int c] d = some (.int v)∧(v = a ∨ v = b ∨ v = c):=by
 have hd:d = 0 ∨ d = 1 ∨ d = 2:=by omega
 rcases hd with rfl | rfl | rfl
 ·exact ⟨a,at0,.inl rfl⟩
 ·exact ⟨b,at1,.inr (.inl rfl)⟩
 ·exact ⟨c,at2,.inr (.inr rfl)⟩
def PrOk (hs:List Int) (raw:List (Int × Int × Int)) (tw:Int) (i:Int) (c:Int):Prop:=(¬ nth hs i = 0→c = jaq raw i * tw / 2)∧(nth hs i = 0→1 ≤ c∧jaq raw i * tw ≤ 2 * c)∧0 ≤ c∧c ≤ 90000000000
structure PlC (hs:List Int) (raw:List (Int × Int × Int)) (tw:Int) (i:Nat) (ns cs:List Int):Prop where
 len:ns.length = i
 cl:cs.length = i
 rise:ns.Pairwise (· < ·)
 at':∀ k:Int,0 ≤ k→k < i→PrOk hs raw tw k (nth cs k)
def PlW (hs:List Int) (raw:List (Int × Int × Int)) (tw:Int) (i:Nat) (ns:List Int) (ps qs:List (Int × Int)):Prop:=∃ cs,PlC hs raw tw i ns cs∧ps = jbt ns cs∧qs = jbp ns cs (hs.take i)
theorem jjz:∀ (ns cs hs:List Int),(jbp ns cs hs).length ≤ ns.length
 | [],_,_=>by simp [jbp]
 | _ :: _,[],_=>by simp [jbp]
 | _ :: _,_ :: _,[]=>by simp [jbp]
 | n :: ns,c :: cs,h :: hs=>by
  have:=jjz ns cs hs
  rw [jbp]
  split <;> simp only [List.length_cons] <;> omega
theorem jp7 (ns cs:List Int):(jbt ns cs).length ≤ ns.length:=by
 have:=(jev (ns:=ns) (cs:=cs)).length_le
 rw [List.length_map] at this
 exact this
theorem PlW.len {hs:List Int} {raw:List (Int × Int × Int)} {tw:Int} {i:Nat} {ns:List Int} {ps qs:List (Int × Int)} (h:PlW hs raw tw i ns ps qs):ns.length = i:=let ⟨_,c,_⟩:=h; c.len
theorem PlW.pl {hs:List Int} {raw:List (Int × Int × Int)} {tw:Int} {i:Nat} {ns:List Int} {ps qs:List (Int × Int)} (h:PlW hs raw tw i ns ps qs):ps.length ≤ i:=by
 obtain ⟨cs,c,rfl,_⟩:=h
 have:=jp7 ns cs
 have:=c.len
 omega
theorem PlW.step' {hs:List Int} {raw:List (Int × Int × Int)} {tw:Int} {i:Nat} {ns:List Int} {ps qs:List (Int × Int)} (h:PlW hs raw tw i ns ps qs) (hi:i < hs.length) {n pr:Int} (hn:∀ x ∈ ns,x < n) (hp:PrOk hs raw tw i pr):PlW hs raw tw (i + 1) (ns ++ [n]) (ps ++ if 0 < pr then [(n,pr)] else []) (qs ++ if 0 < pr then [(n,nth hs i)] else []):=by
 obtain ⟨cs,c,rfl,rfl⟩:=h
 have e1:=c.len
 have e2:=c.cl
 have e3:hs[i]? = some (nth hs i):=by
  unfold nth
  rw [show ((i:Int)).toNat = i by omega,List.getElem?_eq_getElem hi]
  rfl
 refine ⟨cs ++ [pr],⟨by rw [List.length_append,List.length_singleton,e1],by rw [List.length_append,List.length_singleton,e2],List.pairwise_append.mpr ⟨c.rise,List.pairwise_singleton _ _,fun a ha b hb=>by rw [List.mem_singleton.mp hb]; exact hn a ha⟩,fun k k0 k1=>?_⟩,?_,?_⟩
 ·by_cases z:k = (i:Int)
  ·have e4:nth (cs ++ [pr]) k = pr:=by rw [z,← e2,jqo]
   rw [e4,z]; exact hp
  ·rw [jqn k0 (by omega)]
   exact c.at' k k0 (by omega)
 ·rw [jhs (by omega)]
 ·rw [jar e3,jht (by omega) (by rw [List.length_take]; omega)]
end
end My
namespace My
open PySem L2
section
variable {P:Program} {w:World} {K:PySem.W.Frag} {mg:Str→Option Value} {base:Heap} {c1 c2 c3 c4:Tok} {C_NoWeb f_NoWeb:Addr} {dI:FuncData}
theorem jso {H:Hp} {st a:Addr} {o:HO} {xs:List V} (e:H st = some o) (so:StO o) (ea:H a = some (.lst xs)) (hx:∀ v ∈ xs,∃ t,v = .ref t):a ≠ st:=fun z=>by
 rw [z,e] at ea
 obtain ⟨c,x,fl,rfl,_⟩:=so
 cases ea
 obtain ⟨t,e⟩:=hx (.int c) (List.mem_cons_self ..)
 cases e
theorem jfj {s p:Addr} {H H':Hp} {o:HO} (b:But s H H') (h:H p = none):But s H (upd H' p o):=fun x u nx q=>by rw [jae (jab q h)]; exact b x u nx q
theorem But.same {s:Addr} {H H':Hp} (h:Same H H'):But s H H':=fun b o _ q=>h b o q
theorem RawOk.xle {hs:List Int} {raw:List (Int × Int × Int)} {tw:Int} (R:RawOk hs raw) (h:1 ≤ tw∧tw ≤ 2) (k:Int):0 ≤ jaq raw k * tw∧jaq raw k * tw ≤ 162000000000:=by
 have p:=R.ple k
 have t:tw = 1 ∨ tw = 2:=by omega
 rcases t with rfl | rfl <;> omega
theorem PlC.mem {hs:List Int} {raw:List (Int × Int × Int)} {tw:Int} {i:Nat} {ns cs:List Int} (C:PlC hs raw tw i ns cs):∀ c ∈ cs,0 ≤ c∧c ≤ 90000000000:=fun c hc=>by
 obtain ⟨j,hj,rfl⟩:=List.mem_iff_getElem.mp hc
 have:=C.at' (j:Int) (by omega) (by have:=C.cl; omega)
 have e:nth cs (j:Int) = cs[j]:=by
  unfold nth
  rw [show ((j:Int)).toNat = j by omega,List.getElem?_eq_getElem hj]
  rfl
 rw [e] at this
 exact this.2.2
theorem jr8 {b:Int}:∀ {cs:List Int},(∀ c ∈ cs,c ≤ b)→cs.sum ≤ b * cs.length
 | [],_=>by simp
 | c :: cs,h=>by
  have i:=jr8 (cs:=cs) fun x hx=>h x (List.mem_cons_of_mem _ hx)
  have:=h c (List.mem_cons_self ..)
  rw [List.sum_cons,List.length_cons,Int.natCast_add,Int.mul_add]
  omega
theorem jqt {hs ns cs:List Int} (nl:ns.length = hs.length) (cl:cs.length = hs.length) (hb:∀ h ∈ hs,0 ≤ h∧h ≤ 2) (rise:ns.Pairwise (· < ·)) {k:Int} (k0:0 ≤ k) (k1:k < hs.length):nth ns k ∈ (jbp ns cs hs).map (·.1) ↔ 0 < nth cs k:=by
 rw [(jdc (jeu (ns:=ns) (cs:=cs) (hs:=hs) (by omega) nl hb)).2.1]
 constructor
 ·intro h
  obtain ⟨p,hp,e⟩:=List.mem_map.mp h
  obtain ⟨j,j0,j1,rfl,j2⟩:=jh2 (by omega) hp
  have:=jl3 rise k0 (by omega) j0 (by omega) e.symm
  rw [this]; exact j2
 ·intro h
  have e:((k.toNat:Nat):Int) = k:=by omega
  have:=jio (ns:=ns) (cs:=cs) (by omega) (k:=k.toNat) (by omega) (by rw [e]; exact h)
  rw [e] at this
  exact List.mem_map.mpr ⟨_,this,rfl⟩
def jj7:Sp:=fun vs H Q _=>∃ (st ha ra:Addr) (o:HO) (hs:List Int) (rx:List V) (raw:List (Int × Int × Int)),vs = [.ref st,.ref ha,.ref ra]∧H st = some o∧StO o∧H ha = some (.lst (hs.map V.int))∧H ra = some (.lst rx)∧Rws H rx raw∧RawOk hs raw ∧
 ∀ (t:Addr) (wv:V) (hl da:Addr) (hx dx:List V) (ns cs:List Int) (tw:Int) (H':Hp) (o':HO),But st H H'→H' st = some o'→StO o'→H' t = some (.tup [wv,.ref hl,.ref da])→jc4 H' wv (jbt ns cs) (jcn ns cs raw)→H' hl = some (.lst hx)→Prs H' hx (jbp ns cs hs)→H' da = some (.lst dx)→Tps H' dx (jbj ns tw raw)→Laid hs ns cs raw tw→Q (.ref t) H'
theorem jie {f:Addr} {fd:FuncData} {f_law_take:Addr} {d_law_take:FuncData} (B:Blt mg) (D:DefAt K mg "_law_priced" (top 40) ["_law_state","_law_hs","_law_raw"] f fd) (D_law_take:DefAt K mg "_law_take" (top 39) ["_law_state","_law_many"] f_law_take d_law_take) (G_law_take:FnOk P w K mg base CX0 1 f_law_take d_law_take ["_law_state","_law_many"] jfk):FnOk P w K mg base CX0 2 f fd ["_law_state","_law_hs","_law_raw"] jj7:=by
 have sc:FnScope ["_law_state","_law_hs","_law_raw","_law_paid","_law_k","_law_j","_law_due","_law_twice","_law_number","_law_names","_law_places","_law_halves","_law_price","_law_kept","_law_ties","_law_dues"] ["_law_state","_law_hs","_law_raw"] (jaf (top 40)):=⟨rfl,rfl,rfl,by decide +kernel,rfl,by decide +kernel,by decide +kernel⟩
 refine D.F.ok sc (fun vs H Q E h=>?_) (fun cdv A outer s H vs Q E hr h=>?_)
 ·obtain ⟨st,ha,ra,o,hs,rx,raw,rfl,_⟩:=h
  rfl
 obtain ⟨st,ha,ra,o,hs,rx,raw,rfl,es,so,eh,er,pr,R,h⟩:=h
 have hrx:rx.length = raw.length:=Paired.length pr
 have nha:=jrq es so eh
 have nra:=jso es so er (ji5 pr)
 have hhl:=R.hl
 have hrl:=R.len
 have hu:=jbh hr
 have hu0:_ < PySem.cLine:=Nat.lt_of_succ_lt hu
 refine ⟨_,(ja2 (jak (i:=3) sc.nd rfl (Or.inr rfl) (jbw (CpScope.of (N:=["_law_h"]) (src:=[none]) (by rfl)) rfl (jaw (qv 1)) (fun _ _ _ _=>(ja9 (i:=0) (jai (l:=["_law_h"]) (by rfl)) rfl (Or.inl rfl))) (fun _ _ _ _=>jc3) (fun _ _ _ _=>ja4))) (ja2 (jbm PassesOwn.never rfl (jaw (qv 2)) (jo6 (n:=3) rfl (jag (ja9 (i:=4) sc.nd rfl (Or.inl rfl)) (jag (ja9 (i:=5) sc.nd rfl (Or.inl rfl)) (jag (ja9 (i:=6) sc.nd rfl (Or.inl rfl)) jbf)))) (ja2 (jd3 (jau jc8 (jac q_ix (qv 3) (qv 4) (fun _ _=>rfl)) (qv 6)) (jd8 (qv 3) (qv 4) jd7)) (ja6 (jd3 (jau jc8 (jac q_ix (qv 3) (qv 5) (fun _ _=>rfl)) (qv 6)) (jd8 (qv 3) (qv 5) jd7))))) (ja2 (jak (i:=7) sc.nd rfl (Or.inr rfl) (jau jc8 ja4 (jjf (jpy rfl) rfl B.max PyProof.Rows.boot_max (ja0 (jbw (CpScope.of (N:=["_law_k","_law_paid","_law_hs"]) (src:=[none,some 3,some 1]) (by rfl)) rfl (jbv rfl B.range (ja0 (jad jcj rfl B.len PySem.boot_len (ja0 (qv 1) ja3)) ja3)) (fun _ _ _ _=>(ja9 (i:=0) (jai (l:=["_law_k","_law_paid","_law_hs"]) (by rfl)) rfl (Or.inl rfl))) (fun _ _ _ _=>(jd4 (jao q_gt (jac q_ix (qv 2) (qv 0) (fun _ _=>rfl)) ja4 (jam _)))) (fun _ _ _ _=>(jau jjd (jac q_ix (qv 1) (qv 0) (fun _ _=>rfl)) ja4))) ja3) (job ja4 jrl)))) (ja2 (jak (i:=8) sc.nd rfl (Or.inl rfl) (jdr jdo ja4)) (ja2 (jak (i:=9) sc.nd rfl (Or.inr rfl) (jc0 ja3)) (ja2 (jak (i:=10) sc.nd rfl (Or.inl rfl) (jc0 ja3)) (ja2 (jak (i:=11) sc.nd rfl (Or.inl rfl) (jc0 ja3)) (ja2 (jbm PassesOwn.never rfl (jbv rfl B.range (ja0 (jad jcj rfl B.len PySem.boot_len (ja0 (qv 1) ja3)) ja3)) (ja9 (i:=4) sc.nd rfl (Or.inl rfl)) (ja2 (jak (i:=8) sc.nd rfl (Or.inl rfl) (jau jc8 (jau jc8 (qv 8) ja4) (ja7 G_law_take (hr.mono (by decide)) rfl D_law_take.m D_law_take.F.kp D_law_take.b .nil jap (ja0 (qv 0) (ja0 (jac q_ix (jc0 (ja0 ja4 (ja0 ja4 (ja0 ja4 ja3)))) (ja7 G_law_take (hr.mono (by decide)) rfl D_law_take.m D_law_take.F.kp D_law_take.b .nil jap (ja0 (qv 0) (ja0 ja4 ja3))) (fun _ _=>rfl)) ja3))))) (ja2 (jce (q_bm PySem.F.plainAttrs_list PySem.F.slot_list_append PySem.F.type_list_append jct (qv 9) (ja0 (qv 8) ja3))) (ja2 (jak (i:=12) sc.nd rfl (Or.inl rfl) (jau jlv (jau je3 (jac q_ix (qv 3) (qv 4) (fun _ _=>rfl)) (qv 7)) ja4)) (ja2 (jb1 (jao q_eq (jac q_ix (qv 1) (qv 4) (fun _ _=>rfl)) ja4 (jam _)) (ja6 (jak (i:=12) sc.nd rfl (Or.inl rfl) (jad (q_max rfl) rfl B.max PyProof.Rows.boot_max (ja0 ja4 (ja0 (jau jc8 (jau jlv (jau jc8 (jau je3 (jac q_ix (qv 3) (qv 4) (fun _ _=>rfl)) (qv 7)) ja4) ja4) (ja7 G_law_take (hr.mono (by decide)) rfl D_law_take.m D_law_take.F.kp D_law_take.b .nil jap (ja0 (qv 0) (ja0 ja4 ja3)))) ja3))))) jal) (ja6 (jb1 (jao q_gt (qv 12) ja4 (jam _)) (ja2 (jce (q_bm PySem.F.plainAttrs_list PySem.F.slot_list_append PySem.F.type_list_append jct (qv 10) (ja0 (jaz (ja0 (qv 8) (ja0 (qv 12) ja3))) ja3))) (ja6 (jce (q_bm PySem.F.plainAttrs_list PySem.F.slot_list_append PySem.F.type_list_append jct (qv 11) (ja0 (jaz (ja0 (qv 8) (ja0 (jac q_ix (qv 1) (qv 4) (fun _ _=>rfl)) ja3))) ja3))))) jal))))))) (ja2 (jak (i:=13) sc.nd rfl (Or.inr rfl) (jbw (CpScope.of (N:=["_law_place","_law_h"]) (src:=[none,none]) (by rfl)) rfl (jaw (qv 11)) (fun _ _ _ _=>(jcd (n:=2) rfl (jag (ja9 (i:=0) (jai (l:=["_law_place","_law_h"]) (by rfl)) rfl (Or.inl rfl)) (jag (ja9 (i:=1) (jai (l:=["_law_place","_law_h"]) (by rfl)) rfl (Or.inl rfl)) jbf)))) (fun _ _ _ _=>jc3) (fun _ _ _ _=>(qv 0)))) (ja2 (jdq (i:=14) sc.nd rfl (Or.inl rfl) (CpScope.of (N:=["_law_k","_law_j","_law_due","_law_names","_law_kept"]) (src:=[none,none,none,some 9,some 13]) (by rfl)) rfl (jaw (qv 2)) (fun _ _ _ _=>(jo6 (n:=3) rfl (jag (ja9 (i:=0) (jai (l:=["_law_k","_law_j","_law_due","_law_names","_law_kept"]) (by rfl)) rfl (Or.inl rfl)) (jag (ja9 (i:=1) (jai (l:=["_law_k","_law_j","_law_due","_law_names","_law_kept"]) (by rfl)) rfl (Or.inl rfl)) (jag (ja9 (i:=2) (jai (l:=["_law_k","_law_j","_law_due","_law_names","_law_kept"]) (by rfl)) rfl (Or.inl rfl)) jbf))))) (fun _ _ _ _=>(jd4 (PW.pt (jdp (jao jks (jac q_ix (qv 3) (qv 0) (fun _ _=>rfl)) (qv 4) (by with_unfolding_all rfl)) (jcy (jao jks (jac q_ix (qv 3) (qv 1) (fun _ _=>rfl)) (qv 4) (by with_unfolding_all rfl))))))) (fun _ _ _ _=>(jaz (ja0 (jac q_ix (qv 3) (qv 0) (fun _ _=>rfl)) (ja0 (jac q_ix (qv 3) (qv 1) (fun _ _=>rfl)) ja3))))) (ja2 (jdq (i:=15) sc.nd rfl (Or.inl rfl) (CpScope.of (N:=["_law_k","_law_j","_law_due","_law_names","_law_twice"]) (src:=[none,none,none,some 9,some 7]) (by rfl)) rfl (jaw (qv 2)) (fun _ _ _ _=>(jo6 (n:=3) rfl (jag (ja9 (i:=0) (jai (l:=["_law_k","_law_j","_law_due","_law_names","_law_twice"]) (by rfl)) rfl (Or.inl rfl)) (jag (ja9 (i:=1) (jai (l:=["_law_k","_law_j","_law_due","_law_names","_law_twice"]) (by rfl)) rfl (Or.inl rfl)) (jag (ja9 (i:=2) (jai (l:=["_law_k","_law_j","_law_due","_law_names","_law_twice"]) (by rfl)) rfl (Or.inl rfl)) jbf))))) (fun _ _ _ _=>(jd4 (jao q_gt (qv 2) ja4 (jam _)))) (fun _ _ _ _=>(jaz (ja0 (jac q_ix (qv 3) (qv 0) (fun _ _=>rfl)) (ja0 (jac q_ix (qv 3) (qv 1) (fun _ _=>rfl)) (ja0 (jau je3 (qv 2) (qv 4)) ja3)))))) (ja6 (jah (jaz (ja0 (jaz (ja0 (qv 10) (ja0 (qv 14) ja3))) (ja0 (qv 11) (ja0 (qv 15) ja3))))))))))))))))),?_⟩
 walk_at "RD"
 refine jas (Itl K ha) H (fun R hR=>?_) (fun pl hpl=>jay hs.length (fun i σ' Hc=>∃ w1 zs,σ' = [w1]∧Same H Hc∧Hc pl = some (.lst (zs.map V.int))∧zs.length = i∧∀ x ∈ zs,x = (0:Int)) ⟨none,[],rfl,ja5 hpl _,ja1,rfl,(fun x hx=>by cases hx)⟩ ?_ ?_)
 ·unfold jbz
  walk_at "RD"
  exact ⟨ha,rfl,⟨_,SqL.of eh⟩,hR⟩
 ·rintro k σ' Hc hk ⟨w1,zs,rfl,s4,ez,lz,az⟩
  have X1:(hs.map V.int)[k]? = some (.int hs[k]):=by rw [List.getElem?_map,List.getElem?_eq_getElem hk]; rfl
  have z1:SqL K Hc ha (hs.map V.int):=SqL.of (s4 _ _ eh)
  refine ⟨⟨_,_,z1,X1⟩,?_⟩
  rintro y H' ⟨rfl,hy⟩
  walk_at "RD"
  refine ⟨_,ez,by rw [List.length_map]; exact szl' (by omega),_,zs ++ [0],rfl,jan s4 hpl,by rw [List.map_append]; exact ja1,by rw [List.length_append,List.length_singleton,lz],fun x hx=>?_⟩
  rcases List.mem_append.mp hx with z | z
  ·exact az x z
  ·exact List.mem_singleton.mp z
 rintro σ' H1 ⟨w1,zs0,rfl,s1,e1,lz0,az0⟩
 refine ⟨⟨_,SqL.of (s1 _ _ eh),by rw [List.length_map]; exact Nat.le_refl _⟩,?_⟩
 walk_at "RD"
 refine jb0 (Itl K ra) H1 (fun R hR=>?_) (jby (K:=K) (a:=ra) (xs:=rx) (fun j σ H2=>∃ v1 v2 v3 v4 v5 v6 v7 v8 v9 v10 v11 v12 zs,σ = [some (.ref st),some (.ref ha),some (.ref ra),some (.ref pl),v1,v2,v3,v4,v5,v6,v7,v8,v9,v10,v11,v12]∧Same H H2∧H2 pl = some (.lst (zs.map V.int))∧zs.length = hs.length∧∀ i:Int,0 ≤ i→i < hs.length→nth zs i = jaq (raw.take j) i) ⟨none,none,none,none,none,none,none,none,none,none,none,none,zs0,rfl,s1,e1,lz0,fun i _ _=>by rw [jqm az0]; rfl⟩ (fun j σ H2 _ ⟨_,_,_,_,_,_,_,_,_,_,_,_,_,_,s2,_⟩=>SqL.of (s2 _ _ er)) ?_ ?_)
 ·unfold jbz
  walk_at "RD"
  exact ⟨ra,rfl,⟨_,SqL.of (s1 _ _ er)⟩,hR⟩
 ·rintro j y σ H2 hj ⟨v1,v2,v3,v4,v5,v6,v7,v8,v9,v10,v11,v12,zs,rfl,s2,e2,lz,az⟩
  obtain ⟨r,hr,px⟩:=jaa pr hj
  obtain ⟨t,rfl,e3⟩:=px
  have e3':=s2 _ _ e3
  have rix:=R.ix r (List.mem_of_getElem? hr)
  have a1:=jdf (xs:=zs) (k:=r.1) (by omega) (by omega)
  have i1:=jk0 (n:=zs.length) (k:=r.1) (by omega) (by omega)
  have a2:=jdf (xs:=zs.set r.1.toNat (nth zs r.1 + r.2.2)) (k:=r.2.1) (by omega) (by rw [List.length_set]; omega)
  have i2:=jk0 (n:=zs.length) (k:=r.2.1) (by omega) (by omega)
  have ms:∀ (l:List Int) (k:Nat) (v:Int),(l.map V.int).set k (.int v) = (l.set k v).map V.int:=fun l k v=>(List.map_set ..).symm
  simp_arith [e3',jaj,e2,a1,List.length_map,i1,ms,ja1,a2,List.length_set,i2,jf5]
  refine ⟨_,_,_,_,_,_,_,_,_,_,_,_,_,rfl,jan s2 hpl,rfl,by rw [List.length_set,List.length_set]; exact lz,fun i i0 i1'=>?_⟩
  rw [jl2 (by omega) (by rw [List.length_set]; omega) i0,jl2 (by omega) (by omega) (by omega),jl2 (by omega) (by omega) i0,jar hr,jml,az i i0 i1',az r.1 (by omega) (by omega),az r.2.1 (by omega) (by omega)]
  by_cases c1:r.1 = i
  ·by_cases c2:r.2.1 = i
   ·omega
   ·rw [if_neg c2,if_pos c1,if_neg c2,if_pos c1,c1]; omega
  ·by_cases c2:r.2.1 = i
   ·rw [if_pos c2,if_neg (show ¬ r.1 = r.2.1 by omega),if_pos c2,if_neg c1,c2]; omega
   ·rw [if_neg c2,if_neg c1,if_neg c2,if_neg c1]; omega
 rintro σ H2 ⟨v1,v2,v3,v4,v5,v6,v7,v8,v9,v10,v11,v12,zs,rfl,s2,e2,lz,az⟩
 rw [hrx,List.take_length] at az
 have eh2:=s2 _ _ eh
 have er2:=s2 _ _ er
 have pr2:=Rws.same s2 pr
 walk_at "RD"
 refine jas (Itr 0 hs.length) H2 (fun R hR=>?_) (fun ol hol=>jay hs.length (fun i σ' Hc=>∃ w1,σ' = [w1,some (.ref pl),some (.ref ha)]∧Same H2 Hc∧Hc ol = some (.lst ((jdb hs raw i).map V.int))) ⟨none,rfl,ja5 hol _,ja1⟩ ?_ ?_)
 ·unfold jfr
  simp_arith [jaj,eh2,List.length_map]
  exact ⟨_,rfl,by omega,by omega,hR⟩
 ·rintro k σ' Hc hk ⟨w1,rfl,s3,e3⟩
  refine ⟨hk,?_⟩
  rintro y H' ⟨rfl,rfl⟩
  have a1:=jdf (xs:=hs) (k:=0 + (k:Int)) (by omega) (by omega)
  have a2:=jdf (xs:=zs) (k:=0 + (k:Int)) (by omega) (by omega)
  simp_arith [jaj,s3 _ _ eh2,s3 _ _ e2,a1,a2]
  rw [jor]
  refine ite2 (fun c1=>?_) (fun c1=>?_)
  ·rw [if_pos (by rw [Int.zero_add] at c1; exact c1)]
   refine ⟨by decide,_,e3,by rw [List.length_map]; have:=jql hs raw k; exact szl' (by omega),_,rfl,jan s3 hol,?_⟩
   rw [List.map_append,az _ (by omega) (by omega),Int.zero_add]
   exact ja1
  ·rw [if_neg (by rw [Int.zero_add] at c1; exact c1),List.append_nil]
   exact ⟨_,rfl,s3,e3⟩
 rintro σ' H3 ⟨w1,rfl,s3,e3⟩
 refine ⟨Nat.le_refl _,?_⟩
 walk_at "RD"
 refine ⟨ol,jdb hs raw hs.length,0,rfl,rfl,e3,fun m m1 m2 m3=>?_⟩
 obtain ⟨mb,ev⟩:=jos m1 m2 m3
 clear m1 m2 m3 e3 hol
 have eh3:=s3 _ _ eh2
 have er3:=s3 _ _ er2
 have pr3:=Rws.same s3 pr2
 have ep3:=s3 _ _ e2
 have s03:=s2.trans s3
 have es3:=s03 _ _ es
 walk_at "RD"
 intro nl hnl pc hpc hc hhc
 have htwb:1 ≤ 1 + m∧1 + m ≤ 2:=by omega
 generalize 1 + m = tw at ev htwb ⊢
 have n1:nl ≠ pc:=fun z=>by rw [← z,ja1] at hpc; cases hpc
 have n2:nl ≠ hc:=fun z=>by rw [← z,jae n1,ja1] at hhc; cases hhc
 have n3:pc ≠ hc:=fun z=>by rw [← z,ja1] at hhc; cases hhc
 have nst:st ≠ pl:=jab es hpl
 have np3:pl ≠ st:=nst.symm
 have hnl3:=hnl
 have hpc3:H3 pc = none:=by rw [jae n1.symm] at hpc; exact hpc
 have hhc3:H3 hc = none:=by rw [jae n3.symm,jae n2.symm] at hhc; exact hhc
 have nls:nl ≠ st:=(jab es3 hnl3).symm
 have pcs:pc ≠ st:=(jab es3 hpc3).symm
 have hcs:hc ≠ st:=(jab es3 hhc3).symm
 have s4:=(ja5 hnl (.lst [])).trans ((ja5 hpc (.lst [])).trans (ja5 hhc (.lst [])))
 have start:upd (upd (upd H3 nl (.lst [])) pc (.lst [])) hc (.lst []) nl = some (.lst [])∧upd (upd (upd H3 nl (.lst [])) pc (.lst [])) hc (.lst []) pc = some (.lst [])∧upd (upd (upd H3 nl (.lst [])) pc (.lst [])) hc (.lst []) hc = some (.lst []):=⟨by rw [jae n2,jae n1,ja1],by rw [jae n3,ja1],ja1⟩
 generalize upd (upd (upd H3 nl (.lst [])) pc (.lst [])) hc (.lst []) = H4 at s4 start
 refine jb0 (Itr 0 hs.length) H4 (fun R hR=>?_) (jc2 (lo:=0) (n:=hs.length) (fun i σ H5=>∃ w1 num w2 ns ps qs px qx,σ = [some (.ref st),some (.ref ha),some (.ref ra),some (.ref pl),w1,v2,v3,some (.int tw),some (.int num),some (.ref nl),some (.ref pc),some (.ref hc),w2,v10,v11,v12]∧But st H3 H5∧(∃ o',H5 st = some o'∧StO o')∧H5 nl = some (.lst (ns.map V.int))∧H5 pc = some (.lst px)∧Prs H5 px ps∧H5 hc = some (.lst qx)∧Prs H5 qx qs∧qs.length ≤ i∧PlW hs raw tw i ns ps qs∧(∀ x ∈ ns,-1 < x∧x ≤ num)∧-1 ≤ num∧num ≤ 20 * (i:Int) - 1) ⟨_,-1,_,[],[],[],[],[],rfl,But.same s4,⟨o,s4 _ _ es3,so⟩,start.1,start.2.1,.nil,start.2.2,.nil,Nat.le_refl _,⟨[],⟨rfl,rfl,.nil,fun k k0 k1=>by omega⟩,rfl,by simp [jbp]⟩,(fun x hx=>by cases hx),by omega,by omega⟩ ?_ ?_)
 ·unfold jfr
  simp_arith [jaj,s4 _ _ eh3,List.length_map]
  exact ⟨_,rfl,by omega,by omega,hR⟩
 ·rintro i σ H5 hi ⟨w1,num,w2,ns,ps,qs,px,qx,rfl,b5,⟨o5,e5,so5⟩,en5,ep5,pp5,eq5,pq5,lq,W,hnum,hm1,hm2⟩
  generalize hB:tIfS (fB (tOp (fI fun i j=>V.bl (decide (i > j))) (fVar 12) (tC (V.int 0)))) (tSeq (jmh (fBM jeh (fVar 10) (jel (tTup (jel (fVar 8) (jel (fVar 12) tNil))) tNil))) (jmh (fBM jeh (fVar 11) (jel (tTup (jel (fVar 8) (jel (tOp fIx (fVar 1) (fVar 4)) tNil))) tNil)))) jq9 = B2
  have hpxl:px.length = ps.length:=Paired.length pp5
  have hqxl:qx.length = qs.length:=Paired.length pq5
  have hwl:=W.len
  have hwp:=W.pl
  have key:∀ (D':Ends) (H8:Hp) (num' pr:Int),(∀ (H9:Hp) (ps qs:List (Int × Int)) (px qx:List V),But st H3 H9∧(∃ o',H9 st = some o'∧StO o')∧H9 nl = some (.lst ((ns ++ [num']).map V.int))∧H9 pc = some (.lst px)∧Prs H9 px ps∧H9 hc = some (.lst qx)∧Prs H9 qx qs→qs.length ≤ i + 1→PlW hs raw tw (i + 1) (ns ++ [num']) ps qs→D'.nx [some (.ref st),some (.ref ha),some (.ref ra),some (.ref pl),some (.int (0 + (i:Int))),v2,v3,some (.int tw),some (.int num'),some (.ref nl),some (.ref pc),some (.ref hc),some (.int pr),v10,v11,v12] H9)→(∀ x ∈ ns,x < num')→PrOk hs raw tw i pr→But st H3 H8∧(∃ o',H8 st = some o'∧StO o')∧H8 nl = some (.lst ((ns ++ [num']).map V.int))∧H8 pc = some (.lst px)∧Prs H8 px ps∧H8 hc = some (.lst qx)∧Prs H8 qx qs→B2 D' [some (.ref st),some (.ref ha),some (.ref ra),some (.ref pl),some (.int (0 + (i:Int))),v2,v3,some (.int tw),some (.int num'),some (.ref nl),some (.ref pc),some (.ref hc),some (.int pr),v10,v11,v12] H8:=by
   rintro D' H8 num' pr hD hn hp ⟨b8,⟨o8,e8,so8⟩,en8,ep8,pp8,eq8,pq8⟩
   subst hB
   walk_at "RD"
   refine ite2 (fun c1=>?_) (fun c1=>hD H8 ps qs px qx ⟨b8,⟨o8,e8,so8⟩,en8,ep8,pp8,eq8,pq8⟩ (by omega) (by have z:=W.step' hi hn hp; rw [if_neg (fun y=>c1 (decide_eq_true y)),if_neg (fun y=>c1 (decide_eq_true y)),List.append_nil,List.append_nil] at z; exact z))
   refine ⟨⟨pc,_,rfl,ep8⟩,fun t ht=>?_⟩
   have nt:pc ≠ t:=jab ep8 ht
   simp_arith [jae nt,ep8]
   refine ⟨szl' (by omega),?_⟩
   have sA:=ja5 ht (.tup [.int num',.int pr])
   have eA:=ja1 (H:=H8) (a:=t) (o:=.tup [.int num',.int pr])
   have epA:=sA _ _ ep8
   generalize upd H8 t (.tup [.int num',.int pr]) = HA at sA eA epA
   have tB:TupS HA (upd HA pc (.lst (px ++ [.ref t]))):=jb2 epA
   have hcB:upd HA pc (.lst (px ++ [.ref t])) hc = some (.lst qx):=by rw [jae n3.symm]; exact sA _ _ eq8
   have nlB:upd HA pc (.lst (px ++ [.ref t])) nl = some (.lst ((ns ++ [num']).map V.int)):=by rw [jae n1]; exact sA _ _ en8
   have pcB:=ja1 (H:=HA) (a:=pc) (o:=.lst (px ++ [.ref t]))
   have stB:upd HA pc (.lst (px ++ [.ref t])) st = some o8:=by rw [jae pcs.symm]; exact sA _ _ e8
   have bB:But st H3 (upd HA pc (.lst (px ++ [.ref t]))):=jfj (b8.trans (But.same sA)) hpc3
   have ppB:Prs (upd HA pc (.lst (px ++ [.ref t]))) (px ++ [.ref t]) (ps ++ [(num',pr)]):=jav (Prs.tups (sA.tups.trans tB) pp8) ⟨t,rfl,tB _ _ rfl eA⟩
   have pqB:Prs (upd HA pc (.lst (px ++ [.ref t]))) qx qs:=Prs.tups (sA.tups.trans tB) pq8
   generalize upd HA pc (.lst (px ++ [.ref t])) = HB at tB hcB nlB pcB stB bB ppB pqB
   have a1:=jdf (xs:=hs) (k:=0 + (i:Int)) (by omega) (by omega)
   have ehB:=bB _ _ nha eh3
   refine ⟨⟨hc,_,rfl,hcB⟩,?_⟩
   simp_arith [jaj,ehB,a1]
   intro t2 ht2
   have nt2:hc ≠ t2:=jab hcB ht2
   simp_arith [jae nt2,hcB]
   refine ⟨szl' (by omega),?_⟩
   have sC:=ja5 ht2 (.tup [.int num',.int (nth hs (0 + (i:Int)))])
   have eC:=ja1 (H:=HB) (a:=t2) (o:=.tup [.int num',.int (nth hs (0 + (i:Int)))])
   have ehC:=sC _ _ hcB
   generalize upd HB t2 (.tup [.int num',.int (nth hs (0 + (i:Int)))]) = HC at sC eC ehC
   have tD:TupS HC (upd HC hc (.lst (qx ++ [.ref t2]))):=jb2 ehC
   refine hD _ (ps ++ [(num',pr)]) (qs ++ [(num',nth hs (0 + (i:Int)))]) _ _ ⟨jfj (bB.trans (But.same sC)) hhc3,⟨o8,by rw [jae hcs.symm]; exact sC _ _ stB,so8⟩,by rw [jae n2]; exact sC _ _ nlB,by rw [jae n3]; exact sC _ _ pcB,Prs.tups (sC.tups.trans tD) ppB,ja1,jav (Prs.tups (sC.tups.trans tD) pqB) ⟨t2,rfl,tD _ _ rfl eC⟩⟩ (by rw [List.length_append,List.length_singleton]; omega) (by have z:=W.step' hi hn hp; rw [if_pos (of_decide_eq_true c1),if_pos (of_decide_eq_true c1)] at z; rw [Int.zero_add]; exact z)
  walk_at "RD"
  intro p1 hp1
  have np1:p1 ≠ st:=(jab e5 hp1).symm
  refine ⟨st,o5,3,rfl,(ja5 hp1 _) _ _ e5,so5,by decide,by decide,fun d1 o6 d10 d11 so6=>?_⟩
  obtain ⟨v,ev',v0,v1'⟩:∃ v,atI [V.int 1,.int 2,.int 20] d1 = some (.int v)∧1 ≤ v∧v ≤ 20:=by
   obtain ⟨v,e,hv⟩:=menu3 (a:=1) (b:=2) (c:=20) d10 d11
   exact ⟨v,e,by omega,by omega⟩
  simp_arith [jaj,jae np1,ja1,ev']
  refine ⟨st,o6,v,rfl,ja1,so6,by omega,by omega,fun d2 o7 d20 d21 so7=>?_⟩
  simp_arith [jf5]
  have b7:But st H5 (upd (upd H5 p1 (.lst [.int 1,.int 2,.int 20])) st o7):=(But.new hp1).trans (But.at _ _ _)
  have e7:upd (upd H5 p1 (.lst [.int 1,.int 2,.int 20])) st o7 st = some o7:=ja1
  generalize upd (upd H5 p1 (.lst [.int 1,.int 2,.int 20])) st o7 = H7 at b7 e7
  have t7:TupS H5 H7:=b7.tups e5 so5.imm
  have en7:=b7 _ _ nls en5
  refine ⟨⟨nl,_,rfl,en7⟩,?_⟩
  simp_arith [en7]
  refine ⟨by rw [List.length_map]; exact szl' (by omega),?_⟩
  have hnew:∀ x ∈ ns,x < num + 1 + d2:=fun x hx=>by have:=hnum x hx; omega
  have st8:But st H3 (upd H7 nl (.lst (ns.map V.int ++ [.int (num + 1 + d2)])))∧(∃ o',(upd H7 nl (.lst (ns.map V.int ++ [.int (num + 1 + d2)]))) st = some o'∧StO o')∧(upd H7 nl (.lst (ns.map V.int ++ [.int (num + 1 + d2)]))) nl = some (.lst ((ns ++ [num + 1 + d2]).map V.int))∧(upd H7 nl (.lst (ns.map V.int ++ [.int (num + 1 + d2)]))) pc = some (.lst px)∧Prs (upd H7 nl (.lst (ns.map V.int ++ [.int (num + 1 + d2)]))) px ps∧(upd H7 nl (.lst (ns.map V.int ++ [.int (num + 1 + d2)]))) hc = some (.lst qx)∧Prs (upd H7 nl (.lst (ns.map V.int ++ [.int (num + 1 + d2)]))) qx qs:=by
   have t8:TupS H7 (upd H7 nl (.lst (ns.map V.int ++ [.int (num + 1 + d2)]))):=jb2 en7
   refine ⟨jfj (b5.trans b7) hnl3,⟨o7,by rw [jae nls.symm]; exact e7,so7⟩,by rw [ja1,List.map_append]; rfl,by rw [jae n1.symm]; exact b7 _ _ pcs ep5,Prs.tups (t7.trans t8) pp5,by rw [jae n2.symm]; exact b7 _ _ hcs eq5,Prs.tups (t7.trans t8) pq5⟩
  have epl:=st8.1 _ _ np3 ep3
  have ehl:=st8.1 _ _ nha eh3
  have e8:∃ o',upd H7 nl (.lst (ns.map V.int ++ [.int (num + 1 + d2)])) st = some o'∧StO o':=st8.2.1
  generalize upd H7 nl (.lst (ns.map V.int ++ [.int (num + 1 + d2)])) = H8 at st8 epl ehl e8
  obtain ⟨o8,e8,so8⟩:=e8
  have a1:=jdf (xs:=hs) (k:=0 + (i:Int)) (by omega) (by omega)
  have a2:=jdf (xs:=zs) (k:=0 + (i:Int)) (by omega) (by omega)
  have ap:nth zs (0 + (i:Int)) = jaq raw (0 + (i:Int)):=az _ (by omega) (by omega)
  simp_arith [jaj,epl,ehl,a1,a2]
  refine ⟨cmR (by omega) (by omega),⟨by decide,by decide⟩,?_⟩
  have hfin:∀ (H9:Hp) (ps qs:List (Int × Int)) (px qx:List V) (w2:Option V),But st H3 H9∧(∃ o',H9 st = some o'∧StO o')∧H9 nl = some (.lst ((ns ++ [num + 1 + d2]).map V.int))∧H9 pc = some (.lst px)∧Prs H9 px ps∧H9 hc = some (.lst qx)∧Prs H9 qx qs→qs.length ≤ i + 1→PlW hs raw tw (i + 1) (ns ++ [num + 1 + d2]) ps qs→∃ w1 nn w2' ns ps qs px qx,[some (.ref st),some (.ref ha),some (.ref ra),some (.ref pl),some (.int (0 + (i:Int))),v2,v3,some (.int tw),some (.int (num + 1 + d2)),some (.ref nl),some (.ref pc),some (.ref hc),w2,v10,v11,v12] = [some (.ref st),some (.ref ha),some (.ref ra),some (.ref pl),w1,v2,v3,some (.int tw),some (.int nn),some (.ref nl),some (.ref pc),some (.ref hc),w2',v10,v11,v12]∧But st H3 H9∧(∃ o',H9 st = some o'∧StO o')∧H9 nl = some (.lst (ns.map V.int))∧H9 pc = some (.lst px)∧Prs H9 px ps∧H9 hc = some (.lst qx)∧Prs H9 qx qs∧qs.length ≤ i + 1∧PlW hs raw tw (i + 1) ns ps qs∧(∀ x ∈ ns,-1 < x∧x ≤ nn)∧-1 ≤ nn∧nn ≤ 20 * ((i + 1:Nat):Int) - 1:=fun H9 ps qs px qx w2 z1 z2 z3=>⟨_,num + 1 + d2,_,ns ++ [num + 1 + d2],ps,qs,px,qx,rfl,z1.1,z1.2.1,z1.2.2.1,z1.2.2.2.1,z1.2.2.2.2.1,z1.2.2.2.2.2.1,z1.2.2.2.2.2.2,z2,z3,(fun x hx=>by
   rcases List.mem_append.mp hx with y | y
   ·have:=hnew x y; have:=hnum x y; omega
   ·rw [List.mem_singleton.mp y]; omega),by omega,by omega⟩
  refine ite2 (fun c1=>?_) (fun c1=>?_)
  ·refine ⟨cmR (by omega) (by omega),⟨by decide,by decide⟩,?_⟩
   refine ⟨st,o8,3,rfl,e8,so8,by decide,by decide,fun d3 o9 d30 d31 so9=>?_⟩
   walk_at "RD"
   have c2:nth hs (i:Int) = 0:=by rw [Int.zero_add] at c1; exact of_decide_eq_true c1
   have t9:TupS H8 (upd H8 st o9):=(But.at st H8 o9).tups e8 so8.imm
   refine key _ _ _ _ (fun H9 ps qs px qx z1 z2 z3=>hfin H9 ps qs px qx _ z1 z2 z3) hnew (by refine ⟨fun z=>absurd c2 z,?_⟩; have X:=R.xle htwb (i:Int); rw [ap,Int.zero_add]; generalize jaq raw (i:Int) * tw = x at X ⊢; exact ⟨fun _=>⟨by split <;> omega,by split <;> omega⟩,by split <;> omega,by split <;> omega⟩) ⟨st8.1.trans (But.at _ _ _),⟨o9,ja1,so9⟩,by rw [jae nls]; exact st8.2.2.1,by rw [jae pcs]; exact st8.2.2.2.1,Prs.tups t9 st8.2.2.2.2.1,by rw [jae hcs]; exact st8.2.2.2.2.2.1,Prs.tups t9 st8.2.2.2.2.2.2⟩
  ·refine key _ _ _ _ (fun H9 ps qs px qx z1 z2 z3=>hfin H9 ps qs px qx _ z1 z2 z3) hnew (by have X:=R.xle htwb (i:Int); rw [ap]; refine ⟨fun _=>by rw [Int.zero_add],fun z=>absurd (decide_eq_true (by rw [Int.zero_add]; exact z)) c1,?_⟩; rw [Int.zero_add]; omega) st8
 rintro σ H5 ⟨w1,num,w2,ns,ps,qs,px,qx,rfl,b5,⟨o5,e5,so5⟩,en5,ep5,pp5,eq5,pq5,lq,W,hnum,hm1,hm2⟩
 have hwl:=W.len
 obtain ⟨cs,C,rfl,rfl⟩:=W
 rw [List.take_length] at pq5 lq
 have hcl:=C.cl
 have hqxl:qx.length = (jbp ns cs hs).length:=Paired.length pq5
 have er5:=b5 _ _ nra er3
 have pr5:=Rws.but es3 so b5 pr3
 walk_at "RD"
 refine jas (Itl K hc) H5 (fun R hR=>?_) (fun kl hkl=>jay (jbp ns cs hs).length (fun i σ' Hc=>∃ w1 w2,σ' = [w1,w2]∧Same H5 Hc∧Hc kl = some (.lst ((((jbp ns cs hs).take i).map (·.1)).map V.int))) ⟨none,none,rfl,ja5 hkl _,ja1⟩ ?_ ?_)
 ·unfold jbz
  walk_at "RD"
  exact ⟨hc,rfl,⟨_,SqL.of eq5⟩,hR⟩
 ·rintro k σ' Hc hk ⟨w1,w2,rfl,s6,e6⟩
  have hkx:k < qx.length:=by omega
  have x1:qx[k]? = some qx[k]:=List.getElem?_eq_getElem hkx
  obtain ⟨p,hp,qp⟩:=jaa pq5 x1
  have z1:SqL K Hc hc qx:=SqL.of (s6 _ _ eq5)
  refine ⟨⟨_,_,z1,x1⟩,?_⟩
  rintro y H' ⟨rfl,hy⟩
  have E1:qx[k] = y:=Option.some.inj (x1.symm.trans (hy _ z1))
  obtain ⟨t,e1,e2'⟩:=qp.same s6
  rw [E1] at e1
  subst e1
  simp_arith [e2']
  refine ⟨_,e6,by rw [List.length_map,List.length_map,List.length_take]; exact szl' (by omega),_,_,rfl,jan s6 hkl,?_⟩
  rw [jar hp,List.map_append,List.map_append]
  exact ja1
 rintro σ' H6 ⟨w1',w2',rfl,s6,e6⟩
 refine ⟨⟨_,SqL.of (s6 _ _ eq5),by rw [hqxl]; exact Nat.le_refl _⟩,?_⟩
 rw [List.take_length] at e6
 have er6:=s6 _ _ er5
 have pr6:=Rws.same s6 pr5
 have en6:=s6 _ _ en5
 walk_at "RD"
 refine jas (Itl K ra) H6 (fun R hR=>?_) (fun tl htl=>jay raw.length (fun i σ' Hc=>∃ w1 w2 w3 ys ts,σ' = [w1,w2,w3,some (.ref nl),some (.ref kl)]∧Same H6 Hc∧Hc tl = some (.lst ys)∧Prs Hc ys ts∧ts = jcn ns cs (raw.take i)∧ts.length ≤ i) ⟨none,none,none,[],[],rfl,ja5 htl _,ja1,.nil,rfl,Nat.le_refl _⟩ ?_ ?_)
 ·unfold jbz
  walk_at "RD"
  exact ⟨ra,rfl,⟨_,SqL.of er6⟩,hR⟩
 ·rintro k σ' Hc hk ⟨w1,w2,w3,ys,ts,rfl,s7,e7,p7,g7,l7⟩
  have hkx:k < rx.length:=by omega
  have x1:rx[k]? = some rx[k]:=List.getElem?_eq_getElem hkx
  obtain ⟨r,hr,qr⟩:=jaa pr6 x1
  have z1:SqL K Hc ra rx:=SqL.of (s7 _ _ er6)
  refine ⟨⟨_,_,z1,x1⟩,?_⟩
  rintro y H' ⟨rfl,hy⟩
  have E1:rx[k] = y:=Option.some.inj (x1.symm.trans (hy _ z1))
  obtain ⟨t,e1,e2'⟩:=qr
  rw [E1] at e1
  subst e1
  have e2'':=s7 _ _ e2'
  have rix:=R.ix r (List.mem_of_getElem? hr)
  have a1:=jdf (xs:=ns) (k:=r.1) (by omega) (by omega)
  have a2:=jdf (xs:=ns) (k:=r.2.1) (by omega) (by omega)
  have hyl:ys.length = ts.length:=Paired.length p7
  have hin:∀ k:Int,0 ≤ k→k < hs.length→(nth ns k ∈ (jbp ns cs hs).map (·.1) ↔ 0 < nth cs k):=fun k k0 k1=>jqt hwl hcl R.hb C.rise k0 k1
  have tsn:jcn ns cs (raw.take (k + 1)) = jcn ns cs (raw.take k) ++ if (decide (0 < nth cs r.1) && decide (0 < nth cs r.2.1)) = true then [(nth ns r.1,nth ns r.2.1)] else []:=by
   unfold jcn
   rw [jar hr,List.filter_append,List.map_append]
   congr 1
   rw [List.filter_cons]
   split <;> simp
  have no1:¬ nth ns r.1 ∈ (jbp ns cs hs).map (·.1)→ts = jcn ns cs (raw.take (k + 1)):=fun z=>by
   rw [tsn,decide_eq_false (fun y=>z ((hin _ (by omega) (by omega)).mpr y)),Bool.false_and,if_neg (by decide),List.append_nil]; exact g7
  have no2:¬ nth ns r.2.1 ∈ (jbp ns cs hs).map (·.1)→ts = jcn ns cs (raw.take (k + 1)):=fun z=>by
   rw [tsn,decide_eq_false (fun y=>z ((hin _ (by omega) (by omega)).mpr y)),Bool.and_false,if_neg (by decide),List.append_nil]; exact g7
  simp_arith [e2'',jaj,s7 _ _ en6,s7 _ _ e6,a1,a2,je5,jez,jex]
  refine ite2 (fun c1=>?_) (fun c1=>⟨_,_,_,ys,ts,rfl,s7,e7,p7,no1 (by simpa using c1),by omega⟩)
  refine ite2 (fun c2=>?_) (fun c2=>⟨_,_,_,ys,ts,rfl,s7,e7,p7,no2 (by simpa using c2),by omega⟩)
  intro t2 ht2
  have sA:=ja5 ht2 (.tup [.int (nth ns r.1),.int (nth ns r.2.1)])
  have tA:=sA.tups.trans (jb2 (ys:=ys ++ [.ref t2]) (sA _ _ e7))
  refine ⟨_,sA _ _ e7,szl' (by omega),_,_,_,_,ts ++ [(nth ns r.1,nth ns r.2.1)],rfl,jan (s7.trans sA) htl,ja1,jav (Prs.tups tA p7) ⟨t2,rfl,by rw [jae (jab e7 ht2).symm,ja1]⟩,?_,by rw [List.length_append,List.length_singleton]; omega⟩
  rw [tsn,decide_eq_true ((hin _ (by omega) (by omega)).mp (by simpa using c1)),decide_eq_true ((hin _ (by omega) (by omega)).mp (by simpa using c2)),Bool.true_and,if_pos rfl,g7]
 rintro σ' H7 ⟨w1'',w2'',w3'',ys,ts,rfl,s7,e7,p7,g7,l7⟩
 refine ⟨⟨_,SqL.of (s7 _ _ er6),by rw [hrx]; exact Nat.le_refl _⟩,?_⟩
 have er7:=s7 _ _ er6
 have pr7:=Rws.same s7 pr6
 have en7:=s7 _ _ en6
 walk_at "RD"
 refine jas (Itl K ra) H7 (fun R hR=>?_) (fun dl hdl=>jay raw.length (fun i σ' Hc=>∃ w1 w2 w3 zs,σ' = [w1,w2,w3,some (.ref nl),some (.int tw)]∧Same H7 Hc∧Hc dl = some (.lst zs)∧Tps Hc zs (jbj ns tw (raw.take i))) ⟨none,none,none,[],rfl,ja5 hdl _,ja1,.nil⟩ ?_ ?_)
 ·unfold jbz
  walk_at "RD"
  exact ⟨ra,rfl,⟨_,SqL.of er7⟩,hR⟩
 ·rintro k σ' Hc hk ⟨w1,w2,w3,zs',rfl,s8,e8,p8⟩
  have hkx:k < rx.length:=by omega
  have x1:rx[k]? = some rx[k]:=List.getElem?_eq_getElem hkx
  obtain ⟨r,hr,qr⟩:=jaa pr7 x1
  have z1:SqL K Hc ra rx:=SqL.of (s8 _ _ er7)
  refine ⟨⟨_,_,z1,x1⟩,?_⟩
  rintro y H' ⟨rfl,hy⟩
  have E1:rx[k] = y:=Option.some.inj (x1.symm.trans (hy _ z1))
  obtain ⟨t,e1,e2'⟩:=qr
  rw [E1] at e1
  subst e1
  have e2'':=s8 _ _ e2'
  have rix:=R.ix r (List.mem_of_getElem? hr)
  have a1:=jdf (xs:=ns) (k:=r.1) (by omega) (by omega)
  have a2:=jdf (xs:=ns) (k:=r.2.1) (by omega) (by omega)
  have hzl:zs'.length ≤ 81:=by
   have z2:=Paired.length p8
   have z3:=jr3 ns tw (raw.take k)
   rw [List.length_take] at z3
   omega
  simp_arith [e2'',jaj,s8 _ _ en7,a1,a2]
  rw [jpj hr]
  refine ite2 (fun c1=>?_) (fun c1=>?_)
  ·rw [if_pos c1]
   refine ⟨cmR (by omega) (by omega),fun t2 ht2=>?_⟩
   have sA:=ja5 ht2 (.tup [.int (nth ns r.1),.int (nth ns r.2.1),.int (r.2.2 * tw)])
   have tA:=sA.tups.trans (jb2 (ys:=zs' ++ [.ref t2]) (sA _ _ e8))
   exact ⟨_,sA _ _ e8,szl' (by omega),_,_,_,_,rfl,jan (s8.trans sA) hdl,ja1,jav (jbk tA p8) ⟨t2,rfl,by rw [jae (jab e8 ht2).symm,ja1]⟩⟩
  ·rw [if_neg c1,List.append_nil]
   exact ⟨_,_,_,_,rfl,s8,e8,p8⟩
 rintro σ' H8 ⟨wa,wb,wc,dx,rfl,s8,e8,p8⟩
 refine ⟨⟨_,SqL.of (s8 _ _ er7),by rw [hrx]; exact Nat.le_refl _⟩,?_⟩
 rw [List.take_length] at p8
 walk_at "RD"
 intro t1 ht1 t2 ht2
 have sA:=ja5 ht1 (.tup [.ref pc,.ref tl])
 have sB:=ja5 ht2 (.tup [.ref t1,.ref hc,.ref dl])
 have n12:t1 ≠ t2:=fun z=>by rw [← z,ja1] at ht2; cases ht2
 have sAB:=sA.trans sB
 have s58:=s6.trans (s7.trans s8)
 rw [List.take_length] at g7
 subst g7
 exact h t2 (.ref t1) hc dl qx dx ns cs tw _ o5 ((((But.same s03).trans b5).trans (But.same s58)).trans (But.same sAB)) ((s58.trans sAB) _ _ e5) so5 ja1 ⟨t1,pc,tl,px,ys,rfl,sB _ _ ja1,(s58.trans sAB) _ _ ep5,(s8.trans sAB) _ _ e7,Prs.same (s58.trans sAB) pp5,Prs.same (s8.trans sAB) p7⟩ ((s58.trans sAB) _ _ eq5) (Prs.same (s58.trans sAB) pq5) (sAB _ _ e8) (jbk sAB.tups p8) ⟨hwl,hcl,R.hl,R.hb,C.rise,(fun n hn=>by have:=hnum n hn; omega),R.ix,R.len,R.up,R.pos,R.two,R.due,htwb.1,(fun k k0 k1 kh=>ev k k0 k1 kh),(fun k k0 k1 hk=>(C.at' k k0 k1).1 hk),(fun k k0 k1 hk=>(C.at' k k0 k1).2.1 hk),(fun c hc=>(C.mem c hc).1),by have:=jr8 (b:=90000000000) (fun c hc=>(C.mem c hc).2); omega⟩
end
end My
namespace My
open PySem L2
section
variable {P:Program} {w:World} {K:PySem.W.Frag} {mg:Str→Option Value} {base:Heap} {c1 c2 c3 c4:Tok} {C_NoWeb f_NoWeb:Addr} {dI:FuncData}
theorem jkn {ι:Type} {src:List (Option Nat)} {wi:TI} {g:TG} {tc:TT} {te:TE} {Q:VK} {σ:St} {H:Hp} (J:ι→It) (H1:ι→Hp) (ok:ι→Prop) (h1:∀ R:It→Hp→Prop,(∀ p,ok p→R (J p) (H1 p))→wi σ H R)
  (h2:∀ p,ok p→∀ l,H1 p l = none→jq6 (J p) src g tc te Q σ (H1 p) l):jqa src wi g tc te σ H Q:=h1 _ h2
theorem ten9:(10:Int) ^ Int.toNat 9 = 1000000000:=by decide
def GR (hs:List Int) (r:Int × Int × Int):Prop:=(0 ≤ r.1∧r.1 < r.2.1∧r.2.1 < hs.length)∧(0 ≤ r.2.2∧r.2.2 ≤ 1000000000)∧2 ≤ nth hs r.1 + nth hs r.2.1∧(0 < r.2.2→nth hs r.1 + nth hs r.2.1 = 2)
theorem rw_ne {H:Hp} {a b:Addr} {x y z:Int} {rx:List V} (ea:H a = some (.lst [.int x,.int y,.int z])) (eb:H b = some (.lst rx)) (h:∀ v ∈ rx,∃ t,v = .ref t):a ≠ b:=fun e=>by
 rw [e,eb] at ea
 cases ea
 obtain ⟨t,e⟩:=h (.int x) (List.mem_cons_self ..)
 cases e
theorem Rws.upd {H:Hp} {b:Addr} {rx ys:List V} {raw:List (Int × Int × Int)} (h:Rws H rx raw) (eb:H b = some (.lst rx)):Rws (upd H b (.lst ys)) rx raw:=by
 have hr:=ji5 h
 exact Paired.mapP h fun _ _ ⟨a,e,q⟩=>⟨a,e,by rw [jae (rw_ne q eb hr)]; exact q⟩
def jnr:Sp:=fun vs H Q _=>∃ (st:Addr) (o:HO),vs = [.ref st,.int 9]∧H st = some o∧StO o ∧
 ∀ (t:Addr) (wv:V) (hl da:Addr) (hx dx:List V) (hs ns cs:List Int) (raw:List (Int × Int × Int)) (tw:Int) (H':Hp) (o':HO),But st H H'→H' st = some o'→StO o'→H' t = some (.tup [wv,.ref hl,.ref da])→jc4 H' wv (jbt ns cs) (jcn ns cs raw)→H' hl = some (.lst hx)→Prs H' hx (jbp ns cs hs)→H' da = some (.lst dx)→Tps H' dx (jbj ns tw raw)→Laid hs ns cs raw tw→Q (.ref t) H'
def LB (raw:List (Int × Int × Int)) (n:Nat) (a b:Int):Prop:=raw.length ≤ n∧(raw.Pairwise fun x y=>Lx (x.1,x.2.1) (y.1,y.2.1))∧∀ r ∈ raw,r.1 < a ∨ (r.1 = a∧r.2.1 < b)
theorem LB.mono {raw:List (Int × Int × Int)} {n n':Nat} {a b a' b':Int} (h:LB raw n a b) (hn:n ≤ n') (hl:a < a' ∨ (a = a'∧b ≤ b')):LB raw n' a' b':=⟨Nat.le_trans h.1 hn,h.2.1,fun r hr=>by have:=h.2.2 r hr; omega⟩
theorem LB.snoc {raw:List (Int × Int × Int)} {n n':Nat} {a b b':Int} {r:Int × Int × Int} (h:LB raw n a b) (hn:n + 1 ≤ n') (h1:r.1 = a) (h2:r.2.1 = b) (hb:b < b'):LB (raw ++ [r]) n' a b':=by
 refine ⟨by rw [List.length_append,List.length_singleton]; have:=h.1; omega,List.pairwise_append.mpr ⟨h.2.1,List.pairwise_singleton _ _,fun x hx y hy=>?_⟩,fun x hx=>?_⟩
 ·rw [List.mem_singleton.mp hy]
  rcases h.2.2 x hx with z | ⟨z1,z2⟩
  ·exact jjv (by show x.1 < r.1; omega)
  ·unfold Lx
   dsimp only
   rw [z1,h1]
   exact jp1 (by omega)
 ·rcases List.mem_append.mp hx with z | z
  ·have:=h.2.2 x z; omega
  ·rw [List.mem_singleton.mp z]; omega
theorem jky {f:Addr} {fd:FuncData} {f_law_take:Addr} {d_law_take:FuncData} {f_law_priced:Addr} {d_law_priced:FuncData} (B:Blt mg) (D:DefAt K mg "_law_laid" (top 41) ["_law_state","_law_most"] f fd) (D_law_take:DefAt K mg "_law_take" (top 39) ["_law_state","_law_many"] f_law_take d_law_take) (G_law_take:FnOk P w K mg base CX0 1 f_law_take d_law_take ["_law_state","_law_many"] jfk) (D_law_priced:DefAt K mg "_law_priced" (top 40) ["_law_state","_law_hs","_law_raw"] f_law_priced d_law_priced) (G_law_priced:FnOk P w K mg base CX0 2 f_law_priced d_law_priced ["_law_state","_law_hs","_law_raw"] jj7):FnOk P w K mg base CX0 3 f fd ["_law_state","_law_most"] jnr:=by
 have sc:FnScope ["_law_state","_law_most","_law_great","_law_dense","_law_hs","_law_raw","_law_k","_law_j","_law_due"] ["_law_state","_law_most"] (jaf (top 41)):=⟨rfl,rfl,rfl,by decide +kernel,rfl,by decide +kernel,by decide +kernel⟩
 refine D.F.ok sc (fun vs H Q E h=>?_) (fun cdv A outer s H vs Q E hr h=>?_)
 ·obtain ⟨st,o,rfl,_⟩:=h
  rfl
 obtain ⟨st,o,rfl,es,so,h⟩:=h
 have hu:=jbh hr
 have hu0:_ < PySem.cLine:=Nat.lt_of_succ_lt hu
 refine ⟨_,(ja2 (jak (i:=2) sc.nd rfl (Or.inl rfl) (jac q_ix (jc0 (ja0 ja4 (ja0 ja4 (ja0 (jau jsc ja4 ja4) ja3)))) (ja7 G_law_take (hr.mono (by decide)) rfl D_law_take.m D_law_take.F.kp D_law_take.b .nil jap (ja0 (qv 0) (ja0 ja4 ja3))) (fun _ _=>rfl))) (ja2 (jak (i:=3) sc.nd rfl (Or.inl rfl) (jau jc8 ja4 (ja7 G_law_take (hr.mono (by decide)) rfl D_law_take.m D_law_take.F.kp D_law_take.b .nil jap (ja0 (qv 0) (ja0 ja4 ja3))))) (ja2 (jdq (i:=4) sc.nd rfl (Or.inl rfl) (CpScope.of (N:=["_law_k","_law_state"]) (src:=[none,some 0]) (by rfl)) rfl (jbv rfl B.range (ja0 (ja7 G_law_take (hr.mono (by decide)) rfl D_law_take.m D_law_take.F.kp D_law_take.b .nil jap (ja0 (qv 0) (ja0 (jau jc8 (qv 1) ja4) ja3))) ja3)) (fun _ _ _ _=>(ja9 (i:=0) (jai (l:=["_law_k","_law_state"]) (by rfl)) rfl (Or.inl rfl))) (fun _ _ _ _=>jc3) (fun _ _ _ _=>(ja7 G_law_take (hr.mono (by decide)) rfl D_law_take.m D_law_take.F.kp D_law_take.b .nil jap (ja0 (qv 1) (ja0 ja4 ja3))))) (ja2 (jak (i:=5) sc.nd rfl (Or.inl rfl) (jc0 ja3)) (ja2 (jbm PassesOwn.never rfl (jbv rfl B.range (ja0 (jad jcj rfl B.len PySem.boot_len (ja0 (qv 4) ja3)) ja3)) (ja9 (i:=6) sc.nd rfl (Or.inl rfl)) (ja6 (jbm PassesOwn.never rfl (jod rfl B.range (ja0 (jau jc8 (qv 6) ja4) (ja0 (jad jcj rfl B.len PySem.boot_len (ja0 (qv 4) ja3)) ja3))) (ja9 (i:=7) sc.nd rfl (Or.inl rfl)) (ja6 (jb1 (PW.pt (jdp (jao q_gt (jau jc8 (jac q_ix (qv 4) (qv 6) (fun _ _=>rfl)) (jac q_ix (qv 4) (qv 7) (fun _ _=>rfl))) ja4 (jam _)) (jcy (jao q_lt (ja7 G_law_take (hr.mono (by decide)) rfl D_law_take.m D_law_take.F.kp D_law_take.b .nil jap (ja0 (qv 0) (ja0 ja4 ja3))) (qv 3) (jam _))))) (ja2 (jak (i:=8) sc.nd rfl (Or.inl rfl) ja4) (ja2 (jb1 (PW.pt (jdp (jao q_eq (jau jc8 (jac q_ix (qv 4) (qv 6) (fun _ _=>rfl)) (jac q_ix (qv 4) (qv 7) (fun _ _=>rfl))) ja4 (jam _)) (jcy (jao q_gt (ja7 G_law_take (hr.mono (by decide)) rfl D_law_take.m D_law_take.F.kp D_law_take.b .nil jap (ja0 (qv 0) (ja0 ja4 ja3))) ja4 (jam _))))) (ja6 (jak (i:=8) sc.nd rfl (Or.inl rfl) (jau jc8 ja4 (ja7 G_law_take (hr.mono (by decide)) rfl D_law_take.m D_law_take.F.kp D_law_take.b .nil jap (ja0 (qv 0) (ja0 (qv 2) ja3)))))) jal) (ja6 (jce (q_bm PySem.F.plainAttrs_list PySem.F.slot_list_append PySem.F.type_list_append jct (qv 5) (ja0 (jc0 (ja0 (qv 6) (ja0 (qv 7) (ja0 (qv 8) ja3)))) ja3)))))) jal))))) (ja6 (jah (ja7 G_law_priced (hr.mono (by decide)) rfl D_law_priced.m D_law_priced.F.kp D_law_priced.b .nil jap (ja0 (qv 0) (ja0 (qv 4) (ja0 (qv 5) ja3))))))))))),?_⟩
 walk_at "RD"
 refine ⟨⟨by decide,by decide,by decide⟩,?_⟩
 intro p1 hp1
 have np1:p1 ≠ st:=(jab es hp1).symm
 refine ⟨st,o,3,rfl,(ja5 hp1 _) _ _ es,so,by decide,by decide,fun d1 o1 d10 d11 so1=>?_⟩
 obtain ⟨g,ev,g0,g1⟩:∃ v,atI [V.int 2,.int 9,.int (10 ^ Int.toNat 9)] d1 = some (.int v)∧1 ≤ v∧v ≤ 1000000000:=by
  obtain ⟨v,e,hv⟩:=menu3 (a:=2) (b:=9) (c:=10 ^ Int.toNat 9) d10 d11
  rw [ten9] at hv
  exact ⟨v,e,by omega,by omega⟩
 simp_arith [jaj,jae np1,ja1,ev]
 refine ⟨st,o1,4,rfl,ja1,so1,by decide,by decide,fun d2 o2 d20 d21 so2=>?_⟩
 simp_arith [jf5]
 have b2:But st H (upd (upd H p1 (.lst [.int 2,.int 9,.int (10 ^ Int.toNat 9)])) st o2):=(But.new hp1).trans (But.at _ _ _)
 have e2:upd (upd H p1 (.lst [.int 2,.int 9,.int (10 ^ Int.toNat 9)])) st o2 st = some o2:=ja1
 generalize upd (upd H p1 (.lst [.int 2,.int 9,.int (10 ^ Int.toNat 9)])) st o2 = H1 at b2 e2
 generalize hdn:1 + d2 = dn
 refine jkn (ι:=Int × HO) (fun i=>Itr 0 i.1.toNat) (fun i=>upd H1 st i.2) (fun i=>0 ≤ i.1∧i.1 ≤ 9∧StO i.2) (fun R hR=>?_) (fun i0 ok0 hl hhl=>?_)
 ·unfold jfr
  walk_at "RD"
  refine ⟨st,o2,10,rfl,e2,so2,by decide,by decide,fun d o3 d0 d1 so3=>?_⟩
  exact ⟨d,rfl,by omega,by omega,hR (d,o3) ⟨d0,by show d ≤ 9; omega,so3⟩⟩
 obtain ⟨n,o3⟩:=i0
 obtain ⟨n0,n1,so3⟩:=ok0
 dsimp only at n0 n1 so3 hhl ⊢
 have nhl:hl ≠ st:=fun z=>by rw [z,ja1] at hhl; cases hhl
 have hhl1:H1 hl = none:=by rw [jae nhl] at hhl; exact hhl
 refine jay n.toNat (fun i σ' Hc=>∃ w1 o' hs,σ' = [w1,some (.ref st)]∧But st H1 Hc∧Hc st = some o'∧StO o'∧Hc hl = some (.lst (hs.map V.int))∧hs.length = i∧∀ h ∈ hs,0 ≤ h∧h ≤ (2:Int)) ⟨none,o3,[],rfl,jfj (But.at _ _ _) hhl1,by rw [jae nhl.symm,ja1],so3,ja1,rfl,(fun h hh=>by cases hh)⟩ ?_ ?_
 ·rintro k σ' Hc hk ⟨w1,o',hs,rfl,b3,e3,so',eh,lh,ah⟩
  refine ⟨hk,?_⟩
  rintro y H' ⟨rfl,rfl⟩
  walk_at "RD"
  refine ⟨st,o',3,rfl,e3,so',by decide,by decide,fun d o4 d0 d1 so4=>?_⟩
  refine ⟨_,by rw [jae nhl]; exact eh,by rw [List.length_map]; exact szl' (by omega),_,o4,hs ++ [d],rfl,jfj (b3.trans (But.at _ _ _)) hhl1,by rw [jae nhl.symm,ja1],so4,by rw [List.map_append]; exact ja1,by rw [List.length_append,List.length_singleton,lh],fun x hx=>?_⟩
  rcases List.mem_append.mp hx with z | z
  ·exact ah x z
  ·rw [List.mem_singleton.mp z]; omega
 rintro σ' H2 ⟨w1,o4,hs,rfl,b3,e3,so4,eh,lh,ah⟩
 refine ⟨Nat.le_refl _,?_⟩
 have hhs:hs.length ≤ 9:=by omega
 walk_at "RD"
 intro ra hra
 have nra:ra ≠ st:=(jab e3 hra).symm
 have nhr:hl ≠ ra:=jab eh hra
 refine jb0 (Itr 0 hs.length) _ (fun R hR=>?_) (jc2 (lo:=0) (n:=hs.length) (fun i σ H3=>∃ w1 w2 w3 rx raw,σ = [some (.ref st),some (.int 9),some (.int g),some (.int dn),some (.ref hl),some (.ref ra),w1,w2,w3]∧But st H2 H3∧(∃ o',H3 st = some o'∧StO o')∧H3 ra = some (.lst rx)∧Rws H3 rx raw∧(∀ r ∈ raw,GR hs r)∧LB raw (9 * i) (i:Int) 0) ⟨_,_,_,[],[],rfl,But.new hra,⟨o4,(ja5 hra _) _ _ e3,so4⟩,ja1,.nil,(fun r hr=>by cases hr),⟨Nat.le_refl _,.nil,fun r hr=>by cases hr⟩⟩ ?_ ?_)
 ·unfold jfr
  simp_arith [jaj,(ja5 hra (.lst [])) _ _ eh,List.length_map]
  exact ⟨_,rfl,by omega,by omega,hR⟩
 ·rintro i σ H3 hi ⟨w1,w2,w3,rx,raw,rfl,b4,⟨o5,e4,so5⟩,er,pr,gr,lr⟩
  have eh3:=b4 _ _ nhl eh
  walk_at "RD"
  refine jb0 (Itr (0 + (i:Int) + 1) ((hs.length:Int) - (0 + (i:Int) + 1)).toNat) H3 (fun R hR=>?_) (jc2 (lo:=0 + (i:Int) + 1) (n:=((hs.length:Int) - (0 + (i:Int) + 1)).toNat) (fun j σ H4=>∃ w2 w3 rx raw,σ = [some (.ref st),some (.int 9),some (.int g),some (.int dn),some (.ref hl),some (.ref ra),some (.int (0 + (i:Int))),w2,w3]∧But st H2 H4∧(∃ o',H4 st = some o'∧StO o')∧H4 ra = some (.lst rx)∧Rws H4 rx raw∧(∀ r ∈ raw,GR hs r)∧LB raw (9 * i + j) (i:Int) ((i:Int) + 1 + j)) ⟨_,_,rx,raw,rfl,b4,⟨o5,e4,so5⟩,er,pr,gr,lr.mono (by omega) (.inr ⟨rfl,by omega⟩)⟩ ?_ ?_)
  ·unfold iRng2
   simp_arith [jaj,eh3,List.length_map]
   exact ⟨_,_,rfl,⟨by omega,by omega,by omega,by omega⟩,hR⟩
  ·rintro j σ H4 hj ⟨w2,w3,rx,raw,rfl,b5,⟨o6,e5,so6⟩,er5,pr5,gr5,lr5⟩
   have eh4:=b5 _ _ nhl eh
   have hjj:0 + (i:Int) + 1 + j < hs.length:=by omega
   have a1:=jdf (xs:=hs) (k:=0 + (i:Int)) (by omega) (by omega)
   have a2:=jdf (xs:=hs) (k:=0 + (i:Int) + 1 + j) (by omega) (by omega)
   have hrl:rx.length = raw.length:=Paired.length pr5
   have lr5':=lr5.1
   have skip:∀ (H5:Hp) (w3:Option V),But st H4 H5→(∃ o',H5 st = some o'∧StO o')→∃ w2' w3' rx raw,[some (.ref st),some (.int 9),some (.int g),some (.int dn),some (.ref hl),some (.ref ra),some (.int (0 + (i:Int))),some (.int (0 + (i:Int) + 1 + j)),w3] = [some (.ref st),some (.int 9),some (.int g),some (.int dn),some (.ref hl),some (.ref ra),some (.int (0 + (i:Int))),w2',w3']∧But st H2 H5∧(∃ o',H5 st = some o'∧StO o')∧H5 ra = some (.lst rx)∧Rws H5 rx raw∧(∀ r ∈ raw,GR hs r)∧LB raw (9 * i + (j + 1)) (i:Int) ((i:Int) + 1 + ((j + 1:Nat):Int)):=fun H5 w3 b z=>⟨_,_,rx,raw,rfl,b5.trans b,z,b _ _ nra er5,Rws.but e5 so6 b pr5,gr5,lr5.mono (by omega) (.inr ⟨rfl,by omega⟩)⟩
   generalize hB:jmh (fBM jeh (fVar 5) (jel (tLst (jel (fVar 6) (jel (fVar 7) (jel (fVar 8) tNil)))) tNil)) = B2
   have key:∀ (D':Ends) (H5:Hp) (due:Int),(∀ (H6:Hp) (rx:List V) (raw:List (Int × Int × Int)),But st H2 H6∧(∃ o',H6 st = some o'∧StO o')∧H6 ra = some (.lst rx)∧Rws H6 rx raw∧(∀ r ∈ raw,GR hs r)→LB raw (9 * i + (j + 1)) (i:Int) ((i:Int) + 1 + ((j + 1:Nat):Int))→D'.nx [some (.ref st),some (.int 9),some (.int g),some (.int dn),some (.ref hl),some (.ref ra),some (.int (0 + (i:Int))),some (.int (0 + (i:Int) + 1 + j)),some (.int due)] H6)→But st H4 H5→(∃ o',H5 st = some o'∧StO o')→GR hs (0 + (i:Int),0 + (i:Int) + 1 + j,due)→B2 D' [some (.ref st),some (.int 9),some (.int g),some (.int dn),some (.ref hl),some (.ref ra),some (.int (0 + (i:Int))),some (.int (0 + (i:Int) + 1 + j)),some (.int due)] H5:=by
    rintro D' H5 due hD b6 ⟨o7,e6,so7⟩ gd
    have er6:=b6 _ _ nra er5
    have pr6:=Rws.but e5 so6 b6 pr5
    subst hB
    walk_at "RD"
    refine ⟨⟨ra,_,rfl,er6⟩,fun t ht=>?_⟩
    have nt:ra ≠ t:=jab er6 ht
    simp_arith [jae nt,er6]
    refine ⟨szl' (by omega),?_⟩
    have sA:=ja5 ht (.lst [.int (0 + (i:Int)),.int (0 + (i:Int) + 1 + j),.int due])
    have erA:=sA _ _ er6
    have eA:=ja1 (H:=H5) (a:=t) (o:=.lst [.int (0 + (i:Int)),.int (0 + (i:Int) + 1 + j),.int due])
    have prA:=Rws.same sA pr6
    generalize upd H5 t (.lst [.int (0 + (i:Int)),.int (0 + (i:Int) + 1 + j),.int due]) = HA at sA erA eA prA
    refine hD _ (rx ++ [.ref t]) (raw ++ [(0 + (i:Int),0 + (i:Int) + 1 + j,due)]) ⟨jfj ((b5.trans b6).trans (But.same sA)) hra,⟨o7,by rw [jae nra.symm]; exact sA _ _ e6,so7⟩,ja1,jav (Rws.upd prA erA) ⟨t,rfl,by rw [jae nt.symm]; exact eA⟩,fun r hr=>?_⟩ (lr5.snoc (by omega) (by show 0 + (i:Int) = _; omega) (by show 0 + (i:Int) + 1 + j = _; omega) (by omega))
    rcases List.mem_append.mp hr with z | z
    ·exact gr5 r z
    ·rw [List.mem_singleton.mp z]; exact gd
   simp_arith [jaj,eh4,a1,a2]
   refine ite2 (fun c1=>?_) (fun c1=>skip H4 _ (But.refl _ _) ⟨o6,e5,so6⟩)
   have c1':nth hs (0 + (i:Int)) + nth hs (0 + (i:Int) + 1 + j) > 1:=of_decide_eq_true c1
   refine ⟨st,o6,5,rfl,e5,so6,by decide,by decide,fun d3 o7 d30 d31 so7=>?_⟩
   walk_at "RD"
   refine ite2 (fun c2=>?_) (fun c2=>skip _ _ (But.at _ _ _) ⟨o7,ja1,so7⟩)
   have eh5:upd H4 st o7 hl = some (.lst (hs.map V.int)):=by rw [jae nhl]; exact eh4
   simp_arith [jaj,eh5,a1,a2]
   have fin:∀ (H6:Hp) (rx:List V) (raw:List (Int × Int × Int)) (w3:Option V),But st H2 H6∧(∃ o',H6 st = some o'∧StO o')∧H6 ra = some (.lst rx)∧Rws H6 rx raw∧(∀ r ∈ raw,GR hs r)→LB raw (9 * i + (j + 1)) (i:Int) ((i:Int) + 1 + ((j + 1:Nat):Int))→∃ w2' w3' rx raw,[some (.ref st),some (.int 9),some (.int g),some (.int dn),some (.ref hl),some (.ref ra),some (.int (0 + (i:Int))),some (.int (0 + (i:Int) + 1 + j)),w3] = [some (.ref st),some (.int 9),some (.int g),some (.int dn),some (.ref hl),some (.ref ra),some (.int (0 + (i:Int))),w2',w3']∧But st H2 H6∧(∃ o',H6 st = some o'∧StO o')∧H6 ra = some (.lst rx)∧Rws H6 rx raw∧(∀ r ∈ raw,GR hs r)∧LB raw (9 * i + (j + 1)) (i:Int) ((i:Int) + 1 + ((j + 1:Nat):Int)):=fun H6 rx raw w3 z1 z2=>⟨_,_,rx,raw,rfl,z1.1,z1.2.1,z1.2.2.1,z1.2.2.2.1,z1.2.2.2.2,z2⟩
   refine ite2 (fun c3=>?_) (fun c3=>?_)
   ·have c3':nth hs (0 + (i:Int)) + nth hs (0 + (i:Int) + 1 + j) = 2:=of_decide_eq_true c3
    refine ⟨st,o7,4,rfl,ja1,so7,by decide,by decide,fun d4 o8 d40 d41 so8=>?_⟩
    simp_arith [jf5]
    refine ite2 (fun c4=>?_) (fun c4=>?_)
    ·refine ⟨st,o8,g,rfl,ja1,so8,by omega,by omega,fun d5 o9 d50 d51 so9=>?_⟩
     simp_arith [jf5]
     exact key _ _ _ (fun H6 rx raw z1 z2=>fin H6 rx raw _ z1 z2) (But.at _ _ _) ⟨o9,ja1,so9⟩ ⟨⟨by show 0 ≤ 0 + (i:Int); omega,by show 0 + (i:Int) < 0 + (i:Int) + 1 + j; omega,hjj⟩,by show 0 ≤ 1 + d5∧1 + d5 ≤ 1000000000; omega,by show 2 ≤ nth hs (0 + (i:Int)) + nth hs (0 + (i:Int) + 1 + j); omega,fun _=>c3'⟩
    ·exact key _ _ _ (fun H6 rx raw z1 z2=>fin H6 rx raw _ z1 z2) (But.at _ _ _) ⟨o8,ja1,so8⟩ ⟨⟨by show 0 ≤ 0 + (i:Int); omega,by show 0 + (i:Int) < 0 + (i:Int) + 1 + j; omega,hjj⟩,by show (0:Int) ≤ 0∧(0:Int) ≤ 1000000000; omega,by show 2 ≤ nth hs (0 + (i:Int)) + nth hs (0 + (i:Int) + 1 + j); omega,fun _=>c3'⟩
   ·exact key _ _ _ (fun H6 rx raw z1 z2=>fin H6 rx raw _ z1 z2) (But.at _ _ _) ⟨o7,ja1,so7⟩ ⟨⟨by show 0 ≤ 0 + (i:Int); omega,by show 0 + (i:Int) < 0 + (i:Int) + 1 + j; omega,hjj⟩,by show (0:Int) ≤ 0∧(0:Int) ≤ 1000000000; omega,by show 2 ≤ nth hs (0 + (i:Int)) + nth hs (0 + (i:Int) + 1 + j); omega,fun z=>absurd z (by show ¬ (0:Int) < 0; omega)⟩
  ·rintro σ H4 ⟨w2,w3,rx,raw,rfl,b5,z5,er5,pr5,gr5,lr5⟩
   exact ⟨_,_,_,rx,raw,rfl,b5,z5,er5,pr5,gr5,lr5.mono (by omega) (.inl (by omega))⟩
 rintro σ H3 ⟨w1,w2,w3,rx,raw,rfl,b4,⟨o5,e4,so5⟩,er,pr,gr,lr⟩
 walk_at "RD"
 refine ⟨st,hl,ra,o5,hs,rx,raw,rfl,e4,so5,b4 _ _ nhl eh,er,pr,⟨fun r hr=>(gr r hr).1,fun r hr=>(gr r hr).2.1.1,fun r hr=>(gr r hr).2.1.2,fun r hr=>(gr r hr).2.2.1,fun r hr=>(gr r hr).2.2.2,lr.2.1,by have:=lr.1; omega,hhs,ah⟩,fun t wv hl' da hx dx ns cs tw H4 o6 b5 e5 so6 et w5 eh5 ph5 ed pd L=>?_⟩
 exact h t wv hl' da hx dx hs ns cs raw tw H4 o6 (((b2.trans b3).trans b4).trans b5) e5 so6 et w5 eh5 ph5 ed pd L
end
end My
namespace L2
open PySem PySem.Spec PyProof.Rows
section
variable {X:Cx} {pins:List (Addr × Obj)} {σ:St} {H:Hp} {s:Shared}
end
theorem jlk:∀ {vs:List V} {us:List Value},Vals vs us→Vals vs.reverse us.reverse
 | _,_,.nil=>.nil
 | _,_,.cons r t=>by
  rw [List.reverse_cons,List.reverse_cons]
  exact (jlk t).append (.cons r .nil)
end L2
namespace My
open PySem L2
section
variable {P:Program} {w:World} {K:PySem.W.Frag} {mg:Str→Option Value} {base:Heap} {c1 c2 c3 c4:Tok} {C_NoWeb f_NoWeb:Addr} {dI:FuncData}
def IRow (H:Hp) (v:V) (r:List Int):Prop:=∃ t,v = .ref t∧H t = some (.tup (r.map V.int))
abbrev jdg (H:Hp) (xs:List V) (rs:List (List Int)):Prop:=Paired (IRow H) xs rs
theorem IRow.tups {H H':Hp} {v:V} {r:List Int} (h:IRow H v r) (s:TupS H H'):IRow H' v r:=let ⟨t,e,q⟩:=h; ⟨t,e,s _ _ rfl q⟩
theorem jdg.tups {H H':Hp} {xs:List V} {rs:List (List Int)} (h:jdg H xs rs) (s:TupS H H'):jdg H' xs rs:=Paired.mapP h fun _ _ q=>q.tups s
theorem jdg.set {H:Hp}:∀ {xs:List V} {rs:List (List Int)} {v:V} {r:List Int} (i:Nat),jdg H xs rs→IRow H v r→jdg H (xs.set i v) (rs.set i r)
 | _,_,_,_,_,.nil,_=>.nil
 | _,_,_,_,0,.cons _ t,h=>.cons h t
 | _,_,_,_,i + 1,.cons a t,h=>.cons a (jdg.set i t h)
theorem ne_row {H:Hp} {st a:Addr} {o:HO} {xs:List V} {rs:List (List Int)} (e:H st = some o) (so:StO o) (ea:H a = some (.lst xs)) (p:jdg H xs rs):a ≠ st:=jso e so ea fun v hv=>by
 obtain ⟨i,hi,rfl⟩:=List.mem_iff_getElem.mp hv
 obtain ⟨r,_,t,et,_⟩:=jaa p (List.getElem?_eq_getElem hi)
 exact ⟨t,et⟩
def But2 (s l:Addr) (H H':Hp):Prop:=∀ b o,b ≠ s→b ≠ l→H b = some o→H' b = some o
theorem But2.trans {s l:Addr} {H H1 H2:Hp} (a:But2 s l H H1) (b:But2 s l H1 H2):But2 s l H H2:=fun c o n m q=>b c o n m (a c o n m q)
theorem But.two {s l:Addr} {H H':Hp} (h:But s H H'):But2 s l H H':=fun b o n _ q=>h b o n q
theorem But2.at (s l:Addr) (H:Hp) (o:HO):But2 s l H (upd H l o):=fun b u _ n q=>by rw [jae n]; exact q
def RwB (B:Int) (r:List Int):Prop:=2 ≤ r.length∧r.length ≤ 3∧∀ i ∈ r,-B ≤ i∧i ≤ B
theorem jrf {H:Hp} {xs:List V} {rs:List (List Int)} (p:jdg H xs rs) {k:Int} (h0:0 ≤ k) (h1:k < rs.length):∃ t r,atI xs k = some (.ref t)∧H t = some (.tup (r.map V.int))∧r ∈ rs∧ixN xs.length k = some k.toNat:=by
 have hl:xs.length = rs.length:=Paired.length p
 have hk:k.toNat < rs.length:=by omega
 obtain ⟨v,hv,t,rfl,ht⟩:=jc6 p (List.getElem?_eq_getElem hk)
 have hx:=jk0 (n:=xs.length) h0 (by omega)
 refine ⟨t,_,?_,ht,List.getElem_mem hk,hx⟩
 unfold atI
 rw [hx]
 exact hv
theorem jls {r:List Int} {B:Int} (h:RwB B r):∃ r0 z,r = r0 ++ [z]∧r0 ≠ []:=by
 obtain ⟨h1,h2,_⟩:=h
 match r,h1,h2 with
 | [a,b],_,_=>exact ⟨[a],b,rfl,by simp⟩
 | [a,b,c],_,_=>exact ⟨[a,b],c,rfl,by simp⟩
theorem jmc (r0:List V) (z:V):cutV (r0 ++ [z]) none (some (-1)) = r0:=by
 unfold cutV HT.sIx
 have e:((-1:Int) + ((r0 ++ [z]).length:Int)).toNat = r0.length:=by rw [List.length_append,List.length_singleton]; omega
 simp only [show (-1:Int) < 0 by decide,if_true,e,List.drop_zero,Nat.sub_zero]
 exact List.take_left'  rfl
theorem jpt (r0:List V) (z:V):¬ (HT.sIx (r0 ++ [z]).length 0 none = 0∧HT.sIx (r0 ++ [z]).length (r0 ++ [z]).length (some (-1)) = (r0 ++ [z]).length):=fun h=>by
 have h2:=h.2
 unfold HT.sIx at h2
 simp only [show (-1:Int) < 0 by decide,if_true,List.length_append,List.length_singleton] at h2
 omega
theorem RwB.snoc {B C m:Int} {r0:List Int} {z:Int} (h:RwB B (r0 ++ [z])) (hm:-2 ≤ m∧m ≤ 2) (hc:B + 2 ≤ C):RwB C (r0 ++ [z + m]):=by
 obtain ⟨h1,h2,h3⟩:=h
 rw [List.length_append,List.length_singleton] at h1 h2
 refine ⟨by rw [List.length_append,List.length_singleton]; exact h1,by rw [List.length_append,List.length_singleton]; exact h2,fun i hi=>?_⟩
 rcases List.mem_append.mp hi with q | q
 ·have:=h3 i (List.mem_append_left _ q); omega
 ·have:=h3 z (List.mem_append_right _ (List.mem_singleton.mpr rfl))
  rw [List.mem_singleton.mp q]
  omega
theorem RwB.mono {B C:Int} {r:List Int} (h:RwB B r) (hc:B ≤ C):RwB C r:=⟨h.1,h.2.1,fun i hi=>by have:=h.2.2 i hi; omega⟩
theorem ji4 {α:Type} {F:α→Prop} {rs:List α} {r:α} {k:Nat} (h:∀ x ∈ rs,F x) (hr:F r):∀ x ∈ rs.set k r,F x:=fun x hx=>by
 rcases List.mem_or_eq_of_mem_set hx with q | q
 ·exact h x q
 ·rw [q]; exact hr
def jnh:Sp:=fun vs H Q _=>∃ (st l:Addr) (o:HO) (xs:List V) (rs:List (List Int)),vs = [.ref st,.ref l]∧H st = some o∧StO o∧H l = some (.lst xs)∧jdg H xs rs∧rs ≠ []∧rs.length ≤ 81∧(∀ r ∈ rs,RwB 2000000000000 r) ∧
 ∀ (H':Hp) (o':HO) (xs':List V) (rs':List (List Int)),But2 st l H H'→H' st = some o'→StO o'→H' l = some (.lst xs')→jdg H' xs' rs'→rs'.length = rs.length→(∀ r ∈ rs',RwB 2000000000004 r)→(∀ n,(∀ r ∈ rs,r.length = n)→∀ r ∈ rs',r.length = n)→Q (.ref l) H'
theorem jeb {α β:Type} {F:α→β→Prop}:∀ (n:Nat) {xs:List α} {ys:List β},Paired F xs ys→Paired F (xs.take n) (ys.take n)
 | 0,_,_,_=>.nil
 | _ + 1,_,_,.nil=>.nil
 | n + 1,_,_,.cons a t=>.cons a (jeb n t)
theorem jec {α β:Type} {F:α→β→Prop}:∀ (n:Nat) {xs:List α} {ys:List β},Paired F xs ys→Paired F (xs.drop n) (ys.drop n)
 | 0,_,_,h=>h
 | _ + 1,_,_,.nil=>.nil
 | n + 1,_,_,.cons _ t=>jec n t
theorem jhq {α β:Type} {F:α→β→Prop}:∀ {xs xs':List α} {ys ys':List β},Paired F xs ys→Paired F xs' ys'→Paired F (xs ++ xs') (ys ++ ys')
 | _,_,_,_,.nil,h=>h
 | _,_,_,_,.cons a t,h=>.cons a (jhq t h)
theorem cut_to {xs:List V} {k:Int} (h0:0 ≤ k) (h1:k ≤ xs.length):cutV xs none (some k) = xs.take k.toNat:=by
 unfold cutV HT.sIx
 simp only [List.drop_zero]
 congr 1
 split <;> omega
theorem jhc {f:Addr} {fd:FuncData} {f_law_take:Addr} {d_law_take:FuncData} (B:Blt mg) (D:DefAt K mg "_law_shifted" (top 51) ["_law_state","_law_some"] f fd) (D_law_take:DefAt K mg "_law_take" (top 39) ["_law_state","_law_many"] f_law_take d_law_take) (G_law_take:FnOk P w K mg base CX0 1 f_law_take d_law_take ["_law_state","_law_many"] jfk):FnOk P w K mg base CX0 2 f fd ["_law_state","_law_some"] jnh:=by
 have sc:FnScope ["_law_state","_law_some","_law_at","_law_other","_law_many"] ["_law_state","_law_some"] (jaf (top 51)):=⟨rfl,rfl,rfl,by decide +kernel,rfl,by decide +kernel,by decide +kernel⟩
 refine D.F.ok sc (fun vs H Q E h=>?_) (fun cdv A outer s H vs Q E hr h=>?_)
 ·obtain ⟨st,l,o,xs,rs,rfl,_⟩:=h
  rfl
 obtain ⟨st,l,o,xs,rs,rfl,e,so,el,pr,ne,hlen,hb,h⟩:=h
 have hu:=jbh hr
 have hu0:_ < PySem.cLine:=Nat.lt_of_succ_lt hu
 refine ⟨_,(ja2 (jak (i:=2) sc.nd rfl (Or.inl rfl) (ja7 G_law_take (hr.mono (by decide)) rfl D_law_take.m D_law_take.F.kp D_law_take.b .nil jap (ja0 (qv 0) (ja0 (jad jcj rfl B.len PySem.boot_len (ja0 (qv 1) ja3)) ja3)))) (ja2 (jak (i:=3) sc.nd rfl (Or.inl rfl) (ja7 G_law_take (hr.mono (by decide)) rfl D_law_take.m D_law_take.F.kp D_law_take.b .nil jap (ja0 (qv 0) (ja0 (jad jcj rfl B.len PySem.boot_len (ja0 (qv 1) ja3)) ja3)))) (ja2 (jak (i:=4) sc.nd rfl (Or.inl rfl) (jau jc8 ja4 (ja7 G_law_take (hr.mono (by decide)) rfl D_law_take.m D_law_take.F.kp D_law_take.b .nil jap (ja0 (qv 0) (ja0 ja4 ja3))))) (ja2 (jd3 (jau jrj (jb3 jf6 (jac q_ix (qv 1) (qv 2) (fun _ _=>rfl)) jbg (jbe (jdr jdo ja4))) (jaz (ja0 (jau jc8 (jac q_ix (jac q_ix (qv 1) (qv 2) (fun _ _=>rfl)) (jdr jdo ja4) (fun _ _=>rfl)) (qv 4)) ja3))) (jd8 (qv 1) (qv 2) jd7)) (ja2 (jd3 (jau jrj (jb3 jf6 (jac q_ix (qv 1) (qv 3) (fun _ _=>rfl)) jbg (jbe (jdr jdo ja4))) (jaz (ja0 (jau jqf (jac q_ix (jac q_ix (qv 1) (qv 3) (fun _ _=>rfl)) (jdr jdo ja4) (fun _ _=>rfl)) (qv 4)) ja3))) (jd8 (qv 1) (qv 3) jd7)) (ja6 (jah (qv 1)))))))),?_⟩
 have hlx:xs.length = rs.length:=Paired.length pr
 have hpos:0 < rs.length:=List.length_pos_iff.mpr ne
 refine ja8 fun R hR=>?_
 have nl:l ≠ st:=ne_row e so el pr
 simp_arith [jaj,el]
 refine ⟨st,o,_,rfl,e,so,by omega,by omega,fun at' o1 a0 a1 so1=>?_⟩
 have b1:=But.at st H o1
 have e1:upd H st o1 st = some o1:=ja1
 have el1:=b1 _ _ nl el
 generalize upd H st o1 = H1 at b1 e1 el1
 subst hR
 refine ja8 fun R hR=>?_
 simp_arith [jaj,el1]
 refine ⟨st,o1,_,rfl,e1,so1,by omega,by omega,fun ot o2 t0 t1 so2=>?_⟩
 have b2:=b1.trans (But.at st H1 o2)
 have e2:upd H1 st o2 st = some o2:=ja1
 have el2:=But.at st H1 o2 _ _ nl el1
 generalize upd H1 st o2 = H2 at b2 e2 el2
 subst hR
 refine ja8 fun R hR=>?_
 walk_at "RD"
 refine ⟨st,o2,2,rfl,e2,so2,by decide,by decide,fun d o3 d0 d1 so3=>?_⟩
 have b3:=b2.trans (But.at st H2 o3)
 have e3:upd H2 st o3 st = some o3:=ja1
 have el3:=But.at st H2 o3 _ _ nl el2
 generalize upd H2 st o3 = H3 at b3 e3 el3
 subst hR
 refine ja8 fun R hR=>?_
 have pr3:=jdg.tups pr (b3.tups e so.imm)
 clear el1 el2 e1 e2 b1 b2
 obtain ⟨t1,r1,g1,g2,g3,g4⟩:=jrf pr3 a0 (by omega)
 obtain ⟨r0,z,rfl,hr0⟩:=jls (hb _ g3)
 rw [List.map_append] at g2
 have hr0':r0.map V.int ≠ []:=fun q=>hr0 (List.map_eq_nil_iff.mp q)
 have hrl:r0.length ≤ 3:=by have:=(hb _ g3).2.1; rw [List.length_append] at this; omega
 simp_arith [jaj,el3,g1,g2,List.map_cons,List.map_nil]
 refine ⟨jpt _ _,fun p1 hp1=>?_⟩
 rw [jmc]
 have s4:=ja5 hp1 (.tup (r0.map V.int))
 have ep1:upd H3 p1 (.tup (r0.map V.int)) p1 = some (.tup (r0.map V.int)):=ja1
 generalize upd H3 p1 (.tup (r0.map V.int)) = H4 at s4 ep1
 simp_arith [jaj,s4 _ _ el3,g1,s4 _ _ g2,List.map_cons,List.map_nil,jg7]
 intro p2 hp2
 have s5:=s4.trans (ja5 hp2 (.tup [.int (z + (1 + d))]))
 have ep2:upd H4 p2 (.tup [.int (z + (1 + d))]) p2 = some (.tup [.int (z + (1 + d))]):=ja1
 have ep1':=ja5 hp2 (.tup [.int (z + (1 + d))]) _ _ ep1
 generalize upd H4 p2 (.tup [.int (z + (1 + d))]) = H5 at s5 ep2 ep1'
 simp_arith [jqz,ep1',ep2]
 refine ⟨szl' (by rw [List.length_map]; omega),by simp,?_⟩
 rw [if_neg hr0']
 intro p3 hp3
 have s6:=s5.trans (ja5 hp3 (.tup (r0.map V.int ++ [.int (z + (1 + d))])))
 have ep3:upd H5 p3 (.tup (r0.map V.int ++ [.int (z + (1 + d))])) p3 = some (.tup (r0.map V.int ++ [.int (z + (1 + d))])):=ja1
 generalize upd H5 p3 (.tup (r0.map V.int ++ [.int (z + (1 + d))])) = H6 at s6 ep3
 have elN:=s6 _ _ el3
 simp only [elN,g4]
 have prN:=jdg.set at'.toNat (jdg.tups pr3 s6.tups) (r:=r0 ++ [z + (1 + d)]) ⟨p3,rfl,by rw [ep3,List.map_append]; rfl⟩
 have hbN:=ji4 (k:=at'.toNat) (fun r hr=>(hb r hr).mono (show 2000000000000 ≤ 2000000000002 by decide)) (RwB.snoc (m:=1 + d) (C:=2000000000002) (hb _ g3) (by omega) (by decide))
 have lnN:∀ n,(∀ r ∈ rs,r.length = n)→∀ r ∈ rs.set at'.toNat (r0 ++ [z + (1 + d)]),r.length = n:=fun n hn=>ji4 hn (by have:=hn _ g3; rw [List.length_append,List.length_singleton] at this ⊢; exact this)
 have buN:=(But.two (l:=l) b3).trans (((But.same (s:=st) s6).two (l:=l)).trans (But2.at st l H6 (.lst (xs.set at'.toNat (.ref p3)))))
 have eN:upd H6 l (.lst (xs.set at'.toNat (.ref p3))) st = some o3:=by rw [jae (Ne.symm nl)]; exact s6 _ _ e3
 have ellN:upd H6 l (.lst (xs.set at'.toNat (.ref p3))) l = some (.lst (xs.set at'.toNat (.ref p3))):=ja1
 have prNN:=jdg.tups prN (jb2 (ys:=xs.set at'.toNat (.ref p3)) elN)
 generalize hxA:xs.set at'.toNat (.ref p3) = xsA at buN eN ellN prNN ⊢
 generalize upd H6 l (.lst xsA) = HA at buN eN ellN prNN
 generalize hrA:rs.set at'.toNat (r0 ++ [z + (1 + d)]) = rsA at prNN hbN lnN
 have hlA:rsA.length = rs.length:=by rw [← hrA,List.length_set]
 have prA:=prNN
 have hbA:=hbN
 have lnA:=lnN
 have buA:=buN
 have elA:=ellN
 have eA:=eN
 clear prNN prN hbN lnN buN ellN eN elN ep3 ep2 ep1 ep1' s6 s5 s4 hp1 hp2 hp3 g1 g2 g3 g4 hr0' hrl hr0 hrA el3 pr3 hb b3
 subst hR
 refine ja8 fun R hR=>?_
 obtain ⟨t1,r1,g1,g2,g3,g4⟩:=jrf prA t0 (by omega)
 obtain ⟨r0,z,rfl,hr0⟩:=jls (hbA _ g3)
 rw [List.map_append] at g2
 have hr0':r0.map V.int ≠ []:=fun q=>hr0 (List.map_eq_nil_iff.mp q)
 have hrl:r0.length ≤ 3:=by have:=(hbA _ g3).2.1; rw [List.length_append] at this; omega
 simp_arith [jaj,elA,g1,g2,List.map_cons,List.map_nil]
 refine ⟨jpt _ _,fun p1 hp1=>?_⟩
 rw [jmc]
 have s4:=ja5 hp1 (.tup (r0.map V.int))
 have ep1:upd HA p1 (.tup (r0.map V.int)) p1 = some (.tup (r0.map V.int)):=ja1
 generalize upd HA p1 (.tup (r0.map V.int)) = H4 at s4 ep1
 simp_arith [jaj,s4 _ _ elA,g1,s4 _ _ g2,List.map_cons,List.map_nil,jg7]
 intro p2 hp2
 have s5:=s4.trans (ja5 hp2 (.tup [.int (z - (1 + d))]))
 have ep2:upd H4 p2 (.tup [.int (z - (1 + d))]) p2 = some (.tup [.int (z - (1 + d))]):=ja1
 have ep1':=ja5 hp2 (.tup [.int (z - (1 + d))]) _ _ ep1
 generalize upd H4 p2 (.tup [.int (z - (1 + d))]) = H5 at s5 ep2 ep1'
 simp_arith [jqz,ep1',ep2]
 refine ⟨szl' (by rw [List.length_map]; omega),by simp,?_⟩
 rw [if_neg hr0']
 intro p3 hp3
 have s6:=s5.trans (ja5 hp3 (.tup (r0.map V.int ++ [.int (z - (1 + d))])))
 have ep3:upd H5 p3 (.tup (r0.map V.int ++ [.int (z - (1 + d))])) p3 = some (.tup (r0.map V.int ++ [.int (z - (1 + d))])):=ja1
 generalize upd H5 p3 (.tup (r0.map V.int ++ [.int (z - (1 + d))])) = H6 at s6 ep3
 have elN:=s6 _ _ elA
 simp only [elN,g4]
 have prN:=jdg.set ot.toNat (jdg.tups prA s6.tups) (r:=r0 ++ [z - (1 + d)]) ⟨p3,rfl,by rw [ep3,List.map_append]; rfl⟩
 have hbN:=ji4 (k:=ot.toNat) (fun r hr=>(hbA r hr).mono (show 2000000000002 ≤ 2000000000004 by decide)) (RwB.snoc (m:=-(1 + d)) (C:=2000000000004) (hbA _ g3) (by omega) (by decide))
 have lnN:∀ n,(∀ r ∈ rs,r.length = n)→∀ r ∈ rsA.set ot.toNat (r0 ++ [z - (1 + d)]),r.length = n:=fun n hn=>ji4 (lnA n hn) (by have:=lnA n hn _ g3; rw [List.length_append,List.length_singleton] at this ⊢; exact this)
 have buN:=buA.trans (((But.same (s:=st) s6).two (l:=l)).trans (But2.at st l H6 (.lst (xsA.set ot.toNat (.ref p3)))))
 have eN:upd H6 l (.lst (xsA.set ot.toNat (.ref p3))) st = some o3:=by rw [jae (Ne.symm nl)]; exact s6 _ _ eA
 have ellN:upd H6 l (.lst (xsA.set ot.toNat (.ref p3))) l = some (.lst (xsA.set ot.toNat (.ref p3))):=ja1
 have prNN:=jdg.tups prN (jb2 (ys:=xsA.set ot.toNat (.ref p3)) elN)
 subst hR
 walk_at "RD"
 exact h _ o3 _ _ buN eN so3 ellN prNN (by rw [List.length_set]; exact hlA) hbN lnN
end
end My
namespace My
open PySem L2
section
variable {P:Program} {w:World} {K:PySem.W.Frag} {mg:Str→Option Value} {base:Heap} {c1 c2 c3 c4:Tok} {C_NoWeb f_NoWeb:Addr} {dI:FuncData}
theorem jeo {a b:TS} {D:Ends} {σ:St} {H:Hp} (h:∀ R E,R = b→E = D→tSeq a R E σ H):tSeq a b D σ H:=h b D rfl rfl
inductive GLk:Lk→Prop
 | l (p:Int):GLk (some wL,[p])
 | b (u v:Int):GLk (some wB,[u,v])
 | t (u v:Int):GLk (some wT,[u,v])
def jbs (c:List Lk):List Int:=(c.filter fun x=>decide (x.1 = some wB)).map jfc
def jba (c:List Lk):List Int:=(c.filter fun x=>!decide (x.1 = some wB)).map jfc
theorem jfe {c:List Lk} {i:Nat} {q:Lk} (h:c[i]? = some q):jbs (c.take (i + 1)) = jbs (c.take i) ++ (if q.1 = some wB then [jfc q] else []):=by
 unfold jbs
 rw [jar h,List.filter_append,List.map_append]
 congr 1
 by_cases e:q.1 = some wB
 ·simp [e]
 ·simp [e]
theorem jgj {c:List Lk} {i:Nat} {q:Lk} (h:c[i]? = some q):jba (c.take (i + 1)) = jba (c.take i) ++ (if q.1 = some wB then [] else [jfc q]):=by
 unfold jba
 rw [jar h,List.filter_append,List.map_append]
 congr 1
 by_cases e:q.1 = some wB
 ·simp [e]
 ·simp [e]
theorem jh4 (c:List Lk):(jbs c).length ≤ c.length:=by
 unfold jbs
 rw [List.length_map]
 exact List.length_filter_le _ _
theorem jmm (c:List Lk):(jba c).length ≤ c.length:=by
 unfold jba
 rw [List.length_map]
 exact List.length_filter_le _ _
def nx1 (ds:List (Int × Int × Int)) (ins outs:List Int) (t:Int × Int) (u v:Int):List Lk:=(if u ∈ outs then [(some wB,[u,v])] else []) ++ (if u ∈ ins∧t ∈ ds.map (fun d=>(d.1,d.2.1)) then [(some wT,[u,v])] else [])
def nx (ds:List (Int × Int × Int)) (ins outs:List Int) (t:Int × Int):List Lk:=nx1 ds ins outs t t.1 t.2 ++ nx1 ds ins outs t t.2 t.1
def jee (ps ts:List (Int × Int)) (ds:List (Int × Int × Int)) (ins outs:List Int):List Lk:=(jcs ps ds).map (fun p=>(some wL,[p])) ++ ts.flatMap (nx ds ins outs)
def jnm:Sp:=fun vs H Q _=>∃ v ps ts l zs ds ch xs c,vs = [v,.ref l,.ref ch]∧jc4 H v ps ts∧WebOk ps ts∧H l = some (.lst zs)∧Tps H zs ds∧ds.length ≤ 200∧H ch = some (.lst xs)∧Lks H xs c∧c.length ≤ 200∧(∀ x ∈ c,GLk x)∧∀ r ys H',Same H H'→H r = none→H' r = some (.lst ys)→Lks H' ys (jee ps ts ds (jbs c) (jba c))→Q (.ref r) H'
theorem GLk.at {H:Hp} {v:V} {x:Lk} (g:GLk x) (h:LkAt H v x):∃ t w u r,v = .ref t∧x.1 = some w∧H t = some (.tup (.str w :: .int u :: r))∧atI (V.str w :: .int u :: r) (-1) = some (.int (jfc x))∧(w = wB→atI (V.str w :: .int u :: r) 2 = some (.int (jfc x))):=by
 obtain ⟨t,rfl,e⟩:=h
 cases g with
 | l p=>exact ⟨t,wL,p,[],rfl,rfl,e,atL2,fun z=>by rw [nLB] at z; exact z.elim⟩
 | b u v=>exact ⟨t,wB,u,[.int v],rfl,rfl,e,atL3,fun _=>at2⟩
 | t u v=>exact ⟨t,wT,u,[.int v],rfl,rfl,e,atL3,fun z=>by rw [nTB] at z; exact z.elim⟩
theorem jkw {f:Addr} {fd:FuncData}  (B:Blt mg) (D:DefAt K mg "_law_next" (top 42) ["_law_web","_law_dues","_law_chain_here"] f fd):FnOk P w K mg base CX0 1 f fd ["_law_web","_law_dues","_law_chain_here"] jnm:=by
 have sc:FnScope ["_law_web","_law_dues","_law_chain_here","_law_ins","_law_outs","_law_paid","_law_one","_law_other","_law_amount","_law_found","_law_tied","_law_u","_law_v"] ["_law_web","_law_dues","_law_chain_here"] (jaf (top 42)):=⟨rfl,rfl,rfl,by decide +kernel,rfl,by decide +kernel,by decide +kernel⟩
 refine D.F.ok sc (fun vs H Q E h=>?_) (fun cdv A outer s H vs Q E hr h=>?_)
 ·obtain ⟨v,ps,ts,l,zs,ds,ch,xs,c,rfl,_⟩:=h
  rfl
 obtain ⟨v,ps,ts,l,zs,ds,ch,xs,c,rfl,hw,wk,el,pd,hl,ec,pc,hc,gc,h⟩:=h
 have hu:=jbh hr
 have hu0:_ < PySem.cLine:=Nat.lt_of_succ_lt hu
 refine ⟨_,(ja2 (jdq (i:=3) sc.nd rfl (Or.inl rfl) (CpScope.of (N:=["_law_one"]) (src:=[none]) (by rfl)) rfl (jaw (qv 2)) (fun _ _ _ _=>(ja9 (i:=0) (jai (l:=["_law_one"]) (by rfl)) rfl (Or.inl rfl))) (fun _ _ _ _=>(jd4 (jao q_eq (jac q_ix (qv 0) ja4 (fun _ _=>rfl)) jcp (jam _)))) (fun _ _ _ _=>(jac q_ix (qv 0) ja4 (fun _ _=>rfl)))) (ja2 (jdq (i:=4) sc.nd rfl (Or.inl rfl) (CpScope.of (N:=["_law_one"]) (src:=[none]) (by rfl)) rfl (jaw (qv 2)) (fun _ _ _ _=>(ja9 (i:=0) (jai (l:=["_law_one"]) (by rfl)) rfl (Or.inl rfl))) (fun _ _ _ _=>(jd4 (jao q_ne (jac q_ix (qv 0) ja4 (fun _ _=>rfl)) jcp (jam _)))) (fun _ _ _ _=>(jac q_ix (qv 0) (jdr jdo ja4) (fun _ _=>rfl)))) (ja2 (jak (i:=5) sc.nd rfl (Or.inr rfl) jdy) (ja2 (jbm PassesOwn.never rfl (jaw (qv 1)) (jcd (n:=3) rfl (jag (ja9 (i:=6) sc.nd rfl (Or.inl rfl)) (jag (ja9 (i:=7) sc.nd rfl (Or.inl rfl)) (jag (ja9 (i:=8) sc.nd rfl (Or.inl rfl)) jbf)))) (ja2 (jep hu (qv 5) (qv 6) (jau jc8 (je9 hu (qv 5) (qv 6) ja4) (qv 8))) (ja6 (jep hu (qv 5) (qv 7) (jau jc8 (je9 hu (qv 5) (qv 7) ja4) (qv 8)))))) (ja2 (jdq (i:=9) sc.nd rfl (Or.inl rfl) (CpScope.of (N:=["_law_place","_law_price","_law_paid"]) (src:=[none,none,some 5]) (by rfl)) rfl (jaw (jac q_ix (qv 0) ja4 (fun _ _=>rfl))) (fun _ _ _ _=>(jcd (n:=2) rfl (jag (ja9 (i:=0) (jai (l:=["_law_place","_law_price","_law_paid"]) (by rfl)) rfl (Or.inl rfl)) (jag (ja9 (i:=1) (jai (l:=["_law_place","_law_price","_law_paid"]) (by rfl)) rfl (Or.inl rfl)) jbf)))) (fun _ _ _ _=>(jd4 (jao q_lt (je9 hu (qv 2) (qv 0) ja4) (jau je3 ja4 (qv 1)) (jam _)))) (fun _ _ _ _=>(jaz (ja0 jcp (ja0 (qv 0) ja3))))) (ja2 (jdq (i:=10) sc.nd rfl (Or.inl rfl) (CpScope.of (N:=["_law_due"]) (src:=[none]) (by rfl)) rfl (jaw (qv 1)) (fun _ _ _ _=>(ja9 (i:=0) (jai (l:=["_law_due"]) (by rfl)) rfl (Or.inl rfl))) (fun _ _ _ _=>jc3) (fun _ _ _ _=>(jb3 jf6 (qv 0) jbg (jbe ja4)))) (ja2 (jbm PassesOwn.never rfl (jaw (jac q_ix (qv 0) ja4 (fun _ _=>rfl))) (jcd (n:=2) rfl (jag (ja9 (i:=6) sc.nd rfl (Or.inl rfl)) (jag (ja9 (i:=7) sc.nd rfl (Or.inl rfl)) jbf))) (ja6 (jbm PassesOwn.never rfl (jaw (jc0 (ja0 (jaz (ja0 (qv 6) (ja0 (qv 7) ja3))) (ja0 (jaz (ja0 (qv 7) (ja0 (qv 6) ja3))) ja3)))) (jcd (n:=2) rfl (jag (ja9 (i:=11) sc.nd rfl (Or.inl rfl)) (jag (ja9 (i:=12) sc.nd rfl (Or.inl rfl)) jbf))) (ja2 (jb1 (jao jks (qv 11) (qv 4) (by with_unfolding_all rfl)) (ja6 (jce (q_bm PySem.F.plainAttrs_list PySem.F.slot_list_append PySem.F.type_list_append jct (qv 9) (ja0 (jaz (ja0 jcp (ja0 (qv 11) (ja0 (qv 12) ja3)))) ja3)))) jal) (ja6 (jb1 (PW.pt (jdp (jao jks (qv 11) (qv 3) (by with_unfolding_all rfl)) (jcy (jao (op_inD hr.units) (jaz (ja0 (qv 6) (ja0 (qv 7) ja3))) (qv 10) (by with_unfolding_all rfl))))) (ja6 (jce (q_bm PySem.F.plainAttrs_list PySem.F.slot_list_append PySem.F.type_list_append jct (qv 9) (ja0 (jaz (ja0 jcp (ja0 (qv 11) (ja0 (qv 12) ja3)))) ja3)))) jal)))))) (ja6 (jah (qv 9)))))))))),?_⟩
 have hlx:xs.length = c.length:=Paired.length pc
 refine ja8 fun R hR=>?_
 walk_at "RD"
 refine jas (Itl K ch) H (fun R' hR'=>?_) (fun z1 hz1=>jay c.length (fun i σ' Hc=>∃ w1,σ' = [w1]∧Same H Hc∧Hc z1 = some (.lst ((jbs (c.take i)).map V.int))) ⟨none,rfl,ja5 hz1 _,ja1⟩ ?_ ?_)
 ·unfold jbz
  walk_at "RD"
  exact ⟨ch,rfl,⟨_,SqL.of ((Same.refl H) _ _ ec)⟩,hR'⟩
 ·rintro i σ' Hc hi ⟨w1,rfl,s2,ez⟩
  have sA:=Same.trans (Same.refl H) s2
  have x1:xs[i]? = some (xs[i]'(by omega)):=List.getElem?_eq_getElem _
  have y1:SqL K Hc ch xs:=SqL.of (sA _ _ ec)
  refine ⟨⟨_,_,y1,x1⟩,?_⟩
  rintro y H' ⟨rfl,hy⟩
  obtain ⟨q,hq,pq⟩:=jaa pc (hy _ y1)
  obtain ⟨t,w,u,r,rfl,ew,ht,eL,e2⟩:=(gc q (List.mem_of_getElem? hq)).at (pq.tups sA.tups)
  have lt:=jfe hq
  rw [ew] at lt
  have ln:=jh4 (c.take i)
  rw [List.length_take] at ln
  simp_arith [jaj,ht,at0]
  by_cases cw:w = wB
  ·rw [if_pos (by rw [cw])] at lt
   simp only [decide_eq_true cw,if_true]
   simp only [e2 cw]
   refine ⟨_,ez,by rw [List.length_map]; exact szl' (by omega),_,rfl,jan s2 hz1,?_⟩
   rw [ja1,lt,List.map_append]
   rfl
  ·rw [if_neg (fun z=>cw (Option.some.inj z))] at lt
   simp only [decide_eq_false cw,Bool.false_eq_true,if_false]
   rw [List.append_nil] at lt
   exact ⟨_,rfl,s2,by rw [lt]; exact ez⟩
 rintro σ' H1 ⟨w1,rfl,s1,ez1⟩
 refine ⟨⟨_,SqL.of ((Same.trans (Same.refl H) s1) _ _ ec),by omega⟩,?_⟩
 rw [List.take_length] at ez1
 walk_at "RD"
 subst hR
 refine ja8 fun R hR=>?_
 walk_at "RD"
 refine jas (Itl K ch) H1 (fun R' hR'=>?_) (fun z2 hz2=>jay c.length (fun i σ' Hc=>∃ w1,σ' = [w1]∧Same H1 Hc∧Hc z2 = some (.lst ((jba (c.take i)).map V.int))) ⟨none,rfl,ja5 hz2 _,ja1⟩ ?_ ?_)
 ·unfold jbz
  walk_at "RD"
  exact ⟨ch,rfl,⟨_,SqL.of (s1 _ _ ec)⟩,hR'⟩
 ·rintro i σ' Hc hi ⟨w1,rfl,s2,ez⟩
  have sA:=Same.trans s1 s2
  have x1:xs[i]? = some (xs[i]'(by omega)):=List.getElem?_eq_getElem _
  have y1:SqL K Hc ch xs:=SqL.of (sA _ _ ec)
  refine ⟨⟨_,_,y1,x1⟩,?_⟩
  rintro y H' ⟨rfl,hy⟩
  obtain ⟨q,hq,pq⟩:=jaa pc (hy _ y1)
  obtain ⟨t,w,u,r,rfl,ew,ht,eL,e2⟩:=(gc q (List.mem_of_getElem? hq)).at (pq.tups sA.tups)
  have lt:=jgj hq
  rw [ew] at lt
  have ln:=jmm (c.take i)
  rw [List.length_take] at ln
  simp_arith [jaj,ht,at0]
  by_cases cw:w = wB
  ·rw [if_pos (by rw [cw])] at lt
   simp only [decide_eq_true cw,Bool.not_true,Bool.false_eq_true,if_false]
   rw [List.append_nil] at lt
   exact ⟨_,rfl,s2,by rw [lt]; exact ez⟩
  ·rw [if_neg (fun z=>cw (Option.some.inj z))] at lt
   simp only [decide_eq_false cw,Bool.not_false,if_true]
   simp only [eL]
   refine ⟨_,ez,by rw [List.length_map]; exact szl' (by omega),_,rfl,jan s2 hz2,?_⟩
   rw [ja1,lt,List.map_append]
   rfl
 rintro σ' H2 ⟨w1,rfl,s2,ez2⟩
 refine ⟨⟨_,SqL.of ((Same.trans s1 s2) _ _ ec),by omega⟩,?_⟩
 rw [List.take_length] at ez2
 walk_at "RD"
 have s12:=s1.trans s2
 have ez1b:=s2 _ _ ez1
 subst hR
 refine ja8 fun R hR=>?_
 walk_at "RD"
 intro d hd
 have s3:=ja5 hd (.dK [])
 have ed:upd H2 d (.dK []) d = some (.dK []):=ja1
 generalize upd H2 d (.dK []) = H3 at s3 ed
 subst hR
 refine ja8 fun R hR=>?_
 have hlz:zs.length = ds.length:=Paired.length pd
 refine jb0 (Itl K l) H3 (fun R' hR'=>?_) (jby (K:=K) (a:=l) (xs:=zs) (fun i σ Hc=>∃ v1 v2 v3 v4 v5 v6 v7 kvs,σ = [some v,some (.ref l),some (.ref ch),some (.ref z1),some (.ref z2),some (.ref d),v1,v2,v3,v4,v5,v6,v7]∧Same H2 Hc∧Hc d = some (.dK kvs)∧jhi kvs (ds.take i)∧kvs.length ≤ 2 * i) ⟨none,none,none,none,none,none,none,[],rfl,s3,ed,fun n=>.inl ⟨rfl,rfl⟩,Nat.zero_le _⟩ (fun i σ Hc _ ⟨_,_,_,_,_,_,_,_,_,s2',_⟩=>SqL.of ((s12.trans s2') _ _ el)) ?_ ?_)
 ·unfold jbz
  walk_at "RD"
  exact ⟨l,rfl,⟨_,SqL.of ((s12.trans s3) _ _ el)⟩,hR'⟩
 ·rintro i x σ H4 hx ⟨v1,v2,v3,v4,v5,v6,v7,kvs,rfl,s4,ed2,pk,hkl⟩
  obtain ⟨p,hp,px⟩:=jaa pd hx
  obtain ⟨t,rfl,ht⟩:=Tp.tups px (s12.trans s4).tups
  have hil:=(List.getElem?_eq_some_iff.mp hp).1
  simp_arith [ht,ed2,pk.get]
  have q1:=jhi.put (f:=jaq (ds.take i)) pk p.1 p.2.2
  have kl1:=jfz kvs (Sum.inl p.1:Key) (.int (jaq (ds.take i) p.1 + p.2.2))
  refine ⟨⟨_,rfl⟩,szl' (by omega),⟨_,ja1⟩,?_⟩
  generalize putK kvs (Sum.inl p.1:Key) (.int (jaq (ds.take i) p.1 + p.2.2)) = k1 at q1 kl1 ⊢
  have g2:(valV k1 (Sum.inl p.2.1:Key)).getD (.int 0) = .int (jaq (ds.take i) p.2.1 + (if p.1 = p.2.1 then p.2.2 else 0)):=by
   rcases q1 p.2.1 with ⟨e,z⟩ | e
   ·rw [e,z]; rfl
   ·rw [e]; rfl
  have q2:=jhi.put (f:=fun n=>jaq (ds.take i) n + (if p.1 = n then p.2.2 else 0)) q1 p.2.1 p.2.2
  have kl2:=jfz k1 (Sum.inl p.2.1:Key) (.int (jaq (ds.take i) p.2.1 + (if p.1 = p.2.1 then p.2.2 else 0) + p.2.2))
  rw [ja1]
  dsimp only
  rw [g2]
  dsimp only
  refine ⟨szl' (by omega),_,_,_,_,_,_,_,_,rfl,?_,ja1,?_,by omega⟩
  ·exact jan (jan s4 hd) hd
  ·intro n
   rw [jhr hp n,← Int.add_assoc]
   exact q2 n
 rintro σ H4 ⟨v1,v2,v3,v4,v5,v6,v7,kvs,rfl,s4,ed4,pk,hkl⟩
 rw [hlz,List.take_length] at pk
 have s14:=s12.trans s4
 have ez1c:=s4 _ _ ez1b
 have ez2c:=s4 _ _ ez2
 clear ez1b ez2 ez1 s3 ed
 obtain ⟨wu,pa,ta,ws,ys,rfl,hu1,hpa,hta,hws,hys⟩:=hw
 have hlw:ws.length = ps.length:=Paired.length hws
 have hly:ys.length = ts.length:=Paired.length hys
 have wkl:=wk.pl
 have wkt:=wk.tl
 dsimp only
 subst hR
 refine ja8 fun R hR=>?_
 walk_at "RD"
 refine jas (Itl K pa) H4 (fun R' hR'=>?_) (fun z3 hz3=>jay ps.length (fun i σ' Hc=>∃ w1 w2 gs,σ' = [w1,w2,some (.ref d)]∧Same H4 Hc∧Hc z3 = some (.lst gs)∧Lks Hc gs ((jcs (ps.take i) ds).map fun p=>(some wL,[p]))) ⟨none,none,[],rfl,ja5 hz3 _,ja1,.nil⟩ ?_ ?_)
 ·unfold jbz
  simp_arith [jaj,s14 _ _ hu1,at0]
  exact ⟨pa,rfl,⟨_,SqL.of (s14 _ _ hpa)⟩,hR'⟩
 ·rintro i σ' Hc hi ⟨w1,w2,gs,rfl,s2',ez,pg⟩
  have sA:=s14.trans s2'
  have x1:ws[i]? = some (ws[i]'(by omega)):=List.getElem?_eq_getElem _
  have y1:SqL K Hc pa ws:=SqL.of (sA _ _ hpa)
  refine ⟨⟨_,_,y1,x1⟩,?_⟩
  rintro y H' ⟨rfl,hy⟩
  obtain ⟨q,hq,pq⟩:=jaa hws (hy _ y1)
  obtain ⟨t,rfl,ht⟩:=pq.same sA
  have ed5:=s2' _ _ ed4
  have lt:=jgx (ds:=ds) hq
  have lg:gs.length ≤ 40:=by
   have e:=Paired.length pg
   rw [List.length_map] at e
   have:=(jcv (ps.take i) ds).length_le
   rw [List.length_map,List.length_take] at this
   omega
  simp_arith [ht]
  refine ⟨⟨kvs,ed5⟩,?_⟩
  simp only [ed5,pk.get]
  refine ⟨cmL (by decide) (by decide),?_⟩
  by_cases c9:jaq ds q.1 < 2 * q.2
  ·rw [if_pos c9] at lt
   simp only [decide_eq_true c9,if_true]
   intro t5 ht5
   have q5:=ja5 ht5 (.tup [.str wL,.int q.1])
   have e5:upd H' t5 (.tup [.str wL,.int q.1]) t5 = some (.tup (lkV (some wL,[q.1]))):=ja1
   have ez5:=q5 _ _ ez
   generalize upd H' t5 (.tup [.str wL,.int q.1]) = H5 at q5 e5 ez5
   have t6:=jb2 (ys:=gs ++ [.ref t5]) ez5
   refine ⟨_,ez5,szl' (by omega),_,_,gs ++ [.ref t5],rfl,jan (s2'.trans q5) hz3,ja1,?_⟩
   rw [lt,List.map_append]
   exact jav (Lks.tups (Lks.tups pg q5.tups) t6) ⟨t5,rfl,t6 _ _ rfl e5⟩
  ·rw [if_neg c9,List.append_nil] at lt
   simp only [decide_eq_false c9,Bool.false_eq_true,if_false]
   exact ⟨_,_,_,rfl,s2',ez,by rw [lt]; exact pg⟩
 rintro σ' H5 ⟨w1,w2,gs,rfl,s5,ez3,pg⟩
 refine ⟨⟨_,SqL.of ((s14.trans s5) _ _ hpa),by omega⟩,?_⟩
 rw [List.take_length] at pg
 have s15:=s14.trans s5
 have hz3H:H z3 = none:=s14.free hz3
 have ez1d:=s5 _ _ ez1c
 have ez2d:=s5 _ _ ez2c
 walk_at "RD"
 subst hR
 refine ja8 fun R hR=>?_
 walk_at "RD"
 refine jas (Itl K l) H5 (fun R' hR'=>?_) (fun z4 hz4=>jay ds.length (fun i σ' Hc=>∃ w1 us,σ' = [w1]∧Same H5 Hc∧Hc z4 = some (.lst us)∧Prs Hc us ((ds.take i).map fun d=>(d.1,d.2.1))) ⟨none,[],rfl,ja5 hz4 _,ja1,.nil⟩ ?_ ?_)
 ·unfold jbz
  walk_at "RD"
  exact ⟨l,rfl,⟨_,SqL.of (s15 _ _ el)⟩,hR'⟩
 ·rintro i σ' Hc hi ⟨w1,us,rfl,s2',ez,pu⟩
  have sA:=s15.trans s2'
  have x1:zs[i]? = some (zs[i]'(by omega)):=List.getElem?_eq_getElem _
  have y1:SqL K Hc l zs:=SqL.of (sA _ _ el)
  refine ⟨⟨_,_,y1,x1⟩,?_⟩
  rintro y H' ⟨rfl,hy⟩
  obtain ⟨q,hq,pq⟩:=jaa pd (hy _ y1)
  obtain ⟨t,rfl,ht⟩:=Tp.tups pq sA.tups
  have lu:us.length ≤ 200:=by
   have e:=Paired.length pu
   rw [List.length_map,List.length_take] at e
   omega
  simp_arith [ht]
  refine ⟨jk9 (.int q.1) (.int q.2.1) (.int q.2.2),fun t5 ht5=>?_⟩
  rw [cut3]
  have q5:=ja5 ht5 (.tup [.int q.1,.int q.2.1])
  have e5:upd H' t5 (.tup [.int q.1,.int q.2.1]) t5 = some (.tup [.int q.1,.int q.2.1]):=ja1
  have ez5:=q5 _ _ ez
  generalize upd H' t5 (.tup [.int q.1,.int q.2.1]) = H6 at q5 e5 ez5
  have t6:=jb2 (ys:=us ++ [.ref t5]) ez5
  refine ⟨_,ez5,szl' (by omega),_,us ++ [.ref t5],rfl,jan (s2'.trans q5) hz4,ja1,?_⟩
  rw [jar hq,List.map_append]
  exact jav (Prs.tups t6 (Prs.same q5 pu)) (Pr.tups (p:=(q.1,q.2.1)) ⟨t5,rfl,e5⟩ t6)
 rintro σ' H6 ⟨w1,us,rfl,s6,ez4,pu⟩
 refine ⟨⟨_,SqL.of ((s15.trans s6) _ _ el),by omega⟩,?_⟩
 rw [List.take_length] at pu
 have s16:=s15.trans s6
 have ez1e:=s6 _ _ ez1d
 have ez2e:=s6 _ _ ez2d
 have ez3e:=s6 _ _ ez3
 have pg6:=Lks.tups pg s6.tups
 walk_at "RD"
 have n13:z1 ≠ z3:=jab ez1c hz3
 have n23:z2 ≠ z3:=jab ez2c hz3
 have n43:z4 ≠ z3:=(jab ez3 hz4).symm
 have nt3:ta ≠ z3:=jab (s14 _ _ hta) hz3
 have hu6:=s16 _ _ hu1
 have ht6:=s16 _ _ hta
 have py6:=Prs.same s16 hys
 have pu6:Prs H6 us (ds.map fun d=>(d.1,d.2.1)):=pu
 have lg6:gs.length ≤ 40:=by
  have e:=Paired.length pg
  rw [List.length_map] at e
  have:=(jcv ps ds).length_le
  rw [List.length_map] at this
  omega
 generalize hL0:(jcs ps ds).map (fun p=>((some wL,[p]):Lk)) = L0 at pg6
 have hins:(jbs c).length ≤ 200:=Nat.le_trans (jh4 c) hc
 generalize hI:jbs c = ins at ez1e hins
 generalize hO:jba c = outs at ez2e
 subst hR
 refine ja8 fun R hR=>?_
 refine jb0 (Itl K ta) H6 (fun R' hR'=>?_) (jby (K:=K) (a:=ta) (xs:=ys) (fun j σ Hc=>∃ v1 v2 v3 v6 v7 gs',σ = [some (.ref wu),some (.ref l),some (.ref ch),some (.ref z1),some (.ref z2),some (.ref d),v1,v2,v3,some (.ref z3),some (.ref z4),v6,v7]∧But z3 H6 Hc∧Hc z3 = some (.lst gs')∧Lks Hc gs' (L0 ++ (ts.take j).flatMap (nx ds ins outs))∧gs'.length ≤ 40 + 4 * j) ⟨v1,v2,v3,v6,v7,gs,rfl,But.refl _ _,ez3e,by simpa using pg6,by omega⟩ (fun j σ Hc _ ⟨_,_,_,_,_,_,_,b,_⟩=>SqL.of (b _ _ nt3 ht6)) ?_ ?_)
 ·unfold jbz
  simp_arith [jaj,hu6,at1]
  exact ⟨ta,rfl,⟨_,SqL.of ht6⟩,hR'⟩
 ·rintro j x σ Hc hx ⟨v1,v2,v3,v6,v7,gs',rfl,bc,eg,pg',lg'⟩
  obtain ⟨q,hq,px⟩:=jaa py6 hx
  obtain ⟨t,rfl,ht⟩:=px.tups (bc.tups ez3e rfl)
  have hj:=(List.getElem?_eq_some_iff.mp hq).1
  simp_arith [ht]
  refine jdw (ι:=Addr × Addr × Addr × Hp) (fun y=>Itl K y.2.2.1) (fun y=>y.2.2.2) (fun y=>Same Hc y.2.2.2∧y.2.2.2 y.1 = some (.tup [.int q.1,.int q.2])∧y.2.2.2 y.2.1 = some (.tup [.int q.2,.int q.1])∧y.2.2.2 y.2.2.1 = some (.lst [.ref y.1,.ref y.2.1])∧Hc y.2.2.1 = none) (fun R' hR'=>?_) ?_
  ·unfold jbz
   walk_at "RD"
   intro p5 h5 p6 h6 l7 h7
   have qa:=ja5 h5 (.tup [.int q.1,.int q.2])
   have qb:=ja5 h6 (.tup [.int q.2,.int q.1])
   have qc:=ja5 h7 (.lst [.ref p5,.ref p6])
   exact ⟨l7,rfl,⟨_,SqL.of ja1⟩,hR' (p5,p6,l7,_) ⟨(qa.trans qb).trans qc,qc _ _ (qb _ _ ja1),qc _ _ ja1,ja1,(qa.trans qb).free h7⟩⟩
  ·rintro ⟨t5,t6,l7,H8⟩ ⟨s8,e5,e6,e7,h7⟩
   dsimp only at s8 e5 e6 e7 h7
   have n7:l7 ≠ z3:=(jab eg h7).symm
   have eg8:=s8 _ _ eg
   have p8:Prs H8 [.ref t5,.ref t6] [(q.1,q.2),(q.2,q.1)]:=.cons ⟨t5,rfl,e5⟩ (.cons ⟨t6,rfl,e6⟩ .nil)
   have f1:=s8 _ _ (bc _ _ n13 ez1e)
   have f2:=s8 _ _ (bc _ _ n23 ez2e)
   have f4:=s8 _ _ (bc _ _ n43 ez4)
   have pu8:=Prs.same s8 (Prs.tups (bc.tups ez3e rfl) pu6)
   have e7':H8 l7 = some (.lst [.ref t5,.ref t6]):=e7
   clear e5 e6 e7
   refine jby (K:=K) (a:=l7) (xs:=[.ref t5,.ref t6]) (fun m σ Hd=>∃ v3' v6' v7' gs2,σ = [some (.ref wu),some (.ref l),some (.ref ch),some (.ref z1),some (.ref z2),some (.ref d),some (.int q.1),some (.int q.2),v3',some (.ref z3),some (.ref z4),v6',v7']∧But z3 H8 Hd∧Hd z3 = some (.lst gs2)∧Lks Hd gs2 ((L0 ++ (ts.take j).flatMap (nx ds ins outs)) ++ (([(q.1,q.2),(q.2,q.1)]:List (Int × Int)).take m).flatMap fun p=>nx1 ds ins outs q p.1 p.2)∧gs2.length ≤ gs'.length + 2 * m) ⟨v3,v6,v7,gs',rfl,But.refl _ _,eg8,by simpa using Lks.tups pg' s8.tups,by omega⟩ (fun m σ Hd _ ⟨_,_,_,_,_,b,_⟩=>SqL.of (b _ _ n7 e7')) ?_ ?_
   ·rintro m x σ Hd hx ⟨v3',v6',v7',gs2,rfl,bd,eg2,pg2,lg2⟩
    obtain ⟨r,hr,px⟩:=jaa p8 hx
    obtain ⟨tt,rfl,htt⟩:=px.tups (bd.tups eg8 rfl)
    have hm:m < 2:=(List.getElem?_eq_some_iff.mp hr).1
    have hfm:=congrArg (fun l:List (Int × Int)=>l.flatMap fun p=>nx1 ds ins outs q p.1 p.2) (jar hr)
    simp only [List.flatMap_append,List.flatMap_cons,List.flatMap_nil,List.append_nil] at hfm
    rw [hfm]
    generalize ((([(q.1,q.2),(q.2,q.1)]:List (Int × Int)).take m).flatMap fun p=>nx1 ds ins outs q p.1 p.2) = LM at pg2
    simp only [jpg,jk3,jph,jff,htt,List.length_cons,List.length_nil,Nat.reduceAdd,List.set_cons_zero,List.set_cons_succ,if_true,eq_self,true_and]
    have g1:=bd _ _ n13 f1
    have g2:=bd _ _ n23 f2
    refine jeo fun R8 E hR8 hE=>?_
    have PIN:∀ (He:Hp) (gs3:List V),But z3 H8 He→He z3 = some (.lst gs3)→Lks He gs3 (L0 ++ (ts.take j).flatMap (nx ds ins outs) ++ (LM ++ (if r.1 ∈ outs then [(some wB,[r.1,r.2])] else [])))→gs3.length ≤ gs2.length + 1→R8 E [some (.ref wu),some (.ref l),some (.ref ch),some (.ref z1),some (.ref z2),some (.ref d),some (.int q.1),some (.int q.2),v3',some (.ref z3),some (.ref z4),some (.int r.1),some (.int r.2)] He:=by
     intro He gs3 be ee pe le
     subst hR8
     subst hE
     unfold nx1
     generalize (if r.1 ∈ outs then ([(some wB,[r.1,r.2])]:List Lk) else []) = Z at pe ⊢
     have k1:=be _ _ n13 f1
     have k4:=be _ _ n43 f4
     have pk4:=Prs.tups (be.tups eg8 rfl) pu8
     simp_arith [jaj,k1,jez,je5,jex]
     by_cases ci:r.1 ∈ ins
     ·simp only [decide_eq_true ci,if_true]
      intro p5 h5
      have q5:=ja5 h5 (.tup [.int q.1,.int q.2])
      have f5:Pr (upd He p5 (.tup [.int q.1,.int q.2])) (.ref p5) q:=⟨p5,rfl,ja1⟩
      generalize upd He p5 (.tup [.int q.1,.int q.2]) = Hf at q5 f5
      have b5:But z3 H8 Hf:=be.trans (But.same q5)
      have e5:=q5 _ _ ee
      have pe5:=Lks.tups pe q5.tups
      refine ⟨jb9 q,z4,us,(ds.map fun d=>(d.1,d.2.1)).map jb9,f5.rep,rfl,q5 _ _ k4,Prs.reps (Prs.same q5 pk4),Nat.le_trans (jbx _) (by decide),?_⟩
      simp only [Bool.false_eq_true,if_false,jq2]
      by_cases ct:q ∈ ds.map fun d=>(d.1,d.2.1)
      ·simp only [decide_eq_true ct,if_true]
       refine ⟨⟨z3,_,rfl,e5⟩,fun p6 h6=>?_⟩
       have q6:=ja5 h6 (.tup [.str wT,.int r.1,.int r.2])
       have f6:upd Hf p6 (.tup [.str wT,.int r.1,.int r.2]) p6 = some (.tup (lkV (some wT,[r.1,r.2]))):=ja1
       generalize upd Hf p6 (.tup [.str wT,.int r.1,.int r.2]) = Hg at q6 f6
       have e6:=q6 _ _ e5
       simp only [e6]
       have t7:=jb2 (ys:=gs3 ++ [.ref p6]) e6
       refine ⟨szl' (by omega),_,_,_,gs3 ++ [.ref p6],rfl,(b5.trans (But.same q6)).trans (But.at z3 Hg _),ja1,?_,by rw [List.length_append,List.length_singleton]; omega⟩
       have:=jav (Lks.tups (Lks.tups pe5 q6.tups) t7) (b:=((some wT,[r.1,r.2]):Lk)) ⟨p6,rfl,t7 _ _ rfl f6⟩
       rw [if_pos ⟨ci,ct⟩]
       simpa only [List.append_assoc] using this
      ·simp only [decide_eq_false ct,Bool.false_eq_true,if_false]
       refine ⟨_,_,_,gs3,rfl,b5,e5,?_,by omega⟩
       rw [if_neg (fun z=>ct z.2),List.append_nil]
       exact pe5
     ·simp only [decide_eq_false ci,Bool.false_eq_true,if_false]
      refine ⟨_,_,_,gs3,rfl,be,ee,?_,by omega⟩
      rw [if_neg (fun z=>ci z.1),List.append_nil]
      exact pe
    simp_arith [jaj,g2,jez,je5,jex]
    by_cases co:r.1 ∈ outs
    ·simp only [decide_eq_true co,if_true]
     refine ⟨⟨z3,_,rfl,eg2⟩,fun p6 h6=>?_⟩
     have q6:=ja5 h6 (.tup [.str wB,.int r.1,.int r.2])
     have f6:upd Hd p6 (.tup [.str wB,.int r.1,.int r.2]) p6 = some (.tup (lkV (some wB,[r.1,r.2]))):=ja1
     generalize upd Hd p6 (.tup [.str wB,.int r.1,.int r.2]) = Hg at q6 f6
     have e6:=q6 _ _ eg2
     simp only [e6]
     have t7:=jb2 (ys:=gs2 ++ [.ref p6]) e6
     refine ⟨szl' (by omega),PIN _ (gs2 ++ [.ref p6]) ((bd.trans (But.same q6)).trans (But.at z3 Hg _)) ja1 ?_ (by rw [List.length_append,List.length_singleton]; omega)⟩
     have:=jav (Lks.tups (Lks.tups pg2 q6.tups) t7) (b:=((some wB,[r.1,r.2]):Lk)) ⟨p6,rfl,t7 _ _ rfl f6⟩
     rw [if_pos co]
     simpa only [List.append_assoc] using this
    ·simp only [decide_eq_false co,Bool.false_eq_true,if_false]
     exact PIN Hd gs2 bd eg2 (by rw [if_neg co,List.append_nil]; exact pg2) (by omega)
   ·rintro σ Hd ⟨v3',v6',v7',gs2,rfl,bd,eg2,pg2,lg2⟩
    refine ⟨_,_,_,_,_,gs2,rfl,?_,eg2,?_,?_⟩
    ·exact fun b o nb qb=>bd _ _ nb (s8 _ _ (bc _ _ nb qb))
    ·rw [jar hq,List.flatMap_append]
     simp only [List.flatMap_cons,List.flatMap_nil,List.append_nil,nx]
     simpa using pg2
    ·simp only [List.length_cons,List.length_nil] at lg2
     omega
 ·rintro σ Hc ⟨v1,v2,v3,v6,v7,gs',rfl,bc,eg,pg',lg'⟩
  rw [hly,List.take_length] at pg'
  subst hR
  walk_at "RD"
  refine h z3 gs' Hc (fun b o q=>?_) hz3H eg (by unfold jee; rw [hL0,hI,hO]; exact pg')
  exact bc _ _ (fun z=>by rw [z,hz3H] at q; cases q) (s16 _ _ q)
end
end My
namespace My
open PySem L2
section
variable {P:Program} {w:World} {K:PySem.W.Frag} {mg:Str→Option Value} {base:Heap} {c1 c2 c3 c4:Tok} {C_NoWeb f_NoWeb:Addr} {dI:FuncData}
def lkD (x:Lk):Dt:=.tup ((match x.1 with | some w=>[Dt.str w] | none=>[]) ++ x.2.map Dt.int)
theorem LkAt.rep {H:Hp} {v:V} {x:Lk} (h:LkAt H v x):Rep H (lkD x) v:=by
 obtain ⟨t,rfl,e⟩:=h
 obtain ⟨w,ns⟩:=x
 unfold lkD
 rw [Rep]
 refine ⟨t,_,rfl,e,?_⟩
 cases w with
 | none=>exact jew ns
 | some w =>
  show Reps H (Dt.str w :: ns.map Dt.int) (V.str w :: ns.map V.int)
  rw [Reps]
  exact ⟨_,_,rfl,by rw [Rep],jew ns⟩
theorem Lks.reps {H:Hp}:∀ {xs:List V} {c:List Lk},Lks H xs c→Reps H (c.map lkD) xs
 | _,_,.nil=>by rw [List.map_nil,Reps]
 | _,_,.cons a t=>by rw [List.map_cons,Reps]; exact ⟨_,_,rfl,a.rep,Lks.reps t⟩
theorem jh7:∀ (a b:List Int),eqPs (a.map Dt.int) (b.map Dt.int) = decide (a = b)
 | [],[]=>rfl
 | [],_ :: _=>rfl
 | _ :: _,[]=>rfl
 | x :: a,y :: b=>by
  rw [List.map_cons,List.map_cons,eqPs,jh7 a b]
  have e:eqP (.int x) (.int y) = decide (x = y):=by rw [eqP]; first | rfl | (rw [Bool.eq_iff_iff]; simp)
  rw [e,Bool.eq_iff_iff]
  simp
theorem eqP_lk (a b:Lk):eqP (lkD a) (lkD b) = decide (a = b):=by
 obtain ⟨w,ns⟩:=a
 obtain ⟨w',ns'⟩:=b
 unfold lkD
 rw [eqP]
 cases w with
 | none =>
  cases w' with
  | none =>
   show eqPs (ns.map Dt.int) (ns'.map Dt.int) = _
   rw [jh7,Bool.eq_iff_iff]
   simp
  | some w' =>
   show eqPs (ns.map Dt.int) (Dt.str w' :: ns'.map Dt.int) = _
   cases ns with
   | nil=>rfl
   | cons n ns=>rw [List.map_cons,eqPs,show eqP (.int n) (.str w') = false by rw [eqP] <;> simp,Bool.false_and]; simp
 | some w =>
  cases w' with
  | none =>
   show eqPs (Dt.str w :: ns.map Dt.int) (ns'.map Dt.int) = _
   cases ns' with
   | nil=>rfl
   | cons n ns'=>rw [List.map_cons,eqPs,show eqP (.str w) (.int n) = false by rw [eqP] <;> simp,Bool.false_and]; simp
  | some w' =>
   show eqPs (Dt.str w :: ns.map Dt.int) (Dt.str w' :: ns'.map Dt.int) = _
   rw [eqPs,jh7]
   have e:eqP (.str w) (.str w') = decide (w = w'):=by rw [eqP]; first | rfl | (rw [Bool.eq_iff_iff]; simp)
   rw [e,Bool.eq_iff_iff]
   simp
theorem any_lk (l:List Lk) (x:Lk):((l.map lkD).any fun c=>eqP c (lkD x)) = decide (x ∈ l):=by
 induction l with
 | nil=>rfl
 | cons a l ih =>
  rw [List.map_cons,List.any_cons,ih,eqP_lk,Bool.eq_iff_iff,Bool.or_eq_true,decide_eq_true_eq,decide_eq_true_eq,decide_eq_true_eq,List.mem_cons]
  exact ⟨fun z=>z.imp (fun y=>y.symm) id,fun z=>z.imp (fun y=>y.symm) id⟩
theorem lk_dep (x:Lk):depP (lkD x) ≤ 1:=by
 have hi:∀ ns:List Int,jb8 (ns.map Dt.int) = 0:=fun ns=>by
  induction ns with
  | nil=>rfl
  | cons n ns ih=>rw [List.map_cons,jb8,ih]; rfl
 obtain ⟨w,ns⟩:=x
 unfold lkD
 rw [depP]
 cases w with
 | none =>
  show jb8 (ns.map Dt.int) + 1 ≤ 1
  rw [hi]
  exact Nat.le_refl _
 | some w =>
  show jb8 (Dt.str w :: ns.map Dt.int) + 1 ≤ 1
  rw [jb8,hi]
  exact Nat.le_refl 1
theorem jfb:∀ (l:List Lk),jb8 (l.map lkD) ≤ 1
 | []=>by rw [List.map_nil,jb8]; omega
 | x :: r=>by
  rw [List.map_cons,jb8]
  have:=lk_dep x
  have:=jfb r
  omega
theorem jii {ts:List (Int × Int)} (lt:∀ t ∈ ts,t.1 < t.2) (u v:Int):v ∈ jes ts u ↔ (u,v) ∈ ts ∨ (v,u) ∈ ts:=by
 unfold jes
 rw [List.mem_flatMap]
 constructor
 ·rintro ⟨t,ht,hv⟩
  unfold nr at hv
  split at hv
  ·rename_i c
   simp only [List.mem_singleton] at hv
   left
   rw [← c,hv]
   exact ht
  ·split at hv
   ·rename_i c
    simp only [List.mem_singleton] at hv
    right
    rw [← c,hv]
    exact ht
   ·cases hv
 ·rintro (h | h)
  ·exact ⟨_,h,by unfold nr; rw [if_pos rfl]; exact List.mem_singleton.mpr rfl⟩
  ·have:=lt _ h
   exact ⟨_,h,by unfold nr; rw [if_neg (show ¬ v = u by omega),if_pos rfl]; exact List.mem_singleton.mpr rfl⟩
theorem jjo {ds:List (Int × Int × Int)} {ins outs:List Int} {t:Int × Int} {x:Lk}:x ∈ nx ds ins outs t ↔ ∃ u v,((u,v) = t ∨ (v,u) = t)∧((x = (some wB,[u,v])∧u ∈ outs) ∨ (x = (some wT,[u,v])∧u ∈ ins∧t ∈ ds.map (fun d=>(d.1,d.2.1)))):=by
 have h1:∀ u v:Int,x ∈ nx1 ds ins outs t u v ↔ ((x = (some wB,[u,v])∧u ∈ outs) ∨ (x = (some wT,[u,v])∧u ∈ ins∧t ∈ ds.map (fun d=>(d.1,d.2.1)))):=fun u v=>by
  unfold nx1
  rw [List.mem_append]
  refine or_congr ?_ ?_
  ·by_cases c:u ∈ outs
   ·rw [if_pos c,List.mem_singleton]; exact ⟨fun z=>⟨z,c⟩,fun z=>z.1⟩
   ·rw [if_neg c]; exact ⟨fun z=>(by cases z),fun z=>absurd z.2 c⟩
  ·by_cases c:u ∈ ins∧t ∈ ds.map (fun d=>(d.1,d.2.1))
   ·rw [if_pos c,List.mem_singleton]; exact ⟨fun z=>⟨z,c⟩,fun z=>z.1⟩
   ·rw [if_neg c]; exact ⟨fun z=>(by cases z),fun z=>absurd z.2 c⟩
 unfold nx
 rw [List.mem_append,h1,h1]
 constructor
 ·rintro (h | h)
  ·exact ⟨t.1,t.2,.inl rfl,h⟩
  ·exact ⟨t.2,t.1,.inr rfl,h⟩
 ·rintro ⟨u,v,e | e,h⟩
  ·subst e; exact .inl h
  ·subst e; exact .inr h
theorem jek (ds:List (Int × Int × Int)) (a b:Int):jgb ds a b = true ↔ (a,b) ∈ ds.map (fun d=>(d.1,d.2.1)) ∨ (b,a) ∈ ds.map (fun d=>(d.1,d.2.1)):=by
 unfold jgb
 rw [List.any_eq_true]
 constructor
 ·rintro ⟨d,hd,h⟩
  rw [Bool.or_eq_true,Bool.and_eq_true,Bool.and_eq_true] at h
  rcases h with h | h
  ·exact .inl (List.mem_map.mpr ⟨d,hd,by rw [eq_of_beq h.1,eq_of_beq h.2]⟩)
  ·exact .inr (List.mem_map.mpr ⟨d,hd,by rw [eq_of_beq h.1,eq_of_beq h.2]⟩)
 ·rintro (h | h)
  ·obtain ⟨d,hd,e⟩:=List.mem_map.mp h
   injection e with e1 e2
   exact ⟨d,hd,by rw [e1,e2]; simp⟩
  ·obtain ⟨d,hd,e⟩:=List.mem_map.mp h
   injection e with e1 e2
   exact ⟨d,hd,by rw [e1,e2]; simp⟩
section
variable {ps ts:List (Int × Int)} {ds:List (Int × Int × Int)} {ins outs:List Int} {x:Lk}
theorem jl4 (wk:WebOk ps ts) (hd:∀ d ∈ ds,(d.1,d.2.1) ∈ ts):x ∈ jee ps ts ds ins outs ↔ okB ps ts ds ins outs x = true:=by
 have lt:∀ t ∈ ts,t.1 < t.2:=fun t ht=>(wk.t.ats t ht).1
 have inn:∀ {u v:Int},(u,v) ∈ ts ∨ (v,u) ∈ ts→u ∈ ps.map (·.1)∧v ∈ ps.map (·.1):=fun {u v} h=>by
  rcases h with h | h
  ·exact ⟨jcq (wk.t.ats _ h).2.1,jcq (wk.t.ats _ h).2.2⟩
  ·exact ⟨jcq (wk.t.ats _ h).2.2,jcq (wk.t.ats _ h).2.1⟩
 have hdm:∀ t ∈ ds.map (fun d=>(d.1,d.2.1)),t ∈ ts:=fun t ht=>by
  obtain ⟨d,h,rfl⟩:=List.mem_map.mp ht
  exact hd d h
 unfold jee
 rw [List.mem_append,List.mem_flatMap]
 constructor
 ·rintro (h | ⟨t,ht,h⟩)
  ·obtain ⟨p,hp,rfl⟩:=List.mem_map.mp h
   have hn:=(jcv ps ds).subset hp
   unfold okB jef
   simp only [decide_eq_true hn,decide_eq_true hp,decide_true,Bool.and_self]
  ·obtain ⟨u,v,e,h⟩:=jjo.mp h
   have huv:(u,v) ∈ ts ∨ (v,u) ∈ ts:=by
    rcases e with e | e
    ·left; rw [e]; exact ht
    ·right; rw [e]; exact ht
   have hn:=(jii lt u v).mpr huv
   obtain ⟨hu,hv⟩:=inn huv
   rcases h with ⟨rfl,ho⟩ | ⟨rfl,hi,hm⟩
   ·unfold okB jef
    simp only [decide_eq_true hn,decide_eq_true hu,decide_eq_true hv,decide_eq_true ho,decide_true,Bool.true_or,Bool.and_self,if_true]
   ·have htb:jgb ds u v = true:=(jek ds u v).mpr (by
     rcases e with e | e
     ·left; rw [e]; exact hm
     ·right; rw [e]; exact hm)
    unfold okB jef
    simp only [decide_eq_true hn,decide_eq_true hu,decide_eq_true hv,decide_eq_true hi,htb,nTB,decide_true,decide_false,Bool.or_true,Bool.and_self,if_false]
 ·intro h
  unfold okB at h
  rw [Bool.and_eq_true] at h
  obtain ⟨h1,h2⟩:=h
  rcases jdi h1 with ⟨p,rfl⟩ | ⟨u,v,rfl⟩ | ⟨u,v,rfl⟩
  ·left
   exact List.mem_map.mpr ⟨p,of_decide_eq_true h2,rfl⟩
  ·right
   unfold jef at h1
   simp only [Bool.and_eq_true,decide_eq_true_eq] at h1
   dsimp only at h2
   rw [if_pos rfl] at h2
   rcases (jii lt u v).mp h1.2.2 with z | z
   ·exact ⟨_,z,jjo.mpr ⟨u,v,.inl rfl,.inl ⟨rfl,of_decide_eq_true h2⟩⟩⟩
   ·exact ⟨_,z,jjo.mpr ⟨u,v,.inr rfl,.inl ⟨rfl,of_decide_eq_true h2⟩⟩⟩
  ·right
   unfold jef at h1
   simp only [Bool.and_eq_true,decide_eq_true_eq] at h1
   dsimp only at h2
   rw [if_neg (by rw [nTB]; exact id),Bool.and_eq_true] at h2
   have hi:=of_decide_eq_true h2.1
   rcases (jii lt u v).mp h1.2.2 with z | z
   ·refine ⟨_,z,jjo.mpr ⟨u,v,.inl rfl,.inr ⟨rfl,hi,?_⟩⟩⟩
    rcases (jek ds u v).mp h2.2 with y | y
    ·exact y
    ·have:=lt _ z
     have:=lt _ (hdm _ y)
     omega
   ·refine ⟨_,z,jjo.mpr ⟨u,v,.inr rfl,.inr ⟨rfl,hi,?_⟩⟩⟩
    rcases (jek ds u v).mp h2.2 with y | y
    ·have:=lt _ z
     have:=lt _ (hdm _ y)
     omega
    ·exact y
theorem jrn (h:okB ps ts ds ins outs x = true):GLk x:=by
 unfold okB at h
 rw [Bool.and_eq_true] at h
 rcases jdi h.1 with ⟨p,rfl⟩ | ⟨u,v,rfl⟩ | ⟨u,v,rfl⟩
 ·exact .l p
 ·exact .b u v
 ·exact .t u v
theorem jom {ins' outs':List Int} (h1:∀ n,n ∈ ins ↔ n ∈ ins') (h2:∀ n,n ∈ outs ↔ n ∈ outs'):okB ps ts ds ins outs x = okB ps ts ds ins' outs' x:=by
 unfold okB
 simp only [h1,h2]
theorem jf2:∀ {c:List Lk} {ins outs ins' outs':List Int},(∀ n,n ∈ ins ↔ n ∈ ins')→(∀ n,n ∈ outs ↔ n ∈ outs')→jb7 ps ts ds ins outs c = jb7 ps ts ds ins' outs' c
 | [],_,_,_,_,_,_=>rfl
 | x :: r,ins,outs,ins',outs',h1,h2=>by
  rw [jb7,jb7,jom h1 h2]
  congr 1
  split
  ·exact jf2 (fun n=>by rw [List.mem_cons,List.mem_cons,h1 n]) h2
  ·exact jf2 h1 (fun n=>by rw [List.mem_cons,List.mem_cons,h2 n])
theorem jmz {c:List Lk} {i:Nat} (h:c[i]? = some x) (ok:okB ps ts ds (jbs (c.take i)) (jba (c.take i)) x = true):jb7 ps ts ds (jbs (c.take i)) (jba (c.take i)) (c.drop i) = jb7 ps ts ds (jbs (c.take (i + 1))) (jba (c.take (i + 1))) (c.drop (i + 1)):=by
 rw [jch h,jb7,ok,Bool.true_and,jfe h,jgj h]
 split
 ·exact jf2 (fun n=>by rw [List.mem_cons,List.mem_append,List.mem_singleton]; exact or_comm) (fun n=>by rw [List.append_nil])
 ·exact jf2 (fun n=>by rw [List.append_nil]) (fun n=>by rw [List.mem_cons,List.mem_append,List.mem_singleton]; exact or_comm)
theorem jmy {c:List Lk} {i:Nat} (h:c[i]? = some x) (ok:okB ps ts ds (jbs (c.take i)) (jba (c.take i)) x = false):jb7 ps ts ds (jbs (c.take i)) (jba (c.take i)) (c.drop i) = false:=by
 rw [jch h,jb7,ok,Bool.false_and]
theorem jf3:∀ {c:List Lk} {ins outs:List Int},jb7 ps ts ds ins outs (c ++ [x]) = (jb7 ps ts ds ins outs c && okB ps ts ds (jbs c ++ ins) (jba c ++ outs) x)
 | [],ins,outs=>by
  show jb7 ps ts ds ins outs [x] = _
  rw [jb7,jb7]
  simp [jb7,jbs,jba]
 | y :: c,ins,outs=>by
  rw [List.cons_append,jb7,jb7,Bool.and_assoc]
  congr 1
  have e1:jbs (y :: c) = (if y.1 = some wB then [jfc y] else []) ++ jbs c:=by
   unfold jbs
   by_cases e:y.1 = some wB <;> simp [e]
  have e2:jba (y :: c) = (if y.1 = some wB then [] else [jfc y]) ++ jba c:=by
   unfold jba
   by_cases e:y.1 = some wB <;> simp [e]
  by_cases e:y.1 = some wB
  ·rw [if_pos e,if_pos e,jf3,e1,e2,if_pos e,if_pos e]
   congr 1
   exact jom (fun n=>by simp only [List.mem_append,List.mem_cons,List.not_mem_nil,or_false,List.nil_append]; exact ⟨fun z=>by rcases z with z | z | z <;> simp [z],fun z=>by rcases z with (z | z) | z <;> simp [z]⟩) (fun n=>by simp)
  ·rw [if_neg e,if_neg e,jf3,e1,e2,if_neg e,if_neg e]
   congr 1
   exact jom (fun n=>by simp) (fun n=>by simp only [List.mem_append,List.mem_cons,List.not_mem_nil,or_false,List.nil_append]; exact ⟨fun z=>by rcases z with z | z | z <;> simp [z],fun z=>by rcases z with (z | z) | z <;> simp [z]⟩)
end
end
end My
namespace My
open PySem L2
section
variable {P:Program} {w:World} {K:PySem.W.Frag} {mg:Str→Option Value} {base:Heap} {c1 c2 c3 c4:Tok} {C_NoWeb f_NoWeb:Addr} {dI:FuncData}
theorem nilP {α:Type} (f:α→Dt) (l:List α):eqP (.lst (l.map f)) (.lst []) = l.isEmpty:=by cases l <;> rfl
theorem je8 {α:Type} {F:V→α→Prop} {H:Hp} {st a:Addr} {o:HO} {xs:List V} {ys:List α} (e:H st = some o) (so:StO o) (ea:H a = some (.lst xs)) (p:Paired F xs ys) (hF:∀ v y,F v y→∃ t,v = .ref t):a ≠ st:=jso e so ea fun v hv=>by
 obtain ⟨i,hi,rfl⟩:=List.mem_iff_getElem.mp hv
 obtain ⟨y,_,z⟩:=jaa p (List.getElem?_eq_getElem hi)
 exact hF _ _ z
theorem jf4 {H H':Hp} {st:Addr} {o:HO} {v:V} {ps ts:List (Int × Int)} (h:jc4 H v ps ts) (b:But st H H') (e:H st = some o) (so:StO o):jc4 H' v ps ts:=by
 have t:=b.tups e so.imm
 obtain ⟨u,pa,ta,xs,ys,ev,h1,h2,h3,h4,h5⟩:=h
 exact ⟨u,pa,ta,xs,ys,ev,t _ _ rfl h1,b _ _ (je8 e so h2 h4 fun v y z=>let ⟨a,q,_⟩:=z; ⟨a,q⟩) h2,b _ _ (je8 e so h3 h5 fun v y z=>let ⟨a,q,_⟩:=z; ⟨a,q⟩) h3,Prs.tups t h4,Prs.tups t h5⟩
theorem jqp (ps ts:List (Int × Int)) (ds:List (Int × Int × Int)) (ins outs:List Int):(jee ps ts ds ins outs).length ≤ ps.length + 4 * ts.length:=by
 unfold jee
 rw [List.length_append,List.length_map]
 have h1:=(jcv ps ds).length_le
 rw [List.length_map] at h1
 have h2:∀ l:List (Int × Int),(l.flatMap (nx ds ins outs)).length ≤ 4 * l.length:=fun l=>by
  induction l with
  | nil=>simp
  | cons t l ih =>
   rw [List.flatMap_cons,List.length_append,List.length_cons]
   have:(nx ds ins outs t).length ≤ 4:=by
    unfold nx nx1
    simp only [List.length_append]
    split <;> split <;> split <;> split <;> simp
   omega
 have:=h2 ts
 omega
def jnq:Sp:=fun vs H Q _=>∃ v ps ts l zs ds ch xs c,vs = [v,.ref l,.ref ch]∧jc4 H v ps ts∧WebOk ps ts∧H l = some (.lst zs)∧Tps H zs ds∧ds.length ≤ 200∧(∀ d ∈ ds,(d.1,d.2.1) ∈ ts)∧H ch = some (.lst xs)∧Lks H xs c∧c.length ≤ 200∧∀ H',Same H H'→Q (.bl (jb7 ps ts ds [] [] c)) H'
def jj9:Sp:=fun vs H Q _=>∃ st v ps ts l zs ds o,vs = [.ref st,v,.ref l,.int 14]∧H st = some o∧StO o∧jc4 H v ps ts∧WebOk ps ts∧H l = some (.lst zs)∧Tps H zs ds∧ds.length ≤ 200∧(∀ d ∈ ds,(d.1,d.2.1) ∈ ts)∧∀ r xs c H' o',But st H H'→H' st = some o'→StO o'→H r = none→H' r = some (.lst xs)→Lks H' xs c→c.length ≤ 14→(∀ x ∈ c,GLk x)→jb7 ps ts ds [] [] c = true→Q (.ref r) H'
theorem jkx {f:Addr} {fd:FuncData} {f_law_next:Addr} {d_law_next:FuncData} (B:Blt mg) (D:DefAt K mg "_law_lets" (top 46) ["_law_web","_law_dues","_law_chain_here"] f fd) (D_law_next:DefAt K mg "_law_next" (top 42) ["_law_web","_law_dues","_law_chain_here"] f_law_next d_law_next) (G_law_next:FnOk P w K mg base CX0 1 f_law_next d_law_next ["_law_web","_law_dues","_law_chain_here"] jnm):FnOk P w K mg base CX0 2 f fd ["_law_web","_law_dues","_law_chain_here"] jnq:=by
 have sc:FnScope ["_law_web","_law_dues","_law_chain_here","_law_k"] ["_law_web","_law_dues","_law_chain_here"] (jaf (top 46)):=⟨rfl,rfl,rfl,by decide +kernel,rfl,by decide +kernel,by decide +kernel⟩
 refine D.F.ok sc (fun vs H Q E h=>?_) (fun cdv A outer s H vs Q E hr h=>?_)
 ·obtain ⟨v,ps,ts,l,zs,ds,ch,xs,c,rfl,_⟩:=h
  rfl
 obtain ⟨v,ps,ts,l,zs,ds,ch,xs,c,rfl,hw,wk,el,pd,hl,hd,ec,pc,hc,h⟩:=h
 have hu:=jbh hr
 have hu0:_ < PySem.cLine:=Nat.lt_of_succ_lt hu
 refine ⟨_,(ja2 (jbm PassesOwn.never rfl (jbv rfl B.range (ja0 (jad jcj rfl B.len PySem.boot_len (ja0 (qv 2) ja3)) ja3)) (ja9 (i:=3) sc.nd rfl (Or.inl rfl)) (ja6 (jb1 (jao (jgk hr.units) (jac q_ix (qv 2) (qv 3) (fun _ _=>rfl)) (ja7 G_law_next (hr.mono (by decide)) rfl D_law_next.m D_law_next.F.kp D_law_next.b .nil jap (ja0 (qv 0) (ja0 (qv 1) (ja0 (jb3 q_slL (qv 2) jbg (jbe (qv 3))) ja3)))) (by with_unfolding_all rfl)) (ja6 (jah jbd)) jal))) (ja6 (jah jbd))),?_⟩
 have hlx:xs.length = c.length:=Paired.length pc
 refine ja8 fun R hR=>?_
 refine jb0 (Itr 0 c.length) H (fun R' hR'=>?_) (jc2 (n:=c.length) (fun i σ Hc=>∃ v1,σ = [some v,some (.ref l),some (.ref ch),v1]∧Same H Hc∧(∀ x ∈ c.take i,GLk x)∧jb7 ps ts ds [] [] c = jb7 ps ts ds (jbs (c.take i)) (jba (c.take i)) (c.drop i)) ⟨none,rfl,Same.refl _,(fun x hx=>by simp at hx),by simp [jbs,jba]⟩ ?_ ?_)
 ·unfold jfr
  simp_arith [jaj,ec]
  refine ⟨_,rfl,by omega,by omega,?_⟩
  rw [hlx,Int.toNat_natCast]
  exact hR'
 ·rintro i σ Hc hi ⟨v1,rfl,s1,gl,hch⟩
  simp only [jff,List.set_cons_zero,List.set_cons_succ]
  have hxi:c[i]? = some c[i]:=List.getElem?_eq_getElem hi
  generalize c[i] = x at hxi
  obtain ⟨y,hy,px⟩:=jc6 pc hxi
  obtain ⟨t,rfl,ht⟩:=px.tups s1.tups
  have ha:atI xs (0 + (i:Int)) = some (.ref t):=by rw [Int.zero_add]; exact jcr hy
  simp_arith [jaj,s1 _ _ ec,ha]
  intro p hp
  rw [Int.zero_add,cut_to (by omega) (by omega),Int.toNat_natCast]
  have q2:=ja5 hp (.lst (xs.take i))
  have ep:upd Hc p (.lst (xs.take i)) p = some (.lst (xs.take i)):=ja1
  generalize upd Hc p (.lst (xs.take i)) = H2 at q2 ep
  have s2:=s1.trans q2
  refine ⟨v,ps,ts,l,zs,ds,p,xs.take i,c.take i,rfl,hw.same s2,wk,s2 _ _ el,jbk s2.tups pd,hl,ep,jeb i (Lks.tups pc s2.tups),by rw [List.length_take]; omega,gl,fun r ys H3 s3 hr er pr=>?_⟩
  have s13:=s2.trans s3
  refine ⟨lkD x,r,ys,(jee ps ts ds (jbs (c.take i)) (jba (c.take i))).map lkD,LkAt.rep ⟨t,rfl,(q2.trans s3) _ _ ht⟩,rfl,er,Lks.reps pr,Nat.le_trans (jfb _) (by decide),?_⟩
  simp only [if_true,any_lk]
  by_cases cx:x ∈ jee ps ts ds (jbs (c.take i)) (jba (c.take i))
  ·simp only [decide_eq_true cx,Bool.not_true,Bool.false_eq_true,if_false]
   have ok:=(jl4 wk hd).mp cx
   refine ⟨_,rfl,s13,fun z hz=>?_,hch.trans (jmz hxi ok)⟩
   rw [jar hxi] at hz
   rcases List.mem_append.mp hz with hz | hz
   ·exact gl z hz
   ·rw [List.mem_singleton.mp hz]; exact jrn ok
  ·simp only [decide_eq_false cx,Bool.not_false,if_true]
   have ok:okB ps ts ds (jbs (c.take i)) (jba (c.take i)) x = false:=Bool.eq_false_iff.mpr fun z=>cx ((jl4 wk hd).mpr z)
   have:=h H3 s13
   rw [hch,jmy hxi ok] at this
   exact this
 ·rintro σ Hc ⟨v1,rfl,s1,gl,hch⟩
  rw [List.drop_length,jb7] at hch
  subst hR
  walk_at "RD"
  have:=h Hc s1
  rw [hch] at this
  exact this
theorem jjm {f:Addr} {fd:FuncData} {f_law_take:Addr} {d_law_take:FuncData} {f_law_next:Addr} {d_law_next:FuncData} (B:Blt mg) (D:DefAt K mg "_law_chain" (top 43) ["_law_state","_law_web","_law_dues","_law_most"] f fd) (D_law_take:DefAt K mg "_law_take" (top 39) ["_law_state","_law_many"] f_law_take d_law_take) (G_law_take:FnOk P w K mg base CX0 1 f_law_take d_law_take ["_law_state","_law_many"] jfk) (D_law_next:DefAt K mg "_law_next" (top 42) ["_law_web","_law_dues","_law_chain_here"] f_law_next d_law_next) (G_law_next:FnOk P w K mg base CX0 1 f_law_next d_law_next ["_law_web","_law_dues","_law_chain_here"] jnm):FnOk P w K mg base CX0 2 f fd ["_law_state","_law_web","_law_dues","_law_most"] jj9:=by
 have sc:FnScope ["_law_state","_law_web","_law_dues","_law_most","_law_chain_here","_law_k","_law_some"] ["_law_state","_law_web","_law_dues","_law_most"] (jaf (top 43)):=⟨rfl,rfl,rfl,by decide +kernel,rfl,by decide +kernel,by decide +kernel⟩
 refine D.F.ok sc (fun vs H Q E h=>?_) (fun cdv A outer s H vs Q E hr h=>?_)
 ·obtain ⟨st,v,ps,ts,l,zs,ds,o,rfl,_⟩:=h
  rfl
 obtain ⟨st,v,ps,ts,l,zs,ds,o,rfl,e,so,hw,wk,el,pd,hl,hd,h⟩:=h
 have hu:=jbh hr
 have hu0:_ < PySem.cLine:=Nat.lt_of_succ_lt hu
 refine ⟨_,(ja2 (jak (i:=4) sc.nd rfl (Or.inl rfl) (jc0 ja3)) (ja2 (jbm PassesOwn.never rfl (jbv rfl B.range (ja0 (ja7 G_law_take (hr.mono (by decide)) rfl D_law_take.m D_law_take.F.kp D_law_take.b .nil jap (ja0 (qv 0) (ja0 (jau jc8 (qv 3) ja4) ja3))) ja3)) (ja9 (i:=5) sc.nd rfl (Or.inl rfl)) (ja2 (jak (i:=6) sc.nd rfl (Or.inl rfl) (ja7 G_law_next (hr.mono (by decide)) rfl D_law_next.m D_law_next.F.kp D_law_next.b .nil jap (ja0 (qv 1) (ja0 (qv 2) (ja0 (qv 4) ja3))))) (ja6 (jb1 (jao (jfm hr.units) (qv 6) (jc0 ja3) (jam _)) (ja6 (jce (q_bm PySem.F.plainAttrs_list PySem.F.slot_list_append PySem.F.type_list_append jct (qv 4) (ja0 (jac q_ix (qv 6) (ja7 G_law_take (hr.mono (by decide)) rfl D_law_take.m D_law_take.F.kp D_law_take.b .nil jap (ja0 (qv 0) (ja0 (jad jcj rfl B.len PySem.boot_len (ja0 (qv 6) ja3)) ja3))) (fun _ _=>rfl)) ja3)))) jal)))) (ja6 (jah (qv 4))))),?_⟩
 refine ja8 fun R hR=>?_
 walk_at "RD"
 intro r hr
 have q1:=ja5 hr (.lst [])
 have er:upd H r (.lst []) r = some (.lst []):=ja1
 generalize upd H r (.lst []) = H1 at q1 er
 have e1:=q1 _ _ e
 have nrs:r ≠ st:=(jab e hr).symm
 subst hR
 refine ja8 fun R hR=>?_
 refine jdw (ι:=Nat × Hp × HO) (fun y=>Itr 0 y.1) (fun y=>y.2.1) (fun y=>y.1 ≤ 14∧But st H1 y.2.1∧y.2.1 st = some y.2.2∧StO y.2.2) (fun R' hR'=>?_) ?_
 ·unfold jfr
  walk_at "RD"
  refine ⟨st,o,_,rfl,e1,so,by omega,by omega,fun d o2 d0 d1 so2=>?_⟩
  refine ⟨d,rfl,by omega,by omega,hR' (d.toNat,_,o2) ⟨by show d.toNat ≤ 14; omega,But.at st H1 o2,ja1,so2⟩⟩
 rintro ⟨N,H2,o2⟩ ⟨hN,b2,e2,so2⟩
 dsimp only at hN b2 e2 so2
 have er2:=b2 _ _ nrs er
 refine jc2 (n:=N) (fun i σ Hc=>∃ v5 v6 xs c o',σ = [some (.ref st),some v,some (.ref l),some (.int 14),some (.ref r),v5,v6]∧But st H Hc∧Hc st = some o'∧StO o'∧Hc r = some (.lst xs)∧Lks Hc xs c∧c.length ≤ i∧(∀ x ∈ c,GLk x)∧jb7 ps ts ds [] [] c = true) ⟨none,none,[],[],o2,rfl,(fun b u nb q=>b2 _ _ nb (q1 _ _ q)),e2,so2,er2,.nil,Nat.le_refl _,(fun x hx=>by cases hx),rfl⟩ ?_ ?_
 ·rintro i σ Hc hi ⟨v5,v6,xs,c,oc,rfl,bc,ec,soc,exr,pc,lc,gl,hch⟩
  simp only [jff,List.set_cons_zero,List.set_cons_succ]
  have tc:=bc.tups e so.imm
  have elc:=bc _ _ (je8 e so el pd fun v y z=>let ⟨a,q,_⟩:=z; ⟨a,q⟩) el
  have hlx:xs.length = c.length:=Paired.length pc
  refine ja8 fun R8 hR8=>?_
  walk_at "RD"
  refine ⟨v,ps,ts,l,zs,ds,r,xs,c,rfl,jf4 hw bc e so,wk,elc,jbk tc pd,hl,exr,pc,by omega,gl,fun rn ys H3 s3 hrn ern pr=>?_⟩
  have exr3:=s3 _ _ exr
  have e3:=s3 _ _ ec
  have b3:=bc.trans (But.same s3)
  have pc3:=Lks.tups pc s3.tups
  subst hR8
  walk_at "RD"
  intro e0 he0
  have q4:=ja5 he0 (.lst [])
  have ee0:upd H3 e0 (.lst []) e0 = some (.lst []):=ja1
  generalize upd H3 e0 (.lst []) = H4 at q4 ee0
  have b4:=b3.trans (But.same q4)
  have e4:=q4 _ _ e3
  have exr4:=q4 _ _ exr3
  have pc4:=Lks.tups pc3 q4.tups
  have ern4:=q4 _ _ ern
  have pr4:=Lks.tups pr q4.tups
  have hly:ys.length = (jee ps ts ds (jbs c) (jba c)).length:=Paired.length pr
  have hnl:=jqp ps ts ds (jbs c) (jba c)
  have wkl:=wk.pl
  have wkt:=wk.tl
  refine ⟨.lst ((jee ps ts ds (jbs c) (jba c)).map lkD),.lst [],(by rw [Rep]; exact ⟨rn,ys,rfl,ern4,Lks.reps pr4⟩),(by rw [Rep]; exact ⟨e0,[],rfl,ee0,by rw [Reps]⟩),(by rw [depP]; have:=jfb (jee ps ts ds (jbs c) (jba c)); omega),.inl ⟨_,_,rfl,rfl⟩,?_⟩
  simp only [if_true,nilP]
  by_cases hE:jee ps ts ds (jbs c) (jba c) = []
  ·rw [hE]
   simp only [List.isEmpty_nil,Bool.not_true,Bool.false_eq_true,if_false]
   exact ⟨_,_,xs,c,oc,rfl,b4,e4,soc,exr4,pc4,by omega,gl,hch⟩
  ·have hE1:(jee ps ts ds (jbs c) (jba c)).isEmpty = false:=by
    cases hq:jee ps ts ds (jbs c) (jba c) with
    | nil=>exact absurd hq hE
    | cons _ _=>rfl
   have hpos:0 < (jee ps ts ds (jbs c) (jba c)).length:=List.length_pos_iff.mpr hE
   rw [hE1]
   simp only [Bool.not_false,if_true]
   simp_arith [jaj,ern4]
   refine ⟨⟨r,xs,rfl,exr4⟩,st,oc,_,rfl,e4,soc,by omega,by omega,fun d o5 d0 d1 so5=>?_⟩
   have b5:=b4.trans (But.at st H4 o5)
   have e5:upd H4 st o5 st = some o5:=ja1
   have t5:=(But.at st H4 o5).tups e4 soc.imm
   have nrn:rn ≠ st:=(jab ec hrn).symm
   have ern5:=But.at st H4 o5 _ _ nrn ern4
   have exr5:=But.at st H4 o5 _ _ nrs exr4
   have pc5:=Lks.tups pc4 t5
   have pr5:=Lks.tups pr4 t5
   generalize upd H4 st o5 = H5 at b5 e5 ern5 exr5 pc5 pr5
   have hd2:d.toNat < ys.length:=by omega
   have hyd:ys[d.toNat]? = some ys[d.toNat]:=List.getElem?_eq_getElem hd2
   generalize ys[d.toNat] = y at hyd
   obtain ⟨x,hx,px⟩:=jaa pr5 hyd
   obtain ⟨t,rfl,ht⟩:=id px
   have hat:atI ys d = some (.ref t):=by
    have:((d.toNat:Nat):Int) = d:=by omega
    rw [← this]
    exact jcr hyd
   have hxm:=List.mem_of_getElem? hx
   have ok:=(jl4 wk hd).mp hxm
   simp only [jaj,ern5,hat,exr5]
   have t6:=jb2 (ys:=xs ++ [.ref t]) exr5
   refine ⟨szl' (by omega),_,_,xs ++ [.ref t],c ++ [x],o5,rfl,fun b u nb q=>?_,by rw [jae nrs.symm]; exact e5,so5,ja1,jav (Lks.tups pc5 t6) (px.tups t6),by rw [List.length_append,List.length_singleton]; omega,fun z hz=>?_,?_⟩
   ·rw [jae (jab q hr)]
    exact b5 _ _ nb q
   ·rcases List.mem_append.mp hz with hz | hz
    ·exact gl z hz
    ·rw [List.mem_singleton.mp hz]; exact jrn ok
   ·rw [jf3,hch,Bool.true_and,List.append_nil,List.append_nil]
    exact ok
 ·rintro σ Hc ⟨v5,v6,xs,c,oc,rfl,bc,ec,soc,exr,pc,lc,gl,hch⟩
  subst hR
  walk_at "RD"
  exact h r xs c Hc oc bc ec soc hr exr pc (by omega) gl hch
end
end My
namespace HT
open PySem PyProof.Rows
open PySem.SeqAt
open PySem.AutoSeq1 (wpAny_loadPart')
open PySem.MeetsSeq PySem.MeetsSeq2 PySem.MeetsSeq3
section
variable {prog:Program} {w:World} {A:Around} {E:Value→Shared→Prop} {s:Shared}
theorem jfo {sl:Addr} {tk:Tok} {n:Nat} {Q:Int × Int × Nat→Shared→Prop} (hs:s.heap.IsSliceOf sl .none .none (.int (-1) tk))
  (h:Q (((n:Int) - 1),-1,n) s):wpAny (model prog w) A (Builtin.Slice.sliceApplied (.ref sl) (pure (n:Int))) Q E s:=by
 obtain ⟨os,hos,hcs,hds⟩:=id hs
 unfold Builtin.Slice.sliceApplied Builtin.Slice.sliceFields
 refine wpAny_bind (wpAny_bind (wpAny_field hos hds (x:=.none) rfl (wpAny_bind (wpAny_field hos hds (x:=.none) rfl (wpAny_bind (wpAny_field hos hds (x:=.int (-1) tk) rfl (wpAny_pure ?_)))))))
 refine wpAny_bind (slicePart_int ?_)
 show wpAny _ _ (if ((-1:Int) == 0) = true then _ else _) _ _ s
 rw [if_neg (by decide)]
 refine wpAny_bind (slicePart_none (wpAny_bind (slicePart_none (wpAny_bind (wpAny_pure ?_)))))
 show wpAny _ _ (pure (((n:Int) - 1),(-1:Int),Builtin.Slice.slicePlaces ((n:Int) - 1) (-1) (-1))) _ _ s
 have e:Builtin.Slice.slicePlaces ((n:Int) - 1) (-1) (-1) = n:=by
  unfold Builtin.Slice.slicePlaces
  rw [if_neg (by decide)]
  split
  ·rw [show (- -1:Int) = 1 by decide,Int.ediv_one]; omega
  ·omega
 rw [e]
 exact wpAny_pure h
theorem jqd (its:List Value):((List.range its.toArray.size).filterMap fun (k:Nat)=>its.toArray[((its.toArray.size:Int) - 1 + (k:Int) * -1).toNat]?).toArray = its.reverse.toArray:=by
 congr 1
 rw [List.size_toArray]
 have h1:∀ l:List Nat,(∀ k ∈ l,k < its.length)→(l.filterMap fun (k:Nat)=>its.toArray[((its.length:Int) - 1 + (k:Int) * -1).toNat]?) = l.map fun k=>its.getD (its.length - 1 - k) .none:=fun l=>by
  induction l with
  | nil=>intro _; rfl
  | cons k r ih =>
   intro hk
   have hk0:=hk k (.head _)
   have e:its.toArray[((its.length:Int) - 1 + (k:Int) * -1).toNat]? = some (its.getD (its.length - 1 - k) .none):=by
    rw [show ((its.length:Int) - 1 + (k:Int) * -1).toNat = its.length - 1 - k by omega,List.getElem?_toArray,List.getD_eq_getElem?_getD,List.getElem?_eq_getElem (by omega)]
    rfl
   rw [List.filterMap_cons,e]
   dsimp only
   rw [List.map_cons,ih fun j hj=>hk j (.tail _ hj)]
 rw [h1 _ fun k hk=>List.mem_range.mp hk]
 apply List.ext_getElem?
 intro i
 by_cases c:i < its.length
 ·rw [List.getElem?_map,List.getElem?_range c,List.getElem?_reverse c]
  show some (its.getD (its.length - 1 - i) .none) = _
  rw [List.getD_eq_getElem?_getD,List.getElem?_eq_getElem (by omega)]
  rfl
 ·rw [List.getElem?_eq_none (by rw [List.length_map,List.length_range]; omega),List.getElem?_eq_none (by rw [List.length_reverse]; omega)]
theorem getItem_tuple_rev {t sl:Addr} {its:List Value} {tk:Tok} {Q:Value→Shared→Prop} (ht:IsTup s.heap t its.toArray) (hs:s.heap.IsSliceOf sl .none .none (.int (-1) tk))
  (h:Q (.ref s.heap.objs.size) { s with heap:=s.heap.push { cls:=.type "tuple",data:=.seq its.reverse.toArray } }) (hsz:its.length ≤ sizeLine):wpAny (model prog w) A (getItem (.ref t) (.ref sl)) Q E s:=by
 have htake:sizeOk (.seq its.reverse.toArray):=by
  show its.reverse.toArray.size ≤ sizeLine
  rw [List.size_toArray,List.length_reverse]
  exact hsz
 obtain ⟨os,hos,hcs,hds⟩:=id hs
 have hTs:s.TypeIs (.ref sl) "slice":=⟨os,hos,hcs⟩
 unfold getItem
 try with_reducible refine wpAny_holding ?_
 first | refine wpAny_bind (wpAny_pure ?_) | skip
 refine wpAny_bind (wpAny_sequenceKey ht.typeIs (by decide) ?_)
 refine wpAny_bind (wpAny_callSpecial?_slot (name:=Str.ofString "__getitem__") ht.typeIs PyProof.Rows.slot_tuple_getitem
  (wpAny_call_entry PyProof.Rows.slot_tuple_getitem ht.typeIs entry_tuple_getitem ?_ (args_tuple_getitem _ _)))
 show wpAny _ _ (Builtin.Tuple.tupleItemsOf (.ref t) >>= _) _ _ s
 refine wpAny_bind (tupleItemsOf_ ht ?_)
 refine wpAny_bind (wpAny_typeOf hTs ?_)
 rw [if_pos (by decide)]
 refine wpAny_bind (jfo hs ?_)
 show wpAny _ _ (if ((((its.toArray.size:Int) - 1) == 0 && (-1:Int) == 1 && its.toArray.size == its.toArray.size) = true) then _ else _) _ _ s
 rw [if_neg (by rw [show ((-1:Int) == 1) = false from rfl,Bool.and_false,Bool.false_and]; exact Bool.false_ne_true),jqd]
 first
  | exact wpAny_bind (m:=Builtin.Tuple.tupleExact _) (wpAny_newObj_type (wpAny_pure ⟨_,rfl,wpAny_pure h⟩) htake)
  | exact wpAny_bind (m:=Builtin.Tuple.tupleExact _) (wpAny_newObj_type (wpAny_bind (wpAny_pure (wpAny_pure ⟨_,rfl,wpAny_pure h⟩))) htake)
  | exact wpAny_bind (wpAny_bind (m:=Builtin.Tuple.tupleExact _) (wpAny_newObj_type (wpAny_pure (wpAny_pure ⟨_,rfl,wpAny_pure h⟩)) htake))
  | exact wpAny_bind (wpAny_bind (m:=Builtin.Tuple.tupleExact _) (wpAny_newObj_type (wpAny_pure ⟨_,rfl,wpAny_pure h⟩) htake))
end
end HT
namespace L2
open PySem PySem.Spec PyProof.Rows
def fRevT (te:TE):TE:=fun σ H Q=>te σ H fun x H1=>match x with
 | .ref a=>match H1 a with
  | some (.tup xs)=>∀ p,H1 p = none→Q (.ref p) (upd H1 p (.tup xs.reverse))
  | _=>False
 | _=>False
theorem jsh {X:Cx} {e:Expr} {te:TE} {k:Nat} {z1 z2 p2 pos:Pos} (he:PE X e te):PE X (.Subscript e (.Slice none none (some (.UnaryOp .USub (.Constant (.int 1) k z1) z2)) p2) pos) (fRevT te):=by
 intro pins s σ H Q I h
 refine Subscript_ (thn (he pins s σ H _ I h) fun v s1 ⟨x,H1,I1,r1,q1⟩=>?_)
 refine wpAny_Slice ?_
 simp only [evalPart_none]
 refine wpAny_pure (wpAny_pure ?_)
 rw [evalPart_some]
 have hm:PE X (.UnaryOp .USub (.Constant (.int 1) k z1) z2) (tUn fNeg (tC (.int 1))):=jdr jdo ja4
 refine thn (hm pins s1 σ H1 (fun y H2=>y = .int (-1)∧H2 = H1) I1 ⟨rfl,rfl⟩) fun st s2 ⟨y,H2,I2,r2,ey,eh⟩=>?_
 subst ey eh
 obtain ⟨t2,rfl⟩:=r2
 split at q1
 ·rename_i a
  split at q1
  ·rename_i xs ea
   cases r1
   have I4:Inv X pins σ H2 { s2 with heap:=s2.heap.push { cls:=.type "slice",data:=.fields #[.none,.none,.int (-1) t2] } }:=I2.kept (t':=s2.toks) fun b ob q=>Heap.get?_push_of_some _ q
   obtain ⟨its,r,ht,hz⟩:=I4.tuple (SqT.of (K:=X.K) ea)
   have hlen:=r.length
   show wpAny (model X.prog X.w) X.A (subscriptTail e (.Slice none none (some (.UnaryOp .USub (.Constant (.int 1) k z1) z2)) p2) (.ref a) (.ref s2.heap.objs.size)) (EP X pins σ Q) X.xe { s2 with heap:=s2.heap.push { cls:=.type "slice",data:=.fields #[.none,.none,.int (-1) t2] } }
   refine tail_any (ops:=[.ref a,.ref s2.heap.objs.size]) ht.typeIs PyProof.Rows.slot_tuple_getitem.lookup ?_ (by with_unfolding_all rfl)
   refine HT.getItem_tuple_rev ht (Heap.IsSliceOf.new ..) ?_ (by omega)
   refine ⟨.ref _,_,I4.laid (t':=s2.toks) (o:=.tup xs.reverse) (fun b ob q=>Heap.get?_push_of_some _ q) (Nat.le_refl _) ?_,rfl,q1 _ (I4.hok.fresh (Nat.le_refl _))⟩
   exact ⟨by rw [List.length_reverse]; exact hz,_,jlk r,IsTup.new _ _⟩
  ·exact q1.elim
 ·exact q1.elim
section
variable {X:Cx}
def rCatA:R2:=fun x y H Q=>∃ a b xs ys,x = .ref a∧y = .ref b∧H a = some (.tup xs)∧H b = some (.tup ys)∧xs.length + ys.length ≤ 1000∧∀ p H',Same H H'→H' p = some (.tup (xs ++ ys))→Q (.ref p) H'
theorem jge:OpR X (binaryOp .Add) rCatA:=by
 intro pins s σ H x y v u Q I rx ry h
 obtain ⟨a,b,xs,ys,rfl,rfl,ha,hb,hl,q⟩:=h
 by_cases c:xs = []
 ·subst c
  cases rx
  cases ry
  obtain ⟨its,r1,p1,_⟩:=I.tuple (SqT.of ha)
  obtain ⟨its2,r2,p2,_⟩:=I.tuple (SqT.of hb)
  cases r1
  obtain ⟨⟨cls,dd,data,sl⟩,ho,hc,n,hd⟩:=id p1
  obtain ⟨⟨cls2,dd2,data2,sl2⟩,ho2,hc2,n2,hd2⟩:=id p2
  simp only at hc hd hc2 hd2
  subst hc hd hc2 hd2
  exact concat_meets (T:="tuple") ⟨_,ho,rfl⟩ ⟨_,ho2,rfl⟩ noFill_tuple_add seq_tuple_add PySem.F.slot_tuple_add PySem.F.entry_tuple_add (PySem.F.args_tuple_add_2 _ _) (tuple_addW0 a b _ _ n n2 dd dd2 sl sl2 (by simp)) ⟨ho,ho2,⟨.ref b,H,I,rfl,q b H (Same.refl H) (by rw [List.nil_append]; exact hb)⟩⟩
 ·exact jol pins s σ H _ _ v u Q I rx ry ⟨a,b,xs,ys,rfl,rfl,SqT.of ha,SqT.of hb,c,Nat.le_trans hl (by decide),fun z=>q a H (Same.refl H) (by rw [z,List.append_nil]; exact ha),fun _ p hp=>q p _ (ja5 hp _) ja1⟩
def rSlN:V→Option Int→Option Int→Hp→VK→Prop:=fun x lo hi H Q=>∃ a xs,x = .ref a∧H a = some (.tup xs)∧∀ p H',Same H H'→H' p = some (.tup (cutV xs lo hi))→Q (.ref p) H'
theorem jkr:SlR X rSlN:=q_slA.imp fun x l u H Q h=>by
 obtain ⟨a,xs,rfl,e,k⟩:=h
 refine ⟨a,xs,rfl,e,fun c=>k a H (Same.refl H) ?_,fun _ p hp=>k p _ (ja5 hp _) ja1⟩
 unfold cutV
 rw [c.1,c.2,List.drop_zero,Nat.sub_zero,List.take_length]
 exact e
end
end L2
namespace My
open PySem L2
section
variable {P:Program} {w:World} {K:PySem.W.Frag} {mg:Str→Option Value} {base:Heap} {c1 c2 c3 c4:Tok} {C_NoWeb f_NoWeb:Addr} {dI:FuncData}
theorem jps {xs:List V} {k:Int} (h0:0 ≤ k):cutV xs none (some k) = xs.take k.toNat:=by
 unfold cutV HT.sIx
 simp only [List.drop_zero,if_neg (show ¬ k < 0 by omega),Nat.sub_zero]
 by_cases c:k.toNat ≤ xs.length
 ·rw [Nat.min_eq_left c]
 ·rw [Nat.min_eq_right (by omega),List.take_length,List.take_of_length_le (by omega)]
theorem jf0 {xs:List V} {k:Int} (h0:0 ≤ k):cutV xs (some k) none = xs.drop k.toNat:=by
 unfold cutV HT.sIx
 simp only [if_neg (show ¬ k < 0 by omega)]
 by_cases c:k.toNat ≤ xs.length
 ·rw [Nat.min_eq_left c]
  exact List.take_of_length_le (by rw [List.length_drop]; exact Nat.le_refl _)
 ·rw [Nat.min_eq_right (by omega),List.drop_length,List.drop_eq_nil_of_le (by omega),List.take_nil]
theorem jk8 (xs:List V):cutV xs none (some (-1)) = xs.take (xs.length - 1):=by
 unfold cutV HT.sIx
 simp only [List.drop_zero,show (-1:Int) < 0 by decide,if_true,Nat.sub_zero]
 congr 1
 omega
theorem jjs (x:Lk) (ms:List Int):lkV x ++ ms.map V.int = lkV (x.1,x.2 ++ ms):=by
 obtain ⟨w,ns⟩:=x
 unfold lkV
 rw [List.append_assoc,List.map_append]
theorem joz (x:Lk):∀ (k:Nat),∃ x':Lk,(lkV x).take k = lkV x'∧x'.2.length ≤ x.2.length
 | 0=>⟨(none,[]),by rw [List.take_zero]; rfl,Nat.zero_le _⟩
 | k + 1=>by
  obtain ⟨w,ns⟩:=x
  cases w with
  | none =>
   refine ⟨(none,ns.take (k + 1)),?_,by show (ns.take (k + 1)).length ≤ ns.length; rw [List.length_take]; omega⟩
   show (ns.map V.int).take (k + 1) = (ns.take (k + 1)).map V.int
   rw [List.map_take]
  | some w =>
   refine ⟨(some w,ns.take k),?_,by show (ns.take k).length ≤ ns.length; rw [List.length_take]; omega⟩
   show (V.str w :: ns.map V.int).take (k + 1) = V.str w :: (ns.take k).map V.int
   rw [List.take_succ_cons,List.map_take]
theorem jl9 (x:Lk) (k:Nat):∃ ms:List Int,(lkV x).drop (k + 1) = ms.map V.int∧ms.length ≤ x.2.length:=by
 obtain ⟨w,ns⟩:=x
 cases w with
 | none =>
  refine ⟨ns.drop (k + 1),?_,by show (ns.drop (k + 1)).length ≤ ns.length; rw [List.length_drop]; omega⟩
  show (ns.map V.int).drop (k + 1) = _
  rw [List.map_drop]
 | some w =>
  refine ⟨ns.drop k,?_,by show (ns.drop k).length ≤ ns.length; rw [List.length_drop]; omega⟩
  show (V.str w :: ns.map V.int).drop (k + 1) = _
  rw [List.drop_succ_cons,List.map_drop]
theorem jm1 (x:Lk):∃ x':Lk,(lkV x).take 1 = lkV x'∧x'.2.length ≤ 1:=by
 obtain ⟨w,ns⟩:=x
 cases w with
 | none =>
  refine ⟨(none,ns.take 1),?_,by show (ns.take 1).length ≤ 1; rw [List.length_take]; omega⟩
  show (ns.map V.int).take 1 = (ns.take 1).map V.int
  rw [List.map_take]
 | some w=>exact ⟨(some w,[]),rfl,Nat.zero_le _⟩
theorem jju (x:Lk):(lkV x).length ≤ x.2.length + 1:=by
 obtain ⟨w,ns⟩:=x
 cases w <;> simp [lkV]
theorem word3 {d:Int} (h0:0 ≤ d) (h1:d < 3):∃ w,atI [V.str wL,.str wB,.str wT] d = some (.str w):=by
 rcases (by omega:d = 0 ∨ d = 1 ∨ d = 2) with rfl | rfl | rfl
 ·exact ⟨_,at0⟩
 ·exact ⟨_,at1⟩
 ·exact ⟨_,at2⟩
def jng:Sp:=fun vs H Q _=>∃ st v y ps ts o x,vs = [.ref st,v,y]∧H st = some o∧StO o∧jc4 H v ps ts∧WebOk ps ts∧ps ≠ []∧LkAt H y x∧x.2.length ≤ 20 ∧
 ∀ y' x' H' o',But st H H'→H' st = some o'→StO o'→LkAt H' y' x'→x'.2.length ≤ x.2.length + 2→Q y' H'
theorem jjl {f:Addr} {fd:FuncData} {f_law_take:Addr} {d_law_take:FuncData} (B:Blt mg) (D:DefAt K mg "_law_tuple" (top 44) ["_law_state","_law_web","_law_one"] f fd) (D_law_take:DefAt K mg "_law_take" (top 39) ["_law_state","_law_many"] f_law_take d_law_take) (G_law_take:FnOk P w K mg base CX0 1 f_law_take d_law_take ["_law_state","_law_many"] jfk):FnOk P w K mg base CX0 2 f fd ["_law_state","_law_web","_law_one"] jng:=by
 have sc:FnScope ["_law_state","_law_web","_law_one","_law_way","_law_place"] ["_law_state","_law_web","_law_one"] (jaf (top 44)):=⟨rfl,rfl,rfl,by decide +kernel,rfl,by decide +kernel,by decide +kernel⟩
 refine D.F.ok sc (fun vs H Q E h=>?_) (fun cdv A outer s H vs Q E hr h=>?_)
 ·obtain ⟨st,v,y,ps,ts,o,x,rfl,_⟩:=h
  rfl
 obtain ⟨st,v,y,ps,ts,o,x,rfl,e,so,hw,wk,ne,hx,lx,h⟩:=h
 obtain ⟨t,rfl,ht⟩:=hx
 have hu:=jbh hr
 have hu0:_ < PySem.cLine:=Nat.lt_of_succ_lt hu
 refine ⟨_,(ja2 (jak (i:=3) sc.nd rfl (Or.inl rfl) (ja7 G_law_take (hr.mono (by decide)) rfl D_law_take.m D_law_take.F.kp D_law_take.b .nil jap (ja0 (qv 0) (ja0 ja4 ja3)))) (ja2 (jak (i:=4) sc.nd rfl (Or.inl rfl) (jau jc8 (jac q_ix (jac q_ix (jac q_ix (qv 1) ja4 (fun _ _=>rfl)) (ja7 G_law_take (hr.mono (by decide)) rfl D_law_take.m D_law_take.F.kp D_law_take.b .nil jap (ja0 (qv 0) (ja0 (jad jcj rfl B.len PySem.boot_len (ja0 (jac q_ix (qv 1) ja4 (fun _ _=>rfl)) ja3)) ja3))) (fun _ _=>rfl)) ja4 (fun _ _=>rfl)) (ja7 G_law_take (hr.mono (by decide)) rfl D_law_take.m D_law_take.F.kp D_law_take.b .nil jap (ja0 (qv 0) (ja0 ja4 ja3))))) (ja2 (jb1 (jao q_eq (qv 3) ja4 (jam _)) (ja6 (jah (jau jge (jaz (ja0 (jac q_ix (jc0 (ja0 jcp (ja0 jcp (ja0 jcp ja3)))) (ja7 G_law_take (hr.mono (by decide)) rfl D_law_take.m D_law_take.F.kp D_law_take.b .nil jap (ja0 (qv 0) (ja0 ja4 ja3))) (fun _ _=>rfl)) ja3)) (jb3 jkr (qv 2) (jbe ja4) jbg)))) jal) (ja2 (jb1 (jao q_eq (qv 3) ja4 (jam _)) (ja6 (jah (jau jge (jb3 jkr (qv 2) jbg (jbe (jdr jdo ja4))) (jaz (ja0 (qv 4) ja3))))) jal) (ja2 (jb1 (jao q_eq (qv 3) ja4 (jam _)) (ja6 (jah (jau jge (jau jge (jb3 jkr (qv 2) jbg (jbe ja4)) (jaz (ja0 (qv 4) ja3))) (jb3 jkr (qv 2) (jbe ja4) jbg)))) jal) (ja2 (jb1 (jao q_eq (qv 3) ja4 (jam _)) (ja6 (jah (jau jge (jb3 jkr (qv 2) jbg (jbe ja4)) (jsh (jb3 jkr (qv 2) (jbe ja4) jbg))))) jal) (ja2 (jb1 (jao q_eq (qv 3) ja4 (jam _)) (ja6 (jah (jb3 jkr (qv 2) jbg (jbe (jdr jdo ja4))))) jal) (ja6 (jah (jau jge (qv 2) (jaz (ja0 (qv 4) ja3)))))))))))),?_⟩
 have hpos:0 < ps.length:=List.length_pos_iff.mpr ne
 have wkl:=wk.pl
 refine ja8 fun R hR=>?_
 walk_at "RD"
 refine ⟨st,o,6,rfl,e,so,by decide,by decide,fun y o1 y0 y1 so1=>?_⟩
 have b1:=But.at st H o1
 have e1:upd H st o1 st = some o1:=ja1
 have hw1:=jf4 hw b1 e so
 have ht1:=b1.tups e so.imm _ _ rfl ht
 generalize upd H st o1 = H1 at b1 e1 hw1 ht1
 subst hR
 refine ja8 fun R hR=>?_
 obtain ⟨wu,pa,ta,ws,ys,rfl,hu1,hpa,hta,hws,hys⟩:=id hw1
 have hlw:ws.length = ps.length:=Paired.length hws
 simp_arith [jaj,hu1,at0,hpa]
 refine ⟨st,o1,_,rfl,e1,so1,by omega,by omega,fun k o2 k0 k1 so2=>?_⟩
 have b2:=b1.trans (But.at st H1 o2)
 have e2:upd H1 st o2 st = some o2:=ja1
 have npa:pa ≠ st:=je8 e1 so1 hpa hws fun v y z=>let ⟨a,q,_⟩:=z; ⟨a,q⟩
 have hpa2:=But.at st H1 o2 _ _ npa hpa
 have tt2:=(But.at st H1 o2).tups e1 so1.imm
 have hws2:=Prs.tups tt2 hws
 have ht2:=tt2 _ _ rfl ht1
 generalize upd H1 st o2 = H2 at b2 e2 hpa2 hws2 ht2 tt2
 have hk2:ws[k.toNat]? = some (ws[k.toNat]'(by omega)):=List.getElem?_eq_getElem _
 obtain ⟨q,hq,pq⟩:=jaa hws2 hk2
 obtain ⟨tq,etq,hq2⟩:=pq
 have hat:atI ws k = some (.ref tq):=by
  have e9:((k.toNat:Nat):Int) = k:=by omega
  rw [← e9]
  rw [← etq]
  exact jcr hk2
 simp only [hpa2,hat,hq2,at0]
 refine ⟨st,o2,2,rfl,e2,so2,by decide,by decide,fun d o3 d0 d1 so3=>?_⟩
 have b3:=b2.trans (But.at st H2 o3)
 have e3:upd H2 st o3 st = some o3:=ja1
 have ht3:=(But.at st H2 o3).tups e2 so2.imm _ _ rfl ht2
 generalize upd H2 st o3 = H3 at b3 e3 ht3
 clear hpa hta hws hys hu1 hw1 hpa2 hws2 ht2 tt2 ht1 b1 b2 e1 e2 hq2 hat hk2 hq
 have lL:=jju x
 have FIN:∀ (p:Addr) (H':Hp) (x':Lk),Same H3 H'→H' p = some (.tup (lkV x'))→x'.2.length ≤ x.2.length + 2→Q (.ref p) H':=fun p H' x' s' ep hl=>h (.ref p) x' H' o3 (b3.trans (But.same s')) (s' _ _ e3) so3 ⟨p,rfl,ep⟩ hl
 subst hR
 refine ja8 fun R hR=>?_
 walk_at "RD"
 by_cases c0:y = 0
 ·simp only [decide_eq_true c0,if_true]
  intro p1 hp1
  have q4:=ja5 hp1 (.lst [.str wL,.str wB,.str wT])
  have ep1:upd H3 p1 (.lst [.str wL,.str wB,.str wT]) p1 = some (.lst [.str wL,.str wB,.str wT]):=ja1
  have np1:p1 ≠ st:=(jab e3 hp1).symm
  generalize upd H3 p1 (.lst [.str wL,.str wB,.str wT]) = H4 at q4 ep1
  refine ⟨st,o3,3,rfl,q4 _ _ e3,so3,by decide,by decide,fun d3 o4 d30 d31 so4=>?_⟩
  obtain ⟨w,hw3⟩:=word3 d30 d31
  have b5:=(b3.trans (But.same q4)).trans (But.at st H4 o4)
  have e5:upd H4 st o4 st = some o4:=ja1
  have ep5:=But.at st H4 o4 _ _ np1 ep1
  have ht5:=(But.at st H4 o4).tups (q4 _ _ e3) so3.imm _ _ rfl (q4 _ _ ht3)
  generalize upd H4 st o4 = H5 at b5 e5 ep5 ht5
  simp only [jaj,ep5,hw3]
  intro p6 h6
  have q6:=ja5 h6 (.tup [.str w])
  have ep6:upd H5 p6 (.tup [.str w]) p6 = some (.tup [.str w]):=ja1
  generalize upd H5 p6 (.tup [.str w]) = H6 at q6 ep6
  refine ⟨t,_,rfl,q6 _ _ ht5,fun p7 H7 s7 e7=>?_⟩
  obtain ⟨ms,em,lm⟩:=jl9 x 0
  rw [jf0 (by decide),show (1:Int).toNat = 0 + 1 from rfl,em] at e7
  refine ⟨p6,p7,_,_,rfl,rfl,s7 _ _ ep6,e7,by rw [List.length_map,List.length_singleton]; omega,fun p8 H8 s8 e8=>?_⟩
  exact h (.ref p8) (some w,ms) H8 o4 (b5.trans (But.same ((q6.trans s7).trans s8))) (((q6.trans s7).trans s8) _ _ e5) so4 ⟨p8,rfl,e8⟩ (by show ms.length ≤ _; omega)
 simp only [decide_eq_false c0,Bool.false_eq_true,if_false]
 subst hR
 refine ja8 fun R hR=>?_
 walk_at "RD"
 by_cases c1:y = 1
 ·simp only [decide_eq_true c1,if_true]
  refine ⟨t,_,rfl,ht3,fun p1 H4 s4 e4=>?_⟩
  obtain ⟨x',ex,lx'⟩:=joz x ((lkV x).length - 1)
  rw [jk8,ex] at e4
  intro p2 h2
  have q5:=ja5 h2 (.tup [.int (q.1 + d)])
  have e5:upd H4 p2 (.tup [.int (q.1 + d)]) p2 = some (.tup ([q.1 + d].map V.int)):=ja1
  generalize upd H4 p2 (.tup [.int (q.1 + d)]) = H5 at q5 e5
  have:=jju x'
  refine ⟨p1,p2,_,_,rfl,rfl,q5 _ _ e4,e5,by rw [List.length_map,List.length_singleton]; omega,fun p3 H6 s6 e6=>?_⟩
  rw [jjs] at e6
  exact FIN p3 H6 _ ((s4.trans q5).trans s6) e6 (by show (x'.2 ++ [q.1 + d]).length ≤ _; rw [List.length_append,List.length_singleton]; omega)
 simp only [decide_eq_false c1,Bool.false_eq_true,if_false]
 subst hR
 refine ja8 fun R hR=>?_
 walk_at "RD"
 by_cases c2:y = 2
 ·simp only [decide_eq_true c2,if_true]
  refine ⟨t,_,rfl,ht3,fun p1 H4 s4 e4=>?_⟩
  obtain ⟨x',ex,lx'⟩:=jm1 x
  rw [jps (by decide),show (1:Int).toNat = 1 from rfl,ex] at e4
  intro p2 h2
  have q5:=ja5 h2 (.tup [.int (q.1 + d)])
  have e5:upd H4 p2 (.tup [.int (q.1 + d)]) p2 = some (.tup ([q.1 + d].map V.int)):=ja1
  generalize upd H4 p2 (.tup [.int (q.1 + d)]) = H5 at q5 e5
  have:=jju x'
  refine ⟨p1,p2,_,_,rfl,rfl,q5 _ _ e4,e5,by rw [List.length_map,List.length_singleton]; omega,fun p3 H6 s6 e6=>?_⟩
  rw [jjs] at e6
  have s46:=(s4.trans q5).trans s6
  refine ⟨t,_,rfl,s46 _ _ ht3,fun p4 H7 s7 e7=>?_⟩
  obtain ⟨ms,em,lm⟩:=jl9 x 1
  rw [jf0 (by decide),show (2:Int).toNat = 1 + 1 from rfl,em] at e7
  have l9:=jju (x'.1,x'.2 ++ [q.1 + d])
  have l8:(x'.2 ++ [q.1 + d]).length ≤ 2:=by rw [List.length_append,List.length_singleton]; omega
  refine ⟨p3,p4,_,_,rfl,rfl,s7 _ _ e6,e7,by rw [List.length_map]; dsimp only at l9; omega,fun p5 H8 s8 e8=>?_⟩
  rw [jjs] at e8
  exact FIN p5 H8 _ ((s46.trans s7).trans s8) e8 (by show (x'.2 ++ [q.1 + d] ++ ms).length ≤ _; rw [List.length_append]; omega)
 simp only [decide_eq_false c2,Bool.false_eq_true,if_false]
 subst hR
 refine ja8 fun R hR=>?_
 walk_at "RD"
 by_cases c3:y = 3
 ·simp only [decide_eq_true c3,if_true]
  refine ⟨t,_,rfl,ht3,fun p1 H4 s4 e4=>?_⟩
  obtain ⟨x',ex,lx'⟩:=jm1 x
  rw [jps (by decide),show (1:Int).toNat = 1 from rfl,ex] at e4
  simp_arith [fRevT]
  refine ⟨t,_,rfl,s4 _ _ ht3,fun p2 H5 s5 e5=>?_⟩
  obtain ⟨ms,em,lm⟩:=jl9 x 0
  rw [jf0 (by decide),show (1:Int).toNat = 0 + 1 from rfl,em] at e5
  simp only [e5]
  rw [← List.map_reverse]
  intro p3 h3
  have q6:=ja5 h3 (.tup (ms.reverse.map V.int))
  have e6:upd H5 p3 (.tup (ms.reverse.map V.int)) p3 = some (.tup (ms.reverse.map V.int)):=ja1
  generalize upd H5 p3 (.tup (ms.reverse.map V.int)) = H6 at q6 e6
  have:=jju x'
  refine ⟨p1,p3,_,_,rfl,rfl,q6 _ _ (s5 _ _ e4),e6,by rw [List.length_map,List.length_reverse]; omega,fun p5 H8 s8 e8=>?_⟩
  rw [jjs] at e8
  exact FIN p5 H8 _ (((s4.trans s5).trans q6).trans s8) e8 (by show (x'.2 ++ ms.reverse).length ≤ _; rw [List.length_append,List.length_reverse]; omega)
 simp only [decide_eq_false c3,Bool.false_eq_true,if_false]
 subst hR
 refine ja8 fun R hR=>?_
 walk_at "RD"
 by_cases c4:y = 4
 ·simp only [decide_eq_true c4,if_true]
  refine ⟨t,_,rfl,ht3,fun p1 H4 s4 e4=>?_⟩
  obtain ⟨x',ex,lx'⟩:=joz x ((lkV x).length - 1)
  rw [jk8,ex] at e4
  exact FIN p1 H4 x' s4 e4 (by omega)
 simp only [decide_eq_false c4,Bool.false_eq_true,if_false]
 subst hR
 walk_at "RD"
 intro p2 h2
 have q5:=ja5 h2 (.tup [.int (q.1 + d)])
 have e5:upd H3 p2 (.tup [.int (q.1 + d)]) p2 = some (.tup ([q.1 + d].map V.int)):=ja1
 generalize upd H3 p2 (.tup [.int (q.1 + d)]) = H5 at q5 e5
 refine ⟨t,p2,_,_,rfl,rfl,q5 _ _ ht3,e5,by rw [List.length_map,List.length_singleton]; omega,fun p3 H6 s6 e6=>?_⟩
 rw [jjs] at e6
 exact FIN p3 H6 _ (q5.trans s6) e6 (by show (x.2 ++ [q.1 + d]).length ≤ _; rw [List.length_append,List.length_singleton]; omega)
end
end My
namespace My
open PySem L2
section
variable {P:Program} {w:World} {K:PySem.W.Frag} {mg:Str→Option Value} {base:Heap} {c1 c2 c3 c4:Tok} {C_NoWeb f_NoWeb:Addr} {dI:FuncData}
theorem ji3 {α:Type} {F:α→Prop} {rs:List α} {r:α} {k:Nat} (h:∀ x ∈ rs,F x) (hr:F r):∀ x ∈ rs.set k r,F x:=fun x hx=>by
 rcases List.mem_or_eq_of_mem_set hx with q | q
 ·exact h x q
 ·rw [q]; exact hr
theorem jcu {α β:Type} {F:α→β→Prop}:∀ {xs:List α} {ys:List β} {x:α} {y:β} (i:Nat),Paired F xs ys→F x y→Paired F (xs.set i x) (ys.set i y)
 | _,_,_,_,_,.nil,_=>.nil
 | _,_,_,_,0,.cons _ t,h=>.cons h t
 | _,_,_,_,i + 1,.cons a t,h=>.cons a (jcu i t h)
theorem jhp {α β:Type} {F:α→β→Prop}:∀ {xs:List α} {ys:List β} (i:Nat),Paired F xs ys→Paired F (xs.eraseIdx i) (ys.eraseIdx i)
 | _,_,_,.nil=>.nil
 | _,_,0,.cons _ t=>t
 | _,_,i + 1,.cons a t=>.cons a (jhp i t)
theorem at_lk {H:Hp} {xs:List V} {c:List Lk} (p:Lks H xs c) {k:Int} (h0:0 ≤ k) (h1:k < c.length):∃ t x,atI xs k = some (.ref t)∧H t = some (.tup (lkV x))∧x ∈ c∧ixN xs.length k = some k.toNat∧xs[k.toNat]? = some (.ref t):=by
 have hl:xs.length = c.length:=Paired.length p
 have hk:k.toNat < c.length:=by omega
 obtain ⟨v,hv,t,rfl,ht⟩:=jc6 p (List.getElem?_eq_getElem hk)
 have hx:=jk0 (n:=xs.length) h0 (by omega)
 refine ⟨t,_,?_,ht,List.getElem_mem hk,hx,hv⟩
 unfold atI
 rw [hx]
 exact hv
theorem jt3 {H:Hp} {xs:List V} {c:List (Int × Int)} (p:Prs H xs c) {k:Int} (h0:0 ≤ k) (h1:k < c.length):∃ t x,atI xs k = some (.ref t)∧H t = some (.tup [.int x.1,.int x.2])∧c[k.toNat]? = some x∧ixN xs.length k = some k.toNat:=by
 have hl:xs.length = c.length:=Paired.length p
 have hk:k.toNat < c.length:=by omega
 obtain ⟨v,hv,t,rfl,ht⟩:=jc6 p (List.getElem?_eq_getElem hk)
 have hx:=jk0 (n:=xs.length) h0 (by omega)
 refine ⟨t,_,?_,ht,List.getElem?_eq_getElem hk,hx⟩
 unfold atI
 rw [hx]
 exact hv
def jnx:Sp:=fun vs H Q _=>∃ st v ch ps ts o xs c n,vs = [.ref st,v,.ref ch]∧H st = some o∧StO o∧jc4 H v ps ts∧WebOk ps ts∧ps ≠ []∧H ch = some (.lst xs)∧Lks H xs c∧c ≠ []∧c.length ≤ 40∧(∀ x ∈ c,x.2.length ≤ n)∧n ≤ 20 ∧
 ∀ r xs' c' H' o',But st H H'→H' st = some o'→StO o'→H r = none→H' r = some (.lst xs')→Lks H' xs' c'→c'.length ≤ c.length + 1→(∀ x ∈ c',x.2.length ≤ n + 2)→Q (.ref r) H'
def spEx:Sp:=fun vs H Q _=>∃ (st l:Addr) (o:HO) (xs:List V) (qs:List (Int × Int)),vs = [.ref st,.ref l]∧H st = some o∧StO o∧H l = some (.lst xs)∧Prs H xs qs∧qs ≠ []∧qs.length ≤ 81 ∧
 ∀ (H':Hp) (o':HO) (xs':List V) (qs':List (Int × Int)),But2 st l H H'→H' st = some o'→StO o'→H' l = some (.lst xs')→Prs H' xs' qs'→qs'.length = qs.length→Q (.ref l) H'
theorem jkz {f:Addr} {fd:FuncData} {f_law_take:Addr} {d_law_take:FuncData} {f_law_tuple:Addr} {d_law_tuple:FuncData} (B:Blt mg) (D:DefAt K mg "_law_bent" (top 45) ["_law_state","_law_web","_law_chain_here"] f fd) (D_law_take:DefAt K mg "_law_take" (top 39) ["_law_state","_law_many"] f_law_take d_law_take) (G_law_take:FnOk P w K mg base CX0 1 f_law_take d_law_take ["_law_state","_law_many"] jfk) (D_law_tuple:DefAt K mg "_law_tuple" (top 44) ["_law_state","_law_web","_law_one"] f_law_tuple d_law_tuple) (G_law_tuple:FnOk P w K mg base CX0 2 f_law_tuple d_law_tuple ["_law_state","_law_web","_law_one"] jng):FnOk P w K mg base CX0 3 f fd ["_law_state","_law_web","_law_chain_here"] jnx:=by
 have sc:FnScope ["_law_state","_law_web","_law_chain_here","_law_some","_law_at","_law_way","_law_other","_law_one"] ["_law_state","_law_web","_law_chain_here"] (jaf (top 45)):=⟨rfl,rfl,rfl,by decide +kernel,rfl,by decide +kernel,by decide +kernel⟩
 refine D.F.ok sc (fun vs H Q E h=>?_) (fun cdv A outer s H vs Q E hr h=>?_)
 ·obtain ⟨st,v,ch,ps,ts,o,xs,c,n,rfl,_⟩:=h
  rfl
 obtain ⟨st,v,ch,ps,ts,o,xs,c,n,rfl,e,so,hw,wk,ne,ec,pc,nc,lc,l8,ln,h⟩:=h
 have hu:=jbh hr
 have hu0:_ < PySem.cLine:=Nat.lt_of_succ_lt hu
 refine ⟨_,(ja2 (jak (i:=3) sc.nd rfl (Or.inl rfl) (jb5 jcm rfl B.list PyProof.Rows.boot_list (ja0 (qv 2) ja3))) (ja2 (jak (i:=4) sc.nd rfl (Or.inl rfl) (ja7 G_law_take (hr.mono (by decide)) rfl D_law_take.m D_law_take.F.kp D_law_take.b .nil jap (ja0 (qv 0) (ja0 (jad jcj rfl B.len PySem.boot_len (ja0 (qv 3) ja3)) ja3)))) (ja2 (jak (i:=5) sc.nd rfl (Or.inl rfl) (ja7 G_law_take (hr.mono (by decide)) rfl D_law_take.m D_law_take.F.kp D_law_take.b .nil jap (ja0 (qv 0) (ja0 ja4 ja3)))) (ja2 (jb1 (jao q_eq (qv 5) ja4 (jam _)) (ja6 (jce (q_bm PySem.F.plainAttrs_list PySem.F.slot_list_pop PySem.F.type_list_pop q_popI (qv 3) (ja0 (qv 4) ja3)))) (ja6 (jb1 (jao q_eq (qv 5) ja4 (jam _)) (ja6 (jce (q_bm PySem.F.plainAttrs_list PySem.F.slot_list_insert PySem.F.type_list_insert q_insS (qv 3) (ja0 (ja7 G_law_take (hr.mono (by decide)) rfl D_law_take.m D_law_take.F.kp D_law_take.b .nil jap (ja0 (qv 0) (ja0 (jau jc8 (jad jcj rfl B.len PySem.boot_len (ja0 (qv 3) ja3)) ja4) ja3))) (ja0 (jac q_ix (qv 3) (qv 4) (fun _ _=>rfl)) ja3))))) (ja6 (jb1 (jao q_eq (qv 5) ja4 (jam _)) (ja2 (jak (i:=6) sc.nd rfl (Or.inl rfl) (ja7 G_law_take (hr.mono (by decide)) rfl D_law_take.m D_law_take.F.kp D_law_take.b .nil jap (ja0 (qv 0) (ja0 (jad jcj rfl B.len PySem.boot_len (ja0 (qv 3) ja3)) ja3)))) (ja2 (jak (i:=7) sc.nd rfl (Or.inl rfl) (jac q_ix (qv 3) (qv 4) (fun _ _=>rfl))) (ja2 (jd3 (jac q_ix (qv 3) (qv 6) (fun _ _=>rfl)) (jd8 (qv 3) (qv 4) jd7)) (ja6 (jd3 (qv 7) (jd8 (qv 3) (qv 6) jd7)))))) (ja6 (jd3 (ja7 G_law_tuple (hr.mono (by decide)) rfl D_law_tuple.m D_law_tuple.F.kp D_law_tuple.b .nil jap (ja0 (qv 0) (ja0 (qv 1) (ja0 (jac q_ix (qv 3) (qv 4) (fun _ _=>rfl)) ja3)))) (jd8 (qv 3) (qv 4) jd7)))))))) (ja6 (jah (qv 3))))))),?_⟩
 have hpos:0 < c.length:=List.length_pos_iff.mpr nc
 have hlx:xs.length = c.length:=Paired.length pc
 refine ja8 fun R hR=>?_
 simp_arith [jaj,ec]
 intro r hr
 have q1:=ja5 hr (.lst xs)
 have er1:upd H r (.lst xs) r = some (.lst xs):=ja1
 generalize upd H r (.lst xs) = H1 at q1 er1
 have e1:=q1 _ _ e
 have nrs:r ≠ st:=(jab e hr).symm
 have pc1:=Lks.tups pc q1.tups
 have hw1:=hw.same q1
 subst hR
 refine ja8 fun R hR=>?_
 simp_arith [jaj,er1]
 refine ⟨st,o,_,rfl,e1,so,by omega,by omega,fun k o2 k0 k1 so2=>?_⟩
 have b2:=But.at st H1 o2
 have e2:upd H1 st o2 st = some o2:=ja1
 have er2:=b2 _ _ nrs er1
 have pc2:=Lks.tups pc1 (b2.tups e1 so.imm)
 have hw2:=jf4 hw1 b2 e1 so
 generalize upd H1 st o2 = H2 at b2 e2 er2 pc2 hw2
 subst hR
 refine ja8 fun R hR=>?_
 walk_at "RD"
 refine ⟨st,o2,7,rfl,e2,so2,by decide,by decide,fun y o3 y0 y1 so3=>?_⟩
 have b3:=b2.trans (But.at st H2 o3)
 have e3:upd H2 st o3 st = some o3:=ja1
 have er3:=But.at st H2 o3 _ _ nrs er2
 have pc3:=Lks.tups pc2 ((But.at st H2 o3).tups e2 so2.imm)
 have hw3:=jf4 hw2 (But.at st H2 o3) e2 so2
 generalize upd H2 st o3 = H3 at b3 e3 er3 pc3 hw3
 obtain ⟨t1,x1,g1,g2,g3,g4,g5⟩:=at_lk pc3 k0 (by omega)
 have b13:But st H H3:=fun b u nb q=>b3 _ _ nb (q1 _ _ q)
 subst hR
 refine ja8 fun R hR=>?_
 have FR:∀ (H':Hp) (o':HO) (ys:List V) (c':List Lk) (v6 v7:Option V),But2 st r H3 H'→H' st = some o'→StO o'→H' r = some (.lst ys)→Lks H' ys c'→c'.length ≤ c.length + 1→(∀ x ∈ c',x.2.length ≤ n + 2)→R { nx:=fun x H'=>Q V.non H',rt:=Q } [some (.ref st),some v,some (.ref ch),some (.ref r),some (.int k),some (.int y),v6,v7] H':=by
  intro H' o' ys c' v6 v7 bX eX sX yX pX lX dX
  subst hR
  walk_at "RD"
  exact h r ys c' H' o' (fun b u nb q=>bX _ _ nb (fun z=>by rw [z,hr] at q; cases q) (b13 _ _ nb q)) eX sX hr yX pX lX dX
 clear hR
 simp_arith [jaj,er3,g1]
 have l8':∀ x ∈ c,x.2.length ≤ n + 2:=fun x hx=>by have:=l8 x hx; omega
 by_cases c0:y = 0
 ·simp only [decide_eq_true c0,if_true]
  refine ⟨⟨r,xs,rfl,er3⟩,r,xs,k,k.toNat,.ref t1,rfl,rfl,er3,by omega,by omega,(jlb g4).1,g5,?_⟩
  exact FR _ o3 _ (c.eraseIdx k.toNat) none none (But2.at st r H3 _) (by rw [jae nrs.symm]; exact e3) so3 ja1 (jhp _ (Lks.tups pc3 (jb2 (ys:=xs.eraseIdx k.toNat) er3))) (by have:=List.length_eraseIdx_le c k.toNat; omega) (fun d hd=>l8' d (List.mem_of_mem_eraseIdx hd))
 simp only [decide_eq_false c0,Bool.false_eq_true,if_false]
 by_cases c1:y = 1
 ·simp only [decide_eq_true c1,if_true]
  refine ⟨⟨r,xs,rfl,er3⟩,st,o3,_,rfl,e3,so3,by omega,by omega,fun d o4 d0 d1 so4=>?_⟩
  have b4:=But.at st H3 o4
  have e4:upd H3 st o4 st = some o4:=ja1
  have er4:=b4 _ _ nrs er3
  have t4:=b4.tups e3 so3.imm
  have pc4:=Lks.tups pc3 t4
  have g24:=t4 _ _ rfl g2
  generalize upd H3 st o4 = H4 at b4 e4 er4 pc4 g24
  simp only [er4,g1,jsy]
  refine ⟨⟨d0,by omega,by omega⟩,?_⟩
  have tF:=jb2 (ys:=xs.take d.toNat ++ .ref t1 :: xs.drop d.toNat) er4
  have pF:=Lks.tups pc4 tF
  refine FR _ o4 _ (c.take d.toNat ++ (x1 :: c.drop d.toNat)) none none ((But.two b4).trans (But2.at st r H4 _)) (by rw [jae nrs.symm]; exact e4) so4 ja1 (jhq (jeb _ pF) (.cons ⟨t1,rfl,tF _ _ rfl g24⟩ (jec _ pF))) (by rw [List.length_append,List.length_cons,List.length_take,List.length_drop]; omega) (fun z hz=>?_)
  rcases List.mem_append.mp hz with q | q
  ·exact l8' z (List.mem_of_mem_take q)
  ·rcases List.mem_cons.mp q with q | q
   ·rw [q]; exact l8' _ g3
   ·exact l8' z (List.mem_of_mem_drop q)
 simp only [decide_eq_false c1,Bool.false_eq_true,if_false]
 by_cases c2:y = 2
 ·simp only [decide_eq_true c2,if_true]
  refine ⟨st,o3,_,rfl,e3,so3,by omega,by omega,fun d o4 d0 d1 so4=>?_⟩
  have b4:=But.at st H3 o4
  have e4:upd H3 st o4 st = some o4:=ja1
  have er4:=b4 _ _ nrs er3
  have t4:=b4.tups e3 so3.imm
  have pc4:=Lks.tups pc3 t4
  have g24:=t4 _ _ rfl g2
  generalize upd H3 st o4 = H4 at b4 e4 er4 pc4 g24
  obtain ⟨t2,x2,f1,f2,f3,f4,f5⟩:=at_lk pc4 d0 (by omega)
  simp only [er4,g1,f1,g4,ja1,List.length_set,f4]
  have t9:=jb2 (ys:=xs.set k.toNat (.ref t2)) er4
  have eA:upd H4 r (.lst (xs.set k.toNat (.ref t2))) r = some (.lst (xs.set k.toNat (.ref t2))):=ja1
  have eAs:upd H4 r (.lst (xs.set k.toNat (.ref t2))) st = some o4:=by rw [jae nrs.symm]; exact e4
  have bA:=(But.two (l:=r) b4).trans (But2.at st r H4 (.lst (xs.set k.toNat (.ref t2))))
  generalize upd H4 r (.lst (xs.set k.toNat (.ref t2))) = HA at t9 eA eAs bA
  have tF:=jb2 (ys:=(xs.set k.toNat (.ref t2)).set d.toNat (.ref t1)) eA
  have tt:=t9.trans tF
  exact FR _ o4 _ ((c.set k.toNat x2).set d.toNat x1) (some (.int d)) (some (.ref t1)) (bA.trans (But2.at st r HA _)) (by rw [jae nrs.symm]; exact eAs) so4 ja1 (jcu _ (jcu _ (Lks.tups pc4 tt) ⟨t2,rfl,tt _ _ rfl f2⟩) ⟨t1,rfl,tt _ _ rfl g24⟩) (by rw [List.length_set,List.length_set]; omega) (ji3 (ji3 l8' (l8' _ f3)) (l8' _ g3))
 simp only [decide_eq_false c2,Bool.false_eq_true,if_false]
 refine ⟨st,v,.ref t1,ps,ts,o3,x1,rfl,e3,so3,hw3,wk,ne,⟨t1,rfl,g2⟩,by have:=l8 _ g3; omega,fun y' x' H4 o4 b4 e4 so4 ly ll=>?_⟩
 have er4:=b4 _ _ nrs er3
 have pc4:=Lks.tups pc3 (b4.tups e3 so3.imm)
 simp only [er4,g4]
 have tF:=jb2 (ys:=xs.set k.toNat y') er4
 exact FR _ o4 _ (c.set k.toNat x') none none ((But.two b4).trans (But2.at st r H4 _)) (by rw [jae nrs.symm]; exact e4) so4 ja1 (jcu _ (Lks.tups pc4 tF) (ly.tups tF)) (by rw [List.length_set]; omega) (ji3 l8' (by have:=l8 _ g3; omega))
theorem jfp {f:Addr} {fd:FuncData} {f_law_take:Addr} {d_law_take:FuncData} (B:Blt mg) (D:DefAt K mg "_law_exchanged" (top 52) ["_law_state","_law_some"] f fd) (D_law_take:DefAt K mg "_law_take" (top 39) ["_law_state","_law_many"] f_law_take d_law_take) (G_law_take:FnOk P w K mg base CX0 1 f_law_take d_law_take ["_law_state","_law_many"] jfk):FnOk P w K mg base CX0 2 f fd ["_law_state","_law_some"] spEx:=by
 have sc:FnScope ["_law_state","_law_some","_law_at","_law_other","_law_h"] ["_law_state","_law_some"] (jaf (top 52)):=⟨rfl,rfl,rfl,by decide +kernel,rfl,by decide +kernel,by decide +kernel⟩
 refine D.F.ok sc (fun vs H Q E h=>?_) (fun cdv A outer s H vs Q E hr h=>?_)
 ·obtain ⟨st,l,o,xs,qs,rfl,_⟩:=h
  rfl
 obtain ⟨st,l,o,xs,qs,rfl,e,so,el,pr,ne,hlen,h⟩:=h
 have hu:=jbh hr
 have hu0:_ < PySem.cLine:=Nat.lt_of_succ_lt hu
 refine ⟨_,(ja2 (jak (i:=2) sc.nd rfl (Or.inl rfl) (ja7 G_law_take (hr.mono (by decide)) rfl D_law_take.m D_law_take.F.kp D_law_take.b .nil jap (ja0 (qv 0) (ja0 (jad jcj rfl B.len PySem.boot_len (ja0 (qv 1) ja3)) ja3)))) (ja2 (jak (i:=3) sc.nd rfl (Or.inl rfl) (ja7 G_law_take (hr.mono (by decide)) rfl D_law_take.m D_law_take.F.kp D_law_take.b .nil jap (ja0 (qv 0) (ja0 (jad jcj rfl B.len PySem.boot_len (ja0 (qv 1) ja3)) ja3)))) (ja2 (jak (i:=4) sc.nd rfl (Or.inl rfl) (jac q_ix (jac q_ix (qv 1) (qv 2) (fun _ _=>rfl)) ja4 (fun _ _=>rfl))) (ja2 (jd3 (jaz (ja0 (jac q_ix (jac q_ix (qv 1) (qv 2) (fun _ _=>rfl)) ja4 (fun _ _=>rfl)) (ja0 (jac q_ix (jac q_ix (qv 1) (qv 3) (fun _ _=>rfl)) ja4 (fun _ _=>rfl)) ja3))) (jd8 (qv 1) (qv 2) jd7)) (ja2 (jd3 (jaz (ja0 (jac q_ix (jac q_ix (qv 1) (qv 3) (fun _ _=>rfl)) ja4 (fun _ _=>rfl)) (ja0 (qv 4) ja3))) (jd8 (qv 1) (qv 3) jd7)) (ja6 (jah (qv 1)))))))),?_⟩
 have hlx:xs.length = qs.length:=Paired.length pr
 have hpos:0 < qs.length:=List.length_pos_iff.mpr ne
 refine ja8 fun R hR=>?_
 have nl:l ≠ st:=je8 e so el pr fun v y z=>let ⟨a,q,_⟩:=z; ⟨a,q⟩
 simp_arith [jaj,el]
 refine ⟨st,o,_,rfl,e,so,by omega,by omega,fun k o1 k0 k1 so1=>?_⟩
 have b1:=But.at st H o1
 have e1:upd H st o1 st = some o1:=ja1
 have el1:=b1 _ _ nl el
 generalize upd H st o1 = H1 at b1 e1 el1
 subst hR
 refine ja8 fun R hR=>?_
 simp_arith [jaj,el1]
 refine ⟨st,o1,_,rfl,e1,so1,by omega,by omega,fun m o2 m0 m1 so2=>?_⟩
 have b2:=b1.trans (But.at st H1 o2)
 have e2:upd H1 st o2 st = some o2:=ja1
 have el2:=But.at st H1 o2 _ _ nl el1
 have pr2:=Prs.tups (b2.tups e so.imm) pr
 generalize upd H1 st o2 = H2 at b2 e2 el2 pr2
 obtain ⟨t1,x1,g1,g2,g3,g4⟩:=jt3 pr2 k0 (by omega)
 obtain ⟨t2,x2,f1,f2,f3,f4⟩:=jt3 pr2 m0 (by omega)
 subst hR
 refine ja8 fun R hR=>?_
 simp_arith [jaj,el2,g1,g2,at1]
 subst hR
 refine ja8 fun R hR=>?_
 simp_arith [jaj,el2,g1,g2,f1,f2,at0,at1,g4]
 intro p1 hp1
 have q3:=ja5 hp1 (.tup [.int x1.1,.int x2.2])
 have ep1:upd H2 p1 (.tup [.int x1.1,.int x2.2]) p1 = some (.tup [.int x1.1,.int x2.2]):=ja1
 generalize upd H2 p1 (.tup [.int x1.1,.int x2.2]) = H3 at q3 ep1
 have el3:=q3 _ _ el2
 simp only [el3,g4]
 have t4:=jb2 (ys:=xs.set k.toNat (.ref p1)) el3
 have pr4:=Prs.tups t4 (jcu k.toNat (Prs.same q3 pr2) (y:=((x1.1,x2.2):Int × Int)) ⟨p1,rfl,ep1⟩)
 have el4:upd H3 l (.lst (xs.set k.toNat (.ref p1))) l = some (.lst (xs.set k.toNat (.ref p1))):=ja1
 have e4:upd H3 l (.lst (xs.set k.toNat (.ref p1))) st = some o2:=by rw [jae nl.symm]; exact q3 _ _ e2
 have b4:=((But.two (l:=l) b2).trans (But.two (But.same q3))).trans (But2.at st l H3 (.lst (xs.set k.toNat (.ref p1))))
 generalize upd H3 l (.lst (xs.set k.toNat (.ref p1))) = H4 at t4 pr4 el4 e4 b4
 have lq4:(qs.set k.toNat (x1.1,x2.2)).length = qs.length:=List.length_set
 generalize hx4:xs.set k.toNat (.ref p1) = xs4 at pr4 el4
 generalize qs.set k.toNat (x1.1,x2.2) = qs4 at pr4 lq4
 obtain ⟨t5,x5,i1,i2,i3,i4⟩:=jt3 pr4 m0 (by omega)
 subst hR
 refine ja8 fun R hR=>?_
 simp_arith [jaj,el4,i1,i2,at0]
 intro p2 hp2
 have q5:=ja5 hp2 (.tup [.int x5.1,.int x1.2])
 have ep2:upd H4 p2 (.tup [.int x5.1,.int x1.2]) p2 = some (.tup [.int x5.1,.int x1.2]):=ja1
 generalize upd H4 p2 (.tup [.int x5.1,.int x1.2]) = H5 at q5 ep2
 have el5:=q5 _ _ el4
 simp only [el5,i4]
 have t6:=jb2 (ys:=xs4.set m.toNat (.ref p2)) el5
 subst hR
 walk_at "RD"
 exact h _ o2 _ (qs4.set m.toNat (x5.1,x1.2)) ((b4.trans (But.two (But.same q5))).trans (But2.at st l H5 _)) (by rw [jae nl.symm]; exact q5 _ _ e4) so2 ja1 (Prs.tups t6 (jcu m.toNat (Prs.same q5 pr4) (y:=((x5.1,x1.2):Int × Int)) ⟨p2,rfl,ep2⟩)) (by rw [List.length_set]; exact lq4)
end
end My
namespace My
open PySem L2
section
variable {P:Program} {w:World} {K:PySem.W.Frag} {mg:Str→Option Value} {base:Heap} {c1 c2 c3 c4:Tok} {C_NoWeb f_NoWeb:Addr} {dI:FuncData}
theorem jsi (qs:List (Int × Int)) (ds:List (Int × Int × Int)):depP (papD (qs.map jb9) (ds.map tripD)) ≤ 20:=by
 have h1:=jbx qs
 have h2:∀ l:List (Int × Int × Int),jb8 (l.map tripD) ≤ 1:=fun l=>by
  induction l with
  | nil=>rw [List.map_nil,jb8]; omega
  | cons p r ih =>
   rw [List.map_cons,jb8]
   have e:depP (tripD p) = 1:=rfl
   omega
 have h3:=h2 ds
 unfold papD
 simp only [depP,jb8]
 omega
theorem jib {ps ts qs:List (Int × Int)} {ds:List (Int × Int × Int)} (h:jc1 ps ts (papD (qs.map jb9) (ds.map tripD)) = true):∀ d ∈ ds,(d.1,d.2.1) ∈ ts:=by
 have hd:jh8 ps ts (.lst (ds.map tripD)) = true:=by
  cases e:jh8 ps ts (.lst (ds.map tripD)) with
  | true=>rfl
  | false =>
   unfold papD at h
   rw [jda,joh e] at h
   cases h
 obtain ⟨as,e1,e2,_⟩:=jfh hd
 have h3:=(jdd e2).2
 injection e1 with e1
 intro d hd
 have:tripD d ∈ as.map tripD:=by rw [← e1]; exact List.mem_map_of_mem hd
 obtain ⟨d',hd',e⟩:=List.mem_map.mp this
 unfold tripD at e
 injection e with e
 injection e with x1 e
 injection e with x2 e
 injection x1 with x1
 injection x2 with x2
 rw [← x1,← x2]
 exact (h3 d' hd').1
structure Kq (v:V) (ps ts:List (Int × Int)) (hl:Addr) (hx:List V) (qs:List (Int × Int)) (da:Addr) (dx:List V) (ds:List (Int × Int × Int)) (ch:Addr) (xs:List V) (c:List Lk) (st:Addr) (H:Hp) (o:HO):Prop where
 e:H st = some o
 so:StO o
 web:jc4 H v ps ts
 eh:H hl = some (.lst hx)
 ph:Prs H hx qs
 ed:H da = some (.lst dx)
 pd:Tps H dx ds
 ec:H ch = some (.lst xs)
 pc:Lks H xs c
section
variable {v:V} {ps ts:List (Int × Int)} {hl:Addr} {hx:List V} {qs:List (Int × Int)} {da:Addr} {dx:List V} {ds:List (Int × Int × Int)} {ch:Addr} {xs:List V} {c:List Lk} {st:Addr} {H H':Hp} {o o':HO}
theorem Kq.same (h:Kq v ps ts hl hx qs da dx ds ch xs c st H o) (s:Same H H'):Kq v ps ts hl hx qs da dx ds ch xs c st H' o :=
 ⟨s _ _ h.e,h.so,h.web.same s,s _ _ h.eh,Prs.same s h.ph,s _ _ h.ed,jbk s.tups h.pd,s _ _ h.ec,Lks.tups h.pc s.tups⟩
theorem Kq.but (h:Kq v ps ts hl hx qs da dx ds ch xs c st H o) (b:But st H H') (e':H' st = some o') (so':StO o'):Kq v ps ts hl hx qs da dx ds ch xs c st H' o':=by
 have t:=b.tups h.e h.so.imm
 exact ⟨e',so',jf4 h.web b h.e h.so,b _ _ (je8 h.e h.so h.eh h.ph fun v y z=>let ⟨a,q,_⟩:=z; ⟨a,q⟩) h.eh,Prs.tups t h.ph,b _ _ (je8 h.e h.so h.ed h.pd fun v y z=>let ⟨a,q,_⟩:=z; ⟨a,q⟩) h.ed,jbk t h.pd,b _ _ (je8 h.e h.so h.ec h.pc fun v y z=>let ⟨a,q,_⟩:=z; ⟨a,q⟩) h.ec,Lks.tups h.pc t⟩
theorem Kq.two {r:Addr} (h:Kq v ps ts hl hx qs da dx ds ch xs c st H o) (hc:H r = none) {H1:Hp} (s:Same H H1) (b:But2 st r H1 H') (e':H' st = some o') (so':StO o'):Kq v ps ts hl hx qs da dx ds ch xs c st H' o' :=
 h.but (fun d u n q=>b d u n (fun z=>by rw [z,hc] at q; cases q) (s _ _ q)) e' so'
end
def PpAt (H:Hp) (v:V) (qs:List (Int × Int)) (ds:List (Int × Int × Int)):Prop:=∃ tp a b,v = .ref tp∧H tp = some (.tup [.ref a,.ref b])∧(∃ hx,H a = some (.lst hx)∧Prs H hx qs)∧∃ dx,H b = some (.lst dx)∧Tps H dx ds
theorem PpAt.same {H H':Hp} {v:V} {qs:List (Int × Int)} {ds:List (Int × Int × Int)} (h:PpAt H v qs ds) (s:Same H H'):PpAt H' v qs ds:=by
 obtain ⟨tp,a,b,e,h1,⟨hx,h2,h3⟩,dx,h4,h5⟩:=h
 exact ⟨tp,a,b,e,s _ _ h1,⟨hx,s _ _ h2,Prs.same s h3⟩,dx,s _ _ h4,jbk s.tups h5⟩
theorem rows3 {H:Hp}:∀ {xs:List V} {rs:List (List Int)},jdg H xs rs→(∀ r ∈ rs,r.length = 3)→∃ ds:List (Int × Int × Int),Tps H xs ds∧ds.length = rs.length
 | _,_,.nil,_=>⟨[],.nil,rfl⟩
 | _,_,.cons (b:=r) a t,h=>by
  obtain ⟨ds,h1,h2⟩:=rows3 t fun r hr=>h r (.tail _ hr)
  have h3:=h r (.head _)
  obtain ⟨u,e,q⟩:=a
  match r,h3,q with
  | [x,y,z],_,q=>exact ⟨(x,y,z) :: ds,.cons ⟨u,e,q⟩ h1,by rw [List.length_cons,List.length_cons,h2]⟩
theorem Tps.irows {H:Hp}:∀ {xs:List V} {ps:List (Int × Int × Int)},Tps H xs ps→jdg H xs (ps.map fun p=>[p.1,p.2.1,p.2.2])
 | _,_,.nil=>.nil
 | _,_,.cons a t=>.cons (let ⟨u,e,q⟩:=a; ⟨u,e,q⟩) (Tps.irows t)
def jni:Sp:=fun vs H Q _=>∃ st v hl da ch ps ts hx qs dx ds xs c o,vs = [.ref st,v,.ref hl,.ref da,.ref ch]∧Kq v ps ts hl hx qs da dx ds ch xs c st H o∧WebOk ps ts∧jc1 ps ts (papD (qs.map jb9) (ds.map tripD)) = true∧qs.length ≤ 81∧ds.length ≤ 81∧(∀ r ∈ ds.map (fun p=>[p.1,p.2.1,p.2.2]),RwB 2000000000000 r∧r.length = 3)∧(∀ x ∈ c,GLk x)∧c.length ≤ 14∧∀ H' o',But st H H'→H' st = some o'→StO o'→Q (.bl true) H'
theorem jed {f:Addr} {fd:FuncData} {f_law_shifted:Addr} {d_law_shifted:FuncData} {f_law_exchanged:Addr} {d_law_exchanged:FuncData} {f_law_is_paper:Addr} {d_law_is_paper:FuncData} {f_law_lets:Addr} {d_law_lets:FuncData} {f_lets_fixed:Addr} {d_lets_fixed:FuncData} {f_law_own:Addr} {d_law_own:FuncData} (B:Blt mg) (D:DefAt K mg "_law_papers_right" (top 53) ["_law_state","_law_web","_law_halves","_law_dues","_law_chain_here"] f fd) (D_law_shifted:DefAt K mg "_law_shifted" (top 51) ["_law_state","_law_some"] f_law_shifted d_law_shifted) (G_law_shifted:FnOk P w K mg base CX0 2 f_law_shifted d_law_shifted ["_law_state","_law_some"] jnh) (D_law_exchanged:DefAt K mg "_law_exchanged" (top 52) ["_law_state","_law_some"] f_law_exchanged d_law_exchanged) (G_law_exchanged:FnOk P w K mg base CX0 2 f_law_exchanged d_law_exchanged ["_law_state","_law_some"] spEx) (D_law_is_paper:DefAt K mg "_law_is_paper" (top 50) ["_law_web","_law_thing"] f_law_is_paper d_law_is_paper) (G_law_is_paper:FnOk P w K mg base CX0 3 f_law_is_paper d_law_is_paper ["_law_web","_law_thing"] jlr) (D_law_lets:DefAt K mg "_law_lets" (top 46) ["_law_web","_law_dues","_law_chain_here"] f_law_lets d_law_lets) (G_law_lets:FnOk P w K mg base CX0 2 f_law_lets d_law_lets ["_law_web","_law_dues","_law_chain_here"] jnq) (D_lets_fixed:DefAt K mg "lets_fixed" (top 35) ["web","thing"] f_lets_fixed d_lets_fixed) (G_lets_fixed:FnOk P w K mg base CX0 6 f_lets_fixed d_lets_fixed ["web","thing"] jkp) (D_law_own:DefAt K mg "_law_own" (top 37) ["_law_web"] f_law_own d_law_own) (G_law_own:FnOk P w K mg base CX0 1 f_law_own d_law_own ["_law_web"] jnv):FnOk P w K mg base CX0 7 f fd ["_law_state","_law_web","_law_halves","_law_dues","_law_chain_here"] jni:=by
 have sc:FnScope ["_law_state","_law_web","_law_halves","_law_dues","_law_chain_here","_law_turn","_law_paper","_law_due","_law_found","_law_tied","_law_place","_law_tie","_law_other","_law_more"] ["_law_state","_law_web","_law_halves","_law_dues","_law_chain_here"] (jaf (top 53)):=⟨rfl,rfl,rfl,by decide +kernel,rfl,by decide +kernel,by decide +kernel⟩
 refine D.F.ok sc (fun vs H Q E h=>?_) (fun cdv A outer s H vs Q E hr h=>?_)
 ·obtain ⟨st,v,hl,da,ch,ps,ts,hx,qs,dx,ds,xs,c,o,rfl,_⟩:=h
  rfl
 obtain ⟨st,v,hl,da,ch,ps,ts,hx,qs,dx,ds,xs,c,o,rfl,k0,wk,pap,lq,ld,bd,gl,lc,h⟩:=h
 have hu:=jbh hr
 have hu0:_ < PySem.cLine:=Nat.lt_of_succ_lt hu
 refine ⟨_,(ja2 (jbm PassesOwn.never rfl (jbv rfl B.range (ja0 ja4 ja3)) (ja9 (i:=5) sc.nd rfl (Or.inl rfl)) (ja2 (jak (i:=6) sc.nd rfl (Or.inl rfl) (jaz (ja0 (jb5 jcm rfl B.list PyProof.Rows.boot_list (ja0 (qv 2) ja3)) (ja0 (qv 3) ja3)))) (ja2 (jb1 (PW.pt (jdp (jao q_lt (qv 5) ja4 (jam _)) (jcy (jao (jfm hr.units) (qv 3) (jc0 ja3) (jam _))))) (ja6 (jak (i:=6) sc.nd rfl (Or.inl rfl) (jaz (ja0 (qv 2) (ja0 (ja7 G_law_shifted (hr.mono (by decide)) rfl D_law_shifted.m D_law_shifted.F.kp D_law_shifted.b .nil jap (ja0 (qv 0) (ja0 (jb5 jcm rfl B.list PyProof.Rows.boot_list (ja0 (qv 3) ja3)) ja3))) ja3))))) (ja6 (jb1 (jao (jfm hr.units) (qv 2) (jc0 ja3) (jam _)) (ja6 (jak (i:=6) sc.nd rfl (Or.inl rfl) (jaz (ja0 (ja7 G_law_exchanged (hr.mono (by decide)) rfl D_law_exchanged.m D_law_exchanged.F.kp D_law_exchanged.b .nil jap (ja0 (qv 0) (ja0 (jb5 jcm rfl B.list PyProof.Rows.boot_list (ja0 (qv 2) ja3)) ja3))) (ja0 (qv 3) ja3))))) jal))) (ja2 (jak (i:=7) sc.nd rfl (Or.inl rfl) (jdm (ja7 G_law_is_paper (hr.mono (by decide)) rfl D_law_is_paper.m D_law_is_paper.F.kp D_law_is_paper.b .nil jap (ja0 (qv 1) (ja0 (qv 6) ja3))) (jd9 (ja7 G_law_lets (hr.mono (by decide)) rfl D_law_lets.m D_law_lets.F.kp D_law_lets.b .nil jap (ja0 (qv 1) (ja0 (jac q_ix (qv 6) ja4 (fun _ _=>rfl)) (ja0 (qv 4) ja3))))))) (ja2 (jak (i:=8) sc.nd rfl (Or.inl rfl) (ja7 G_lets_fixed (hr.mono (by decide)) rfl D_lets_fixed.m D_lets_fixed.F.kp D_lets_fixed.b .nil jap (ja0 (ja7 G_law_own (hr.mono (by decide)) rfl D_law_own.m D_law_own.F.kp D_law_own.b .nil jap (ja0 (qv 1) ja3)) (ja0 (jau jge (qv 6) (jaz (ja0 (qv 4) ja3))) ja3)))) (ja6 (jb1 (PW.pt (jcx (jb4 (jb6 (jad (jdl .bl) rfl B.isinstance PyProof.Rows.boot_isinstance (ja0 (qv 8) (ja0 (jbq (v:=.ty "bool") rfl B.bool PyProof.Rows.boot_bool rfl) ja3))))) (jco (jao q_ne (qv 8) (qv 7) (jam _))))) (ja6 (jah jbd)) jal))))))) (ja2 (jdq (i:=9) sc.nd rfl (Or.inl rfl) (CpScope.of (N:=["_law_due"]) (src:=[none]) (by rfl)) rfl (jaw (qv 3)) (fun _ _ _ _=>(ja9 (i:=0) (jai (l:=["_law_due"]) (by rfl)) rfl (Or.inl rfl))) (fun _ _ _ _=>jc3) (fun _ _ _ _=>(jb3 jf6 (qv 0) jbg (jbe ja4)))) (ja2 (jbm PassesOwn.never rfl (jaw (jbw (CpScope.of (N:=["_law_one"]) (src:=[none]) (by rfl)) rfl (jaw (qv 4)) (fun _ _ _ _=>(ja9 (i:=0) (jai (l:=["_law_one"]) (by rfl)) rfl (Or.inl rfl))) (fun _ _ _ _=>(jd4 (jao q_eq (jac q_ix (qv 0) ja4 (fun _ _=>rfl)) jcp (jam _)))) (fun _ _ _ _=>(jac q_ix (qv 0) ja4 (fun _ _=>rfl))))) (ja9 (i:=10) sc.nd rfl (Or.inl rfl)) (ja6 (jbm PassesOwn.never rfl (jaw (jac q_ix (qv 1) ja4 (fun _ _=>rfl))) (ja9 (i:=11) sc.nd rfl (Or.inl rfl)) (ja6 (jb1 (PW.pt (jdp (jao jks (qv 10) (qv 11) (by with_unfolding_all rfl)) (jcy (jao (jgk hr.units) (qv 11) (qv 9) (by with_unfolding_all rfl))))) (ja2 (jak (i:=12) sc.nd rfl (Or.inl rfl) (jac q_ix (qv 11) (jb5 jri rfl B.int PyProof.Rows.boot_int (ja0 (jbn q_eq (jac q_ix (qv 11) ja4 (fun _ _=>rfl)) (qv 10) (jam _)) ja3)) (fun _ _=>rfl))) (ja2 (jak (i:=13) sc.nd rfl (Or.inl rfl) (jau q_cat (qv 4) (jc0 (ja0 (jaz (ja0 jcp (ja0 (qv 10) (ja0 (qv 12) ja3)))) ja3)))) (ja6 (jb1 (jao jo7 (ja7 G_lets_fixed (hr.mono (by decide)) rfl D_lets_fixed.m D_lets_fixed.F.kp D_lets_fixed.b .nil jap (ja0 (ja7 G_law_own (hr.mono (by decide)) rfl D_law_own.m D_law_own.F.kp D_law_own.b .nil jap (ja0 (qv 1) ja3)) (ja0 (jaz (ja0 (qv 2) (ja0 (qv 3) (ja0 (qv 13) ja3)))) ja3))) jbd (jam _)) (ja6 (jah jbd)) jal)))) jal))))) (ja6 (jah jbd))))),?_⟩
 have hdt:=jib pap
 refine ja8 fun R hR=>?_
 obtain ⟨lqs,hlqs⟩:∃ n:Nat,n = qs.length:=⟨_,rfl⟩
 have tdep:∀ l:List (Int × Int × Int),jb8 (l.map tripD) ≤ 1:=fun l=>by
  induction l with
  | nil=>rw [List.map_nil,jb8]; omega
  | cons p r ih =>
   rw [List.map_cons,jb8]
   have e:depP (tripD p) = 1:=rfl
   omega
 refine jb0 (Itr 0 4) H (fun R' hR'=>?_) (jc2 (n:=4) (fun i σ Hc=>∃ v5 v6 v7 v8 v9 v10 v11 v12 v13 oc,σ = [some (.ref st),some v,some (.ref hl),some (.ref da),some (.ref ch),v5,v6,v7,v8,v9,v10,v11,v12,v13]∧But st H Hc∧Kq v ps ts hl hx qs da dx ds ch xs c st Hc oc) ⟨none,none,none,none,none,none,none,none,none,o,rfl,But.refl _ _,k0⟩ ?_ ?_)
 ·unfold jfr
  walk_at "RD"
  exact ⟨4,rfl,by decide,by decide,hR'⟩
 ·rintro i σ Hi hi ⟨v5,v6,v7,v8,v9,v10,v11,v12,v13,oi,rfl,bi,ki⟩
  simp only [jff,List.set_cons_zero,List.set_cons_succ]
  refine ja8 fun R8 hR8=>?_
  simp_arith [jaj,ki.eh]
  intro l1 hl1
  have q_l1:=ja5 hl1 (.lst hx)
  have sA:=(Same.refl Hi).trans q_l1
  have e_l1:upd Hi l1 (.lst hx) l1 = some (.lst hx):=ja1
  generalize upd Hi l1 (.lst hx) = HA at q_l1 sA e_l1
  intro tp htp
  have q_tp:=ja5 htp (.tup [.ref l1,.ref da])
  have sB:=sA.trans q_tp
  have e_tp:upd HA tp (.tup [.ref l1,.ref da]) tp = some (.tup [.ref l1,.ref da]):=ja1
  have e_l1:=q_tp _ _ e_l1
  generalize upd HA tp (.tup [.ref l1,.ref da]) = HB at q_tp sB e_tp e_l1
  have kB:=ki.same sB
  have ppB:PpAt HB (.ref tp) qs ds:=⟨tp,l1,da,rfl,e_tp,⟨hx,e_l1,kB.ph⟩,dx,kB.ed,kB.pd⟩
  have bB:But st H HB:=bi.trans (But.same sB)
  subst hR8
  refine jeo fun R8 E hR8 hE=>?_
  have PP:∀ (H':Hp) (o':HO) (vp:V) (qs':List (Int × Int)) (ds':List (Int × Int × Int)),But st H H'→Kq v ps ts hl hx qs da dx ds ch xs c st H' o'→PpAt H' vp qs' ds'→ds'.length ≤ 200→R8 E [some (.ref st),some v,some (.ref hl),some (.ref da),some (.ref ch),some (.int (0 + (i:Int))),some vp,v7,v8,v9,v10,v11,v12,v13] H':=by
   clear kB ppB bB
   intro HB oB vp qs' ds' bB kB ppB ld'
   obtain ⟨tp',a',b',rfl,f1,f2,f3⟩:=id ppB
   subst hR8
   refine ja8 fun R7 hR7=>?_
   have FIN:∀ (H':Hp),Same HB H'→R7 E [some (.ref st),some v,some (.ref hl),some (.ref da),some (.ref ch),some (.int (0 + (i:Int))),some (.ref tp'),some (.bl (fixB ps ts qs' ds' c)),v8,v9,v10,v11,v12,v13] H':=by
    intro H4 s4
    have k4:=kB.same s4
    obtain ⟨hx4,f21,f22⟩:=f2
    obtain ⟨dx4,f31,f32⟩:=f3
    subst hR7
    subst hE
    refine ja8 fun R6 hR6=>?_
    walk_at "RD"
    refine ⟨v,ps,ts,rfl,k4.web,fun t4 H5 s5 nw=>?_⟩
    have wb5:jc4 H5 (.ref t4) ps ts:=by
     obtain ⟨l1,l2,xs,ys,_,_,_,h1,h2,h3,h4,h5⟩:=nw
     exact ⟨t4,l1,l2,xs,ys,rfl,h1,h2,h3,h4,h5⟩
    intro p5 hp5
    have q_p5:=ja5 hp5 (.tup [.ref ch])
    have s6:=s5.trans q_p5
    have e_p5:upd H5 p5 (.tup [.ref ch]) p5 = some (.tup [.ref ch]):=ja1
    generalize upd H5 p5 (.tup [.ref ch]) = H6 at q_p5 s6 e_p5
    have s46:=s4.trans s6
    have k6:=kB.same s46
    refine ⟨tp',p5,_,_,rfl,rfl,s46 _ _ f1,e_p5,by simp only [List.length_cons,List.length_nil]; omega,fun p6 H7 s7 e7=>?_⟩
    have s47:=s46.trans s7
    have k7:=kB.same s47
    refine ⟨.ref t4,ps,ts,p6,a',b',ch,qs',ds',c,rfl,wb5.same (q_p5.trans s7),wk,⟨e7,⟨hx4,s47 _ _ f21,Prs.same s47 f22⟩,⟨dx4,s47 _ _ f31,jbk s47.tups f32⟩,⟨xs,k7.ec,k7.pc⟩⟩,ld',by omega,(fun x hx=>by cases gl x hx <;> simp),fun H8 s8=>?_⟩
    have k8:=k7.same s8
    subst hR6
    simp_arith [kd,isi]
    simp only [decide_true,Bool.not_true,Bool.false_eq_true,if_false]
    exact ⟨_,_,_,_,_,_,_,_,_,oB,rfl,bB.trans (But.same (s47.trans s8)),k8⟩
   walk_at "RD"
   refine ⟨v,ps,ts,.ref tp',_,rfl,kB.web,wk,jog f1 f2 f3,jji ld',jsi _ _,fun H4 s4=>?_⟩
   cases hpb:jc1 ps ts (papD (qs'.map jb9) (ds'.map tripD)) with
   | false =>
    simp only [Bool.false_eq_true,if_false]
    have z:=FIN H4 s4
    unfold fixB at z
    rw [hpb,Bool.false_and] at z
    exact z
   | true =>
    have k4:=kB.same s4
    obtain ⟨dx4,f31,f32⟩:=f3
    simp only [if_true,jaj,s4 _ _ f1,at1]
    refine ⟨v,ps,ts,b',dx4,ds',ch,xs,c,rfl,k4.web,wk,s4 _ _ f31,jbk s4.tups f32,ld',jib hpb,k4.ec,k4.pc,by omega,fun H5 s5=>?_⟩
    have z:=FIN H5 (s4.trans s5)
    unfold fixB at z
    rw [hpb,Bool.true_and] at z
    exact z
  walk_at "RD"
  by_cases ct:(0:Int) + (i:Int) < 2
  ·simp only [decide_eq_true ct,if_true]
   intro e0 he0
   have q_e0:=ja5 he0 (.lst [])
   have sC:=(Same.refl HB).trans q_e0
   have e_e0:upd HB e0 (.lst []) e0 = some (.lst []):=ja1
   generalize upd HB e0 (.lst []) = HC at q_e0 sC e_e0
   have kC:=kB.same sC
   have ppC:=ppB.same sC
   refine ⟨.lst (ds.map tripD),.lst [],(by rw [Rep]; exact ⟨da,dx,rfl,kC.ed,jej kC.pd⟩),(by rw [Rep]; exact ⟨e0,[],rfl,e_e0,by rw [Reps]⟩),(by rw [depP]; have:=tdep ds; omega),.inl ⟨_,_,rfl,rfl⟩,?_⟩
   simp only [if_true,nilP]
   by_cases hD:ds = []
   ·rw [show ds.isEmpty = true by rw [hD]; rfl]
    simp only [Bool.not_true,Bool.false_eq_true,if_false]
    intro e1 he1
    have q_e1:=ja5 he1 (.lst [])
    have sJ:=(Same.refl HC).trans q_e1
    have e_e1:upd HC e1 (.lst []) e1 = some (.lst []):=ja1
    generalize upd HC e1 (.lst []) = HJ at q_e1 sJ e_e1
    have kJ:=kC.same sJ
    have ppJ:=ppC.same sJ
    refine ⟨.lst (qs.map jb9),.lst [],(by rw [Rep]; exact ⟨hl,hx,rfl,kJ.eh,Prs.reps kJ.ph⟩),(by rw [Rep]; exact ⟨e1,[],rfl,e_e1,by rw [Reps]⟩),(by rw [depP]; have:=jbx qs; omega),.inl ⟨_,_,rfl,rfl⟩,?_⟩
    simp only [if_true,nilP]
    by_cases hQ:qs = []
    ·rw [show qs.isEmpty = true by rw [hQ]; rfl]
     simp only [Bool.not_true,Bool.false_eq_true,if_false]
     exact PP _ _ _ _ _ ((bB.trans (But.same sC)).trans (But.same sJ)) kJ ppJ (by omega)
    rw [show qs.isEmpty = false by cases qs with | nil=>exact absurd rfl hQ | cons _ _=>rfl]
    simp only [Bool.not_false,if_true,jaj,kJ.eh]
    intro l2 hl2
    have q_l2:=ja5 hl2 (.lst hx)
    have sK:=(Same.refl HJ).trans q_l2
    have e_l2:upd HJ l2 (.lst hx) l2 = some (.lst hx):=ja1
    generalize upd HJ l2 (.lst hx) = HK at q_l2 sK e_l2
    have kK:=kJ.same sK
    refine ⟨st,l2,_,hx,qs,rfl,kK.e,kK.so,e_l2,kK.ph,hQ,lq,fun HL oL hx' qs' bL eL soL el' pr' len'=>?_⟩
    have kL:=kJ.two hl2 sK bL eL soL
    intro tq htq
    have q_tq:=ja5 htq (.tup [.ref l2,.ref da])
    have sM:=(Same.refl HL).trans q_tq
    have e_tq:upd HL tq (.tup [.ref l2,.ref da]) tq = some (.tup [.ref l2,.ref da]):=ja1
    have el':=q_tq _ _ el'
    generalize upd HL tq (.tup [.ref l2,.ref da]) = HM at q_tq sM e_tq el'
    have kM:=kL.same sM
    refine PP HM oL (.ref tq) qs' ds (fun b u nb q=>?_) kM ⟨tq,l2,da,rfl,e_tq,⟨hx',el',Prs.same sM pr'⟩,dx,kM.ed,kM.pd⟩ (by omega)
    have nj:=((bB.trans (But.same sC)).trans (But.same sJ)) b u nb q
    exact sM _ _ (bL _ _ nb (fun z=>by rw [z,hl2] at nj; cases nj) (sK _ _ nj))
   rw [show ds.isEmpty = false by cases ds with | nil=>exact absurd rfl hD | cons _ _=>rfl]
   simp only [Bool.not_false,if_true,jaj,kC.ed]
   intro l2 hl2
   have q_l2:=ja5 hl2 (.lst dx)
   have sK:=(Same.refl HC).trans q_l2
   have e_l2:upd HC l2 (.lst dx) l2 = some (.lst dx):=ja1
   generalize upd HC l2 (.lst dx) = HK at q_l2 sK e_l2
   have kK:=kC.same sK
   refine ⟨st,l2,_,dx,_,rfl,kK.e,kK.so,e_l2,Tps.irows kK.pd,(fun z=>hD (List.map_eq_nil_iff.mp z)),by rw [List.length_map]; omega,(fun r hr=>(bd r hr).1),fun HL oL dx' rs' bL eL soL el' pr' len' hb' ln'=>?_⟩
   obtain ⟨ds',td',ld2⟩:=rows3 pr' (ln' 3 fun r hr=>(bd r hr).2)
   rw [List.length_map] at len'
   have kL:=kC.two hl2 sK bL eL soL
   intro tq htq
   have q_tq:=ja5 htq (.tup [.ref hl,.ref l2])
   have sM:=(Same.refl HL).trans q_tq
   have e_tq:upd HL tq (.tup [.ref hl,.ref l2]) tq = some (.tup [.ref hl,.ref l2]):=ja1
   have el':=q_tq _ _ el'
   generalize upd HL tq (.tup [.ref hl,.ref l2]) = HM at q_tq sM e_tq el'
   have kM:=kL.same sM
   refine PP HM oL (.ref tq) qs ds' (fun b u nb q=>?_) kM ⟨tq,hl,l2,rfl,e_tq,⟨hx,kM.eh,kM.ph⟩,dx',el',jbk sM.tups td'⟩ (by omega)
   have nj:=(bB.trans (But.same sC)) b u nb q
   exact sM _ _ (bL _ _ nb (fun z=>by rw [z,hl2] at nj; cases nj) (sK _ _ nj))
  ·simp only [decide_eq_false ct,Bool.false_eq_true,if_false]
   intro e1 he1
   have q_e1:=ja5 he1 (.lst [])
   have sJ:=(Same.refl HB).trans q_e1
   have e_e1:upd HB e1 (.lst []) e1 = some (.lst []):=ja1
   generalize upd HB e1 (.lst []) = HJ at q_e1 sJ e_e1
   have kJ:=kB.same sJ
   have ppJ:=ppB.same sJ
   refine ⟨.lst (qs.map jb9),.lst [],(by rw [Rep]; exact ⟨hl,hx,rfl,kJ.eh,Prs.reps kJ.ph⟩),(by rw [Rep]; exact ⟨e1,[],rfl,e_e1,by rw [Reps]⟩),(by rw [depP]; have:=jbx qs; omega),.inl ⟨_,_,rfl,rfl⟩,?_⟩
   simp only [if_true,nilP]
   by_cases hQ:qs = []
   ·rw [show qs.isEmpty = true by rw [hQ]; rfl]
    simp only [Bool.not_true,Bool.false_eq_true,if_false]
    exact PP _ _ _ _ _ (bB.trans (But.same sJ)) kJ ppJ (by omega)
   rw [show qs.isEmpty = false by cases qs with | nil=>exact absurd rfl hQ | cons _ _=>rfl]
   simp only [Bool.not_false,if_true,jaj,kJ.eh]
   intro l2 hl2
   have q_l2:=ja5 hl2 (.lst hx)
   have sK:=(Same.refl HJ).trans q_l2
   have e_l2:upd HJ l2 (.lst hx) l2 = some (.lst hx):=ja1
   generalize upd HJ l2 (.lst hx) = HK at q_l2 sK e_l2
   have kK:=kJ.same sK
   refine ⟨st,l2,_,hx,qs,rfl,kK.e,kK.so,e_l2,kK.ph,hQ,lq,fun HL oL hx' qs' bL eL soL el' pr' len'=>?_⟩
   have kL:=kJ.two hl2 sK bL eL soL
   intro tq htq
   have q_tq:=ja5 htq (.tup [.ref l2,.ref da])
   have sM:=(Same.refl HL).trans q_tq
   have e_tq:upd HL tq (.tup [.ref l2,.ref da]) tq = some (.tup [.ref l2,.ref da]):=ja1
   have el':=q_tq _ _ el'
   generalize upd HL tq (.tup [.ref l2,.ref da]) = HM at q_tq sM e_tq el'
   have kM:=kL.same sM
   refine PP HM oL (.ref tq) qs' ds (fun b u nb q=>?_) kM ⟨tq,l2,da,rfl,e_tq,⟨hx',el',Prs.same sM pr'⟩,dx,kM.ed,kM.pd⟩ (by omega)
   have nj:=(bB.trans (But.same sJ)) b u nb q
   exact sM _ _ (bL _ _ nb (fun z=>by rw [z,hl2] at nj; cases nj) (sK _ _ nj))
 ·rintro σ Hc ⟨v5,v6,v7,v8,v9,v10,v11,v12,v13,oc,rfl,bc,kc⟩
  dsimp only
  subst hR
  obtain ⟨wu,pa,ta,ws,ys,rfl,hu1,hpa,hta,hws,hys⟩:=id kc.web
  have hlz:dx.length = ds.length:=Paired.length kc.pd
  have hlx:xs.length = c.length:=Paired.length kc.pc
  have hly:ys.length = ts.length:=Paired.length hys
  refine ja8 fun R hR=>?_
  walk_at "RD"
  refine jas (Itl K da) Hc (fun R' hR'=>?_) (fun z4 hz4=>jay ds.length (fun i σ' Hd=>∃ w1 us,σ' = [w1]∧Same Hc Hd∧Hd z4 = some (.lst us)∧Prs Hd us ((ds.take i).map fun d=>(d.1,d.2.1))) ⟨none,[],rfl,ja5 hz4 _,ja1,.nil⟩ ?_ ?_)
  ·unfold jbz
   walk_at "RD"
   exact ⟨da,rfl,⟨_,SqL.of kc.ed⟩,hR'⟩
  ·rintro i σ' Hd hi ⟨w1,us,rfl,s2',ez,pu⟩
   have x1:dx[i]? = some (dx[i]'(by omega)):=List.getElem?_eq_getElem _
   have y1:SqL K Hd da dx:=SqL.of (s2' _ _ kc.ed)
   refine ⟨⟨_,_,y1,x1⟩,?_⟩
   rintro y H' ⟨rfl,hy⟩
   obtain ⟨q,hq,pq⟩:=jaa kc.pd (hy _ y1)
   obtain ⟨t,rfl,ht⟩:=Tp.tups pq s2'.tups
   have lu:us.length ≤ 200:=by
    have e:=Paired.length pu
    rw [List.length_map,List.length_take] at e
    omega
   simp_arith [ht]
   refine ⟨jk9 (.int q.1) (.int q.2.1) (.int q.2.2),fun t5 ht5=>?_⟩
   rw [cut3]
   have q5:=ja5 ht5 (.tup [.int q.1,.int q.2.1])
   have e5:upd H' t5 (.tup [.int q.1,.int q.2.1]) t5 = some (.tup [.int q.1,.int q.2.1]):=ja1
   have ez5:=q5 _ _ ez
   generalize upd H' t5 (.tup [.int q.1,.int q.2.1]) = H6 at q5 e5 ez5
   have t6:=jb2 (ys:=us ++ [.ref t5]) ez5
   refine ⟨_,ez5,szl' (by omega),_,us ++ [.ref t5],rfl,jan (s2'.trans q5) hz4,ja1,?_⟩
   rw [jar hq,List.map_append]
   exact jav (Prs.tups t6 (Prs.same q5 pu)) (Pr.tups (p:=(q.1,q.2.1)) ⟨t5,rfl,e5⟩ t6)
  rintro σ' H5 ⟨w1,us,rfl,s5,ez4,pu⟩
  refine ⟨⟨_,SqL.of (s5 _ _ kc.ed),by omega⟩,?_⟩
  rw [List.take_length] at pu
  walk_at "RD"
  subst hR
  refine ja8 fun R hR=>?_
  refine jdw (ι:=Addr × Hp) (fun y=>Itl K y.1) (fun y=>y.2) (fun y=>Same H5 y.2∧y.2 y.1 = some (.lst ((jbs c).map V.int))) (fun R' hR'=>?_) ?_
  ·unfold jbz
   walk_at "RD"
   refine jas (Itl K ch) H5 (fun R' hR'=>?_) (fun z5 hz5=>jay c.length (fun i σ' Hd=>∃ w1,σ' = [w1]∧Same H5 Hd∧Hd z5 = some (.lst ((jbs (c.take i)).map V.int))) ⟨none,rfl,ja5 hz5 _,ja1⟩ ?_ ?_)
   ·walk_at "RD"
    exact ⟨ch,rfl,⟨_,SqL.of (s5 _ _ kc.ec)⟩,hR'⟩
   ·rintro i σ' Hd hi ⟨w1,rfl,s2',ez⟩
    have sA:=s5.trans s2'
    have x1:xs[i]? = some (xs[i]'(by omega)):=List.getElem?_eq_getElem _
    have y1:SqL K Hd ch xs:=SqL.of (sA _ _ kc.ec)
    refine ⟨⟨_,_,y1,x1⟩,?_⟩
    rintro y H' ⟨rfl,hy⟩
    obtain ⟨q,hq,pq⟩:=jaa kc.pc (hy _ y1)
    obtain ⟨t,w,u,r,rfl,ew,ht,eL,e2⟩:=(gl q (List.mem_of_getElem? hq)).at (pq.tups sA.tups)
    have lt:=jfe hq
    rw [ew] at lt
    have ln:=jh4 (c.take i)
    rw [List.length_take] at ln
    simp_arith [jaj,ht,at0]
    by_cases cw:w = wB
    ·rw [if_pos (by rw [cw])] at lt
     simp only [decide_eq_true cw,if_true]
     simp only [e2 cw]
     refine ⟨_,ez,by rw [List.length_map]; exact szl' (by omega),_,rfl,jan s2' hz5,?_⟩
     rw [ja1,lt,List.map_append]
     rfl
    ·rw [if_neg (fun z=>cw (Option.some.inj z))] at lt
     simp only [decide_eq_false cw,Bool.false_eq_true,if_false]
     rw [List.append_nil] at lt
     exact ⟨_,rfl,s2',by rw [lt]; exact ez⟩
   rintro σ' H6 ⟨w1,rfl,s6,ez5⟩
   refine ⟨⟨_,SqL.of ((s5.trans s6) _ _ kc.ec),by omega⟩,?_⟩
   rw [List.take_length] at ez5
   exact ⟨z5,rfl,⟨_,SqL.of ez5⟩,hR' (z5,H6) ⟨s6,ez5⟩⟩
  rintro ⟨z5,H6⟩ ⟨s6,ez5⟩
  dsimp only at s6 ez5
  have s56:=s5.trans s6
  have k6:=kc.same s56
  have ez6:=s6 _ _ ez4
  have pu6:=Prs.same s6 pu
  have e6z:H6 z5 = some (.lst ((jbs c).map V.int)):=ez5
  refine jby (K:=K) (a:=z5) (xs:=(jbs c).map V.int) (fun m σ Hd=>∃ v5 v6 v7 v8 v10 v11 v12 v13,σ = [some (.ref st),some (.ref wu),some (.ref hl),some (.ref da),some (.ref ch),v5,v6,v7,v8,some (.ref z4),v10,v11,v12,v13]∧Same H6 Hd) ⟨_,_,_,_,_,_,_,_,rfl,Same.refl _⟩ (fun m σ Hd _ ⟨_,_,_,_,_,_,_,_,_,s7⟩=>SqL.of (s7 _ _ e6z)) ?_ ?_
  ·rintro m x σ Hd hxm ⟨v5,v6,v7,v8,v10,v11,v12,v13,rfl,s7⟩
   obtain ⟨n,hn,rfl⟩:=jpc hxm
   have hni:=List.mem_of_getElem? hn
   simp only [jff,List.set_cons_zero,List.set_cons_succ]
   have s57:=s56.trans s7
   refine jb0 (Itl K ta) Hd (fun R' hR'=>?_) (jby (K:=K) (a:=ta) (xs:=ys) (fun j σ He=>∃ v5 v6 v7 v8 v11 v12 v13,σ = [some (.ref st),some (.ref wu),some (.ref hl),some (.ref da),some (.ref ch),v5,v6,v7,v8,some (.ref z4),some (.int n),v11,v12,v13]∧Same H6 He) ⟨_,_,_,_,_,_,_,rfl,s7⟩ (fun j σ He _ ⟨_,_,_,_,_,_,_,_,s8⟩=>SqL.of ((s56.trans s8) _ _ hta)) ?_ ?_)
   ·unfold jbz
    simp_arith [jaj,s57 _ _ hu1,at1]
    exact ⟨ta,rfl,⟨_,SqL.of (s57 _ _ hta)⟩,hR'⟩
   ·rintro j x σ He hxj ⟨v5,v6,v7,v8,v11,v12,v13,rfl,s8⟩
    obtain ⟨q,hq,pq⟩:=jaa hys hxj
    have hqm:=List.mem_of_getElem? hq
    have s58:=s56.trans s8
    obtain ⟨t,rfl,ht⟩:=pq.tups s58.tups
    simp only [jff,List.set_cons_zero,List.set_cons_succ]
    simp_arith [jaj,ht,at0]
    refine ⟨rfl,rfl,?_⟩
    rw [show inV (V.int n) [V.int q.1,V.int q.2] = decide (n ∈ [q.1,q.2]) from jex n [q.1,q.2]]
    by_cases cn:n ∈ [q.1,q.2]
    case neg =>
     simp only [decide_eq_false cn,Bool.false_eq_true,if_false]
     exact ⟨_,_,_,_,_,_,_,rfl,s8⟩
    simp only [decide_eq_true cn,if_true]
    refine ⟨jb9 q,z4,us,(ds.map fun d=>(d.1,d.2.1)).map jb9,Pr.rep ⟨t,rfl,ht⟩,rfl,s8 _ _ ez6,Prs.reps (Prs.same s8 pu6),Nat.le_trans (jbx _) (by decide),?_⟩
    simp only [if_true,jq2]
    by_cases cq:q ∈ ds.map fun d=>(d.1,d.2.1)
    case pos =>
     simp only [decide_eq_true cq,Bool.not_true,Bool.false_eq_true,if_false]
     exact ⟨_,_,_,_,_,_,_,rfl,s8⟩
    simp only [decide_eq_false cq,Bool.not_false,if_true,ht,at0]
    obtain ⟨u,hat,hu⟩:∃ u,atI [V.int q.1,V.int q.2] (if decide (q.1 = n) = true then 1 else 0) = some (.int u)∧((n = q.1∧u = q.2) ∨ (n = q.2∧u = q.1)):=by
     by_cases cc:q.1 = n
     ·rw [if_pos (decide_eq_true cc)]
      exact ⟨q.2,at1,.inl ⟨cc.symm,rfl⟩⟩
     ·rw [if_neg (by rw [decide_eq_false cc]; exact Bool.false_ne_true)]
      refine ⟨q.1,at0,.inr ⟨?_,rfl⟩⟩
      simp only [List.mem_cons,List.not_mem_nil,or_false] at cn
      rcases cn with z | z
      ·exact absurd z.symm cc
      ·exact z
    simp only [hat]
    intro p1 hp1
    have q_p1:=ja5 hp1 (.tup [.str wT,.int n,.int u])
    have sF:=(Same.refl He).trans q_p1
    have e_p1:upd He p1 (.tup [.str wT,.int n,.int u]) p1 = some (.tup [.str wT,.int n,.int u]):=ja1
    generalize upd He p1 (.tup [.str wT,.int n,.int u]) = HF at q_p1 sF e_p1
    intro p2 hp2
    have q_p2:=ja5 hp2 (.lst [.ref p1])
    have sG:=sF.trans q_p2
    have e_p2:upd HF p2 (.lst [.ref p1]) p2 = some (.lst [.ref p1]):=ja1
    have e_p1:=q_p2 _ _ e_p1
    generalize upd HF p2 (.lst [.ref p1]) = HG at q_p2 sG e_p2 e_p1
    have kG:=(k6.same s8).same sG
    simp only [kG.ec,e_p2]
    refine ⟨szl (by simp only [List.length_cons,List.length_nil]; omega),?_⟩
    intro p3 hp3
    have q_p3:=ja5 hp3 (.lst (xs ++ [.ref p1]))
    have sI:=sG.trans q_p3
    have e_p3:upd HG p3 (.lst (xs ++ [.ref p1])) p3 = some (.lst (xs ++ [.ref p1])):=ja1
    have e_p1:=q_p3 _ _ e_p1
    generalize upd HG p3 (.lst (xs ++ [.ref p1])) = HI at q_p3 sI e_p3 e_p1
    have kI:=(k6.same s8).same sI
    refine ⟨.ref wu,ps,ts,rfl,kI.web,fun t4 HJ sJ nw=>?_⟩
    have wbJ:jc4 HJ (.ref t4) ps ts:=by
     obtain ⟨l1,l2,xs,ys,_,_,_,h1,h2,h3,h4,h5⟩:=nw
     exact ⟨t4,l1,l2,xs,ys,rfl,h1,h2,h3,h4,h5⟩
    have e_p3:=sJ _ _ e_p3
    have e_p1:=sJ _ _ e_p1
    intro p5 hp5
    have q_p5:=ja5 hp5 (.tup [.ref hl,.ref da,.ref p3])
    have sK:=sJ.trans q_p5
    have e_p5:upd HJ p5 (.tup [.ref hl,.ref da,.ref p3]) p5 = some (.tup [.ref hl,.ref da,.ref p3]):=ja1
    have e_p1:=q_p5 _ _ e_p1
    have e_p3:=q_p5 _ _ e_p3
    generalize upd HJ p5 (.tup [.ref hl,.ref da,.ref p3]) = HK at q_p5 sK e_p5 e_p1 e_p3
    have kK:=kI.same sK
    refine ⟨.ref t4,ps,ts,p5,hl,da,p3,qs,ds,c ++ [(some wT,[n,u])],rfl,wbJ.same q_p5,wk,⟨e_p5,⟨hx,kK.eh,kK.ph⟩,⟨dx,kK.ed,kK.pd⟩,⟨_,e_p3,jav kK.pc ⟨p1,rfl,e_p1⟩⟩⟩,by omega,by rw [List.length_append,List.length_singleton]; omega,(fun z hz=>?_),fun HL sL=>?_⟩
    ·rcases List.mem_append.mp hz with hz | hz
     ·cases gl z hz <;> simp
     ·rw [List.mem_singleton.mp hz]; simp
    have lt:∀ t ∈ ts,t.1 < t.2:=fun t ht=>(wk.t.ats t ht).1
    have nt:jgb ds n u = false:=Bool.eq_false_iff.mpr fun z=>by
     have hm:∀ t ∈ ds.map (fun d=>(d.1,d.2.1)),t ∈ ts:=fun t ht=>by
      obtain ⟨d,h,rfl⟩:=List.mem_map.mp ht
      exact hdt d h
     have l1:=lt _ hqm
     rcases (jek ds n u).mp z with y | y <;> rcases hu with ⟨a1,a2⟩ | ⟨a1,a2⟩
     ·rw [a1,a2] at y; exact cq y
     ·have:=lt _ (hm _ y); dsimp only at this; omega
     ·have:=lt _ (hm _ y); dsimp only at this; omega
     ·rw [a1,a2] at y; exact cq y
    have hfx:fixB ps ts qs ds (c ++ [(some wT,[n,u])]) = false:=by
     unfold fixB
     rw [jf3]
     have:okB ps ts ds (jbs c ++ []) (jba c ++ []) (some wT,[n,u]) = false:=by
      unfold okB
      dsimp only
      rw [if_neg (by rw [nTB]; exact id),nt,Bool.and_false,Bool.and_false]
     rw [this,Bool.and_false,Bool.and_false]
    rw [hfx]
    dsimp only
    rw [if_neg (by decide)]
    exact ⟨_,_,_,_,_,_,_,rfl,((s8.trans sI).trans sK).trans sL⟩
   ·rintro σ He ⟨v5,v6,v7,v8,v11,v12,v13,rfl,s8⟩
    exact ⟨_,_,_,_,_,_,_,_,rfl,s8⟩
  ·rintro σ Hd ⟨v5,v6,v7,v8,v10,v11,v12,v13,rfl,s7⟩
   have k7:=k6.same s7
   subst hR
   walk_at "RD"
   exact h Hd oc (bc.trans (But.same (s56.trans s7))) k7.e k7.so
end
end My
namespace My
open PySem L2
section
variable {P:Program} {w:World} {K:PySem.W.Frag} {mg:Str→Option Value} {base:Heap} {c1 c2 c3 c4:Tok} {C_NoWeb f_NoWeb:Addr} {dI:FuncData}
theorem jsm {H H':Hp} {t:Addr} {ps ts:List (Int × Int)} (h:js2 H H' t ps ts):jc4 H' (.ref t) ps ts:=by
 obtain ⟨l1,l2,xs,ys,_,_,_,h1,h2,h3,h4,h5⟩:=h
 exact ⟨t,l1,l2,xs,ys,rfl,h1,h2,h3,h4,h5⟩
theorem ps_ne {ps ts:List (Int × Int)} {ds:List (Int × Int × Int)} {c:List Lk} (h:jb7 ps ts ds [] [] c = true) (hc:c ≠ []):ps ≠ []:=fun hp=>by
 cases c with
 | nil=>exact hc rfl
 | cons x r =>
  rw [jb7,Bool.and_eq_true] at h
  have h1:=h.1
  unfold okB at h1
  rw [Bool.and_eq_true] at h1
  have h2:=h1.1
  rcases jdi h2 with ⟨p,rfl⟩ | ⟨u,v,rfl⟩ | ⟨u,v,rfl⟩ <;> (unfold jef at h2; rw [hp] at h2; simp at h2)
theorem jhx:∀ {as bs:List (Int × Int × Int)},as.map tripD = bs.map tripD→as = bs
 | [],[],_=>rfl
 | [],_ :: _,h=>by cases h
 | _ :: _,[],h=>by cases h
 | a :: as,b :: bs,h=>by
  rw [List.map_cons,List.map_cons] at h
  injection h with h1 h2
  rw [jhx h2]
  unfold tripD at h1
  injection h1 with h1
  injection h1 with x1 h1
  injection h1 with x2 h1
  injection h1 with x3 _
  injection x1 with x1
  injection x2 with x2
  injection x3 with x3
  obtain ⟨a1,a2,a3⟩:=a
  obtain ⟨b1,b2,b3⟩:=b
  dsimp only at x1 x2 x3
  rw [x1,x2,x3]
theorem js5 {ps ts qs:List (Int × Int)} {d:Int × Int × Int} {ds:List (Int × Int × Int)} (h:jc1 ps ts (papD (qs.map jb9) ((d :: ds).map tripD)) = true):jc1 ps ts (papD (qs.map jb9) (ds.map tripD)) = false:=by
 cases e:jc1 ps ts (papD (qs.map jb9) (ds.map tripD)) with
 | false=>rfl
 | true =>
  unfold papD at h e
  rw [jda] at h e
  unfold pap2 at h e
  dsimp only at h e
  split at h
  ·rename_i hs1 qs1 a1 b1
   split at e
   ·rename_i hs2 qs2 a2 b2
    rw [a1] at a2
    cases a2
    simp only [Bool.and_eq_true,decide_eq_true_eq] at h e
    have c1:=jdd b1
    have c2:=jdd b2
    have d1:=jhx c1.1
    have d2:=jhx c2.1
    have h9:=h.2.2
    have e9:=e.2.2
    rw [← d1,List.map_cons,List.sum_cons] at h9
    rw [← d2] at e9
    have:=(c1.2 d (by rw [← d1]; exact .head _)).2
    omega
   ·cases e
  ·cases h
theorem jsn {cs:List Int} (h:∀ c ∈ cs,0 ≤ c):∀ {k:Int},0 ≤ k→k < cs.length→nth cs k ≤ cs.sum:=fun {k} k0 k1=>by
 have hm:=jdh k0 k1
 have:∀ {l:List Int} {x:Int},(∀ c ∈ l,0 ≤ c)→x ∈ l→x ≤ l.sum:=by
  intro l
  induction l with
  | nil=>intro x _ h; cases h
  | cons a l ih =>
   intro x hp hx
   rw [List.sum_cons]
   have ha:=hp a (.head _)
   have hs:0 ≤ l.sum:=by
    clear ih hx
    induction l with
    | nil=>exact Int.le_refl _
    | cons b l ih=>rw [List.sum_cons]; have:=hp b (.tail _ (.head _)); have:=ih (fun c hc=>hp c (by rcases List.mem_cons.mp hc with z | z; exact z ▸ .head _; exact .tail _ (.tail _ z))); omega
   rcases List.mem_cons.mp hx with z | z
   ·omega
   ·have:=ih (fun c hc=>hp c (.tail _ hc)) z; omega
 exact this h hm
section
variable {hs ns cs:List Int} {raw:List (Int × Int × Int)} {tw:Int}
theorem Laid.rowsD (L:Laid hs ns cs raw tw):∀ r ∈ (jbj ns tw raw).map (fun p=>[p.1,p.2.1,p.2.2]),RwB 2000000000000 r∧r.length = 3:=fun r hr=>by
 obtain ⟨q,hq,rfl⟩:=List.mem_map.mp hr
 unfold jbj at hq
 obtain ⟨x,hx,rfl⟩:=List.mem_map.mp hq
 obtain ⟨hx,hp⟩:=List.mem_filter.mp hx
 have hp:=of_decide_eq_true hp
 have i:=L.ix x hx
 have nl:=L.nl
 have n1:=L.nb _ (jdh (hs:=ns) i.1 (by omega))
 have n2:=L.nb _ (jdh (hs:=ns) (k:=x.2.1) (by omega) (by omega))
 have g:=joj L.pos hx (.inl rfl)
 have tw1:=L.tw1
 have k1:x.1 < hs.length:=by omega
 have up:jaq raw x.1 * tw ≤ 2 * nth cs x.1:=by
  by_cases c:nth hs x.1 = 0
  ·exact (L.none' x.1 i.1 k1 c).2
  ·have hb:=L.hb _ (jdh i.1 k1)
   have e:=L.even x.1 i.1 k1 (by omega)
   rw [L.some' x.1 i.1 k1 c]
   omega
 have le:x.2.2 * tw ≤ jaq raw x.1 * tw:=Int.mul_le_mul_of_nonneg_right g (by omega)
 have ge:0 ≤ x.2.2 * tw:=Int.mul_nonneg (by omega) (by omega)
 have cs1:=jsn L.cpos i.1 (by rw [L.cl]; exact k1)
 have cap:=L.cap
 refine ⟨⟨by show 2 ≤ 3; decide,by show 3 ≤ 3; decide,fun j hj=>?_⟩,rfl⟩
 simp only [List.mem_cons,List.not_mem_nil,or_false] at hj
 omega
theorem Laid.lenH (L:Laid hs ns cs raw tw):(jbp ns cs hs).length ≤ 9:=Nat.le_trans (jjz _ _ _) (by rw [L.nl]; exact L.hl)
theorem Laid.lenD (L:Laid hs ns cs raw tw):(jbj ns tw raw).length ≤ 81:=by
 unfold jbj
 rw [List.length_map]
 exact Nat.le_trans (List.length_filter_le _ _) L.len
end
def prsD (ts:List (Int × Int)):Dt:=.lst (ts.map jb9)
def webD (ps ts:List (Int × Int)):Dt:=.tup [prsD ps,prsD ts]
theorem jlj {H:Hp} {v:V} {ps ts:List (Int × Int)} (h:jc4 H v ps ts):Rep H (webD ps ts) v:=by
 obtain ⟨u,pa,ta,xs,ys,rfl,h1,h2,h3,h4,h5⟩:=h
 unfold webD prsD
 rw [Rep]
 refine ⟨u,_,rfl,h1,?_⟩
 rw [Reps]
 refine ⟨_,_,rfl,by rw [Rep]; exact ⟨pa,xs,rfl,h2,Prs.reps h4⟩,?_⟩
 rw [Reps]
 exact ⟨_,_,rfl,by rw [Rep]; exact ⟨ta,ys,rfl,h3,Prs.reps h5⟩,by rw [Reps]⟩
def triD (qs:List (Int × Int)) (ds:List (Int × Int × Int)) (c:List Lk):Dt:=.tup [.lst (qs.map jb9),.lst (ds.map tripD),.lst (c.map lkD)]
theorem jnc {H:Hp} {t hl da ch:Addr} {qs:List (Int × Int)} {ds:List (Int × Int × Int)} {c:List Lk} (h:Fx H t hl da ch qs ds c):Rep H (triD qs ds c) (.ref t):=by
 obtain ⟨e,⟨hx,e1,p1⟩,⟨dx,e2,p2⟩,⟨xs,e3,p3⟩⟩:=h
 unfold triD
 rw [Rep]
 refine ⟨t,_,rfl,e,?_⟩
 rw [Reps]
 refine ⟨_,_,rfl,by rw [Rep]; exact ⟨hl,hx,rfl,e1,Prs.reps p1⟩,?_⟩
 rw [Reps]
 refine ⟨_,_,rfl,by rw [Rep]; exact ⟨da,dx,rfl,e2,jej p2⟩,?_⟩
 rw [Reps]
 exact ⟨_,_,rfl,by rw [Rep]; exact ⟨ch,xs,rfl,e3,Lks.reps p3⟩,by rw [Reps]⟩
theorem jn9 {H:Hp} {t:Addr} {x y:V} {a b:Dt} (e:H t = some (.tup [x,y])) (h1:Rep H a x) (h2:Rep H b y):Rep H (.tup [a,b]) (.ref t):=by
 rw [Rep]
 refine ⟨t,_,rfl,e,?_⟩
 rw [Reps]
 refine ⟨_,_,rfl,h1,?_⟩
 rw [Reps]
 exact ⟨_,_,rfl,h2,by rw [Reps]⟩
theorem js4 (ps ts qs:List (Int × Int)) (ds:List (Int × Int × Int)) (c:List Lk):depP (.tup [webD ps ts,triD qs ds c]) ≤ 20:=by
 have h1:=jbx ps
 have h2:=jbx ts
 have h3:=jbx qs
 have h4:=jfb c
 have h5:∀ l:List (Int × Int × Int),jb8 (l.map tripD) ≤ 1:=fun l=>by
  induction l with
  | nil=>rw [List.map_nil,jb8]; omega
  | cons p r ih =>
   rw [List.map_cons,jb8]
   have e:depP (tripD p) = 1:=rfl
   omega
 have h6:=h5 ds
 unfold webD triD prsD
 simp only [depP,jb8]
 omega
def jqb (K:PySem.W.Frag):Sp:=fun vs H Q _=>∃ a ns,vs = [.ref a]∧Scr K H a ns∧∀ H',Q (.bl true) H'
theorem ok_law {f:Addr} {fd:FuncData} {f_law_begun:Addr} {d_law_begun:FuncData} {f_law_laid:Addr} {d_law_laid:FuncData} {f_law_chain:Addr} {d_law_chain:FuncData} {f_law_lets:Addr} {d_law_lets:FuncData} {f_lets_fixed:Addr} {d_lets_fixed:FuncData} {f_law_own:Addr} {d_law_own:FuncData} {f_law_bent:Addr} {d_law_bent:FuncData} {f_law_papers_right:Addr} {d_law_papers_right:FuncData} (B:Blt mg) (D:DefAt K mg "law" (top 54) ["_law_script"] f fd) (D_law_begun:DefAt K mg "_law_begun" (top 38) ["_law_script","_law_k"] f_law_begun d_law_begun) (G_law_begun:FnOk P w K mg base CX0 1 f_law_begun d_law_begun ["_law_script","_law_k"] (jny K)) (D_law_laid:DefAt K mg "_law_laid" (top 41) ["_law_state","_law_most"] f_law_laid d_law_laid) (G_law_laid:FnOk P w K mg base CX0 3 f_law_laid d_law_laid ["_law_state","_law_most"] jnr) (D_law_chain:DefAt K mg "_law_chain" (top 43) ["_law_state","_law_web","_law_dues","_law_most"] f_law_chain d_law_chain) (G_law_chain:FnOk P w K mg base CX0 2 f_law_chain d_law_chain ["_law_state","_law_web","_law_dues","_law_most"] jj9) (D_law_lets:DefAt K mg "_law_lets" (top 46) ["_law_web","_law_dues","_law_chain_here"] f_law_lets d_law_lets) (G_law_lets:FnOk P w K mg base CX0 2 f_law_lets d_law_lets ["_law_web","_law_dues","_law_chain_here"] jnq) (D_lets_fixed:DefAt K mg "lets_fixed" (top 35) ["web","thing"] f_lets_fixed d_lets_fixed) (G_lets_fixed:FnOk P w K mg base CX0 6 f_lets_fixed d_lets_fixed ["web","thing"] jkp) (D_law_own:DefAt K mg "_law_own" (top 37) ["_law_web"] f_law_own d_law_own) (G_law_own:FnOk P w K mg base CX0 1 f_law_own d_law_own ["_law_web"] jnv) (D_law_bent:DefAt K mg "_law_bent" (top 45) ["_law_state","_law_web","_law_chain_here"] f_law_bent d_law_bent) (G_law_bent:FnOk P w K mg base CX0 3 f_law_bent d_law_bent ["_law_state","_law_web","_law_chain_here"] jnx) (D_law_papers_right:DefAt K mg "_law_papers_right" (top 53) ["_law_state","_law_web","_law_halves","_law_dues","_law_chain_here"] f_law_papers_right d_law_papers_right) (G_law_papers_right:FnOk P w K mg base CX0 7 f_law_papers_right d_law_papers_right ["_law_state","_law_web","_law_halves","_law_dues","_law_chain_here"] jni):FnOk P w K mg base CX0 9 f fd ["_law_script"] (jqb K):=by
 have sc:FnScope ["_law_script","_law_k","_law_state","_law_web","_law_halves","_law_dues","_law_chain_here","_law_turn","_law_bent_here","_law_own_here","_law_handed","_law_found"] ["_law_script"] (jaf (top 54)):=⟨rfl,rfl,rfl,by decide +kernel,rfl,by decide +kernel,by decide +kernel⟩
 refine D.F.ok sc (fun vs H Q E h=>?_) (fun cdv A outer s H vs Q E hr h=>?_)
 ·obtain ⟨a,ns,rfl,_⟩:=h
  rfl
 obtain ⟨a,ns,rfl,hs,h⟩:=h
 have hu:=jbh hr
 have hu0:_ < PySem.cLine:=Nat.lt_of_succ_lt hu
 refine ⟨_,(ja2 (jbm PassesOwn.never rfl (jbv rfl B.range (ja0 (jad (q_max rfl) rfl B.max PyProof.Rows.boot_max (ja0 ja4 (ja0 (jad (q_min rfl) rfl B.min PyProof.Rows.boot_min (ja0 (jad jdv rfl B.len PySem.boot_len (ja0 (qv 0) ja3)) (ja0 ja4 ja3))) ja3))) ja3)) (ja9 (i:=1) sc.nd rfl (Or.inl rfl)) (ja2 (jak (i:=2) sc.nd rfl (Or.inl rfl) (ja7 G_law_begun (hr.mono (by decide)) rfl D_law_begun.m D_law_begun.F.kp D_law_begun.b .nil jap (ja0 (qv 0) (ja0 (qv 1) ja3)))) (ja2 (jd3 (ja7 G_law_laid (hr.mono (by decide)) rfl D_law_laid.m D_law_laid.F.kp D_law_laid.b .nil jap (ja0 (qv 2) (ja0 ja4 ja3))) (jcd (n:=3) rfl (jag (ja9 (i:=3) sc.nd rfl (Or.inl rfl)) (jag (ja9 (i:=4) sc.nd rfl (Or.inl rfl)) (jag (ja9 (i:=5) sc.nd rfl (Or.inl rfl)) jbf))))) (ja2 (jak (i:=6) sc.nd rfl (Or.inl rfl) (ja7 G_law_chain (hr.mono (by decide)) rfl D_law_chain.m D_law_chain.F.kp D_law_chain.b .nil jap (ja0 (qv 2) (ja0 (qv 3) (ja0 (qv 5) (ja0 ja4 ja3)))))) (ja2 (jb1 (jb4 (jb6 (ja7 G_law_lets (hr.mono (by decide)) rfl D_law_lets.m D_law_lets.F.kp D_law_lets.b .nil jap (ja0 (qv 3) (ja0 (qv 5) (ja0 (qv 6) ja3)))))) (ja6 (jah jbd)) jal) (ja2 (jb1 (jao jo7 (ja7 G_lets_fixed (hr.mono (by decide)) rfl D_lets_fixed.m D_lets_fixed.F.kp D_lets_fixed.b .nil jap (ja0 (ja7 G_law_own (hr.mono (by decide)) rfl D_law_own.m D_law_own.F.kp D_law_own.b .nil jap (ja0 (qv 3) ja3)) (ja0 (jaz (ja0 (qv 4) (ja0 (qv 5) (ja0 (jb5 jcm rfl B.list PyProof.Rows.boot_list (ja0 (qv 6) ja3)) ja3)))) ja3))) jbd (jam _)) (ja6 (jah jbd)) jal) (ja2 (jb1 (PW.pt (jdp (jao (jfm hr.units) (qv 5) (jc0 ja3) (jam _)) (jcy (jao jo7 (ja7 G_lets_fixed (hr.mono (by decide)) rfl D_lets_fixed.m D_lets_fixed.F.kp D_lets_fixed.b .nil jap (ja0 (ja7 G_law_own (hr.mono (by decide)) rfl D_law_own.m D_law_own.F.kp D_law_own.b .nil jap (ja0 (qv 3) ja3)) (ja0 (jaz (ja0 (qv 4) (ja0 (jb3 q_slL (qv 5) (jbe ja4) jbg) (ja0 (qv 6) ja3)))) ja3))) jbd (jam _))))) (ja6 (jah jbd)) jal) (ja2 (jbm PassesOwn.never rfl (jbv rfl B.range (ja0 (jau je3 ja4 (jb5 jri rfl B.int PyProof.Rows.boot_int (ja0 (jbn (jfm hr.units) (qv 6) (jc0 ja3) (jam _)) ja3))) ja3)) (ja9 (i:=7) sc.nd rfl (Or.inl rfl)) (ja2 (jak (i:=8) sc.nd rfl (Or.inl rfl) (ja7 G_law_bent (hr.mono (by decide)) rfl D_law_bent.m D_law_bent.F.kp D_law_bent.b .nil jap (ja0 (qv 2) (ja0 (qv 3) (ja0 (qv 6) ja3))))) (ja2 (jb1 (PW.pt (jdp (jao q_gt (qv 7) ja4 (jam _)) (jcy (jao (jfm hr.units) (qv 8) (jc0 ja3) (jam _))))) (ja6 (jak (i:=8) sc.nd rfl (Or.inl rfl) (ja7 G_law_bent (hr.mono (by decide)) rfl D_law_bent.m D_law_bent.F.kp D_law_bent.b .nil jap (ja0 (qv 2) (ja0 (qv 3) (ja0 (qv 8) ja3)))))) jal) (ja2 (jak (i:=9) sc.nd rfl (Or.inl rfl) (ja7 G_law_own (hr.mono (by decide)) rfl D_law_own.m D_law_own.F.kp D_law_own.b .nil jap (ja0 (qv 3) ja3))) (ja2 (jak (i:=10) sc.nd rfl (Or.inl rfl) (jaz (ja0 (jb5 jcm rfl B.list PyProof.Rows.boot_list (ja0 (qv 4) ja3)) (ja0 (jb5 jcm rfl B.list PyProof.Rows.boot_list (ja0 (qv 5) ja3)) (ja0 (jb5 jcm rfl B.list PyProof.Rows.boot_list (ja0 (qv 8) ja3)) ja3))))) (ja2 (jak (i:=11) sc.nd rfl (Or.inl rfl) (ja7 G_lets_fixed (hr.mono (by decide)) rfl D_lets_fixed.m D_lets_fixed.F.kp D_lets_fixed.b .nil jap (ja0 (qv 9) (ja0 (qv 10) ja3)))) (ja2 (jb1 (PW.pt (jcx (jb4 (jb6 (jad (jdl .bl) rfl B.isinstance PyProof.Rows.boot_isinstance (ja0 (qv 11) (ja0 (jbq (v:=.ty "bool") rfl B.bool PyProof.Rows.boot_bool rfl) ja3))))) (jco (jao (jfm hr.units) (jaz (ja0 (qv 9) (ja0 (qv 10) ja3))) (jaz (ja0 (qv 3) (ja0 (jaz (ja0 (qv 4) (ja0 (qv 5) (ja0 (qv 8) ja3)))) ja3))) (jam _))))) (ja6 (jah jbd)) jal) (ja6 (jb1 (jao q_ne (qv 11) (ja7 G_law_lets (hr.mono (by decide)) rfl D_law_lets.m D_law_lets.F.kp D_law_lets.b .nil jap (ja0 (qv 3) (ja0 (qv 5) (ja0 (qv 8) ja3)))) (jam _)) (ja6 (jah jbd)) jal))))))))) (ja6 (jb1 (jb4 (jb6 (ja7 G_law_papers_right (hr.mono (by decide)) rfl D_law_papers_right.m D_law_papers_right.F.kp D_law_papers_right.b .nil jap (ja0 (qv 2) (ja0 (qv 3) (ja0 (qv 4) (ja0 (qv 5) (ja0 (qv 6) ja3)))))))) (ja6 (jah jbd)) jal)))))))))) (ja6 (jah jbd))),?_⟩
 refine ja8 fun R hR=>?_
 obtain ⟨N,hN,hN2⟩:∃ N:Nat,N = (if (1:Int) < (if (12:Int) < (ns.length:Int) then 12 else (ns.length:Int)) then (if (12:Int) < (ns.length:Int) then 12 else (ns.length:Int)) else 1).toNat∧N < 70:=⟨_,rfl,by split <;> split <;> omega⟩
 refine jb0 (Itr 0 N) H (fun R' hR'=>?_) (jc2 (n:=N) (fun i σ H1=>∃ v1 v2 v3 v4 v5 v6 v7 v8 v9 v10 v11,σ = [some (.ref a),v1,v2,v3,v4,v5,v6,v7,v8,v9,v10,v11]∧Scr K H1 a ns) ⟨none,none,none,none,none,none,none,none,none,none,none,rfl,hs⟩ ?_ ?_)
 ·unfold jfr
  walk_at "RD"
  refine ⟨a,_,rfl,.inl hs.sq,?_⟩
  simp_arith [List.length_map]
  refine ⟨_,rfl,?_,?_,?_⟩
  ·split <;> split <;> omega
  ·split <;> split <;> omega
  ·rw [← hN]
   exact hR'
 ·rintro i σ H1 hi ⟨v1,v2,v3,v4,v5,v6,v7,v8,v9,v10,v11,rfl,hs1⟩
  simp only [jff,List.set_cons_zero,List.set_cons_succ]
  refine ja8 fun R9 hR9=>?_
  walk_at "RD"
  refine ⟨a,0 + (i:Int),ns,rfl,hs1,by omega,by omega,fun st o hst so=>?_⟩
  have s2:=ja5 hst o
  have e2:upd H1 st o st = some o:=ja1
  have hs2:=hs1.tups s2.tups
  generalize upd H1 st o = H2 at s2 e2 hs2
  walk_at "RD"
  subst hR9
  refine ja8 fun R9 hR9=>?_
  walk_at "RD"
  refine ⟨st,o,rfl,e2,so,fun t wv hl da hx dx hs' ms cs raw tw H3 o3 b3 e3 so3 et hw eh ph ed pd LA=>?_⟩
  have hs3:=hs2.tups (b3.tups e2 so.imm)
  simp_arith [et,jaj]
  have wok:=LA.web
  have std:=LA.stands
  have lh:=LA.lenH
  have ld:=LA.lenD
  have bd:=LA.rowsD
  clear LA
  generalize jbt ms cs = ps at hw wok std
  generalize jcn ms cs raw = ts at hw wok std
  generalize jbp ms cs hs' = qs at ph std lh
  generalize jbj ms tw raw = ds at pd std ld bd
  have std':jc1 ps ts (papD (qs.map jb9) (ds.map tripD)) = true:=std
  have hdt:=jib std'
  subst hR9
  refine ja8 fun R9 hR9=>?_
  walk_at "RD"
  refine ⟨st,wv,ps,ts,da,dx,ds,o3,rfl,e3,so3,hw,wok,ed,pd,by omega,hdt,fun ch xs c H4 o4 b4 e4 so4 hch ech pch lch gch cch=>?_⟩
  have hs4:=hs3.tups (b4.tups e3 so3.imm)
  have k4:Kq wv ps ts hl hx qs da dx ds ch xs c st H4 o4:=by
   have t:=b4.tups e3 so3.imm
   exact ⟨e4,so4,jf4 hw b4 e3 so3,b4 _ _ (je8 e3 so3 eh ph fun v y z=>let ⟨a,q,_⟩:=z; ⟨a,q⟩) eh,Prs.tups t ph,b4 _ _ (je8 e3 so3 ed pd fun v y z=>let ⟨a,q,_⟩:=z; ⟨a,q⟩) ed,jbk t pd,ech,pch⟩
  clear hs3 hw eh ph ed pd b3 et hs2 s2 e2 so hs1 b4 e3 so3 e4 so4 ech pch hch
  have g8:∀ x ∈ c,x.2.length ≤ 2:=fun x hx=>by cases gch x hx <;> simp
  have fx0:fixB ps ts qs ds c = true:=by unfold fixB; rw [std',cch]; rfl
  subst hR9
  refine ja8 fun R9 hR9=>?_
  walk_at "RD"
  refine ⟨wv,ps,ts,da,dx,ds,ch,xs,c,rfl,k4.web,wok,k4.ed,k4.pd,by omega,hdt,k4.ec,k4.pc,by omega,fun H5 s5=>?_⟩
  rw [cch]
  have k5:=k4.same s5
  have hs5:=hs4.tups s5.tups
  walk_at "RD"
  subst hR9
  refine ja8 fun R9 hR9=>?_
  walk_at "RD"
  refine ⟨wv,ps,ts,rfl,k5.web,fun t4 H6 s6 nw=>?_⟩
  have wb6:jc4 H6 (.ref t4) ps ts:=jsm nw
  have k6:=k5.same s6
  simp_arith [jaj,k6.ec]
  intro l7 hl7
  have q_l7:=ja5 hl7 (.lst xs)
  have s7:=(Same.refl H6).trans q_l7
  have e_l7:upd H6 l7 (.lst xs) l7 = some (.lst xs):=ja1
  generalize upd H6 l7 (.lst xs) = H7 at q_l7 s7 e_l7
  intro p8 hp8
  have q_p8:=ja5 hp8 (.tup [.ref hl,.ref da,.ref l7])
  have s8:=s7.trans q_p8
  have e_p8:upd H7 p8 (.tup [.ref hl,.ref da,.ref l7]) p8 = some (.tup [.ref hl,.ref da,.ref l7]):=ja1
  have e_l7:=q_p8 _ _ e_l7
  generalize upd H7 p8 (.tup [.ref hl,.ref da,.ref l7]) = H8 at q_p8 s8 e_p8 e_l7
  have k8:=k6.same s8
  refine ⟨.ref t4,ps,ts,p8,hl,da,l7,qs,ds,c,rfl,wb6.same s8,wok,⟨e_p8,⟨hx,k8.eh,k8.ph⟩,⟨dx,k8.ed,k8.pd⟩,⟨xs,e_l7,k8.pc⟩⟩,by omega,by omega,(fun x hx=>by have:=g8 x hx; omega),fun H9 s9=>?_⟩
  rw [fx0]
  have k9:=k8.same s9
  have hs9:=hs5.tups ((s6.trans s8).trans s9).tups
  clear k4 k5 k6 k8 hs4 hs5 s5 s6 s7 s8 s9 wb6 nw e_l7 e_p8 q_l7 q_p8 hl7 hp8
  walk_at "RD"
  rw [if_neg (by decide)]
  subst hR9
  refine jeo fun R9 E9 hR9 hE9=>?_
  have PN:∀ (H':Hp) (o':HO),Kq wv ps ts hl hx qs da dx ds ch xs c st H' o'→Scr K H' a ns→R9 E9 [some (.ref a),some (.int (0 + (i:Int))),some (.ref st),some wv,some (.ref hl),some (.ref da),some (.ref ch),v7,v8,v9,v10,v11] H':=by
   clear k9 hs9
   intro H9 o9 k9 hs9
   subst hR9
   subst hE9
   refine ja8 fun R8 hR8=>?_
   refine jdw (ι:=Nat × Hp) (fun y=>Itr 0 y.1) (fun y=>y.2) (fun y=>Same H9 y.2∧y.1 ≤ 4∧(c = []→y.1 = 0)) (fun R' hR'=>?_) ?_
   ·unfold jfr
    walk_at "RD"
    intro e0 he0
    have q_e0:=ja5 he0 (.lst [])
    have sC:=(Same.refl H9).trans q_e0
    have e_e0:upd H9 e0 (.lst []) e0 = some (.lst []):=ja1
    generalize upd H9 e0 (.lst []) = HC at q_e0 sC e_e0
    have kC:=k9.same sC
    refine ⟨.lst (c.map lkD),.lst [],(by rw [Rep]; exact ⟨ch,xs,rfl,kC.ec,Lks.reps kC.pc⟩),(by rw [Rep]; exact ⟨e0,[],rfl,e_e0,by rw [Reps]⟩),(by rw [depP]; have:=jfb c; omega),.inl ⟨_,_,rfl,rfl⟩,?_⟩
    simp only [if_true,nilP]
    by_cases hC:c = []
    ·rw [show c.isEmpty = true by rw [hC]; rfl]
     simp only [Bool.not_true,Bool.false_eq_true,if_false]
     exact ⟨cmL (by decide) (by decide),_,rfl,by decide,by decide,hR' (0,HC) ⟨sC,by show 0 ≤ 4; decide,fun _=>rfl⟩⟩
    ·rw [show c.isEmpty = false by cases c with | nil=>exact absurd rfl hC | cons _ _=>rfl]
     simp only [Bool.not_false,if_true]
     exact ⟨cmL (by decide) (by decide),_,rfl,by decide,by decide,hR' (4,HC) ⟨sC,by show 4 ≤ 4; decide,fun z=>absurd z hC⟩⟩
   rintro ⟨M,HA⟩ ⟨sA,hM,hM0⟩
   dsimp only at sA hM hM0
   refine jc2 (n:=M) (fun j σ Hj=>∃ v7 v8 v9 v10 v11 oj,σ = [some (.ref a),some (.int (0 + (i:Int))),some (.ref st),some wv,some (.ref hl),some (.ref da),some (.ref ch),v7,v8,v9,v10,v11]∧Scr K Hj a ns∧Kq wv ps ts hl hx qs da dx ds ch xs c st Hj oj) ⟨v7,v8,v9,v10,v11,o9,rfl,hs9.tups sA.tups,k9.same sA⟩ ?_ ?_
   ·rintro j σ Hj hj ⟨v7,v8,v9,v10,v11,oj,rfl,hsj,kj⟩
    have hcn:c ≠ []:=fun z=>by have:=hM0 z; omega
    have hpn:=ps_ne cch hcn
    simp only [jff,List.set_cons_zero,List.set_cons_succ]
    refine ja8 fun R7 hR7=>?_
    walk_at "RD"
    refine ⟨st,wv,ch,ps,ts,oj,xs,c,2,rfl,kj.e,kj.so,kj.web,wok,hpn,kj.ec,kj.pc,hcn,by omega,g8,by decide,fun r xs' c' HB oB bB eB soB hr er pr lc' l8'=>?_⟩
    have kB:=kj.but bB eB soB
    have hsB:=hsj.tups (bB.tups kj.e kj.so.imm)
    subst hR7
    refine jeo fun R7 E7 hR7 hE7=>?_
    have PQ:∀ (H':Hp) (o':HO) (r:Addr) (xs':List V) (c':List Lk),Kq wv ps ts hl hx qs da dx ds ch xs c st H' o'→Scr K H' a ns→H' r = some (.lst xs')→Lks H' xs' c'→c'.length ≤ 40→(∀ x ∈ c',x.2.length ≤ 8)→R7 E7 [some (.ref a),some (.int (0 + (i:Int))),some (.ref st),some wv,some (.ref hl),some (.ref da),some (.ref ch),some (.int (0 + (j:Int))),some (.ref r),v9,v10,v11] H':=by
     clear kB hsB er pr lc' l8' hr bB eB soB
     intro HB oB r xs' c' kB hsB er pr lc' l8'
     subst hR7
     subst hE7
     refine ja8 fun R6 hR6=>?_
     walk_at "RD"
     refine ⟨wv,ps,ts,rfl,kB.web,fun t4 HC sC nw=>?_⟩
     have wbC:=jsm nw
     have kC:=kB.same sC
     subst hR6
     refine ja8 fun R6 hR6=>?_
     simp_arith [jaj,kC.eh]
     intro l1 hl1
     have q_l1:=ja5 hl1 (.lst hx)
     have sD:=(Same.refl HC).trans q_l1
     have e_l1:upd HC l1 (.lst hx) l1 = some (.lst hx):=ja1
     generalize upd HC l1 (.lst hx) = HD at q_l1 sD e_l1
     have kD:=kC.same sD
     simp only [kD.ed]
     intro l2 hl2
     have q_l2:=ja5 hl2 (.lst dx)
     have sE:=sD.trans q_l2
     have e_l2:upd HD l2 (.lst dx) l2 = some (.lst dx):=ja1
     have e_l1:=q_l2 _ _ e_l1
     generalize upd HD l2 (.lst dx) = HE at q_l2 sE e_l2 e_l1
     have er4:=(sC.trans sE) _ _ er
     simp only [er4]
     intro l3 hl3
     have q_l3:=ja5 hl3 (.lst xs')
     have sF:=sE.trans q_l3
     have e_l3:upd HE l3 (.lst xs') l3 = some (.lst xs'):=ja1
     have e_l1:=q_l3 _ _ e_l1
     have e_l2:=q_l3 _ _ e_l2
     generalize upd HE l3 (.lst xs') = HF at q_l3 sF e_l3 e_l1 e_l2
     intro tp htp
     have q_tp:=ja5 htp (.tup [.ref l1,.ref l2,.ref l3])
     have sG:=sF.trans q_tp
     have e_tp:upd HF tp (.tup [.ref l1,.ref l2,.ref l3]) tp = some (.tup [.ref l1,.ref l2,.ref l3]):=ja1
     have e_l1:=q_tp _ _ e_l1
     have e_l2:=q_tp _ _ e_l2
     have e_l3:=q_tp _ _ e_l3
     generalize upd HF tp (.tup [.ref l1,.ref l2,.ref l3]) = HG at q_tp sG e_tp e_l1 e_l2 e_l3
     have sBG:=sC.trans sG
     have kG:=kB.same sBG
     have prG:=Lks.tups pr sBG.tups
     have erG:=sBG _ _ er
     have fxG:Fx HG tp l1 l2 l3 qs ds c':=⟨e_tp,⟨hx,e_l1,kG.ph⟩,⟨dx,e_l2,kG.pd⟩,⟨xs',e_l3,prG⟩⟩
     have wbG:=wbC.same sG
     subst hR6
     refine ja8 fun R6 hR6=>?_
     walk_at "RD"
     refine ⟨.ref t4,ps,ts,tp,l1,l2,l3,qs,ds,c',rfl,wbG,wok,fxG,by omega,by omega,l8',fun HI sI=>?_⟩
     have kI:=kG.same sI
     have fxI:=fxG.same sI
     have wbI:=wbG.same sI
     have prI:=Lks.tups prG sI.tups
     have erI:=sI _ _ erG
     have hfc:fixB ps ts qs ds c' = jb7 ps ts ds [] [] c':=by unfold fixB; rw [std',Bool.true_and]
     rw [hfc]
     subst hR6
     refine ja8 fun R6 hR6=>?_
     simp_arith [kd,isi]
     intro u1 hu1
     have q_u1:=ja5 hu1 (.tup [.ref t4,.ref tp])
     have sJ:=(Same.refl HI).trans q_u1
     have e_u1:upd HI u1 (.tup [.ref t4,.ref tp]) u1 = some (.tup [.ref t4,.ref tp]):=ja1
     generalize upd HI u1 (.tup [.ref t4,.ref tp]) = HJ at q_u1 sJ e_u1
     intro u2 hu2
     have q_u2:=ja5 hu2 (.tup [.ref hl,.ref da,.ref r])
     have sK:=sJ.trans q_u2
     have e_u2:upd HJ u2 (.tup [.ref hl,.ref da,.ref r]) u2 = some (.tup [.ref hl,.ref da,.ref r]):=ja1
     have e_u1:=q_u2 _ _ e_u1
     generalize upd HJ u2 (.tup [.ref hl,.ref da,.ref r]) = HK at q_u2 sK e_u2 e_u1
     intro u3 hu3
     have q_u3:=ja5 hu3 (.tup [wv,.ref u2])
     have sL:=sK.trans q_u3
     have e_u3:upd HK u3 (.tup [wv,.ref u2]) u3 = some (.tup [wv,.ref u2]):=ja1
     have e_u1:=q_u3 _ _ e_u1
     have e_u2:=q_u3 _ _ e_u2
     generalize upd HK u3 (.tup [wv,.ref u2]) = HL at q_u3 sL e_u3 e_u1 e_u2
     have kL:=kI.same sL
     have fxL:=fxI.same sL
     have wbL:=wbI.same sL
     have prL:=Lks.tups prI sL.tups
     have erL:=sL _ _ erI
     refine ⟨_,_,jn9 e_u1 (jlj wbL) (jnc fxL),jn9 e_u3 (jlj kL.web) (jnc ⟨e_u2,⟨hx,kL.eh,kL.ph⟩,⟨dx,kL.ed,kL.pd⟩,⟨xs',erL,prL⟩⟩),js4 _ _ _ _ _,.inr ⟨_,_,rfl,rfl⟩,?_⟩
     simp only [if_true,jg5,Bool.not_true,Bool.false_eq_true,if_false]
     subst hR6
     walk_at "RD"
     refine ⟨wv,ps,ts,da,dx,ds,r,xs',c',rfl,kL.web,wok,kL.ed,kL.pd,by omega,hdt,erL,prL,by omega,fun HM sM=>?_⟩
     simp only [decide_true,Bool.not_true,Bool.false_eq_true,if_false]
     exact ⟨_,_,_,_,_,oB,rfl,hsB.tups ((sBG.trans sI).trans (sL.trans sM)).tups,kL.same sM⟩
    walk_at "RD"
    by_cases ct:(0:Int) + (j:Int) > 1
    case neg =>
     simp only [decide_eq_false ct,Bool.false_eq_true,if_false]
     exact PQ _ _ _ _ _ kB hsB er pr (by omega) (fun x hx=>by have:=l8' x hx; omega)
    simp only [decide_eq_true ct,if_true]
    intro e0 he0
    have q_e0:=ja5 he0 (.lst [])
    have sC:=(Same.refl HB).trans q_e0
    have e_e0:upd HB e0 (.lst []) e0 = some (.lst []):=ja1
    generalize upd HB e0 (.lst []) = HC at q_e0 sC e_e0
    have kC:=kB.same sC
    have hsC:=hsB.tups sC.tups
    have prC:=Lks.tups pr sC.tups
    have erC:=sC _ _ er
    refine ⟨.lst (c'.map lkD),.lst [],(by rw [Rep]; exact ⟨r,xs',rfl,erC,Lks.reps prC⟩),(by rw [Rep]; exact ⟨e0,[],rfl,e_e0,by rw [Reps]⟩),(by rw [depP]; have:=jfb c'; omega),.inl ⟨_,_,rfl,rfl⟩,?_⟩
    simp only [if_true,nilP]
    by_cases hC:c' = []
    ·rw [show c'.isEmpty = true by rw [hC]; rfl]
     simp only [Bool.not_true,Bool.false_eq_true,if_false]
     exact PQ _ _ _ _ _ kC hsC erC prC (by omega) (fun x hx=>by have:=l8' x hx; omega)
    rw [show c'.isEmpty = false by cases c' with | nil=>exact absurd rfl hC | cons _ _=>rfl]
    simp only [Bool.not_false,if_true]
    refine ⟨st,wv,r,ps,ts,oB,xs',c',4,rfl,kC.e,kC.so,kC.web,wok,hpn,erC,prC,hC,by omega,l8',by decide,fun r2 xs2 c2 HD oD bD eD soD hr2 er2 pr2 lc2 l82=>?_⟩
    exact PQ _ _ _ _ _ (kC.but bD eD soD) (hsC.tups (bD.tups kC.e kC.so.imm)) er2 pr2 (by omega) (fun x hx=>by have:=l82 x hx; omega)
   ·rintro σ Hj ⟨v7,v8,v9,v10,v11,oj,rfl,hsj,kj⟩
    dsimp only
    subst hR8
    walk_at "RD"
    refine ⟨st,wv,hl,da,ch,ps,ts,hx,qs,dx,ds,xs,c,oj,rfl,kj,wok,std',by omega,by omega,bd,gch,lch,fun HK oK bK eK soK=>?_⟩
    simp only [Bool.not_true,Bool.false_eq_true,if_false]
    exact ⟨_,_,_,_,_,_,_,_,_,_,_,rfl,hsj.tups (bK.tups kj.e kj.so.imm)⟩
  have tdep:∀ l:List (Int × Int × Int),jb8 (l.map tripD) ≤ 1:=fun l=>by
   induction l with
   | nil=>rw [List.map_nil,jb8]; omega
   | cons p r ih =>
    rw [List.map_cons,jb8]
    have e:depP (tripD p) = 1:=rfl
    omega
  walk_at "RD"
  intro e0 he0
  have q_e0:=ja5 he0 (.lst [])
  have sC:=(Same.refl H9).trans q_e0
  have e_e0:upd H9 e0 (.lst []) e0 = some (.lst []):=ja1
  generalize upd H9 e0 (.lst []) = HC at q_e0 sC e_e0
  have kC:=k9.same sC
  have hsC:=hs9.tups sC.tups
  refine ⟨.lst (ds.map tripD),.lst [],(by rw [Rep]; exact ⟨da,dx,rfl,kC.ed,jej kC.pd⟩),(by rw [Rep]; exact ⟨e0,[],rfl,e_e0,by rw [Reps]⟩),(by rw [depP]; have:=tdep ds; omega),.inl ⟨_,_,rfl,rfl⟩,?_⟩
  simp only [if_true,nilP]
  by_cases hD:ds = []
  ·rw [show ds.isEmpty = true by rw [hD]; rfl]
   simp only [Bool.not_true,Bool.false_eq_true,if_false]
   exact PN _ _ kC hsC
  rw [show ds.isEmpty = false by cases ds with | nil=>exact absurd rfl hD | cons _ _=>rfl]
  simp only [Bool.not_false,if_true]
  refine ⟨wv,ps,ts,rfl,kC.web,fun t4 H6 s6 nw=>?_⟩
  have wb6:jc4 H6 (.ref t4) ps ts:=jsm nw
  have k6:=kC.same s6
  simp_arith [jaj,k6.ed]
  rw [jf0 (by decide),show (1:Int).toNat = 1 from rfl]
  intro l7 hl7
  have q_l7:=ja5 hl7 (.lst (dx.drop 1))
  have s7:=(Same.refl H6).trans q_l7
  have e_l7:upd H6 l7 (.lst (dx.drop 1)) l7 = some (.lst (dx.drop 1)):=ja1
  generalize upd H6 l7 (.lst (dx.drop 1)) = H7 at q_l7 s7 e_l7
  intro p8 hp8
  have q_p8:=ja5 hp8 (.tup [.ref hl,.ref l7,.ref ch])
  have s8:=s7.trans q_p8
  have e_p8:upd H7 p8 (.tup [.ref hl,.ref l7,.ref ch]) p8 = some (.tup [.ref hl,.ref l7,.ref ch]):=ja1
  have e_l7:=q_p8 _ _ e_l7
  generalize upd H7 p8 (.tup [.ref hl,.ref l7,.ref ch]) = H8 at q_p8 s8 e_p8 e_l7
  have k8:=k6.same s8
  refine ⟨.ref t4,ps,ts,p8,hl,l7,ch,qs,ds.drop 1,c,rfl,wb6.same s8,wok,⟨e_p8,⟨hx,k8.eh,k8.ph⟩,⟨_,e_l7,jec 1 k8.pd⟩,⟨xs,k8.ec,k8.pc⟩⟩,by rw [List.length_drop]; omega,by omega,(fun x hx=>by have:=g8 x hx; omega),fun HD sD=>?_⟩
  have hfx:fixB ps ts qs (ds.drop 1) c = false:=by
   cases ds with
   | nil=>exact absurd rfl hD
   | cons d r =>
    unfold fixB
    rw [List.drop_succ_cons,List.drop_zero,js5 std',Bool.false_and]
  rw [hfx]
  dsimp only
  rw [if_neg (by decide)]
  exact PN _ _ (k8.same sD) (hsC.tups ((s6.trans s8).trans sD).tups)
 ·rintro σ H1 ⟨v1,v2,v3,v4,v5,v6,v7,v8,v9,v10,v11,rfl,hs1⟩
  subst hR
  walk_at "RD"
  exact h _
end
end My
set_option autoImplicit true
namespace My
open PySem L2
abbrev aT (K:PySem.W.Frag) (x:Str) (f:Addr):Prop:=PySem.W.nsIn K mainGlobals x = some (some (.ref f))
abbrev lT (K:PySem.W.Frag) (x q:Str) (st:Stmt) (f:Addr) (oc:Value) (od an:Option Addr) (sl:Array (Option Value)) (kV dc pm cd ct:Value):Prop:=K.lookup f = some ⟨oc,od,.func (PySem.W.fnOf x q (jdu st) (jdj st) (jaf st) .none kV dc pm an cd ct),sl⟩
abbrev cT (K:PySem.W.Frag) (cd:Value) (x:Str):Prop:=PySem.W.codeIn K cd x = true
abbrev kT (K:PySem.W.Frag) (f:Addr):Prop:=PySem.W.keepIn K (.ref f) = true
abbrev zT (K:PySem.W.Frag) (x:Str):Prop:=PySem.W.nsIn K mainGlobals x = some none
theorem dmk {K:PySem.W.Frag} {h:Heap} {mg:Str→Option Value} (X:K.In h) (G:h.Ns mainGlobals mg) {x:Str} {st:Stmt} {f:Addr} {oc:Value} {od an:Option Addr} {sl:Array (Option Value)} {kV dc pm cd ct:Value} (a:aT K x f) (l:lT K x x st f oc od an sl kV dc pm cd ct) (c:cT K cd x) (k:kT K f) (ps:List Str)
  (b:jli K (PySem.W.fnOf x x (jdu st) (jdj st) (jaf st) .none kV dc pm an cd ct) ps []):DefAt K mg x st ps f (PySem.W.fnOf x x (jdu st) (jdj st) (jaf st) .none kV dc pm an cd ct):=⟨jax l c k,b,PySem.W.mg_of X G a⟩
theorem all_mk {l:PySem.W.OpenLaw} {w:World} {K:PySem.W.Frag} {h:Heap} {mg:Str→Option Value} {fa:Addr} (X:K.In h) (G:h.Ns mainGlobals mg) (hfa:mg "law" = some (.ref fa)) (a0:aT K "is_whole" f0) (l0:lT K "is_whole" "is_whole" (top 1) f0 oc0 od0 an0 sq0 kV0 dc0 pm0 cd0 ct0) (g0:cT K cd0 "is_whole") (k0:kT K f0) (a1:aT K "is_tuple_of" f1) (l1:lT K "is_tuple_of" "is_tuple_of" (top 2) f1 oc1 od1 an1 sq1 kV1 dc1 pm1 cd1 ct1) (g1:cT K cd1 "is_tuple_of") (k1:kT K f1) (a2:aT K "is_pair_of_wholes" f2) (l2:lT K "is_pair_of_wholes" "is_pair_of_wholes" (top 3) f2 oc2 od2 an2 sq2 kV2 dc2 pm2 cd2 ct2) (g2:cT K cd2 "is_pair_of_wholes") (k2:kT K f2) (a3:aT K "is_list_up_to" f3) (l3:lT K "is_list_up_to" "is_list_up_to" (top 4) f3 oc3 od3 an3 sq3 kV3 dc3 pm3 cd3 ct3) (g3:cT K cd3 "is_list_up_to") (k3:kT K f3) (a4:aT K "marked" f4) (l4:lT K "marked" "marked" (top 5) f4 oc4 od4 an4 sq4 kV4 dc4 pm4 cd4 ct4) (g4:cT K cd4 "marked") (k4:kT K f4) (a5:aT K "place_stands" f5) (l5:lT K "place_stands" "place_stands" (top 14) f5 oc5 od5 an5 sq5 kV5 dc5 pm5 cd5 ct5) (g5:cT K cd5 "place_stands") (k5:kT K f5) (a6:aT K "tie_stands" f6) (l6:lT K "tie_stands" "tie_stands" (top 15) f6 oc6 od6 an6 sq6 kV6 dc6 pm6 cd6 ct6) (g6:cT K cd6 "tie_stands") (k6:kT K f6) (a7:aT K "look_at_places" f7) (l7:lT K "look_at_places" "look_at_places" (top 16) f7 oc7 od7 an7 sq7 kV7 dc7 pm7 cd7 ct7) (g7:cT K cd7 "look_at_places") (k7:kT K f7) (a8:aT K "look_at_ties" f8) (l8:lT K "look_at_ties" "look_at_ties" (top 17) f8 oc8 od8 an8 sq8 kV8 dc8 pm8 cd8 ct8) (g8:cT K cd8 "look_at_ties") (k8:kT K f8) (a9:aT K "look_at_web" f9) (l9:lT K "look_at_web" "look_at_web" (top 18) f9 oc9 od9 an9 sq9 kV9 dc9 pm9 cd9 ct9) (g9:cT K cd9 "look_at_web") (k9:kT K f9) (a10:aT K "is_place" f10) (l10:lT K "is_place" "is_place" (top 19) f10 oc10 od10 an10 sq10 kV10 dc10 pm10 cd10 ct10) (g10:cT K cd10 "is_place") (k10:kT K f10) (a11:aT K "are_places" f11) (l11:lT K "are_places" "are_places" (top 20) f11 oc11 od11 an11 sq11 kV11 dc11 pm11 cd11 ct11) (g11:cT K cd11 "are_places") (k11:kT K f11) (a12:aT K "nears_in" f12) (l12:lT K "nears_in" "nears_in" (top 21) f12 oc12 od12 an12 sq12 kV12 dc12 pm12 cd12 ct12) (g12:cT K cd12 "nears_in") (k12:kT K f12) (a13:aT K "halves_stand" f13) (l13:lT K "halves_stand" "halves_stand" (top 23) f13 oc13 od13 an13 sq13 kV13 dc13 pm13 cd13 ct13) (g13:cT K cd13 "halves_stand") (k13:kT K f13) (a14:aT K "is_due" f14) (l14:lT K "is_due" "is_due" (top 24) f14 oc14 od14 an14 sq14 kV14 dc14 pm14 cd14 ct14) (g14:cT K cd14 "is_due") (k14:kT K f14) (a15:aT K "due_at" f15) (l15:lT K "due_at" "due_at" (top 25) f15 oc15 od15 an15 sq15 kV15 dc15 pm15 cd15 ct15) (g15:cT K cd15 "due_at") (k15:kT K f15) (a16:aT K "dues_stand" f16) (l16:lT K "dues_stand" "dues_stand" (top 26) f16 oc16 od16 an16 sq16 kV16 dc16 pm16 cd16 ct16) (g16:cT K cd16 "dues_stand") (k16:kT K f16) (a17:aT K "cost_in_halves" f17) (l17:lT K "cost_in_halves" "cost_in_halves" (top 27) f17 oc17 od17 an17 sq17 kV17 dc17 pm17 cd17 ct17) (g17:cT K cd17 "cost_in_halves") (k17:kT K f17) (a18:aT K "paper_stands" f18) (l18:lT K "paper_stands" "paper_stands" (top 28) f18 oc18 od18 an18 sq18 kV18 dc18 pm18 cd18 ct18) (g18:cT K cd18 "paper_stands") (k18:kT K f18) (a19:aT K "loose_places" f19) (l19:lT K "loose_places" "loose_places" (top 31) f19 oc19 od19 an19 sq19 kV19 dc19 pm19 cd19 ct19) (g19:cT K cd19 "loose_places") (k19:kT K f19) (a20:aT K "tied_by_dues" f20) (l20:lT K "tied_by_dues" "tied_by_dues" (top 32) f20 oc20 od20 an20 sq20 kV20 dc20 pm20 cd20 ct20) (g20:cT K cd20 "tied_by_dues") (k20:kT K f20) (a21:aT K "is_link" f21) (l21:lT K "is_link" "is_link" (top 33) f21 oc21 od21 an21 sq21 kV21 dc21 pm21 cd21 ct21) (g21:cT K cd21 "is_link") (k21:kT K f21) (a22:aT K "chain_stands" f22) (l22:lT K "chain_stands" "chain_stands" (top 34) f22 oc22 od22 an22 sq22 kV22 dc22 pm22 cd22 ct22) (g22:cT K cd22 "chain_stands") (k22:kT K f22) (a23:aT K "lets_fixed" f23) (l23:lT K "lets_fixed" "lets_fixed" (top 35) f23 oc23 od23 an23 sq23 kV23 dc23 pm23 cd23 ct23) (g23:cT K cd23 "lets_fixed") (k23:kT K f23) (a24:aT K "_law_own" f24) (l24:lT K "_law_own" "_law_own" (top 37) f24 oc24 od24 an24 sq24 kV24 dc24 pm24 cd24 ct24) (g24:cT K cd24 "_law_own") (k24:kT K f24) (a25:aT K "_law_begun" f25) (l25:lT K "_law_begun" "_law_begun" (top 38) f25 oc25 od25 an25 sq25 kV25 dc25 pm25 cd25 ct25) (g25:cT K cd25 "_law_begun") (k25:kT K f25) (a26:aT K "_law_take" f26) (l26:lT K "_law_take" "_law_take" (top 39) f26 oc26 od26 an26 sq26 kV26 dc26 pm26 cd26 ct26) (g26:cT K cd26 "_law_take") (k26:kT K f26) (a27:aT K "_law_priced" f27) (l27:lT K "_law_priced" "_law_priced" (top 40) f27 oc27 od27 an27 sq27 kV27 dc27 pm27 cd27 ct27) (g27:cT K cd27 "_law_priced") (k27:kT K f27) (a28:aT K "_law_laid" f28) (l28:lT K "_law_laid" "_law_laid" (top 41) f28 oc28 od28 an28 sq28 kV28 dc28 pm28 cd28 ct28) (g28:cT K cd28 "_law_laid") (k28:kT K f28) (a29:aT K "_law_next" f29) (l29:lT K "_law_next" "_law_next" (top 42) f29 oc29 od29 an29 sq29 kV29 dc29 pm29 cd29 ct29) (g29:cT K cd29 "_law_next") (k29:kT K f29) (a30:aT K "_law_chain" f30) (l30:lT K "_law_chain" "_law_chain" (top 43) f30 oc30 od30 an30 sq30 kV30 dc30 pm30 cd30 ct30) (g30:cT K cd30 "_law_chain") (k30:kT K f30) (a31:aT K "_law_tuple" f31) (l31:lT K "_law_tuple" "_law_tuple" (top 44) f31 oc31 od31 an31 sq31 kV31 dc31 pm31 cd31 ct31) (g31:cT K cd31 "_law_tuple") (k31:kT K f31) (a32:aT K "_law_bent" f32) (l32:lT K "_law_bent" "_law_bent" (top 45) f32 oc32 od32 an32 sq32 kV32 dc32 pm32 cd32 ct32) (g32:cT K cd32 "_law_bent") (k32:kT K f32) (a33:aT K "_law_lets" f33) (l33:lT K "_law_lets" "_law_lets" (top 46) f33 oc33 od33 an33 sq33 kV33 dc33 pm33 cd33 ct33) (g33:cT K cd33 "_law_lets") (k33:kT K f33) (a34:aT K "_law_whole" f34) (l34:lT K "_law_whole" "_law_whole" (top 47) f34 oc34 od34 an34 sq34 kV34 dc34 pm34 cd34 ct34) (g34:cT K cd34 "_law_whole") (k34:kT K f34) (a35:aT K "_law_are_halves" f35) (l35:lT K "_law_are_halves" "_law_are_halves" (top 48) f35 oc35 od35 an35 sq35 kV35 dc35 pm35 cd35 ct35) (g35:cT K cd35 "_law_are_halves") (k35:kT K f35) (a36:aT K "_law_are_dues" f36) (l36:lT K "_law_are_dues" "_law_are_dues" (top 49) f36 oc36 od36 an36 sq36 kV36 dc36 pm36 cd36 ct36) (g36:cT K cd36 "_law_are_dues") (k36:kT K f36) (a37:aT K "_law_is_paper" f37) (l37:lT K "_law_is_paper" "_law_is_paper" (top 50) f37 oc37 od37 an37 sq37 kV37 dc37 pm37 cd37 ct37) (g37:cT K cd37 "_law_is_paper") (k37:kT K f37) (a38:aT K "_law_shifted" f38) (l38:lT K "_law_shifted" "_law_shifted" (top 51) f38 oc38 od38 an38 sq38 kV38 dc38 pm38 cd38 ct38) (g38:cT K cd38 "_law_shifted") (k38:kT K f38) (a39:aT K "_law_exchanged" f39) (l39:lT K "_law_exchanged" "_law_exchanged" (top 52) f39 oc39 od39 an39 sq39 kV39 dc39 pm39 cd39 ct39) (g39:cT K cd39 "_law_exchanged") (k39:kT K f39) (a40:aT K "_law_papers_right" f40) (l40:lT K "_law_papers_right" "_law_papers_right" (top 53) f40 oc40 od40 an40 sq40 kV40 dc40 pm40 cd40 ct40) (g40:cT K cd40 "_law_papers_right") (k40:kT K f40) (a41:aT K "law" f41) (l41:lT K "law" "law" (top 54) f41 oc41 od41 an41 sq41 kV41 dc41 pm41 cd41 ct41) (g41:cT K cd41 "law") (k41:kT K f41) (z_len:zT K "len") (z_isinstance:zT K "isinstance") (z_all:zT K "all") (z_min:zT K "min") (z_list:zT K "list") (z_dict:zT K "dict") (z_int:zT K "int") (z_bool:zT K "bool") (z_str:zT K "str") (z_tuple:zT K "tuple") (z_range:zT K "range") (z_enumerate:zT K "enumerate") (z_zip:zT K "zip") (z_max:zT K "max") (z_any:zT K "any") (z_sum:zT K "sum") (z_sorted:zT K "sorted") (z_set:zT K "set") (n_MOST_PLACES:PySem.W.nsIn K mainGlobals "MOST_PLACES" = some (some (.int 40 c1))) (n_MOST_TIES:PySem.W.nsIn K mainGlobals "MOST_TIES" = some (some (.int 120 c2))) (n_LAST_PLACE:PySem.W.nsIn K mainGlobals "LAST_PLACE" = some (some (.int 999 c3))) (n_MOST_PRICE:PySem.W.nsIn K mainGlobals "MOST_PRICE" = some (some (.int 1000000000000 c4))) (n_ML:PySem.W.nsIn K mainGlobals "MOST_LINKS" = some (some (.int 200 c5)))
 :∃ fd:FuncData,(∀ (s:Shared) (v:Value),BindsTo s fd ⟨[v],[]⟩ [("_law_script",v)])∧∀ base:Heap,K.In base→base.Ns mainGlobals mg→FnOk l.prog w K mg base CX0 9 fa fd ["_law_script"] (jqb K):=by
 have e:=hfa.symm.trans (PySem.W.mg_of X G a41)
 cases e
 have B:Blt mg:=⟨PySem.W.mg_none_of X G z_len,PySem.W.mg_none_of X G z_isinstance,PySem.W.mg_none_of X G z_all,PySem.W.mg_none_of X G z_min,PySem.W.mg_none_of X G z_list,PySem.W.mg_none_of X G z_dict,PySem.W.mg_none_of X G z_int,PySem.W.mg_none_of X G z_bool,PySem.W.mg_none_of X G z_str,PySem.W.mg_none_of X G z_tuple,PySem.W.mg_none_of X G z_range,PySem.W.mg_none_of X G z_enumerate,PySem.W.mg_none_of X G z_zip,PySem.W.mg_none_of X G z_max,PySem.W.mg_none_of X G z_any,PySem.W.mg_none_of X G z_sum,PySem.W.mg_none_of X G z_sorted,PySem.W.mg_none_of X G z_set⟩
 have C:Cst mg c1 c2 c3 c4:=⟨PySem.W.mg_of X G n_MOST_PLACES,PySem.W.mg_of X G n_MOST_TIES,PySem.W.mg_of X G n_LAST_PLACE,PySem.W.mg_of X G n_MOST_PRICE⟩
 have D_is_whole:=dmk X G a0 l0 g0 k0 ["thing"] ((jax l0 g0 k0).binds fun _ _ _ _ _ _ us hl=>match us,hl with | [_],_=>rfl)
 have D_is_tuple_of:=dmk X G a1 l1 g1 k1 ["thing","many"] ((jax l1 g1 k1).binds fun _ _ _ _ _ _ us hl=>match us,hl with | [_,_],_=>rfl)
 have D_is_pair_of_wholes:=dmk X G a2 l2 g2 k2 ["thing"] ((jax l2 g2 k2).binds fun _ _ _ _ _ _ us hl=>match us,hl with | [_],_=>rfl)
 have D_is_list_up_to:=dmk X G a3 l3 g3 k3 ["thing","most"] ((jax l3 g3 k3).binds fun _ _ _ _ _ _ us hl=>match us,hl with | [_,_],_=>rfl)
 have D_marked:=dmk X G a4 l4 g4 k4 ["places"] ((jax l4 g4 k4).binds fun _ _ _ _ _ _ us hl=>match us,hl with | [_],_=>rfl)
 have D_place_stands:=dmk X G a5 l5 g5 k5 ["thing","last","spent"] ((jax l5 g5 k5).binds fun _ _ _ _ _ _ us hl=>match us,hl with | [_,_,_],_=>rfl)
 have D_tie_stands:=dmk X G a6 l6 g6 k6 ["thing","last","prices"] ((jax l6 g6 k6).binds fun _ _ _ _ _ _ us hl=>match us,hl with | [_,_,_],_=>rfl)
 have D_look_at_places:=dmk X G a7 l7 g7 k7 ["places"] ((jax l7 g7 k7).binds fun _ _ _ _ _ _ us hl=>match us,hl with | [_],_=>rfl)
 have D_look_at_ties:=dmk X G a8 l8 g8 k8 ["ties","prices"] ((jax l8 g8 k8).binds fun _ _ _ _ _ _ us hl=>match us,hl with | [_,_],_=>rfl)
 have D_look_at_web:=dmk X G a9 l9 g9 k9 ["thing"] ((jax l9 g9 k9).binds fun _ _ _ _ _ _ us hl=>match us,hl with | [_],_=>rfl)
 have D_is_place:=dmk X G a10 l10 g10 k10 ["prices","thing"] ((jax l10 g10 k10).binds fun _ _ _ _ _ _ us hl=>match us,hl with | [_,_],_=>rfl)
 have D_are_places:=dmk X G a11 l11 g11 k11 ["prices","things"] ((jax l11 g11 k11).binds fun _ _ _ _ _ _ us hl=>match us,hl with | [_,_],_=>rfl)
 have D_nears_in:=dmk X G a12 l12 g12 k12 ["web"] ((jax l12 g12 k12).binds fun _ _ _ _ _ _ us hl=>match us,hl with | [_],_=>rfl)
 have D_halves_stand:=dmk X G a13 l13 g13 k13 ["web","thing"] ((jax l13 g13 k13).binds fun _ _ _ _ _ _ us hl=>match us,hl with | [_,_],_=>rfl)
 have D_is_due:=dmk X G a14 l14 g14 k14 ["thing"] ((jax l14 g14 k14).binds fun _ _ _ _ _ _ us hl=>match us,hl with | [_],_=>rfl)
 have D_due_at:=dmk X G a15 l15 g15 k15 ["dues"] ((jax l15 g15 k15).binds fun _ _ _ _ _ _ us hl=>match us,hl with | [_],_=>rfl)
 have D_dues_stand:=dmk X G a16 l16 g16 k16 ["web","thing"] ((jax l16 g16 k16).binds fun _ _ _ _ _ _ us hl=>match us,hl with | [_,_],_=>rfl)
 have D_cost_in_halves:=dmk X G a17 l17 g17 k17 ["web","halves"] ((jax l17 g17 k17).binds fun _ _ _ _ _ _ us hl=>match us,hl with | [_,_],_=>rfl)
 have D_paper_stands:=dmk X G a18 l18 g18 k18 ["web","thing"] ((jax l18 g18 k18).binds fun _ _ _ _ _ _ us hl=>match us,hl with | [_,_],_=>rfl)
 have D_loose_places:=dmk X G a19 l19 g19 k19 ["web","dues"] ((jax l19 g19 k19).binds fun _ _ _ _ _ _ us hl=>match us,hl with | [_,_],_=>rfl)
 have D_tied_by_dues:=dmk X G a20 l20 g20 k20 ["dues"] ((jax l20 g20 k20).binds fun _ _ _ _ _ _ us hl=>match us,hl with | [_],_=>rfl)
 have D_is_link:=dmk X G a21 l21 g21 k21 ["nears","thing"] ((jax l21 g21 k21).binds fun _ _ _ _ _ _ us hl=>match us,hl with | [_,_],_=>rfl)
 have D_chain_stands:=dmk X G a22 l22 g22 k22 ["web","dues","chain"] ((jax l22 g22 k22).binds fun _ _ _ _ _ _ us hl=>match us,hl with | [_,_,_],_=>rfl)
 have D_lets_fixed:=dmk X G a23 l23 g23 k23 ["web","thing"] ((jax l23 g23 k23).binds fun _ _ _ _ _ _ us hl=>match us,hl with | [_,_],_=>rfl)
 have D_law_own:=dmk X G a24 l24 g24 k24 ["_law_web"] ((jax l24 g24 k24).binds fun _ _ _ _ _ _ us hl=>match us,hl with | [_],_=>rfl)
 have D_law_begun:=dmk X G a25 l25 g25 k25 ["_law_script","_law_k"] ((jax l25 g25 k25).binds fun _ _ _ _ _ _ us hl=>match us,hl with | [_,_],_=>rfl)
 have D_law_take:=dmk X G a26 l26 g26 k26 ["_law_state","_law_many"] ((jax l26 g26 k26).binds fun _ _ _ _ _ _ us hl=>match us,hl with | [_,_],_=>rfl)
 have D_law_priced:=dmk X G a27 l27 g27 k27 ["_law_state","_law_hs","_law_raw"] ((jax l27 g27 k27).binds fun _ _ _ _ _ _ us hl=>match us,hl with | [_,_,_],_=>rfl)
 have D_law_laid:=dmk X G a28 l28 g28 k28 ["_law_state","_law_most"] ((jax l28 g28 k28).binds fun _ _ _ _ _ _ us hl=>match us,hl with | [_,_],_=>rfl)
 have D_law_next:=dmk X G a29 l29 g29 k29 ["_law_web","_law_dues","_law_chain_here"] ((jax l29 g29 k29).binds fun _ _ _ _ _ _ us hl=>match us,hl with | [_,_,_],_=>rfl)
 have D_law_chain:=dmk X G a30 l30 g30 k30 ["_law_state","_law_web","_law_dues","_law_most"] ((jax l30 g30 k30).binds fun _ _ _ _ _ _ us hl=>match us,hl with | [_,_,_,_],_=>rfl)
 have D_law_tuple:=dmk X G a31 l31 g31 k31 ["_law_state","_law_web","_law_one"] ((jax l31 g31 k31).binds fun _ _ _ _ _ _ us hl=>match us,hl with | [_,_,_],_=>rfl)
 have D_law_bent:=dmk X G a32 l32 g32 k32 ["_law_state","_law_web","_law_chain_here"] ((jax l32 g32 k32).binds fun _ _ _ _ _ _ us hl=>match us,hl with | [_,_,_],_=>rfl)
 have D_law_lets:=dmk X G a33 l33 g33 k33 ["_law_web","_law_dues","_law_chain_here"] ((jax l33 g33 k33).binds fun _ _ _ _ _ _ us hl=>match us,hl with | [_,_,_],_=>rfl)
 have D_law_whole:=dmk X G a34 l34 g34 k34 ["_law_thing"] ((jax l34 g34 k34).binds fun _ _ _ _ _ _ us hl=>match us,hl with | [_],_=>rfl)
 have D_law_are_halves:=dmk X G a35 l35 g35 k35 ["_law_web","_law_thing"] ((jax l35 g35 k35).binds fun _ _ _ _ _ _ us hl=>match us,hl with | [_,_],_=>rfl)
 have D_law_are_dues:=dmk X G a36 l36 g36 k36 ["_law_web","_law_thing"] ((jax l36 g36 k36).binds fun _ _ _ _ _ _ us hl=>match us,hl with | [_,_],_=>rfl)
 have D_law_is_paper:=dmk X G a37 l37 g37 k37 ["_law_web","_law_thing"] ((jax l37 g37 k37).binds fun _ _ _ _ _ _ us hl=>match us,hl with | [_,_],_=>rfl)
 have D_law_shifted:=dmk X G a38 l38 g38 k38 ["_law_state","_law_some"] ((jax l38 g38 k38).binds fun _ _ _ _ _ _ us hl=>match us,hl with | [_,_],_=>rfl)
 have D_law_exchanged:=dmk X G a39 l39 g39 k39 ["_law_state","_law_some"] ((jax l39 g39 k39).binds fun _ _ _ _ _ _ us hl=>match us,hl with | [_,_],_=>rfl)
 have D_law_papers_right:=dmk X G a40 l40 g40 k40 ["_law_state","_law_web","_law_halves","_law_dues","_law_chain_here"] ((jax l40 g40 k40).binds fun _ _ _ _ _ _ us hl=>match us,hl with | [_,_,_,_,_],_=>rfl)
 have D_law:=dmk X G a41 l41 g41 k41 ["_law_script"] ((jax l41 g41 k41).binds fun _ _ _ _ _ _ us hl=>match us,hl with | [_],_=>rfl)
 refine ⟨PySem.W.fnOf "law" "law" (jdu (top 54)) (jdj (top 54)) (jaf (top 54)) .none kV41 dc41 pm41 an41 cd41 ct41,fun s v=>.of_eq rfl,fun base _ _=>?_⟩
 have G_is_whole:=jl0 (P:=l.prog) (w:=w) (base:=base) B D_is_whole
 have G_is_tuple_of:=jhd (P:=l.prog) (w:=w) (base:=base) B D_is_tuple_of
 have G_is_pair_of_wholes:=je4 (P:=l.prog) (w:=w) (base:=base) B D_is_pair_of_wholes D_is_tuple_of G_is_tuple_of D_is_whole G_is_whole
 have GD_is_tuple_of:=jgu (P:=l.prog) (w:=w) (base:=base) B D_is_tuple_of
 have GD_is_pair_of_wholes:=jds (P:=l.prog) (w:=w) (base:=base) B D_is_pair_of_wholes D_is_tuple_of GD_is_tuple_of D_is_whole G_is_whole
 have G_is_list_up_to:=jfq (P:=l.prog) (w:=w) (base:=base) B D_is_list_up_to
 have G_marked:=jon (P:=l.prog) (w:=w) (base:=base) B D_marked
 have GI_marked:=jmp (P:=l.prog) (w:=w) (base:=base) B D_marked
 have G_place_stands:=jgm (P:=l.prog) (w:=w) (base:=base) B C D_place_stands D_is_pair_of_wholes G_is_pair_of_wholes
 have G_tie_stands:=jic (P:=l.prog) (w:=w) (base:=base) B D_tie_stands D_is_pair_of_wholes G_is_pair_of_wholes
 have G_look_at_places:=jf7 (P:=l.prog) (w:=w) (base:=base) B C D_look_at_places D_is_list_up_to G_is_list_up_to D_place_stands G_place_stands
 have G_look_at_ties:=jgp (P:=l.prog) (w:=w) (base:=base) B C D_look_at_ties D_is_list_up_to G_is_list_up_to D_tie_stands G_tie_stands
 have G_look_at_web:=jhb (P:=l.prog) (w:=w) (base:=base) B D_look_at_web D_is_tuple_of G_is_tuple_of D_look_at_places G_look_at_places D_look_at_ties G_look_at_ties
 have G_is_place:=jl1 (P:=l.prog) (w:=w) (base:=base) B D_is_place D_is_whole G_is_whole
 have G_are_places:=jig (P:=l.prog) (w:=w) (base:=base) B D_are_places D_is_place G_is_place
 have G_nears_in:=jku (P:=l.prog) (w:=w) (base:=base) B D_nears_in
 have G_halves_stand:=jgs (P:=l.prog) (w:=w) (base:=base) B D_halves_stand D_is_pair_of_wholes GD_is_pair_of_wholes
 have G_is_due:=joo (P:=l.prog) (w:=w) (base:=base) B D_is_due D_is_tuple_of GD_is_tuple_of D_is_whole G_is_whole
 have G_due_at:=jop (P:=l.prog) (w:=w) (base:=base) B D_due_at
 have G_dues_stand:=jif (P:=l.prog) (w:=w) (base:=base) B D_dues_stand D_is_due G_is_due D_marked G_marked D_due_at G_due_at
 have G_cost_in_halves:=jf9 (P:=l.prog) (w:=w) (base:=base) B D_cost_in_halves
 have G_paper_stands:=jgn (P:=l.prog) (w:=w) (base:=base) B D_paper_stands D_is_tuple_of GD_is_tuple_of D_halves_stand G_halves_stand D_dues_stand G_dues_stand D_cost_in_halves G_cost_in_halves
 have G_loose_places:=jgo (P:=l.prog) (w:=w) (base:=base) B D_loose_places D_due_at G_due_at
 have G_tied_by_dues:=jgl (P:=l.prog) (w:=w) (base:=base) B D_tied_by_dues
 have G_is_link:=jmo (P:=l.prog) (w:=w) (base:=base) B D_is_link D_are_places G_are_places
 have G_chain_stands:=jgt (P:=l.prog) (w:=w) (base:=base) B D_chain_stands D_is_list_up_to G_is_list_up_to D_nears_in G_nears_in D_loose_places G_loose_places D_marked GI_marked D_tied_by_dues G_tied_by_dues D_is_link G_is_link (PySem.W.mg_of X G n_ML)
 have G_lets_fixed:=jid (P:=l.prog) (w:=w) (base:=base) B D_lets_fixed D_look_at_web G_look_at_web D_is_tuple_of G_is_tuple_of D_paper_stands G_paper_stands D_chain_stands G_chain_stands
 have G_law_own:=jmn (P:=l.prog) (w:=w) (base:=base) B D_law_own
 have G_law_begun:=jjn (P:=l.prog) (w:=w) (base:=base) B D_law_begun
 have G_law_take:=jkv (P:=l.prog) (w:=w) (base:=base) B D_law_take
 have G_law_priced:=jie (P:=l.prog) (w:=w) (base:=base) B D_law_priced D_law_take G_law_take
 have G_law_laid:=jky (P:=l.prog) (w:=w) (base:=base) B D_law_laid D_law_take G_law_take D_law_priced G_law_priced
 have G_law_next:=jkw (P:=l.prog) (w:=w) (base:=base) B D_law_next
 have G_law_chain:=jjm (P:=l.prog) (w:=w) (base:=base) B D_law_chain D_law_take G_law_take D_law_next G_law_next
 have G_law_tuple:=jjl (P:=l.prog) (w:=w) (base:=base) B D_law_tuple D_law_take G_law_take
 have G_law_bent:=jkz (P:=l.prog) (w:=w) (base:=base) B D_law_bent D_law_take G_law_take D_law_tuple G_law_tuple
 have G_law_lets:=jkx (P:=l.prog) (w:=w) (base:=base) B D_law_lets D_law_next G_law_next
 have G_law_whole:=jjk (P:=l.prog) (w:=w) (base:=base) B D_law_whole
 have G_law_are_halves:=jf8 (P:=l.prog) (w:=w) (base:=base) B D_law_are_halves D_law_whole G_law_whole
 have G_law_are_dues:=jgr (P:=l.prog) (w:=w) (base:=base) B D_law_are_dues D_law_whole G_law_whole
 have G_law_is_paper:=jgq (P:=l.prog) (w:=w) (base:=base) B D_law_is_paper D_law_are_halves G_law_are_halves D_law_are_dues G_law_are_dues
 have G_law_shifted:=jhc (P:=l.prog) (w:=w) (base:=base) B D_law_shifted D_law_take G_law_take
 have G_law_exchanged:=jfp (P:=l.prog) (w:=w) (base:=base) B D_law_exchanged D_law_take G_law_take
 have G_law_papers_right:=jed (P:=l.prog) (w:=w) (base:=base) B D_law_papers_right D_law_shifted G_law_shifted D_law_exchanged G_law_exchanged D_law_is_paper G_law_is_paper D_law_lets G_law_lets D_lets_fixed G_lets_fixed D_law_own G_law_own
 exact ok_law B D_law D_law_begun G_law_begun D_law_laid G_law_laid D_law_chain G_law_chain D_law_lets G_law_lets D_lets_fixed G_lets_fixed D_law_own G_law_own D_law_bent G_law_bent D_law_papers_right G_law_papers_right
theorem walk {l:PySem.W.OpenLaw} {q:Program} {loose:List Str} {XP:(Str→Option Value)→Heap→Prop} {YP:World→Heap→Prop} {d:DefRec} {K:Params→PySem.W.Frag} (hn:l.most = some 63) (hdf:d.params.defaults = [])
  (hY:∀ (w:World) (h:Heap),YP w h→(K w.params).In h)
  (F:∀ (w:World) (mg:Str→Option Value) (fa:Addr) (h:Heap),(K w.params).In h→h.Ns mainGlobals mg→mg d.name = some (.ref fa) →
   ∃ fd:FuncData,(∀ (s:Shared) (u:Value),BindsTo s fd ⟨[u],[]⟩ [("_law_script",u)])∧∀ base:Heap,(K w.params).In base→base.Ns mainGlobals mg→FnOk l.prog w (K w.params) mg base CX0 9 fa fd ["_law_script"] (jqb (K w.params))) :
  PySem.W.WalkO q loose XP YP l.row.toRowW d [] (fun f vs=>PySem.call f vs) :=
 L2.jn6 (n:=63) (k:=9) (x:="_law_script") (CX:=fun _=>CX0) (sp:=fun w=>jqb (K w.params)) hn (by decide) hdf ⟨rfl,by decide,by decide,rfl⟩ hY F (fun _ _ a ns hl hO hS=>⟨a,ns,rfl,Scr.of hS hO,fun _=>rfl⟩) fun _ _ _ _ _ z=>z
end My
open PySem PySem.W PyProof.Rows
set_option maxRecDepth 100000 in
set_option maxHeartbeats 0 in
theorem PySem.Challenge.cw_touchall_k28_chains_let_by_holds : PySem.Challenge.rw_touchall_k28_chains_let_by.Holds := by
 refine MyHead ?_
 k_fill
 refine My.walk (l:=PySem.Challenge.rw_touchall_k28_chains_let_by) rfl rfl (fun w h Y=>PySem.W.kIn_of Y) ?F
 case F =>
  intro w mg fa h KX G hmg
  refine' My.all_mk KX G hmg ?_ ?_ ?_ ?_ ?_ ?_ ?_ ?_ ?_ ?_ ?_ ?_ ?_ ?_ ?_ ?_ ?_ ?_ ?_ ?_ ?_ ?_ ?_ ?_ ?_ ?_ ?_ ?_ ?_ ?_ ?_ ?_ ?_ ?_ ?_ ?_ ?_ ?_ ?_ ?_ ?_ ?_ ?_ ?_ ?_ ?_ ?_ ?_ ?_ ?_ ?_ ?_ ?_ ?_ ?_ ?_ ?_ ?_ ?_ ?_ ?_ ?_ ?_ ?_ ?_ ?_ ?_ ?_ ?_ ?_ ?_ ?_ ?_ ?_ ?_ ?_ ?_ ?_ ?_ ?_ ?_ ?_ ?_ ?_ ?_ ?_ ?_ ?_ ?_ ?_ ?_ ?_ ?_ ?_ ?_ ?_ ?_ ?_ ?_ ?_ ?_ ?_ ?_ ?_ ?_ ?_ ?_ ?_ ?_ ?_ ?_ ?_ ?_ ?_ ?_ ?_ ?_ ?_ ?_ ?_ ?_ ?_ ?_ ?_ ?_ ?_ ?_ ?_ ?_ ?_ ?_ ?_ ?_ ?_ ?_ ?_ ?_ ?_ ?_ ?_ ?_ ?_ ?_ ?_ ?_ ?_ ?_ ?_ ?_ ?_ ?_ ?_ ?_ ?_ ?_ ?_ ?_ ?_ ?_ ?_ ?_ ?_ ?_ ?_ ?_ ?_ ?_ ?_ ?_ ?_ ?_ ?_ ?_ ?_ ?_ ?_ ?_ ?_ ?_ ?_ ?_ ?_ ?_ ?_ ?_ ?_ ?_ ?_ ?_ ?_ ?_
  any_goals first | k_is | (delta My.aT; k_is) | (delta My.lT; k_is) | (delta My.cT; k_is) | (delta My.kT; k_is) | (delta My.zT; k_is) | kernel_rfl | rfl
#print axioms PySem.Challenge.cw_touchall_k28_chains_let_by_holds
